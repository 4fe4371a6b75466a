import PyProof.Rows.All
import Wide.All
import OpenK.AllK
import Wide.FinOn
import Lean
import PyProof.EqAt
import PyProof.EqKinds
import PyProof.TupleCall
import PyProof.NeKinds
import PyProof.ZipIter
import PyProof.ListRange
import PyProof.TupleOfSeq
import PyProof.ConsumeWalk
import PyProof.IsRules
import PyProof.SetKind
import PyProof.SetRoads
import PyProof.Rows.SetFrom
import PyProof.Draws
import PyProof.EnumMake
import PyProof.DictCompW
import PyProof.ListMulRoad
import PyProof.Rows.SeqMore2
import PySem.Challenge.RW_bringhome_k42_kept_or_not
set_option Elab.async false
set_option linter.all false
set_option maxRecDepth 100000
namespace L2
open PySem PySem.Spec PyProof.Rows

/-- a key: an int or a str -/
abbrev Key := Sum Int Str
def keyIs : Key → Value → Bool
  | .inl k, v => Value.isInt k v
  | .inr x, v => Value.isStrOf x v
def keyH (w : World) : Key → Int
  | .inl k => hashInt k
  | .inr x => hashStr w x
theorem keyIs_shape : ∀ {k : Key} {v : Value}, keyIs k v = true → (∃ i t, k = Sum.inl i ∧ v = Value.int i t) ∨ (∃ x t, k = Sum.inr x ∧ v = Value.str x t)
  | .inl i, v, h => by
    obtain ⟨t, e⟩ := Value.isInt_shape (k := i) (v := v) h
    exact .inl ⟨i, t, rfl, e⟩
  | .inr x, v, h => by
    obtain ⟨t, e⟩ := Value.isStrOf_shape (x := x) (v := v) h
    exact .inr ⟨x, t, rfl, e⟩
theorem keyIs_int (i : Int) (t : Tok) : keyIs (.inl i) (.int i t) = true := by simp [keyIs, Value.isInt]
theorem keyIs_str (x : Str) (t : Tok) : keyIs (.inr x) (.str x t) = true := by simp [keyIs, Value.isStrOf]
theorem key_ll (a b : Int) : decide ((Sum.inl a : Key) = Sum.inl b) = (a == b) := by
  by_cases e : a = b
  · subst e; simp
  · have h : ¬ (Sum.inl a : Key) = Sum.inl b := fun q => e (Sum.inl.inj q)
    rw [decide_eq_false h]
    exact (beq_eq_false_iff_ne.mpr e).symm
theorem key_rr (a b : Str) : decide ((Sum.inr a : Key) = Sum.inr b) = decide (a = b) := by
  by_cases e : a = b
  · subst e; simp
  · have h : ¬ (Sum.inr a : Key) = Sum.inr b := fun q => e (Sum.inr.inj q)
    rw [decide_eq_false h, decide_eq_false e]
theorem key_lr (a : Int) (b : Str) : decide ((Sum.inl a : Key) = Sum.inr b) = false := decide_eq_false (fun q => nomatch q)
theorem key_rl (a : Str) (b : Int) : decide ((Sum.inr a : Key) = Sum.inl b) = false := decide_eq_false (fun q => nomatch q)

def mixKind (prog : Program) (w : World) : PySem.KeyKind prog w Key where
  is := keyIs
  hash := keyH w
  inj := fun v a b ha hb => by
    rcases keyIs_shape ha with ⟨i, t, rfl, rfl⟩ | ⟨x, t, rfl, rfl⟩
    · rcases keyIs_shape hb with ⟨j, u, rfl, e⟩ | ⟨y, u, rfl, e⟩
      · injection e with e1 _; rw [e1]
      · exact nomatch e
    · rcases keyIs_shape hb with ⟨j, u, rfl, e⟩ | ⟨y, u, rfl, e⟩
      · exact nomatch e
      · injection e with e1 _; rw [e1]
  byValue := fun k v h => by
    rcases keyIs_shape h with ⟨i, t, rfl, rfl⟩ | ⟨x, t, rfl, rfl⟩ <;> rfl
  pyHash := fun hv h => by
    rcases keyIs_shape hv with ⟨i, t, rfl, rfl⟩ | ⟨x, t, rfl, rfl⟩
    · exact wpAny_pyHash_int h
    · exact wpAny_pyHash_str h
  eqBool := fun hu hv h => by
    rcases keyIs_shape hu with ⟨i, t, rfl, rfl⟩ | ⟨x, t, rfl, rfl⟩
    · rcases keyIs_shape hv with ⟨j, u, rfl, rfl⟩ | ⟨y, u, rfl, rfl⟩
      · rw [key_ll] at h; exact wpAny_eqBool_int h
      · rw [key_lr] at h; exact SeqAt.EqAt.int_str i t y u _ _ _ _ h
    · rcases keyIs_shape hv with ⟨j, u, rfl, rfl⟩ | ⟨y, u, rfl, rfl⟩
      · rw [key_rl] at h; exact SeqAt.EqAt.str_int x t j u _ _ _ _ h
      · rw [key_rr] at h; exact wpAny_eqBool_str h
  «strs» := fun k x t v h => by
    rcases keyIs_shape h with ⟨i, u, rfl, e⟩ | ⟨y, u, rfl, e⟩
    · exact nomatch e
    · injection e with e1 _
      subst e1
      cases v <;> rfl

theorem mixKind_int (prog : Program) (w : World) (i : Int) (t : Tok) : (mixKind prog w).is (.inl i) (.int i t) = true := keyIs_int i t
theorem mixKind_str (prog : Program) (w : World) (x : Str) (t : Tok) : (mixKind prog w).is (.inr x) (.str x t) = true := keyIs_str x t
end L2

namespace L2
open PySem PySem.Spec PyProof.Rows

/-- a value, without the heap -/
inductive V where
  | non | bl (b : Bool) | int (i : Int) | str (x : Str) | byt (b : Array UInt8) | flt (b : UInt64) | ref (a : Addr) | ty (n : String)
  deriving DecidableEq

def RelV : V → Value → Prop
  | .non, u => u = Value.none
  | .bl b, u => u = Value.bool b
  | .int i, u => ∃ t, u = Value.int i t
  | .str x, u => ∃ t, u = Value.str x t
  | .byt b, u => ∃ t, u = Value.bytes b t
  | .flt b, u => ∃ t, u = Value.float b t
  | .ref a, u => u = Value.ref a
  | .ty n, u => u = Value.type n

abbrev Vals : List V → List Value → Prop := Paired RelV
theorem Vals.length {xs : List V} {us : List Value} (r : Vals xs us) : xs.length = us.length := Paired.length r
theorem Vals.get : ∀ {xs : List V} {us : List Value} {i : Nat} {x : V}, Vals xs us → xs[i]? = some x → ∃ u, us[i]? = some u ∧ RelV x u
  | _, _, _, _, .nil, e => by simp at e
  | _, _, 0, _, .cons r _, e => by simp at e; subst e; exact ⟨_, rfl, r⟩
  | _, _, i + 1, x, .cons _ t, e => by
    obtain ⟨u, h1, h2⟩ := Vals.get (i := i) (x := x) t (by simpa using e)
    exact ⟨u, by simpa using h1, h2⟩
theorem Vals.set {x : V} {u : Value} (r : RelV x u) : ∀ {xs : List V} {us : List Value} (i : Nat), Vals xs us → Vals (xs.set i x) (us.set i u)
  | _, _, _, .nil => .nil
  | _, _, 0, .cons _ t => .cons r t
  | _, _, i + 1, .cons q t => .cons q (Vals.set r i t)
theorem Vals.append : ∀ {xs ys : List V} {us ws : List Value}, Vals xs us → Vals ys ws → Vals (xs ++ ys) (us ++ ws)
  | _, _, _, _, .nil, s => s
  | _, _, _, _, .cons r t, s => .cons r (Vals.append t s)
theorem Vals.take : ∀ {xs : List V} {us : List Value} (n : Nat), Vals xs us → Vals (xs.take n) (us.take n)
  | _, _, 0, _ => .nil
  | _, _, _ + 1, .nil => .nil
  | _, _, n + 1, .cons r t => .cons r (Vals.take n t)
theorem Vals.drop : ∀ {xs : List V} {us : List Value} (n : Nat), Vals xs us → Vals (xs.drop n) (us.drop n)
  | _, _, 0, r => r
  | _, _, _ + 1, .nil => .nil
  | _, _, n + 1, .cons _ t => Vals.drop n t
def RelO : Option V → Option Value → Prop
  | some v, some u => RelV v u
  | none, none => True
  | _, _ => False
def KV {κ : Type} : List (κ × V) → List (κ × Value) → Prop := Paired fun (p : κ × V) (q : κ × Value) => p.1 = q.1 ∧ RelV p.2 q.2

/-- a key of a dict (00_mix): an int or a text -/
def kV : Key → V
  | .inl i => .int i
  | .inr x => .str x

/-- what stands at a tracked address -/
inductive HO where
  /-- a list -/
  | lst (xs : List V)
  /-- a tuple (never changes) -/
  | tup (xs : List V)
  /-- a dict whose keys are ints and texts; one whose keys are tuples of ints and texts (the empty one is both) -/
  | dK (kvs : List (Key × V)) | dT (kvs : List (List Key × V))
  /-- a set of ints: its members, its size -/
  | set (S : Int → Bool) (n : Nat)
  /-- an instance of the class at C, its dict at dx, its attributes -/
  | ins (C dx : Addr) (fs : List (Str × V))
  /-- the dict of the instance at x -/
  | own (x : Addr)
  /-- the dict of an exception -/
  | xd (fs : List (Str × V))
  /-- a bound method, f of x -/
  | met (f x : Addr)
  /-- a range object lo, lo + 1, .. below hi -/
  | rng (lo hi : Int)
  /-- a thing that is known to the object (the script; a dict while a loop walks it): read, never written while it is so -/
  | frz (o : Obj) (u : HO)
  /-- a code object's table -/
  | tbl (ps : Array Value)
  /-- any other thing, by what is true of its one object (a def of one's own: SetO a S n := HO.ext fun h => ..) -/
  | ext (φ : Heap → Prop)

abbrev Hp := Addr → Option HO
def upd (H : Hp) (a : Addr) (o : HO) : Hp := fun b => if b = a then some o else H b
theorem upd_same {H : Hp} {a : Addr} {o : HO} : upd H a o a = some o := by unfold upd; rw [if_pos rfl]
theorem upd_ne {H : Hp} {a b : Addr} {o : HO} (h : b ≠ a) : upd H a o b = H b := by unfold upd; rw [if_neg h]
/-- two objects of different content stand apart -/
theorem ne_of {H : Hp} {a b : Addr} {o u : HO} (h : H a = some o) (h' : H b = some u) (d : o ≠ u) : a ≠ b := by
  intro e; subst e; rw [h] at h'; exact d (Option.some.inj h')
theorem ne_of_none {H : Hp} {a b : Addr} {o : HO} (h : H a = some o) (h' : H b = none) : a ≠ b := by
  intro e; subst e; rw [h] at h'; cases h'

def IsTupN (h : Heap) (a : Addr) (items : Array Value) : Prop := ∃ o, h.get? a = some o ∧ o.cls = .type "tuple" ∧ (∃ n, o.data = .seq items n) ∧ o.dict = none
theorem IsTupN.tup {h : Heap} {a : Addr} {items : Array Value} (x : IsTupN h a items) : IsTup h a items := let ⟨o, e, c, d, _⟩ := x; ⟨o, e, c, d⟩
theorem IsTupN.lt {h : Heap} {a : Addr} {items : Array Value} (x : IsTupN h a items) : a < h.objs.size := let ⟨_, e, _⟩ := x; Heap.lt_size e
theorem IsTupN.typeIs {s : Shared} {a : Addr} {items : Array Value} (x : IsTupN s.heap a items) : s.TypeIs (.ref a) "tuple" := let ⟨o, e, c, _⟩ := x; ⟨o, e, c⟩
theorem IsTupN.new (h : Heap) (items : Array Value) : IsTupN (h.push { cls := .type "tuple", data := .seq items }) h.objs.size items := ⟨_, Heap.get?_push_size _ rfl, rfl, ⟨_, rfl⟩, rfl⟩
section
variable (P : Program) (w : World)
def ObjOk (H : Hp) (h : Heap) (a : Addr) : HO → Prop
  | .lst xs => xs.length ≤ sizeLine ∧ ∃ (its : List Value) (n : Nat), Vals xs its ∧ h.get? a = some { cls := .type "list", data := .seq its.toArray n }
  | .tup xs => xs.length ≤ sizeLine ∧ ∃ its : List Value, Vals xs its ∧ IsTupN h a its.toArray
  | .dK kvs => kvs.length ≤ sizeLine ∧ (a == sysModules) = false ∧ ∃ vs, KV kvs vs ∧ h.DictOf (mixKind P w) a vs
  | .dT kvs => kvs.length ≤ sizeLine ∧ (a == sysModules) = false ∧ ∃ xs : List (List Key × Addr × Value),
      Paired (fun (p : List Key × V) (q : List Key × Addr × Value) => p.1 = q.1 ∧ H q.2.1 = some (.tup (p.1.map kV)) ∧ RelV p.2 q.2.2) kvs xs ∧
      ∃ o es ep, h.get? a = some o ∧ o.ExactDict ∧ o.data = .dict es ep ∧ es.toList = xs.map (entryOfKey (tupleKind (mixKind P w))) ∧ (xs.map (·.1)).Nodup
  | .set S n => h.SetOf (intKind P w) a S n
  | .ins C dx fs => H dx = some (.own a) ∧ fs.length ≤ 1000 ∧ dx ≠ a ∧ h.get? a = some (PySem.W.instObj C dx) ∧
      ∃ mA, h.Ns1 dx mA ∧ (∀ f, RelO (fs.lookup f) (mA f)) ∧ PySem.Within mA (fs.map (·.1))
  | .own _ => ∃ o, h.get? a = some o
  | .xd fs => ∃ mA, h.Ns1 a mA ∧ ∀ f, RelO (fs.lookup f) (mA f)
  | .rng lo hi => ∃ t u v, h.get? a = some { cls := .type "range", data := .fields #[.int lo t, .int hi u, .int 1 v] }
  | .frz o u => h.get? a = some o ∧ ObjOk H h a u
  | .tbl ps => h.get? a = some { cls := .none, data := .fields ps }
  | .met f x => h.get? a = some (PySem.W.methodObj (.ref f) (.ref x))
  | .ext φ => φ h ∧ (∃ o, h.get? a = some o) ∧ ∀ h1 h2 : Heap, φ h1 → (∀ o, h1.get? a = some o → h2.get? a = some o) → φ h2
/-- the abstract heap is held -/
def HOk (H : Hp) (h : Heap) : Prop := ∀ a o, H a = some o → ObjOk P w H h a o
end

section
variable {P : Program} {w : World} {H H' : Hp} {h h' : Heap} {a : Addr} {o : HO}
theorem ObjOk.lt (x : ObjOk P w H h a o) : a < h.objs.size := by
  cases o with
  | lst xs => obtain ⟨_, _, _, _, e⟩ := x; exact Heap.lt_size e
  | tup xs => obtain ⟨_, _, _, p⟩ := x; exact p.lt
  | dK kvs => obtain ⟨_, _, _, _, o, _, _, e, _⟩ := x; exact Heap.lt_size e
  | dT kvs => obtain ⟨_, _, _, _, o, _, _, e, _⟩ := x; exact Heap.lt_size e
  | set S n => obtain ⟨o, _, _, _, e, _⟩ := x; exact Heap.lt_size e
  | ins C dx fs => obtain ⟨_, _, _, e, _⟩ := x; exact Heap.lt_size e
  | own y => obtain ⟨_, e⟩ := x; exact Heap.lt_size e
  | xd fs => obtain ⟨_, ⟨_, _, _, e, _⟩, _⟩ := x; exact Heap.lt_size e
  | rng lo hi => obtain ⟨_, _, _, e⟩ := x; exact Heap.lt_size e
  | frz ob u => obtain ⟨e, _⟩ := x; exact Heap.lt_size e
  | tbl ps => exact Heap.lt_size (show h.get? a = some _ from x)
  | met f y => exact Heap.lt_size (show h.get? a = some _ from x)
  | ext φ => obtain ⟨_, ⟨_, e⟩, _⟩ := x; exact Heap.lt_size e
theorem Paired.mapP {α β : Type} {F G : α → β → Prop} : ∀ {l₁ : List α} {l₂ : List β}, Paired F l₁ l₂ → (∀ a b, F a b → G a b) → Paired G l₁ l₂
  | _, _, .nil, _ => .nil
  | _, _, .cons r t, f => .cons (f _ _ r) (Paired.mapP t f)
/-- what an object's description leans on: its own object, its own dict, the tuples -/
theorem ObjOk.stay (x : ObjOk P w H h a o) (k : ∀ b u, (b = a ∨ H b = some (.own a)) → h.get? b = some u → h'.get? b = some u)
    (ho : ∀ b, H b = some (.own a) → H' b = some (.own a)) (ht : ∀ b xs, H b = some (.tup xs) → H' b = some (.tup xs)) : ObjOk P w H' h' a o := by
  induction o with
  | lst xs => obtain ⟨z, its, n, r, e⟩ := x; exact ⟨z, its, n, r, k _ _ (.inl rfl) e⟩
  | tup xs => obtain ⟨z, its, r, ob, e, c⟩ := x; exact ⟨z, its, r, ob, k _ _ (.inl rfl) e, c⟩
  | dK kvs => obtain ⟨z, y, vs, r, ob, es, ep, e, c⟩ := x; exact ⟨z, y, vs, r, ob, es, ep, k _ _ (.inl rfl) e, c⟩
  | dT kvs =>
    obtain ⟨z, y, xs, r, ob, es, ep, e, c⟩ := x
    exact ⟨z, y, xs, Paired.mapP r fun p q z => ⟨z.1, ht _ _ z.2.1, z.2.2⟩, ob, es, ep, k _ _ (.inl rfl) e, c⟩
  | set S n => obtain ⟨ob, es, ep, t, e, c⟩ := x; exact ⟨ob, es, ep, t, k _ _ (.inl rfl) e, c⟩
  | ins C dx fs =>
    obtain ⟨d, z, ne, e, mA, ⟨od, es, ep, e2, c⟩, r⟩ := x
    exact ⟨ho _ d, z, ne, k _ _ (.inl rfl) e, mA, ⟨od, es, ep, k _ _ (.inr d) e2, c⟩, r⟩
  | own y => obtain ⟨ob, e⟩ := x; exact ⟨ob, k _ _ (.inl rfl) e⟩
  | xd fs => obtain ⟨mA, ⟨od, es, ep, e, c⟩, r⟩ := x; exact ⟨mA, ⟨od, es, ep, k _ _ (.inl rfl) e, c⟩, r⟩
  | rng lo hi => obtain ⟨t, u, v, e⟩ := x; exact ⟨t, u, v, k _ _ (.inl rfl) e⟩
  | frz ob u ih => obtain ⟨e, q⟩ := x; exact ⟨k _ _ (.inl rfl) e, ih q⟩
  | tbl ps =>
    have e : h.get? a = some { cls := .none, data := .fields ps } := x
    show h'.get? a = some { cls := .none, data := .fields ps }
    exact k a _ (.inl rfl) e
  | met f y =>
    have e : h.get? a = some (PySem.W.methodObj (.ref f) (.ref y)) := x
    show h'.get? a = some (PySem.W.methodObj (.ref f) (.ref y))
    exact k a _ (.inl rfl) e
  | ext φ => obtain ⟨p, ⟨o, e⟩, st⟩ := x; exact ⟨st _ _ p fun o q => k _ _ (.inl rfl) q, ⟨o, k _ _ (.inl rfl) e⟩, st⟩
theorem HOk.lt (x : HOk P w H h) (e : H a = some o) : a < h.objs.size := (x a o e).lt
theorem HOk.fresh (x : HOk P w H h) (e : h.objs.size ≤ a) : H a = none := by
  cases q : H a with
  | none => rfl
  | some u => exact absurd (Nat.lt_of_lt_of_le (x.lt q) e) (Nat.lt_irrefl _)
/-- every object of the heap is kept -/
theorem HOk.kept (x : HOk P w H h) (k : ∀ b u, h.get? b = some u → h'.get? b = some u) : HOk P w H h' := fun a o e =>
  (x a o e).stay (fun b u _ q => k b u q) (fun _ q => q) fun _ _ q => q
/-- a new object is laid and tracked -/
theorem HOk.laid (x : HOk P w H h) (k : ∀ b u, h.get? b = some u → h'.get? b = some u) (hp : h.objs.size ≤ a) (new : ObjOk P w (upd H a o) h' a o) : HOk P w (upd H a o) h' := fun b u e => by
  have hn := x.fresh hp
  by_cases hb : b = a
  · subst hb; rw [upd_same] at e; cases e; exact new
  · rw [upd_ne hb] at e
    exact (x b u e).stay (fun c v _ q => k c v q) (fun c q => by rw [upd_ne (ne_of_none q hn)]; exact q) fun c xs q => by rw [upd_ne (ne_of_none q hn)]; exact q
end

/-- what may be read as u: it is u, or a known u -/
def Rd (H : Hp) (a : Addr) (u : HO) : Prop := H a = some u ∨ ∃ o, H a = some (.frz o u)
theorem Rd.of {H : Hp} {a : Addr} {u : HO} (h : H a = some u) : Rd H a u := .inl h
theorem Rd.ok {P : Program} {w : World} {H : Hp} {h : Heap} {a : Addr} {u : HO} (r : Rd H a u) (x : HOk P w H h) : ObjOk P w H h a u := by
  rcases r with r | ⟨o, r⟩
  · exact x a u r
  · obtain ⟨_, q⟩ := x a _ r
    exact q
/-- what may be written -/
def Mut : Option HO → Prop
  | some (.lst _) => True
  | some (.dK _) => True
  | some (.dT _) => True
  | some (.set _ _) => True
  | some (.ins _ _ _) => True
  | some (.ext _) => True
  | _ => False
section
variable {P : Program} {w : World} {H : Hp} {h h' : Heap} {x e : Addr} {o' : HO}
/-- the object at e is changed: x itself, or the dict of the instance x -/
theorem HOk.write (ok : HOk P w H h) (mu : Mut (H x)) (he : e = x ∨ H e = some (.own x)) (k : ∀ b u, b ≠ e → h.get? b = some u → h'.get? b = some u) (heo : ∃ u, h'.get? e = some u)
    (new : ObjOk P w (upd H x o') h' x o') : HOk P w (upd H x o') h' := fun b u q => by
  have nown : ∀ c y, H c = some (.own y) → c ≠ x := fun c y r z => by subst z; rw [r] at mu; exact mu
  have ntup : ∀ c xs, H c = some (.tup xs) → c ≠ x := fun c xs r z => by subst z; rw [r] at mu; exact mu
  by_cases hb : b = x
  · subst hb; rw [upd_same] at q; cases q; exact new
  · rw [upd_ne hb] at q
    by_cases hbe : b = e
    · have q' : H b = some (.own x) := by
        rcases he with z | z
        · exact absurd (hbe.trans z) hb
        · rw [hbe]; exact z
      rw [q] at q'; cases q'
      obtain ⟨v, hv⟩ := heo
      exact ⟨v, by rw [hbe]; exact hv⟩
    · refine (ok b u q).stay (fun c v hc r => k c v ?_ r) (fun c r => by rw [upd_ne (nown c b r)]; exact r) fun c xs r => by rw [upd_ne (ntup c xs r)]; exact r
      rcases hc with rfl | hc
      · exact hbe
      · rintro rfl
        rcases he with z | z
        · exact nown c b hc z
        · rw [hc] at z; cases z; exact hb rfl
end

structure Un (fs ex : List Addr) (H H' : Hp) (h h' : Heap) : Prop where
  keep : ∀ b o, h.get? b = some o → H b = none → b ∉ fs → b ∉ ex → h'.get? b = some o
  slot : ∀ b o, h.get? b = some o → H b = none → b ∈ fs → b ∉ ex → ∃ sl, h'.get? b = some { o with slots := sl }
  free : ∀ b o, h.get? b = some o → H b = none → b ∉ ex → H' b = none
  there : ∀ b o, h.get? b = some o → b ∉ ex → ∃ o', h'.get? b = some o'
  tups : ∀ b xs, H b = some (.tup xs) → H' b = some (.tup xs)
  frzs : ∀ b o u, H b = some (.frz o u) → H' b = some (.frz o u)
  tbls : ∀ b ps, H b = some (.tbl ps) → ∃ more, H' b = some (.tbl (ps ++ more))
section
variable {fs fs' ex ex' : List Addr} {H H1 H2 : Hp} {h h1 h2 h' : Heap} {a x e : Addr} {o : HO}
theorem Un.any (u : Un fs ex H H1 h h1) {b : Addr} {ob : Obj} (q : h.get? b = some ob) (n : H b = none) (hx : b ∉ ex) : ∃ sl, h1.get? b = some { ob with slots := sl } := by
  by_cases hb : b ∈ fs
  · exact u.slot b ob q n hb hx
  · exact ⟨ob.slots, u.keep b ob q n hb hx⟩
theorem Un.trans (a : Un fs ex H H1 h h1) (b : Un fs ex H1 H2 h1 h2) : Un fs ex H H2 h h2 where
  keep := fun c ob q n hc hx => b.keep c ob (a.keep c ob q n hc hx) (a.free c ob q n hx) hc hx
  slot := fun c ob q n hc hx => by
    obtain ⟨sl, e1⟩ := a.slot c ob q n hc hx
    obtain ⟨sl', e2⟩ := b.slot c _ e1 (a.free c ob q n hx) hc hx
    exact ⟨sl', e2⟩
  free := fun c ob q n hx => by
    obtain ⟨o', e1⟩ := a.there c ob q hx
    exact b.free c o' e1 (a.free c ob q n hx) hx
  there := fun c ob q hx => by
    obtain ⟨o', e1⟩ := a.there c ob q hx
    exact b.there c o' e1 hx
  tups := fun c xs q => b.tups c xs (a.tups c xs q)
  frzs := fun c ob xs q => b.frzs c ob xs (a.frzs c ob xs q)
  tbls := fun c ps q => by
    obtain ⟨m1, e1⟩ := a.tbls c ps q
    obtain ⟨m2, e2⟩ := b.tbls c _ e1
    exact ⟨m1 ++ m2, by rw [e2, Array.append_assoc]⟩
theorem Un.kept (k : ∀ b u, h.get? b = some u → h'.get? b = some u) : Un fs ex H H h h' :=
  ⟨fun b ob q _ _ _ => k b ob q, fun b ob q _ _ _ => ⟨ob.slots, k b ob q⟩, fun _ _ _ n _ => n, fun b ob q _ => ⟨ob, k b ob q⟩, fun _ _ q => q, fun _ _ _ q => q, fun _ ps q => ⟨#[], by rw [q]; simp⟩⟩
theorem Un.refl : Un fs ex H H h h := Un.kept fun _ _ q => q
theorem Un.laid (k : ∀ b u, h.get? b = some u → h'.get? b = some u) (hp : h.objs.size ≤ a) (hn : H a = none) : Un fs ex H (upd H a o) h h' where
  keep := fun b u q _ _ _ => k b u q
  slot := fun b u q _ _ _ => ⟨u.slots, k b u q⟩
  free := fun b u q n _ => by rw [upd_ne (Nat.ne_of_lt (Nat.lt_of_lt_of_le (Heap.lt_size q) hp))]; exact n
  there := fun b u q _ => ⟨u, k b u q⟩
  tups := fun b xs q => by rw [upd_ne (ne_of_none q hn)]; exact q
  frzs := fun b u xs q => by rw [upd_ne (ne_of_none q hn)]; exact q
  tbls := fun b ps q => ⟨#[], by rw [upd_ne (ne_of_none q hn), q]; simp⟩
theorem Un.write (mu : Mut (H x)) (he : e = x ∨ H e = some (.own x)) (k : ∀ b u, b ≠ e → h.get? b = some u → h'.get? b = some u) (heo : ∃ u, h'.get? e = some u) : Un fs ex H (upd H x o) h h' := by
  have hx : ∀ b, H b = none → b ≠ x := fun b n z => by subst z; rw [n] at mu; exact mu
  have hb : ∀ b, H b = none → b ≠ e := fun b n z => by
    subst z
    rcases he with r | r
    · exact hx b n r
    · rw [n] at r; cases r
  have hm : ∀ b u, H b = some u → ¬ Mut (some u) → b ≠ x := fun b u q nm z => by subst z; rw [q] at mu; exact nm mu
  refine ⟨fun b u q n _ _ => k b u (hb b n) q, fun b u q n _ _ => ⟨u.slots, k b u (hb b n) q⟩, fun b u q n _ => by rw [upd_ne (hx b n)]; exact n, fun b u q _ => ?_,
    fun b xs q => by rw [upd_ne (hm b _ q fun z => z)]; exact q, fun b u xs q => by rw [upd_ne (hm b _ q fun z => z)]; exact q, fun b ps q => ⟨#[], by rw [upd_ne (hm b _ q fun z => z), q]; simp⟩⟩
  by_cases hbe : b = e
  · subst hbe; exact heo
  · exact ⟨u, k b u hbe q⟩
theorem Un.mono (u : Un fs ex H H1 h h1) (hs : ∀ b ∈ fs, b ∈ fs') (hx : ∀ b ∈ ex, b ∈ ex') : Un fs' ex' H H1 h h1 :=
  ⟨fun b ob q n hb he => u.keep b ob q n (fun z => hb (hs b z)) fun z => he (hx b z), fun _ _ q n _ he => u.any q n fun z => he (hx _ z), fun b ob q n he => u.free b ob q n fun z => he (hx b z), fun b ob q he => u.there b ob q fun z => he (hx b z), u.tups, u.frzs, u.tbls⟩
end

def trk (h : Heap) (H : Hp) : List Addr := (List.range h.objs.size).filter fun a => (H a).isSome
def hidT (h : Heap) (H : Hp) : Heap := PySem.W.hideAll h (trk h H)
theorem hidT_size (h : Heap) (H : Hp) : (hidT h H).objs.size = h.objs.size := PySem.W.hideAll_size _ _
theorem hidT_get {h : Heap} {H : Hp} {b : Addr} {o : Obj} (e : h.get? b = some o) (n : H b = none) : (hidT h H).get? b = some o :=
  PySem.W.hideAll_get _ e fun hm => by
    have q : (H b).isSome = true := (List.mem_filter.mp hm).2
    rw [n] at q; simp at q
theorem of_hidT {h : Heap} {H : Hp} {b : Addr} {o : Obj} (e : (hidT h H).get? b = some o) : h.get? b = some o ∧ H b = none := by
  have e' : h.get? b = some o := PySem.W.of_hideAll (trk h H) e
  refine ⟨e', ?_⟩
  cases q : H b with
  | none => rfl
  | some x =>
    have hm : b ∈ trk h H := List.mem_filter.mpr ⟨List.mem_range.mpr (Heap.lt_size e'), by simp [q]⟩
    have z : (hidT h H).get? b = none := PySem.W.hideAll_none (trk h H) hm
    rw [z] at e; cases e

def allNews (g h : Heap) (L : Addr) : List (Addr × Obj) := (List.range h.objs.size).filterMap fun a => if a = L ∨ (g.get? a).isSome = true then none else (h.get? a).map fun o => (a, o)
def rest (g h : Heap) (L d : Addr) : List (Addr × Obj) := (allNews g h L).filter fun p => decide (p.1 ≠ d)
end L2

namespace L2
open PySem PySem.Spec PyProof.Rows

/-- the module's facts, over the base: the heap at the law's entry without what is tracked there -/
structure Mod (K : PySem.W.Frag) (mg : Str → Option Value) (base : Heap) : Prop where
  kin : K.In base
  glob : base.Ns mainGlobals mg
  blt : ∃ mb, base.Ns builtinsNs mb ∧ ∀ x : Str, x ≠ "__name__" → mb x = bootBuiltins x
  nolimit : base.NoLimit

/-- the context: a def's body (or a comprehension's block) running. base: fixed through the whole law; s₀, H₀: the entry; outer: the frames whose slots others may change (a def's callers); stack: all frames that run;
   ex: iterators that were made ahead of the entry and are walked here (a comprehension's); fn: the names whose cells were made at the entry (a def: all; a comprehension's block: its own); calm: not within an except suite; pn: pins that every state bears; xe: what is wanted of an exception that leaves the code -/
structure Cx where
  prog : Program
  w : World
  K : PySem.W.Frag
  mg : Str → Option Value
  base : Heap
  A : Around
  N : List Str
  s₀ : Shared
  H₀ : Hp
  env : Env
  outer : List Env
  stack : List Env
  ex : List Addr
  fn : Str → Bool
  calm : Bool
  pn : List (Addr × Obj)
  xe : Value → Shared → Prop
/-- the callers' frames -/
def frs (l : List Env) : List Addr := l.filterMap (·.frame)
abbrev Cx.fs (X : Cx) : List Addr := frs X.outer

def Vis (sc : Scope) (x : Str) : Prop := sc.names.lookup x = some .local ∨ sc.names.lookup x = some .cell ∨ sc.names.lookup x = some .free
def Loc (sc : Scope) (x : Str) : Prop := sc.names.lookup x = some .local ∨ sc.names.lookup x = some .cell
def Look (env : Env) (h : Heap) (m : Str → Option Value) (x : Str) (u : Value) : Prop :=
  (env.kindOf x = some .local ∧ m x = some u) ∨ ((env.kindOf x = some .cell ∨ env.kindOf x = some .free) ∧ ∃ c, env.cells.lookup x = some c ∧ h.IsCell c (some u))

structure Cx.Ok (X : Cx) : Prop where
  mod : Mod X.K X.mg X.base
  kind : X.env.scope.kind = .function
  glob : X.env.globals = mainGlobals
  blt : X.env.builtins = builtinsNs
  above : X.s₀.heap.objs.size ≤ X.env.locals
  inj : ∀ x y c, X.env.cells.lookup x = some c → X.env.cells.lookup y = some c → x = y
  has : ∀ x, (X.env.kindOf x = some .cell ∨ X.env.kindOf x = some .free) → ∃ c, X.env.cells.lookup x = some c
  cab : ∀ x c, X.fn x = true → X.env.cells.lookup x = some c → X.s₀.heap.objs.size ≤ c
  hd : X.calm = true → X.A.handled = none
  frames : X.A.frames = some X.stack
  stk : X.stack = X.outer ∨ (X.stack = X.env :: X.outer ∧ X.env.frame = some X.env.locals)
  exf : ∀ b ∈ X.ex, b ≠ X.env.locals ∧ ∀ x c, X.env.cells.lookup x = some c → c ≠ b
  bs : ∀ b o, X.base.get? b = some o → X.s₀.heap.get? b = some o ∧ X.H₀ b = none
  bsz : X.base.objs.size ≤ X.s₀.heap.objs.size
  noex : ∀ b o, X.base.get? b = some o → b ∉ X.ex
  exfs : ∀ b ∈ X.ex, b ∉ X.fs
  funs : X.s₀.heap.FunFrames X.base X.outer
  frf : ∀ b ∈ X.fs, X.H₀ b = none

structure Inv (X : Cx) (pins : List (Addr × Obj)) (σ : List (Option V)) (H : Hp) (s : Shared) : Prop where
  ok : X.Ok
  os : s.os = X.s₀.os
  bare : AllBare s.gens
  base : Un X.fs X.ex X.H₀ H X.s₀.heap s.heap
  loc : ∃ m, s.heap.Ns X.env.locals m ∧ ∀ (i : Nat) (x : Str) (v : V), X.N[i]? = some x → σ[i]? = some (some v) → Vis X.env.scope x → ∃ u, RelV v u ∧ Look X.env s.heap m x u
  cell : ∀ x c, X.env.cells.lookup x = some c → ∃ v, s.heap.IsCell c v
  free : H X.env.locals = none
  freeC : ∀ x c, X.env.cells.lookup x = some c → H c = none
  pin : ∀ p ∈ X.pn ++ pins, s.heap.get? p.1 = some p.2 ∧ H p.1 = none ∧ p.1 ≠ X.env.locals ∧ p.1 ∉ X.fs ∧ ∀ v, p.2.data ≠ .cell v
  hok : HOk X.prog X.w H s.heap
  len : σ.length = X.N.length

section
variable {X : Cx} {pins : List (Addr × Obj)} {σ : List (Option V)} {H H' : Hp} {s : Shared} {h' : Heap}

theorem Cx.Ok.nofr (ok : X.Ok) {b : Addr} {o : Obj} (e : X.base.get? b = some o) : b ∉ X.fs := fun hb => by
  have := (ok.funs.mem hb).1
  rw [e] at this; cases this
theorem Inv.bs (I : Inv X pins σ H s) : ∀ b o, X.base.get? b = some o → s.heap.get? b = some o ∧ H b = none := fun b o e =>
  ⟨I.base.keep b o (I.ok.bs b o e).1 (I.ok.bs b o e).2 (I.ok.nofr e) (I.ok.noex b o e), I.base.free b o (I.ok.bs b o e).1 (I.ok.bs b o e).2 (I.ok.noex b o e)⟩
theorem Inv.bk (I : Inv X pins σ H s) : ∀ b o, X.base.get? b = some o → s.heap.get? b = some o := fun b o e => (I.bs b o e).1
theorem Inv.mod (I : Inv X pins σ H s) : Mod X.K X.mg X.base := I.ok.mod
theorem Inv.kIn (I : Inv X pins σ H s) : X.K.In s.heap := I.ok.mod.kin.keeps I.bk
theorem Inv.nolimit (I : Inv X pins σ H s) : s.heap.NoLimit := I.ok.mod.nolimit.keeps I.bk
/-- the frame over the base: for OpenK's rules (K.In X.base is I.mod.kin) -/
theorem Inv.fr (I : Inv X pins σ H s) : ∃ m, Fr X.base X.env.locals s.heap m :=
  let ⟨m, hn, _⟩ := I.loc
  ⟨m, hn, I.bk, Nat.le_trans I.ok.bsz I.ok.above⟩
theorem Inv.lt (I : Inv X pins σ H s) : X.env.locals < s.heap.objs.size := let ⟨_, hn, _⟩ := I.loc; hn.lt
theorem Inv.sz (I : Inv X pins σ H s) : X.s₀.heap.objs.size ≤ s.heap.objs.size := Nat.le_trans I.ok.above (Nat.le_of_lt I.lt)
theorem Inv.nofs (I : Inv X pins σ H s) {a : Addr} (h : s.heap.objs.size ≤ a) : a ∉ X.fs := fun hb => by
  obtain ⟨_, o, ho, _⟩ := I.ok.funs.mem hb
  exact absurd (Nat.lt_of_lt_of_le (Heap.lt_size ho) (Nat.le_trans I.sz h)) (Nat.lt_irrefl _)
theorem Inv.cne (I : Inv X pins σ H s) : ∀ x c, X.env.cells.lookup x = some c → c ≠ X.env.locals := fun x c e z => by
  obtain ⟨v, o, ho, hd⟩ := I.cell x c e
  obtain ⟨m, ⟨o', es, ep, ho', hd', _⟩, _⟩ := I.loc
  rw [z, ho'] at ho; cases ho; rw [hd'] at hd; cases hd
theorem Inv.funs (I : Inv X pins σ H s) : s.heap.FunFrames X.base X.outer := by
  have all : ∀ (l : List Env), (∀ b ∈ frs l, b ∈ X.fs) → X.s₀.heap.FunFrames X.base l → s.heap.FunFrames X.base l := by
    intro l
    induction l with
    | nil => intro _ _; trivial
    | cons env r ih =>
      intro hs hl
      obtain ⟨hk, ⟨L, o, hf, hn, ho, hd⟩, hr⟩ := hl
      have hL : L ∈ X.fs := hs L (by unfold frs; rw [List.filterMap_cons, hf]; exact List.mem_cons_self)
      obtain ⟨sl, e⟩ := I.base.slot L o ho (I.ok.frf L hL) hL fun z => I.ok.exfs L z hL
      exact ⟨hk, ⟨L, _, hf, hn, e, hd⟩, ih (fun b hb => hs b (by unfold frs; rw [List.filterMap_cons, hf]; exact List.mem_cons_of_mem _ hb)) hr⟩
  exact all X.outer (fun _ hb => hb) I.ok.funs

/-- the frames that run, for a call -/
theorem Inv.stack (I : Inv X pins σ H s) : s.heap.FunFrames X.base X.stack := by
  rcases I.ok.stk with e | ⟨e, hf⟩
  · rw [e]; exact I.funs
  · rw [e]
    obtain ⟨m, hn, _⟩ := I.loc
    refine .cons (by rw [I.ok.kind]; decide) hf hn ?_ I.funs
    exact Heap.get?_none_of_le (Nat.le_trans I.ok.bsz I.ok.above)
theorem Inv.stkSub (I : Inv X pins σ H s) : ∀ b ∈ frs X.stack, b ∈ X.env.locals :: X.fs := fun b hb => by
  rcases I.ok.stk with e | ⟨e, hf⟩
  · rw [e] at hb; exact List.mem_cons_of_mem _ hb
  · rw [e] at hb
    unfold frs at hb
    rw [List.filterMap_cons, hf] at hb
    exact hb
theorem Inv.stkFree (I : Inv X pins σ H s) : ∀ b ∈ frs X.stack, H b = none := fun b hb => by
  rcases List.mem_cons.mp (I.stkSub b hb) with e | hb
  · rw [e]; exact I.free
  · obtain ⟨_, o, ho, _⟩ := I.ok.funs.mem hb
    exact I.base.free b o ho (I.ok.frf b hb) fun z => I.ok.exfs b z hb

/-- THE STEP: the untracked objects but the frame and the records at ch are kept (the callers' frames up to slots), the frame's map is kept, the new abstract heap is held -/
theorem Inv.step {g' : Array GenState} {t' : Nat} {d' : Drawn} {ch : List Addr} (I : Inv X pins σ H s)
    (hch : ∀ b ∈ ch, (b ∈ X.ex ∨ X.s₀.heap.objs.size ≤ b) ∧ b ≠ X.env.locals ∧ (∀ x c, X.env.cells.lookup x = some c → c ≠ b) ∧ ∀ p ∈ X.pn ++ pins, p.1 ≠ b)
    (keep : ∀ b o, b ≠ X.env.locals → b ∉ X.fs → b ∉ ch → s.heap.get? b = some o → H b = none → h'.get? b = some o)
    (slot : ∀ b o, b ≠ X.env.locals → b ∈ X.fs → b ∉ ch → s.heap.get? b = some o → H b = none → ∃ sl, h'.get? b = some { o with slots := sl }) (free : ∀ b o, b ∉ ch → s.heap.get? b = some o → H b = none → H' b = none)
    (there : ∀ b o, b ∉ ch → s.heap.get? b = some o → ∃ o', h'.get? b = some o')
    (tups : ∀ b xs, H b = some (.tup xs) → H' b = some (.tup xs)) (frzs : ∀ b o u, H b = some (.frz o u) → H' b = some (.frz o u)) (tbls : ∀ b ps, H b = some (.tbl ps) → ∃ more, H' b = some (.tbl (ps ++ more)))
    (ns : ∀ m, s.heap.Ns X.env.locals m → h'.Ns X.env.locals m) (hok : HOk X.prog X.w H' h') (hg : AllBare g') :
    Inv X pins σ H' { s with heap := h', gens := g', drawn := d', toks := t' } := by
  have neL : ∀ b o, X.s₀.heap.get? b = some o → b ≠ X.env.locals := fun b o e => Nat.ne_of_lt (Nat.lt_of_lt_of_le (Heap.lt_size e) I.ok.above)
  have neC : ∀ b o, X.s₀.heap.get? b = some o → b ∉ X.ex → b ∉ ch := fun b o e hx hb => by
    rcases (hch b hb).1 with z | z
    · exact hx z
    · exact absurd (Nat.lt_of_lt_of_le (Heap.lt_size e) z) (Nat.lt_irrefl _)
  have cellK : ∀ x c, X.env.cells.lookup x = some c → ∀ v, s.heap.IsCell c v → h'.IsCell c v := fun x c e v ⟨o, ho, hd⟩ => by
    have nch : c ∉ ch := fun z => (hch c z).2.2.1 x c e rfl
    by_cases hc : c ∈ X.fs
    · obtain ⟨sl, q⟩ := slot c o (I.cne x c e) hc nch ho (I.freeC x c e)
      exact ⟨_, q, hd⟩
    · exact ⟨o, keep c o (I.cne x c e) hc nch ho (I.freeC x c e), hd⟩
  refine ⟨I.ok, I.os, hg, ⟨fun b o e n hb hx => ?_, fun b o e n hb hx => ?_, fun b o e n hx => ?_, fun b o e hx => ?_, fun b xs e => tups b xs (I.base.tups b xs e), fun b o xs e => frzs b o xs (I.base.frzs b o xs e), fun b ps e => ?_⟩, ?_, fun x c e => ?_, ?_, fun x c e => ?_, fun p hp => ?_, hok, I.len⟩
  · exact keep b o (neL b o e) hb (neC b o e hx) (I.base.keep b o e n hb hx) (I.base.free b o e n hx)
  · obtain ⟨sl, e1⟩ := I.base.slot b o e n hb hx
    obtain ⟨sl', e2⟩ := slot b _ (neL b o e) hb (neC b o e hx) e1 (I.base.free b o e n hx)
    exact ⟨sl', e2⟩
  · obtain ⟨o', e1⟩ := I.base.there b o e hx
    exact free b o' (neC b o e hx) e1 (I.base.free b o e n hx)
  · obtain ⟨o', e1⟩ := I.base.there b o e hx
    exact there b o' (neC b o e hx) e1
  · obtain ⟨m1, e1⟩ := I.base.tbls b ps e
    obtain ⟨m2, e2⟩ := tbls b _ e1
    exact ⟨m1 ++ m2, by rw [e2, Array.append_assoc]⟩
  · obtain ⟨m, hn, hl⟩ := I.loc
    refine ⟨m, ns m hn, fun i x v e1 e2 e3 => ?_⟩
    obtain ⟨u, r, l⟩ := hl i x v e1 e2 e3
    refine ⟨u, r, ?_⟩
    rcases l with l | ⟨k, c, e, z⟩
    · exact .inl l
    · exact .inr ⟨k, c, e, cellK x c e _ z⟩
  · obtain ⟨v, z⟩ := I.cell x c e
    exact ⟨v, cellK x c e v z⟩
  · obtain ⟨m, ⟨o, _, _, ho, _⟩, _⟩ := I.loc
    exact free _ o (fun z => (hch _ z).2.1 rfl) ho I.free
  · obtain ⟨v, o, ho, hd⟩ := I.cell x c e
    exact free c o (fun z => (hch c z).2.2.1 x c e rfl) ho (I.freeC x c e)
  · obtain ⟨e, n, ne, nf, d⟩ := I.pin p hp
    have nch : p.1 ∉ ch := fun z => (hch p.1 z).2.2.2 p hp rfl
    exact ⟨keep p.1 p.2 ne nf nch e n, free p.1 p.2 nch e n, ne, nf, d⟩
/-- .. where the frame's own object is kept too -/
theorem Inv.un {t' : Nat} (I : Inv X pins σ H s) (u : Un X.fs [] H H' s.heap h') (hok : HOk X.prog X.w H' h') : Inv X pins σ H' { s with heap := h', toks := t' } := by
  obtain ⟨m, ⟨o, es, ep, ho, r⟩, _⟩ := id I.loc
  obtain ⟨sl, hL⟩ := u.any ho I.free (by simp)
  exact I.step (g' := s.gens) (d' := s.drawn) (ch := []) (fun _ z => nomatch z) (fun b o _ hb _ e n => u.keep b o e n hb (by simp)) (fun b o _ hb _ e n => u.slot b o e n hb (by simp)) (fun b o _ e n => u.free b o e n (by simp)) (fun b o _ e => u.there b o e (by simp)) u.tups u.frzs u.tbls (fun m' hm => by
    obtain ⟨o', es', ep', ho', r'⟩ := hm
    rw [ho] at ho'; cases ho'
    exact ⟨_, es', ep', hL, r'⟩) hok I.bare
/-- behind a call (or a comprehension's block): the slots of this frame may have changed too, the records at ch may have turned -/
theorem Inv.call {g' : Array GenState} {t' : Nat} {d' : Drawn} {ch : List Addr} (I : Inv X pins σ H s) (u : Un (frs X.stack) ch H H' s.heap h') (hok : HOk X.prog X.w H' h') (hg : AllBare g')
    (hch : ∀ b ∈ ch, (b ∈ X.ex ∨ X.s₀.heap.objs.size ≤ b) ∧ b ≠ X.env.locals ∧ (∀ x c, X.env.cells.lookup x = some c → c ≠ b) ∧ ∀ p ∈ X.pn ++ pins, p.1 ≠ b) :
    Inv X pins σ H' { s with heap := h', gens := g', drawn := d', toks := t' } := by
  obtain ⟨m, ⟨o, es, ep, ho, r⟩, _⟩ := id I.loc
  obtain ⟨sl, hL⟩ := u.any ho I.free fun z => (hch _ z).2.1 rfl
  exact I.step (ch := ch) hch (fun b o hL hb hc e n => u.keep b o e n (fun z => (List.mem_cons.mp (I.stkSub b z)).elim hL hb) hc) (fun b o _ _ hc e n => u.any e n hc) (fun b o hc e n => u.free b o e n hc) (fun b o hc e => u.there b o e hc) u.tups u.frzs u.tbls (fun m' hm => by
    obtain ⟨o', es', ep', ho', r'⟩ := hm
    rw [ho] at ho'; cases ho'
    exact ⟨_, es', ep', hL, r'⟩) hok hg
/-- an untracked record of ours (an iterator) has turned -/
theorem Inv.turned {t' : Nat} {it : Addr} (I : Inv X pins σ H s) (k : ∀ b o, b ≠ it → s.heap.get? b = some o → h'.get? b = some o) (hn : H it = none) (hL : it ≠ X.env.locals)
    (h1 : it ∈ X.ex ∨ X.s₀.heap.objs.size ≤ it) (h2 : ∀ x c, X.env.cells.lookup x = some c → c ≠ it) (h3 : ∀ p ∈ X.pn ++ pins, p.1 ≠ it) : Inv X pins σ H { s with heap := h', toks := t' } := by
  have nit : ∀ b u, H b = some u → b ≠ it := fun b u e z => by rw [z, hn] at e; cases e
  refine I.step (g' := s.gens) (d' := s.drawn) (ch := [it]) (fun b hb => ?_) (fun b o _ _ hc e _ => k b o (fun z => hc (by simp [z])) e) (fun b o _ _ hc e _ => ⟨o.slots, k b o (fun z => hc (by simp [z])) e⟩) (fun _ _ _ _ n => n)
    (fun b o hc e => ⟨o, k b o (fun z => hc (by simp [z])) e⟩) (fun _ _ e => e) (fun _ _ _ e => e) (fun b ps e => ⟨#[], by rw [e]; simp⟩) (fun m hm => ?_) (fun b u e => ?_) I.bare
  · have e : b = it := by simpa using hb
    subst e
    exact ⟨h1, hL, h2, h3⟩
  · obtain ⟨o, es, ep, ho, r⟩ := hm
    exact ⟨o, es, ep, k _ o (Ne.symm hL) ho, r⟩
  · refine (I.hok b u e).stay (fun c v hc q => k c v ?_ q) (fun _ q => q) fun _ _ q => q
    rcases hc with z | z
    · rw [z]; exact nit b u e
    · exact nit c _ z
theorem Inv.tok (I : Inv X pins σ H s) (t : Nat) : Inv X pins σ H { s with toks := t } := I.un (h' := s.heap) (t' := t) Un.refl I.hok
/-- all objects kept -/
theorem Inv.kept {t' : Nat} (I : Inv X pins σ H s) (k : ∀ b u, s.heap.get? b = some u → h'.get? b = some u) : Inv X pins σ H { s with heap := h', toks := t' } := I.un (Un.kept k) (I.hok.kept k)
/-- a new object laid and tracked -/
theorem Inv.laid {a : Addr} {o : HO} {t' : Nat} (I : Inv X pins σ H s) (k : ∀ b u, s.heap.get? b = some u → h'.get? b = some u) (hp : s.heap.objs.size ≤ a) (new : ObjOk X.prog X.w (upd H a o) h' a o) :
    Inv X pins σ (upd H a o) { s with heap := h', toks := t' } := I.un (Un.laid k hp (I.hok.fresh hp)) (I.hok.laid k hp new)
/-- an object written -/
theorem Inv.write {x e : Addr} {o : HO} {t' : Nat} (I : Inv X pins σ H s) (mu : Mut (H x)) (he : e = x ∨ H e = some (.own x)) (k : ∀ b u, b ≠ e → s.heap.get? b = some u → h'.get? b = some u) (heo : ∃ u, h'.get? e = some u)
    (new : ObjOk X.prog X.w (upd H x o) h' x o) : Inv X pins σ (upd H x o) { s with heap := h', toks := t' } := I.un (Un.write mu he k heo) (I.hok.write mu he k heo new)
/-- forgetting slots, pins -/
theorem Inv.weak {σ' : List (Option V)} (I : Inv X pins σ H s) (hl : σ'.length = σ.length) (w : ∀ (i : Nat) v, σ'[i]? = some (some v) → σ[i]? = some (some v)) : Inv X pins σ' H s :=
  ⟨I.ok, I.os, I.bare, I.base, let ⟨m, hn, hl'⟩ := I.loc; ⟨m, hn, fun i x v e1 e2 e3 => hl' i x v e1 (w i v e2) e3⟩, I.cell, I.free, I.freeC, I.pin, I.hok, hl.trans I.len⟩
theorem Inv.pins_of {pins' : List (Addr × Obj)} (I : Inv X pins σ H s) (h : ∀ p ∈ pins', s.heap.get? p.1 = some p.2 ∧ H p.1 = none ∧ p.1 ≠ X.env.locals ∧ p.1 ∉ X.fs ∧ ∀ v, p.2.data ≠ .cell v) : Inv X pins' σ H s :=
  ⟨I.ok, I.os, I.bare, I.base, I.loc, I.cell, I.free, I.freeC, fun p hp => (List.mem_append.mp hp).elim (fun z => I.pin p (List.mem_append_left _ z)) (h p), I.hok, I.len⟩

theorem nodup_ix {N : List Str} (hN : N.Nodup) {i j : Nat} {x : Str} (a : N[i]? = some x) (b : N[j]? = some x) : i = j := by
  obtain ⟨h1, e1⟩ := List.getElem?_eq_some_iff.mp a
  obtain ⟨h2, e2⟩ := List.getElem?_eq_some_iff.mp b
  exact (List.getElem_inj hN).mp (e1.trans e2.symm)

/-- a name is stored; what changed -/
theorem store_ok2 {M : Model} {A : Around} {E : Value → Shared → Prop} {i : Nat} {x : Str} {v : V} {u : Value} {Q : Unit → Shared → Prop} (I : Inv X pins σ H s) (hN : X.N.Nodup) (hi : X.N[i]? = some x) (hx : Loc X.env.scope x) (r : RelV v u)
    (h : ∀ s', Inv X pins (σ.set i (some v)) H s' → (∃ a, Heap.SameBut a s.heap s'.heap ∧ (a = X.env.locals ∨ X.env.cells.lookup x = some a)) → Q () s') (hf : X.fn x = true ∨ X.env.scope.names.lookup x = some .local := by first | exact .inl rfl | exact .inr rfl | assumption) : wpAny M A (storeName X.env x u) Q E s := by
  obtain ⟨m, hn, hl⟩ := id I.loc
  have hcls : (X.env.scope.kind == .class || (X.env.scope.kind == .module && X.env.locals != X.env.globals)) = false := by rw [I.ok.kind]; rfl
  have hiσ : i < σ.length := by rw [I.len]; exact (List.getElem?_eq_some_iff.mp hi).1
  have cne := I.cne
  have tracked : ∀ {a : Addr} {h' : Heap}, (∃ o, s.heap.get? a = some o ∧ H a = none) → Heap.SameBut a s.heap h' → HOk X.prog X.w H h' := fun {a h'} ha hs b ob e => by
    obtain ⟨_, _, hfree⟩ := ha
    refine (I.hok b ob e).stay (fun c w' hc q => (hs.2 c ?_).trans q) (fun _ q => q) fun _ _ q => q
    rintro rfl
    rcases hc with rfl | hc
    · rw [hfree] at e; cases e
    · rw [hfree] at hc; cases hc
  rcases hx with hk | hk
  · refine wpAny_storeName_local hk hn (fun h' hn' hs => ?_) hcls
    obtain ⟨oL, _, _, hoL, _⟩ := id hn
    refine h _ ⟨I.ok, I.os, I.bare, ⟨fun b o e n hb hx => ?_, fun b o e n hb hx => ?_, I.base.free, fun b o e hx => ?_, I.base.tups, I.base.frzs, I.base.tbls⟩, ⟨_, hn', fun j y v' e1 e2 e3 => ?_⟩, fun y c e => ?_, I.free, I.freeC, fun p hp => ?_, tracked ⟨oL, hoL, I.free⟩ hs, by simpa using I.len⟩ ⟨_, hs, .inl rfl⟩
    · exact (hs.2 b (Nat.ne_of_lt (Nat.lt_of_lt_of_le (Heap.lt_size e) I.ok.above))).trans (I.base.keep b o e n hb hx)
    · obtain ⟨sl, e1⟩ := I.base.slot b o e n hb hx
      exact ⟨sl, (hs.2 b (Nat.ne_of_lt (Nat.lt_of_lt_of_le (Heap.lt_size e) I.ok.above))).trans e1⟩
    · obtain ⟨o', e1⟩ := I.base.there b o e hx
      exact ⟨o', (hs.2 b (Nat.ne_of_lt (Nat.lt_of_lt_of_le (Heap.lt_size e) I.ok.above))).trans e1⟩
    · by_cases hj : j = i
      · subst hj
        rw [hi] at e1; cases e1
        rw [List.getElem?_set_self hiσ] at e2
        cases e2
        exact ⟨u, r, .inl ⟨hk, by simp⟩⟩
      · rw [List.getElem?_set_ne (Ne.symm hj)] at e2
        obtain ⟨u', r', q⟩ := hl j y v' e1 e2 e3
        refine ⟨u', r', ?_⟩
        rcases q with ⟨k, e⟩ | ⟨k, c, e, z⟩
        · refine .inl ⟨k, ?_⟩
          have : y ≠ x := fun e => hj (nodup_ix hN e1 (e ▸ hi))
          simp [this, e]
        · exact .inr ⟨k, c, e, z.sameBut hs (cne y c e)⟩
    · obtain ⟨w', z⟩ := I.cell y c e
      exact ⟨w', z.sameBut hs (cne y c e)⟩
    · obtain ⟨e, n, ne, nf, d⟩ := I.pin p hp
      exact ⟨(hs.2 p.1 ne).trans e, n, ne, nf, d⟩
  · have hfn : X.fn x = true := by
      rcases hf with z | z
      · exact z
      · rw [z] at hk; cases hk
    obtain ⟨c, hc⟩ := I.ok.has x (.inl hk)
    obtain ⟨w', z⟩ := I.cell x c hc
    refine wpAny_storeName_cell I.ok.kind hk hc z (fun h' hc' hs => ?_)
    obtain ⟨oc, hoc, hocd⟩ := id z
    refine h { s with heap := h' } ⟨I.ok, I.os, I.bare, ⟨fun b o e n hb hx => ?_, fun b o e n hb hx => ?_, I.base.free, fun b o e hx => ?_, I.base.tups, I.base.frzs, I.base.tbls⟩, ⟨m, hn.sameBut hs (Ne.symm (cne x c hc)), fun j y v' e1 e2 e3 => ?_⟩, fun y c' e => ?_, I.free, I.freeC, fun p hp => ?_, tracked ⟨oc, hoc, I.freeC x c hc⟩ hs, by simpa using I.len⟩ ⟨c, hs, .inr hc⟩
    · exact (hs.2 b (Nat.ne_of_lt (Nat.lt_of_lt_of_le (Heap.lt_size e) (I.ok.cab x c hfn hc)))).trans (I.base.keep b o e n hb hx)
    · obtain ⟨sl, e1⟩ := I.base.slot b o e n hb hx
      exact ⟨sl, (hs.2 b (Nat.ne_of_lt (Nat.lt_of_lt_of_le (Heap.lt_size e) (I.ok.cab x c hfn hc)))).trans e1⟩
    · obtain ⟨o', e1⟩ := I.base.there b o e hx
      exact ⟨o', (hs.2 b (Nat.ne_of_lt (Nat.lt_of_lt_of_le (Heap.lt_size e) (I.ok.cab x c hfn hc)))).trans e1⟩
    · by_cases hj : j = i
      · subst hj
        rw [hi] at e1; cases e1
        rw [List.getElem?_set_self hiσ] at e2
        cases e2
        exact ⟨u, r, .inr ⟨.inl hk, c, hc, hc'⟩⟩
      · rw [List.getElem?_set_ne (Ne.symm hj)] at e2
        obtain ⟨u', r', q⟩ := hl j y v' e1 e2 e3
        refine ⟨u', r', ?_⟩
        rcases q with q | ⟨k, c', e, z'⟩
        · exact .inl q
        · refine .inr ⟨k, c', e, z'.sameBut hs ?_⟩
          rintro rfl
          exact hj (nodup_ix hN e1 (I.ok.inj _ _ _ e hc ▸ hi))
    · by_cases hcc : c' = c
      · subst hcc; exact ⟨_, hc'⟩
      · obtain ⟨w2, z2⟩ := I.cell y c' e
        exact ⟨w2, z2.sameBut hs hcc⟩
    · obtain ⟨e, n, ne, nf, d⟩ := I.pin p hp
      refine ⟨(hs.2 p.1 ?_).trans e, n, ne, nf, d⟩
      intro q
      rw [q, hoc] at e
      have q' : oc = p.2 := Option.some.inj e
      exact d w' (by rw [← q']; exact hocd)
theorem store_ok {M : Model} {A : Around} {E : Value → Shared → Prop} {i : Nat} {x : Str} {v : V} {u : Value} {Q : Unit → Shared → Prop} (I : Inv X pins σ H s) (hN : X.N.Nodup) (hi : X.N[i]? = some x) (hx : Loc X.env.scope x) (r : RelV v u)
    (h : ∀ s', Inv X pins (σ.set i (some v)) H s' → Q () s') (hf : X.fn x = true ∨ X.env.scope.names.lookup x = some .local := by first | exact .inl rfl | exact .inr rfl | assumption) : wpAny M A (storeName X.env x u) Q E s :=
  store_ok2 I hN hi hx r (fun s' I' _ => h s' I') hf
/-- behind a call or a block, the state as it is -/
theorem Inv.call' {s' : Shared} {ch : List Addr} (I : Inv X pins σ H s) (ho : s'.os = s.os) (u : Un (frs X.stack) ch H H' s.heap s'.heap) (hok : HOk X.prog X.w H' s'.heap) (hg : AllBare s'.gens)
    (hch : ∀ b ∈ ch, (b ∈ X.ex ∨ X.s₀.heap.objs.size ≤ b) ∧ b ≠ X.env.locals ∧ (∀ x c, X.env.cells.lookup x = some c → c ≠ b) ∧ ∀ p ∈ X.pn ++ pins, p.1 ≠ b) : Inv X pins σ H' s' := by
  obtain ⟨h', g', d', t', o'⟩ := s'
  have e : o' = s.os := ho
  subst e
  exact I.call (g' := g') (t' := t') (d' := d') u hok hg hch
end

/-- an exception: its class, its own dict's address (where it has one), the abstract heap behind it -/
abbrev XK := Value → Option Addr → Hp → Prop
abbrev St := List (Option V)
abbrev VK := V → Hp → Prop
/-- an expression's reading; a test's; an argument list's -/
abbrev TE := St → Hp → VK → Prop
abbrev TT := St → Hp → (Bool → Hp → Prop) → Prop
abbrev TA := St → Hp → (List V → Hp → Prop) → Prop
/-- what is wanted behind a statement -/
structure Ends where
  nx : St → Hp → Prop
  rt : VK
  bk : St → Hp → Prop := fun _ _ => False
  ct : St → Hp → Prop := fun _ _ => False
abbrev TS := Ends → St → Hp → Prop

def EP (X : Cx) (pins : List (Addr × Obj)) (σ : St) (Q : VK) (u : Value) (s' : Shared) : Prop := ∃ v H', Inv X pins σ H' s' ∧ RelV v u ∧ Q v H'
def TP (X : Cx) (pins : List (Addr × Obj)) (σ : St) (Q : Bool → Hp → Prop) (b : Bool) (s' : Shared) : Prop := ∃ H', Inv X pins σ H' s' ∧ Q b H'
def AP (X : Cx) (pins : List (Addr × Obj)) (σ : St) (Q : List V → Hp → Prop) (us : List Value) (s' : Shared) : Prop := ∃ vs H', Inv X pins σ H' s' ∧ Vals vs us ∧ Q vs H'
def SP (X : Cx) (pins : List (Addr × Obj)) (D : Ends) (f : Flow) (s' : Shared) : Prop :=
  match f with
  | .next => ∃ σ' H', Inv X pins σ' H' s' ∧ D.nx σ' H'
  | .brk => ∃ σ' H', Inv X pins σ' H' s' ∧ D.bk σ' H'
  | .cont => ∃ σ' H', Inv X pins σ' H' s' ∧ D.ct σ' H'
  | .ret u => ∃ v σ' H', Inv X pins σ' H' s' ∧ RelV v u ∧ D.rt v H'

def PE (X : Cx) (e : Expr) (t : TE) : Prop :=
  ∀ (pins : List (Addr × Obj)) (s : Shared) (σ : St) (H : Hp) (Q : VK), Inv X pins σ H s → t σ H Q → wpAny (model X.prog X.w) X.A (eval e X.env) (EP X pins σ Q) X.xe s
def PT (X : Cx) (e : Expr) (t : TT) : Prop :=
  ∀ (pins : List (Addr × Obj)) (s : Shared) (σ : St) (H : Hp) (Q : Bool → Hp → Prop), Inv X pins σ H s → t σ H Q → wpAny (model X.prog X.w) X.A (isTrue e X.env (eval e X.env)) (TP X pins σ Q) X.xe s
/-- a test whatever its 'whole' is (and, or) -/
def PW (X : Cx) (e : Expr) (t : TT) : Prop :=
  ∀ (whole : Sem Value) (pins : List (Addr × Obj)) (s : Shared) (σ : St) (H : Hp) (Q : Bool → Hp → Prop), Inv X pins σ H s → t σ H Q → wpAny (model X.prog X.w) X.A (isTrue e X.env whole) (TP X pins σ Q) X.xe s
theorem PW.pt {X : Cx} {e : Expr} {t : TT} (h : PW X e t) : PT X e t := h _
/-- an argument list (no star), from the left -/
def PA (X : Cx) (es : List Expr) (t : TA) : Prop :=
  ∀ (pos : Pos) (pins : List (Addr × Obj)) (s : Shared) (σ : St) (H : Hp) (Q : List V → Hp → Prop), Inv X pins σ H s → t σ H Q → wpAny (model X.prog X.w) X.A (spliced (backTo pos (starEach es X.env))) (AP X pins σ Q) X.xe s
def PS (X : Cx) (st : Stmt) (t : TS) : Prop :=
  ∀ (pins : List (Addr × Obj)) (s : Shared) (σ : St) (H : Hp) (D : Ends), Inv X pins σ H s → t D σ H → wpAny (model X.prog X.w) X.A (exec st X.env) (SP X pins D) X.xe s
def PSs (X : Cx) (st : List Stmt) (t : TS) : Prop :=
  ∀ (pins : List (Addr × Obj)) (s : Shared) (σ : St) (H : Hp) (D : Ends), Inv X pins σ H s → t D σ H → wpAny (model X.prog X.w) X.A (execs st X.env) (SP X pins D) X.xe s
/-- weaken the end -/
theorem thn {α : Type} {t : Sem α} {Q Q' : α → Shared → Prop} {M : Model} {A : Around} {E : Value → Shared → Prop} {s : Shared} (h : wpAny M A t Q E s) (hQ : ∀ a s, Q a s → Q' a s) : wpAny M A t Q' E s := wpAny_mono h hQ fun _ _ x => x
end L2

namespace L2
open PySem PySem.Spec PyProof.Rows
section
variable {X : Cx}

def tVar (i : Nat) : TE := fun σ H Q => ∃ v, σ[i]? = some (some v) ∧ Q v H
def tC (v : V) : TE := fun _ H Q => Q v H
theorem pe_var {i : Nat} {x : Str} {pos : Pos} (hN : X.N[i]? = some x) (hv : Vis X.env.scope x) (hd : (x == ("__debug__" : Str)) = false := by decide) (hcd : (x == ("__classdict__" : Str)) = false := by decide) : PE X (.Name x pos) (tVar i) := by
  intro pins s σ H Q I h
  obtain ⟨v, e, h⟩ := h
  obtain ⟨m, hn, hl⟩ := I.loc
  obtain ⟨u, r, l⟩ := hl i x v hN e hv
  have fin : EP X pins σ Q u s := ⟨v, H, I, r, h⟩
  rcases l with ⟨hk, hm⟩ | ⟨hk, c, hc, hcell⟩
  · exact wpAny_Name (wpAny_loadName_local I.ok.kind hk hn hm fin) hd
  · rcases hk with hk | hk
    · exact wpAny_Name (wpAny_loadName_cell I.ok.kind hk hc hcell fin) hd
    · exact wpAny_Name (wpAny_loadName_free I.ok.kind hk hc hcell fin hcd) hd
theorem pe_int {i j pos} : PE X (.Constant (.int i) j pos) (tC (.int i)) := fun _ _ _ H _ I h => wpAny_Constant_int ⟨.int i, H, I.tok _, ⟨_, rfl⟩, h⟩
theorem pe_bl {b j pos} : PE X (.Constant (.bool b) j pos) (tC (.bl b)) := fun _ _ _ H _ I h => Constant_bool ⟨.bl b, H, I, rfl, h⟩
theorem pe_str {x j pos} : PE X (.Constant (.str x) j pos) (tC (.str x)) := fun _ _ _ H _ I h => Calls.Constant_str ⟨.str x, H, I.tok _, ⟨_, rfl⟩, h⟩

/-- a global name of the def -/
def Gl (X : Cx) (x : Str) : Prop := X.env.kindOf x = some .globalImplicit
theorem ld_glob {E : Value → Shared → Prop} {pins : List (Addr × Obj)} {s : Shared} {σ : St} {H : Hp} {x : Str} {u : Value} {pos : Pos} {Q : Value → Shared → Prop} (I : Inv X pins σ H s) (hg : Gl X x) (hm : X.mg x = some u) (h : Q u s)
    (hd : (x == ("__debug__" : Str)) = false := by decide) : wpAny (model X.prog X.w) X.A (eval (.Name x pos) X.env) Q E s :=
  Calls.Name_function_global I.ok.kind hg (Calls.loadGlobal_global (by rw [I.ok.glob]; exact I.mod.glob.keeps I.bk) hm h) hd
theorem ld_blt {E : Value → Shared → Prop} {pins : List (Addr × Obj)} {s : Shared} {σ : St} {H : Hp} {x : Str} {u : Value} {pos : Pos} {Q : Value → Shared → Prop} (I : Inv X pins σ H s) (hg : Gl X x) (hm : X.mg x = none) (hv : bootBuiltins x = some u) (h : Q u s)
    (hn : x ≠ "__name__" := by decide) (hd : (x == ("__debug__" : Str)) = false := by decide) : wpAny (model X.prog X.w) X.A (eval (.Name x pos) X.env) Q E s := by
  obtain ⟨mb, h1, h2⟩ := I.mod.blt
  exact Calls.Name_function_global I.ok.kind hg (Calls.loadGlobal_builtin (by rw [I.ok.glob]; exact I.mod.glob.keeps I.bk) hm (by rw [I.ok.blt]; exact h1.keeps I.bk) ((h2 x hn).trans hv) h) hd
theorem pe_bltn {x : Str} {v : V} {u : Value} {pos : Pos} (hg : Gl X x) (hm : X.mg x = none) (hv : bootBuiltins x = some u) (r : RelV v u) (hn : x ≠ "__name__" := by decide) (hd : (x == ("__debug__" : Str)) = false := by decide) : PE X (.Name x pos) (tC v) :=
  fun _ _ _ H _ I h => ld_blt I hg hm hv ⟨v, H, I, r, h⟩ hn hd

variable {a b : Expr} {ta tb : TE} {pos : Pos}
/-- a comparison as a value, as a test -/
def tB (t : TE) : TT := fun σ H Q => t σ H fun x H1 => ∃ c, x = .bl c ∧ Q c H1
/-- an expression whose value is a bool, as a test -/
theorem pt_val {e : Expr} {t : TE} (h : PE X e t) (he : ∀ whole, isTrue e X.env whole = (do let v ← whole; standAt e.pos; holding [v] (truthy v)) := by intro _; rfl) : PT X e (tB t) := by
  intro pins s σ H Q I hw
  refine isTrue_plain (thn (h pins s σ H _ I hw) fun v s1 ⟨x, H1, I1, r1, q1⟩ => ?_) (he _)
  obtain ⟨d, rfl, q⟩ := q1
  cases r1
  exact wpAny_truthy_bool ⟨H1, I1, q⟩

variable {tA tB' : TT} {rest : List Expr}
def tOr (t u : TT) : TT := fun σ H Q => t σ H fun c H1 => if c = true then Q true H1 else u σ H1 Q
def tNot (t : TT) : TT := fun σ H Q => t σ H fun c H1 => Q (!c) H1
theorem pw_or1 (ha : PT X a tA) : PW X (.BoolOp .Or [a] pos) tA := by
  intro wh pins s σ H Q I h
  refine isTrue_or (thn (ha pins s σ H Q I h) fun c s1 e => ?_)
  cases c with
  | false => exact isTrue_or_nil e
  | true => exact e
theorem pw_or (ha : PT X a tA) (hb : PW X (.BoolOp .Or (b :: rest) pos) tB') : PW X (.BoolOp .Or (a :: b :: rest) pos) (tOr tA tB') := by
  intro wh pins s σ H Q I h
  refine isTrue_or (thn (ha pins s σ H _ I h) fun c s1 ⟨H1, I1, q1⟩ => ?_)
  cases c with
  | true => exact ⟨H1, I1, q1⟩
  | false => exact hb wh pins s1 σ H1 Q I1 q1
theorem pt_not (ha : PT X a tA) : PT X (.UnaryOp .Not a pos) (tNot tA) := by
  intro pins s σ H Q I h
  exact isTrue_not (ha pins s σ H (fun c H1 => Q (!c) H1) I h)
/-- a if t else b -/
def tIf (t : TT) (ta tb : TE) : TE := fun σ H Q => t σ H fun c H1 => if c = true then ta σ H1 Q else tb σ H1 Q
theorem pe_ifExp {c : Expr} (hc : PT X c tA) (ha : PE X a ta) (hb : PE X b tb) : PE X (.IfExp c a b pos) (tIf tA ta tb) := by
  intro pins s σ H Q I h
  refine wpAny_IfExp (thn (hc pins s σ H _ I h) fun d s1 ⟨H1, I1, q1⟩ => ?_)
  cases d with
  | true => exact ha pins s1 σ H1 Q I1 q1
  | false => exact hb pins s1 σ H1 Q I1 q1
end
end L2

namespace L2
open PySem PySem.Spec PyProof.Rows

def SqL (K : PySem.W.Frag) (H : Hp) (a : Addr) (xs : List V) : Prop :=
  Rd H a (.lst xs) ∨
    ∃ (o : Obj) (its : Array Value) (n : Nat), K.lookup a = some o ∧ o.cls = .type "list" ∧ o.dict = none ∧ o.data = .seq its n ∧ its.size ≤ sizeLine ∧ Vals xs its.toList
def SqT (K : PySem.W.Frag) (H : Hp) (a : Addr) (xs : List V) : Prop :=
  Rd H a (.tup xs) ∨
    ∃ (o : Obj) (its : Array Value) (n : Nat), K.lookup a = some o ∧ o.cls = .type "tuple" ∧ o.data = .seq its n ∧ its.size ≤ sizeLine ∧ Vals xs its.toList
def absV : Value → Option V
  | .none => some .non
  | .bool b => some (.bl b)
  | .int i _ => some (.int i)
  | .str x _ => some (.str x)
  | .bytes b _ => some (.byt b)
  | .float b _ => some (.flt b)
  | .ref a => some (.ref a)
  | .type n => some (.ty n)
  | _ => none
theorem RelV.abs {x : V} {u : Value} (r : RelV x u) : absV u = some x := by
  cases x with
  | non => cases r; rfl
  | bl _ => cases r; rfl
  | int _ => obtain ⟨t, rfl⟩ := r; rfl
  | str _ => obtain ⟨t, rfl⟩ := r; rfl
  | byt _ => obtain ⟨t, rfl⟩ := r; rfl
  | flt _ => obtain ⟨t, rfl⟩ := r; rfl
  | ref _ => cases r; rfl
  | ty _ => cases r; rfl
theorem RelV.inj {x y : V} {u : Value} (r : RelV x u) (q : RelV y u) : x = y := Option.some.inj (r.abs.symm.trans q.abs)
theorem Vals.inj : ∀ {xs ys : List V} {us : List Value}, Vals xs us → Vals ys us → xs = ys
  | _, _, _, .nil, .nil => rfl
  | _, _, _, .cons r t, .cons r' t' => by rw [r.inj r', Vals.inj t t']
section
variable {X : Cx} {pins : List (Addr × Obj)} {σ : St} {H : Hp} {s : Shared} {a : Addr} {xs ys : List V}
theorem SqL.of {K : PySem.W.Frag} (h : H a = some (.lst xs)) : SqL K H a xs := .inl (.inl h)
theorem SqT.of {K : PySem.W.Frag} (h : H a = some (.tup xs)) : SqT K H a xs := .inl (.inl h)
theorem Inv.list (I : Inv X pins σ H s) (h : SqL X.K H a xs) : ∃ its : List Value, Vals xs its ∧ PlainL s.heap a its.toArray ∧ xs.length ≤ sizeLine := by
  rcases h with h | ⟨o, its, n, hk, hc, hd, hs, hz, r⟩
  · obtain ⟨z, its, n, r, e⟩ := h.ok I.hok
    exact ⟨its, r, ⟨_, n, e, rfl, rfl, rfl⟩, z⟩
  · refine ⟨its.toList, r, ⟨o, n, I.kIn a o hk, hc, hd, by simpa using hs⟩, ?_⟩
    have e := r.length
    simp only [Array.length_toList] at e
    omega
theorem Inv.tuple (I : Inv X pins σ H s) (h : SqT X.K H a xs) : ∃ its : List Value, Vals xs its ∧ IsTup s.heap a its.toArray ∧ xs.length ≤ sizeLine := by
  rcases h with h | ⟨o, its, n, hk, hc, hs, hz, r⟩
  · obtain ⟨z, its, r, p⟩ := h.ok I.hok
    exact ⟨its, r, p.tup, z⟩
  · refine ⟨its.toList, r, ⟨o, I.kIn a o hk, hc, n, by simpa using hs⟩, ?_⟩
    have e := r.length
    simp only [Array.length_toList] at e
    omega
theorem Inv.list_inj (I : Inv X pins σ H s) (h : SqL X.K H a xs) (h' : SqL X.K H a ys) : xs = ys := by
  obtain ⟨its, r, ⟨o, n, e, _, _, d⟩, _⟩ := I.list h
  obtain ⟨its', r', ⟨o', n', e', _, _, d'⟩, _⟩ := I.list h'
  rw [e] at e'; cases e'
  rw [d] at d'
  injection d' with d1 _
  have : its = its' := by simpa using congrArg Array.toList d1
  subst this
  exact r.inj r'
theorem Inv.tuple_inj (I : Inv X pins σ H s) (h : SqT X.K H a xs) (h' : SqT X.K H a ys) : xs = ys := by
  obtain ⟨its, r, ⟨o, e, _, n, d⟩, _⟩ := I.tuple h
  obtain ⟨its', r', ⟨o', e', _, n', d'⟩, _⟩ := I.tuple h'
  rw [e] at e'; cases e'
  rw [d] at d'
  injection d' with d1 _
  have : its = its' := by simpa using congrArg Array.toList d1
  subst this
  exact r.inj r'
end

abbrev Cx.wish (X : Cx) (E : Value → Shared → Prop) : Cx := { X with xe := E }
/-- no exception leaves -/
abbrev Cx.nox (X : Cx) : Cx := X.wish fun _ _ => False
theorem Cx.Ok.wish {X : Cx} (ok : X.Ok) (E : Value → Shared → Prop) : (X.wish E).Ok :=
  ⟨ok.mod, ok.kind, ok.glob, ok.blt, ok.above, ok.inj, ok.has, ok.cab, ok.hd, ok.frames, ok.stk, ok.exf, ok.bs, ok.bsz, ok.noex, ok.exfs, ok.funs, ok.frf⟩
theorem Cx.Ok.unwish {X : Cx} {E : Value → Shared → Prop} (ok : (X.wish E).Ok) : X.Ok :=
  ⟨ok.mod, ok.kind, ok.glob, ok.blt, ok.above, ok.inj, ok.has, ok.cab, ok.hd, ok.frames, ok.stk, ok.exf, ok.bs, ok.bsz, ok.noex, ok.exfs, ok.funs, ok.frf⟩
section
variable {X : Cx} {pins : List (Addr × Obj)} {σ : St} {H : Hp} {s : Shared} {E : Value → Shared → Prop}
theorem Inv.wish (I : Inv X pins σ H s) (E : Value → Shared → Prop) : Inv (X.wish E) pins σ H s := ⟨I.ok.wish E, I.os, I.bare, I.base, I.loc, I.cell, I.free, I.freeC, I.pin, I.hok, I.len⟩
theorem Inv.unwish (I : Inv (X.wish E) pins σ H s) : Inv X pins σ H s := ⟨I.ok.unwish, I.os, I.bare, I.base, I.loc, I.cell, I.free, I.freeC, I.pin, I.hok, I.len⟩
theorem SP.unwish {D : Ends} {f : Flow} {s' : Shared} (h : SP (X.wish E) pins D f s') : SP X pins D f s' := by
  cases f with
  | next => obtain ⟨σ', H', I, q⟩ := h; exact ⟨σ', H', I.unwish, q⟩
  | brk => obtain ⟨σ', H', I, q⟩ := h; exact ⟨σ', H', I.unwish, q⟩
  | cont => obtain ⟨σ', H', I, q⟩ := h; exact ⟨σ', H', I.unwish, q⟩
  | ret u => obtain ⟨v, σ', H', I, r, q⟩ := h; exact ⟨v, σ', H', I.unwish, r, q⟩
theorem PE.nox {e : Expr} {t : TE} (h : PE X.nox e t) : PE X e t := fun pins s σ H Q I hw =>
  wpAny_mono (h pins s σ H Q (I.wish _) hw) (fun _ _ ⟨v, H', I', r, q⟩ => ⟨v, H', I'.unwish, r, q⟩) fun _ _ z => False.elim z
theorem PT.nox {e : Expr} {t : TT} (h : PT X.nox e t) : PT X e t := fun pins s σ H Q I hw =>
  wpAny_mono (h pins s σ H Q (I.wish _) hw) (fun _ _ ⟨H', I', q⟩ => ⟨H', I'.unwish, q⟩) fun _ _ z => False.elim z
theorem PSs.nox {st : List Stmt} {t : TS} (h : PSs X.nox st t) : PSs X st t := fun pins s σ H D I hw =>
  wpAny_mono (h pins s σ H D (I.wish _) hw) (fun _ _ q => q.unwish) fun _ _ z => False.elim z
end

section
variable {X : Cx} {st : Stmt} {rest : List Stmt} {t u : TS} {e : Expr} {te : TE} {pos : Pos}
def tNext : TS := fun D σ H => D.nx σ H
def tSeq (t u : TS) : TS := fun D σ H => t { D with nx := u D } σ H
theorem pss_nil : PSs X [] tNext := fun _ _ σ H _ I h => wpAny_execs_nil ⟨σ, H, I, h⟩
theorem pss_cons (h1 : PS X st t) (h2 : PSs X rest u) : PSs X (st :: rest) (tSeq t u) := by
  intro pins s σ H D I h
  refine wpAny_execs_cons (thn (h1 pins s σ H { D with nx := u D } I h) fun f s1 q => ?_)
  cases f with
  | next =>
    obtain ⟨σ', H', I', q⟩ := q
    exact h2 pins s1 σ' H' D I' q
  | ret v => exact q
  | brk => exact q
  | cont => exact q
theorem pss_one (h1 : PS X st t) : PSs X [st] t := by
  intro pins s σ H D I h
  refine wpAny_execs_cons (thn (h1 pins s σ H D I h) fun f s1 q => ?_)
  cases f with
  | next => exact wpAny_execs_nil q
  | ret v => exact q
  | brk => exact q
  | cont => exact q
/-- in a def's body nothing is shown -/
theorem Inv.quiet {pins : List (Addr × Obj)} {σ : St} {H : Hp} {s : Shared} (I : Inv X pins σ H s) : interactive X.env = false := by simp [interactive, I.ok.kind]
/-- an expression whose value is dropped -/
def tDrop (te : TE) : TS := fun D σ H => te σ H fun _ H1 => D.nx σ H1
theorem ps_expr (he : PE X e te) (hs : swapsWith e none pos.line X.env = pure false := by rfl) : PS X (.Expr e pos) (tDrop te) := by
  intro pins s σ H D I h
  exact wpAny_Expr_any (thn (he pins s σ H _ I h) fun v s1 ⟨x, H1, I1, r1, q1⟩ => ⟨σ, H1, I1, q1⟩) I.quiet hs
def tRet (te : TE) : TS := fun D σ H => te σ H D.rt
theorem ps_ret (he : PE X e te) : PS X (.Return (some e) pos) (tRet te) := by
  intro pins s σ H D I h
  exact wpAny_Return_some (thn (he pins s σ H _ I h) fun v s1 ⟨x, H1, I1, r1, q1⟩ => ⟨x, σ, H1, I1, r1, q1⟩)
def tIfS (c : TT) (t u : TS) : TS := fun D σ H => c σ H fun b H1 => if b = true then t D σ H1 else u D σ H1
theorem ps_if {c : Expr} {a b : List Stmt} {tc : TT} (hc : PT X c tc) (ha : PSs X a t) (hb : PSs X b u) : PS X (.If c a b pos) (tIfS tc t u) := by
  intro pins s σ H D I h
  refine wpAny_If (thn (hc pins s σ H _ I h) fun d s1 ⟨H1, I1, q1⟩ => ?_)
  cases d with
  | true => exact ha pins s1 σ H1 D I1 q1
  | false => exact hb pins s1 σ H1 D I1 q1
end

abbrev TG := V → St → Hp → (St → Hp → Prop) → Prop
abbrev TGs := List V → St → Hp → (St → Hp → Prop) → Prop
def PG (X : Cx) (target : Expr) (t : TG) : Prop :=
  ∀ (pins : List (Addr × Obj)) (s : Shared) (σ : St) (H : Hp) (v : V) (u : Value) (Q : St → Hp → Prop), Inv X pins σ H s → RelV v u → t v σ H Q →
    wpAny (model X.prog X.w) X.A (assign target X.env u) (fun _ s' => ∃ σ' H', Inv X pins σ' H' s' ∧ Q σ' H') X.xe s
/-- several targets, one after another -/
def PGs (X : Cx) (ts : List Expr) (t : TGs) : Prop :=
  ∀ (pins : List (Addr × Obj)) (s : Shared) (σ : St) (H : Hp) (vs : List V) (us : List Value) (Q : St → Hp → Prop), Inv X pins σ H s → Vals vs us → t vs σ H Q →
    wpAny (model X.prog X.w) X.A (assignInOrder ((assignEach ts X.env).map (·.2)) us) (fun _ s' => ∃ σ' H', Inv X pins σ' H' s' ∧ Q σ' H') X.xe s
/-- o[i] = v, by values -/
abbrev TSet := V → V → V → Hp → (Hp → Prop) → Prop
def PSet (X : Cx) (t : TSet) : Prop :=
  ∀ (pins : List (Addr × Obj)) (s : Shared) (σ : St) (H : Hp) (o i v : V) (ov iv u : Value) (Q : Hp → Prop), Inv X pins σ H s → RelV o ov → RelV i iv → RelV v u → t o i v H Q →
    wpAny (model X.prog X.w) X.A (setItem ov iv u) (fun _ s' => ∃ H', Inv X pins σ H' s' ∧ Q H') X.xe s
section
variable {X : Cx} {pos : Pos}
def gName (i : Nat) : TG := fun v σ H Q => Q (σ.set i (some v)) H
theorem pg_name {i : Nat} {x : Str} (hN : X.N.Nodup) (hi : X.N[i]? = some x) (hx : Loc X.env.scope x) (hf : X.fn x = true ∨ X.env.scope.names.lookup x = some .local := by first | exact .inl rfl | exact .inr rfl | assumption) : PG X (.Name x pos) (gName i) := by
  intro pins s σ H v u Q I r h
  exact wpAny_assign_Name (store_ok I hN hi hx r (fun s' I' => ⟨_, H, I', h⟩) hf)
def gNil : TGs := fun vs σ H Q => vs = [] ∧ Q σ H
def gCons (t : TG) (u : TGs) : TGs := fun vs σ H Q => ∃ v r, vs = v :: r ∧ t v σ H fun σ' H' => u r σ' H' Q
theorem pgs_nil : PGs X [] gNil := by
  intro pins s σ H vs us Q I r h
  obtain ⟨e, h⟩ := h
  subst e
  cases r
  exact assignInOrder_nil ⟨σ, H, I, h⟩
theorem pgs_cons {e : Expr} {es : List Expr} {t : TG} {u : TGs} (h1 : PG X e t) (h2 : PGs X es u)
    (hs : (assignEach (e :: es) X.env).map (·.2) = assign e X.env :: (assignEach es X.env).map (·.2) := by rfl) : PGs X (e :: es) (gCons t u) := by
  intro pins s σ H vs us Q I r h
  obtain ⟨v, vr, e1, h⟩ := h
  subst e1
  cases r with
  | cons r rr =>
    rw [hs]
    refine assignInOrder_cons (thn (h1 pins s σ H _ _ _ I r h) fun _ s1 ⟨σ1, H1, I1, q1⟩ => ?_)
    exact h2 pins s1 σ1 H1 _ _ Q I1 rr q1
/-- (a, b, ..) = a tuple of that length -/
def gTup (K : PySem.W.Frag) (n : Nat) (t : TGs) : TG := fun v σ H Q => ∃ a xs, v = .ref a ∧ SqT K H a xs ∧ xs.length = n ∧ t xs σ H Q
theorem pg_tup {es : List Expr} {k : Nat} {t : TGs} {n : Nat} (hc : X.calm = true) (h : PGs X es t)
    (hn : (assignEach es X.env).length = n := by rfl) (hst : (assignEach es X.env).findIdx? (·.1) = none := by rfl) : PG X (.Tuple es k pos) (gTup X.K n t) := by
  intro pins s σ H v u Q I r hw
  obtain ⟨a, xs, e1, hq, hl, hw⟩ := hw
  subst e1
  cases r
  obtain ⟨its, rv, ht, hz⟩ := I.tuple hq
  refine assign_Tuple_tuple (I.ok.hd hc) ht (by simp [hn, ← hl, rv.length]) hst fun h' hx => ?_
  have I1 : Inv X pins σ H { s with heap := h' } := I.kept (t' := s.toks) fun b o e => hx b o (Nat.ne_of_lt (Heap.lt_size e)) e
  exact h pins _ σ H xs _ Q I1 (by simpa using rv) hw
/-- o[i] = .. -/
def gSub (to ti : TE) (t : TSet) : TG := fun v σ H Q => to σ H fun o H1 => ti σ H1 fun i H2 => t o i v H2 fun H3 => Q σ H3
theorem pg_sub {o i : Expr} {to ti : TE} {t : TSet} (ho : PE X o to) (hi : PE X i ti) (hs : PSet X t)
    (ha : ∀ v, assign (.Subscript o i pos) X.env v = (do
      let ov ← holding [v] (eval o X.env)
      let iv ← holding [v, ov] (eval i X.env)
      standAt pos
      holding [v, ov, iv] (setItem ov iv v)
      release [v, ov, iv] []) := by intro _; rfl) : PG X (.Subscript o i pos) (gSub to ti t) := by
  intro pins s σ H v u Q I r h
  rw [ha]
  refine wpAny_bind (wpAny_holding (thn (ho pins s σ H _ I h) fun ov s1 ⟨x, H1, I1, r1, q1⟩ => ?_))
  refine wpAny_bind (wpAny_holding (thn (hi pins s1 σ H1 _ I1 q1) fun iv s2 ⟨y, H2, I2, r2, q2⟩ => ?_))
  refine wpAny_bind (wpAny_standAt (wpAny_bind (wpAny_holding (thn (hs pins s2 σ H2 x y v ov iv u _ I2 r1 r2 r q2) fun _ s3 ⟨H3, I3, q3⟩ => ?_))))
  exact wpAny_release ⟨σ, H3, I3, q3⟩
/-- target = value -/
def tAsg (te : TE) (g : TG) : TS := fun D σ H => te σ H fun x H1 => g x σ H1 D.nx
theorem ps_asg {tg e : Expr} {te : TE} {g : TG} (he : PE X e te) (hg : PG X tg g) (hs : swapsWithSole [tg] e pos.line X.env = pure false := by rfl) (hw : swappedStores [tg] e X.env = pure none := by rfl)
    (h1 : (assignEach [tg] X.env).map (·.2) = [assign tg X.env] := by rfl) : PS X (.Assign [tg] e pos) (tAsg te g) := by
  intro pins s σ H D I h
  refine wpAny_Assign_stores (thn (he pins s σ H _ I h) fun v s1 ⟨x, H1, I1, r1, q1⟩ => ?_) hs hw
  rw [h1]
  exact thn (hg pins s1 σ H1 x v _ I1 r1 q1) fun _ s2 q => q
/-- name = value -/
theorem ps_set {i : Nat} {x : Str} {e : Expr} {te : TE} {pos' : Pos} (hN : X.N.Nodup) (hi : X.N[i]? = some x) (hx : Loc X.env.scope x) (he : PE X e te) (hs : swapsWith e (some (.Name x pos')) pos.line X.env = pure false := by rfl) (hf : X.fn x = true ∨ X.env.scope.names.lookup x = some .local := by first | exact .inl rfl | exact .inr rfl | assumption) :
    PS X (.Assign [.Name x pos'] e pos) (tAsg te (gName i)) := by
  intro pins s σ H D I h
  refine wpAny_Assign_Name (thn (he pins s σ H _ I h) fun v s1 ⟨y, H1, I1, r1, q1⟩ => ?_) hs
  exact store_ok I1 hN hi hx r1 (fun s2 I2 => ⟨_, H1, I2, q1⟩) hf
end

section
variable {X : Cx} {pos : Pos}
end

/-- at turn i: it yields x (the heap may grow), or it stops -/
structure It where
  go : Nat → Hp → Prop
  yld : Nat → Hp → V → Hp → Prop
  stop : Nat → Hp → Prop
/-- the iterator's own objects may turn: they are not the frame's, not pinned, younger than the entry (or a comprehension's own) -/
def FpOk (X : Cx) (pins : List (Addr × Obj)) (H : Hp) (b : Addr) : Prop :=
  H b = none ∧ b ≠ X.env.locals ∧ b ∉ X.fs ∧ (b ∈ X.ex ∨ X.s₀.heap.objs.size ≤ b) ∧ (∀ x c, X.env.cells.lookup x = some c → c ≠ b) ∧ ∀ p ∈ X.pn ++ pins, p.1 ≠ b
theorem Inv.fpOk {X : Cx} {pins : List (Addr × Obj)} {σ : St} {H H' : Hp} {s : Shared} {b : Addr} (I : Inv X pins σ H s) (hb : s.heap.objs.size ≤ b) (hn : H' b = none) : FpOk X pins H' b := by
  refine ⟨hn, Nat.ne_of_gt (Nat.lt_of_lt_of_le I.lt hb), I.nofs hb, .inr (Nat.le_trans I.sz hb), fun x c e z => ?_, fun p hp z => ?_⟩
  · obtain ⟨v, q⟩ := I.cell x c e
    exact absurd (Nat.lt_of_lt_of_le q.lt (by rw [z]; exact hb)) (Nat.lt_irrefl _)
  · exact absurd (Nat.lt_of_lt_of_le (Heap.lt_size (I.pin p hp).1) (by rw [z]; exact hb)) (Nat.lt_irrefl _)
structure Turn (P : Program) (w : World) (K : PySem.W.Frag) (tg : Expr) (J : It) (fp : List Addr) (it : Addr) (tn : Nat → Heap → Prop) : Prop where
  mem : it ∈ fp
  obj : ∀ i h, tn i h → ∀ b ∈ fp, ∃ o, h.get? b = some o ∧ ∀ v, o.data ≠ .cell v
  keep : ∀ i h h', tn i h → (∀ b ∈ fp, ∀ o, h.get? b = some o → h'.get? b = some o) → tn i h'
  item : ∀ (X : Cx), X.prog = P → X.w = w → X.K = K → X.calm = true → ∀ (i : Nat) (pins : List (Addr × Obj)) (s : Shared) (σ : St) (H : Hp) (E : Value → Shared → Prop), Inv X pins σ H s → (∀ b ∈ fp, FpOk X pins H b) → tn i s.heap → J.go i H →
    wpAny (model P w) X.A (pyNext (.ref it)) (fun r s1 => ∃ u, r = some u ∧
      wpAny (model P w) X.A (letOwnedTupleGo tg (.ref it) u) (fun _ s2 => ∃ x H', Inv X pins σ H' s2 ∧ RelV x u ∧ J.yld i H x H' ∧ tn (i + 1) s2.heap ∧ ∀ b ∈ fp, H' b = none) E s1) E s
  done : ∀ (X : Cx), X.prog = P → X.w = w → X.K = K → X.calm = true → ∀ (i : Nat) (pins : List (Addr × Obj)) (s : Shared) (σ : St) (H : Hp) (E : Value → Shared → Prop), Inv X pins σ H s → (∀ b ∈ fp, FpOk X pins H b) → tn i s.heap → J.stop i H →
    wpAny (model P w) X.A (pyNext (.ref it)) (fun r s1 => r = none ∧ Inv X pins σ H s1) E s
  self : ∀ (A : Around) (i : Nat) (s : Shared) (Q : Value → Shared → Prop) (E : Value → Shared → Prop), tn i s.heap → Q (.ref it) s → wpAny (model P w) A (pyIter (.ref it)) Q E s
abbrev TI := St → Hp → (It → Hp → Prop) → Prop
/-- an iterator has come -/
def PIE (X : Cx) (pins : List (Addr × Obj)) (σ : St) (tg : Expr) (R : It → Hp → Prop) (itv : Value) (s2 : Shared) : Prop :=
  ∃ (it : Addr) (fp : List Addr) (tn : Nat → Heap → Prop) (J : It) (H' : Hp), itv = .ref it ∧ Inv X pins σ H' s2 ∧ Turn X.prog X.w X.K tg J fp it tn ∧ tn 0 s2.heap ∧ (∀ b ∈ fp, FpOk X pins H' b) ∧ R J H'
def PI (X : Cx) (tg iter : Expr) (wi : TI) : Prop :=
  ∀ (pins : List (Addr × Obj)) (s : Shared) (σ : St) (H : Hp) (R : It → Hp → Prop), Inv X pins σ H s → wi σ H R →
    wpAny (model X.prog X.w) X.A (eval iter X.env) (fun v s1 => wpAny (model X.prog X.w) X.A (pyIter v) (PIE X pins σ tg R) X.xe s1) X.xe s

/-- the step ahead of the store is nothing for an iterator that keeps no tuple -/
theorem go_of {M : Model} {A : Around} {E : Value → Shared → Prop} {s : Shared} {tg : Expr} {it : Addr} {u : Value} {o : Obj} {n : String} {vs : Array Value} {Q : Unit → Shared → Prop} (ho : s.heap.get? it = some o) (hc : o.cls = .type n) (hd : o.data = .fields vs)
    (hn : ["enumerate", "zip", "dict_itemiterator", "dict_reverseitemiterator", "odict_iterator", "itertools.zip_longest", "itertools.pairwise"].contains n = false) (hQ : Q () s) : wpAny M A (letOwnedTupleGo tg (.ref it) u) Q E s := by
  unfold letOwnedTupleGo
  cases tg <;> first
    | exact wpAny_pure hQ
    | (cases u <;> first
        | exact wpAny_pure hQ
        | (refine wpAny_bind (wpAny_load ho ?_)
           rw [hc, hd]
           show wpAny M A (if (["enumerate", "zip", "dict_itemiterator", "dict_reverseitemiterator", "odict_iterator", "itertools.zip_longest", "itertools.pairwise"].contains n && vs[0]? == some (rawInt _)) = true then _ else _) Q E s
           rw [if_neg (by intro h; rw [hn, Bool.false_and] at h; cases h)]
           exact wpAny_pure hQ))

/-- the list at a, as it stands at each turn (a loop may append to it) -/
def Itl (K : PySem.W.Frag) (a : Addr) : It :=
  ⟨fun i H => ∃ xs x, SqL K H a xs ∧ xs[i]? = some x, fun i H x H' => H' = H ∧ ∀ xs, SqL K H a xs → xs[i]? = some x, fun i H => ∃ xs, SqL K H a xs ∧ xs.length ≤ i⟩
def Itt (K : PySem.W.Frag) (a : Addr) : It :=
  ⟨fun i H => ∃ xs x, SqT K H a xs ∧ xs[i]? = some x, fun i H x H' => H' = H ∧ ∀ xs, SqT K H a xs → xs[i]? = some x, fun i H => ∃ xs, SqT K H a xs ∧ xs.length ≤ i⟩
/-- lo, lo + 1, .. (n of them) -/
def Itr (lo : Int) (n : Nat) : It := ⟨fun i _ => i < n, fun i H x H' => H' = H ∧ x = .int (lo + i), fun i _ => n ≤ i⟩
theorem turn_list {P : Program} {w : World} {K : PySem.W.Frag} {tg : Expr} (a it : Addr) : Turn P w K tg (Itl K a) [it] it (fun i h => h.IsListIter it a i) where
  mem := by simp
  obj := fun i h st b hb => by
    have e : b = it := by simpa using hb
    subst e
    obtain ⟨o, e, c, d⟩ := st
    exact ⟨o, e, fun v z => by rw [d] at z; cases z⟩
  keep := fun i h h' st k => st.at fun o e => k it (by simp) o e
  item := by
    intro X hP hw hK hc i pins s σ H E I hf st hg
    subst hP hw hK
    obtain ⟨xs, x, hq, hx⟩ := hg
    obtain ⟨its, rv, p, hz⟩ := I.list hq
    obtain ⟨u, hu, ru⟩ := rv.get hx
    obtain ⟨f0, f1, f2, f3, f4, f5⟩ := hf it (by simp)
    refine wpAny_pyNext_list_item st p.isList (x := u) (by simpa using hu) fun h' st' sb => ?_
    have I1 : Inv X pins σ H { s with heap := h' } := I.turned (t' := s.toks) (fun b o hb e => (sb.2 b hb).trans e) f0 f1 f3 f4 f5
    obtain ⟨o, e, c, d⟩ := id st'
    exact ⟨u, rfl, go_of (s := { s with heap := h' }) e c d (by decide) ⟨x, H, I1, ru, ⟨rfl, fun ys hy => by rw [I.list_inj hy hq]; exact hx⟩, st', fun b hb => (hf b hb).1⟩⟩
  done := by
    intro X hP hw hK hc i pins s σ H E I hf st hg
    subst hP hw hK
    obtain ⟨xs, hq, hx⟩ := hg
    obtain ⟨its, rv, p, hz⟩ := I.list hq
    obtain ⟨f0, f1, f2, f3, f4, f5⟩ := hf it (by simp)
    have hl := rv.length
    exact wpAny_pyNext_list_end (I.ok.hd hc) st p.isList (by simp; omega) fun h' eb => ⟨rfl, I.turned (t' := s.toks) (fun b o hb e => eb b o hb e) f0 f1 f3 f4 f5⟩
  self := fun _ _ _ _ _ st h => wpAny_pyIter_listiter st h
theorem turn_tuple {P : Program} {w : World} {K : PySem.W.Frag} {tg : Expr} (a it : Addr) : Turn P w K tg (Itt K a) [it] it (fun i h => h.IsTupleIter it a i) where
  mem := by simp
  obj := fun i h st b hb => by
    have e : b = it := by simpa using hb
    subst e
    obtain ⟨o, e, c, d⟩ := st
    exact ⟨o, e, fun v z => by rw [d] at z; cases z⟩
  keep := fun i h h' st k => st.at fun o e => k it (by simp) o e
  item := by
    intro X hP hw hK hc i pins s σ H E I hf st hg
    subst hP hw hK
    obtain ⟨xs, x, hq, hx⟩ := hg
    obtain ⟨its, rv, p, hz⟩ := I.tuple hq
    obtain ⟨u, hu, ru⟩ := rv.get hx
    obtain ⟨f0, f1, f2, f3, f4, f5⟩ := hf it (by simp)
    refine wpAny_pyNext_tuple_item st (show s.heap.IsTuple a its.toArray from p) (x := u) (by simpa using hu) fun h' st' sb => ?_
    have I1 : Inv X pins σ H { s with heap := h' } := I.turned (t' := s.toks) (fun b o hb e => (sb.2 b hb).trans e) f0 f1 f3 f4 f5
    obtain ⟨o, e, c, d⟩ := id st'
    exact ⟨u, rfl, go_of (s := { s with heap := h' }) e c d (by decide) ⟨x, H, I1, ru, ⟨rfl, fun ys hy => by rw [I.tuple_inj hy hq]; exact hx⟩, st', fun b hb => (hf b hb).1⟩⟩
  done := by
    intro X hP hw hK hc i pins s σ H E I hf st hg
    subst hP hw hK
    obtain ⟨xs, hq, hx⟩ := hg
    obtain ⟨its, rv, p, hz⟩ := I.tuple hq
    obtain ⟨f0, f1, f2, f3, f4, f5⟩ := hf it (by simp)
    have hl := rv.length
    exact wpAny_pyNext_tuple_end (I.ok.hd hc) st (show s.heap.IsTuple a its.toArray from p) (by simp; omega) fun h' eb => ⟨rfl, I.turned (t' := s.toks) (fun b o hb e => eb b o hb e) f0 f1 f3 f4 f5⟩
  self := fun _ _ _ _ _ st h => wpAny_pyIter_tupleiter st h
theorem turn_range {P : Program} {w : World} {K : PySem.W.Frag} {tg : Expr} (it : Addr) (lo : Int) (n : Nat) : Turn P w K tg (Itr lo n) [it] it (fun i h => IsRangeIter h it (lo + (i : Nat) * 1) ((n : Int) - (i : Nat)) 1) where
  mem := by simp
  obj := fun i h st b hb => by
    have e : b = it := by simpa using hb
    subst e
    exact ⟨_, st, fun v z => by
      have z' : Data.fields _ = Data.cell v := z
      cases z'⟩
  keep := fun i h h' st k => k it (by simp) _ st
  item := by
    intro X hP hw hK hc i pins s σ H E I hf st hg
    subst hP hw hK
    obtain ⟨f0, f1, f2, f3, f4, f5⟩ := hf it (by simp)
    have W := Walks.range (prog := X.prog) (w := X.w) (I.ok.hd hc) it lo 1 n
    refine W.item i s _ _ hg st fun v h' tk hv st' kk => ?_
    obtain ⟨t, rfl⟩ := hv
    have I1 : Inv X pins σ H { s with heap := h', toks := tk } := I.turned (fun b o hb e => kk b o (by simpa using hb) e) f0 f1 f3 f4 f5
    refine ⟨_, rfl, go_of (s := { s with heap := h', toks := tk }) (n := "range_iterator") st' rfl rfl (by decide) ⟨.int (lo + i), H, I1, ⟨t, ?_⟩, ⟨rfl, rfl⟩, st', fun b hb => (hf b hb).1⟩⟩
    rw [Int.mul_one]
  done := by
    intro X hP hw hK hc i pins s σ H E I hf st hg
    subst hP hw hK
    obtain ⟨f0, f1, f2, f3, f4, f5⟩ := hf it (by simp)
    exact wpAny_pyNext_range_end (I.ok.hd hc) st (by have : n ≤ i := hg; omega) fun h' eb => ⟨rfl, I.turned (t' := s.toks) (fun b o hb e => eb b o hb e) f0 f1 f3 f4 f5⟩
  self := fun _ _ _ _ _ st h => wpAny_pyIter_rangeiter st h
end L2

namespace L2
open PySem PySem.Spec PyProof.Rows
section
variable {X : Cx} {tg : Expr}
/-- a range object just made, walked -/
theorem range_it {pins : List (Addr × Obj)} {σ : St} {H : Hp} {s : Shared} {R : It → Hp → Prop} {E : Value → Shared → Prop} {lo hi : Int} {t u v : Tok} {tk : Nat} (I : Inv X pins σ H s) (h1 : -(2 ^ 62) ≤ lo) (h2 : lo < 2 ^ 62) (h3 : -(2 ^ 62) ≤ hi) (h4 : hi < 2 ^ 62)
    (q : R (Itr lo (hi - lo).toNat) H) : wpAny (model X.prog X.w) X.A (pyIter (.ref s.heap.objs.size)) (PIE X pins σ tg R) E { s with heap := s.heap.push { cls := .type "range", data := .fields #[.int lo t, .int hi u, .int 1 v] }, toks := tk } := by
  refine wpAny_pyIter_range (IsRange.new ..) (small_one h1 h2 h3 h4) ?_
  have I1 : Inv X pins σ H { s with heap := s.heap.push { cls := .type "range", data := .fields #[.int lo t, .int hi u, .int 1 v] }, toks := tk } := I.kept fun b o e => Heap.get?_push_of_some _ e
  refine ⟨(s.heap.push { cls := .type "range", data := .fields #[.int lo t, .int hi u, .int 1 v] }).objs.size, [(s.heap.push { cls := .type "range", data := .fields #[.int lo t, .int hi u, .int 1 v] }).objs.size], _, _, H, rfl,
    I1.kept (t' := tk) fun b o e => Heap.get?_push_of_some _ e, turn_range _ lo (hi - lo).toNat, ?_, fun b hb => ?_, q⟩
  · have e1 : lo + ((0 : Nat) : Int) * 1 = lo := by simp
    have e2 : (((hi - lo).toNat : Nat) : Int) - ((0 : Nat) : Int) = Builtin.Range.rangeSize lo hi 1 := by rw [rangeSize_one]; split <;> omega
    show IsRangeIter _ _ (lo + ((0 : Nat) : Int) * 1) ((((hi - lo).toNat : Nat) : Int) - ((0 : Nat) : Int)) 1
    rw [e1, e2]
    exact Heap.get?_push_size _ rfl
  · have e : b = (s.heap.push { cls := .type "range", data := .fields #[.int lo t, .int hi u, .int 1 v] }).objs.size := by simpa using hb
    subst e
    exact I1.fpOk (Nat.le_refl _) (I1.hok.fresh (Nat.le_refl _))
def iRng1 (ta : TA) : TI := fun σ H R => ta σ H fun vs H1 => ∃ j : Int, vs = [.int j] ∧ -(2 ^ 62) ≤ j ∧ j < 2 ^ 62 ∧ R (Itr 0 j.toNat) H1
def iRng2 (ta : TA) : TI := fun σ H R => ta σ H fun vs H1 => ∃ i j : Int, vs = [.int i, .int j] ∧ (-(2 ^ 62) ≤ i ∧ i < 2 ^ 62 ∧ -(2 ^ 62) ≤ j ∧ j < 2 ^ 62) ∧ R (Itr i (j - i).toNat) H1
theorem pi_range1 {a : Expr} {ta : TA} {p pos : Pos} (hg : Gl X "range") (hm : X.mg "range" = none) (ha : PA X [a] ta) (hs : starEach [a] X.env = [(false, eval a X.env)] := by rfl) : PI X tg (.Call (.Name "range" p) [a] [] pos) (iRng1 ta) := by
  intro pins s σ H R I h
  refine Call_ (ld_blt I hg hm boot_range (PyProof.Rows.callWith_type1 (thn (ha pos pins s σ H _ I h) fun us s1 ⟨vs, H1, I1, r1, q1⟩ => ?_) hs rfl))
  obtain ⟨j, e, q1, q2, q⟩ := q1
  subst e
  cases r1 with
  | cons r rr =>
    cases rr
    obtain ⟨t, rfl⟩ := r
    exact call_range_1 (range_it I1 (by omega) (by omega) q1 q2 (by simpa using q))
theorem pi_range2 {a b : Expr} {ta : TA} {p pos : Pos} (hg : Gl X "range") (hm : X.mg "range" = none) (ha : PA X [a, b] ta) (hs : starEach [a, b] X.env = [(false, eval a X.env), (false, eval b X.env)] := by rfl) (hs2 : starEach [b] X.env = [(false, eval b X.env)] := by rfl) :
    PI X tg (.Call (.Name "range" p) [a, b] [] pos) (iRng2 ta) := by
  intro pins s σ H R I h
  refine Call_ (ld_blt I hg hm boot_range (PyProof.Rows.callWith_type1 (thn (ha pos pins s σ H _ I h) fun us s1 ⟨vs, H1, I1, r1, q1⟩ => ?_) (by rw [hs, hs2]) (by rw [hs2]; rfl)))
  obtain ⟨i, j, e, ⟨q1, q2, q3, q4⟩, q⟩ := q1
  subst e
  cases r1 with
  | cons r rr =>
    cases rr with
    | cons r' rr =>
      cases rr
      obtain ⟨t, rfl⟩ := r
      obtain ⟨t', rfl⟩ := r'
      exact call_range_2 (range_it I1 q1 q2 q3 q4 q)

/-- W: the invariant by the turn and a measure; N: what the body is to reach -/
def tFor (wi : TI) (g : TG) (tb : TS) : TS := fun D σ H => wi σ H fun J H1 => ∃ W : Nat → Nat → St → Hp → Prop, (∃ m, W 0 m σ H1) ∧ ∀ i m σ H, W i m σ H →
  (J.stop i H ∧ D.nx σ H) ∨ (J.go i H ∧ ∃ N : St → Hp → Prop, (∀ σ' H', N σ' H' → ∃ m', m' < m ∧ W (i + 1) m' σ' H') ∧ ∀ x H', J.yld i H x H' → g x σ H' fun σ2 H2 => tb { D with nx := N, ct := N, bk := D.nx } σ2 H2)
/-- the records at fp as they stand -/
def pinsAt (fp : List Addr) (h : Heap) : List (Addr × Obj) := fp.filterMap fun b => (h.get? b).map fun o => (b, o)
theorem mem_pinsAt {fp : List Addr} {h : Heap} {b : Addr} {o : Obj} (hb : b ∈ fp) (e : h.get? b = some o) : (b, o) ∈ pinsAt fp h := List.mem_filterMap.mpr ⟨b, hb, by rw [e]; rfl⟩
theorem of_pinsAt {fp : List Addr} {h : Heap} {p : Addr × Obj} (hp : p ∈ pinsAt fp h) : p.1 ∈ fp ∧ h.get? p.1 = some p.2 := by
  obtain ⟨b, hb, e⟩ := List.mem_filterMap.mp hp
  cases q : h.get? b with
  | none => rw [q] at e; cases e
  | some o =>
    rw [q] at e
    have e' : (b, o) = p := Option.some.inj e
    subst e'
    exact ⟨hb, q⟩
theorem Inv.pinned {pins : List (Addr × Obj)} {σ : St} {H : Hp} {s : Shared} {fp : List Addr} (I : Inv X pins σ H s) (hf : ∀ b ∈ fp, FpOk X pins H b) (ho : ∀ b ∈ fp, ∃ o, s.heap.get? b = some o ∧ ∀ v, o.data ≠ .cell v) : Inv X (pins ++ pinsAt fp s.heap) σ H s :=
  I.pins_of fun p hp => (List.mem_append.mp hp).elim (fun z => I.pin p (List.mem_append_right _ z)) fun z => by
    obtain ⟨hb, e⟩ := of_pinsAt z
    obtain ⟨f0, f1, f2, _⟩ := hf p.1 hb
    obtain ⟨o, e', d⟩ := ho p.1 hb
    rw [e] at e'; cases e'
    exact ⟨e, f0, f1, f2, d⟩
theorem Inv.unpinned {pins pl : List (Addr × Obj)} {σ : St} {H : Hp} {s : Shared} (I : Inv X (pins ++ pl) σ H s) : Inv X pins σ H s := I.pins_of fun p hp => I.pin p (List.mem_append_right _ (List.mem_append_left _ hp))
theorem ps_for {iter : Expr} {body : List Stmt} {wi : TI} {g : TG} {tb : TS} {pos : Pos} (hp : PassesOwn (model X.prog X.w) X.A X.env X.xe) (hc : X.calm = true) (hi : PI X tg iter wi) (hg : PG X tg g) (hb : PSs X body tb)
    (hs : ∀ x, foldedSetIterable iter X.env x = pure x := by intro _; rfl) : PS X (.For tg iter body [] pos) (tFor wi g tb) := by
  intro pins s σ H D I h
  refine wpAny_For (thn (hi pins s σ H _ I h) fun v s1 h1 => thn h1 fun itv s2 h2 => ?_) hs
  obtain ⟨it, fp, tn, J, H2, e, I2, T, st2, f2, W, ⟨m0, w0⟩, turn⟩ := h2
  subst e
  -- what stays true of the iterator's objects through the loop
  have stat : ∀ {H' : Hp}, (∀ b ∈ fp, H' b = none) → ∀ b ∈ fp, FpOk X pins H' b := fun hn b hb => ⟨hn b hb, (f2 b hb).2⟩
  refine codeAny_forLoop_any (fun n s' => ∃ i σ' H', Inv X pins σ' H' s' ∧ tn i s'.heap ∧ (∀ b ∈ fp, H' b = none) ∧ W i n σ' H') ?_ m0 ⟨0, σ, H2, I2, st2, fun b hb => (f2 b hb).1, w0⟩
  rintro n s3 ⟨i, σ3, H3, I3, st3, fr3, w3⟩
  rcases turn i n σ3 H3 w3 with ⟨stop, qn⟩ | ⟨go, N, hN, step⟩
  · refine wpAny_passesOwn hp (thn (T.done X rfl rfl rfl hc i pins s3 σ3 H3 X.xe I3 (stat fr3) st3 stop) fun r s4 ⟨hr, I4⟩ => ?_)
    subst hr
    exact wpAny_execs_nil ⟨σ3, H3, I4, qn⟩
  · refine wpAny_passesOwn hp (thn (T.item X rfl rfl rfl hc i pins s3 σ3 H3 X.xe I3 (stat fr3) st3 go) fun r s4 ⟨u, hr, h4⟩ => ?_)
    subst hr
    refine wpAny_passesOwn hp (thn h4 fun _ s5 ⟨x, H5, I5, r5, y5, st5, fr5⟩ => ?_)
    have I5' := I5.pinned (stat fr5) (T.obj _ _ st5)
    refine wpAny_passesOwn hp (thn (hg _ s5 σ3 H5 x u _ I5' r5 (step x H5 y5)) fun _ s6 ⟨σ6, H6, I6, q6⟩ => ?_)
    refine wpAny_passesOwn hp (thn (hb _ s6 σ6 H6 _ I6 q6) fun f s7 q7 => ?_)
    have again : ∀ {σ7 : St} {H7 : Hp}, Inv X (pins ++ pinsAt fp s5.heap) σ7 H7 s7 → N σ7 H7 → ∃ m, m < n ∧ ∃ i σ' H', Inv X pins σ' H' s7 ∧ tn i s7.heap ∧ (∀ b ∈ fp, H' b = none) ∧ W i m σ' H' := fun {σ7 H7} I7 n7 => by
      obtain ⟨m', hm, w7⟩ := hN σ7 H7 n7
      refine ⟨m', hm, i + 1, σ7, H7, I7.unpinned, T.keep _ _ _ st5 fun b hb o e => (I7.pin (b, o) (List.mem_append_right _ (List.mem_append_right _ (mem_pinsAt hb e)))).1, fun b hb => ?_, w7⟩
      obtain ⟨o, e, d⟩ := T.obj _ _ st5 b hb
      exact (I7.pin (b, o) (List.mem_append_right _ (List.mem_append_right _ (mem_pinsAt hb e)))).2.1
    cases f with
    | next => obtain ⟨σ7, H7, I7, n7⟩ := q7; exact again I7 n7
    | cont => obtain ⟨σ7, H7, I7, n7⟩ := q7; exact again I7 n7
    | brk => obtain ⟨σ7, H7, I7, q7⟩ := q7; exact ⟨σ7, H7, I7.unpinned, q7⟩
    | ret v => obtain ⟨x7, σ7, H7, I7, r7, q7⟩ := q7; exact ⟨x7, σ7, H7, I7.unpinned, r7, q7⟩
end

end L2

namespace L2
open PySem PySem.Spec PyProof.Rows

abbrev R2 := V → V → Hp → VK → Prop
/-- a two-place operation on values: f is binaryOp op, inplaceOp op or compareOp op -/
def OpR (X : Cx) (f : Value → Value → Sem Value) (r : R2) : Prop :=
  ∀ (pins : List (Addr × Obj)) (s : Shared) (σ : St) (H : Hp) (x y : V) (v u : Value) (Q : VK), Inv X pins σ H s → RelV x v → RelV y u → r x y H Q →
    wpAny (model X.prog X.w) X.A (f v u) (EP X pins σ Q) X.xe s
/-- a one-place operation -/
def UnR (X : Cx) (f : Value → Sem Value) (r : V → Hp → VK → Prop) : Prop :=
  ∀ (pins : List (Addr × Obj)) (s : Shared) (σ : St) (H : Hp) (x : V) (v : Value) (Q : VK), Inv X pins σ H s → RelV x v → r x H Q →
    wpAny (model X.prog X.w) X.A (f v) (EP X pins σ Q) X.xe s
/-- a call of a value that is known (a builtin, a type) with values -/
def CallR (X : Cx) (f : Value) (r : List V → Hp → VK → Prop) : Prop :=
  ∀ (pins : List (Addr × Obj)) (s : Shared) (σ : St) (H : Hp) (xs : List V) (us : List Value) (Q : VK), Inv X pins σ H s → Vals xs us → r xs H Q →
    wpAny (model X.prog X.w) X.A (call f us) (EP X pins σ Q) X.xe s
def tOp (r : R2) (ta tb : TE) : TE := fun σ H Q => ta σ H fun x H1 => tb σ H1 fun y H2 => r x y H2 Q
def tUn (r : V → Hp → VK → Prop) (ta : TE) : TE := fun σ H Q => ta σ H fun x H1 => r x H1 Q
/-- ints in, under C, and a value out -/
def rI (C : Int → Int → Prop) (g : Int → Int → V) : R2 := fun x y H Q => ∃ i j, x = .int i ∧ y = .int j ∧ C i j ∧ Q (g i j) H
def rI0 (g : Int → Int → V) : R2 := fun x y H Q => ∃ i j, x = .int i ∧ y = .int j ∧ Q (g i j) H
def rU (g : Int → V) : V → Hp → VK → Prop := fun x H Q => ∃ i, x = .int i ∧ Q (g i) H

section
variable {X : Cx} {a b c : Expr} {ta tb tc : TE} {pos : Pos}

theorem binT (ha : PE X a ta) (hb : PE X b tb) {pins : List (Addr × Obj)} {s : Shared} {σ : St} {H : Hp} {R : V → V → Hp → Prop} (I : Inv X pins σ H s)
    (h : ta σ H fun x H1 => tb σ H1 fun y H2 => R x y H2) {Q : Value → Shared → Prop} {f : Value → Value → Sem Value}
    (hf : ∀ v u s2 x y H2, Inv X pins σ H2 s2 → RelV x v → RelV y u → R x y H2 → wpAny (model X.prog X.w) X.A (f v u) Q X.xe s2) :
    wpAny (model X.prog X.w) X.A (eval a X.env) (fun v s₁ => wpAny (model X.prog X.w) X.A (eval b X.env) (fun u s₂ => wpAny (model X.prog X.w) X.A (f v u) Q X.xe s₂) X.xe s₁) X.xe s := by
  refine thn (ha pins s σ H _ I h) fun v s1 ⟨x, H1, I1, r1, q1⟩ => ?_
  refine thn (hb pins s1 σ H1 _ I1 q1) fun u s2 ⟨y, H2, I2, r2, q2⟩ => ?_
  exact hf v u s2 x y H2 I2 r1 r2 q2

theorem pe_op {op : Operator} {r : R2} (ho : OpR X (binaryOp op) r) (ha : PE X a ta) (hb : PE X b tb) : PE X (.BinOp a op b pos) (tOp r ta tb) := by
  intro pins s σ H Q I h
  exact wpAny_BinOp (binT ha hb I h fun v u s2 x y H2 I2 rx ry q => ho pins s2 σ H2 x y v u Q I2 rx ry q)
theorem pe_un {op : UnaryOp} {r : V → Hp → VK → Prop} (ho : UnR X (unaryOp op) r) (ha : PE X a ta) : PE X (.UnaryOp op a pos) (tUn r ta) := by
  intro pins s σ H Q I h
  exact UnaryOp_ (thn (ha pins s σ H _ I h) fun v s1 ⟨x, H1, I1, r1, q1⟩ => ho pins s1 σ H1 x v Q I1 r1 q1)
theorem opI {f : Value → Value → Sem Value} {C : Int → Int → Prop} {g : Int → Int → Int}
    (rule : ∀ (i j : Int) (t u : Tok) (s : Shared) (Q : Value → Shared → Prop) (E : Value → Shared → Prop), C i j → Q (.int (g i j) s.toks) { s with toks := s.toks + 1 } → wpAny (model X.prog X.w) X.A (f (.int i t) (.int j u)) Q E s) :
    OpR X f (rI C fun i j => .int (g i j)) := by
  intro pins s σ H x y v u Q I rx ry h
  obtain ⟨i, j, rfl, rfl, hc, q⟩ := h
  obtain ⟨t, rfl⟩ := rx
  obtain ⟨t', rfl⟩ := ry
  exact rule i j t t' s _ _ hc ⟨.int (g i j), H, I.tok _, ⟨_, rfl⟩, q⟩
theorem opI0 {f : Value → Value → Sem Value} {g : Int → Int → Int}
    (rule : ∀ (i j : Int) (t u : Tok) (s : Shared) (Q : Value → Shared → Prop) (E : Value → Shared → Prop), Q (.int (g i j) s.toks) { s with toks := s.toks + 1 } → wpAny (model X.prog X.w) X.A (f (.int i t) (.int j u)) Q E s) :
    OpR X f (rI0 fun i j => .int (g i j)) := by
  intro pins s σ H x y v u Q I rx ry h
  obtain ⟨i, j, rfl, rfl, q⟩ := h
  obtain ⟨t, rfl⟩ := rx
  obtain ⟨t', rfl⟩ := ry
  exact rule i j t t' s _ _ ⟨.int (g i j), H, I.tok _, ⟨_, rfl⟩, q⟩
theorem opB0 {f : Value → Value → Sem Value} {g : Int → Int → Bool}
    (rule : ∀ (i j : Int) (t u : Tok) (s : Shared) (Q : Value → Shared → Prop) (E : Value → Shared → Prop), Q (.bool (g i j)) s → wpAny (model X.prog X.w) X.A (f (.int i t) (.int j u)) Q E s) :
    OpR X f (rI0 fun i j => .bl (g i j)) := by
  intro pins s σ H x y v u Q I rx ry h
  obtain ⟨i, j, rfl, rfl, q⟩ := h
  obtain ⟨t, rfl⟩ := rx
  obtain ⟨t', rfl⟩ := ry
  exact rule i j t t' s _ _ ⟨.bl (g i j), H, I, rfl, q⟩

def CDiv (i j : Int) : Prop := 0 < j ∧ j < 1073741824
def CPow (i j : Int) : Prop := 0 ≤ j ∧ j ≤ 1000000 ∧ i.natAbs < 2 ^ 64
def CMul (i j : Int) : Prop := (-(2 ^ 64) < i ∧ i < 2 ^ 64) ∨ (-(2 ^ 64) < j ∧ j < 2 ^ 64)
theorem CMul.ok {i j : Int} (h : CMul i j) : IntMulOk i j := by
  rcases h with ⟨h1, h2⟩ | ⟨h1, h2⟩
  · exact .of_left (intBits_le_64 h1 h2)
  · exact .of_right (intBits_le_64 h1 h2)
theorem op_add : OpR X (binaryOp .Add) (rI0 fun i j => .int (i + j)) := opI0 fun _ _ _ _ _ _ _ q => add_int q
theorem op_sub : OpR X (binaryOp .Sub) (rI0 fun i j => .int (i - j)) := opI0 fun _ _ _ _ _ _ _ q => sub_int q
theorem op_mul : OpR X (binaryOp .Mult) (rI CMul fun i j => .int (i * j)) := opI fun _ _ _ _ _ _ _ hc q => mul_int q hc.ok
/-- // by a positive divisor -/
theorem op_fdiv : OpR X (binaryOp .FloorDiv) (rI CDiv fun i j => .int (i / j)) := opI fun i j _ _ _ _ _ hc q => by
  have h1 : (0 : Int) < j := hc.1
  have h2 : j < 1073741824 := hc.2
  exact floordiv_int (by omega) (by rw [Int.fdiv_eq_ediv_of_nonneg i (by omega)]; exact q) (.inl (PyProof.noPylong_small (by omega)))
/-- % by a positive divisor of any size -/
theorem op_mod : OpR X (binaryOp .Mod) (rI (fun _ j => 0 < j) fun i j => .int (i % j)) := opI fun i j _ _ _ _ _ hc q => by
  have h1 : (0 : Int) < j := hc
  exact mod_int' (by omega) (by rw [Int.fmod_eq_emod_of_nonneg i (by omega)]; exact q)
theorem op_pow : OpR X (binaryOp .Pow) (rI CPow fun i j => .int (i ^ j.toNat)) := opI fun _ _ _ _ _ _ _ hc q => pow_int_small hc.1 hc.2.1 hc.2.2 q
theorem unI {f : Value → Sem Value} {g : Int → Int}
    (rule : ∀ (i : Int) (t : Tok) (s : Shared) (Q : Value → Shared → Prop) (E : Value → Shared → Prop), Q (.int (g i) s.toks) { s with toks := s.toks + 1 } → wpAny (model X.prog X.w) X.A (f (.int i t)) Q E s) :
    UnR X f (rU fun i => .int (g i)) := by
  intro pins s σ H x v Q I rx h
  obtain ⟨i, rfl, q⟩ := h
  obtain ⟨t, rfl⟩ := rx
  exact rule i t s _ _ ⟨.int (g i), H, I.tok _, ⟨_, rfl⟩, q⟩
theorem un_neg : UnR X (unaryOp .USub) (rU fun i => .int (-i)) := unI fun _ _ _ _ _ q => neg_int q
end

/-- the scalars that == tells apart as data does -/
def scal : V → V → Bool
  | .non, .non => true | .non, .int _ => true | .int _, .non => true | .non, .bl _ => true | .bl _, .non => true | .non, .str _ => true | .str _, .non => true
  | .int _, .int _ => true | .bl _, .bl _ => true | .str _, .str _ => true | .byt _, .byt _ => true
  | .int _, .str _ => true | .str _, .int _ => true | .bl _, .str _ => true | .str _, .bl _ => true
  | _, _ => false
def rEq : R2 := fun x y H Q => scal x y = true ∧ Q (.bl (decide (x = y))) H
def rNe : R2 := fun x y H Q => scal x y = true ∧ Q (.bl (!decide (x = y))) H

theorem dec_int {i j : Int} : decide (V.int i = V.int j) = (i == j) := by
  rw [Bool.eq_iff_iff]
  simp
theorem dec_bl {i j : Bool} : decide (V.bl i = V.bl j) = (i == j) := by
  rw [Bool.eq_iff_iff]
  simp
theorem dec_str {i j : Str} : decide (V.str i = V.str j) = (i == j) := by
  rw [Bool.eq_iff_iff]
  simp
theorem dec_byt {i j : Array UInt8} : decide (V.byt i = V.byt j) = (i.toList == j.toList) := by
  rw [Bool.eq_iff_iff]
  cases i
  cases j
  simp

section
variable {X : Cx} {a b c : Expr} {ta tb tc : TE} {pos : Pos}
theorem fin_bl {pins : List (Addr × Obj)} {σ : St} {H : Hp} {s : Shared} {Q : VK} {k k' : Bool} (I : Inv X pins σ H s) (q : Q (.bl k) H) (e : k = k') : EP X pins σ Q (.bool k') s := by
  subst e
  exact ⟨.bl k, H, I, rfl, q⟩
theorem op_eq : OpR X (compareOp .Eq) rEq := by
  intro pins s σ H x y v u Q I rx ry h
  obtain ⟨hs, q⟩ := h
  cases x with
  | non =>
    cases rx
    cases y with
    | non => cases ry; exact PySem.EqNone.eq_none_none (fin_bl I q (by simp))
    | bl j => cases ry; exact PySem.EqNone.eq_none_bool (fin_bl I q (by simp))
    | int j => obtain ⟨t', rfl⟩ := ry; exact PySem.EqNone.eq_none_int (fin_bl I q (by simp))
    | str j => obtain ⟨t', rfl⟩ := ry; exact PySem.EqNone.eq_none_str (fin_bl I q (by simp))
    | _ => exact absurd (show false = true from hs) Bool.false_ne_true
  | bl i =>
    cases rx
    cases y with
    | non => cases ry; exact PySem.EqNone.eq_bool_none (fin_bl I q (by simp))
    | bl j => cases ry; exact eq_bool (fin_bl I q dec_bl)
    | str j => obtain ⟨t', rfl⟩ := ry; exact PySem.EqMixed.eq_bool_str (fin_bl I q (by simp))
    | _ => exact absurd (show false = true from hs) Bool.false_ne_true
  | int i =>
    obtain ⟨t, rfl⟩ := rx
    cases y with
    | non => cases ry; exact PySem.EqNone.eq_int_none (fin_bl I q (by simp))
    | int j => obtain ⟨t', rfl⟩ := ry; exact eq_int (fin_bl I q dec_int)
    | str j => obtain ⟨t', rfl⟩ := ry; exact PySem.EqMixed.eq_int_str (fin_bl I q (by simp))
    | _ => exact absurd (show false = true from hs) Bool.false_ne_true
  | str i =>
    obtain ⟨t, rfl⟩ := rx
    cases y with
    | non => cases ry; exact PySem.EqNone.eq_str_none (fin_bl I q (by simp))
    | bl j => cases ry; exact PySem.EqMixed.eq_str_bool (fin_bl I q (by simp))
    | int j => obtain ⟨t', rfl⟩ := ry; exact PySem.EqMixed.eq_str_int (fin_bl I q (by simp))
    | str j => obtain ⟨t', rfl⟩ := ry; exact eq_str (fin_bl I q dec_str)
    | _ => exact absurd (show false = true from hs) Bool.false_ne_true
  | byt i =>
    obtain ⟨t, rfl⟩ := rx
    cases y with
    | byt j => obtain ⟨t', rfl⟩ := ry; exact PySem.W.eq_bytes (fin_bl I q dec_byt)
    | _ => exact absurd (show false = true from hs) Bool.false_ne_true
  | _ => cases y <;> exact absurd (show false = true from hs) Bool.false_ne_true
theorem op_ne : OpR X (compareOp .NotEq) rNe := by
  intro pins s σ H x y v u Q I rx ry h
  obtain ⟨hs, q⟩ := h
  cases x with
  | non =>
    cases rx
    cases y with
    | non => cases ry; exact PySem.EqNone.ne_none_none (fin_bl I q (by simp))
    | bl j => cases ry; exact PySem.EqNone.ne_none_bool (fin_bl I q (by simp))
    | int j => obtain ⟨t', rfl⟩ := ry; exact PySem.EqNone.ne_none_int (fin_bl I q (by simp))
    | str j => obtain ⟨t', rfl⟩ := ry; exact PySem.EqNone.ne_none_str (fin_bl I q (by simp))
    | _ => exact absurd (show false = true from hs) Bool.false_ne_true
  | bl i =>
    cases rx
    cases y with
    | non => cases ry; exact PySem.EqNone.ne_bool_none (fin_bl I q (by simp))
    | bl j => cases ry; exact ne_bool (fin_bl I q (congrArg not dec_bl))
    | str j => obtain ⟨t', rfl⟩ := ry; exact PySem.EqMixed.ne_bool_str (fin_bl I q (by simp))
    | _ => exact absurd (show false = true from hs) Bool.false_ne_true
  | int i =>
    obtain ⟨t, rfl⟩ := rx
    cases y with
    | non => cases ry; exact PySem.EqNone.ne_int_none (fin_bl I q (by simp))
    | int j => obtain ⟨t', rfl⟩ := ry; exact ne_int (fin_bl I q (congrArg not dec_int))
    | str j => obtain ⟨t', rfl⟩ := ry; exact PySem.EqMixed.ne_int_str (fin_bl I q (by simp))
    | _ => exact absurd (show false = true from hs) Bool.false_ne_true
  | str i =>
    obtain ⟨t, rfl⟩ := rx
    cases y with
    | non => cases ry; exact PySem.EqNone.ne_str_none (fin_bl I q (by simp))
    | bl j => cases ry; exact PySem.EqMixed.ne_str_bool (fin_bl I q (by simp))
    | int j => obtain ⟨t', rfl⟩ := ry; exact PySem.EqMixed.ne_str_int (fin_bl I q (by simp))
    | str j => obtain ⟨t', rfl⟩ := ry; exact ne_str (fin_bl I q (congrArg not dec_str))
    | _ => exact absurd (show false = true from hs) Bool.false_ne_true
  | byt i =>
    obtain ⟨t, rfl⟩ := rx
    cases y with
    | byt j => obtain ⟨t', rfl⟩ := ry; exact PySem.W.ne_bytes (fin_bl I q (congrArg not dec_byt))
    | _ => exact absurd (show false = true from hs) Bool.false_ne_true
  | _ => cases y <;> exact absurd (show false = true from hs) Bool.false_ne_true

theorem op_lt : OpR X (compareOp .Lt) (rI0 fun i j => .bl (decide (i < j))) := opB0 fun _ _ _ _ _ _ _ q => lt_int q
theorem op_le : OpR X (compareOp .LtE) (rI0 fun i j => .bl (decide (i ≤ j))) := opB0 fun _ _ _ _ _ _ _ q => le_int q
theorem op_ge : OpR X (compareOp .GtE) (rI0 fun i j => .bl (decide (j ≤ i))) := opB0 fun _ _ _ _ _ _ _ q => ge_int q
/-- two rules for one operation: by cases -/
theorem OpR.or {f : Value → Value → Sem Value} {r r' : R2} (h : OpR X f r) (h' : OpR X f r') : OpR X f (fun x y H Q => r x y H Q ∨ r' x y H Q) := by
  intro pins s σ H x y v u Q I rx ry q
  rcases q with q | q
  · exact h pins s σ H x y v u Q I rx ry q
  · exact h' pins s σ H x y v u Q I rx ry q

theorem nomark (b : Expr) {op : CmpOp} (h : op ≠ .In := by decide) (h2 : op ≠ .NotIn := by decide) : behindInMarks op b = false := by
  have e1 : (op == CmpOp.In) = false := by cases op <;> first | rfl | exact absurd rfl h
  have e2 : (op == CmpOp.NotIn) = false := by cases op <;> first | rfl | exact absurd rfl h2
  cases b <;> simp [behindInMarks, e1, e2]
/-- a comparison as a value; hm: nomark b, or (for in, not in) by with_unfolding_all rfl -/
theorem pe_cmpR {op : CmpOp} {r : R2} (ho : OpR X (compareOp op) r) (ha : PE X a ta) (hb : PE X b tb) (hm : behindInMarks op b = false) : PE X (.Compare a [op] [b] pos) (tOp r ta tb) := by
  intro pins s σ H Q I h
  exact wpAny_Compare1 (binT ha hb I h fun v u s2 x y H2 I2 rx ry q => ho pins s2 σ H2 x y v u Q I2 rx ry q) hm
/-- a reading of a value as a test -/
def tTest (t : TE) : TT := fun σ H Q => t σ H fun x H' => ∃ k, x = .bl k ∧ Q k H'
theorem pt_cmpR {op : CmpOp} {r : R2} (ho : OpR X (compareOp op) r) (ha : PE X a ta) (hb : PE X b tb) (hm : behindInMarks op b = false) : PT X (.Compare a [op] [b] pos) (tTest (tOp r ta tb)) := by
  intro pins s σ H Q I h
  refine wpAny_isTrue_Compare1 (thn (ha pins s σ H _ I h) fun v s1 ⟨x, H1, I1, r1, q1⟩ => thn (hb pins s1 σ H1 _ I1 q1) fun u s2 ⟨y, H2, I2, r2, q2⟩ =>
    thn (ho pins s2 σ H2 x y v u _ I2 r1 r2 q2) fun c s3 ⟨z, H3, I3, r3, k, e, q3⟩ => ?_) hm
  subst e
  cases r3
  exact wpAny_truthy_bool ⟨H3, I3, q3⟩
theorem line63 : (sizeLine : Nat) < 2 ^ 63 := by rw [sizeLine_eq]; decide
theorem vals1 {x : V} {us : List Value} (r : Vals [x] us) : ∃ u, us = [u] ∧ RelV x u := by
  cases r with
  | cons r1 r2 => cases r2; exact ⟨_, rfl, r1⟩
theorem vals2 {x y : V} {us : List Value} (r : Vals [x, y] us) : ∃ u w', us = [u, w'] ∧ RelV x u ∧ RelV y w' := by
  cases r with
  | cons r1 r2 =>
    cases r2 with
    | cons r3 r4 => cases r4; exact ⟨_, _, rfl, r1, r3⟩
theorem call_min2 (hc : X.calm = true) : CallR X (.builtin "min") (fun xs H Q => ∃ i j, xs = [.int i, .int j] ∧ Q (.int (if j < i then j else i)) H) := by
  intro pins s σ H xs us Q I r h
  obtain ⟨i, j, rfl, q⟩ := h
  obtain ⟨u, w', rfl, ⟨t, rfl⟩, ⟨t', rfl⟩⟩ := vals2 r
  refine min_two_ints (I.ok.hd hc) fun h' tk k => ⟨_, H, I.kept k, ?_, q⟩
  by_cases hj : j < i
  · rw [if_pos hj, if_pos hj]; exact ⟨_, rfl⟩
  · rw [if_neg hj, if_neg hj]; exact ⟨_, rfl⟩
end
end L2

namespace L2
open PySem PySem.Spec PyProof.Rows

structure ObjM (h : Heap) (x dx C : Addr) (mA : Str → Option Value) : Prop where
  obj : h.get? x = some (PySem.W.instObj C dx)
  ns : h.Ns1 dx mA
  ne : dx ≠ x

theorem lookIn_ns {h : Heap} {dx : Addr} {mA : Str → Option Value} (n : h.Ns1 dx mA) : ∃ od, h.get? dx = some od ∧ ∀ name, PySem.W.lookIn name od = some (mA name) := by
  obtain ⟨o, es, ep, ho, hd, hk, _, hm⟩ := n
  refine ⟨o, ho, fun name => ?_⟩
  have e := hm name
  unfold nsFind findBy at e
  rw [← Array.find?_toList] at e
  unfold PySem.W.lookIn
  rw [hd]
  dsimp only
  split
  · rename_i y q
    rw [q] at e
    exact congrArg some e
  · rename_i q
    rw [q] at e
    have a : es.toList.any (·.refKey) = false := by
      rw [List.any_eq_false]
      intro y hy
      obtain ⟨z, t, hkey⟩ := hk y (Array.mem_toList_iff.mp hy)
      simp [DictEntry.refKey, hkey]
    have a' : ¬ es.toList.any (·.refKey) = true := by rw [a]; exact Bool.false_ne_true
    rw [if_neg a']
    exact congrArg some e

theorem ObjM.look {h : Heap} {x dx C : Addr} {mA : Str → Option Value} (I : ObjM h x dx C mA) : ∃ od, PySem.W.InstAt h x (PySem.W.instObj C dx) C (some od) ∧ ∀ name, PySem.W.lookIn name od = some (mA name) :=
  let ⟨od, ho, hl⟩ := lookIn_ns I.ns
  ⟨od, ⟨I.obj, rfl, rfl, ho⟩, hl⟩

section
variable {prog : Program} {w : World} {A : Around} {E : Value → Shared → Prop} {s : Shared} {K : PySem.W.Frag} {x dx C f : Addr} {mA : Str → Option Value} {name : Str} {v : Value}

end

theorem RelO.some_of {v : V} {o : Option Value} (r : RelO (some v) o) : ∃ u, o = some u ∧ RelV v u := by
  cases o with
  | none => exact (show False from r).elim
  | some u => exact ⟨u, rfl, r⟩
section
variable {P : Program} {w : World} {H H' : Hp} {h h' : Heap} {a C dx : Addr} {fs fs' : List (Str × V)}
theorem ins_get (hok : HOk P w H h) (e : H a = some (.ins C dx fs)) : ∃ mA, ObjM h a dx C mA ∧ (∀ f, RelO (fs.lookup f) (mA f)) ∧ PySem.Within mA (fs.map (·.1)) ∧ fs.length ≤ 1000 ∧ H dx = some (.own a) := by
  obtain ⟨d, z, ne, ob, mA, n, r, q⟩ := (show ObjOk P w H h a (.ins C dx fs) from hok a _ e)
  exact ⟨mA, ⟨ob, n, ne⟩, r, q, z, d⟩
end

structure Cls (K : PySem.W.Frag) (C : Addr) : Prop where
  pg : PySem.W.plainGet K C Str.empty = true
  hd : PySem.W.hasDictIn K C = true
  po : PySem.W.plainOver K C = true
  sa : PySem.W.findIn K (.ref C) "__setattr__" = some (some (.builtin "object.__setattr__"))
theorem Cls.get {K : PySem.W.Frag} {C : Addr} (c : Cls K C) (f : Str) : PySem.W.plainGet K C f = true := c.pg
section
variable {X : Cx} {pins : List (Addr × Obj)} {σ : St} {H : Hp} {s : Shared} {a C dx : Addr} {fs : List (Str × V)} {f : Str} {v : V} {A : Around} {E : Value → Shared → Prop}

/-- a new instance, tracked, without attributes -/
theorem Inv.made (I : Inv X pins σ H s) : Inv X pins σ (upd (upd H s.heap.objs.size (.own (s.heap.objs.size + 1))) (s.heap.objs.size + 1) (.ins C s.heap.objs.size []))
    { s with heap := (s.heap.push PySem.W.emptyDict).push (PySem.W.instObj C s.heap.objs.size) } := by
  have e1 : (s.heap.push PySem.W.emptyDict).get? s.heap.objs.size = some PySem.W.emptyDict := Heap.get?_push_size s.heap rfl
  have e2 : ((s.heap.push PySem.W.emptyDict).push (PySem.W.instObj C s.heap.objs.size)).get? (s.heap.objs.size + 1) = some (PySem.W.instObj C s.heap.objs.size) := by
    have := Heap.get?_push_size (s.heap.push PySem.W.emptyDict) (o := PySem.W.instObj C s.heap.objs.size) rfl
    rwa [Heap.size_push] at this
  have e3 : (s.heap.push PySem.W.emptyDict).Ns s.heap.objs.size (fun _ => none) := ⟨PySem.W.emptyDict, #[], _, e1, rfl, (fun e he => absurd he (by simp)), fun _ => rfl⟩
  have I1 := I.laid (a := s.heap.objs.size) (o := .own (s.heap.objs.size + 1)) (h' := s.heap.push PySem.W.emptyDict) (t' := s.toks) (fun b u q => Heap.get?_push_of_some _ q) (Nat.le_refl _) ⟨_, e1⟩
  refine I1.laid (a := s.heap.objs.size + 1) (o := .ins C s.heap.objs.size []) (t' := s.toks) (fun b u q => Heap.get?_push_of_some _ q) (Nat.le_of_eq (Heap.size_push _ _)) ?_
  have ne : s.heap.objs.size ≠ s.heap.objs.size + 1 := Nat.ne_of_lt (Nat.lt_succ_self _)
  refine ⟨by rw [upd_ne ne, upd_same], Nat.zero_le _, ne, e2, fun _ => none, (Heap.Ns1.of_empty e3).at fun o q => Heap.get?_push_of_some _ q, fun _ => True.intro, fun y hy => absurd rfl hy⟩

end

section
variable {X : Cx} {o e value : Expr} {f : Str} {pos pos' tpos : Pos} {ta tv : TE}
end

section
variable {X : Cx} {pins : List (Addr × Obj)} {σ : St} {H : Hp} {s : Shared} {A : Around} {E : Value → Shared → Prop} {Q : Value → Shared → Prop} {c : Value} {b : Bool}
/-- the type of a value, as the fragment's deciders take it; for an instance its class -/
inductive TyOf (K : PySem.W.Frag) (H : Hp) : V → Value → Prop where
  | non : TyOf K H .non (.type "NoneType")
  | bl (x : Bool) : TyOf K H (.bl x) (.type "bool")
  | int (i : Int) : TyOf K H (.int i) (.type "int")
  | str (x : Str) : TyOf K H (.str x) (.type "str")
  | flt (x : UInt64) : TyOf K H (.flt x) (.type "float")
  | lst {a : Addr} {xs : List V} (e : H a = some (.lst xs)) : TyOf K H (.ref a) (.type "list")
  | frz {a : Addr} {o : Obj} {xs : List V} (e : H a = some (.frz o (.lst xs))) : TyOf K H (.ref a) (.type "list")
  | tup {a : Addr} {xs : List V} (e : H a = some (.tup xs)) : TyOf K H (.ref a) (.type "tuple")
  | dK {a : Addr} {kvs : List (Key × V)} (e : H a = some (.dK kvs)) : TyOf K H (.ref a) (.type "dict")
  | dT {a : Addr} {kvs : List (List Key × V)} (e : H a = some (.dT kvs)) : TyOf K H (.ref a) (.type "dict")
  | ins {a C dx : Addr} {fs : List (Str × V)} (e : H a = some (.ins C dx fs)) (cl : Cls K C) (ha : PySem.W.findIn K (.ref C) "__class__" = some (some (.builtin "object.__class__")))
      (hn : PySem.W.specialIn K (.builtin "object.__class__") "__get__" = some (some (.builtin "getset_descriptor.__get__"))) (htk : PySem.W.takesIn K (.builtin "object.__class__") = some true)
      (hm : PySem.W.mroIn K C (.type "object") = some true) : TyOf K H (.ref a) (.ref C)
/-- isinstance(x, c) for one class c, a built-in or an own one: kitOne's answer -/
theorem isinst_ok {x : V} {u t : Value} (I : Inv X pins σ H s) (rx : RelV x u) (ty : TyOf X.K H x t) (e : PySem.W.kitOne X.K t c = some b) (h : ∀ tk, Q (.bool b) { s with toks := tk }) :
    wpAny (model X.prog X.w) A (call (.builtin "isinstance") [u, c]) Q E s := by
  cases ty with
  | non => cases (show u = Value.none from rx); exact PySem.W.kia_one PySem.W.kitx_none I.kIn True.intro e (fun z => nomatch z) h
  | bl y => cases (show u = Value.bool y from rx); exact PySem.W.kia_one PySem.W.kitx_bool I.kIn True.intro e (fun z => nomatch z) h
  | int i => obtain ⟨t, q⟩ := (show ∃ t, u = Value.int i t from rx); cases q; exact PySem.W.kia_one PySem.W.kitx_int I.kIn True.intro e (fun z => nomatch z) h
  | str y => obtain ⟨t, q⟩ := (show ∃ t, u = Value.str y t from rx); cases q; exact PySem.W.kia_one PySem.W.kitx_str I.kIn True.intro e (fun z => nomatch z) h
  | flt y => obtain ⟨t, q⟩ := (show ∃ t, u = Value.float y t from rx); cases q; exact PySem.W.kia_one PySem.W.kitx_float I.kIn True.intro e (fun z => nomatch z) h
  | @lst a xs ea =>
    cases (show u = Value.ref a from rx)
    obtain ⟨_, _, n, _, h1⟩ := (show ObjOk X.prog X.w H s.heap a (.lst xs) from I.hok a _ ea)
    exact PySem.W.kia_one PySem.W.kitx_list I.kIn ⟨_, h1, rfl⟩ e (fun z => nomatch z) h
  | @frz a ob xs ea =>
    cases (show u = Value.ref a from rx)
    obtain ⟨_, _, _, n, _, h1⟩ := (show ObjOk X.prog X.w H s.heap a (.frz ob (.lst xs)) from I.hok a _ ea)
    exact PySem.W.kia_one PySem.W.kitx_list I.kIn ⟨_, h1, rfl⟩ e (fun z => nomatch z) h
  | @tup a xs ea =>
    cases (show u = Value.ref a from rx)
    obtain ⟨_, _, _, p⟩ := (show ObjOk X.prog X.w H s.heap a (.tup xs) from I.hok a _ ea)
    obtain ⟨o, h1, h2, _⟩ := p
    exact PySem.W.kia_one PySem.W.kitx_tuple I.kIn ⟨o, h1, h2⟩ e (fun z => nomatch z) h
  | @dK a kvs ea =>
    cases (show u = Value.ref a from rx)
    obtain ⟨_, _, vs, _, p⟩ := (show ObjOk X.prog X.w H s.heap a (.dK kvs) from I.hok a _ ea)
    obtain ⟨o, es, ep, h1, h2, _⟩ := p
    exact PySem.W.kia_one PySem.W.kitx_dict I.kIn ⟨o, h1, h2.1⟩ e (fun z => nomatch z) h
  | @dT a kvs ea =>
    cases (show u = Value.ref a from rx)
    obtain ⟨_, _, xs, _, o, es, ep, h1, h2, _⟩ := (show ObjOk X.prog X.w H s.heap a (.dT kvs) from I.hok a _ ea)
    exact PySem.W.kia_one PySem.W.kitx_dict I.kIn ⟨o, h1, h2.1⟩ e (fun z => nomatch z) h
  | @ins a C dx fs ea cl ha hn htk hm =>
    cases (show u = Value.ref a from rx)
    obtain ⟨mA, O, _⟩ := ins_get I.hok ea
    obtain ⟨od, J, _⟩ := O.look
    exact PySem.W.kia_one (PySem.W.kitx_own (cl.get _) cl.hd ha hn htk hm) I.kIn J e (fun z => nomatch z) h
end
end L2

namespace L2
open PySem PySem.Spec PyProof.Rows

structure Room (k : Nat) (A : Around) : Prop where
  hd : A.handled = none
  dp : A.depth + 3 * k + 5 < recursionLimit
  un : A.units + 16 * k + 200 < cLine
theorem Room.mono {j k : Nat} {A : Around} (r : Room k A) (h : j ≤ k) : Room j A := ⟨r.hd, by have := r.dp; omega, by have := r.un; omega⟩
theorem Room.deeper {k : Nat} {A : Around} (r : Room (k + 1) A) (env : Env) : Room k (A.deeper env) :=
  ⟨r.hd, by have := r.dp; show A.depth + 1 + 3 * k + 5 < _; omega, by have := r.un; show A.units + 3 + 16 * k + 200 < _; omega⟩
theorem Room.in1 {k : Nat} {A : Around} (r : Room (k + 1) A) : Room k A.in1 :=
  ⟨r.hd, by have := r.dp; show A.depth + 3 * k + 5 < _; omega, by have := r.un; show A.units + 1 + 16 * k + 200 < _; omega⟩
theorem Room.depth {k : Nat} {A : Around} (r : Room k A) : A.depth < recursionLimit := by have := r.dp; omega
theorem Room.units {k : Nat} {A : Around} (r : Room k A) : A.units + 64 < cLine := by have := r.un; omega
theorem Room.units0 {k : Nat} {A : Around} (r : Room k A) : A.units < cLine := by have := r.un; omega

def tNil : TA := fun _ H Q => Q [] H
def tCons (ta : TE) (tr : TA) : TA := fun σ H Q => ta σ H fun x H1 => tr σ H1 fun xs H2 => Q (x :: xs) H2
section
variable {X : Cx} {e : Expr} {es : List Expr} {te : TE} {t : TA} {pos : Pos}
theorem pa_nil : PA X [] tNil := fun _ _ _ _ H Q I h => Calls.spliced_nil ⟨[], H, I, .nil, h⟩
theorem pa_cons (ha : PE X e te) (hr : PA X es t) (hs : starEach (e :: es) X.env = (false, eval e X.env) :: starEach es X.env := by rfl) : PA X (e :: es) (tCons te t) := by
  intro pos pins s σ H Q I h
  rw [hs]
  show wpAny _ _ (spliced ((false, eval e X.env) :: backTo pos (starEach es X.env))) _ _ s
  refine Calls.spliced_cons (thn (ha pins s σ H _ I h) fun u s1 ⟨x, H1, I1, r1, q1⟩ => ?_)
  exact thn (hr pos pins s1 σ H1 _ I1 q1) fun us s2 ⟨xs, H2, I2, r2, q2⟩ => ⟨x :: xs, H2, I2, .cons r1 r2, q2⟩

/-- a tuple, a list of written items -/
def tTup (t : TA) : TE := fun σ H Q => t σ H fun xs H1 => xs.length ≤ sizeLine ∧ ∀ p, H1 p = none → Q (.ref p) (upd H1 p (.tup xs))
def tLst (t : TA) : TE := fun σ H Q => t σ H fun xs H1 => xs.length ≤ sizeLine ∧ ∀ p, H1 p = none → Q (.ref p) (upd H1 p (.lst xs))
theorem pe_tup {x1} (h : PA X es t) : PE X (.Tuple es x1 pos) (tTup t) := by
  intro pins s σ H Q I hq
  refine wpAny_Tuple_spliced (thn (h pos pins s σ H _ I hq) fun us s1 ⟨xs, H1, I1, r, z, q⟩ => ⟨by rw [← r.length]; exact z, ?_⟩)
  have hf : H1 s1.heap.objs.size = none := I1.hok.fresh (Nat.le_refl _)
  refine ⟨.ref s1.heap.objs.size, upd H1 s1.heap.objs.size (.tup xs), I1.laid (t' := s1.toks) (fun b u e => Heap.get?_push_of_some _ e) (Nat.le_refl _) ?_, rfl, q _ hf⟩
  exact ⟨z, us, r, ⟨_, Heap.get?_push_size _ rfl, rfl, ⟨_, rfl⟩, rfl⟩⟩
theorem pe_lst (h : PA X es t) : PE X (.List es pos) (tLst t) := by
  intro pins s σ H Q I hq
  refine wpAny_List_spliced (thn (h pos pins s σ H _ I hq) fun us s1 ⟨xs, H1, I1, r, z, q⟩ => ⟨by rw [← r.length]; exact z, ?_⟩)
  have hf : H1 s1.heap.objs.size = none := I1.hok.fresh (Nat.le_refl _)
  refine ⟨.ref s1.heap.objs.size, upd H1 s1.heap.objs.size (.lst xs), I1.laid (t' := s1.toks) (fun b u e => Heap.get?_push_of_some _ e) (Nat.le_refl _) ?_, rfl, q _ hf⟩
  exact ⟨z, us, 0, r, Heap.get?_push_size _ rfl⟩
end

/-- a def's promise: the bound arguments in the parameters' order, the heap, the wanted end, the wanted exception -/
abbrev Sp := List V → Hp → VK → XK → Prop
/-- how an exception lies behind a call (file 08 gives it): the callers' frames, abstract heap and state ahead of the call, the wish, the exception, the state -/
abbrev CXT := List Env → Hp → Shared → XK → Value → Shared → Prop

/-- the state at a call -/
structure Env0 (P : Program) (w : World) (K : PySem.W.Frag) (mg : Str → Option Value) (base : Heap) (A : Around) (outer : List Env) (s : Shared) (H : Hp) : Prop where
  frames : A.frames = some outer
  mod : Mod K mg base
  bs : ∀ b o, base.get? b = some o → s.heap.get? b = some o ∧ H b = none
  bsz : base.objs.size ≤ s.heap.objs.size
  funs : s.heap.FunFrames base outer
  frf : ∀ b ∈ frs outer, H b = none
  hok : HOk P w H s.heap
  bare : AllBare s.gens
/-- a call's end -/
def CE (outer : List Env) (P : Program) (w : World) (H : Hp) (s : Shared) (Q : VK) (u : Value) (s' : Shared) : Prop :=
  ∃ v H', s'.os = s.os ∧ AllBare s'.gens ∧ Un (frs outer) [] H H' s.heap s'.heap ∧ HOk P w H' s'.heap ∧ RelV v u ∧ Q v H'
def CR (CX : CXT) (outer : List Env) (P : Program) (w : World) (H : Hp) (s : Shared) (Q : VK) (E : XK) (r : Result) (s' : Shared) : Prop :=
  match r with
  | .ok (.ret u) => CE outer P w H s Q u s'
  | .ok _ => False
  | .error e => CX outer H s E e s'
structure FnOk (P : Program) (w : World) (K : PySem.W.Frag) (mg : Str → Option Value) (base : Heap) (CX : CXT) (k : Nat) (f : Addr) (fd : FuncData) (ps : List Str) (sp : Sp) : Prop where
  len : ∀ vs H Q E, sp vs H Q E → vs.length = ps.length
  run : ∀ (A : Around) (outer : List Env) (s : Shared) (H : Hp) (args : Args) (us : List Value) (vs : List V) (Q : VK) (E : XK), Room k A → Env0 P w K mg base A outer s H → BindsTo s fd args (ps.zip us) → Vals vs us → sp vs H Q E →
    codeAny (model P w) A (.call (.ref f) args) (CR CX outer P w H s Q E) s
theorem FnOk.mono {P : Program} {w : World} {K : PySem.W.Frag} {mg : Str → Option Value} {base : Heap} {CX : CXT} {j k : Nat} {f : Addr} {fd : FuncData} {ps : List Str} {sp : Sp} (F : FnOk P w K mg base CX j f fd ps sp) (h : j ≤ k) :
    FnOk P w K mg base CX k f fd ps sp := ⟨F.len, fun A outer s H args us vs Q E hr => F.run A outer s H args us vs Q E (hr.mono h)⟩
/-- a weaker promise -/
theorem FnOk.imp {P : Program} {w : World} {K : PySem.W.Frag} {mg : Str → Option Value} {base : Heap} {CX : CXT} {k : Nat} {f : Addr} {fd : FuncData} {ps : List Str} {sp sp' : Sp} (F : FnOk P w K mg base CX k f fd ps sp)
    (h : ∀ vs H Q E, sp' vs H Q E → sp vs H Q E) : FnOk P w K mg base CX k f fd ps sp' :=
  ⟨fun vs H Q E q => F.len vs H Q E (h _ _ _ _ q), fun A outer s H args us vs Q E hr he hb hv hs => F.run A outer s H args us vs Q E hr he hb hv (h _ _ _ _ hs)⟩

theorem Env0.in1 {P : Program} {w : World} {K : PySem.W.Frag} {mg : Str → Option Value} {base : Heap} {A : Around} {outer : List Env} {s : Shared} {H : Hp} (e : Env0 P w K mg base A outer s H) :
    Env0 P w K mg base A.in1 outer s H := ⟨e.frames, e.mod, e.bs, e.bsz, e.funs, e.frf, e.hok, e.bare⟩

section
variable {X : Cx} {pins : List (Addr × Obj)} {σ : St} {H : Hp} {s s' : Shared}
/-- from a body: what a callee wants -/
theorem Inv.env0 (I : Inv X pins σ H s) : Env0 X.prog X.w X.K X.mg X.base X.A X.stack s H :=
  ⟨I.ok.frames, I.ok.mod, I.bs, Nat.le_trans I.ok.bsz I.sz, I.stack, I.stkFree, I.hok, I.bare⟩
/-- behind a call -/
theorem Inv.after {Q : VK} {u : Value} (I : Inv X pins σ H s) (h : CE X.stack X.prog X.w H s Q u s') : EP X pins σ Q u s' := by
  obtain ⟨v, H', os, bare, un, hok, r, q⟩ := h
  obtain ⟨hh, g, d, t, os'⟩ := s'
  obtain rfl : os' = s.os := os
  exact ⟨v, H', I.call (h' := hh) (g' := g) (d' := d) (t' := t) (ch := []) un hok bare (fun b z => absurd z (by simp)), r, q⟩
end

/-- f(..): the written arguments, then the defaults dvs; E: what is wanted of an exception -/
def tCall (sp : Sp) (dvs : List V) (E : XK) (t : TA) : TE := fun σ H Q => t σ H fun vs H1 => sp (vs ++ dvs) H1 Q E
/-- how the parameters are bound: us the positional arguments, kw the keywords' values by name, ds the defaults that fill up -/
def Binds (K : PySem.W.Frag) (fd : FuncData) (ps : List Str) (ds : List Value) : Prop :=
  ∀ (s : Shared) (us : List Value), K.In s.heap → (us ++ ds).length = ps.length → BindsTo s fd ⟨us, []⟩ (ps.zip (us ++ ds))
/-- every parameter is given -/
theorem Binds.all {K : PySem.W.Frag} {fd : FuncData} {ps : List Str} (h : ∀ us : List Value, us.length = ps.length → bindArgs fd ⟨us, []⟩ = pure (ps.zip us)) : Binds K fd ps [] := fun s us _ hl => by
  rw [List.append_nil] at hl ⊢
  exact .of_eq (h us hl)

/-- an exception of a callee reaches what this body wants of exceptions -/
def Passes (CX : CXT) (X : Cx) (E : XK) : Prop := ∀ (pins : List (Addr × Obj)) (σ : St) (H : Hp) (s : Shared) (e : Value) (s' : Shared), Inv X pins σ H s → CX X.stack H s E e s' → X.xe e s'

section
variable {X : Cx} {CX : CXT} {k : Nat} {f C : Addr} {fd : FuncData} {ps : List Str} {sp : Sp} {dvs : List V} {ds : List Value} {E : XK} {x m : Str} {p pos apos : Pos} {e o : Expr} {es : List Expr} {ta : TE} {t : TA}

/-- the callee runs -/
theorem run_fn {pins : List (Addr × Obj)} {σ : St} {H : Hp} {s : Shared} {Q : VK} {us : List Value} {vs : List V} (F : FnOk X.prog X.w X.K X.mg X.base CX k f fd ps sp) (hr : Room k X.A) (hb : Binds X.K fd ps ds) (hd : Vals dvs ds) (hx : Passes CX X E)
    (I : Inv X pins σ H s) (r : Vals vs us) (h : sp (vs ++ dvs) H Q E) : wpAny (model X.prog X.w) X.A (call (.ref f) us) (EP X pins σ Q) X.xe s := by
  have r2 : Vals (vs ++ dvs) (us ++ ds) := r.append hd
  have hl : (us ++ ds).length = ps.length := by rw [← r2.length]; exact F.len _ _ _ _ h
  refine wpAny_call (codeAny_mono (F.run X.A X.stack s H ⟨us, []⟩ (us ++ ds) (vs ++ dvs) Q E hr I.env0 (hb s us I.kIn hl) r2 h) fun r s' hq => ?_)
  cases r with
  | error e => exact hx pins σ H s e s' I hq
  | ok fl =>
    cases fl with
    | ret u => exact I.after hq
    | next => exact False.elim hq
    | brk => exact False.elim hq
    | cont => exact False.elim hq

theorem pe_call (F : FnOk X.prog X.w X.K X.mg X.base CX k f fd ps sp) (hr : Room k X.A) (hg : Gl X x) (hm : X.mg x = some (.ref f)) (hk : PySem.W.keepIn X.K (.ref f) = true) (hb : Binds X.K fd ps ds) (hd : Vals dvs ds) (hx : Passes CX X E)
    (ha : PA X (e :: es) t) (hdb : (x == ("__debug__" : Str)) = false := by decide) (he : starEach (e :: es) X.env = (false, eval e X.env) :: starEach es X.env := by rfl) (hpl : (backTo pos (starEach es X.env)).any (·.1) = false := by rfl) :
    PE X (.Call (.Name x p) (e :: es) [] pos) (tCall sp dvs E t) := by
  intro pins s σ H Q I h
  refine wpAny_Call_Name_kw (ld_glob I hg hm ?_ hdb)
  refine PySem.W.callWith_K (h₀ := X.base) I.ok.mod.kin hk (thn (ha pos pins s σ H _ I h) fun us s1 ⟨vs, H1, I1, r, q⟩ => ⟨I1.kIn, ?_⟩) he hpl
  exact run_fn F hr hb hd hx I1 r q
end

section
variable {X : Cx} {CX : CXT} {k : Nat} {f C : Addr} {fd : FuncData} {ps ks : List Str} {sp : Sp} {E : XK} {x m : Str} {p pos apos kpos : Pos} {e o : Expr} {es : List Expr} {kws : List Keyword} {te ta : TE} {t tk : TA} {nm : Option Str}
variable {g : List Value → List Value → List Value} {gV : List V → List V → List V}
end

/-- names: the parameters first -/
structure FnScope (N P : List Str) (sc : Scope) : Prop where
  kind : sc.kind = .function
  co : sc.isCoroutine = false
  gen : sc.isGenerator = false
  nd : N.Nodup
  pre : N.take P.length = P
  par : ∀ x ∈ P, sc.names.lookup x = some .local ∨ sc.names.lookup x = some .cell
  nofree : ∀ y ∈ sc.names, y.2 ≠ .free

theorem bindL_out {kindOf : Str → Option NameKind} {x : Str} : ∀ {binds : List (Str × Value)} {m : Str → Option Value}, (∀ v, (x, v) ∉ binds) → bindL kindOf binds m x = m x
  | [], _, _ => rfl
  | (n, v) :: r, m, h => by
    unfold bindL
    rw [bindL_out fun w hw => h w (List.mem_cons_of_mem _ hw)]
    split
    · have : x ≠ n := by rintro rfl; exact h v List.mem_cons_self
      simp [this]
    · rfl
theorem bindC_out {kindOf : Str → Option NameKind} {x : Str} : ∀ {binds : List (Str × Value)} {m : Str → Option Value}, (∀ v, (x, v) ∉ binds) → bindC kindOf binds m x = m x
  | [], _, _ => rfl
  | (n, v) :: r, m, h => by
    unfold bindC
    rw [bindC_out fun w hw => h w (List.mem_cons_of_mem _ hw)]
    split
    · rfl
    · have : x ≠ n := by rintro rfl; exact h v List.mem_cons_self
      simp [this]
theorem bindL_get {kindOf : Str → Option NameKind} {x : Str} {v : Value} : ∀ {P : List Str} {vs : List Value} {i : Nat} {m : Str → Option Value}, P.Nodup → P[i]? = some x → vs[i]? = some v → kindOf x = some .local →
    bindL kindOf (P.zip vs) m x = some v
  | [], _, _, _, _, h, _, _ => by simp at h
  | _ :: _, [], _, _, _, _, h, _ => by simp at h
  | p :: P, w :: vs, 0, m, nd, h1, h2, hk => by
    simp at h1 h2; subst h1; subst h2
    show bindL kindOf ((p, w) :: P.zip vs) m p = _
    unfold bindL
    rw [bindL_out fun v hv => (List.nodup_cons.mp nd).1 (List.of_mem_zip hv).1, if_pos hk]
    simp
  | p :: P, w :: vs, i + 1, m, nd, h1, h2, hk => by
    show bindL kindOf ((p, w) :: P.zip vs) m x = _
    unfold bindL
    exact bindL_get (i := i) (List.nodup_cons.mp nd).2 (by simpa using h1) (by simpa using h2) hk
theorem bindC_get {kindOf : Str → Option NameKind} {x : Str} {v : Value} : ∀ {P : List Str} {vs : List Value} {i : Nat} {m : Str → Option Value}, P.Nodup → P[i]? = some x → vs[i]? = some v → kindOf x ≠ some .local →
    bindC kindOf (P.zip vs) m x = some v
  | [], _, _, _, _, h, _, _ => by simp at h
  | _ :: _, [], _, _, _, _, h, _ => by simp at h
  | p :: P, w :: vs, 0, m, nd, h1, h2, hk => by
    simp at h1 h2; subst h1; subst h2
    show bindC kindOf ((p, w) :: P.zip vs) m p = _
    unfold bindC
    rw [bindC_out fun v hv => (List.nodup_cons.mp nd).1 (List.of_mem_zip hv).1, if_neg hk]
    simp
  | p :: P, w :: vs, i + 1, m, nd, h1, h2, hk => by
    show bindC kindOf ((p, w) :: P.zip vs) m x = _
    unfold bindC
    exact bindC_get (i := i) (List.nodup_cons.mp nd).2 (by simpa using h1) (by simpa using h2) hk

/-- the names' values at the entry -/
def start (N : List Str) (vs : List V) : St := vs.map some ++ List.replicate (N.length - vs.length) none

/-- the context of a def's body, at its entry; an exception leaves the frame, then lies as CX says -/
def cxOf (CX : CXT) (P : Program) (w : World) (K : PySem.W.Frag) (mg : Str → Option Value) (base : Heap) (N : List Str) (qual : Str) (scope : Scope) (f : Addr) (cd : Value) (A : Around) (outer : List Env) (s : Shared) (H : Hp) (E : XK) : Cx where
  prog := P
  w := w
  K := K
  mg := mg
  base := base
  A := A.deeper (envOfC qual scope s.heap.objs.size f cd)
  N := N
  s₀ := s
  H₀ := H
  env := envOfC qual scope s.heap.objs.size f cd
  outer := outer
  stack := envOfC qual scope s.heap.objs.size f cd :: outer
  ex := []
  calm := true
  fn := fun _ => true
  pn := []
  xe := fun e s' => wpAny (model P w) (A.deeper (envOfC qual scope s.heap.objs.size f cd)) (leaving (envOfC qual scope s.heap.objs.size f cd) e) (fun _ s'' => CX outer H s E e s'') (fun e' s'' => CX outer H s E e' s'') s'

theorem cell_has {sc : Scope} {n : Nat} {x : Str} (h : sc.names.lookup x = some .cell) : ∃ c, (cellsFrom n sc.names []).lookup x = some c := by
  have q := PySem.W.cellsFrom_some sc.names n [] (.inl h)
  exact Option.isSome_iff_exists.mp q

theorem inv_start {CX : CXT} {P : Program} {w : World} {K : PySem.W.Frag} {mg : Str → Option Value} {base : Heap} {N ps : List Str} {qual : Str} {scope : Scope} {f : Addr} {cd : Value} {A : Around} {outer : List Env} {s s1 : Shared} {H : Hp} {E : XK} {us : List Value} {vs : List V}
    (S : FnScope N ps scope) (hd : A.handled = none) (e0 : Env0 P w K mg base A outer s H) (hl : vs.length = ps.length) (r : Vals vs us)
    (x : InCallC s s.heap.objs.size (bindL (envOfC qual scope s.heap.objs.size f cd).kindOf (ps.zip us) fun _ => none) (cellsFrom (s.heap.objs.size + 1) scope.names []) (bindC (envOfC qual scope s.heap.objs.size f cd).kindOf (ps.zip us) fun _ => none) s1) :
    Inv (cxOf CX P w K mg base N qual scope f cd A outer s H E) [] (start N vs) H s1 := by
  have hpl : ps.length ≤ N.length := by have := congrArg List.length S.pre; rw [List.length_take] at this; omega
  obtain ⟨h1, tk, rfl, hk⟩ := x.done
  have noA : ∀ b : Addr, b ∉ (cxOf CX P w K mg base N qual scope f cd A outer s H E).ex := fun b z => absurd (show b ∈ ([] : List Addr) from z) (by simp)
  refine ⟨⟨e0.mod, S.kind, rfl, rfl, Nat.le_refl _, fun y z c h1 h2 => ?_, fun y hy => ?_, fun y c _ h => ?_, fun _ => hd, Around.frames_deeper e0.frames, .inr ⟨rfl, rfl⟩, fun b z => absurd z (noA b), e0.bs, e0.bsz, fun b _ _ => noA b, fun b z => absurd z (noA b), e0.funs, e0.frf⟩,
    rfl, e0.bare, Un.kept hk, ⟨_, x.toInCall.ns, fun i y v h1 h2 h3 => ?_⟩, fun y c h => ⟨_, x.cell y c h⟩, e0.hok.fresh (Nat.le_refl _), fun y c h => ?_, fun p hp => absurd (show p ∈ ([] : List (Addr × Obj)) from hp) (by simp), e0.hok.kept hk, ?_⟩
  · exact name_of_addr x.apart (PySem.mem_of_lookup h1) (PySem.mem_of_lookup h2)
  · have hy : scope.names.lookup y = some .cell ∨ scope.names.lookup y = some .free := hy
    rcases hy with hy | hy
    · exact cell_has hy
    · exact absurd rfl (S.nofree _ (PySem.mem_of_lookup hy))
  · exact Nat.le_of_lt (x.above y c (PySem.mem_of_lookup h))
  · have hi : i < vs.length := by
      unfold start at h2
      by_cases hi : i < vs.length
      · exact hi
      · rw [List.getElem?_append_right (by simpa using hi)] at h2
        rw [List.getElem?_replicate] at h2
        split at h2 <;> cases h2
    have ha : vs[i]? = some v := by
      unfold start at h2
      rw [List.getElem?_append_left (by simpa using hi), List.getElem?_map] at h2
      cases e : vs[i]? with
      | none => rw [e] at h2; cases h2
      | some a => rw [e] at h2; cases h2; rfl
    obtain ⟨u, hu, rv⟩ := r.get ha
    have hp : ps[i]? = some y := by
      rw [← S.pre, List.getElem?_take_of_lt (by omega)]; exact h1
    have ndP : ps.Nodup := by rw [← S.pre]; exact S.nd.sublist (List.take_sublist _ _)
    refine ⟨u, rv, ?_⟩
    rcases S.par y (List.mem_of_getElem? hp) with k | k
    · exact .inl ⟨k, bindL_get ndP hp hu k⟩
    · obtain ⟨c, e⟩ := cell_has (n := s.heap.objs.size + 1) k
      refine .inr ⟨.inl k, c, e, ?_⟩
      have q := x.cell y c e
      rw [bindC_get ndP hp hu (by show scope.names.lookup y ≠ _; rw [k]; decide)] at q
      exact q
  · exact e0.hok.fresh (Nat.le_of_lt (x.above y c (PySem.mem_of_lookup h)))
  · unfold start
    show _ = N.length
    rw [List.length_append, List.length_map, List.length_replicate]
    omega

/-- THE RULE: a def (or a method) of the text, by its body. The body's reading t is chosen for each entry; it is run at the parameters' values -/
theorem fn_of {CX : CXT} {P : Program} {w : World} {K : PySem.W.Frag} {mg : Str → Option Value} {base : Heap} {k : Nat} {f : Addr} {name qual : Str} {params : Arguments} {body : List Stmt} {scope : Scope} {dV kV doc pm cdv ct oc : Value} {an od : Option Addr}
    {osl : Array (Option Value)} {N ps : List Str} {sp : Sp} (lk : K.lookup f = some ⟨oc, od, .func (PySem.W.fnOf name qual params body scope dV kV doc pm an cdv ct), osl⟩) (hcd : PySem.W.codeIn K cdv qual = true) (S : FnScope N ps scope)
    (len : ∀ vs H Q E, sp vs H Q E → vs.length = ps.length)
    (hbody : ∀ (A : Around) (outer : List Env) (s : Shared) (H : Hp) (vs : List V) (Q : VK) (E : XK), Room k (A.deeper (envOfC qual scope s.heap.objs.size f cdv)) → sp vs H Q E →
      ∃ t, PSs (cxOf CX P w K mg base N qual scope f cdv A outer s H E) body t ∧ t { nx := fun _ H' => Q .non H', rt := Q } (start N vs) H) :
    FnOk P w K mg base CX (k + 1) f (PySem.W.fnOf name qual params body scope dV kV doc pm an cdv ct) ps sp := by
  refine ⟨len, fun A outer s H args us vs Q E hr e0 hb r hsp => ?_⟩
  have hl := len _ _ _ _ hsp
  have KX : K.In s.heap := e0.mod.kin.keeps fun b o e => (e0.bs b o e).1
  have lim : s.heap.NoLimit := e0.mod.nolimit.keeps fun b o e => (e0.bs b o e).1
  have hkind : ∀ y ∈ ps.zip us, scope.names.lookup y.1 = some .local ∨ (scope.names.lookup y.1 = some .cell ∧ ((cellsFrom (s.heap.objs.size + 1) scope.names []).lookup y.1).isSome = true) := fun ⟨n, v⟩ hy => by
    rcases S.par n (List.of_mem_zip hy).1 with q | q
    · exact .inl q
    · exact .inr ⟨q, PySem.W.cellsFrom_some _ _ _ (.inl q)⟩
  refine codeAny_call_function hr.depth (KX _ _ lk) rfl S.co S.gen rfl (PySem.W.codeRec_of KX hcd) (hb _ _ _ _ ?_)
  refine wpAny_newFunctionEnv_cells S.kind hkind fun env he s1 x => ?_
  subst he
  refine ⟨lim.keeps x.toInCall.keep, codeAny_func ?_⟩
  obtain ⟨t, ht, hq⟩ := hbody A outer s H vs Q E (hr.deeper _) hsp
  have I : Inv (cxOf CX P w K mg base N qual scope f cdv A outer s H E) [] (start N vs) H s1 := inv_start S hr.hd e0 hl r x
  refine wpAny_mono (ht [] s1 (start N vs) H _ I hq) (fun fl s' hs => ?_) fun e s' hs => hs
  have fin : ∀ {σ' : St} {H' : Hp} {v : V} {u : Value}, Inv (cxOf CX P w K mg base N qual scope f cdv A outer s H E) [] σ' H' s' → RelV v u → Q v H' → CE outer P w H s Q u s' :=
    fun {σ' H' v u} J rv q => ⟨v, H', J.os, J.bare, J.base, J.hok, rv, q⟩
  cases fl with
  | ret u =>
    obtain ⟨v, σ', H', J, rv, q⟩ := hs
    exact fin J rv q
  | next =>
    obtain ⟨σ', H', J, q⟩ := hs
    exact fin (v := V.non) (u := Value.none) J rfl q
  | brk =>
    obtain ⟨_, _, _, q⟩ := hs
    exact False.elim q
  | cont =>
    obtain ⟨_, _, _, q⟩ := hs
    exact False.elim q
end L2

namespace L2
open PySem PySem.Spec PyProof.Rows
section
variable {X : Cx} {x : Str} {p pos : Pos} {e : Expr} {es : List Expr} {t : TA} {id T : String} {r : List V → Hp → VK → Prop}

def tCB (r : List V → Hp → VK → Prop) (t : TA) : TE := fun σ H Q => t σ H fun vs H1 => r vs H1 Q
/-- f(e, ..), f a built-in function -/
theorem pe_callB (hc : CallR X (.builtin id) r) (hg : Gl X x) (hm : X.mg x = none) (hv : bootBuiltins x = some (.builtin id)) (ha : PA X (e :: es) t) (hn : x ≠ "__name__" := by decide) (hdb : (x == ("__debug__" : Str)) = false := by decide)
    (he : starEach (e :: es) X.env = (false, eval e X.env) :: starEach es X.env := by rfl) (hpl : (backTo pos (starEach es X.env)).any (·.1) = false := by rfl) : PE X (.Call (.Name x p) (e :: es) [] pos) (tCB r t) := by
  intro pins s σ H Q I h
  refine wpAny_Call_Name_kw (ld_blt I hg hm hv ?_ hn hdb)
  exact PyProof.Rows.callWith_builtin1 (thn (ha pos pins s σ H _ I h) fun us s1 ⟨vs, H1, I1, r1, q1⟩ => hc pins s1 σ H1 vs us Q I1 r1 q1) he hpl
/-- T(e, ..), T a built-in type -/
theorem pe_callTy (hc : CallR X (.type T) r) (hg : Gl X x) (hm : X.mg x = none) (hv : bootBuiltins x = some (.type T)) (ha : PA X (e :: es) t) (hn : x ≠ "__name__" := by decide) (hdb : (x == ("__debug__" : Str)) = false := by decide)
    (he : starEach (e :: es) X.env = (false, eval e X.env) :: starEach es X.env := by rfl) (hpl : (backTo pos (starEach es X.env)).any (·.1) = false := by rfl) : PE X (.Call (.Name x p) (e :: es) [] pos) (tCB r t) := by
  intro pins s σ H Q I h
  refine wpAny_Call_Name_kw (ld_blt I hg hm hv ?_ hn hdb)
  exact PyProof.Rows.callWith_type1 (thn (ha pos pins s σ H _ I h) fun us s1 ⟨vs, H1, I1, r1, q1⟩ => hc pins s1 σ H1 vs us Q I1 r1 q1) he hpl
end
end L2

namespace HT
open PySem PyProof.Rows

section
open PySem.SeqAt
open PySem.AutoSeq1 (wpAny_loadPart')
open PySem.MeetsSeq PySem.MeetsSeq2 PySem.MeetsSeq3

end

section
variable {prog : Program} {w : World} {A : Around} {E : Value → Shared → Prop} {s : Shared}

/-- t + u, t not empty -/
theorem cat_tup {t b : Addr} {vs ws : List Value} {Q : Value → Shared → Prop} (ht : IsTup s.heap t vs.toArray) (hb : IsTup s.heap b ws.toArray) (hv : vs ≠ [])
    (h1 : ws = [] → Q (.ref t) s) (h2 : ws ≠ [] → Q (.ref s.heap.objs.size) { s with heap := s.heap.push { cls := .type "tuple", data := .seq (vs ++ ws).toArray } })
    (hsz : vs.length + ws.length ≤ sizeLine) : wpAny (model prog w) A (binaryOp .Add (.ref t) (.ref b)) Q E s := by
  obtain ⟨⟨cls, dd, data, sl⟩, ho, hc, n, hd⟩ := id ht
  obtain ⟨⟨cls2, dd2, data2, sl2⟩, ho2, hc2, n2, hd2⟩ := id hb
  simp only at hc hd hc2 hd2
  subst hc hd hc2 hd2
  have e : vs.toArray ++ ws.toArray = (vs ++ ws).toArray := by simp
  by_cases hw : ws = []
  · exact concat_meets ⟨_, ho, rfl⟩ ⟨_, ho2, rfl⟩ noFill_tuple_add seq_tuple_add PySem.F.slot_tuple_add PySem.F.entry_tuple_add (PySem.F.args_tuple_add_2 _ _)
      (tuple_addW1 t b vs.toArray ws.toArray n n2 dd dd2 sl sl2 (by simpa using hv) (by simp [hw])) ⟨ho, ho2, h1 hw⟩
  · refine concat_meets ⟨_, ho, rfl⟩ ⟨_, ho2, rfl⟩ noFill_tuple_add seq_tuple_add PySem.F.slot_tuple_add PySem.F.entry_tuple_add (PySem.F.args_tuple_add_2 _ _)
      (tuple_addW2 t b vs.toArray ws.toArray n n2 dd dd2 sl sl2 (by simpa using hv) (by simpa using hw) (by rw [List.size_toArray, List.size_toArray]; exact hsz)) ⟨ho, ho2, ?_⟩
    rw [e]
    exact h2 hw

/-- a slice's bound as a place among n (d where it is left out) -/
def sIx (n d : Nat) : Option Int → Nat
  | none => d
  | some v => if v < 0 then (v + (n : Int)).toNat else min v.toNat n
theorem sIx_nat (n d k : Nat) : sIx n d (some (k : Int)) = min k n := by
  show (if (k : Int) < 0 then ((k : Int) + (n : Int)).toNat else min (k : Int).toNat n) = min k n
  rw [if_neg (by omega), Int.toNat_natCast]
theorem sIx_le (n d : Nat) (hd : d ≤ n) (o : Option Int) : sIx n d o ≤ n := by
  cases o with
  | none => exact hd
  | some v =>
    show (if v < 0 then (v + (n : Int)).toNat else min v.toNat n) ≤ n
    by_cases hv : v < 0
    · rw [if_pos hv]; omega
    · rw [if_neg hv]; exact Nat.min_le_right _ _
theorem clip_eq (v : Int) (n d : Nat) : (if v < 0 then max (v + (n : Int)) 0 else min v (n : Int)) = ((sIx n d (some v) : Nat) : Int) := by
  show (if v < 0 then max (v + (n : Int)) 0 else min v (n : Int)) = (((if v < 0 then (v + (n : Int)).toNat else min v.toNat n) : Nat) : Int)
  by_cases hv : v < 0
  · simp only [if_pos hv]; omega
  · simp only [if_neg hv]; omega
theorem adjust_gen (lo hi : Option Int) (n : Nat) : Builtin.Slice.sliceAdjust lo hi 1 (n : Int) = (((sIx n 0 lo : Nat) : Int), ((sIx n n hi : Nat) : Int)) := by
  have h1 : ¬ ((1 : Int) < 0) := by omega
  unfold Builtin.Slice.sliceAdjust
  simp only [h1, if_false]
  refine Prod.ext ?_ ?_
  · cases lo with
    | none => rfl
    | some v => exact clip_eq v n 0
  · cases hi with
    | none => rfl
    | some v => exact clip_eq v n n
theorem places_gen (i j : Nat) : Builtin.Slice.slicePlaces (i : Int) (j : Int) 1 = j - i := by
  unfold Builtin.Slice.slicePlaces
  have h1 : (1 : Int) > 0 := by omega
  simp only [h1, if_true, Int.ediv_one]
  split <;> omega
theorem slicePart_ {v : Value} {o : Option Int} {Q : Option Int → Shared → Prop} (p : IsPart v o) (h : Q o s) : wpAny (model prog w) A (Builtin.Slice.slicePartIndex v) Q E s := by
  cases p with
  | none => exact slicePart_none h
  | int i t => exact slicePart_int h
theorem sliceApplied_gen {sl : Addr} {vl vu : Value} {lo hi : Option Int} {n : Nat} {Q : Int × Int × Nat → Shared → Prop} (hs : s.heap.IsSliceOf sl vl vu .none) (pl : IsPart vl lo) (pu : IsPart vu hi)
    (h : Q (((sIx n 0 lo : Nat) : Int), 1, sIx n n hi - sIx n 0 lo) s) : wpAny (model prog w) A (Builtin.Slice.sliceApplied (.ref sl) (pure (n : Int))) Q E s := by
  obtain ⟨os, hos, hcs, hds⟩ := id hs
  unfold Builtin.Slice.sliceApplied Builtin.Slice.sliceFields
  refine wpAny_bind (wpAny_bind (wpAny_field hos hds (x := vl) rfl (wpAny_bind (wpAny_field hos hds (x := vu) rfl (wpAny_bind (wpAny_field hos hds (x := .none) rfl (wpAny_pure ?_)))))))
  refine wpAny_bind (slicePart_none ?_)
  show wpAny _ _ (if ((1 : Int) == 0) = true then _ else _) _ _ s
  rw [if_neg (by decide)]
  refine wpAny_bind (slicePart_ pl (wpAny_bind (slicePart_ pu (wpAny_bind (wpAny_pure ?_)))))
  show wpAny _ _ (match Builtin.Slice.sliceAdjust lo hi 1 (n : Int) with | (lo, hi) => pure (lo, (1 : Int), Builtin.Slice.slicePlaces lo hi 1)) _ _ s
  rw [adjust_gen lo hi n]
  show wpAny _ _ (pure (((sIx n 0 lo : Nat) : Int), (1 : Int), Builtin.Slice.slicePlaces ((sIx n 0 lo : Nat) : Int) ((sIx n n hi : Nat) : Int) 1)) _ _ s
  rw [places_gen]
  exact wpAny_pure h
theorem pick_gen (xs : Array Value) (i k : Nat) : ((List.range k).filterMap fun (m : Nat) => xs[((i : Int) + (m : Int) * 1).toNat]?).toArray = ((xs.toList.drop i).take k).toArray := by
  have e : (fun (m : Nat) => xs[((i : Int) + (m : Int) * 1).toNat]?) = fun m => xs[i + m]? := by
    funext m
    have : ((i : Int) + (m : Int) * 1).toNat = i + m := by omega
    rw [this]
  rw [e]
  have := pick_run xs i k
  rw [List.filterMap_map] at this
  have e2 : ((fun x => xs[x]?) ∘ fun x => i + x) = fun m => xs[i + m]? := rfl
  rw [e2] at this
  rw [this]

theorem getItem_tuple_cut {t sl : Addr} {items : Array Value} {vl vu : Value} {lo hi : Option Int} {Q : Value → Shared → Prop} (ht : IsTup s.heap t items) (hs : s.heap.IsSliceOf sl vl vu .none) (pl : IsPart vl lo) (pu : IsPart vu hi)
    (hw : ¬ (sIx items.size 0 lo = 0 ∧ sIx items.size items.size hi = items.size))
    (h : Q (.ref s.heap.objs.size) { s with heap := s.heap.push { cls := .type "tuple", data := .seq ((items.toList.drop (sIx items.size 0 lo)).take (sIx items.size items.size hi - sIx items.size 0 lo)).toArray } })
    (hsz : items.size ≤ sizeLine) : wpAny (model prog w) A (getItem (.ref t) (.ref sl)) Q E s := by
  have htake : sizeOk (.seq ((items.toList.drop (sIx items.size 0 lo)).take (sIx items.size items.size hi - sIx items.size 0 lo)).toArray) := by
    show ((items.toList.drop (sIx items.size 0 lo)).take (sIx items.size items.size hi - sIx items.size 0 lo)).toArray.size ≤ sizeLine
    rw [List.size_toArray, List.length_take, List.length_drop, Array.length_toList]
    omega
  have hj : sIx items.size items.size hi ≤ items.size := sIx_le _ _ (Nat.le_refl _) hi
  obtain ⟨os, hos, hcs, hds⟩ := id hs
  have hTs : s.TypeIs (.ref sl) "slice" := ⟨os, hos, hcs⟩
  unfold getItem
  try with_reducible refine wpAny_holding ?_
  first | refine wpAny_bind (wpAny_pure ?_) | skip
  refine wpAny_bind (wpAny_sequenceKey ht.typeIs (by decide) ?_)
  refine wpAny_bind (wpAny_callSpecial?_slot (name := Str.ofString "__getitem__") ht.typeIs PyProof.Rows.slot_tuple_getitem
    (wpAny_call_entry PyProof.Rows.slot_tuple_getitem ht.typeIs entry_tuple_getitem ?_ (args_tuple_getitem _ _)))
  show wpAny _ _ (Builtin.Tuple.tupleItemsOf (.ref t) >>= _) _ _ s
  refine wpAny_bind (tupleItemsOf_ ht ?_)
  refine wpAny_bind (wpAny_typeOf hTs ?_)
  rw [if_pos (by decide)]
  refine wpAny_bind (sliceApplied_gen hs pl pu ?_)
  have hno : ¬ ((((sIx items.size 0 lo : Nat) : Int) == 0 && (1 : Int) == 1 && (sIx items.size items.size hi - sIx items.size 0 lo) == items.size) = true) := by
    intro q
    rw [Bool.and_eq_true, Bool.and_eq_true] at q
    have q1 : ((sIx items.size 0 lo : Nat) : Int) = 0 := eq_of_beq q.1.1
    have q2 : sIx items.size items.size hi - sIx items.size 0 lo = items.size := eq_of_beq q.2
    exact hw ⟨by omega, by omega⟩
  show wpAny _ _ (if (((sIx items.size 0 lo : Nat) : Int) == 0 && (1 : Int) == 1 && (sIx items.size items.size hi - sIx items.size 0 lo) == items.size) = true then _ else _) _ _ s
  rw [if_neg hno, pick_gen]
  first
    | exact wpAny_bind (m := Builtin.Tuple.tupleExact _) (wpAny_newObj_type (wpAny_pure ⟨_, rfl, wpAny_pure h⟩) htake)
    | exact wpAny_bind (m := Builtin.Tuple.tupleExact _) (wpAny_newObj_type (wpAny_bind (wpAny_pure (wpAny_pure ⟨_, rfl, wpAny_pure h⟩))) htake)
    | exact wpAny_bind (wpAny_bind (m := Builtin.Tuple.tupleExact _) (wpAny_newObj_type (wpAny_pure (wpAny_pure ⟨_, rfl, wpAny_pure h⟩)) htake))
    | exact wpAny_bind (wpAny_bind (m := Builtin.Tuple.tupleExact _) (wpAny_newObj_type (wpAny_pure ⟨_, rfl, wpAny_pure h⟩) htake))
end
end HT

namespace L2
open PySem PySem.Spec PyProof.Rows

abbrev TO := St → Hp → (Option Int → Hp → Prop) → Prop
/-- a slice's part (left out, or an int) -/
def PO (X : Cx) (e : Option Expr) (t : TO) : Prop :=
  ∀ (pins : List (Addr × Obj)) (s : Shared) (σ : St) (H : Hp) (Q : Option Int → Hp → Prop), Inv X pins σ H s → t σ H Q →
    wpAny (model X.prog X.w) X.A (evalPart e X.env) (fun u s' => ∃ o H', Inv X pins σ H' s' ∧ IsPart u o ∧ Q o H') X.xe s
def tNoPart : TO := fun _ H Q => Q none H
def tPart (t : TE) : TO := fun σ H Q => t σ H fun x H1 => ∃ i, x = .int i ∧ Q (some i) H1

theorem intsAre_of {ns : List Int} : ∀ {us : List Value}, Vals (ns.map V.int) us → IntsAre us ns := by
  induction ns with
  | nil => intro us r; rw [List.map_nil] at r; cases r; exact .nil
  | cons n ns ih =>
    intro us r
    rw [List.map_cons] at r
    cases r with
    | cons r1 r2 =>
      obtain ⟨t, e⟩ := r1
      subst e
      exact .cons n t (ih r2)

section
variable {X : Cx} {e : Expr} {te : TE} {lo hi : Option Expr} {tl th : TO} {pos p2 : Pos}

theorem po_none : PO X none tNoPart := by
  intro pins s σ H Q I h
  rw [evalPart_none]
  exact wpAny_pure ⟨none, H, I, .none, h⟩
theorem po_some (h : PE X e te) : PO X (some e) (tPart te) := by
  intro pins s σ H Q I hw
  rw [evalPart_some]
  refine thn (h pins s σ H _ I hw) fun u s1 ⟨x, H1, I1, r1, q1⟩ => ?_
  obtain ⟨i, rfl, q⟩ := q1
  obtain ⟨t, rfl⟩ := r1
  exact ⟨some i, H1, I1, .int i t, q⟩

/-- what a slice of a value is, by values: the slice object stands at sl -/
def SlR (X : Cx) (r : V → Option Int → Option Int → Hp → VK → Prop) : Prop :=
  ∀ (pins : List (Addr × Obj)) (s : Shared) (σ : St) (H : Hp) (x : V) (v vl vu : Value) (lo hi : Option Int) (sl : Addr) (Q : VK), Inv X pins σ H s → RelV x v → s.heap.IsSliceOf sl vl vu .none → IsPart vl lo → IsPart vu hi → r x lo hi H Q →
    ∃ T id, typeLookup (.type T) "__getitem__" = pure (some (.builtin id)) ∧ s.TypeIs v T ∧ wpAny (model X.prog X.w) X.A (getItem v (.ref sl)) (EP X pins σ Q) X.xe s
theorem SlR.or {r r' : V → Option Int → Option Int → Hp → VK → Prop} (h : SlR X r) (h' : SlR X r') : SlR X (fun x lo hi H Q => r x lo hi H Q ∨ r' x lo hi H Q) := by
  intro pins s σ H x v vl vu lo hi sl Q I rx hs pl pu q
  rcases q with q | q
  · exact h pins s σ H x v vl vu lo hi sl Q I rx hs pl pu q
  · exact h' pins s σ H x v vl vu lo hi sl Q I rx hs pl pu q
def tSl (r : V → Option Int → Option Int → Hp → VK → Prop) (te : TE) (tl th : TO) : TE := fun σ H Q => te σ H fun x H1 => tl σ H1 fun l H2 => th σ H2 fun u H3 => r x l u H3 Q
/-- a[lo:hi], any a -/
theorem pe_slice {r : V → Option Int → Option Int → Hp → VK → Prop} (hr : SlR X r) (he : PE X e te) (hl : PO X lo tl) (hu : PO X hi th) : PE X (.Subscript e (.Slice lo hi none p2) pos) (tSl r te tl th) := by
  intro pins s σ H Q I h
  refine Subscript_ (thn (he pins s σ H _ I h) fun v s1 ⟨x, H1, I1, r1, q1⟩ => ?_)
  refine wpAny_Slice (thn (hl pins s1 σ H1 _ I1 q1) fun vl s2 ⟨l, H2, I2, pl, q2⟩ => thn (hu pins s2 σ H2 _ I2 q2) fun vu s3 ⟨u, H3, I3, pu, q3⟩ => ?_)
  rw [evalPart_none]
  refine wpAny_pure ?_
  have I4 : Inv X pins σ H3 { s3 with heap := s3.heap.push { cls := .type "slice", data := .fields #[vl, vu, .none] } } := I3.kept (t' := s3.toks) fun b ob q => Heap.get?_push_of_some _ q
  obtain ⟨T, id, hT, ht, hg⟩ := hr pins { s3 with heap := s3.heap.push { cls := .type "slice", data := .fields #[vl, vu, .none] } } σ H3 x v vl vu l u s3.heap.objs.size Q I4 r1 (Heap.IsSliceOf.new ..) pl pu q3
  show wpAny (model X.prog X.w) X.A (subscriptTail e (.Slice lo hi none p2) v (.ref s3.heap.objs.size)) (EP X pins σ Q) X.xe { s3 with heap := s3.heap.push { cls := .type "slice", data := .fields #[vl, vu, .none] } }
  exact tail_any (ops := [.ref s3.heap.objs.size, v]) ht hT hg (by with_unfolding_all rfl)

/-- the items of xs[lo:hi] -/
def cutV (xs : List V) (lo hi : Option Int) : List V := (xs.drop (HT.sIx xs.length 0 lo)).take (HT.sIx xs.length xs.length hi - HT.sIx xs.length 0 lo)
theorem cutV_length (xs : List V) (lo hi : Option Int) : (cutV xs lo hi).length ≤ xs.length := by
  unfold cutV
  rw [List.length_take, List.length_drop]
  omega
/-- t[lo:hi], not the whole of it (the whole would be t itself) -/
def rSlT (K : PySem.W.Frag) : V → Option Int → Option Int → Hp → VK → Prop := fun x lo hi H Q => ∃ a xs, x = .ref a ∧ SqT K H a xs ∧
  ¬ (HT.sIx xs.length 0 lo = 0 ∧ HT.sIx xs.length xs.length hi = xs.length) ∧ ∀ p, H p = none → Q (.ref p) (upd H p (.tup (cutV xs lo hi)))
theorem sl_tup : SlR X (rSlT X.K) := by
  intro pins s σ H x v vl vu lo hi sl Q I rx hs pl pu h
  obtain ⟨a, xs, rfl, hx, hw, q⟩ := h
  cases rx
  obtain ⟨its, r, ht, hz⟩ := I.tuple hx
  have hlen : its.toArray.size = xs.length := by rw [List.size_toArray]; exact r.length.symm
  refine ⟨"tuple", _, PyProof.Rows.slot_tuple_getitem.lookup, ht.typeIs, ?_⟩
  refine HT.getItem_tuple_cut ht hs pl pu (by rw [hlen]; exact hw) ?_ (by rw [hlen]; exact hz)
  rw [hlen]
  refine ⟨.ref s.heap.objs.size, _, I.laid (t' := s.toks) (o := .tup (cutV xs lo hi)) (fun b ob q => Heap.get?_push_of_some _ q) (Nat.le_refl _) ?_, rfl, q _ (I.hok.fresh (Nat.le_refl _))⟩
  exact ⟨Nat.le_trans (cutV_length xs lo hi) hz, _, (r.drop (HT.sIx xs.length 0 lo)).take (HT.sIx xs.length xs.length hi - HT.sIx xs.length 0 lo), IsTupN.new _ _⟩

/-- t + u, t not empty: u empty gives t itself -/
def rCatT (K : PySem.W.Frag) : R2 := fun x y H Q => ∃ a b xs ys, x = .ref a ∧ y = .ref b ∧ SqT K H a xs ∧ SqT K H b ys ∧ xs ≠ [] ∧ xs.length + ys.length ≤ sizeLine ∧
  (ys = [] → Q (.ref a) H) ∧ (ys ≠ [] → ∀ p, H p = none → Q (.ref p) (upd H p (.tup (xs ++ ys))))
theorem Vals.nil_iff {xs : List V} {us : List Value} (r : Vals xs us) : us = [] ↔ xs = [] := by
  cases r with
  | nil => simp
  | cons _ _ => simp
theorem op_catT : OpR X (binaryOp .Add) (rCatT X.K) := by
  intro pins s σ H x y v u Q I rx ry h
  obtain ⟨a, b, xs, ys, rfl, rfl, ha, hb, hx, hz, q1, q2⟩ := h
  cases rx
  cases ry
  obtain ⟨its, r1, p1, _⟩ := I.tuple ha
  obtain ⟨its2, r2, p2, _⟩ := I.tuple hb
  refine HT.cat_tup p1 p2 (fun z => hx (r1.nil_iff.mp z)) (fun z => ⟨.ref a, H, I, rfl, q1 (r2.nil_iff.mp z)⟩) (fun z => ?_) (by rw [← r1.length, ← r2.length]; exact hz)
  refine ⟨.ref s.heap.objs.size, _, I.laid (t' := s.toks) (o := .tup (xs ++ ys)) (fun b ob q => Heap.get?_push_of_some _ q) (Nat.le_refl _) ?_, rfl, q2 (fun w => z (r2.nil_iff.mpr w)) _ (I.hok.fresh (Nat.le_refl _))⟩
  exact ⟨by rw [List.length_append]; exact hz, _, r1.append r2, IsTupN.new _ _⟩
end
end L2

namespace L2
open PySem PySem.Spec PyProof.Rows

/-- the place that an index of any sign means -/
def ixN (n : Nat) (i : Int) : Option Nat := if 0 ≤ i then (if i < n then some i.toNat else none) else if -(n : Int) ≤ i then some (i + n).toNat else none
def atI {α : Type} (xs : List α) (i : Int) : Option α := (ixN xs.length i).bind fun j => xs[j]?
theorem ixN_seq {n : Nat} {i : Int} {j : Nat} (h : ixN n i = some j) : seqIndex? i n = some j ∧ j < n ∧ -(n : Int) ≤ i ∧ i < n := by
  unfold ixN at h
  by_cases h0 : 0 ≤ i
  · rw [if_pos h0] at h
    by_cases h1 : i < n
    · rw [if_pos h1] at h
      have e : i.toNat = j := Option.some.inj h
      exact ⟨by rw [seqIndex_of h0 h1, e], by omega, by omega, h1⟩
    · rw [if_neg h1] at h; cases h
  · rw [if_neg h0] at h
    by_cases h1 : -(n : Int) ≤ i
    · rw [if_pos h1] at h
      have e : (i + n).toNat = j := Option.some.inj h
      exact ⟨by rw [seqIndex_neg (by omega) h1, e], by omega, h1, by omega⟩
    · rw [if_neg h1] at h; cases h
theorem atI_get {α : Type} {xs : List α} {i : Int} {v : α} (h : atI xs i = some v) : ∃ j, seqIndex? i xs.length = some j ∧ xs[j]? = some v ∧ j < xs.length ∧ -(xs.length : Int) ≤ i ∧ i < xs.length := by
  unfold atI at h
  cases e : ixN xs.length i with
  | none => rw [e] at h; cases h
  | some j =>
    rw [e] at h
    obtain ⟨h1, h2, h3, h4⟩ := ixN_seq e
    exact ⟨j, h1, h, h2, h3, h4⟩
theorem atI_nat {α : Type} {xs : List α} {j : Nat} {v : α} (h : xs[j]? = some v) : atI xs (j : Int) = some v := by
  have hj : j < xs.length := (List.getElem?_eq_some_iff.mp h).1
  have e : ixN xs.length (j : Int) = some j := by
    unfold ixN
    rw [if_pos (by omega), if_pos (by omega)]; simp
  unfold atI; rw [e]; exact h
theorem atI_last {α : Type} (xs : List α) (v : α) : atI (xs ++ [v]) (-1) = some v := by
  have hl : (xs ++ [v]).length = xs.length + 1 := by simp
  have e : ixN (xs ++ [v]).length (-1) = some xs.length := by
    unfold ixN
    rw [hl, if_neg (by decide), if_pos (by omega)]
    congr 1
    omega
  unfold atI
  rw [e]
  show (xs ++ [v])[xs.length]? = some v
  simp

/-- what stands as an index of a plain subscript -/
def PlainIx (b : Expr) : Prop := ∀ o i, subscripted b false o i = operate [o, i] (getItem o i)
/-- a subscript by values -/
def IxR (X : Cx) (r : R2) : Prop :=
  ∀ (value slice : Expr) (pins : List (Addr × Obj)) (s : Shared) (σ : St) (H : Hp) (x y : V) (v u : Value) (Q : VK), Inv X pins σ H s → RelV x v → RelV y u → r x y H Q →
    subscripted slice false v u = operate [v, u] (getItem v u) → wpAny (model X.prog X.w) X.A (subscriptTail value slice v u) (EP X pins σ Q) X.xe s
/-- a call of a builtin's method by values: the receiver, the arguments -/
def MtR (X : Cx) (id : String) (r : V → List V → Hp → VK → Prop) : Prop :=
  ∀ (pins : List (Addr × Obj)) (s : Shared) (σ : St) (H : Hp) (x : V) (xs : List V) (v : Value) (us : List Value) (Q : VK), Inv X pins σ H s → RelV x v → Vals xs us → r x xs H Q →
    wpAny (model X.prog X.w) X.A (call (.builtin id) (v :: us)) (EP X pins σ Q) X.xe s
section
variable {X : Cx} {a b : Expr} {ta tb : TE} {pos : Pos}
theorem IxR.or {r r' : R2} (h : IxR X r) (h' : IxR X r') : IxR X (fun x y H Q => r x y H Q ∨ r' x y H Q) := by
  intro value slice pins s σ H x y v u Q I rx ry q hs
  rcases q with q | q
  · exact h value slice pins s σ H x y v u Q I rx ry q hs
  · exact h' value slice pins s σ H x y v u Q I rx ry q hs
theorem MtR.or {id : String} {r r' : V → List V → Hp → VK → Prop} (h : MtR X id r) (h' : MtR X id r') : MtR X id (fun x xs H Q => r x xs H Q ∨ r' x xs H Q) := by
  intro pins s σ H x xs v us Q I rx rs q
  rcases q with q | q
  · exact h pins s σ H x xs v us Q I rx rs q
  · exact h' pins s σ H x xs v us Q I rx rs q
/-- a[b] -/
theorem pe_ix {r : R2} (hr : IxR X r) (ha : PE X a ta) (hb : PE X b tb) (hs : PlainIx b) : PE X (.Subscript a b pos) (tOp r ta tb) := by
  intro pins s σ H Q I h
  exact Subscript_ (binT ha hb I h fun v u s2 x y H2 I2 rx ry q => hr a b pins s2 σ H2 x y v u Q I2 rx ry q (hs _ _))

def rIxL (K : PySem.W.Frag) : R2 := fun x y H Q => ∃ p xs i v, x = .ref p ∧ y = .int i ∧ SqL K H p xs ∧ atI xs i = some v ∧ Q v H
def rIxT (K : PySem.W.Frag) : R2 := fun x y H Q => ∃ p xs i v, x = .ref p ∧ y = .int i ∧ SqT K H p xs ∧ atI xs i = some v ∧ Q v H
def rIxS : R2 := fun x y H Q => ∃ z i c, x = .str z ∧ y = .int i ∧ z.length ≤ sizeLine ∧ atI z.cps.toList i = some c ∧ Q (.str ⟨#[c]⟩) H
theorem ix_list : IxR X (rIxL X.K) := by
  intro value slice pins s σ H x y v u Q I rx ry h hs
  obtain ⟨p, xs, i, z, rfl, rfl, hq, he, q⟩ := h
  cases rx
  obtain ⟨t, rfl⟩ := ry
  obtain ⟨its, r, pl, hz⟩ := I.list hq
  obtain ⟨j, h1, h2, h3, h4, h5⟩ := atI_get he
  obtain ⟨w, ew, rw'⟩ := r.get h2
  have hl := r.length
  have hn := line63
  have fin : EP X pins σ Q w s := ⟨z, H, I, rw', q⟩
  by_cases h0 : 0 ≤ i
  · have hj : i.toNat = j := by
      rw [seqIndex_of h0 h5] at h1
      exact Option.some.inj h1
    exact item_listR pl.isList h0 (by omega) (by rw [hj]; simpa using ew) fin hs
  · have hj : (i + (its.toArray.size : Int)).toNat = j := by
      rw [seqIndex_neg (by omega) h4] at h1
      rw [List.size_toArray, ← hl]
      exact Option.some.inj h1
    exact subscriptTail_builtinR (x := w) pl.isList.typeIs slot_list_getitem.lookup
      (wpAny_getItem_list_neg (Q := fun r s' => r = w ∧ EP X pins σ Q r s') pl.isList (by omega) (by rw [List.size_toArray] <;> omega) (by omega) (by rw [hj]; simpa using ew) ⟨rfl, fin⟩) hs
theorem ix_tup : IxR X (rIxT X.K) := by
  intro value slice pins s σ H x y v u Q I rx ry h hs
  obtain ⟨p, xs, i, z, rfl, rfl, hq, he, q⟩ := h
  cases rx
  obtain ⟨t, rfl⟩ := ry
  obtain ⟨its, r, pl, hz⟩ := I.tuple hq
  obtain ⟨j, h1, h2, h3, h4, h5⟩ := atI_get he
  obtain ⟨w, ew, rw'⟩ := r.get h2
  have hl := r.length
  have hn := line63
  have fin : EP X pins σ Q w s := ⟨z, H, I, rw', q⟩
  exact subscriptTail_builtinR (x := w) pl.typeIs slot_tuple_getitem.lookup
    (getItem_tuple (j := j) (Q := fun r s' => r = w ∧ EP X pins σ Q r s') pl (by omega) (by omega) (by rw [List.size_toArray, ← hl]; exact h1) (by simpa using ew) ⟨rfl, fin⟩) hs
theorem ix_str : IxR X rIxS := by
  intro value slice pins s σ H x y v u Q I rx ry h hs
  obtain ⟨z, i, c, rfl, rfl, hz, he, q⟩ := h
  obtain ⟨t, rfl⟩ := rx
  obtain ⟨t', rfl⟩ := ry
  obtain ⟨j, h1, h2, h3, h4, h5⟩ := atI_get he
  have hl : z.cps.toList.length = z.length := by simp [Str.length]
  rw [hl] at h1 h4 h5
  have hn := line63
  exact tail_any (typeIs_str s z t) slot_str_getitem.lookup (getItem_str (c := c) (by
    have e1 : decide (i < -(2 ^ 63 : Int)) = false := decide_eq_false (by omega)
    have e2 : decide (i ≥ 2 ^ 63) = false := decide_eq_false (by omega)
    rw [e1, e2, Bool.or_false]) (by rw [h1]; simpa using h2) ⟨.str ⟨#[c]⟩, H, I.tok _, ⟨_, rfl⟩, q⟩) hs
/-- list, tuple or str -/
def rIx (K : PySem.W.Frag) : R2 := fun x y H Q => rIxL K x y H Q ∨ rIxT K x y H Q ∨ rIxS x y H Q
theorem ix_seq : IxR X (rIx X.K) := ix_list.or (ix_tup.or ix_str)

/-- the list's object behind a store -/
theorem mapSeq_set (its : List Value) (n j : Nat) (u : Value) : Obj.mapSeq (·.setIfInBounds j u) { cls := .type "list", data := .seq its.toArray n } = { cls := .type "list", data := .seq (its.set j u).toArray n } := by
  simp [Obj.mapSeq]
theorem Inv.lst {pins : List (Addr × Obj)} {σ : St} {H : Hp} {s : Shared} {p : Addr} {xs : List V} (I : Inv X pins σ H s) (h : H p = some (.lst xs)) :
    ∃ (its : List Value) (n : Nat), Vals xs its ∧ s.heap.get? p = some { cls := .type "list", data := .seq its.toArray n } ∧ xs.length ≤ sizeLine := by
  obtain ⟨z, its, n, r, e⟩ := I.hok p _ h
  exact ⟨its, n, r, e, z⟩
/-- the list at p is written by an update of its object -/
theorem Inv.lstUpd {pins : List (Addr × Obj)} {σ : St} {H : Hp} {s : Shared} {p : Addr} {xs ys : List V} {its its' : List Value} {n n' : Nat} {f : Obj → Obj} (I : Inv X pins σ H s) (h : H p = some (.lst xs))
    (ho : s.heap.get? p = some { cls := .type "list", data := .seq its.toArray n }) (hf : f { cls := .type "list", data := .seq its.toArray n } = { cls := .type "list", data := .seq its'.toArray n' }) (r : Vals ys its') (hz : ys.length ≤ sizeLine) (t : Nat) :
    Inv X pins σ (upd H p (.lst ys)) { s with heap := s.heap.update p f, toks := t } := by
  have e : (s.heap.update p f).get? p = some { cls := .type "list", data := .seq its'.toArray n' } := by
    rw [Heap.get?_update_self f ho (by rw [hf] <;> rfl), hf]
  refine I.write (x := p) (e := p) (by rw [h]; trivial) (.inl rfl) (fun b u hb q => (Heap.get?_update_other _ _ (Ne.symm hb)).trans q) ⟨_, e⟩ ?_
  exact ⟨hz, its', n', r, e⟩
def rSetL : V → V → V → Hp → (Hp → Prop) → Prop := fun o i v H Q => ∃ p xs k j, o = .ref p ∧ i = .int k ∧ H p = some (.lst xs) ∧ ixN xs.length k = some j ∧ Q (upd H p (.lst (xs.set j v)))
theorem set_list : PSet X rSetL := by
  intro pins s σ H o i v ov iv u Q I ro ri rv h
  obtain ⟨p, xs, k, j, rfl, rfl, hp, hj, q⟩ := h
  cases ro
  obtain ⟨t, rfl⟩ := ri
  obtain ⟨its, n, r, ho, hz⟩ := I.lst hp
  obtain ⟨h1, h2, h3, h4⟩ := ixN_seq hj
  have hl := r.length
  have hn := line63
  have I' : Inv X pins σ (upd H p (.lst (xs.set j v))) { s with heap := s.heap.update p (Obj.mapSeq (·.setIfInBounds j u)) } :=
    I.lstUpd hp ho (mapSeq_set its n j u) (r.set rv j) (by rw [List.length_set]; exact hz) s.toks
  by_cases h0 : 0 ≤ k
  · have hk : k.toNat = j := by
      rw [seqIndex_of h0 h4] at h1
      exact Option.some.inj h1
    exact PySem.W.ki_setAt ho h0 (by omega) (by rw [List.size_toArray, ← hl]; exact h4) (by rw [hk]; exact ⟨_, I', q⟩)
  · have hk : (k + (its.toArray.size : Int)).toNat = j := by
      rw [seqIndex_neg (by omega) h3] at h1
      rw [List.size_toArray, ← hl]
      exact Option.some.inj h1
    exact PySem.W.ki_setBack ho (by omega) (by rw [List.size_toArray, ← hl]; exact h3) (by omega) (by rw [hk]; exact ⟨_, I', q⟩)

theorem slice_bounds (lo hi : Option Int) (n : Nat) : (sliceBounds lo hi none n).1 = ((HT.sIx n 0 lo : Nat) : Int) ∧ (sliceBounds lo hi none n).2.1 = ((HT.sIx n n hi : Nat) : Int) ∧ (sliceBounds lo hi none n).2.2 = 1 := by
  refine ⟨?_, ?_, rfl⟩
  · cases lo with
    | none => simp [sliceBounds, HT.sIx]
    | some i =>
      simp only [sliceBounds, HT.sIx, Option.getD_none, show (1 : Int) > 0 by decide, if_true]
      by_cases h : i < 0
      · simp only [h, if_true] <;> omega
      · simp only [h, if_false] <;> omega
  · cases hi with
    | none => simp [sliceBounds, HT.sIx]
    | some i =>
      simp only [sliceBounds, HT.sIx, Option.getD_none, show (1 : Int) > 0 by decide, if_true]
      by_cases h : i < 0
      · simp only [h, if_true] <;> omega
      · simp only [h, if_false] <;> omega
theorem slicePick_cut (its : List Value) (lo hi : Option Int) : slicePick its.toArray lo hi none = ((its.drop (HT.sIx its.length 0 lo)).take (HT.sIx its.length its.length hi - HT.sIx its.length 0 lo)).toArray := by
  obtain ⟨h1, h2, h3⟩ := slice_bounds lo hi its.toArray.size
  unfold slicePick
  rw [h1, h2, h3]
  simp only [sliceRange_one, pick_run, List.size_toArray] <;> rfl
/-- xs[lo:hi] of a list: a new list -/
def rSlL (K : PySem.W.Frag) : V → Option Int → Option Int → Hp → VK → Prop := fun x lo hi H Q => ∃ a xs, x = .ref a ∧ SqL K H a xs ∧ ∀ p, H p = none → Q (.ref p) (upd H p (.lst (cutV xs lo hi)))
theorem sl_list : SlR X (rSlL X.K) := by
  intro pins s σ H x v vl vu lo hi sl Q I rx hs pl pu h
  obtain ⟨a, xs, rfl, hx, q⟩ := h
  cases rx
  obtain ⟨its, r, ht, hz⟩ := I.list hx
  have hlen := r.length
  refine ⟨"list", _, slot_list_getitem.lookup, ht.isList.typeIs, ?_⟩
  refine wpAny_getItem_list_slice ht.isList hs pl pu .none (by simp) ?_ (by rw [List.size_toArray] <;> omega)
  rw [slicePick_cut, ← hlen]
  refine ⟨.ref s.heap.objs.size, _, I.laid (t' := s.toks) (o := .lst (cutV xs lo hi)) (fun b ob q => Heap.get?_push_of_some _ q) (Nat.le_refl _) ?_, rfl, q _ (I.hok.fresh (Nat.le_refl _))⟩
  exact ⟨Nat.le_trans (cutV_length xs lo hi) hz, _, 0, (r.drop (HT.sIx xs.length 0 lo)).take (HT.sIx xs.length xs.length hi - HT.sIx xs.length 0 lo), Heap.get?_push_size _ rfl⟩

def flatV : V → Bool
  | .non => true
  | .bl _ => true
  | .int _ => true
  | .str _ => true
  | _ => false
/-- == of flat values -/
def eqV : V → V → Bool
  | .non, .non => true
  | .bl a, .bl b => a == b
  | .bl a, .int b => (if a then 1 else 0) == b
  | .int a, .bl b => a == (if b then 1 else 0)
  | .int a, .int b => a == b
  | .str a, .str b => a == b
  | _, _ => false
theorem eqAt_V {A : Around} {s : Shared} {y x : V} {u v : Value} (ry : RelV y u) (rx : RelV x v) (fy : flatV y = true) (fx : flatV x = true) : SeqAt.EqAt A s u v (eqV y x) := by
  cases y with
  | non =>
    cases ry
    cases x with
    | non => cases rx; exact SeqAt.EqAt.same _
    | bl b => cases rx; exact SeqAt.EqAt.none_bool b
    | int b => obtain ⟨t, rfl⟩ := rx; exact SeqAt.EqAt.none_int b t
    | str b => obtain ⟨t, rfl⟩ := rx; exact SeqAt.EqAt.none_str b t
    | _ => exact absurd (show false = true from fx) Bool.false_ne_true
  | bl a =>
    cases ry
    cases x with
    | non => cases rx; exact SeqAt.EqAt.bool_none a
    | bl b => cases rx; exact SeqAt.EqAt.bool_bool a b
    | int b => obtain ⟨t, rfl⟩ := rx; exact SeqAt.EqAt.bool_int a b t
    | str b => obtain ⟨t, rfl⟩ := rx; exact SeqAt.EqAt.bool_str a b t
    | _ => exact absurd (show false = true from fx) Bool.false_ne_true
  | int a =>
    obtain ⟨t', rfl⟩ := ry
    cases x with
    | non => cases rx; exact SeqAt.EqAt.int_none a t'
    | bl b => cases rx; exact SeqAt.EqAt.int_bool a t' b
    | int b => obtain ⟨t, rfl⟩ := rx; exact SeqAt.EqAt.int_int a t' b t
    | str b => obtain ⟨t, rfl⟩ := rx; exact SeqAt.EqAt.int_str a t' b t
    | _ => exact absurd (show false = true from fx) Bool.false_ne_true
  | str a =>
    obtain ⟨t', rfl⟩ := ry
    cases x with
    | non => cases rx; exact SeqAt.EqAt.str_none a t'
    | bl b => cases rx; exact SeqAt.EqAt.str_bool a t' b
    | int b => obtain ⟨t, rfl⟩ := rx; exact SeqAt.EqAt.str_int a t' b t
    | str b => obtain ⟨t, rfl⟩ := rx; exact SeqAt.EqAt.str_str a t' b t
    | _ => exact absurd (show false = true from fx) Bool.false_ne_true
  | _ => exact absurd (show false = true from fy) Bool.false_ne_true
/-- the items' answers, read off the values (a value's own answer does not lean on its token) -/
def eqU (x : V) (u : Value) : Bool := match u with
  | .none => eqV .non x
  | .bool b => eqV (.bl b) x
  | .int i _ => eqV (.int i) x
  | .str z _ => eqV (.str z) x
  | _ => false
theorem eqU_of {x y : V} {u : Value} (r : RelV y u) (f : flatV y = true) : eqU x u = eqV y x := by
  cases y with
  | non => cases r; rfl
  | bl b => cases r; rfl
  | int i => obtain ⟨t, rfl⟩ := r; rfl
  | str z => obtain ⟨t, rfl⟩ := r; rfl
  | _ => exact absurd (show false = true from f) Bool.false_ne_true
theorem any_eqU {x : V} : ∀ {xs : List V} {us : List Value}, Vals xs us → xs.all flatV = true → us.any (eqU x) = xs.any fun y => eqV y x
  | _, _, .nil, _ => rfl
  | y :: xs, u :: us, .cons r t, f => by
    rw [List.all_cons, Bool.and_eq_true] at f
    rw [List.any_cons, List.any_cons, eqU_of r f.1, any_eqU t f.2]
theorem mem_eqAt {A : Around} {s : Shared} {x : V} {v : Value} (rx : RelV x v) (fx : flatV x = true) : ∀ {xs : List V} {us : List Value}, Vals xs us → xs.all flatV = true → ∀ u ∈ us, SeqAt.EqAt A s u v (eqU x u)
  | _, _, .nil, _ => fun u hu => by cases hu
  | y :: xs, u :: us, .cons r t, f => fun u' hu => by
    rw [List.all_cons, Bool.and_eq_true] at f
    rcases List.mem_cons.mp hu with rfl | hu
    · rw [eqU_of r f.1]; exact eqAt_V r rx f.1 fx
    · exact mem_eqAt rx fx t f.2 u' hu
def inV (x : V) (xs : List V) : Bool := xs.any fun y => eqV y x
/-- x in a list or tuple of flat items -/
def rIn (K : PySem.W.Frag) (neg : Bool) : R2 := fun x y H Q => ∃ p xs, y = .ref p ∧ (SqL K H p xs ∨ SqT K H p xs) ∧ flatV x = true ∧ xs.all flatV = true ∧ Q (.bl (if neg then !inV x xs else inV x xs)) H
theorem op_in_seq : OpR X (compareOp .In) (rIn X.K false) := by
  intro pins s σ H x y v u Q I rx ry h
  obtain ⟨p, xs, rfl, hq, fx, fs, q⟩ := h
  cases ry
  rcases hq with hq | hq
  · obtain ⟨its, r, pl, hz⟩ := I.list hq
    refine SeqAt.in_listAt (eqU x) pl.isList (fun w hw => mem_eqAt rx fx r fs w (by simpa using hw)) ⟨.bl _, H, I, rfl, ?_⟩
    rw [show its.toArray.any (eqU x) = its.any (eqU x) by simp, any_eqU r fs]
    exact q
  · obtain ⟨its, r, pl, hz⟩ := I.tuple hq
    refine SeqAt.in_tupleAt (eqU x) pl (fun w hw => mem_eqAt rx fx r fs w (by simpa using hw)) ⟨.bl _, H, I, rfl, ?_⟩
    rw [show its.toArray.any (eqU x) = its.any (eqU x) by simp, any_eqU r fs]
    exact q
theorem op_notIn_seq : OpR X (compareOp .NotIn) (rIn X.K true) := by
  intro pins s σ H x y v u Q I rx ry h
  obtain ⟨p, xs, rfl, hq, fx, fs, q⟩ := h
  cases ry
  rcases hq with hq | hq
  · obtain ⟨its, r, pl, hz⟩ := I.list hq
    refine SeqAt.notIn_listAt (eqU x) pl.isList (fun w hw => mem_eqAt rx fx r fs w (by simpa using hw)) ⟨.bl _, H, I, rfl, ?_⟩
    rw [show its.toArray.any (eqU x) = its.any (eqU x) by simp, any_eqU r fs]
    exact q
  · obtain ⟨its, r, pl, hz⟩ := I.tuple hq
    refine SeqAt.notIn_tupleAt (eqU x) pl (fun w hw => mem_eqAt rx fx r fs w (by simpa using hw)) ⟨.bl _, H, I, rfl, ?_⟩
    rw [show its.toArray.any (eqU x) = its.any (eqU x) by simp, any_eqU r fs]
    exact q
theorem call_len_seq : CallR X (.builtin "len") (fun xs H Q => ∃ p ys, xs = [.ref p] ∧ (SqL X.K H p ys ∨ SqT X.K H p ys) ∧ Q (.int ys.length) H) := by
  intro pins s σ H xs us Q I r h
  obtain ⟨p, ys, rfl, hq, q⟩ := h
  obtain ⟨u, rfl, rx⟩ := vals1 r
  cases rx
  have hn := line63
  rcases hq with hq | hq
  · obtain ⟨its, r', pl, hz⟩ := I.list hq
    have hlen := r'.length
    exact Calls.call_len_list pl.isList (by simp only [List.size_toArray] <;> omega) ⟨.int ys.length, H, I.tok _, ⟨s.toks + 1, by rw [List.size_toArray, hlen]⟩, q⟩
  · obtain ⟨its, r', pl, hz⟩ := I.tuple hq
    have hlen := r'.length
    exact len_tuple pl (by simp only [List.size_toArray] <;> omega) ⟨.int ys.length, H, I.tok _, ⟨s.toks + 1, by rw [List.size_toArray, hlen]⟩, q⟩
theorem CallR.or {f : Value} {r r' : List V → Hp → VK → Prop} (h : CallR X f r) (h' : CallR X f r') : CallR X f (fun xs H Q => r xs H Q ∨ r' xs H Q) := by
  intro pins s σ H xs us Q I rs q
  rcases q with q | q
  · exact h pins s σ H xs us Q I rs q
  · exact h' pins s σ H xs us Q I rs q
theorem call_list_of : CallR X (.type "list") (fun xs H Q => ∃ p ys, xs = [.ref p] ∧ (SqL X.K H p ys ∨ SqT X.K H p ys) ∧ ∀ l, H l = none → Q (.ref l) (upd H l (.lst ys))) := by
  intro pins s σ H xs us Q I r h
  obtain ⟨p, ys, rfl, hq, q⟩ := h
  obtain ⟨u, rfl, rx⟩ := vals1 r
  cases rx
  have fin : ∀ (its : List Value), Vals ys its → ys.length ≤ sizeLine → ∀ (h' : Heap) (c' : Nat), (∀ b o', s.heap.get? b = some o' → h'.get? b = some o') →
      h'.get? s.heap.objs.size = some { cls := .type "list", dict := none, data := .seq its.toArray c', slots := #[] } → EP X pins σ Q (.ref s.heap.objs.size) { s with heap := h' } := fun its r' hz h' c' kp e =>
    ⟨.ref s.heap.objs.size, _, I.laid (t' := s.toks) kp (Nat.le_refl _) (show ObjOk X.prog X.w _ h' _ (.lst ys) from ⟨hz, its, c', r', e⟩), rfl, q _ (I.hok.fresh (Nat.le_refl _))⟩
  rcases hq with hq | hq
  · obtain ⟨its, r', pl, hz⟩ := I.list hq
    have hlen := r'.length
    obtain ⟨o, ho, hc, n, hd⟩ := pl.isList
    exact call_list_seq p (.inl rfl) ho hc hd (fun h' c' kp e => fin its r' hz h' c' kp e) (by simp only [List.size_toArray] <;> omega)
  · obtain ⟨its, r', pl, hz⟩ := I.tuple hq
    have hlen := r'.length
    obtain ⟨o, ho, hc, n, hd⟩ := pl
    exact call_list_seq p (.inr rfl) ho hc hd (fun h' c' kp e => fin its r' hz h' c' kp e) (by simp only [List.size_toArray] <;> omega)
theorem call_tuple_of : CallR X (.type "tuple") (fun xs H Q => ∃ p ys, xs = [.ref p] ∧ ((SqL X.K H p ys ∧ ∀ l, H l = none → Q (.ref l) (upd H l (.tup ys))) ∨ (SqT X.K H p ys ∧ Q (.ref p) H))) := by
  intro pins s σ H xs us Q I r h
  obtain ⟨p, ys, rfl, h⟩ := h
  obtain ⟨u, rfl, rx⟩ := vals1 r
  cases rx
  rcases h with ⟨hq, q⟩ | ⟨hq, q⟩
  · obtain ⟨its, r', pl, hz⟩ := I.list hq
    have hlen := r'.length
    refine call_tuple_list pl.isList (fun h' kp => ?_) (by simp only [List.size_toArray] <;> omega)
    have I1 : Inv X pins σ H { s with heap := h' } := I.kept (t' := s.toks) kp
    have I2 : Inv X pins σ (upd H h'.objs.size (.tup ys)) { s with heap := h'.push { cls := .type "tuple", data := .seq its.toArray } } :=
      I1.laid (t' := s.toks) (fun b o e => Heap.get?_push_of_some _ e) (Nat.le_refl _) (show ObjOk X.prog X.w _ _ _ (.tup ys) from ⟨hz, its, r', IsTupN.new _ _⟩)
    exact ⟨.ref h'.objs.size, _, I2, rfl, q _ (I1.hok.fresh (Nat.le_refl _))⟩
  · obtain ⟨its, r', pl, hz⟩ := I.tuple hq
    exact call_tuple_same pl ⟨.ref p, H, I, rfl, q⟩

/-- the value is of that builtin type -/
def tyV (K : PySem.W.Frag) (T : String) (x : V) (H : Hp) : Prop := match x with
  | .str _ => T = "str"
  | .int _ => T = "int"
  | .ref p => (T = "list" ∧ ∃ xs, SqL K H p xs) ∨ (T = "tuple" ∧ ((∃ o, K.lookup p = some o ∧ o.cls = .type "tuple" ∧ o.dict = none) ∨ ∃ xs, H p = some (.tup xs))) ∨
      (T = "dict" ∧ ((∃ kvs, H p = some (.dK kvs)) ∨ ∃ kvs, H p = some (.dT kvs))) ∨ (T = "set" ∧ ∃ S n, H p = some (.set S n))
  | _ => False
theorem tyV_is {pins : List (Addr × Obj)} {σ : St} {H : Hp} {s : Shared} {T : String} {x : V} {v : Value} (I : Inv X pins σ H s) (r : RelV x v) (ty : tyV X.K T x H) :
    s.TypeIs v T ∧ ∀ a, v = .ref a → ∃ ob, s.heap.get? a = some ob ∧ ob.dict = none := by
  cases x with
  | str z =>
    obtain ⟨t, rfl⟩ := r
    cases (show T = "str" from ty)
    exact ⟨typeIs_str s z t, fun _ e => nomatch e⟩
  | int i =>
    obtain ⟨t, rfl⟩ := r
    cases (show T = "int" from ty)
    exact ⟨typeIs_int s i t, fun _ e => nomatch e⟩
  | ref p =>
    cases r
    rcases ty with ⟨rfl, xs, hq⟩ | ⟨rfl, ⟨o, hk, hc, hd⟩ | ⟨xs, hq⟩⟩ | ⟨rfl, hk⟩ | ⟨rfl, S, n, hk⟩
    · obtain ⟨its, _, pl, _⟩ := I.list hq
      refine ⟨pl.isList.typeIs, fun a e => ?_⟩
      cases e
      obtain ⟨o, n, e, c, hd, _⟩ := pl
      exact ⟨o, e, hd⟩
    · refine ⟨⟨o, I.kIn p o hk, hc⟩, fun a e => ?_⟩
      cases e
      exact ⟨o, I.kIn _ o hk, hd⟩
    · obtain ⟨_, its, _, o, e, c, _, hd⟩ := I.hok p _ hq
      refine ⟨⟨o, e, c⟩, fun a e2 => ?_⟩
      cases e2
      exact ⟨o, e, hd⟩
    · have z : ∃ o, s.heap.get? p = some o ∧ o.ExactDict := by
        rcases hk with ⟨kvs, hk⟩ | ⟨kvs, hk⟩
        · obtain ⟨_, _, _, _, o, _, _, e, ex, _⟩ := I.hok p _ hk
          exact ⟨o, e, ex⟩
        · obtain ⟨_, _, _, _, o, _, _, e, ex, _⟩ := I.hok p _ hk
          exact ⟨o, e, ex⟩
      obtain ⟨o, e, ex⟩ := z
      refine ⟨⟨o, e, ex.1⟩, fun a e2 => ?_⟩
      cases e2
      exact ⟨o, e, ex.2.1⟩
    · obtain ⟨o, _, _, _, e, ex, _⟩ := I.hok p _ hk
      refine ⟨⟨o, e, ex.1⟩, fun a e2 => ?_⟩
      cases e2
      exact ⟨o, e, ex.2.1⟩
  | _ => exact False.elim ty
def tBM (K : PySem.W.Frag) (T : String) (r : V → List V → Hp → VK → Prop) (to : TE) (t : TA) : TE := fun σ H Q => to σ H fun x H1 => tyV K T x H1 ∧ t σ H1 fun xs H2 => r x xs H2 Q
variable {o e : Expr} {es : List Expr} {to : TE} {t : TA} {name : Str} {apos cpos : Pos} {T id : String} {r : V → List V → Hp → VK → Prop}
theorem pe_bm (pa : PlainAttrs T) (slot : Slot T name id) (hty : typeOf (.builtin id) = pure (.type "method_descriptor")) (hm : MtR X id r) (ho : PE X o to) (ha : PA X (e :: es) t)
    (hbase : attributeBase o name X.env (eval o X.env) = eval o X.env := by rfl)
    (hfew : ((backTo cpos (starEach (e :: es) X.env)).all (fun x => !x.1) && (backToKw cpos (keywordEach [] X.env)).all (fun x => x.1.isSome)
      && decide ((e :: es).length + ([] : List Keyword).length + (if ([] : List Keyword).isEmpty then 0 else 1) < 30)) = true := by rfl)
    (hline : (apos.endLine == cpos.line) = true := by rfl) (hs : starEach (e :: es) X.env = (false, eval e X.env) :: starEach es X.env := by rfl) (hplain : (backTo cpos (starEach es X.env)).any (·.1) = false := by rfl) :
    PE X (.Call (.Attribute o name apos) (e :: es) [] cpos) (tBM X.K T r to t) := by
  intro pins s σ H Q I h
  refine wpAny_Call_method_late hbase hfew hline rfl (thn (ho pins s σ H _ I h) fun v s1 ⟨x, H1, I1, r1, ty, q1⟩ => ?_)
  obtain ⟨h1, h2⟩ := tyV_is I1 r1 ty
  refine ⟨T, id, pa, slot, hty, h1, h2, ?_⟩
  have hA := ha cpos pins s1 σ H1 _ I1 q1
  rw [hs] at hA ⊢
  refine Calls.callWith_builtin (by show (false || (backTo cpos (starEach es X.env)).any (·.1)) = false; rw [hplain] <;> rfl) (Calls.evalArgs_plain ?_)
  exact thn hA fun us s2 ⟨vs, H2, I2, r2, q2⟩ => hm pins s2 σ H2 x vs v us Q I2 r1 r2 q2
/- xs.append(e), list.index on a module's tuple .. are MtR facts of 06m -/
end
end L2

namespace L2
open PySem PySem.Spec PyProof.Rows

def MtM (X : Cx) (id : String) (r : V → List V → Hp → VK → Prop) : Prop :=
  ∀ (pins : List (Addr × Obj)) (s : Shared) (σ : St) (H : Hp) (x : V) (xs : List V) (v : Value) (us : List Value) (Q : VK), Inv X pins σ H s → RelV x v → Vals xs us → r x xs H Q →
    wpAny (model X.prog X.w) X.A (call (.builtin id) (v :: us)) (EP X pins σ Q) X.xe s

theorem Vals.one : ∀ {x : V} {us : List Value}, Vals [x] us → ∃ u, us = [u] ∧ RelV x u
  | _, _, .cons r .nil => ⟨_, rfl, r⟩
theorem Vals.two : ∀ {x y : V} {us : List Value}, Vals [x, y] us → ∃ u v, us = [u, v] ∧ RelV x u ∧ RelV y v
  | _, _, _, .cons r (.cons q .nil) => ⟨_, _, rfl, r, q⟩
theorem Vals.zero : ∀ {us : List Value}, Vals [] us → us = []
  | _, .nil => rfl
theorem Vals.eraseIdx : ∀ {xs : List V} {us : List Value} (i : Nat), Vals xs us → Vals (xs.eraseIdx i) (us.eraseIdx i)
  | _, _, _, .nil => .nil
  | _, _, 0, .cons _ t => t
  | _, _, i + 1, .cons r t => .cons r (Vals.eraseIdx i t)
theorem Vals.rep {xs : List V} {us : List Value} (h : Vals xs us) : ∀ k : Nat, Vals (List.replicate k xs).flatten (List.replicate k us).flatten
  | 0 => .nil
  | k + 1 => by
    rw [List.replicate_succ, List.replicate_succ, List.flatten_cons, List.flatten_cons]
    exact Vals.append h (Vals.rep h k)
theorem len_erase {α : Type} : ∀ (l : List α) (i : Nat), (l.eraseIdx i).length ≤ l.length
  | [], _ => Nat.le_refl _
  | _ :: _, 0 => Nat.le_succ _
  | _ :: r, i + 1 => Nat.succ_le_succ (len_erase r i)
theorem foldl_rep (its : List Value) : ∀ (k : Nat) (acc : List Value),
    List.foldl (fun x1 x2 => x1 ++ x2) acc.toArray (List.replicate k its.toArray) = (acc ++ (List.replicate k its).flatten).toArray
  | 0, acc => by simp
  | k + 1, acc => by
    have e : acc.toArray ++ its.toArray = (acc ++ its).toArray := by simp
    have e2 : (acc ++ its) ++ (List.replicate k its).flatten = acc ++ (List.replicate (k + 1) its).flatten := by
      rw [List.replicate_succ, List.flatten_cons, List.append_assoc]
    rw [← e2, ← foldl_rep its k (acc ++ its), ← e, List.replicate_succ, List.foldl_cons]

section
variable {X : Cx} {pins : List (Addr × Obj)} {σ : St} {H : Hp} {s : Shared} {l b : Addr} {xs ys zs : List V}

theorem Inv.lset {its its' : List Value} {n : Nat} {f : Array Value → Array Value} {t' : Nat} (I : Inv X pins σ H s) (hH : H l = some (.lst xs))
    (e : s.heap.get? l = some { cls := .type "list", data := .seq its.toArray n }) (hf : f its.toArray = its'.toArray) (hv : Vals ys its') (hz : ys.length ≤ sizeLine) :
    Inv X pins σ (upd H l (.lst ys)) { s with heap := s.heap.update l (Obj.mapSeq f), toks := t' } := by
  have q := PySem.IsL.update e f
  rw [hf] at q
  refine I.write (x := l) (e := l) (by rw [hH]; exact trivial) (.inl rfl) (fun b' u hb hu => (Heap.get?_update_other s.heap (Obj.mapSeq f) (Ne.symm hb)).trans hu) ⟨_, q⟩ ?_
  exact ⟨hz, its', _, hv, q⟩
theorem Inv.lnew {its : List Value} {t' : Nat} (I : Inv X pins σ H s) (hv : Vals ys its) (hz : ys.length ≤ sizeLine) :
    Inv X pins σ (upd H s.heap.objs.size (.lst ys)) { s with heap := s.heap.push { cls := .type "list", data := .seq its.toArray }, toks := t' } :=
  I.laid (fun _ _ q => Heap.get?_push_of_some _ q) (Nat.le_refl _) ⟨hz, its, 0, hv, Heap.get?_push_size _ rfl⟩
theorem Inv.fresh (I : Inv X pins σ H s) : H s.heap.objs.size = none := I.hok.fresh (Nat.le_refl _)
theorem Inv.lstM (I : Inv X pins σ H s) (hH : H l = some (.lst xs)) : xs.length ≤ sizeLine ∧ ∃ (its : List Value) (n : Nat), Vals xs its ∧ xs.length = its.length ∧ s.heap.get? l = some { cls := .type "list", data := .seq its.toArray n } := by
  obtain ⟨z, its, n, r, e⟩ := I.hok l _ hH
  exact ⟨z, its, n, r, r.length, e⟩

theorem notLongL {n : Nat} (h : n ≤ sizeLine) : Builtin.List.listTooLong n = false := by
  unfold Builtin.List.listTooLong
  exact decide_eq_false (by omega)
end

section
variable {X : Cx}

def rAppend : V → List V → Hp → VK → Prop := fun x vs H Q => ∃ l xs y, x = .ref l ∧ vs = [y] ∧ H l = some (.lst xs) ∧ xs.length < sizeLine ∧ Q .non (upd H l (.lst (xs ++ [y])))
theorem mt_append : MtM X "list.append" rAppend := by
  intro pins s σ H x vs v us Q I rx rv h
  obtain ⟨l, xs, y, rfl, rfl, hH, hz, q⟩ := h
  cases rx
  obtain ⟨u, rfl, ru⟩ := rv.one
  obtain ⟨z, its, n, r, hl, e⟩ := I.lstM hH
  refine call_meets F.slot_list_append ⟨_, e, rfl⟩ F.entry_list_append (F.args_list_append_2 _ _) (PySem.list_append l its.toArray n u (by rw [List.size_toArray]; omega)) ⟨e, ?_⟩
  refine ⟨.non, _, I.lset (its' := its ++ [u]) hH e (by simp) (r.append (.cons ru .nil)) ?_, rfl, q⟩
  rw [List.length_append, List.length_singleton]
  omega

def rExtend : V → List V → Hp → VK → Prop := fun x vs H Q => ∃ l b xs zs, x = .ref l ∧ vs = [.ref b] ∧ H l = some (.lst xs) ∧ H b = some (.lst zs) ∧ xs.length + zs.length ≤ sizeLine ∧ Q .non (upd H l (.lst (xs ++ zs)))
theorem mt_extend : MtM X "list.extend" rExtend := by
  intro pins s σ H x vs v us Q I rx rv h
  obtain ⟨l, b, xs, zs, rfl, rfl, hH, hB, hz, q⟩ := h
  cases rx
  obtain ⟨u, rfl, ru⟩ := rv.one
  cases ru
  obtain ⟨z, its, n, r, hl, e⟩ := I.lstM hH
  obtain ⟨z2, its2, n2, r2, hl2, e2⟩ := I.lstM hB
  have hsz : its.toArray.size + its2.toArray.size ≤ sizeLine := by rw [List.size_toArray, List.size_toArray]; omega
  have hlong : ¬ (!its.toArray.isEmpty && Builtin.List.listTooLong (its.toArray.size + its2.toArray.size)) = true := by
    rw [notLongL hsz, Bool.and_false]
    exact Bool.false_ne_true
  refine call_meets F.slot_list_extend ⟨_, e, rfl⟩ F.entry_list_extend (F.args_list_extend_2 _ _)
    (AutoSeq1.list_extend_list_list_0 l its.toArray n b its2.toArray n2 hlong (by rw [List.size_toArray]; omega) (by omega)) ⟨e, e2, ?_⟩
  refine ⟨.non, _, I.lset (its' := its ++ its2) hH e (by simp) (r.append r2) ?_, rfl, q⟩
  rw [List.length_append]
  omega

def rPopAt : V → List V → Hp → VK → Prop := fun x vs H Q => ∃ l xs i k y, x = .ref l ∧ vs = [.int i] ∧ H l = some (.lst xs) ∧ -(2 ^ 63) ≤ i ∧ i < 2 ^ 63 ∧ seqIndex? i xs.length = some k ∧ xs[k]? = some y ∧ Q y (upd H l (.lst (xs.eraseIdx k)))
theorem mt_popAt : MtM X "list.pop" rPopAt := by
  intro pins s σ H x vs v us Q I rx rv h
  obtain ⟨l, xs, i, k, y, rfl, rfl, hH, h1, h2, hk, hy, q⟩ := h
  cases rx
  obtain ⟨u, rfl, ru⟩ := rv.one
  obtain ⟨t, rfl⟩ := ru
  obtain ⟨z, its, n, r, hl, e⟩ := I.lstM hH
  obtain ⟨w, hw, rw'⟩ := r.get hy
  refine call_meets F.slot_list_pop ⟨_, e, rfl⟩ F.entry_list_pop (F.args_list_pop_2 _ _)
    (MeetsSeq.list_pop_at l its.toArray n i t k w (fitsIndex_both h1 h2) (by rw [List.size_toArray, ← hl]; exact hk) (by rw [← Array.getElem?_toList]; exact hw) (by rw [List.size_toArray]; omega)) ⟨e, ?_⟩
  refine ⟨y, _, I.lset (its' := its.eraseIdx k) hH e ?_ (r.eraseIdx k) ?_, rw', q⟩
  · show its.toArray.eraseIdxIfInBounds k = (its.eraseIdx k).toArray
    rw [List.eraseIdxIfInBounds_toArray]
  · have := len_erase xs k
    omega

def rCat : R2 := fun x y H Q => ∃ l b xs zs, x = .ref l ∧ y = .ref b ∧ H l = some (.lst xs) ∧ H b = some (.lst zs) ∧ xs.length + zs.length ≤ sizeLine ∧ ∀ p, H p = none → Q (.ref p) (upd H p (.lst (xs ++ zs)))
theorem op_cat : OpR X (binaryOp .Add) rCat := by
  intro pins s σ H x y v u Q I rx ry h
  obtain ⟨l, b, xs, zs, rfl, rfl, hH, hB, hz, q⟩ := h
  cases rx
  cases ry
  obtain ⟨z, its, n, r, hl, e⟩ := I.lstM hH
  obtain ⟨z2, its2, n2, r2, hl2, e2⟩ := I.lstM hB
  refine PySem.P.add_list e e2 ?_ (by rw [List.size_toArray, List.size_toArray]; omega)
  have ea : its.toArray ++ its2.toArray = (its ++ its2).toArray := by simp
  rw [ea]
  exact ⟨.ref _, _, I.lnew (t' := s.toks) (r.append r2) (by rw [List.length_append]; omega), rfl, q _ I.fresh⟩
/-- a list times an int (a negative one is nothing) -/
def rRep : R2 := fun x y H Q => ∃ l k xs, x = .ref l ∧ y = .int k ∧ H l = some (.lst xs) ∧ -(2 ^ 63) ≤ k ∧ k < 2 ^ 63 ∧ xs.length * k.toNat ≤ sizeLine ∧
  ∀ p, H p = none → Q (.ref p) (upd H p (.lst (List.replicate k.toNat xs).flatten))
theorem len_rep {α : Type} (xs : List α) (k : Nat) : (List.replicate k xs).flatten.length = k * xs.length := by
  induction k with
  | zero => simp
  | succ k ih => rw [List.replicate_succ, List.flatten_cons, List.length_append, ih, Nat.succ_mul, Nat.add_comm]
theorem op_rep : OpR X (binaryOp .Mult) rRep := by
  intro pins s σ H x y v u Q I rx ry h
  obtain ⟨l, k, xs, rfl, rfl, hH, h1, h2, hz, q⟩ := h
  cases rx
  obtain ⟨t, rfl⟩ := ry
  obtain ⟨z, its, n, r, hl, e⟩ := I.lstM hH
  have hlen : its.toArray.size * k.toNat ≤ sizeLine := by rw [List.size_toArray, ← hl]; exact hz
  have hcap : ¬ its.toArray.size * k.toNat > (2 ^ 63 - 1) / 8 := by
    have : (sizeLine : Nat) ≤ (2 ^ 63 - 1) / 8 := by decide
    omega
  have hfit : ¬ (!Builtin.List.listFitsIndex k) = true := by
    rw [fitsIndex_both h1 h2]
    exact Bool.false_ne_true
  have hlong : ¬ Builtin.List.listTooLong (its.toArray.size * k.toNat) = true := by
    rw [notLongL hlen]
    exact Bool.false_ne_true
  have hnew : List.foldl (fun x1 x2 => x1 ++ x2) #[] (List.replicate (if its.toArray.isEmpty = true then 0 else k.toNat) its.toArray) = (List.replicate k.toNat its).flatten.toArray := by
    have f0 : ∀ m : Nat, List.foldl (fun x1 x2 => x1 ++ x2) #[] (List.replicate m its.toArray) = (List.replicate m its).flatten.toArray := fun m => by
      have := foldl_rep its m []
      rw [List.nil_append] at this
      exact this
    rw [f0]
    cases its with
    | nil => simp
    | cons a r' => rw [if_neg (by simp)]
  refine wpAny_binaryOp_repeat_ref (T := "list") (U := "int") (by decide) ⟨_, e, rfl⟩ (fun s' => typeIs_int s' k t) noFill_list_mul F.fills_int_mul F.slot_int_rmul repeat_list F.slot_int_index.lookup
    (call_meets F.slot_int_rmul (typeIs_int s k t) F.entry_int_rmul (F.args_int_rmul_2 _ _) (int___rmul___int_list k t l its.toArray n)
      ⟨e, rfl, ⟨_, e, rfl⟩, call_meets F.slot_list_mul ⟨_, e, rfl⟩ F.entry_list_mul (F.args_list_mul_2 _ _) (AutoListH.list___mul___list_int_3 l its.toArray n k t hfit hcap hlong) ⟨e, ?_⟩⟩)
  rw [hnew]
  exact ⟨.ref _, _, I.lnew (t' := s.toks) (r.rep k.toNat) (by rw [len_rep, Nat.mul_comm]; exact hz), rfl, q _ I.fresh⟩

end

section
variable {prog : Program} {w : World} {A : Around} {E : Value → Shared → Prop} {s : Shared}
end

section
variable {X : Cx}
end
end L2

namespace Att
open PySem PySem.W PySem.Calls PyProof.Rows

theorem ints_of_wellAll {P : Params} {h : Heap} : ∀ (ns : List Int) (vs : List Value), WellAll P h vs (ns.map WData.int) → IntsAre vs ns := by
  intro ns
  induction ns with
  | nil =>
    intro vs w
    rw [List.map_nil] at w
    cases w
    exact .nil
  | cons n ns ih =>
    intro vs w
    rw [List.map_cons] at w
    cases w with
    | cons a b =>
      cases a
      exact .cons _ _ (ih _ b)

theorem script_of {l : OpenLaw} {n : Nat} (hn : l.most = some n) {P : Params} {h : Heap} {args : List WData} {vals : List Value}
    (hpre : l.row.toRowW.claim.pre args = true) (hwl : WellAll P h vals args) :
    ∃ a vs ns, vals = [Value.ref a] ∧ args = [WData.list (ns.map WData.int)] ∧ h.get? a = some { cls := .type "list", data := .seq vs.toArray } ∧ IntsAre vs ns ∧ ns.length ≤ n := by
  have hsh : WShape.hasAll [] args [.list .int] = true := (pre_splitW hpre).1
  have hc : l.pre.holds [] { args := args } = true := (pre_splitW hpre).2
  obtain ⟨d, r, rfl, h1, h2⟩ := hasAllW_cons hsh
  obtain rfl := hasAllW_nil h2
  obtain ⟨xs, rfl, h3⟩ := hasW_list h1
  obtain ⟨ns, rfl⟩ := items_int h3
  have hlen : ns.length ≤ n := by
    unfold OpenLaw.pre at hc
    have h4 : (WTm.not (.lt (.lit (.int (n : Int))) (.len (.arg 0)))).holds [] { args := [.list (ns.map .int)] } = true := by
      have h4 := (holds_andW hc).1
      rw [hn] at h4
      exact h4
    have h5 := condW_of h4 (w_not (w_lt w_lit (w_len_list (w_arg rfl))))
    rw [List.length_map] at h5
    refine Nat.le_of_not_lt fun q => ?_
    have q' : (n : Int) < ((ns.length : Nat) : Int) := by omega
    first
      | (rw [decide_eq_true q'] at h5; exact absurd h5 (by decide))
      | (simp at h5; omega)
  cases hwl with
  | cons w1 w2 =>
    cases w2
    cases w1 with
    | list ho hall => exact ⟨_, _, ns, rfl, rfl, ho, ints_of_wellAll ns _ hall, hlen⟩

theorem post_true (l : OpenLaw) (args : List WData) : l.row.toRowW.claim.post args (.bool true) args = true :=
  postW_of (r := l.row.toRowW) (X := (true == true))
    (show WShape.has [] (.bool true) .bool = true by first | rfl | decide | simp [WShape.has, WShape.arms, WShape.armsAll])
    (show (WTm.eq .res (.lit (.bool true))).value [] { args := args, res := some (.bool true), after := args } = some (.bool (true == true)) from w_eq_bool (w_res rfl) w_lit) rfl

/-- the same from a codeAny of the CALL (for a layer whose function contracts speak of calls) -/
theorem attach_call {l : OpenLaw} {n : Nat} {q : Program} {loose : List Str} {XP : (Str → Option Value) → Heap → Prop} {YP : World → Heap → Prop} {d : DefRec}
    (hn : l.most = some n) (hdf : d.params.defaults = [])
    (call : ∀ (w : World) (s₀ s₁ : Shared) (mg mb : Str → Option Value) (fa : Addr) (o : Obj) (pm cd doc : Value) (a : Addr) (vs : List Value) (ns : List Int),
      Ground q loose [] XP w s₀ mg mb s₁.heap → YP w s₁.heap →
      s₁.heap.get? fa = some o → o.data = .func (docDef d.name d.params d.body d.scope pm cd doc) → s₁.heap.CodeRec cd d.name → mg d.name = some (.ref fa) →
      s₁.heap.get? a = some { cls := .type "list", data := .seq vs.toArray } → IntsAre vs ns → ns.length ≤ n → s₁.gens = #[] →
      codeAny (model l.prog w) callerA (.call (.ref fa) ⟨[.ref a], []⟩) (fun r s' => r = .ok (.ret (.bool true)) ∧ OldK s₁.heap s'.heap ∧ s'.os = s₁.os ∧ AllBare s'.gens) s₁) :
    WalkO q loose XP YP l.row.toRowW d [] (fun f vs => PySem.call f vs) := by
  intro w s₀ s₁ mg mb G Y fa o pm cd doc dV kV ho hd hcd hD hmg hg args vals as hpre hlay hrd hwl hlo
  obtain rfl : dV = .none := Dflts.none hD hdf
  obtain rfl : kV = .none := Dflts.noKw hD
  obtain ⟨a, vs, ns, rfl, rfl, hobj, hints, hlen⟩ := script_of hn hpre hwl
  refine enter_call (codeAny_mono (call w s₀ s₁ mg mb fa o pm cd doc a vs ns G Y ho (fd_plain hd) hcd hmg hobj hints hlen hg) fun r s' hq => ?_)
  obtain ⟨rfl, h2, h3, h4⟩ := hq
  exact ⟨.inl ⟨.bool true, .bool true, [], rfl, fun _ => rfl, .bool true, post_true l _, fun _ => ⟨List.Pairwise.nil, fun _ hm => (nomatch hm)⟩⟩, h2, h3, h4⟩

section
variable {prog : Program} {w : World} {A : Around} {E : Value → Shared → Prop} {s : Shared} {K : Frag}

end
end Att

namespace L2
open PySem PySem.Spec PyProof.Rows

theorem vals_ints : ∀ {vs : List Value} {ns : List Int}, IntsAre vs ns → Vals (ns.map V.int) vs
  | _, _, .nil => .nil
  | _, _, .cons n t h => .cons ⟨t, rfl⟩ (vals_ints h)

/-- nothing is tracked but the script, known to the object (or it is an object of the module) -/
def Only (H : Hp) : Prop := ∀ b, H b = none ∨ ∃ o xs, H b = some (.frz o (.lst xs))

/-- THE HEAD: the law's promise, at the heap behind the top. F, the promise of the law's def, may use that base is part of the heap (so K.In base, base.Ns mainGlobals mg stand in Mod) -/
theorem law_call {P : Program} {w : World} {K : PySem.W.Frag} {mg mb : Str → Option Value} {CX : CXT} {k : Nat} {fa a : Addr} {fd : FuncData} {x : Str} {sp : Sp} {s₁ : Shared} {vs : List Value} {ns : List Int}
    (KX : K.In s₁.heap) (hns : s₁.heap.Ns mainGlobals mg) (hb : s₁.heap.Ns builtinsNs mb) (hbb : ∀ x : Str, x ≠ "__name__" → mb x = bootBuiltins x) (hlim : s₁.heap.NoLimit) (hg : s₁.gens = #[])
    (ha : s₁.heap.get? a = some { cls := .type "list", data := .seq vs.toArray }) (hi : IntsAre vs ns) (hl : ns.length ≤ sizeLine) (hr : Room k callerA)
    (F : ∀ base : Heap, K.In base → base.Ns mainGlobals mg → FnOk P w K mg base CX k fa fd [x] sp) (hbind : ∀ (s : Shared) (u : Value), BindsTo s fd ⟨[u], []⟩ [(x, u)])
    (hsp : ∀ H : Hp, Only H → SqL K H a (ns.map V.int) → sp [.ref a] H (fun v _ => v = .bl true) fun _ _ _ => False)
    (hCX : ∀ H e s', CX [] H s₁ (fun _ _ _ => False) e s' → False) :
    codeAny (model P w) callerA (.call (.ref fa) ⟨[.ref a], []⟩) (fun r s' => r = .ok (.ret (.bool true)) ∧ OldK s₁.heap s'.heap ∧ s'.os = s₁.os ∧ AllBare s'.gens) s₁ := by
  have rv := vals_ints hi
  have lenV := hi.length
  -- from an abstract heap in which nothing but the script may be tracked
  have core : ∀ H : Hp, Only H → SqL K H a (ns.map V.int) → HOk P w H s₁.heap → (∀ b, H b ≠ none → b = a) → (H a ≠ none → K.lookup a = none) →
      codeAny (model P w) callerA (.call (.ref fa) ⟨[.ref a], []⟩) (fun r s' => r = .ok (.ret (.bool true)) ∧ OldK s₁.heap s'.heap ∧ s'.os = s₁.os ∧ AllBare s'.gens) s₁ := by
    intro H hO hS hok hA hK
    have base_of : ∀ {b : Addr} {o : Obj}, s₁.heap.get? b = some o → H b = none → (hidT s₁.heap H).get? b = some o := fun e n => hidT_get e n
    have noA : ∀ {b : Addr} {o : Obj} {es : Array DictEntry} {ep : Nat}, s₁.heap.get? b = some o → o.data = .dict es ep → H b = none := fun {b o es ep} e d => by
      cases q : H b with
      | none => rfl
      | some u =>
        have e' : b = a := hA b (by rw [q]; simp)
        subst e'
        rw [ha] at e; cases e
        have d' : Data.seq vs.toArray _ = Data.dict es ep := d
        cases d'
    have nsK : ∀ {b : Addr} {m : Str → Option Value}, s₁.heap.Ns b m → (hidT s₁.heap H).Ns b m := fun {b m} ⟨o, es, ep, e, d, r⟩ => ⟨o, es, ep, base_of e (noA e d), d, r⟩
    have hKb : K.In (hidT s₁.heap H) := fun b o e => base_of (KX b o e) (by
      cases q : H b with
      | none => rfl
      | some u =>
        have e' : b = a := hA b (by rw [q]; simp)
        subst e'
        rw [hK (by rw [q]; simp)] at e; cases e)
    have hM : Mod K mg (hidT s₁.heap H) := ⟨hKb, nsK hns, ⟨mb, nsK hb, hbb⟩, let ⟨mc, h1, h2⟩ := hlim; ⟨mc, nsK h1, h2⟩⟩
    have e0 : Env0 P w K mg (hidT s₁.heap H) callerA [] s₁ H := ⟨rfl, hM, fun b o e => of_hidT e, Nat.le_of_eq (hidT_size _ _), trivial, fun b hb => absurd (show b ∈ ([] : List Addr) from hb) (by simp), hok, .of_eq hg⟩
    refine codeAny_mono ((F _ hKb (nsK hns)).run callerA [] s₁ H ⟨[.ref a], []⟩ [.ref a] [.ref a] _ _ hr e0 (hbind s₁ (.ref a)) (.cons rfl .nil) (hsp H hO hS)) fun r s' h => ?_
    cases r with
    | error e => exact (hCX H e s' h).elim
    | ok fl =>
      cases fl with
      | next => exact False.elim h
      | brk => exact False.elim h
      | cont => exact False.elim h
      | ret u =>
        obtain ⟨v, H', os, bare, un, hok', r', q⟩ := h
        have q' : v = .bl true := q
        subst q'
        obtain rfl : u = Value.bool true := r'
        refine ⟨rfl, OldK.of_keep fun b o e => ?_, os, bare⟩
        cases q : H b with
        | none => exact un.keep b o e q (by intro z; exact absurd (show b ∈ ([] : List Addr) from z) (by simp)) (by simp)
        | some u =>
          rcases hO b with z | ⟨ob, xs, z⟩
          · rw [q] at z; cases z
          · have z2 := un.frzs b ob _ z
            obtain ⟨e1, _⟩ := hok b _ z
            obtain ⟨e2, _⟩ := hok' b _ z2
            rw [e] at e1; cases e1
            exact e2
  cases hk : K.lookup a with
  | some o =>
    -- the script is one of the module's own objects
    have e := KX a o hk
    rw [ha] at e
    cases e
    refine core (fun _ => none) (fun _ => .inl rfl) (.inr ⟨_, vs.toArray, _, hk, rfl, rfl, rfl, by rw [List.size_toArray, lenV]; exact hl, by simpa using rv⟩) (fun b u z => by have z' : (none : Option HO) = some u := z; cases z') (fun b z => absurd rfl z) fun z => absurd rfl z
  | none =>
    refine core (fun b => if b = a then some (.frz { cls := .type "list", data := .seq vs.toArray } (.lst (ns.map V.int))) else none) (fun b => ?_) (.inl (.inr ⟨{ cls := .type "list", data := .seq vs.toArray }, if_pos rfl⟩)) (fun b u z => ?_) (fun b z => ?_) fun _ => hk
    · by_cases hb : b = a
      · exact .inr ⟨_, _, if_pos hb⟩
      · exact .inl (if_neg hb)
    · by_cases hb : b = a
      · have z' := (if_pos hb).symm.trans z
        cases z'
        subst hb
        exact ⟨ha, by rw [List.length_map]; exact hl, vs, _, rv, ha⟩
      · have z' := (if_neg hb).symm.trans z
        cases z'
    · by_cases hb : b = a
      · exact hb
      · exact absurd (if_neg hb) z
end L2

namespace L2
open PySem PySem.Spec PyProof.Rows

/-- the goal that k_head leaves (case hc), from the law's promise. F gives the function object fd (K's own) once, then the promise over every base -/
theorem walk_of {l : PySem.W.OpenLaw} {n k : Nat} {q : Program} {loose : List Str} {XP : (Str → Option Value) → Heap → Prop} {YP : World → Heap → Prop} {d : DefRec} {K : Params → PySem.W.Frag} {CX : World → CXT} {sp : World → Sp} {x : Str}
    (hn : l.most = some n) (hn2 : n ≤ sizeLine) (hdf : d.params.defaults = []) (hr : Room k callerA)
    (hY : ∀ (w : World) (h : Heap), YP w h → (K w.params).In h)
    (F : ∀ (w : World) (mg : Str → Option Value) (fa : Addr) (h : Heap), (K w.params).In h → h.Ns mainGlobals mg → mg d.name = some (.ref fa) →
      ∃ fd : FuncData, (∀ (s : Shared) (u : Value), BindsTo s fd ⟨[u], []⟩ [(x, u)]) ∧
        ∀ base : Heap, (K w.params).In base → base.Ns mainGlobals mg → FnOk l.prog w (K w.params) mg base (CX w) k fa fd [x] (sp w))
    (hsp : ∀ (w : World) (H : Hp) (a : Addr) (ns : List Int), ns.length ≤ n → Only H → SqL (K w.params) H a (ns.map V.int) → sp w [.ref a] H (fun v _ => v = .bl true) fun _ _ _ => False)
    (hCX : ∀ (w : World) (H : Hp) (s : Shared) (e : Value) (s' : Shared), CX w [] H s (fun _ _ _ => False) e s' → False) :
    PySem.W.WalkO q loose XP YP l.row.toRowW d [] (fun f vs => PySem.call f vs) := by
  refine Att.attach_call hn hdf fun w s₀ s₁ mg mb fa o pm cd doc a vs ns G Y ho hd hcd hmg hobj hints hlen hg => ?_
  have KX := hY w _ Y
  obtain ⟨fd, hb, hF⟩ := F w mg fa _ KX G.T.g hmg
  exact law_call KX G.T.g G.T.b G.T.builtins G.T.nolimit hg hobj hints (Nat.le_trans hlen hn2) hr hF hb (fun H hO hS => hsp w H a ns hlen hO hS) fun H e s' => hCX w H s₁ e s'
end L2

/- THE LAST THEOREM (shape; LID, My.* are yours):
   My.Adr: a structure of the addresses that your layer names (classes, functions); My.Txt K t: a structure (Prop) of the equations over K;
   My.txt_mk : {K} {implicit addresses ..} (e1 : nsIn K mainGlobals "law" = some (some (.ref f))) (e2 : K.lookup f = some ⟨oc, od, .func (fnOf "law" "law" params body scope dV kV doc pm an cdv ct), sl⟩) (e3 : codeIn K cdv "law" = true) .. : ∃ t, My.Txt K t

(the tactic k_is has no namespace: write k_is) -/

namespace L2
open PySem PySem.Spec PyProof.Rows

def defArgs (s : Stmt) : Arguments := match s with
  | .FunctionDef _ a _ _ _ _ _ _ _ _ => a
  | _ => { posonlyargs := [], args := [], vararg := none, kwonlyargs := [], kw_defaults := [], kwarg := none, defaults := [] }
def defBody (s : Stmt) : List Stmt := match s with
  | .FunctionDef _ _ b _ _ _ _ _ _ _ => b
  | _ => []
def defScope (s : Stmt) : Scope := match s with
  | .FunctionDef _ _ _ _ _ _ sc _ _ _ => sc
  | _ => { kind := .function, names := [], isGenerator := false, isCoroutine := false }

abbrev CX0 : CXT := fun _ _ _ _ _ _ => False
abbrev E0 : XK := fun _ _ _ => False
theorem pass0 {X : Cx} : Passes CX0 X E0 := fun _ _ _ _ _ _ _ h => h.elim

structure Fun (K : PySem.W.Frag) (x qual : Str) (st : Stmt) (f : Addr) (fd : FuncData) : Prop where
  ex : ∃ (oc : Value) (od : Option Addr) (kV doc pm : Value) (an : Option Addr) (cdv ct : Value) (osl : Array (Option Value)),
    fd = PySem.W.fnOf x qual (defArgs st) (defBody st) (defScope st) .none kV doc pm an cdv ct ∧ K.lookup f = some ⟨oc, od, .func fd, osl⟩ ∧ PySem.W.codeIn K cdv qual = true
  kp : PySem.W.keepIn K (.ref f) = true
section
variable {P : Program} {w : World} {K : PySem.W.Frag} {mg : Str → Option Value} {base : Heap}
/-- THE RULE for a def: its body as a term of rules, and the reading of that term -/
theorem Fun.ok {x qual : Str} {st : Stmt} {f : Addr} {fd : FuncData} {N ps : List Str} {k : Nat} {sp : Sp} (F : Fun K x qual st f fd) (S : FnScope N ps (defScope st)) (len : ∀ vs H Q E, sp vs H Q E → vs.length = ps.length)
    (hbody : ∀ (cdv : Value) (A : Around) (outer : List Env) (s : Shared) (H : Hp) (vs : List V) (Q : VK) (E : XK), Room k (A.deeper (envOfC qual (defScope st) s.heap.objs.size f cdv)) → sp vs H Q E →
      ∃ t, PSs (cxOf CX0 P w K mg base N qual (defScope st) f cdv A outer s H E).nox (defBody st) t ∧ t { nx := fun _ H' => Q .non H', rt := Q } (start N vs) H) : FnOk P w K mg base CX0 (k + 1) f fd ps sp := by
  obtain ⟨oc, od, kV, doc, pm, an, cdv, ct, osl, rfl, lk, hcd⟩ := F.ex
  refine fn_of lk hcd S len fun A outer s H vs Q E hr hsp => ?_
  obtain ⟨t, h, q⟩ := hbody cdv A outer s H vs Q E hr hsp
  exact ⟨t, h.nox, q⟩
/-- how its arguments bind (no defaults): h is «fun _ _ _ _ _ _ us hl => match us, hl with | [_, _], _ => rfl», one _ a parameter -/
theorem Fun.binds {x qual : Str} {st : Stmt} {f : Addr} {fd : FuncData} {ps : List Str} (F : Fun K x qual st f fd)
    (h : ∀ (kV doc pm : Value) (an : Option Addr) (cdv ct : Value) (us : List Value), us.length = ps.length → bindArgs (PySem.W.fnOf x qual (defArgs st) (defBody st) (defScope st) .none kV doc pm an cdv ct) ⟨us, []⟩ = pure (ps.zip us)) : Binds K fd ps [] := by
  obtain ⟨oc, od, kV, doc, pm, an, cdv, ct, osl, rfl, lk, hcd⟩ := F.ex
  exact .all (h kV doc pm an cdv ct)
theorem fun_mk {x qual : Str} {st : Stmt} {f : Addr} {oc : Value} {od an : Option Addr} {osl : Array (Option Value)} {kV doc pm cdv ct : Value} (l : K.lookup f = some ⟨oc, od, .func (PySem.W.fnOf x qual (defArgs st) (defBody st) (defScope st) .none kV doc pm an cdv ct), osl⟩)
    (c : PySem.W.codeIn K cdv qual = true) (k : PySem.W.keepIn K (.ref f) = true) : Fun K x qual st f (PySem.W.fnOf x qual (defArgs st) (defBody st) (defScope st) .none kV doc pm an cdv ct) := ⟨⟨oc, od, kV, doc, pm, an, cdv, ct, osl, rfl, l, c⟩, k⟩
end
theorem hu_of {A : Around} {k : Nat} (hr : Room k A) : A.units + 1 < cLine := Nat.lt_of_le_of_lt (Nat.add_le_add_left (by decide : 1 ≤ 64) _) hr.units
section
variable {X : Cx}
theorem pv (i : Nat) {x : Str} {pos : Pos} (hN : X.N[i]? = some x := by rfl) (hv : Vis X.env.scope x := by first | exact Or.inl rfl | exact Or.inr (Or.inl rfl) | exact Or.inr (Or.inr rfl)) (hd : (x == ("__debug__" : Str)) = false := by decide)
    (hcd : (x == ("__classdict__" : Str)) = false := by decide) : PE X (.Name x pos) (tVar i) := pe_var hN hv hd hcd
end

theorem iteF {A B : Prop} (h : B) : if false = true then A else B := by
  rw [if_neg Bool.false_ne_true]
  exact h
theorem iteT {A B : Prop} (h : A) : if true = true then A else B := by
  rw [if_pos rfl]
  exact h
/-- all that was tracked is as it was -/
def Same (H H' : Hp) : Prop := ∀ b o, H b = some o → H' b = some o
theorem Same.refl (H : Hp) : Same H H := fun _ _ h => h
theorem Same.trans {H H1 H2 : Hp} (a : Same H H1) (b : Same H1 H2) : Same H H2 := fun c o h => b c o (a c o h)
theorem Same.free {H H' : Hp} (e : Same H H') {l : Addr} (h : H' l = Option.none) : H l = Option.none := by
  cases q : H l with
  | none => rfl
  | some o =>
    rw [e l o q] at h
    cases h
theorem Same.seq {K : PySem.W.Frag} {H H' : Hp} {a : Addr} {xs : List V} (e : Same H H') (h : SqL K H a xs) : SqL K H' a xs := by
  rcases h with (h | ⟨o, h⟩) | h
  · exact .inl (.inl (e _ _ h))
  · exact .inl (.inr ⟨o, e _ _ h⟩)
  · exact .inr h

end L2

set_option Elab.async false
set_option linter.all false
set_option maxRecDepth 100000
namespace L2
open PySem PySem.Spec PyProof.Rows

section
variable {κ : Type} [DecidableEq κ]
def valV (kvs : List (κ × V)) (k : κ) : Option V := (kvs.find? fun kv => decide (kv.1 = k)).map (·.2)
/-- in its place, or at the end -/
def putK (kvs : List (κ × V)) (k : κ) (v : V) : List (κ × V) :=
  if (kvs.any fun kv => decide (kv.1 = k)) = true then kvs.map (fun kv => if kv.1 = k then (kv.1, v) else kv) else kvs ++ [(k, v)]
def dropK (kvs : List (κ × V)) (k : κ) : List (κ × V) := kvs.filter fun kv => decide (kv.1 ≠ k)

theorem valV_pos {p : κ × V} {r : List (κ × V)} {k : κ} (e : p.1 = k) : valV (p :: r) k = some p.2 := by simp [valV, List.find?_cons, e]
theorem valV_neg {p : κ × V} {r : List (κ × V)} {k : κ} (e : ¬ p.1 = k) : valV (p :: r) k = valV r k := by simp [valV, List.find?_cons, e]
theorem valV_any (k : κ) : ∀ kvs : List (κ × V), (kvs.any fun kv => decide (kv.1 = k)) = (valV kvs k).isSome
  | [] => rfl
  | p :: r => by
    rw [List.any_cons]
    by_cases e : p.1 = k
    · simp only [valV_pos e, decide_eq_true e, Bool.true_or, Option.isSome_some]
    · rw [valV_neg e, decide_eq_false e, Bool.false_or]; exact valV_any k r
theorem length_putK (kvs : List (κ × V)) (k : κ) (v : V) : (putK kvs k v).length ≤ kvs.length + 1 := by
  unfold putK
  split
  · rw [List.length_map]; omega
  · rw [List.length_append, List.length_cons, List.length_nil]; omega
theorem RelO.isSome_eq {o : Option V} {u : Option Value} (r : RelO o u) : o.isSome = u.isSome := by
  cases o with
  | none => cases u with
    | none => rfl
    | some _ => exact (show False from r).elim
  | some _ => cases u with
    | none => exact (show False from r).elim
    | some _ => rfl
theorem RelO.getD {o : Option V} {u : Option Value} {d : V} {d' : Value} (r : RelO o u) (rd : RelV d d') : RelV (o.getD d) (u.getD d') := by
  cases o with
  | none => cases u with
    | none => exact rd
    | some _ => exact (show False from r).elim
  | some _ => cases u with
    | none => exact (show False from r).elim
    | some _ => exact r

/-- raw tables of the same keys -/
theorem KV.val {kvs : List (κ × V)} {vs : List (κ × Value)} (r : KV kvs vs) (k : κ) : RelO (valV kvs k) (valueAt vs k) := by
  unfold KV at r
  induction r with
  | nil => exact True.intro
  | @cons p q ps qs h t ih =>
    obtain ⟨h1, h2⟩ := h
    by_cases e : p.1 = k
    · have e' : q.1 = k := h1.symm.trans e
      have b : valueAt (q :: qs) k = some q.2 := by simp [valueAt, List.find?_cons, e']
      rw [valV_pos e, b]; exact h2
    · have e' : ¬ q.1 = k := fun z => e (h1.trans z)
      have b : valueAt (q :: qs) k = valueAt qs k := by simp [valueAt, List.find?_cons, e']
      rw [valV_neg e, b]; exact ih
theorem KV.any {kvs : List (κ × V)} {vs : List (κ × Value)} (r : KV kvs vs) (k : κ) : (kvs.any fun kv => decide (kv.1 = k)) = vs.any fun kv => decide (kv.1 = k) := by
  unfold KV at r
  induction r with
  | nil => rfl
  | cons h t ih => rw [List.any_cons, List.any_cons, ih, h.1]
theorem KV.repl {kvs : List (κ × V)} {vs : List (κ × Value)} (r : KV kvs vs) (k : κ) {y : V} {u : Value} (ry : RelV y u) :
    KV (kvs.map fun kv => if kv.1 = k then (kv.1, y) else kv) (vs.map fun kv => if kv.1 = k then (kv.1, u) else kv) := by
  unfold KV at r ⊢
  induction r with
  | nil => exact .nil
  | @cons p q ps qs h t ih =>
    rw [List.map_cons, List.map_cons]
    refine .cons ?_ ih
    obtain ⟨h1, h2⟩ := h
    by_cases e : p.1 = k
    · rw [if_pos e, if_pos (h1.symm.trans e)]; exact ⟨h1, ry⟩
    · rw [if_neg e, if_neg (fun z => e (h1.trans z))]; exact ⟨h1, h2⟩
theorem KV.put {kvs : List (κ × V)} {vs : List (κ × Value)} (r : KV kvs vs) (k : κ) {y : V} {u : Value} (ry : RelV y u) : KV (putK kvs k y) (stored vs k u) := by
  unfold putK stored
  rw [r.any k]
  by_cases e : (vs.any fun kv => decide (kv.1 = k)) = true
  · rw [if_pos e, if_pos e]; exact r.repl k ry
  · rw [if_neg e, if_neg e]; exact Paired.snoc r ⟨rfl, ry⟩
theorem KV.drop {kvs : List (κ × V)} {vs : List (κ × Value)} (r : KV kvs vs) (k : κ) : KV (dropK kvs k) (without vs k) := by
  unfold KV at r ⊢
  unfold dropK without
  induction r with
  | nil => exact .nil
  | @cons p q ps qs h t ih =>
    obtain ⟨h1, h2⟩ := h
    rw [List.filter_cons, List.filter_cons]
    by_cases e : p.1 = k
    · have a : ¬ decide (p.1 ≠ k) = true := by simp [e]
      have b : ¬ decide (q.1 ≠ k) = true := by simp [h1.symm.trans e]
      rw [if_neg a, if_neg b]; exact ih
    · have e' : ¬ q.1 = k := fun z => e (h1.trans z)
      have a : decide (p.1 ≠ k) = true := by simp [e]
      have b : decide (q.1 ≠ k) = true := by simp [e']
      rw [if_pos a, if_pos b]; exact .cons ⟨h1, h2⟩ ih
theorem KV.keys {kvs : List (κ × V)} {vs : List (κ × Value)} (r : KV kvs vs) : kvs.map (·.1) = vs.map (·.1) := by
  unfold KV at r
  induction r with
  | nil => rfl
  | cons h t ih => rw [List.map_cons, List.map_cons, ih, h.1]
theorem KV.length {kvs : List (κ × V)} {vs : List (κ × Value)} (r : KV kvs vs) : kvs.length = vs.length := Paired.length r
end

theorem kV_is {P : Program} {w : World} {k : Key} {u : Value} (r : RelV (kV k) u) : (mixKind P w).is k u = true := by
  cases k with
  | inl i => obtain ⟨t, e⟩ := (show ∃ t, u = Value.int i t from r); subst e; exact mixKind_int P w i t
  | inr x => obtain ⟨t, e⟩ := (show ∃ t, u = Value.str x t from r); subst e; exact mixKind_str P w x t
theorem items_are {P : Program} {w : World} : ∀ {ks : List Key} {us : List Value}, Vals (ks.map kV) us → ItemsAre (mixKind P w) ks us
  | [], _, r => by rw [List.map_nil] at r; cases r; exact .nil
  | k :: ks, _, r => by
    rw [List.map_cons] at r
    cases r with
    | cons h t => exact .cons (kV_is h) (items_are t)

/-- raw entries of a dict with tuple keys -/
abbrev KT (H : Hp) : List (List Key × V) → List (List Key × Addr × Value) → Prop := Paired fun p q => p.1 = q.1 ∧ H q.2.1 = some (.tup (p.1.map kV)) ∧ RelV p.2 q.2.2
theorem KT.val {H : Hp} {kvs : List (List Key × V)} {xs : List (List Key × Addr × Value)} (r : KT H kvs xs) (k : List Key) : RelO (valV kvs k) ((atKey xs k).map (·.2)) := by
  induction r with
  | nil => exact True.intro
  | @cons p q ps qs h t ih =>
    obtain ⟨h1, _, h2⟩ := h
    by_cases e : p.1 = k
    · have e' : q.1 = k := h1.symm.trans e
      have b : atKey (q :: qs) k = some q.2 := by simp [atKey, List.find?_cons, e']
      rw [valV_pos e, b]; exact h2
    · have e' : ¬ q.1 = k := fun z => e (h1.trans z)
      have b : atKey (q :: qs) k = atKey qs k := by simp [atKey, List.find?_cons, e']
      rw [valV_neg e, b]; exact ih
theorem KT.repl {H : Hp} {kvs : List (List Key × V)} {xs : List (List Key × Addr × Value)} (r : KT H kvs xs) (k : List Key) {y : V} {u : Value} (ry : RelV y u) :
    KT H (kvs.map fun kv => if kv.1 = k then (kv.1, y) else kv) (xs.map (putAt k u)) := by
  induction r with
  | nil => exact .nil
  | @cons p q ps qs h t ih =>
    rw [List.map_cons, List.map_cons]
    refine .cons ?_ ih
    obtain ⟨h1, h2, h3⟩ := h
    unfold putAt
    by_cases e : p.1 = k
    · rw [if_pos e, if_pos (h1.symm.trans e)]; exact ⟨h1, h2, ry⟩
    · rw [if_neg e, if_neg (fun z => e (h1.trans z))]; exact ⟨h1, h2, h3⟩
theorem KT.put {H : Hp} {kvs : List (List Key × V)} {xs : List (List Key × Addr × Value)} (r : KT H kvs xs) (k : List Key) {b : Addr} {y : V} {u : Value} (hb : H b = some (.tup (k.map kV))) (ry : RelV y u) :
    KT H (putK kvs k y) (storedH xs k b u) := by
  have e : (kvs.any fun kv => decide (kv.1 = k)) = (atKey xs k).isSome := by
    rw [valV_any, (r.val k).isSome_eq, Option.isSome_map]
  unfold putK storedH
  rw [e]
  by_cases q : (atKey xs k).isSome = true
  · rw [if_pos q, if_pos q]; exact r.repl k ry
  · rw [if_neg q, if_neg q]; exact Paired.snoc r ⟨rfl, hb, ry⟩
theorem KT.keeps {H H' : Hp} {kvs : List (List Key × V)} {xs : List (List Key × Addr × Value)} (r : KT H kvs xs) (ht : ∀ b ys, H b = some (.tup ys) → H' b = some (.tup ys)) : KT H' kvs xs :=
  Paired.mapP r fun _ _ z => ⟨z.1, ht _ _ z.2.1, z.2.2⟩

section
variable {P : Program} {w : World} {H : Hp} {h : Heap} {a : Addr}
theorem rd_of {u : HO} (ok : HOk P w H h) (e : Rd H a u) : ObjOk P w H h a u := e.ok ok
theorem dk_rd {kvs : List (Key × V)} (ok : HOk P w H h) (e : Rd H a (.dK kvs)) : kvs.length ≤ sizeLine ∧ (a == sysModules) = false ∧ ∃ vs, KV kvs vs ∧ h.DictOf (mixKind P w) a vs :=
  show ObjOk P w H h a (.dK kvs) from rd_of ok e
theorem dk_of {kvs : List (Key × V)} (ok : HOk P w H h) (e : H a = some (.dK kvs)) : kvs.length ≤ sizeLine ∧ (a == sysModules) = false ∧ ∃ vs, KV kvs vs ∧ h.DictOf (mixKind P w) a vs := dk_rd ok (.inl e)
/-- a tracked tuple of ints and texts is a key -/
theorem key_of {ks : List Key} (ok : HOk P w H h) (e : H a = some (.tup (ks.map kV))) : (tupleKind (mixKind P w)).is h ks a := by
  obtain ⟨_, its, r, o, h1, h2, ⟨n, h3⟩, _⟩ := (show ObjOk P w H h a (.tup (ks.map kV)) from ok a _ e)
  exact ⟨o, its.toArray, n, h1, h2, h3, by simpa using items_are r⟩
theorem dt_rd {kvs : List (List Key × V)} (ok : HOk P w H h) (e : Rd H a (.dT kvs)) : kvs.length ≤ sizeLine ∧ (a == sysModules) = false ∧
    ∃ xs, KT H kvs xs ∧ h.DictOfH (tupleKind (mixKind P w)) a xs := by
  obtain ⟨z, y, xs, r, o, es, ep, h1, h2, h3, h4, h5⟩ := (show ObjOk P w H h a (.dT kvs) from rd_of ok e)
  refine ⟨z, y, xs, r, o, es, ep, h1, h2, h3, h4, fun x hx => ?_, h5⟩
  have all : ∀ {l : List (List Key × V)} {m : List (List Key × Addr × Value)}, KT H l m → ∀ x ∈ m, (tupleKind (mixKind P w)).is h x.1 x.2.1 := by
    intro l m q
    induction q with
    | nil => intro x hx; exact nomatch hx
    | @cons p q ps qs hq t ih =>
      intro x hx
      rcases List.mem_cons.mp hx with e | hx
      · subst e
        exact key_of ok (by rw [← hq.1]; exact hq.2.1)
      · exact ih x hx
  exact all r x hx
theorem dt_of {kvs : List (List Key × V)} (ok : HOk P w H h) (e : H a = some (.dT kvs)) : kvs.length ≤ sizeLine ∧ (a == sysModules) = false ∧
    ∃ xs, KT H kvs xs ∧ h.DictOfH (tupleKind (mixKind P w)) a xs := dt_rd ok (.inl e)
end

/-- what the dict at a holds at the key y -/
def DGet (H : Hp) (a : Addr) (y : V) (r : Option V) : Prop :=
  (∃ kvs k, Rd H a (.dK kvs) ∧ y = kV k ∧ r = valV kvs k) ∨ ∃ kvs k b, Rd H a (.dT kvs) ∧ y = .ref b ∧ H b = some (.tup (k.map kV)) ∧ r = valV kvs k
/-- the heap behind a[y] = v -/
def DPut (H : Hp) (a : Addr) (y v : V) (H' : Hp) : Prop :=
  (∃ kvs k, H a = some (.dK kvs) ∧ y = kV k ∧ kvs.length < sizeLine ∧ H' = upd H a (.dK (putK kvs k v))) ∨
  ∃ kvs k b, H a = some (.dT kvs) ∧ y = .ref b ∧ H b = some (.tup (k.map kV)) ∧ kvs.length < sizeLine ∧ H' = upd H a (.dT (putK kvs k v))
theorem DGet.k {H : Hp} {a : Addr} {kvs : List (Key × V)} {k : Key} (e : H a = some (.dK kvs)) : DGet H a (kV k) (valV kvs k) := .inl ⟨kvs, k, .inl e, rfl, rfl⟩
theorem DGet.t {H : Hp} {a b : Addr} {kvs : List (List Key × V)} {k : List Key} (e : H a = some (.dT kvs)) (eb : H b = some (.tup (k.map kV))) : DGet H a (.ref b) (valV kvs k) := .inr ⟨kvs, k, b, .inl e, rfl, eb, rfl⟩
theorem DPut.k {H : Hp} {a : Addr} {kvs : List (Key × V)} {k : Key} {v : V} (e : H a = some (.dK kvs)) (hl : kvs.length < sizeLine) : DPut H a (kV k) v (upd H a (.dK (putK kvs k v))) := .inl ⟨kvs, k, e, rfl, hl, rfl⟩
theorem DPut.t {H : Hp} {a b : Addr} {kvs : List (List Key × V)} {k : List Key} {v : V} (e : H a = some (.dT kvs)) (eb : H b = some (.tup (k.map kV))) (hl : kvs.length < sizeLine) :
    DPut H a (.ref b) v (upd H a (.dT (putK kvs k v))) := .inr ⟨kvs, k, b, e, rfl, eb, hl, rfl⟩

section
variable {X : Cx} {pins : List (Addr × Obj)} {σ : St} {H : Hp} {s : Shared} {a : Addr} {y v : V} {u r : Value} {o : Option V} {A : Around} {E : Value → Shared → Prop}

theorem Inv.big (I : Inv X pins σ H s) : sysModules < s.heap.objs.size := by
  have h : mainGlobals < s.heap.objs.size := (I.mod.glob.keeps I.bk).lt
  exact Nat.lt_trans (by decide) h

/-- d[y], there -/
theorem d_getItem {Q : Value → Shared → Prop} (hu : A.units + 1 < cLine) (I : Inv X pins σ H s) (g : DGet H a y (some v)) (ry : RelV y u) (h : ∀ w' s', Inv X pins σ H s' → RelV v w' → Q w' s') :
    wpAny (model X.prog X.w) A (getItem (.ref a) u) Q E s := by
  rcases g with ⟨kvs, k, e, ey, l⟩ | ⟨kvs, k, b, e, ey, eb, l⟩
  · subst ey
    obtain ⟨z, hd, vs, rel, dd⟩ := dk_rd I.hok e
    obtain ⟨w', hw, rw'⟩ := RelO.some_of (v := v) (o := valueAt vs k) (by rw [l]; exact rel.val k)
    exact wpAny_getItem_of (kV_is ry) dd.mapOf hw (h w' _ (I.tok _) rw')
  · subst ey
    cases (show u = Value.ref b from ry)
    obtain ⟨z, hd, xs, rel, dd⟩ := dt_rd I.hok e
    obtain ⟨w', hw, rw'⟩ := RelO.some_of (v := v) (o := (atKey xs k).map (·.2)) (by rw [l]; exact rel.val k)
    obtain ⟨p, hp, hp2⟩ := Option.map_eq_some_iff.mp hw
    refine wpAny_getItem_heap (tupleKind_room_in1 hu) (key_of I.hok eb) dd hp ?_
    rw [hp2]
    exact h w' _ (I.tok _) rw'
/-- a dict's object is replaced -/
theorem d_write {h' : Heap} {t' : Nat} {ob : HO} (I : Inv X pins σ H s) (mu : Mut (H a)) (hs : Heap.SameBut a s.heap h') (he : ∃ q, h'.get? a = some q) (new : ObjOk X.prog X.w (upd H a ob) h' a ob) :
    Inv X pins σ (upd H a ob) { s with heap := h', toks := t' } :=
  I.write (x := a) (e := a) mu (.inl rfl) (fun b q hb z => (hs.2 b hb).trans z) he new
theorem dk_new {P : Program} {w : World} {H' : Hp} {h' : Heap} {kvs : List (Key × V)} {vs : List (Key × Value)} (z : kvs.length ≤ sizeLine) (hd : (a == sysModules) = false) (rel : KV kvs vs) (dd : h'.DictOf (mixKind P w) a vs) :
    ObjOk P w H' h' a (.dK kvs) := ⟨z, hd, vs, rel, dd⟩
/-- d[y] = v -/
theorem d_setItem {H' : Hp} {Q : Unit → Shared → Prop} (hu : A.units + 1 < cLine) (I : Inv X pins σ H s) (g : DPut H a y v H') (ry : RelV y u) (rv : RelV v r) (h : ∀ s', Inv X pins σ H' s' → Q () s') :
    wpAny (model X.prog X.w) A (setItem (.ref a) u r) Q E s := by
  rcases g with ⟨kvs, k, e, ey, l, eH⟩ | ⟨kvs, k, b, e, ey, eb, l, eH⟩
  · subst ey eH
    obtain ⟨z, hd, vs, rel, dd⟩ := dk_of I.hok e
    have hz : vs.length ≤ sizeLine := by rw [← rel.length]; exact z
    have hl : (putK kvs k v).length ≤ sizeLine := by have := length_putK kvs k v; omega
    refine wpAny_setItem_pairs (hsz := hz) (kV_is ry) dd fun h' dd' hs => h _ ?_
    have he : ∃ q, h'.get? a = some q := let ⟨q, _, _, hq, _⟩ := dd'; ⟨q, hq⟩
    exact d_write I (by rw [e]; exact True.intro) hs he (dk_new hl hd (rel.put k rv) dd')
  · subst ey eH
    cases (show u = Value.ref b from ry)
    obtain ⟨z, hd, xs, rel, dd⟩ := dt_of I.hok e
    have hz : xs.length ≤ sizeLine := by rw [← Paired.length rel]; exact z
    have hl : (putK kvs k v).length ≤ sizeLine := by have := length_putK kvs k v; omega
    refine wpAny_setItem_heap (hsz := hz) (tupleKind_room_in1 hu) (key_of I.hok eb) dd fun h' dd' hs => h _ ?_
    obtain ⟨q, es, ep, hq, h2, h3, h4, _, h5⟩ := dd'
    refine d_write I (by rw [e]; exact True.intro) hs ⟨q, hq⟩ ⟨hl, hd, _, (rel.put k eb rv).keeps fun c ys ec => ?_, q, es, ep, hq, h2, h3, h4, h5⟩
    rw [upd_ne (ne_of ec e (fun z => nomatch z))]
    exact ec
end

section
variable {X : Cx} {pins : List (Addr × Obj)} {σ : St} {H : Hp} {s : Shared} {a : Addr} {kvs : List (Key × V)} {k : Key} {u : Value} {A : Around} {E : Value → Shared → Prop}
end

/-- the element of a subscription, not a slice -/
def NoSl (i : Expr) : Prop := ∀ ov iv, subscripted i false ov iv = operate [ov, iv] (getItem ov iv)
theorem subD_of {prog : Program} {w : World} {A : Around} {E : Value → Shared → Prop} {s : Shared} {env : Env} {value slice : Expr} {pos : Pos} {T id : String} {Q : Value → Shared → Prop}
    (hl : typeLookup (.type T) "__getitem__" = pure (some (.builtin id))) (hs : NoSl slice)
    (h : wpAny (model prog w) A (eval value env) (fun o s₁ => wpAny (model prog w) A (eval slice env) (fun i s₂ => s₂.TypeIs o T ∧ wpAny (model prog w) A (getItem o i) Q E s₂) E s₁) E s) :
    wpAny (model prog w) A (eval (.Subscript value slice pos) env) Q E s := by
  refine Subscript_ (wpAny_mono h (fun o s₁ h₁ => wpAny_mono h₁ (fun i s₂ h₂ => ?_) fun _ _ x => x) fun _ _ x => x)
  obtain ⟨hT, h₂⟩ := h₂
  unfold subscriptTail
  refine wpAny_bind ?_
  rw [getitemInPython_of_ne hT.not_modules]
  refine wpAny_bind (wpAny_specialOf hT hl ?_)
  have fin : wpAny (model prog w) A (subscripted slice false o i) (fun r s₃ => wpAny (model prog w) A (letTemporaryGo value o r >>= fun _ => pure r) Q E s₃) E s₂ := by
    rw [hs o i]
    exact wpAny_operating (wpAny_mono h₂ (fun r s₃ h₃ => wpAny_bind (wpAny_letTemporaryGo (wpAny_pure h₃))) fun _ _ x => x)
  first
    | exact wpAny_pure (wpAny_bind fin)
    | exact wpAny_bind (wpAny_pure (wpAny_bind fin))
    | exact wpAny_bind fin

theorem dict_typeIs {X : Cx} {pins : List (Addr × Obj)} {σ : St} {H : Hp} {s : Shared} {a : Addr} {y : V} {o : Option V} (I : Inv X pins σ H s) (g : DGet H a y o) : s.TypeIs (.ref a) "dict" := by
  rcases g with ⟨kvs, k, e, _, _⟩ | ⟨kvs, k, b, e, _, _, _⟩
  · obtain ⟨_, _, vs, _, dd⟩ := dk_rd I.hok e
    exact dd.typeIs
  · obtain ⟨_, _, xs, _, dd⟩ := dt_rd I.hok e
    exact dd.typeIs
/-- d[y] -/
def tDGet (td ty : TE) : TE := fun σ H Q => td σ H fun x H1 => ty σ H1 fun y H2 => ∃ a v, x = .ref a ∧ DGet H2 a y (some v) ∧ Q v H2
/-- d[y] = v -/
def sDPut (td ty tv : TE) : TS := fun D σ H => tv σ H fun v H1 => td σ H1 fun x H2 => ty σ H2 fun y H3 => ∃ a H4, x = .ref a ∧ DPut H3 a y v H4 ∧ D.nx σ H4
section
variable {X : Cx} {o i e value : Expr} {pos pos' tpos : Pos} {td ty tv : TE}
theorem pe_dget (hu : X.A.units + 1 < cLine) (ho : PE X o td) (hi : PE X i ty) (hs : NoSl i) : PE X (.Subscript o i pos) (tDGet td ty) := by
  intro pins s σ H Q I h
  refine subD_of PySem.F.slot_dict_getitem.lookup hs (thn (ho pins s σ H _ I h) fun u s1 ⟨x, H1, I1, rx, q1⟩ => thn (hi pins s1 σ H1 _ I1 q1) fun iv s2 ⟨y, H2, I2, ry, a, v, ex, g, q2⟩ => ?_)
  subst ex
  obtain rfl : u = Value.ref a := rx
  exact ⟨dict_typeIs I2 g, d_getItem hu I2 g ry fun w' s3 I3 rw' => ⟨v, H2, I3, rw', q2⟩⟩
theorem ps_dput (hu : X.A.units + 1 < cLine) (ho : PE X o td) (hi : PE X i ty) (hv : PE X value tv) (hs : swapsWith value (some (.Subscript o i pos')) pos.line X.env = pure false) :
    PS X (.Assign [.Subscript o i pos'] value pos) (sDPut td ty tv) := by
  intro pins s σ H D I h
  refine wpAny_Assign_Subscript (thn (hv pins s σ H _ I h) fun r s1 ⟨v, H1, I1, rv, q1⟩ => thn (ho pins s1 σ H1 _ I1 q1) fun u s2 ⟨x, H2, I2, rx, q2⟩ => thn (hi pins s2 σ H2 _ I2 q2) fun iv s3 ⟨y, H3, I3, ry, a, H4, ex, g, q3⟩ => ?_) hs
  subst ex
  obtain rfl : u = Value.ref a := rx
  exact d_setItem hu I3 g ry rv fun s4 I4 => ⟨σ, H4, I4, q3⟩
end

theorem dk_empty {P : Program} {w : World} {H : Hp} (h : Heap) (hb : sysModules < h.objs.size) : ObjOk P w H (h.push { cls := .type "dict", data := .dict #[] }) h.objs.size (.dK []) :=
  ⟨Nat.zero_le _, beq_eq_false_iff_ne.mpr (Ne.symm (Nat.ne_of_lt hb)), [], .nil, Heap.DictOf.new h⟩
section
variable {X : Cx} {pos : Pos}
end

/-- the pairs of a display, from the left -/
def tPairs : List (TE × TE) → St → Hp → (List (V × V) → Hp → Prop) → Prop
  | [], _, H, Q => Q [] H
  | (tk, tv) :: r, σ, H, Q => tk σ H fun x H1 => tv σ H1 fun y H2 => tPairs r σ H2 fun ps H3 => Q ((x, y) :: ps) H3
abbrev VV : List (V × V) → List (Value × Value) → Prop := Paired fun p q => RelV p.1 q.1 ∧ RelV p.2 q.2
def PPs (X : Cx) (pos : Pos) (keys : List (Option Expr)) (values : List Expr) (trs : List (TE × TE)) : Prop :=
  ∀ (pins : List (Addr × Obj)) (s : Shared) (σ : St) (H : Hp) (Q : List (V × V) → Hp → Prop), Inv X pins σ H s → tPairs trs σ H Q →
    wpAny (model X.prog X.w) X.A (evalPairs (pairTrees keys values X.env pos)) (fun vs s' => ∃ ps H', Inv X pins σ H' s' ∧ VV ps vs ∧ Q ps H') X.xe s
theorem pps_nil {X : Cx} {pos : Pos} : PPs X pos [] [] [] := fun pins s σ H Q I h => pairTrees_nil_walk ⟨[], H, I, .nil, h⟩
theorem pps_cons {X : Cx} {pos : Pos} {k v : Expr} {ks : List (Option Expr)} {vs : List Expr} {tk tv : TE} {trs : List (TE × TE)} (hk : PE X k tk) (hv : PE X v tv) (hr : PPs X pos ks vs trs) :
    PPs X pos (some k :: ks) (v :: vs) ((tk, tv) :: trs) := fun pins s σ H Q I h =>
  pairTrees_cons_walk (thn (hk pins s σ H _ I h) fun u s1 ⟨x, H1, I1, rx, q1⟩ => thn (hv pins s1 σ H1 _ I1 q1) fun w2 s2 ⟨y, H2, I2, ry, q2⟩ =>
    thn (hr pins s2 σ H2 _ I2 q2) fun ws s3 ⟨ps, H3, I3, rel, q3⟩ => ⟨(x, y) :: ps, H3, I3, .cons ⟨rx, ry⟩ rel, q3⟩)

def mergeK (kvs more : List (Key × V)) : List (Key × V) := more.foldl (fun acc kv => putK acc kv.1 kv.2) kvs
theorem KV.merge : ∀ {more : List (Key × V)} {rs : List (Key × Value)} {kvs : List (Key × V)} {vs : List (Key × Value)}, KV more rs → KV kvs vs → KV (mergeK kvs more) (merged vs rs) := by
  intro more rs kvs vs r
  unfold KV at r
  induction r generalizing kvs vs with
  | nil => intro q; exact q
  | @cons p q ps qs h t ih =>
    intro r0
    have e : KV (putK kvs p.1 p.2) (stored vs q.1 q.2) := by
      have := r0.put p.1 h.2
      rw [← h.1]; exact this
    exact ih e
theorem length_mergeK : ∀ (more kvs : List (Key × V)), (mergeK kvs more).length ≤ kvs.length + more.length
  | [], kvs => by show kvs.length ≤ kvs.length + 0; omega
  | p :: r, kvs => by
    have h1 := length_mergeK r (putK kvs p.1 p.2)
    have h2 := length_putK kvs p.1 p.2
    show (mergeK (putK kvs p.1 p.2) r).length ≤ _
    rw [List.length_cons]; omega
theorem carries_of {P : Program} {w : World} : ∀ {kvs : List (Key × V)} {ws : List (Value × Value)}, VV (kvs.map fun kv => (kV kv.1, kv.2)) ws → ∃ rs, Carries (mixKind P w) ws rs ∧ KV kvs rs
  | [], _, r => by rw [List.map_nil] at r; cases r; exact ⟨[], True.intro, .nil⟩
  | p :: kvs, _, r => by
    rw [List.map_cons] at r
    cases r with
    | @cons a b as bs h t =>
      obtain ⟨rs, c, q⟩ := carries_of (P := P) (w := w) t
      obtain ⟨b1, b2⟩ := b
      exact ⟨(p.1, b2) :: rs, ⟨kV_is h.1, rfl, c⟩, .cons ⟨rfl, h.2⟩ q⟩
/-- {k: v, ..} with keys ints and texts; the new dict stands empty while the pairs are made -/
def tDisp (trs : List (TE × TE)) : TE := fun σ H Q => ∀ p, H p = none → tPairs trs σ (upd H p (.dK [])) fun ps H2 => H2 p = some (.dK []) ∧ ∃ kvs : List (Key × V), ps = kvs.map (fun kv => (kV kv.1, kv.2)) ∧ kvs.length ≤ 15 ∧ Q (.ref p) (upd H2 p (.dK (mergeK [] kvs)))
theorem pe_disp {X : Cx} {pos : Pos} {keys : List (Option Expr)} {values : List Expr} {trs : List (TE × TE)} (h : PPs X pos keys values trs) (hall : keys.all (·.isSome) = true) (hl : keys.length = values.length) (h0 : keys ≠ [])
    (h15 : keys.length ≤ 15) : PE X (.Dict keys values pos) (tDisp trs) := by
  intro pins s σ H Q I q
  have hn := I.hok.fresh (Nat.le_refl s.heap.objs.size)
  have I1 := I.laid (a := s.heap.objs.size) (o := .dK []) (h' := s.heap.push { cls := .type "dict", data := .dict #[] }) (t' := s.toks) (fun _ _ q => Heap.get?_push_of_some _ q) (Nat.le_refl _) (dk_empty s.heap I.big)
  refine wpAny_Dict_walk (knd := mixKind X.prog X.w) hall hl h0 h15 (thn (h pins _ σ _ _ I1 (q _ hn)) fun ws s2 ⟨ps, H2, I2, rel, e, kvs, ep, lk, q2⟩ => ?_)
  subst ep
  obtain ⟨rs, c, rk⟩ := carries_of (P := X.prog) (w := X.w) rel
  obtain ⟨z, hd, vs0, r0, dd⟩ := dk_of I2.hok e
  cases r0
  refine ⟨rs, c, dd, fun h' dd' hs => ⟨.ref s.heap.objs.size, _, ?_, rfl, q2⟩⟩
  have hz : (mergeK [] kvs).length ≤ sizeLine := by
    have h1 := length_mergeK kvs []
    rw [List.length_nil] at h1
    rw [sizeLine_eq]; omega
  have he : ∃ q, h'.get? s.heap.objs.size = some q := let ⟨q, _, _, hq, _⟩ := dd'; ⟨q, hq⟩
  exact d_write I2 (by rw [e]; exact True.intro) hs he (dk_new hz hd (rk.merge .nil) dd')

/-- a method call o.m(e) of a built-in, with one argument: what must be seen of the text -/
structure M1 (X : Cx) (o : Expr) (m : Str) (apos : Pos) (e : Expr) (cpos : Pos) : Prop where
  base : attributeBase o m X.env (eval o X.env) = eval o X.env
  few : ((backTo cpos (starEach [e] X.env)).all (fun x => !x.1) && (backToKw cpos (keywordEach [] X.env)).all (fun x => x.1.isSome)
    && decide (([e] : List Expr).length + ([] : List Keyword).length + (if ([] : List Keyword).isEmpty then 0 else 1) < 30)) = true
  line : (apos.endLine == cpos.line) = true
  trees : backTo cpos (starEach [e] X.env) = [(false, eval e X.env)]
structure M2 (X : Cx) (o : Expr) (m : Str) (apos : Pos) (e f : Expr) (cpos : Pos) : Prop where
  base : attributeBase o m X.env (eval o X.env) = eval o X.env
  few : ((backTo cpos (starEach [e, f] X.env)).all (fun x => !x.1) && (backToKw cpos (keywordEach [] X.env)).all (fun x => x.1.isSome)
    && decide (([e, f] : List Expr).length + ([] : List Keyword).length + (if ([] : List Keyword).isEmpty then 0 else 1) < 30)) = true
  line : (apos.endLine == cpos.line) = true
  trees : backTo cpos (starEach [e, f] X.env) = [(false, eval e X.env), (false, eval f X.env)]

section
variable {X : Cx} {pins : List (Addr × Obj)} {σ : St} {H : Hp} {s : Shared} {a : Addr} {y d : V} {u r : Value} {o : Option V} {A : Around} {E : Value → Shared → Prop}
end

section
variable {X : Cx} {o e f : Expr} {apos cpos : Pos} {td ty tx : TE}
end

section
variable {X : Cx} {pins : List (Addr × Obj)} {σ : St} {H : Hp} {s : Shared} {a : Addr} {kvs : List (Key × V)} {A : Around} {E : Value → Shared → Prop}
end

section
variable {X : Cx} {pins : List (Addr × Obj)} {σ : St} {H : Hp} {s : Shared} {a : Addr} {y : V} {u : Value} {A : Around} {E : Value → Shared → Prop}
end
end L2
namespace L2
open PySem PySem.Spec PyProof.Rows
section
variable {κ : Type} [DecidableEq κ]
end
end L2
set_option Elab.async false
set_option linter.all false
set_option maxRecDepth 100000
namespace L2
open PySem PySem.Spec PyProof.Rows

theorem cellsFrom_app : ∀ (names : List (Str × NameKind)) (n : Nat) (acc : List (Str × Addr)), cellsFrom n names acc = cellsFrom n names [] ++ acc
  | [], _, _ => rfl
  | (name, kind) :: r, n, acc => by
    unfold cellsFrom
    split
    · rw [cellsFrom_app r (n + 1) ((name, n) :: acc), cellsFrom_app r (n + 1) [(name, n)], List.append_assoc]
      rfl
    · exact cellsFrom_app r n acc
theorem lookup_app {α : Type} (x : Str) : ∀ (l r : List (Str × α)), (l ++ r).lookup x = (match l.lookup x with | some c => some c | none => r.lookup x)
  | [], r => rfl
  | (k, v) :: l, r => by
    rw [List.cons_append, List.lookup_cons, List.lookup_cons]
    cases hb : x == k with
    | true => rfl
    | false => exact lookup_app x l r
/-- what a comprehension takes of its surroundings: each free name's cell -/
theorem closure_of {env : Env} : ∀ (names : List (Str × NameKind)) (acc : List (Str × Addr)),
    (∀ y ∈ names, y.2 = .free → ∃ c, env.cells.lookup y.1 = some c) →
    (∀ x c, acc.lookup x = some c → env.cells.lookup x = some c) →
    ∃ cl : List (Str × Addr), (forIn names acc (fun (p : Str × NameKind) (cs : List (Str × Addr)) => (do
        if p.2 == .free then
          let a ← cellOf env p.1
          pure (ForInStep.yield ((p.1, a) :: cs))
        else pure (ForInStep.yield cs) : Sem (ForInStep (List (Str × Addr)))))) = pure cl ∧
      (∀ x c, cl.lookup x = some c → env.cells.lookup x = some c) ∧
      (∀ x, (acc.lookup x).isSome = true → (cl.lookup x).isSome = true) ∧ ∀ y ∈ names, y.2 = .free → (cl.lookup y.1).isSome = true
  | [], acc, _, ha => ⟨acc, by rw [List.forIn_nil], ha, fun _ h => h, fun _ h => nomatch h⟩
  | (n, k) :: r, acc, hf, ha => by
    rw [List.forIn_cons]
    by_cases hk : k = .free
    · subst hk
      obtain ⟨c, hc⟩ := hf (n, .free) List.mem_cons_self rfl
      have hco : cellOf env n = pure c := by unfold cellOf; rw [hc]
      obtain ⟨cl, e, h1, h2, h3⟩ := closure_of r ((n, c) :: acc) (fun y hy => hf y (List.mem_cons_of_mem _ hy)) (fun x d hx => by
        rw [List.lookup_cons] at hx
        cases hb : x == n with
        | true => rw [hb] at hx; cases hx; rw [beq_iff_eq.mp hb]; exact hc
        | false => rw [hb] at hx; exact ha x d hx)
      refine ⟨cl, ?_, h1, fun x hx => h2 x ?_, fun y hy hk => ?_⟩
      · rw [← e]
        simp only [beq_self_eq_true, if_true, hco]
        rfl
      · rw [List.lookup_cons]
        cases hb : x == n with
        | true => rfl
        | false => exact hx
      · rcases List.mem_cons.mp hy with z | z
        · subst z
          exact h2 n (by rw [List.lookup_cons]; simp)
        · exact h3 y z hk
    · obtain ⟨cl, e, h1, h2, h3⟩ := closure_of r acc (fun y hy => hf y (List.mem_cons_of_mem _ hy)) ha
      refine ⟨cl, ?_, h1, h2, fun y hy hk' => ?_⟩
      · rw [← e]
        have : (k == NameKind.free) = false := by simpa using hk
        simp only [this, Bool.false_eq_true, if_false]
        rfl
      · rcases List.mem_cons.mp hy with z | z
        · subst z; exact absurd hk' hk
        · exact h3 y z hk'
theorem closureFor_of {env : Env} {scope : Scope} (hf : ∀ y ∈ scope.names, y.2 = .free → ∃ c, env.cells.lookup y.1 = some c) :
    ∃ cl, closureFor scope env = pure cl ∧ (∀ x c, cl.lookup x = some c → env.cells.lookup x = some c) ∧ ∀ y ∈ scope.names, y.2 = .free → (cl.lookup y.1).isSome = true := by
  obtain ⟨cl, e, h1, _, h3⟩ := closure_of (env := env) scope.names [] hf (fun x c h => nomatch h)
  refine ⟨cl, ?_, h1, h3⟩
  unfold closureFor
  rw [show (pure cl : Sem _) = pure cl >>= pure from rfl, ← e]

/-- the block's surroundings are made -/
theorem newEnv_comp {M : Model} {A : Around} {E : Value → Shared → Prop} {s : Shared} {scope : Scope} {globals : Addr} {cl : List (Str × Addr)} {qual : Str} {env : Env} {Q : Env → Shared → Prop}
    (hQ : Q (newEnv scope s.heap.objs.size globals (cellsFrom (s.heap.objs.size + 1) scope.names cl) qual none .none (some env) builtinsNs)
      { s with heap := pushCells (s.heap.push { cls := .type "dict", data := .dict #[] }) scope.names }) :
    wpAny M A (newFunctionEnv scope globals cl [] qual none .none (some env)) Q E s := by
  simp only [newFunctionEnv, Option.isSome_some, if_true]
  refine wpAny_bind (wpAny_alloc ?_)
  refine wpAny_bind (wpAny_layCells _ (fun name kind cells => by cases hkc : kind == NameKind.cell <;> simp [hkc]) _ _ _ _ ?_)
  rw [show ({ s with heap := s.heap.push { cls := .type "dict", data := .dict #[] } } : Shared).heap.objs.size = s.heap.objs.size + 1 from Heap.size_push ..]
  exact wpAny_bind (wpAny_pure (wpAny_pure hQ))

/-- the context of a comprehension's block: the same names, its own surroundings -/
def cxComp (X : Cx) (pins : List (Addr × Obj)) (scope : Scope) (cl : List (Str × Addr)) (s : Shared) (H : Hp) (fp : List Addr) : Cx where
  prog := X.prog
  w := X.w
  K := X.K
  mg := X.mg
  base := X.base
  A := X.A
  N := X.N
  s₀ := s
  H₀ := H
  env := { scope := relabel scope X.env, locals := s.heap.objs.size + 1, globals := X.env.globals, cells := cellsFrom (s.heap.objs.size + 1 + 1) scope.names cl, qual := X.env.qual, func := none, code := X.env.code, frame := X.env.frame, builtins := X.env.builtins }
  outer := X.stack
  stack := X.stack
  ex := fp
  fn := fun x => decide (scope.names.lookup x = some .cell)
  calm := X.calm
  pn := X.pn ++ pins
  xe := fun _ _ => False

theorem relabel_look {scope : Scope} {env : Env} (x : Str) : ∀ {names : List (Str × NameKind)} {k : NameKind},
    (names.map fun (n, k) => if (k == NameKind.free && env.scope.kind == .function && env.kindOf n == some .cell) then (n, NameKind.cell) else (n, k)).lookup x = some k →
    names.lookup x = some k ∨ (names.lookup x = some .free ∧ k = .cell)
  | [], _, h => by simp at h
  | (n, k') :: r, k, h => by
    rw [List.map_cons] at h
    by_cases hc : (k' == NameKind.free && env.scope.kind == .function && env.kindOf n == some .cell) = true
    · simp only [hc, if_true] at h
      rw [List.lookup_cons] at h ⊢
      cases hb : x == n with
      | true =>
        rw [hb] at h
        simp only [Bool.and_eq_true, beq_iff_eq] at hc
        exact .inr ⟨by rw [hc.1.1], (Option.some.inj h).symm⟩
      | false => rw [hb] at h; exact relabel_look (scope := scope) x h
    · simp only [hc, Bool.false_eq_true, if_false] at h
      rw [List.lookup_cons] at h ⊢
      cases hb : x == n with
      | true => rw [hb] at h; exact .inl h
      | false => rw [hb] at h; exact relabel_look (scope := scope) x h

theorem own_only : ∀ (names : List (Str × NameKind)) (n : Nat) (acc : List (Str × Addr)) (x : Str) (c : Addr), (x, c) ∈ cellsFrom n names acc → (x, c) ∉ acc → (x, NameKind.cell) ∈ names
  | [], _, _, _, _, h, h' => absurd h h'
  | (name, kind) :: r, n, acc, x, c, h, h' => by
    unfold cellsFrom at h
    split at h
    · rename_i hk
      by_cases e : (x, c) = (name, n)
      · cases e
        rw [beq_iff_eq] at hk
        subst hk
        exact List.mem_cons_self
      · exact List.mem_cons_of_mem _ (own_only r _ _ x c h fun z => (List.mem_cons.mp z).elim e h')
    · exact List.mem_cons_of_mem _ (own_only r _ _ x c h h')
/-- names and their kinds, of a comprehension's scope within surroundings -/
structure CompScope (X : Cx) (scope : Scope) : Prop where
  kind : scope.kind = .function
  names : ∀ y ∈ scope.names, y.2 = .local → scope.names.lookup y.1 = some .local
  cells : ∀ y ∈ scope.names, y.2 = .cell → scope.names.lookup y.1 = some .cell
  free : ∀ y ∈ scope.names, y.2 = .free → X.env.kindOf y.1 = some .cell ∨ X.env.kindOf y.1 = some .free

section
variable {X : Cx} {pins : List (Addr × Obj)} {σ σc : St} {H : Hp} {s s4 : Shared} {scope : Scope} {cl : List (Str × Addr)} {fp : List Addr}

theorem inv_comp (S : CompScope X scope) (I : Inv X pins σ H s) (hf : ∀ b ∈ fp, FpOk X pins H b) (ho : ∀ b : Nat, b ∈ fp → b < s.heap.objs.size)
    (c1 : ∀ x c, cl.lookup x = some c → X.env.cells.lookup x = some c) (c2 : ∀ y ∈ scope.names, y.2 = .free → (cl.lookup y.1).isSome = true)
    (hl : σc.length = σ.length) (hσ : ∀ (i : Nat) x v, X.N[i]? = some x → σc[i]? = some (some v) → (relabel scope X.env).names.lookup x ≠ none → scope.names.lookup x = some .free ∧ σ[i]? = some (some v))
    (lo : Obj) (hlo : ∀ v, lo.data ≠ .cell v) (hfr : lo.isFreed = false)
    (h4 : s4 = { s with heap := pushCells ((s.heap.push lo).push { cls := .type "dict", data := .dict #[] }) scope.names }) :
    Inv (cxComp X pins scope cl s H fp) [(s.heap.objs.size, lo)] σc H s4 := by
  subst h4
  have sz1 : (s.heap.push lo).objs.size = s.heap.objs.size + 1 := Heap.size_push ..
  have sz2 : ((s.heap.push lo).push { cls := .type "dict", data := .dict #[] }).objs.size = s.heap.objs.size + 1 + 1 := by rw [Heap.size_push, sz1]
  have hk : ∀ b o, s.heap.get? b = some o → (pushCells ((s.heap.push lo).push { cls := .type "dict", data := .dict #[] }) scope.names).get? b = some o := fun b o e =>
    pushCells_keeps _ _ b o (Heap.get?_push_of_some _ (Heap.get?_push_of_some _ e))
  have ok := cellsFrom_ok scope.names ((s.heap.push lo).push { cls := .type "dict", data := .dict #[] }) (s.heap.objs.size + 1 + 1) [] ⟨fun _ _ hm => (nomatch hm), List.Pairwise.nil⟩ (by rw [sz2]; exact Nat.le_refl _)
  rw [sz2] at ok
  -- a cell of the block: a new one of its own, or one of the surroundings
  have look : ∀ x c, (cellsFrom (s.heap.objs.size + 1 + 1) scope.names cl).lookup x = some c → ((cellsFrom (s.heap.objs.size + 1 + 1) scope.names []).lookup x = some c) ∨ ((cellsFrom (s.heap.objs.size + 1 + 1) scope.names []).lookup x = none ∧ X.env.cells.lookup x = some c) := fun x c e => by
    rw [cellsFrom_app, lookup_app] at e
    cases q : (cellsFrom (s.heap.objs.size + 1 + 1) scope.names []).lookup x with
    | some d => rw [q] at e; exact .inl e
    | none => rw [q] at e; exact .inr ⟨rfl, c1 x c e⟩
  have old : ∀ x (c : Nat), X.env.cells.lookup x = some c → c < s.heap.objs.size := fun x c e => let ⟨_, q⟩ := I.cell x c e; q.lt
  have new : ∀ x (c : Nat), (cellsFrom (s.heap.objs.size + 1 + 1) scope.names []).lookup x = some c → s.heap.objs.size + 1 + 1 ≤ c := fun x c e => (ok.empty x c (PySem.mem_of_lookup e)).2
  have own : ∀ x, scope.names.lookup x = some .cell → ∃ c, (cellsFrom (s.heap.objs.size + 1 + 1) scope.names []).lookup x = some c := fun x e => cell_has e
  have cne : ∀ x (c : Nat), (cellsFrom (s.heap.objs.size + 1 + 1) scope.names cl).lookup x = some c → c < s.heap.objs.size ∨ s.heap.objs.size + 1 + 1 ≤ c := fun x c e => by
    rcases look x c e with q | ⟨_, q⟩
    · exact .inr (new x c q)
    · exact .inl (old x c q)
  refine ⟨⟨I.ok.mod, S.kind, I.ok.glob, I.ok.blt, Nat.le_succ _, fun x y c h1 h2 => ?_, fun x hx => ?_, fun x c hx h => ?_, I.ok.hd, I.ok.frames, .inl rfl, fun b hb => ⟨?_, fun x c e z => ?_⟩, I.bs, Nat.le_trans I.ok.bsz I.sz, fun b o e hb => ?_, fun b hb z => ?_, I.stack, I.stkFree⟩,
    rfl, I.bare, Un.kept hk, ⟨fun _ => none, ?_, fun i x v h1 h2 h3 => ?_⟩, fun x c e => ?_, I.hok.fresh (Nat.le_succ _), fun x c e => ?_, fun p hp => ?_, I.hok.kept hk, hl.trans I.len⟩
  · rcases look x c h1 with a | ⟨_, a⟩ <;> rcases look y c h2 with b | ⟨_, b⟩
    · exact name_of_addr ok.apart (PySem.mem_of_lookup a) (PySem.mem_of_lookup b)
    · exact absurd (Nat.lt_of_le_of_lt (new x c a) (old y c b)) (by omega)
    · exact absurd (Nat.lt_of_le_of_lt (new y c b) (old x c a)) (by omega)
    · exact I.ok.inj x y c a b
  · have hx' : (relabel scope X.env).names.lookup x = some .cell ∨ (relabel scope X.env).names.lookup x = some .free := hx
    have go : scope.names.lookup x = some .cell ∨ scope.names.lookup x = some .free := by
      rcases hx' with q | q
      · rcases relabel_look (scope := scope) x q with z | z
        · exact .inl z
        · exact .inr z.1
      · rcases relabel_look (scope := scope) x q with z | z
        · exact .inr z
        · exact .inr z.1
    show ∃ c, (cellsFrom (s.heap.objs.size + 1 + 1) scope.names cl).lookup x = some c
    rw [cellsFrom_app, lookup_app]
    rcases go with q | q
    · obtain ⟨c, e⟩ := own x q
      exact ⟨c, by rw [e]⟩
    · cases e : (cellsFrom (s.heap.objs.size + 1 + 1) scope.names []).lookup x with
      | some d => exact ⟨d, rfl⟩
      | none => exact Option.isSome_iff_exists.mp (c2 (x, .free) (PySem.mem_of_lookup q) rfl)
  · obtain ⟨d, e⟩ := own x (of_decide_eq_true hx)
    have h' : (cellsFrom (s.heap.objs.size + 1 + 1) scope.names cl).lookup x = some c := h
    rw [cellsFrom_app, lookup_app, e] at h'
    cases h'
    exact Nat.le_trans (Nat.le_trans (Nat.le_succ _) (Nat.le_succ _)) (new x _ e)
  · exact Nat.ne_of_lt (Nat.lt_succ_of_lt (ho b hb))
  · rcases look x c e with q | ⟨_, q⟩
    · have a := new x c q
      rw [z] at a
      exact absurd (Nat.lt_of_le_of_lt a (ho b hb)) (by omega)
    · exact (hf b hb).2.2.2.2.1 x c q z
  · rcases (hf b hb).2.2.2.1 with z | z
    · exact I.ok.noex b o e z
    · exact absurd (Nat.lt_of_lt_of_le (Heap.lt_size e) (Nat.le_trans I.ok.bsz z)) (Nat.lt_irrefl _)
  · rcases List.mem_cons.mp (I.stkSub b z) with q | q
    · exact (hf b hb).2.1 q
    · exact (hf b hb).2.2.1 q
  · have q : ((s.heap.push lo).push { cls := .type "dict", data := .dict #[] }).Ns (s.heap.push lo).objs.size (fun _ => none) := Heap.Ns.new ..
    rw [sz1] at q
    exact q.keeps (pushCells_keeps _ _)
  · have h3' : (relabel scope X.env).names.lookup x ≠ none := by
      rcases h3 with z | z | z <;> (intro q; have z' : (relabel scope X.env).names.lookup x = _ := z; rw [q] at z'; cases z')
    obtain ⟨fr, hv⟩ := hσ i x v h1 h2 h3'
    obtain ⟨m, hn, hlk⟩ := I.loc
    have kx := S.free (x, .free) (PySem.mem_of_lookup fr) rfl
    obtain ⟨u, rv, lk⟩ := hlk i x v h1 hv (by rcases kx with z | z; exact .inr (.inl z); exact .inr (.inr z))
    refine ⟨u, rv, ?_⟩
    rcases lk with ⟨z, _⟩ | ⟨_, c, e, ic⟩
    · rcases kx with k | k <;> (rw [k] at z; cases z)
    · have kind : (relabel scope X.env).names.lookup x = some .cell ∨ (relabel scope X.env).names.lookup x = some .free := by
        cases q : (relabel scope X.env).names.lookup x with
        | none => exact absurd q h3'
        | some k =>
          rcases relabel_look (scope := scope) x q with z | z
          · rw [fr] at z; cases z; exact .inr rfl
          · rw [z.2]; exact .inl rfl
      refine .inr ⟨kind, c, ?_, ic.keeps hk⟩
      show (cellsFrom (s.heap.objs.size + 1 + 1) scope.names cl).lookup x = some c
      rw [cellsFrom_app, lookup_app]
      obtain ⟨d, hd⟩ := Option.isSome_iff_exists.mp (c2 (x, .free) (PySem.mem_of_lookup fr) rfl)
      have := c1 x d hd
      rw [e] at this; cases this
      have nn : (cellsFrom (s.heap.objs.size + 1 + 1) scope.names []).lookup x = none := by
        cases q : (cellsFrom (s.heap.objs.size + 1 + 1) scope.names []).lookup x with
        | none => rfl
        | some d' =>
          have z := S.cells (x, .cell) (own_only scope.names _ [] x d' (PySem.mem_of_lookup q) fun z => nomatch z) rfl
          rw [fr] at z; cases z
      rw [nn]; exact hd
  · rcases look x c e with q | ⟨_, q⟩
    · exact ⟨none, (ok.empty x c (PySem.mem_of_lookup q)).1⟩
    · obtain ⟨v, z⟩ := I.cell x c q
      exact ⟨v, z.keeps hk⟩
  · rcases look x c e with q | ⟨_, q⟩
    · exact I.hok.fresh (by have := new x c q; omega)
    · exact I.freeC x c q
  · have hp' : p ∈ X.pn ++ pins ∨ p = (s.heap.objs.size, lo) := by
      rcases List.mem_append.mp hp with z | z
      · exact .inl z
      · exact .inr (by simpa using z)
    rcases hp' with z | z
    · obtain ⟨e, n, ne, nf, d⟩ := I.pin p z
      have lt : (p.1 : Nat) < s.heap.objs.size := Heap.lt_size e
      refine ⟨hk _ _ e, n, ?_, fun q => ?_, d⟩
      · exact Nat.ne_of_lt (Nat.lt_succ_of_lt lt)
      · rcases List.mem_cons.mp (I.stkSub _ q) with r | r
        · exact ne r
        · exact nf r
    · subst z
      refine ⟨pushCells_keeps _ _ _ _ (Heap.get?_push_of_some _ (Heap.get?_push_size _ hfr)), I.hok.fresh (Nat.le_refl _), ?_, fun q => ?_, hlo⟩
      · show s.heap.objs.size ≠ s.heap.objs.size + 1
        omega
      · rcases List.mem_cons.mp (I.stkSub _ q) with r | r
        · exact absurd I.lt (by rw [← r]; exact Nat.lt_irrefl _)
        · exact I.nofs (Nat.le_refl _) r
end
end L2

set_option Elab.async false
set_option linter.all false
set_option maxRecDepth 100000
namespace L2
open PySem PySem.Spec PyProof.Rows

def clr (own : List Nat) (σ : St) : St := own.foldl (fun σ i => σ.set i none) σ
theorem clr_length : ∀ (own : List Nat) (σ : St), (clr own σ).length = σ.length
  | [], _ => rfl
  | i :: r, σ => by
    show (clr r (σ.set i none)).length = _
    rw [clr_length r, List.length_set]
theorem clr_get : ∀ (own : List Nat) (σ : St) (j : Nat) (v : V), (clr own σ)[j]? = some (some v) → σ[j]? = some (some v) ∧ j ∉ own
  | [], _, _, _, h => ⟨h, fun z => nomatch z⟩
  | i :: r, σ, j, v, h => by
    have h' : (clr r (σ.set i none))[j]? = some (some v) := h
    obtain ⟨a, b⟩ := clr_get r _ j v h'
    rw [List.getElem?_set] at a
    split at a
    · split at a <;> cases a
    · rename_i hne
      exact ⟨a, fun z => (List.mem_cons.mp z).elim (fun e => hne e.symm) b⟩
/-- what is known stays known -/
def Ext (a b : St) : Prop := b.length = a.length ∧ ∀ (i : Nat) v, a[i]? = some (some v) → b[i]? = some (some v)
theorem Ext.refl (a : St) : Ext a a := ⟨rfl, fun _ _ h => h⟩
theorem Ext.set {own : List Nat} {σ a : St} {i : Nat} {v : V} (e : Ext (clr own σ) a) (h : i ∈ own) : Ext (clr own σ) (a.set i (some v)) := by
  refine ⟨by rw [List.length_set]; exact e.1, fun j u q => ?_⟩
  rw [List.getElem?_set]
  split
  · rename_i z
    exact absurd (z ▸ h) (clr_get own σ j u q).2
  · exact e.2 j u q

/-- the comprehension's tests -/
def PIfs (X : Cx) (ifs : List Expr) (t : TT) : Prop :=
  ∀ (pins : List (Addr × Obj)) (s : Shared) (σ : St) (H : Hp) (Q : Bool → Hp → Prop), Inv X pins σ H s → t σ H Q →
    wpAny (model X.prog X.w) X.A (forIn ifs true fun c r => if r = true then do let ok ← isTrue c X.env (eval c X.env); pure (ForInStep.yield ok) else pure (ForInStep.yield r)) (TP X pins σ Q) X.xe s
def tYes : TT := fun _ H Q => Q true H
theorem pifs_nil {X : Cx} : PIfs X [] tYes := fun _ _ _ H _ I h => wpAny_tests_nil ⟨H, I, h⟩
theorem pifs_one {X : Cx} {c : Expr} {t : TT} (h : PT X c t) : PIfs X [c] t := fun pins s σ H Q I hq => wpAny_tests_one (h pins s σ H Q I hq)

section
variable {prog : Program} {w : World} {A : Around} {E : Value → Shared → Prop} {R : Result → Shared → Prop} {s : Shared}
theorem compLoop_gen {elt target iter : Expr} {ifs : List Expr} {scope : Scope} {pos : Pos} {it acc : Value} {env : Env} (I : Nat → Shared → Prop)
    (turn : ∀ n s, I n s → wpAny (model prog w) A (pyNext it) (fun r s₁ => match r with
      | none => R (.ok .next) s₁
      | some v => wpAny (model prog w) A (letOwnedTupleGo target it v) (fun _ s₁' => wpAny (model prog w) A (assign target env v) (fun _ s₂ =>
          wpAny (model prog w) A (forIn ifs true fun c r => if r = true then do let ok ← isTrue c env (eval c env); pure (ForInStep.yield ok) else pure (ForInStep.yield r)) (fun ok s₃ =>
            if ok = true then wpAny (model prog w) A (eval elt env) (fun x s₄ =>
              wpAny (model prog w) A (call (.builtin "list.append") [acc, x]) (fun _ s₅ => ∃ m, m < n ∧ I m s₅) (fun _ _ => False) s₄) (fun _ _ => False) s₃
            else ∃ m, m < n ∧ I m s₃) (fun _ _ => False) s₂) (fun _ _ => False) s₁') (fun _ _ => False) s₁) (fun _ _ => False) s)
    (n : Nat) (h : I n s) :
    codeAny (model prog w) A (.compLoop (.ListComp elt [⟨target, iter, ifs, 0⟩] scope pos) 0 it acc env) R s := by
  refine codeAny_loop rfl I (fun n s hI => ?_) n h
  show wpAny _ A ((compTurn (.ListComp elt [⟨target, iter, ifs, 0⟩] scope pos) 0 it acc env).onRaise (fun x => do noteFrame x env; theTreesLotGoes x)) _ _ s
  refine wpAny_noted ?_
  rw [compTurn_list]
  refine wpAny_bind (wpAny_standAt (wpAny_bind (wpAny_mono (turn n s hI) (fun r s₁ h₁ => ?_) fun _ _ h' => h'.elim)))
  cases r with
  | none => exact wpAny_pure h₁
  | some v =>
    refine wpAny_bind (wpAny_mono h₁ (fun _ s₁' h₁' => ?_) fun _ _ h' => h'.elim)
    refine wpAny_bind (wpAny_mono h₁' (fun _ s₂ h₂ => wpAny_bind (wpAny_mono h₂ (fun ok s₃ h₃ => ?_) fun _ _ h' => h'.elim)) fun _ _ h' => h'.elim)
    cases ok with
    | false => exact wpAny_pure ⟨rfl, h₃⟩
    | true =>
      exact wpAny_bind (wpAny_bind (wpAny_mono h₃ (fun x s₄ h₄ => wpAny_bind (wpAny_mono h₄ (fun _ s₅ h₅ => wpAny_pure (wpAny_pure ⟨rfl, h₅⟩)) fun _ _ h' => h'.elim)) fun _ _ h' => h'.elim))
end

/-- the reading of a comprehension: W its invariant by the turn, a measure, what is told so far -/
def tComp (own : List Nat) (wi : TI) (g : TG) (tc : TT) (te : TE) : TE := fun σ H Q => wi σ H fun J H1 => ∃ W : Nat → Nat → List V → Hp → Prop, (∃ m, W 0 m [] H1) ∧ ∀ i m ys H, W i m ys H →
  (J.stop i H ∧ ys.length ≤ sizeLine ∧ ∀ D, H D = none → Q (.ref D) (upd H D (.lst ys))) ∨
  (J.go i H ∧ ∀ x H', J.yld i H x H' → g x (clr own σ) H' fun σ2 H2 => Ext (clr own σ) σ2 ∧ tc σ2 H2 fun b H3 =>
    if b = true then te σ2 H3 fun v H4 => ys.length < sizeLine ∧ ∃ m', m' < m ∧ W (i + 1) m' (ys ++ [v]) H4 else ∃ m', m' < m ∧ W (i + 1) m' ys H3)

abbrev lstObj (its : List Value) (n : Nat) : Obj := { cls := .type "list", data := .seq its.toArray n }

section
variable {X : Cx} {pins : List (Addr × Obj)} {σ : St} {H : Hp} {s : Shared}
/-- a pinned object of ours turns: D's pin is the last -/
theorem Inv.repin {pl : List (Addr × Obj)} {D : Addr} {o o' : Obj} {h' : Heap} (I : Inv X (pl ++ [(D, o)]) σ H s) (hpl : ∀ p ∈ X.pn ++ pl, p.1 ≠ D) (hs : Heap.SameBut D s.heap h') (hD : X.s₀.heap.objs.size ≤ D) (hc : ∀ x c, X.env.cells.lookup x = some c → c ≠ D)
    (e : h'.get? D = some o') (hn : ∀ v, o'.data ≠ .cell v) : Inv X (pl ++ [(D, o')]) σ H { s with heap := h' } := by
  obtain ⟨e0, n0, ne0, nf0, d0⟩ := I.pin (D, o) (by simp)
  have I1 : Inv X pl σ H s := I.pins_of fun p hp => I.pin p (by simp [hp])
  have I2 : Inv X pl σ H { s with heap := h' } := I1.turned (t' := s.toks) (it := D) (fun b u hb q => hs.extBut b u hb q) n0 ne0 (.inr hD) hc hpl
  exact I2.pins_of fun p hp => by
    rcases List.mem_append.mp hp with z | z
    · exact I2.pin p (List.mem_append_right _ z)
    · have : p = (D, o') := by simpa using z
      subst this
      exact ⟨e, n0, ne0, nf0, hn⟩
end
end L2

set_option Elab.async false
set_option linter.all false
set_option maxRecDepth 100000
namespace L2
open PySem PySem.Spec PyProof.Rows
section
variable {X : Cx} {pins : List (Addr × Obj)} {σ : St} {H : Hp} {s : Shared} {scope : Scope} {cl : List (Str × Addr)} {fp : List Addr} {it : Addr} {tn : Nat → Heap → Prop} {J : It} {tg elt iter : Expr} {ifs : List Expr} {pos : Pos}
  {own : List Nat} {g : TG} {tc : TT} {te : TE} {E : Value → Shared → Prop}

structure CompIn (X : Cx) (scope : Scope) (own : List Nat) : Prop where
  sc : CompScope X scope
  nm : ∀ (i : Nat) x, X.N[i]? = some x → i ∈ own ∨ scope.names.lookup x = none ∨ scope.names.lookup x = some .free

theorem relabel_none {scope : Scope} {env : Env} (x : Str) (h : scope.names.lookup x = none) : (relabel scope env).names.lookup x = none := by
  cases q : (relabel scope env).names.lookup x with
  | none => rfl
  | some k =>
    rcases relabel_look (scope := scope) x q with z | z
    · rw [h] at z; cases z
    · rw [h] at z; cases z.1

theorem comp_block (C : CompIn X scope own) (hcalm : X.calm = true) (I : Inv X pins σ H s) (T : Turn X.prog X.w X.K tg J fp it tn) (st : tn 0 s.heap) (hf : ∀ b ∈ fp, FpOk X pins H b)
    (c1 : ∀ x c, cl.lookup x = some c → X.env.cells.lookup x = some c) (c2 : ∀ y ∈ scope.names, y.2 = .free → (cl.lookup y.1).isSome = true)
    (hg : PG (cxComp X pins scope cl s H fp) tg g) (hi : PIfs (cxComp X pins scope cl s H fp) ifs tc) (he : PE (cxComp X pins scope cl s H fp) elt te)
    {RR : Value → Addr → Result → Shared → Prop} {QQ : List V → Hp → Prop} {W : Nat → Nat → List V → Hp → Prop} {m0 : Nat} (w0 : W 0 m0 [] H)
    (turn : ∀ i m ys H, W i m ys H → (J.stop i H ∧ ys.length ≤ sizeLine ∧ QQ ys H) ∨
      (J.go i H ∧ ∀ x H', J.yld i H x H' → g x (clr own σ) H' fun σ2 H2 => Ext (clr own σ) σ2 ∧ tc σ2 H2 fun b H3 =>
        if b = true then te σ2 H3 fun v H4 => ys.length < sizeLine ∧ ∃ m', m' < m ∧ W (i + 1) m' (ys ++ [v]) H4 else ∃ m', m' < m ∧ W (i + 1) m' ys H3))
    (fin : ∀ σc H' s' its n ys, Inv (cxComp X pins scope cl s H fp) [(s.heap.objs.size, lstObj its n)] σc H' s' → Vals ys its → ys.length ≤ sizeLine → QQ ys H' → RR (.ref s.heap.objs.size) (s.heap.objs.size + 1) (.ok .next) s') :
    wpAny (model X.prog X.w) X.A (newList []) (fun acc s₃ => wpAny (model X.prog X.w) X.A (newFunctionEnv scope X.env.globals cl [] X.env.qual none .none (some X.env)) (fun cenv s₄ =>
      codeAny (model X.prog X.w) X.A (.compStart (.ListComp elt [⟨tg, iter, ifs, 0⟩] scope pos) 0 (.ref it) acc { cenv with scope := relabel scope X.env }) (RR acc cenv.locals) s₄) E s₃) E s := by
  have ob : ∀ b : Nat, b ∈ fp → b < s.heap.objs.size := fun b hb => let ⟨_, e, _⟩ := T.obj 0 _ st b hb; Heap.lt_size e
  refine wpAny_newObj_type (newEnv_comp ?_)
  have sz1 : (s.heap.push (lstObj [] 0)).objs.size = s.heap.objs.size + 1 := Heap.size_push ..
  have I4 := inv_comp (X := X) (pins := pins) (σ := σ) (σc := clr own σ) (H := H) (s := s) (scope := scope) (cl := cl) (fp := fp) C.sc I hf ob c1 c2 (clr_length own σ) (fun i x v h1 h2 h3 => by
    obtain ⟨a, b⟩ := clr_get own σ i v h2
    rcases C.nm i x h1 with z | z | z
    · exact absurd z b
    · exact absurd (relabel_none x z) h3
    · exact ⟨z, a⟩) (lstObj [] 0) (by intro v z; cases z) rfl rfl
  have st4 : tn 0 (pushCells ((s.heap.push (lstObj [] 0)).push { cls := .type "dict", data := .dict #[] }) scope.names) := T.keep 0 _ _ st fun b _ o e => pushCells_keeps _ _ b o (Heap.get?_push_of_some _ (Heap.get?_push_of_some _ e))
  dsimp only
  unfold newEnv
  dsimp only
  rw [sz1]
  have hDfp : s.heap.objs.size ∉ fp := fun z => Nat.lt_irrefl _ (ob _ z)
  have hcD : ∀ x c, (cxComp X pins scope cl s H fp).env.cells.lookup x = some c → c ≠ s.heap.objs.size := fun x c e z => by
    obtain ⟨v, o, ho, hd⟩ := I4.cell x c e
    obtain ⟨q, _⟩ := I4.pin (s.heap.objs.size, lstObj [] 0) (by simp)
    rw [z, q] at ho
    cases ho; cases hd
  have fpk : ∀ {H' : Hp} {pl : List (Addr × Obj)}, (∀ b ∈ fp, H' b = none) → (∀ p ∈ pl, p.1 = s.heap.objs.size) → ∀ b ∈ fp, FpOk (cxComp X pins scope cl s H fp) pl H' b := fun {H' pl} hn hp b hb =>
    ⟨hn b hb, (I4.ok.exf b hb).1, I4.ok.exfs b hb, .inl hb, (I4.ok.exf b hb).2, fun p hq => by
      rcases List.mem_append.mp hq with z | z
      · exact (hf b hb).2.2.2.2.2 p z
      · intro e
        have e2 := hp p z
        rw [e] at e2
        exact hDfp (e2 ▸ hb)⟩
  have loop : codeAny (model X.prog X.w) X.A (.compLoop (.ListComp elt [⟨tg, iter, ifs, 0⟩] scope pos) 0 (.ref it) (.ref s.heap.objs.size) (cxComp X pins scope cl s H fp).env) (RR (.ref s.heap.objs.size) (s.heap.objs.size + 1))
      { s with heap := pushCells ((s.heap.push (lstObj [] 0)).push { cls := .type "dict", data := .dict #[] }) scope.names } := by
    refine compLoop_gen (fun n s' => ∃ i H' ys its k, Inv (cxComp X pins scope cl s H fp) [(s.heap.objs.size, lstObj its k)] (clr own σ) H' s' ∧ Vals ys its ∧ tn i s'.heap ∧ (∀ b ∈ fp, H' b = none) ∧ W i n ys H') ?_ m0
      ⟨0, H, [], [], 0, I4, .nil, st4, fun b hb => (hf b hb).1, w0⟩
    rintro n s5 ⟨i, H5, ys, its, k, I5, r5, st5, f5, w5⟩
    have pinD : ∀ p ∈ [(s.heap.objs.size, lstObj its k)], p.1 = s.heap.objs.size := fun p hp => by
      have : p = (s.heap.objs.size, lstObj its k) := by simpa using hp
      rw [this]
    rcases turn i n ys H5 w5 with ⟨stop, hz, qq⟩ | ⟨go, step⟩
    · refine thn (T.done (cxComp X pins scope cl s H fp) rfl rfl rfl hcalm i _ s5 _ H5 _ I5 (fpk f5 pinD) st5 stop) fun r s6 ⟨hr, I6⟩ => ?_
      subst hr
      exact fin _ H5 s6 its k ys I6 r5 hz qq
    · refine thn (T.item (cxComp X pins scope cl s H fp) rfl rfl rfl hcalm i _ s5 _ H5 _ I5 (fpk f5 pinD) st5 go) fun r s6 ⟨u, hr, h6⟩ => ?_
      subst hr
      refine thn h6 fun _ s7 ⟨x, H7, I7, r7, y7, st7, f7⟩ => ?_
      have I7' := I7.pinned (fpk f7 pinD) (T.obj _ _ st7)
      refine thn (hg _ s7 _ H7 x u _ I7' r7 (step x H7 y7)) fun _ s8 ⟨σ8, H8, I8, x8, q8⟩ => ?_
      refine thn (hi _ s8 σ8 H8 _ I8 q8) fun ok s9 ⟨H9, I9, q9⟩ => ?_
      have back : ∀ {s' : Shared} {Hx : Hp}, Inv (cxComp X pins scope cl s H fp) ([(s.heap.objs.size, lstObj its k)] ++ pinsAt fp s7.heap) σ8 Hx s' → tn (i + 1) s'.heap ∧ ∀ b ∈ fp, Hx b = none := fun {s' Hx} Ix =>
        ⟨T.keep _ _ _ st7 fun b hb o e => (Ix.pin (b, o) (List.mem_append_right _ (List.mem_append_right _ (mem_pinsAt hb e)))).1, fun b hb => by
          obtain ⟨o, e, d⟩ := T.obj _ _ st7 b hb
          exact (Ix.pin (b, o) (List.mem_append_right _ (List.mem_append_right _ (mem_pinsAt hb e)))).2.1⟩
      cases ok with
      | false =>
        obtain ⟨m', hm, w'⟩ := q9
        obtain ⟨b1, b2⟩ := back I9
        exact ⟨m', hm, i + 1, H9, ys, its, k, (I9.weak (by rw [x8.1]) x8.2).unpinned, r5, b1, b2, w'⟩
      | true =>
        refine thn (he _ s9 σ8 H9 _ I9 q9) fun v s10 ⟨y, H10, I10, r10, hlt, m', hm, w'⟩ => ?_
        obtain ⟨b1, b2⟩ := back I10
        have J10 := (I10.weak (by rw [x8.1]) x8.2).unpinned
        obtain ⟨e10, n10, ne10, nf10, d10⟩ := J10.pin (s.heap.objs.size, lstObj its k) (by simp)
        have hlen : its.toArray.size ≤ sizeLine := by
          have := r5.length
          rw [List.size_toArray, ← this]
          exact Nat.le_of_lt hlt
        refine wpAny_list_append_plain (hsz := hlen) (show s10.heap.PlainList s.heap.objs.size its.toArray from ⟨k, e10⟩) fun h' hl' hs' => ?_
        obtain ⟨k', e'⟩ := hl'
        have e'' : h'.get? s.heap.objs.size = some (lstObj (its ++ [v]) k') := by rw [e']; simp [lstObj]
        refine ⟨m', hm, i + 1, H10, ys ++ [y], its ++ [v], k', ?_, r5.append (.cons r10 .nil), T.keep _ _ _ b1 fun b hb o e => hs'.extBut b o (fun z => hDfp (z ▸ hb)) e, b2, w'⟩
        refine Inv.repin (pl := []) J10 (fun p hp => ?_) hs' (Nat.le_refl _) hcD e'' (by intro v z; cases z)
        rw [List.append_nil] at hp
        have hp' : p ∈ X.pn ++ pins := hp
        exact Nat.ne_of_lt (Heap.lt_size (I.pin p hp').1)
  exact codeAny_compStart_list loop (T.self _ 0 _ _ _ st4 loop)
end
end L2

set_option Elab.async false
set_option linter.all false
set_option maxRecDepth 100000
namespace L2
open PySem PySem.Spec PyProof.Rows
section
variable {X : Cx} {pins : List (Addr × Obj)} {σ : St} {H : Hp} {s : Shared} {scope : Scope} {cl : List (Str × Addr)} {fp : List Addr}

/-- behind the block: its list is tracked, the surroundings are as they were -/
theorem comp_end {σc : St} {H' : Hp} {s' : Shared} {h' : Heap} {its : List Value} {n : Nat} {ys : List V} (I : Inv X pins σ H s) (hf : ∀ b ∈ fp, FpOk X pins H b)
    (Ic : Inv (cxComp X pins scope cl s H fp) [(s.heap.objs.size, lstObj its n)] σc H' s') (rv : Vals ys its) (hz : ys.length ≤ sizeLine) (hs : Heap.SameBut (s.heap.objs.size + 1) s'.heap h') :
    Inv X pins σ (upd H' s.heap.objs.size (.lst ys)) { s' with heap := h' } ∧ H' s.heap.objs.size = none := by
  obtain ⟨eD, nD, _⟩ := Ic.pin (s.heap.objs.size, lstObj its n) (by simp)
  have nC : H' (s.heap.objs.size + 1) = none := Ic.free
  have eD' : h'.get? s.heap.objs.size = some (lstObj its n) := hs.extBut _ _ (Nat.ne_of_lt (Nat.lt_succ_self _)) eD
  have lt1 : ∀ {b : Addr} {o : Obj}, s.heap.get? b = some o → b ≠ s.heap.objs.size + 1 ∧ b ≠ s.heap.objs.size := fun e => ⟨Nat.ne_of_lt (Nat.lt_succ_of_lt (Heap.lt_size e)), Nat.ne_of_lt (Heap.lt_size e)⟩
  have tr : ∀ b u, H' b = some u → b ≠ s.heap.objs.size + 1 ∧ b ≠ s.heap.objs.size := fun b u e => ⟨fun z => (by rw [z, nC] at e; cases e), fun z => (by rw [z, nD] at e; cases e)⟩
  refine ⟨?_, nD⟩
  have B := Ic.base
  have un : Un (frs X.stack) fp H (upd H' s.heap.objs.size (.lst ys)) s.heap h' := by
    refine ⟨fun b o e q hb hx => hs.extBut b o (lt1 e).1 (B.keep b o e q hb hx), fun b o e q hb hx => ?_, fun b o e q hx => ?_, fun b o e hx => ?_, fun b xs e => ?_, fun b o xs e => ?_, fun b ps e => ?_⟩
    · obtain ⟨sl, e1⟩ := B.slot b o e q hb hx
      exact ⟨sl, hs.extBut b _ (lt1 e).1 e1⟩
    · rw [upd_ne (lt1 e).2]; exact B.free b o e q hx
    · obtain ⟨o', e1⟩ := B.there b o e hx
      exact ⟨o', hs.extBut b _ (lt1 e).1 e1⟩
    · have q := B.tups b xs e
      rw [upd_ne (tr b _ q).2]; exact q
    · have q := B.frzs b o xs e
      rw [upd_ne (tr b _ q).2]; exact q
    · obtain ⟨more, q⟩ := B.tbls b ps e
      exact ⟨more, by rw [upd_ne (tr b _ q).2]; exact q⟩
  have hok : HOk X.prog X.w (upd H' s.heap.objs.size (.lst ys)) h' := fun b u e => by
    by_cases hb : b = s.heap.objs.size
    · subst hb
      rw [upd_same] at e; cases e
      exact ⟨hz, its, n, rv, eD'⟩
    · rw [upd_ne hb] at e
      refine (Ic.hok b u e).stay (fun c v hc q => hs.extBut c v ?_ q) (fun c q => by rw [upd_ne (tr c _ q).2]; exact q) fun c xs q => by rw [upd_ne (tr c _ q).2]; exact q
      rcases hc with z | z
      · rw [z]; exact (tr b u e).1
      · exact (tr c _ z).1
  exact I.call' (s' := { s' with heap := h' }) (ch := fp) Ic.os un hok Ic.bare fun b hb => ⟨(hf b hb).2.2.2.1, (hf b hb).2.1, (hf b hb).2.2.2.2.1, (hf b hb).2.2.2.2.2⟩
end

section
variable {X : Cx} {scope : Scope} {tg elt iter : Expr} {ifs : List Expr} {pos : Pos} {own : List Nat} {wi : TI} {g : TG} {tc : TT} {te : TE}

/-- the parts of a comprehension read in its block -/
structure CompParts (X : Cx) (scope : Scope) (tg : Expr) (ifs : List Expr) (elt : Expr) (g : TG) (tc : TT) (te : TE) : Prop where
  g : ∀ pins cl s H fp, PG (cxComp X pins scope cl s H fp) tg g
  c : ∀ pins cl s H fp, PIfs (cxComp X pins scope cl s H fp) ifs tc
  e : ∀ pins cl s H fp, PE (cxComp X pins scope cl s H fp) elt te

theorem CompScope.closure {pins : List (Addr × Obj)} {σ : St} {H : Hp} {s : Shared} (S : CompScope X scope) (I : Inv X pins σ H s) :
    ∃ cl, closureFor scope X.env = pure cl ∧ (∀ x c, cl.lookup x = some c → X.env.cells.lookup x = some c) ∧ ∀ y ∈ scope.names, y.2 = .free → (cl.lookup y.1).isSome = true :=
  closureFor_of fun y hy hk => I.ok.has y.1 (S.free y hy hk)

theorem pe_comp (C : CompIn X scope own) (hcalm : X.calm = true) (hi : PI X tg iter wi) (p : CompParts X scope tg ifs elt g tc te) (hs : ∀ x, foldedSetIterable iter X.env x = pure x := by intro _; rfl) :
    PE X (.ListComp elt [⟨tg, iter, ifs, 0⟩] scope pos) (tComp own wi g tc te) := by
  intro pins s σ H Q I h
  obtain ⟨cl, hcl, c1, c2⟩ := C.sc.closure I
  rw [eval_ListComp]
  refine wpAny_comprehension_free (use := none) rfl hs hcl C.sc.kind C.sc.names (thn (hi pins s σ H _ I h) fun v s1 h1 => thn h1 fun itv s2 h2 => ?_)
  obtain ⟨it, fp, tn, J, H2, e, I2, T, st2, f2, W, ⟨m0, w0⟩, turn⟩ := h2
  subst e
  refine comp_block C hcalm I2 T st2 f2 c1 c2 (p.g _ _ _ _ _) (p.c _ _ _ _ _) (p.e _ _ _ _ _) (RR := fun acc C r s' => compPost (model X.prog X.w) X.A X.xe none (EP X pins σ Q) acc C r s') (QQ := fun ys H => ∀ D, H D = none → Q (.ref D) (upd H D (.lst ys))) w0 turn ?_
  intro σc H' s' its n ys Ic rv hz qq
  obtain ⟨m, hn, _⟩ := Ic.loc
  refine ⟨m, hn, fun h' hs' => ?_⟩
  obtain ⟨J', nD⟩ := comp_end I2 f2 Ic rv hz hs'
  exact ⟨.ref s2.heap.objs.size, _, J', rfl, qq _ nD⟩

/-- x = [.. for ..], stored ahead of the block's end -/
theorem ps_setComp {i : Nat} {x : Str} {pos' pos'' : Pos} (hN : X.N.Nodup) (hi' : X.N[i]? = some x) (hx : Loc X.env.scope x) (hfn : X.fn x = true ∨ X.env.scope.names.lookup x = some .local)
    (C : CompIn X scope own) (hcalm : X.calm = true) (hi : PI X tg iter wi) (p : CompParts X scope tg ifs elt g tc te)
    (hsw : swapsWith (.ListComp elt [⟨tg, iter, ifs, 0⟩] scope pos) (some (.Name x pos')) pos''.line X.env = pure true) (hs : ∀ x, foldedSetIterable iter X.env x = pure x := by intro _; rfl) :
    PS X (.Assign [.Name x pos'] (.ListComp elt [⟨tg, iter, ifs, 0⟩] scope pos) pos'') (tAsg (tComp own wi g tc te) (gName i)) := by
  intro pins s σ H D I h
  obtain ⟨cl, hcl, c1, c2⟩ := C.sc.closure I
  rw [exec_Assign_Name_used _ _ _ _ hsw]
  refine wpAny_bind (wpAny_standAt (wpAny_bind ?_))
  show wpAny _ X.A (do let _ ← comprehension (.ListComp elt [⟨tg, iter, ifs, 0⟩] scope pos) scope X.env _ (newList []) false (eval iter X.env) (some (assign (.Name x pos') X.env))) _ _ s
  refine wpAny_bind (wpAny_mono (wpAny_comprehension_free (use := some (assign (.Name x pos') X.env)) (Q := fun _ s' => SP X pins D .next s') rfl hs hcl C.sc.kind C.sc.names
    (thn (hi pins s σ H _ I h) fun v s1 h1 => thn h1 fun itv s2 h2 => ?_)) (fun _ s' hq => wpAny_pure (wpAny_pure hq)) fun _ _ e => e)
  obtain ⟨it, fp, tn, J, H2, e, I2, T, st2, f2, W, ⟨m0, w0⟩, turn⟩ := h2
  subst e
  refine comp_block C hcalm I2 T st2 f2 c1 c2 (p.g _ _ _ _ _) (p.c _ _ _ _ _) (p.e _ _ _ _ _) (RR := fun acc C r s' => compPost (model X.prog X.w) X.A X.xe (some (assign (.Name x pos') X.env)) (fun _ s' => SP X pins D .next s') acc C r s')
    (QQ := fun ys H => ∀ E, H E = none → gName i (.ref E) σ (upd H E (.lst ys)) D.nx) w0 turn ?_
  intro σc H' s' its n ys Ic rv hz qq
  obtain ⟨m, hn, _⟩ := Ic.loc
  obtain ⟨J', nD⟩ := comp_end (h' := s'.heap) I2 f2 Ic rv hz (.refl ..)
  obtain ⟨oC, es, ep, hoC, hdC, r1, r2⟩ := id hn
  have nC : upd H' s2.heap.objs.size (.lst ys) (s2.heap.objs.size + 1) = none := by rw [upd_ne (Nat.ne_of_gt (Nat.lt_succ_self _))]; exact Ic.free
  have K' : Inv X (pins ++ [(s2.heap.objs.size + 1, oC)]) σ (upd H' s2.heap.objs.size (.lst ys)) s' := J'.pins_of fun q hq => by
    rcases List.mem_append.mp hq with z | z
    · exact J'.pin q (List.mem_append_right _ z)
    · have e : q = (s2.heap.objs.size + 1, oC) := by simpa using z
      subst e
      refine ⟨hoC, nC, Nat.ne_of_gt (Nat.lt_succ_of_lt I2.lt), I2.nofs (Nat.le_succ _), fun v z => ?_⟩
      have z' : oC.data = .cell v := z
      rw [hdC] at z'; cases z'
  show wpAny _ X.A (assign (.Name x pos') X.env (.ref s2.heap.objs.size)) _ _ _
  refine thn (pg_name hN hi' hx hfn _ s' σ _ (.ref s2.heap.objs.size) (.ref s2.heap.objs.size) _ K' rfl (qq _ nD)) fun _ s'' ⟨σ'', H'', I'', q''⟩ => ?_
  obtain ⟨eC, _⟩ := I''.pin (s2.heap.objs.size + 1, oC) (by simp)
  refine ⟨m, ⟨oC, es, ep, eC, hdC, r1, r2⟩, fun h' hs' => ⟨σ'', H'', ?_, q''⟩⟩
  have I3 : Inv X pins σ'' H'' s'' := I''.unpinned
  obtain ⟨_, nC'', neC, _, _⟩ := I''.pin (s2.heap.objs.size + 1, oC) (by simp)
  refine I3.turned (t' := s''.toks) (it := s2.heap.objs.size + 1) (fun b o hb e => hs'.extBut b o hb e) nC'' neC (.inr (Nat.le_trans I2.sz (Nat.le_succ _))) (fun x c e z => ?_) (fun q hq z => ?_)
  · obtain ⟨v, o, ho, hd⟩ := I3.cell x c e
    rw [z, eC] at ho; cases ho
    rw [hdC] at hd; cases hd
  · obtain ⟨e, _⟩ := I2.pin q hq
    exact Nat.ne_of_lt (Nat.lt_succ_of_lt (Heap.lt_size e)) z
end
end L2

set_option Elab.async false
set_option linter.all false
set_option maxRecDepth 100000
namespace L3
open PySem PySem.Spec PyProof.Rows L2
abbrev Sv := List (Option V)

/-- plain data; a mutable thing by its number -/
inductive D where
  | non | bl (b : Bool) | int (i : Int) | str (x : Str) | tup (xs : List D) | ref (n : Nat)
/-- a mutable thing: a list, a list that is only read, a dict, a set -/
inductive MO where
  | lst (xs : List D) | fro (xs : List D) | dict (kvs : List (D × D)) | dicT (kvs : List (D × D)) | set (xs : List D)

mutual
/-- data as the abstract heap bears it; L: the addresses of the mutable things -/
def Rep (L : List Addr) (H : Hp) : D → V → Prop
  | .non, v => v = .non
  | .bl b, v => v = .bl b
  | .int i, v => v = .int i
  | .str x, v => v = .str x
  | .tup ds, v => ∃ a vs, v = .ref a ∧ H a = some (.tup vs) ∧ Reps L H ds vs
  | .ref n, v => ∃ a, v = .ref a ∧ L[n]? = some a
def Reps (L : List Addr) (H : Hp) : List D → List V → Prop
  | [], vs => vs = []
  | d :: ds, vs => ∃ v r, vs = v :: r ∧ Rep L H d v ∧ Reps L H ds r
end

theorem Reps.length {L : List Addr} {H : Hp} : ∀ {ds : List D} {vs : List V}, Reps L H ds vs → vs.length = ds.length
  | [], _, h => by unfold Reps at h; subst h; rfl
  | d :: ds, _, h => by
    unfold Reps at h
    obtain ⟨v, r, rfl, _, h2⟩ := h
    simp [Reps.length h2]
theorem Reps.nil {L : List Addr} {H : Hp} : Reps L H [] [] := by unfold Reps; rfl
theorem Reps.cons {L : List Addr} {H : Hp} {d : D} {ds : List D} {v : V} {vs : List V} (h : Rep L H d v) (t : Reps L H ds vs) : Reps L H (d :: ds) (v :: vs) := by
  unfold Reps; exact ⟨v, vs, rfl, h, t⟩
theorem Reps.get {L : List Addr} {H : Hp} : ∀ {ds : List D} {vs : List V} {i : Nat} {d : D}, Reps L H ds vs → ds[i]? = some d → ∃ v, vs[i]? = some v ∧ Rep L H d v
  | [], _, _, _, _, e => by simp at e
  | d :: ds, _, 0, d', h, e => by
    unfold Reps at h
    obtain ⟨v, r, rfl, h1, h2⟩ := h
    simp at e; subst e
    exact ⟨v, rfl, h1⟩
  | d :: ds, _, i + 1, d', h, e => by
    unfold Reps at h
    obtain ⟨v, r, rfl, h1, h2⟩ := h
    obtain ⟨u, e1, e2⟩ := Reps.get (i := i) h2 (by simpa using e)
    exact ⟨u, by simpa using e1, e2⟩
theorem Reps.app {L : List Addr} {H : Hp} : ∀ {ds es : List D} {vs ws : List V}, Reps L H ds vs → Reps L H es ws → Reps L H (ds ++ es) (vs ++ ws)
  | [], _, _, _, h, t => by unfold Reps at h; subst h; exact t
  | d :: ds, _, _, _, h, t => by
    unfold Reps at h
    obtain ⟨v, r, rfl, h1, h2⟩ := h
    exact .cons h1 (Reps.app h2 t)
theorem Reps.set {L : List Addr} {H : Hp} {d : D} {v : V} (h : Rep L H d v) : ∀ {ds : List D} {vs : List V} (i : Nat), Reps L H ds vs → Reps L H (ds.set i d) (vs.set i v)
  | [], _, _, t => by unfold Reps at t; subst t; exact .nil
  | _ :: _, _, 0, t => by
    unfold Reps at t
    obtain ⟨v', r, rfl, h1, h2⟩ := t
    exact .cons h h2
  | _ :: _, _, i + 1, t => by
    unfold Reps at t
    obtain ⟨v', r, rfl, h1, h2⟩ := t
    exact .cons h1 (Reps.set h i h2)
theorem Reps.drop {L : List Addr} {H : Hp} : ∀ {ds : List D} {vs : List V} (n : Nat), Reps L H ds vs → Reps L H (ds.drop n) (vs.drop n)
  | _, _, 0, t => t
  | [], _, n + 1, t => by unfold Reps at t; subst t; exact .nil
  | _ :: _, _, n + 1, t => by
    unfold Reps at t
    obtain ⟨v', r, rfl, h1, h2⟩ := t
    exact Reps.drop n h2
theorem Reps.take {L : List Addr} {H : Hp} : ∀ {ds : List D} {vs : List V} (n : Nat), Reps L H ds vs → Reps L H (ds.take n) (vs.take n)
  | _, _, 0, t => .nil
  | [], _, n + 1, t => by unfold Reps at t; subst t; exact .nil
  | _ :: _, _, n + 1, t => by
    unfold Reps at t
    obtain ⟨v', r, rfl, h1, h2⟩ := t
    exact .cons h1 (Reps.take n h2)
theorem Reps.eraseIdx {L : List Addr} {H : Hp} : ∀ {ds : List D} {vs : List V} (n : Nat), Reps L H ds vs → Reps L H (ds.eraseIdx n) (vs.eraseIdx n)
  | [], _, n, t => by unfold Reps at t; subst t; exact .nil
  | _ :: _, _, 0, t => by
    unfold Reps at t
    obtain ⟨v', r, rfl, h1, h2⟩ := t
    exact h2
  | _ :: _, _, n + 1, t => by
    unfold Reps at t
    obtain ⟨v', r, rfl, h1, h2⟩ := t
    exact .cons h1 (Reps.eraseIdx n h2)

/-- from one state to a later one: the known mutable things may turn, all else stays, new ones are new -/
structure Stp (L : List Addr) (H : Hp) (L' : List Addr) (H' : Hp) : Prop where
  pre : ∃ N, L' = L ++ N
  new : ∀ a ∈ L', a ∈ L ∨ H a = none
  old : ∀ a o, H a = some o → a ∉ L → H' a = some o
  tup : ∀ a xs, H a = some (.tup xs) → H' a = some (.tup xs)
  frz : ∀ a o u, H a = some (.frz o u) → H' a = some (.frz o u)
theorem Stp.refl (L : List Addr) (H : Hp) : Stp L H L H := ⟨⟨[], by simp⟩, fun _ h => .inl h, fun _ _ h _ => h, fun _ _ h => h, fun _ _ _ h => h⟩
theorem Stp.trans {L L1 L2 : List Addr} {H H1 H2 : Hp} (a : Stp L H L1 H1) (b : Stp L1 H1 L2 H2) : Stp L H L2 H2 := by
  obtain ⟨N, rfl⟩ := a.pre
  obtain ⟨N', rfl⟩ := b.pre
  have back : ∀ c, c ∉ L → H1 c = none → H c = none := fun c hc h1 => by
    cases q : H c with
    | none => rfl
    | some o => rw [a.old c o q hc] at h1; cases h1
  refine ⟨⟨N ++ N', by simp⟩, fun c hc => ?_, fun c o e hc => ?_, fun c xs e => b.tup c xs (a.tup c xs e), fun c o u e => b.frz c o u (a.frz c o u e)⟩
  · by_cases hL : c ∈ L
    · exact .inl hL
    · rcases b.new c hc with z | z
      · exact a.new c z
      · exact .inr (back c hL z)
  · refine b.old c o (a.old c o e hc) fun z => ?_
    rcases a.new c z with q | q
    · exact hc q
    · rw [q] at e; cases e
/-- the heap has grown -/
theorem Stp.grow {L : List Addr} {H H' : Hp} (h : ∀ a o, H a = some o → H' a = some o) : Stp L H L H' := ⟨⟨[], by simp⟩, fun _ h => .inl h, fun a o e _ => h a o e, fun a _ e => h a _ e, fun a _ _ e => h a _ e⟩
theorem Stp.upd {L : List Addr} {H : Hp} {p : Addr} {o : HO} (h : H p = none) : Stp L H L (upd H p o) := .grow fun a u e => by rw [upd_ne (ne_of_none e h)]; exact e

theorem pre_get {L N : List Addr} {n : Nat} {a : Addr} (h : L[n]? = some a) : (L ++ N)[n]? = some a := by
  rw [List.getElem?_append_left (List.getElem?_eq_some_iff.mp h).1]; exact h
mutual
theorem Rep.stp {L L' : List Addr} {H H' : Hp} (s : Stp L H L' H') : ∀ {d : D} {v : V}, Rep L H d v → Rep L' H' d v
  | .non, _, h => by unfold Rep at h ⊢; exact h
  | .bl _, _, h => by unfold Rep at h ⊢; exact h
  | .int _, _, h => by unfold Rep at h ⊢; exact h
  | .str _, _, h => by unfold Rep at h ⊢; exact h
  | .tup ds, _, h => by
    unfold Rep at h ⊢
    obtain ⟨a, vs, rfl, e, r⟩ := h
    exact ⟨a, vs, rfl, s.tup a vs e, Reps.stp s r⟩
  | .ref n, _, h => by
    unfold Rep at h ⊢
    obtain ⟨a, rfl, e⟩ := h
    obtain ⟨N, rfl⟩ := s.pre
    exact ⟨a, rfl, pre_get e⟩
theorem Reps.stp {L L' : List Addr} {H H' : Hp} (s : Stp L H L' H') : ∀ {ds : List D} {vs : List V}, Reps L H ds vs → Reps L' H' ds vs
  | [], _, h => by unfold Reps at h ⊢; exact h
  | d :: ds, _, h => by
    unfold Reps at h ⊢
    obtain ⟨v, r, rfl, h1, h2⟩ := h
    exact ⟨v, r, rfl, Rep.stp s h1, Reps.stp s h2⟩
end

/-- keys of dicts: numbers, texts; tuples of them -/
def keyD : D → Option Key
  | .int i => some (.inl i)
  | .str x => some (.inr x)
  | _ => none
def keysD : List D → Option (List Key)
  | [] => some []
  | d :: r => match keyD d, keysD r with
    | some k, some ks => some (k :: ks)
    | _, _ => none
def tkD : D → Option (List Key)
  | .tup ds => keysD ds
  | _ => none
/-- the pairs of a dict -/
def DRep {κ : Type} (kf : D → Option κ) (L : List Addr) (H : Hp) : List (D × D) → List (κ × V) → Prop
  | [], vs => vs = []
  | p :: r, vs => ∃ k v r', vs = (k, v) :: r' ∧ kf p.1 = some k ∧ Rep L H p.2 v ∧ DRep kf L H r r'
theorem DRep.stp {κ : Type} {kf : D → Option κ} {L L' : List Addr} {H H' : Hp} (s : Stp L H L' H') : ∀ {ps : List (D × D)} {vs : List (κ × V)}, DRep kf L H ps vs → DRep kf L' H' ps vs
  | [], _, h => h
  | p :: r, _, h => by
    obtain ⟨k, v, r', rfl, e, h1, h2⟩ := h
    exact ⟨k, v, r', rfl, e, h1.stp s, DRep.stp s h2⟩
theorem DRep.length {κ : Type} {kf : D → Option κ} {L : List Addr} {H : Hp} : ∀ {ps : List (D × D)} {vs : List (κ × V)}, DRep kf L H ps vs → vs.length = ps.length
  | [], _, h => by unfold DRep at h; subst h; rfl
  | p :: r, _, h => by
    obtain ⟨k, v, r', rfl, e, h1, h2⟩ := h
    simp [DRep.length h2]
/-- a mutable thing as the abstract heap bears it -/
def MRep (K : PySem.W.Frag) (L : List Addr) (H : Hp) (a : Addr) : MO → Prop
  | .lst xs => ∃ vs, H a = some (.lst vs) ∧ Reps L H xs vs
  | .fro xs => ∃ o vs, H a = some (.frz o (.lst vs)) ∧ Reps L H xs vs
  | .dict ps => ∃ vs, H a = some (.dK vs) ∧ DRep keyD L H ps vs
  | .dicT ps => ∃ vs, H a = some (.dT vs) ∧ DRep tkD L H ps vs
  | .set _ => False
theorem MRep.there {K : PySem.W.Frag} {L : List Addr} {H : Hp} {a : Addr} {m : MO} (h : MRep K L H a m) : ∃ o, H a = some o := by
  cases m with
  | lst xs => obtain ⟨vs, e, _⟩ := h; exact ⟨_, e⟩
  | fro xs => obtain ⟨o, vs, e, _⟩ := h; exact ⟨_, e⟩
  | dict ps => obtain ⟨vs, e, _⟩ := h; exact ⟨_, e⟩
  | dicT ps => obtain ⟨vs, e, _⟩ := h; exact ⟨_, e⟩
  | set _ => exact h.elim
theorem MRep.stp {K : PySem.W.Frag} {L L' : List Addr} {H H' : Hp} {a : Addr} {m : MO} (s : Stp L H L' H') (hk : ∀ o, H a = some o → H' a = some o) (h : MRep K L H a m) : MRep K L' H' a m := by
  cases m with
  | lst xs => obtain ⟨vs, e, r⟩ := h; exact ⟨vs, hk _ e, r.stp s⟩
  | fro xs => obtain ⟨o, vs, e, r⟩ := h; exact ⟨o, vs, hk _ e, r.stp s⟩
  | dict ps => obtain ⟨vs, e, r⟩ := h; exact ⟨vs, hk _ e, r.stp s⟩
  | dicT ps => obtain ⟨vs, e, r⟩ := h; exact ⟨vs, hk _ e, r.stp s⟩
  | set _ => exact h.elim
structure Cor (K : PySem.W.Frag) (L : List Addr) (M : List MO) (H : Hp) : Prop where
  len : L.length = M.length
  nd : L.Nodup
  obj : ∀ (n : Nat) a m, L[n]? = some a → M[n]? = some m → MRep K L H a m
def RepS (L : List Addr) (H : Hp) (σ : List (Option D)) (τ : Sv) : Prop := τ.length = σ.length ∧ ∀ (i : Nat) d, σ[i]? = some (some d) → ∃ v, τ[i]? = some (some v) ∧ Rep L H d v
theorem RepS.stp {L L' : List Addr} {H H' : Hp} (s : Stp L H L' H') {σ : List (Option D)} {τ : Sv} (h : RepS L H σ τ) : RepS L' H' σ τ :=
  ⟨h.1, fun i d e => let ⟨v, e1, r⟩ := h.2 i d e; ⟨v, e1, r.stp s⟩⟩
theorem Cor.tracked {K : PySem.W.Frag} {L : List Addr} {M : List MO} {H : Hp} (c : Cor K L M H) {a : Addr} (h : a ∈ L) : ∃ o, H a = some o := by
  obtain ⟨n, hn⟩ := List.getElem?_of_mem h
  have hl : n < M.length := by rw [← c.len]; exact (List.getElem?_eq_some_iff.mp hn).1
  have m := c.obj n a M[n] hn (List.getElem?_eq_getElem hl)
  exact m.there
/-- the heap has grown -/
theorem Cor.grow {K : PySem.W.Frag} {L : List Addr} {M : List MO} {H H' : Hp} (c : Cor K L M H) (h : ∀ a o, H a = some o → H' a = some o) : Cor K L M H' := by
  exact ⟨c.len, c.nd, fun n a m e1 e2 => (c.obj n a m e1 e2).stp (.grow h) fun o e => h a o e⟩
theorem Cor.upd {K : PySem.W.Frag} {L : List Addr} {M : List MO} {H : Hp} {p : Addr} {o : HO} (c : Cor K L M H) (h : H p = none) : Cor K L M (upd H p o) := c.grow fun a u e => by rw [upd_ne (ne_of_none e h)]; exact e
/-- a new list -/
theorem Cor.push {K : PySem.W.Frag} {L : List Addr} {M : List MO} {H : Hp} {p : Addr} {xs : List D} {vs : List V} (c : Cor K L M H) (h : H p = none) (r : Reps L H xs vs) :
    Cor K (L ++ [p]) (M ++ [.lst xs]) (L2.upd H p (.lst vs)) ∧ Stp L H (L ++ [p]) (L2.upd H p (.lst vs)) := by
  have hp : p ∉ L := fun z => by obtain ⟨o, e⟩ := c.tracked z; rw [h] at e; cases e
  have st : Stp L H (L ++ [p]) (L2.upd H p (.lst vs)) := by
    refine ⟨⟨[p], rfl⟩, fun a ha => ?_, fun a o e _ => ?_, fun a o e => ?_, fun a o u e => ?_⟩
    · rcases List.mem_append.mp ha with z | z
      · exact .inl z
      · have : a = p := by simpa using z
        subst this; exact .inr h
    all_goals (rw [upd_ne (ne_of_none e h)]; exact e)
  refine ⟨⟨by simp [c.len], ?_, fun n a m e1 e2 => ?_⟩, st⟩
  · rw [List.nodup_append]
    exact ⟨c.nd, by simp, fun a ha b hb z => by
      have : b = p := by simpa using hb
      subst this; subst z; exact hp ha⟩
  · by_cases hn : n < L.length
    · rw [List.getElem?_append_left hn] at e1
      rw [List.getElem?_append_left (by rw [← c.len]; exact hn)] at e2
      exact (c.obj n a m e1 e2).stp st fun o e => by rw [upd_ne (ne_of_none e h)]; exact e
    · have hn' : n = L.length := by
        have := (List.getElem?_eq_some_iff.mp e1).1
        rw [List.length_append] at this
        simp at this; omega
      subst hn'
      simp at e1
      rw [c.len] at e2
      simp at e2
      subst e1; subst e2
      exact ⟨vs, upd_same, r.stp st⟩
/-- a list is changed -/
theorem Cor.write {K : PySem.W.Frag} {L : List Addr} {M : List MO} {H : Hp} {n : Nat} {p : Addr} {xs xs' : List D} {vs' : List V} (c : Cor K L M H) (h1 : L[n]? = some p) (h2 : M[n]? = some (.lst xs)) (r : Reps L H xs' vs') :
    Cor K L (M.set n (.lst xs')) (L2.upd H p (.lst vs')) ∧ Stp L H L (L2.upd H p (.lst vs')) := by
  obtain ⟨vs, hp, _⟩ := c.obj n p _ h1 h2
  have st : Stp L H L (L2.upd H p (.lst vs')) := by
    refine ⟨⟨[], by simp⟩, fun a ha => .inl ha, fun a o e ha => ?_, fun a o e => ?_, fun a o u e => ?_⟩
    · rw [upd_ne (show a ≠ p from fun z => ha (by rw [z]; exact List.mem_of_getElem? h1))]; exact e
    · rw [upd_ne (ne_of e hp (by intro z; cases z))]; exact e
    · rw [upd_ne (ne_of e hp (by intro z; cases z))]; exact e
  refine ⟨⟨by simp [c.len], c.nd, fun k a m e1 e2 => ?_⟩, st⟩
  rw [List.getElem?_set] at e2
  split at e2
  · rename_i hk
    subst hk
    rw [h1] at e1; cases e1
    split at e2
    · cases e2; exact ⟨vs', upd_same, r.stp st⟩
    · cases e2
  · rename_i hk
    have hne : a ≠ p := fun z => hk (by
      subst z
      exact (List.getElem?_inj (List.getElem?_eq_some_iff.mp h1).1 c.nd).mp (h1.trans e1.symm))
    exact (c.obj k a m e1 e2).stp st fun o e => by rw [upd_ne hne]; exact e
end L3

set_option Elab.async false
set_option linter.all false
set_option maxRecDepth 100000
namespace L3
open PySem PySem.Spec PyProof.Rows L2
/-- an expression's value: data, or a list just made that nothing else knows -/
inductive EV where
  | dat (d : D) | fl (xs : List D)
def RepE (H0 : Hp) (L : List Addr) (H : Hp) : EV → V → Prop
  | .dat d, v => Rep L H d v
  | .fl xs, v => ∃ p vs, v = .ref p ∧ H0 p = none ∧ H p = some (.lst vs) ∧ p ∉ L ∧ Reps L H xs vs
abbrev Sd := List (Option D)
abbrev Mem := List MO
abbrev FE := Sd → Mem → Option (EV × Mem)
abbrev FD := Sd → Mem → Option (D × Mem)
abbrev FT := Sd → Mem → Option (Bool × Mem)
abbrev FA := Sd → Mem → Option (List D × Mem)

theorem Stp.out {L L' : List Addr} {H H' : Hp} (s : Stp L H L' H') {p : Addr} {o : HO} (h : H p = some o) (hp : p ∉ L) : p ∉ L' := fun z => by
  rcases s.new p z with q | q
  · exact hp q
  · rw [h] at q; cases q
theorem RepE.stp {H0 : Hp} {L L' : List Addr} {H H' : Hp} (s : Stp L H L' H') {e : EV} {v : V} (h : RepE H0 L H e v) : RepE H0 L' H' e v := by
  cases e with
  | dat d => exact Rep.stp s h
  | fl xs =>
    obtain ⟨p, vs, rfl, e0, e1, e2, r⟩ := h
    exact ⟨p, vs, rfl, e0, s.old p _ e1 e2, s.out e1 e2, r.stp s⟩
/-- a value that is new later was new before -/
theorem RepE.back {H0 H1 : Hp} {L0 L1 L : List Addr} {H : Hp} (s : Stp L0 H0 L1 H1) {M : List MO} {K : PySem.W.Frag} (c : Cor K L0 M H0) {e : EV} {v : V} (h : RepE H1 L H e v) (hL : ∀ a ∈ L1, a ∈ L) : RepE H0 L H e v := by
  cases e with
  | dat d => exact h
  | fl xs =>
    obtain ⟨p, vs, rfl, e0, e1, e2, r⟩ := h
    refine ⟨p, vs, rfl, ?_, e1, e2, r⟩
    cases q : H0 p with
    | none => rfl
    | some o =>
      by_cases hp : p ∈ L0
      · obtain ⟨N, hN⟩ := s.pre
        exact absurd (hL p (by rw [hN]; exact List.mem_append_left _ hp)) e2
      · rw [s.old p o q hp] at e0; cases e0

section
variable (K : PySem.W.Frag)
def trE (f : FE) : TE := fun τ H Q => ∃ L σ M d M', Cor K L M H ∧ RepS L H σ τ ∧ f σ M = some (d, M') ∧ ∀ L' H' v, Stp L H L' H' → Cor K L' M' H' → RepE H L' H' d v → Q v H'
def trD (f : FD) : TE := fun τ H Q => ∃ L σ M d M', Cor K L M H ∧ RepS L H σ τ ∧ f σ M = some (d, M') ∧ ∀ L' H' v, Stp L H L' H' → Cor K L' M' H' → Rep L' H' d v → Q v H'
def trT (f : FT) : TT := fun τ H Q => ∃ L σ M d M', Cor K L M H ∧ RepS L H σ τ ∧ f σ M = some (d, M') ∧ ∀ L' H', Stp L H L' H' → Cor K L' M' H' → Q d H'
def trA (f : FA) : TA := fun τ H Q => ∃ L σ M ds M', Cor K L M H ∧ RepS L H σ τ ∧ f σ M = some (ds, M') ∧ ∀ L' H' vs, Stp L H L' H' → Cor K L' M' H' → Reps L' H' ds vs → Q vs H'
end
section
variable {X : Cx} {e : Expr}
theorem PE.imp {t t' : TE} (h : PE X e t) (hi : ∀ τ H Q, t' τ H Q → t τ H Q) : PE X e t' := fun pins s σ H Q I q => h pins s σ H Q I (hi _ _ _ q)
theorem PT.imp {t t' : TT} (h : PT X e t) (hi : ∀ τ H Q, t' τ H Q → t τ H Q) : PT X e t' := fun pins s σ H Q I q => h pins s σ H Q I (hi _ _ _ q)
theorem PS.imp {st : Stmt} {t t' : TS} (h : PS X st t) (hi : ∀ D τ H, t' D τ H → t D τ H) : PS X st t' := fun pins s σ H D I q => h pins s σ H D I (hi _ _ _ q)
theorem PSs.imp {st : List Stmt} {t t' : TS} (h : PSs X st t) (hi : ∀ D τ H, t' D τ H → t D τ H) : PSs X st t' := fun pins s σ H D I q => h pins s σ H D I (hi _ _ _ q)

structure QE (X : Cx) (e : Expr) (f : FE) : Prop where
  un : PE X e (trE X.K f)
structure QD (X : Cx) (e : Expr) (f : FD) : Prop where
  un : PE X e (trD X.K f)
structure QT (X : Cx) (e : Expr) (f : FT) : Prop where
  un : PT X e (trT X.K f)
structure QA (X : Cx) (es : List Expr) (f : FA) : Prop where
  un : PA X es (trA X.K f)

/-- data out of a value: a new list gets its number -/
def toD (f : FE) : FD := fun σ M => match f σ M with
  | some (.dat d, M') => some (d, M')
  | some (.fl xs, M') => some (.ref M'.length, M' ++ [.lst xs])
  | none => none
mutual
theorem Rep.more {L : List Addr} {H : Hp} (N : List Addr) : ∀ {d : D} {v : V}, Rep L H d v → Rep (L ++ N) H d v
  | .non, _, h => by unfold Rep at h ⊢; exact h
  | .bl _, _, h => by unfold Rep at h ⊢; exact h
  | .int _, _, h => by unfold Rep at h ⊢; exact h
  | .str _, _, h => by unfold Rep at h ⊢; exact h
  | .tup ds, _, h => by
    unfold Rep at h ⊢
    obtain ⟨a, vs, rfl, e, r⟩ := h
    exact ⟨a, vs, rfl, e, Reps.more N r⟩
  | .ref n, _, h => by
    unfold Rep at h ⊢
    obtain ⟨a, rfl, e⟩ := h
    exact ⟨a, rfl, pre_get e⟩
theorem Reps.more {L : List Addr} {H : Hp} (N : List Addr) : ∀ {ds : List D} {vs : List V}, Reps L H ds vs → Reps (L ++ N) H ds vs
  | [], _, h => by unfold Reps at h ⊢; exact h
  | d :: ds, _, h => by
    unfold Reps at h ⊢
    obtain ⟨v, r, rfl, h1, h2⟩ := h
    exact ⟨v, r, rfl, Rep.more N h1, Reps.more N h2⟩
end
theorem DRep.more {κ : Type} {kf : D → Option κ} {L : List Addr} {H : Hp} (N : List Addr) : ∀ {ps : List (D × D)} {vs : List (κ × V)}, DRep kf L H ps vs → DRep kf (L ++ N) H ps vs
  | [], _, h => h
  | p :: r, _, h => by
    obtain ⟨k, v, r', rfl, e, h1, h2⟩ := h
    exact ⟨k, v, r', rfl, e, h1.more N, DRep.more N h2⟩
theorem MRep.more {K : PySem.W.Frag} {L : List Addr} {H : Hp} {a : Addr} {m : MO} (N : List Addr) (h : MRep K L H a m) : MRep K (L ++ N) H a m := by
  cases m with
  | lst xs => obtain ⟨vs, e, r⟩ := h; exact ⟨vs, e, r.more N⟩
  | fro xs => obtain ⟨o, vs, e, r⟩ := h; exact ⟨o, vs, e, r.more N⟩
  | dict ps => obtain ⟨vs, e, r⟩ := h; exact ⟨vs, e, r.more N⟩
  | dicT ps => obtain ⟨vs, e, r⟩ := h; exact ⟨vs, e, r.more N⟩
  | set _ => exact h.elim
/-- a list that nothing else knows gets its number -/
theorem track {K : PySem.W.Frag} {L L' : List Addr} {M' : List MO} {H H' : Hp} {p : Addr} {xs : List D} {vs : List V} (s : Stp L H L' H') (c : Cor K L' M' H') (h0 : H p = none) (h1 : H' p = some (.lst vs)) (h2 : p ∉ L') (r : Reps L' H' xs vs) :
    Cor K (L' ++ [p]) (M' ++ [.lst xs]) H' ∧ Stp L H (L' ++ [p]) H' := by
  refine ⟨⟨by simp [c.len], ?_, fun n a m e1 e2 => ?_⟩, ?_⟩
  · rw [List.nodup_append]
    exact ⟨c.nd, by simp, fun a ha b hb z => by
      have : b = p := by simpa using hb
      subst this; subst z; exact h2 ha⟩
  · by_cases hn : n < L'.length
    · rw [List.getElem?_append_left hn] at e1
      rw [List.getElem?_append_left (by rw [← c.len]; exact hn)] at e2
      exact (c.obj n a m e1 e2).more [p]
    · have hn' : n = L'.length := by
        have := (List.getElem?_eq_some_iff.mp e1).1
        rw [List.length_append] at this
        simp at this; omega
      subst hn'
      simp at e1
      rw [c.len] at e2
      simp at e2
      subst e1; subst e2
      exact ⟨vs, h1, r.more [p]⟩
  · obtain ⟨N, hN⟩ := s.pre
    refine ⟨⟨N ++ [p], by rw [hN]; simp⟩, fun a ha => ?_, s.old, s.tup, s.frz⟩
    rcases List.mem_append.mp ha with z | z
    · exact s.new a z
    · have : a = p := by simpa using z
      subst this; exact .inr h0
theorem Rep.last {L : List Addr} {M : List MO} {H : Hp} {K : PySem.W.Frag} {p : Addr} (c : Cor K L M H) : Rep (L ++ [p]) H (.ref M.length) (.ref p) := by
  unfold Rep
  exact ⟨p, rfl, by rw [← c.len]; simp⟩
theorem q_toD {f : FE} (h : QE X e f) : QD X e (toD f) := .mk <| PE.imp h.un fun τ H Q ⟨L, σ, M, d, M', c, rs, hf, q⟩ => by
  unfold toD at hf
  split at hf
  · rename_i d' M1 e1
    cases hf
    exact ⟨L, σ, M, _, _, c, rs, e1, fun L' H' v s c' r => q L' H' v s c' r⟩
  · rename_i xs M1 e1
    cases hf
    refine ⟨L, σ, M, _, _, c, rs, e1, fun L' H' v s c' r => ?_⟩
    obtain ⟨p, vs, rfl, e0, e2, e3, r⟩ := r
    obtain ⟨c2, s2⟩ := track s c' e0 e2 e3 r
    exact q _ H' _ s2 c2 (Rep.last c')
  · cases hf
def fVar (i : Nat) : FE := fun σ M => match σ[i]? with
  | some (some d) => some (.dat d, M)
  | _ => none
theorem q_var {i : Nat} {x : Str} {pos : Pos} (h : PE X (.Name x pos) (tVar i)) : QE X (.Name x pos) (fVar i) := .mk <| PE.imp h fun τ H Q ⟨L, σ, M, d, M', c, rs, hf, q⟩ => by
  unfold fVar at hf
  split at hf
  · rename_i d' e1
    cases hf
    obtain ⟨v, e2, r⟩ := rs.2 i d' e1
    exact ⟨v, e2, q L H v (.refl L H) c r⟩
  · cases hf
def fC (d : D) : FE := fun _ M => some (.dat d, M)
theorem q_const {v : V} {d : D} (hd : ∀ L H, Rep L H d v) (h : PE X e (tC v)) : QE X e (fC d) := .mk <| PE.imp h fun τ H Q ⟨L, σ, M, d', M', c, rs, hf, q⟩ => by
  unfold fC at hf
  cases hf
  exact q L H v (.refl L H) c (hd L H)
theorem q_int {i j pos} : QE X (.Constant (.int i) j pos) (fC (.int i)) := q_const (fun _ _ => by unfold Rep; rfl) pe_int
theorem q_bl {b j pos} : QE X (.Constant (.bool b) j pos) (fC (.bl b)) := q_const (fun _ _ => by unfold Rep; rfl) pe_bl
theorem q_str {x j pos} : QE X (.Constant (.str x) j pos) (fC (.str x)) := q_const (fun _ _ => by unfold Rep; rfl) pe_str

def aNil : FA := fun _ M => some ([], M)
def aCons (f : FD) (g : FA) : FA := fun σ M => match f σ M with
  | some (d, M1) => match g σ M1 with
    | some (ds, M2) => some (d :: ds, M2)
    | none => none
  | none => none
theorem PA.imp {es : List Expr} {t t' : TA} (h : PA X es t) (hi : ∀ τ H Q, t' τ H Q → t τ H Q) : PA X es t' := fun pos pins s σ H Q I q => h pos pins s σ H Q I (hi _ _ _ q)
theorem qa_nil : QA X [] aNil := .mk <| PA.imp pa_nil fun τ H Q ⟨L, σ, M, d, M', c, rs, hf, q⟩ => by
  unfold aNil at hf
  cases hf
  exact q L H [] (.refl L H) c .nil
theorem qa_cons {es : List Expr} {f : FD} {g : FA} (h1 : QD X e f) (h2 : QA X es g) (hs : starEach (e :: es) X.env = (false, eval e X.env) :: starEach es X.env := by rfl) : QA X (e :: es) (aCons f g) := 
  .mk <| PA.imp (pa_cons h1.un h2.un hs) fun τ H Q ⟨L, σ, M, d, M', c, rs, hf, q⟩ => by
    unfold aCons at hf
    split at hf
    · rename_i d1 M1 e1
      split at hf
      · rename_i ds M2 e2
        cases hf
        refine ⟨L, σ, M, _, _, c, rs, e1, fun L1 H1 v s1 c1 r1 => ⟨L1, σ, M1, _, _, c1, rs.stp s1, e2, fun L2 H2 vs s2 c2 r2 => ?_⟩⟩
        exact q L2 H2 _ (s1.trans s2) c2 (.cons (r1.stp s2) r2)
      · cases hf
    · cases hf
def fTup (g : FA) : FE := fun σ M => match g σ M with
  | some (ds, M1) => if ds.length ≤ sizeLine then some (.dat (.tup ds), M1) else none
  | none => none
def fLst (g : FA) : FE := fun σ M => match g σ M with
  | some (ds, M1) => if ds.length ≤ sizeLine then some (.fl ds, M1) else none
  | none => none
theorem Rep.newTup {L : List Addr} {H : Hp} {p : Addr} {ds : List D} {vs : List V} (h : H p = none) (r : Reps L H ds vs) : Rep L (upd H p (.tup vs)) (.tup ds) (.ref p) := by
  unfold Rep
  exact ⟨p, vs, rfl, upd_same, r.stp (.upd h)⟩
theorem q_tup {es : List Expr} {g : FA} {x1 pos} (h : QA X es g) : QE X (.Tuple es x1 pos) (fTup g) := .mk <| PE.imp (pe_tup h.un) fun τ H Q ⟨L, σ, M, d, M', c, rs, hf, q⟩ => by
  unfold fTup at hf
  split at hf
  · rename_i ds M1 e1
    split at hf
    · rename_i hz
      cases hf
      refine ⟨L, σ, M, _, _, c, rs, e1, fun L1 H1 vs s1 c1 r1 => ⟨by rw [r1.length]; exact hz, fun p hp => ?_⟩⟩
      exact q L1 _ _ (s1.trans (.upd hp)) (c1.upd hp) (Rep.newTup hp r1)
    · cases hf
  · cases hf
theorem none_back {L L1 : List Addr} {H H1 : Hp} {K : PySem.W.Frag} {M M1 : List MO} (s : Stp L H L1 H1) (c : Cor K L M H) (c1 : Cor K L1 M1 H1) {p : Addr} (hp : H1 p = none) : H p = none ∧ p ∉ L1 := by
  have hp1 : p ∉ L1 := fun z => by obtain ⟨o, e⟩ := c1.tracked z; rw [hp] at e; cases e
  refine ⟨?_, hp1⟩
  cases q : H p with
  | none => rfl
  | some o =>
    have : p ∉ L := fun z => hp1 (by obtain ⟨N, hN⟩ := s.pre; rw [hN]; exact List.mem_append_left _ z)
    rw [s.old p o q this] at hp; cases hp
/-- a new list that nothing knows -/
theorem RepE.newLst {L L1 : List Addr} {H H1 : Hp} {K : PySem.W.Frag} {M M1 : List MO} {p : Addr} {ds : List D} {vs : List V} (s : Stp L H L1 H1) (c : Cor K L M H) (c1 : Cor K L1 M1 H1) (hp : H1 p = none) (r : Reps L1 H1 ds vs) :
    RepE H L1 (upd H1 p (.lst vs)) (.fl ds) (.ref p) := by
  obtain ⟨a, b⟩ := none_back s c c1 hp
  exact ⟨p, vs, rfl, a, upd_same, b, r.stp (.upd hp)⟩
theorem q_lst {es : List Expr} {g : FA} {pos} (h : QA X es g) : QE X (.List es pos) (fLst g) := .mk <| PE.imp (pe_lst h.un) fun τ H Q ⟨L, σ, M, d, M', c, rs, hf, q⟩ => by
  unfold fLst at hf
  split at hf
  · rename_i ds M1 e1
    split at hf
    · rename_i hz
      cases hf
      refine ⟨L, σ, M, _, _, c, rs, e1, fun L1 H1 vs s1 c1 r1 => ⟨by rw [r1.length]; exact hz, fun p hp => ?_⟩⟩
      exact q L1 _ _ (s1.trans (.upd hp)) (c1.upd hp) (RepE.newLst s1 c c1 hp r1)
    · cases hf
  · cases hf
end
end L3

set_option Elab.async false
set_option linter.all false
set_option maxRecDepth 100000
namespace L3
open PySem PySem.Spec PyProof.Rows L2
abbrev FAE := Sd → Mem → Option (List EV × Mem)
def RepEs (H0 : Hp) (L : List Addr) (H : Hp) : List EV → List V → Prop
  | [], vs => vs = []
  | e :: es, vs => ∃ v r, vs = v :: r ∧ RepE H0 L H e v ∧ RepEs H0 L H es r
theorem Stp.sub {L L' : List Addr} {H H' : Hp} (s : Stp L H L' H') : ∀ a ∈ L, a ∈ L' := fun a h => by
  obtain ⟨N, hN⟩ := s.pre
  rw [hN]; exact List.mem_append_left _ h
theorem RepEs.stp {H0 : Hp} {L L' : List Addr} {H H' : Hp} (s : Stp L H L' H') : ∀ {es : List EV} {vs : List V}, RepEs H0 L H es vs → RepEs H0 L' H' es vs
  | [], _, h => h
  | e :: es, _, h => by
    obtain ⟨v, r, rfl, h1, h2⟩ := h
    exact ⟨v, r, rfl, h1.stp s, RepEs.stp s h2⟩
theorem RepEs.back {H0 H1 : Hp} {L0 L1 L : List Addr} {H : Hp} (s : Stp L0 H0 L1 H1) {M : List MO} {K : PySem.W.Frag} (c : Cor K L0 M H0) (hL : ∀ a ∈ L1, a ∈ L) : ∀ {es : List EV} {vs : List V}, RepEs H1 L H es vs → RepEs H0 L H es vs
  | [], _, h => h
  | e :: es, _, h => by
    obtain ⟨v, r, rfl, h1, h2⟩ := h
    exact ⟨v, r, rfl, h1.back s c hL, RepEs.back s c hL h2⟩
def trAE (K : PySem.W.Frag) (f : FAE) : TA := fun τ H Q => ∃ L σ M ds M', Cor K L M H ∧ RepS L H σ τ ∧ f σ M = some (ds, M') ∧ ∀ L' H' vs, Stp L H L' H' → Cor K L' M' H' → RepEs H L' H' ds vs → Q vs H'
structure QAE (X : Cx) (es : List Expr) (f : FAE) : Prop where
  un : PA X es (trAE X.K f)
section
variable {X : Cx} {a b e : Expr} {es : List Expr} {pos : Pos}
def eNil : FAE := fun _ M => some ([], M)
def eCons (f : FE) (g : FAE) : FAE := fun σ M => match f σ M with
  | some (d, M1) => match g σ M1 with
    | some (ds, M2) => some (d :: ds, M2)
    | none => none
  | none => none
theorem qe_nil : QAE X [] eNil := .mk <| PA.imp pa_nil fun τ H Q ⟨L, σ, M, d, M', c, rs, hf, q⟩ => by
  unfold eNil at hf
  cases hf
  exact q L H [] (.refl L H) c rfl
theorem qe_cons {f : FE} {g : FAE} (h1 : QE X e f) (h2 : QAE X es g) (hs : starEach (e :: es) X.env = (false, eval e X.env) :: starEach es X.env := by rfl) : QAE X (e :: es) (eCons f g) := 
  .mk <| PA.imp (pa_cons h1.un h2.un hs) fun τ H Q ⟨L, σ, M, d, M', c, rs, hf, q⟩ => by
    unfold eCons at hf
    split at hf
    · rename_i d1 M1 e1
      split at hf
      · rename_i ds M2 e2
        cases hf
        refine ⟨L, σ, M, _, _, c, rs, e1, fun L1 H1 v s1 c1 r1 => ⟨L1, σ, M1, _, _, c1, rs.stp s1, e2, fun L2 H2 vs s2 c2 r2 => ?_⟩⟩
        exact q L2 H2 _ (s1.trans s2) c2 ⟨v, vs, rfl, r1.stp s2, r2.back s1 c s2.sub⟩
      · cases hf
    · cases hf

/-- a two-place rule as a function of values -/
abbrev K2 := EV → EV → Mem → Option (EV × Mem)
def Ker2 (K : PySem.W.Frag) (r : R2) (k : K2) : Prop := ∀ {L : List Addr} {M M' : Mem} {H H0 : Hp} {x y d : EV} {v w : V} {Q : VK}, Cor K L M H → RepE H0 L H x v → RepE H0 L H y w → k x y M = some (d, M') →
  (∀ L' H' u, Stp L H L' H' → Cor K L' M' H' → RepE H L' H' d u → Q u H') → r v w H Q
def fOp (k : K2) (f g : FE) : FE := fun σ M => match f σ M with
  | some (x, M1) => match g σ M1 with
    | some (y, M2) => k x y M2
    | none => none
  | none => none
theorem op_read {K : PySem.W.Frag} {r : R2} {k : K2} {f g : FE} (hk : Ker2 K r k) {τ : Sv} {H : Hp} {Q : VK} (h : trE K (fOp k f g) τ H Q) : tOp r (trE K f) (trE K g) τ H Q := by
  obtain ⟨L, σ, M, d, M', c, rs, hf, q⟩ := h
  unfold fOp at hf
  split at hf
  · rename_i x M1 e1
    split at hf
    · rename_i y M2 e2
      refine ⟨L, σ, M, _, _, c, rs, e1, fun L1 H1 v s1 c1 r1 => ⟨L1, σ, M1, _, _, c1, rs.stp s1, e2, fun L2 H2 w s2 c2 r2 => ?_⟩⟩
      refine hk (H0 := H) c2 (r1.stp s2) (r2.back s1 c s2.sub) hf fun L3 H3 u s3 c3 r3 => ?_
      exact q L3 H3 u ((s1.trans s2).trans s3) c3 (r3.back (s1.trans s2) c s3.sub)
    · cases hf
  · cases hf
theorem q_op {op : Operator} {r : R2} {k : K2} {f g : FE} (hk : Ker2 X.K r k) (ho : OpR X (binaryOp op) r) (h1 : QE X a f) (h2 : QE X b g) : QE X (.BinOp a op b pos) (fOp k f g) := .mk <| PE.imp (pe_op ho h1.un h2.un) fun _ _ _ h => op_read hk h
theorem q_cmp {op : CmpOp} {r : R2} {k : K2} {f g : FE} (hk : Ker2 X.K r k) (ho : OpR X (compareOp op) r) (h1 : QE X a f) (h2 : QE X b g) (hm : behindInMarks op b = false) : QE X (.Compare a [op] [b] pos) (fOp k f g) := 
  .mk <| PE.imp (pe_cmpR ho h1.un h2.un hm) fun _ _ _ h => op_read hk h
/-- a rule's answer is a truth -/
def tst (f : FE) : FT := fun σ M => match f σ M with
  | some (.dat (.bl c), M') => some (c, M')
  | _ => none
theorem test_read {K : PySem.W.Frag} {f : FE} {τ : Sv} {H : Hp} {Q : Bool → Hp → Prop} (h : trT K (tst f) τ H Q) : tTest (trE K f) τ H Q := by
  obtain ⟨L, σ, M, d, M', c, rs, hf, q⟩ := h
  unfold tst at hf
  split at hf
  · rename_i k M1 e1
    cases hf
    refine ⟨L, σ, M, _, _, c, rs, e1, fun L1 H1 v s1 c1 r1 => ?_⟩
    have : v = .bl d := by unfold RepE Rep at r1; exact r1
    exact ⟨d, this, q L1 H1 s1 c1⟩
  · cases hf
theorem tTest_mono {t t' : TE} (h : ∀ τ H Q, t τ H Q → t' τ H Q) {τ : Sv} {H : Hp} {Q : Bool → Hp → Prop} (q : tTest t τ H Q) : tTest t' τ H Q := h _ _ _ q
theorem q_tcmp {op : CmpOp} {r : R2} {k : K2} {f g : FE} (hk : Ker2 X.K r k) (ho : OpR X (compareOp op) r) (h1 : QE X a f) (h2 : QE X b g) (hm : behindInMarks op b = false) : QT X (.Compare a [op] [b] pos) (tst (fOp k f g)) := 
  .mk <| PT.imp (pt_cmpR ho h1.un h2.un hm) fun _ _ _ h => tTest_mono (fun _ _ _ z => op_read hk z) (test_read h)
/-- any expression whose value is a truth, as a test -/
theorem q_tval {f : FE} (h : QE X e f) (he : ∀ whole, isTrue e X.env whole = (do let v ← whole; standAt e.pos; holding [v] (truthy v)) := by intro _; rfl) : QT X e (tst f) := 
  .mk <| PT.imp (pt_val h.un he) fun _ _ _ h => test_read h

def kI (C : Int → Int → Bool) (g : Int → Int → D) : K2 := fun x y M => match x, y with
  | .dat (.int i), .dat (.int j) => if C i j then some (.dat (g i j), M) else none
  | _, _ => none
def kI0 (g : Int → Int → D) : K2 := kI (fun _ _ => true) g
theorem ker_I {K : PySem.W.Frag} {C : Int → Int → Bool} {C' : Int → Int → Prop} {g : Int → Int → D} {g' : Int → Int → V} (hC : ∀ i j, C i j = true → C' i j) (hg : ∀ L H i j, Rep L H (g i j) (g' i j)) : Ker2 K (rI C' g') (kI C g) := by
  intro L M M' H H0 x y d v w Q c rx ry hk q
  unfold kI at hk
  split at hk
  · rename_i i j
    split at hk
    · rename_i hc
      cases hk
      refine ⟨i, j, by unfold RepE Rep at rx; exact rx, by unfold RepE Rep at ry; exact ry, hC i j hc, q L H _ (.refl L H) c (hg L H i j)⟩
    · cases hk
  · cases hk
theorem ker_I0 {K : PySem.W.Frag} {g : Int → Int → D} {g' : Int → Int → V} (hg : ∀ L H i j, Rep L H (g i j) (g' i j)) : Ker2 K (rI0 g') (kI0 g) := by
  intro L M M' H H0 x y d v w Q c rx ry hk q
  obtain ⟨i, j, h1, h2, _, h4⟩ := ker_I (C := fun _ _ => true) (C' := fun _ _ => True) (fun _ _ _ => trivial) hg c rx ry hk q
  exact ⟨i, j, h1, h2, h4⟩
theorem rep_int {L : List Addr} {H : Hp} {i : Int} : Rep L H (.int i) (.int i) := by unfold Rep; rfl
theorem rep_bl {L : List Addr} {H : Hp} {i : Bool} : Rep L H (.bl i) (.bl i) := by unfold Rep; rfl
def cMul (i j : Int) : Bool := (decide (-(2 ^ 64) < i) && decide (i < 2 ^ 64)) || (decide (-(2 ^ 64) < j) && decide (j < 2 ^ 64))
abbrev kAdd : K2 := kI0 fun i j => .int (i + j)
abbrev kSub : K2 := kI0 fun i j => .int (i - j)
abbrev kMul : K2 := kI cMul fun i j => .int (i * j)
abbrev kMod : K2 := kI (fun _ j => decide (0 < j)) fun i j => .int (i % j)
abbrev kDiv : K2 := kI (fun _ j => decide (0 < j) && decide (j < 1073741824)) fun i j => .int (i / j)
abbrev kPow : K2 := kI (fun i j => decide (0 ≤ j) && decide (j ≤ 1000000) && decide (i.natAbs < 2 ^ 64)) fun i j => .int (i ^ j.toNat)
abbrev kLt : K2 := kI0 fun i j => .bl (decide (i < j))
abbrev kLe : K2 := kI0 fun i j => .bl (decide (i ≤ j))
abbrev kGe : K2 := kI0 fun i j => .bl (decide (j ≤ i))
section
variable {f g : FE}
theorem q_sub (h1 : QE X a f) (h2 : QE X b g) : QE X (.BinOp a .Sub b pos) (fOp kSub f g) := q_op (ker_I0 fun _ _ _ _ => rep_int) op_sub h1 h2
theorem q_mul (h1 : QE X a f) (h2 : QE X b g) : QE X (.BinOp a .Mult b pos) (fOp kMul f g) := q_op (ker_I (fun i j h => by
  unfold cMul at h
  simp only [Bool.or_eq_true, Bool.and_eq_true, decide_eq_true_eq] at h
  exact h) fun _ _ _ _ => rep_int) op_mul h1 h2
theorem q_mod (h1 : QE X a f) (h2 : QE X b g) : QE X (.BinOp a .Mod b pos) (fOp kMod f g) := q_op (ker_I (fun i j h => of_decide_eq_true h) fun _ _ _ _ => rep_int) op_mod h1 h2
theorem q_div (h1 : QE X a f) (h2 : QE X b g) : QE X (.BinOp a .FloorDiv b pos) (fOp kDiv f g) := q_op (ker_I (fun i j h => by
  simp only [Bool.and_eq_true, decide_eq_true_eq] at h
  exact h) fun _ _ _ _ => rep_int) op_fdiv h1 h2
theorem q_pow (h1 : QE X a f) (h2 : QE X b g) : QE X (.BinOp a .Pow b pos) (fOp kPow f g) := q_op (ker_I (fun i j h => by
  simp only [Bool.and_eq_true, decide_eq_true_eq] at h
  exact ⟨h.1.1, h.1.2, h.2⟩) fun _ _ _ _ => rep_int) op_pow h1 h2
theorem q_tlt (h1 : QE X a f) (h2 : QE X b g) : QT X (.Compare a [.Lt] [b] pos) (tst (fOp kLt f g)) := q_tcmp (ker_I0 fun _ _ _ _ => rep_bl) op_lt h1 h2 (nomark _)
theorem q_tle (h1 : QE X a f) (h2 : QE X b g) : QT X (.Compare a [.LtE] [b] pos) (tst (fOp kLe f g)) := q_tcmp (ker_I0 fun _ _ _ _ => rep_bl) op_le h1 h2 (nomark _)
theorem q_tge (h1 : QE X a f) (h2 : QE X b g) : QT X (.Compare a [.GtE] [b] pos) (tst (fOp kGe f g)) := q_tcmp (ker_I0 fun _ _ _ _ => rep_bl) op_ge h1 h2 (nomark _)
end
end
end L3

set_option Elab.async false
set_option linter.all false
set_option maxRecDepth 100000
namespace L3
open PySem PySem.Spec PyProof.Rows L2
def lstOf (M : Mem) : EV → Option (List D)
  | .fl xs => some xs
  | .dat (.ref n) => match M[n]? with
    | some (.lst xs) => some xs
    | some (.fro xs) => some xs
    | _ => none
  | _ => none
def tupOf : EV → Option (List D)
  | .dat (.tup xs) => some xs
  | _ => none
def seqOf (M : Mem) (x : EV) : Option (List D) := match tupOf x with
  | some xs => some xs
  | none => lstOf M x
theorem lst_rep {K : PySem.W.Frag} {L : List Addr} {M : Mem} {H H0 : Hp} {x : EV} {v : V} {xs : List D} (c : Cor K L M H) (r : RepE H0 L H x v) (h : lstOf M x = some xs) : ∃ a vs, v = .ref a ∧ Rd H a (.lst vs) ∧ Reps L H xs vs := by
  cases x with
  | fl ys =>
    cases h
    obtain ⟨p, vs, rfl, _, e, _, r⟩ := r
    exact ⟨p, vs, rfl, .inl e, r⟩
  | dat d =>
    cases d with
    | ref n =>
      unfold RepE Rep at r
      obtain ⟨a, rfl, e⟩ := r
      unfold lstOf at h
      dsimp only at h
      cases q : M[n]? with
      | none => rw [q] at h; cases h
      | some m =>
        rw [q] at h
        have z := c.obj n a m e q
        cases m with
        | lst ys => cases h; obtain ⟨vs, e1, r1⟩ := z; exact ⟨a, vs, rfl, .inl e1, r1⟩
        | fro ys => cases h; obtain ⟨o, vs, e1, r1⟩ := z; exact ⟨a, vs, rfl, .inr ⟨o, e1⟩, r1⟩
        | dict _ => cases h
        | dicT _ => cases h
        | set _ => cases h
    | _ => cases h
theorem tup_rep {L : List Addr} {H H0 : Hp} {x : EV} {v : V} {xs : List D} (r : RepE H0 L H x v) (h : tupOf x = some xs) : ∃ a vs, v = .ref a ∧ H a = some (.tup vs) ∧ Reps L H xs vs := by
  cases x with
  | fl ys => cases h
  | dat d =>
    cases d with
    | tup ys => cases h; unfold RepE Rep at r; exact r
    | _ => cases h
theorem seq_rep {K : PySem.W.Frag} {L : List Addr} {M : Mem} {H H0 : Hp} {x : EV} {v : V} {xs : List D} (c : Cor K L M H) (r : RepE H0 L H x v) (h : seqOf M x = some xs) : ∃ a vs, v = .ref a ∧ (SqL K H a vs ∨ SqT K H a vs) ∧ Reps L H xs vs := by
  unfold seqOf at h
  cases q : tupOf x with
  | some ys =>
    rw [q] at h; cases h
    obtain ⟨a, vs, e, h1, h2⟩ := tup_rep r q
    exact ⟨a, vs, e, .inr (.of h1), h2⟩
  | none =>
    rw [q] at h
    obtain ⟨a, vs, e, h1, h2⟩ := lst_rep c r h
    exact ⟨a, vs, e, .inl (.inl h1), h2⟩
theorem at_rep {L : List Addr} {H : Hp} {xs : List D} {vs : List V} {i : Int} {d : D} (r : Reps L H xs vs) (h : atI xs i = some d) : ∃ v, atI vs i = some v ∧ Rep L H d v := by
  unfold atI at h ⊢
  rw [r.length]
  cases q : ixN xs.length i with
  | none => rw [q] at h; cases h
  | some j => rw [q] at h; exact r.get h
theorem rep_str {L : List Addr} {H : Hp} {i : Str} : Rep L H (.str i) (.str i) := by unfold Rep; rfl

def kIx : K2 := fun x y M => match y with
  | .dat (.int i) => match seqOf M x with
    | some xs => match atI xs i with
      | some d => some (.dat d, M)
      | none => none
    | none => match x with
      | .dat (.str z) => if z.length ≤ sizeLine then match atI z.cps.toList i with
          | some c => some (.dat (.str ⟨#[c]⟩), M)
          | none => none
        else none
      | _ => none
  | _ => none
theorem ker_ix {K : PySem.W.Frag} : Ker2 K (rIx K) kIx := by
  intro L M M' H H0 x y d v w Q c rx ry hk q
  unfold kIx at hk
  split at hk
  · rename_i i
    have ew : w = .int i := by unfold RepE Rep at ry; exact ry
    split at hk
    · rename_i xs e1
      split at hk
      · rename_i d' e2
        cases hk
        obtain ⟨a, vs, rfl, hs, r⟩ := seq_rep c rx e1
        obtain ⟨u, e3, r3⟩ := at_rep r e2
        rcases hs with hs | hs
        · exact .inl ⟨a, vs, i, u, rfl, ew, hs, e3, q L H u (.refl L H) c r3⟩
        · exact .inr (.inl ⟨a, vs, i, u, rfl, ew, hs, e3, q L H u (.refl L H) c r3⟩)
      · cases hk
    · split at hk
      · rename_i z _
        split at hk
        · rename_i hz
          split at hk
          · rename_i ch e2
            cases hk
            have ev : v = .str z := by unfold RepE Rep at rx; exact rx
            exact .inr (.inr ⟨z, i, ch, ev, ew, hz, e2, q L H _ (.refl L H) c (rep_str (L := L) (H := H))⟩)
          · cases hk
        · cases hk
      · cases hk
  · cases hk
section
variable {prog : Program} {w : World} {A : Around} {E : Value → Shared → Prop} {s : Shared}
theorem getT_whole {t sl : Addr} {items : Array Value} {vl vu : Value} {lo hi : Option Int} {Q : Value → Shared → Prop} (T : IsTup s.heap t items) (S : s.heap.IsSliceOf sl vl vu .none) (pl : IsPart vl lo) (pu : IsPart vu hi)
    (h1 : HT.sIx items.size 0 lo = 0) (h2 : HT.sIx items.size items.size hi = items.size) (h : Q (.ref t) s) : wpAny (model prog w) A (getItem (.ref t) (.ref sl)) Q E s := by
  obtain ⟨o, O, C, G⟩ := id S
  have TS : s.TypeIs (.ref sl) "slice" := ⟨o, O, C⟩
  unfold getItem
  try with_reducible refine wpAny_holding ?_
  first | refine wpAny_bind (wpAny_pure ?_) | skip
  refine wpAny_bind (wpAny_sequenceKey T.typeIs (by decide) ?_)
  refine wpAny_bind (wpAny_callSpecial?_slot (name := Str.ofString "__getitem__") T.typeIs PyProof.Rows.slot_tuple_getitem (wpAny_call_entry PyProof.Rows.slot_tuple_getitem T.typeIs entry_tuple_getitem ?_ (args_tuple_getitem _ _)))
  refine wpAny_bind (m := Builtin.Tuple.tupleItemsOf (.ref t)) (tupleItemsOf_ T (wpAny_bind (wpAny_typeOf TS ?_)))
  rw [if_pos (by decide)]
  refine wpAny_bind (HT.sliceApplied_gen S pl pu ?_)
  rw [h1, h2]
  show wpAny _ _ (if ((((0 : Nat) : Int) == 0 && (1 : Int) == 1 && (items.size - 0) == items.size)) = true then _ else _) _ _ s
  rw [if_pos (by simp)]
  unfold Builtin.Tuple.tupleIsExact
  refine wpAny_bind (wpAny_bind (wpAny_typeOf T.typeIs (wpAny_pure ?_)))
  rw [if_pos (by decide)]
  exact wpAny_bind (wpAny_rule (wpAny_pure ⟨_, rfl, wpAny_pure h⟩))
end
def rSlW (K : PySem.W.Frag) : V → Option Int → Option Int → Hp → VK → Prop := fun x lo hi H Q => ∃ a xs, x = .ref a ∧ SqT K H a xs ∧ (HT.sIx xs.length 0 lo = 0 ∧ HT.sIx xs.length xs.length hi = xs.length) ∧ Q (.ref a) H
theorem sl_tupW {X : Cx} : SlR X (rSlW X.K) := by
  intro pins s σ H x v vl vu lo hi sl Q I rx hs pl pu h
  obtain ⟨a, xs, rfl, hx, hw, q⟩ := h
  cases rx
  obtain ⟨its, r, ht, hz⟩ := I.tuple hx
  have hlen : its.toArray.size = xs.length := by rw [List.size_toArray]; exact r.length.symm
  exact ⟨"tuple", _, PyProof.Rows.slot_tuple_getitem.lookup, ht.typeIs, getT_whole ht hs pl pu (by rw [hlen]; exact hw.1) (by rw [hlen]; exact hw.2) ⟨.ref a, H, I, rfl, q⟩⟩
section
variable {X : Cx} {a b e : Expr} {es : List Expr} {pos : Pos} {f g : FE}
theorem q_ix (h1 : QE X a f) (h2 : QE X b g) (hs : PlainIx b := by intro _ _; rfl) : QE X (.Subscript a b pos) (fOp kIx f g) := .mk <| PE.imp (pe_ix ix_seq h1.un h2.un hs) fun _ _ _ h => op_read ker_ix h

abbrev FO := Sd → Mem → Option (Option Int × Mem)
def trO (K : PySem.W.Frag) (f : FO) : TO := fun τ H Q => ∃ L σ M d M', Cor K L M H ∧ RepS L H σ τ ∧ f σ M = some (d, M') ∧ ∀ L' H', Stp L H L' H' → Cor K L' M' H' → Q d H'
structure QO (X : Cx) (e : Option Expr) (f : FO) : Prop where
  un : PO X e (trO X.K f)
def oNone : FO := fun _ M => some (none, M)
def oSome (f : FE) : FO := fun σ M => match f σ M with
  | some (.dat (.int i), M') => some (some i, M')
  | _ => none
theorem PO.imp {e : Option Expr} {t t' : TO} (h : PO X e t) (hi : ∀ τ H Q, t' τ H Q → t τ H Q) : PO X e t' := fun pins s σ H Q I q => h pins s σ H Q I (hi _ _ _ q)
theorem qo_none : QO X none oNone := .mk <| PO.imp po_none fun τ H Q ⟨L, σ, M, d, M', c, rs, hf, q⟩ => by
  unfold oNone at hf
  cases hf
  exact q L H (.refl L H) c
theorem qo_some (h : QE X e f) : QO X (some e) (oSome f) := .mk <| PO.imp (po_some h.un) fun τ H Q ⟨L, σ, M, d, M', c, rs, hf, q⟩ => by
  unfold oSome at hf
  split at hf
  · rename_i i M1 e1
    cases hf
    refine ⟨L, σ, M, _, _, c, rs, e1, fun L1 H1 v s1 c1 r1 => ?_⟩
    exact ⟨i, by unfold RepE Rep at r1; exact r1, q L1 H1 s1 c1⟩
  · cases hf
def cutD (xs : List D) (lo hi : Option Int) : List D := (xs.drop (HT.sIx xs.length 0 lo)).take (HT.sIx xs.length xs.length hi - HT.sIx xs.length 0 lo)
theorem cut_rep {L : List Addr} {H : Hp} {xs : List D} {vs : List V} {lo hi : Option Int} (r : Reps L H xs vs) : Reps L H (cutD xs lo hi) (cutV vs lo hi) := by
  unfold cutD cutV
  rw [r.length]
  exact (r.drop _).take _
def kSl (x : EV) (lo hi : Option Int) (M : Mem) : Option (EV × Mem) := match tupOf x with
  | some xs => some (.dat (.tup (cutD xs lo hi)), M)
  | none => match lstOf M x with
    | some xs => some (.fl (cutD xs lo hi), M)
    | none => none
def fSl (f : FE) (fl fh : FO) : FE := fun σ M => match f σ M with
  | some (x, M1) => match fl σ M1 with
    | some (lo, M2) => match fh σ M2 with
      | some (hi, M3) => kSl x lo hi M3
      | none => none
    | none => none
  | none => none
theorem q_slice {lo hi : Option Expr} {p2 : Pos} {fl fh : FO} (h : QE X e f) (hl : QO X lo fl) (hh : QO X hi fh) : QE X (.Subscript e (.Slice lo hi none p2) pos) (fSl f fl fh) := 
  .mk <| PE.imp (pe_slice (SlR.or sl_list (SlR.or sl_tup sl_tupW)) h.un hl.un hh.un) fun τ H Q ⟨L, σ, M, d, M', c, rs, hf, q⟩ => by
    unfold fSl at hf
    split at hf
    · rename_i x M1 e1
      split at hf
      · rename_i l M2 e2
        split at hf
        · rename_i u M3 e3
          refine ⟨L, σ, M, _, _, c, rs, e1, fun L1 H1 v s1 c1 r1 => ⟨L1, σ, M1, _, _, c1, rs.stp s1, e2, fun L2 H2 s2 c2 => ⟨L2, σ, M2, _, _, c2, rs.stp (s1.trans s2), e3, fun L3 H3 s3 c3 => ?_⟩⟩⟩
          have s := (s1.trans s2).trans s3
          have r3 : RepE H L3 H3 x v := (r1.stp s2).stp s3
          unfold kSl at hf
          cases t : tupOf x with
          | some xs =>
            rw [t] at hf
            dsimp only at hf
            cases hf
            obtain ⟨a, vs, rfl, e4, r4⟩ := tup_rep r3 t
            by_cases hw : HT.sIx vs.length 0 l = 0 ∧ HT.sIx vs.length vs.length u = vs.length
            · refine .inr (.inr ⟨a, vs, rfl, .of e4, hw, ?_⟩)
              have ec : cutD xs l u = xs := by
                unfold cutD
                rw [← r4.length, hw.1, hw.2, r4.length]
                simp
              rw [ec] at q
              refine q L3 H3 _ s c3 ?_
              unfold RepE Rep
              exact ⟨a, vs, rfl, e4, r4⟩
            · refine .inr (.inl ⟨a, vs, rfl, .of e4, hw, fun p hp => ?_⟩)
              exact q L3 _ _ (s.trans (.upd hp)) (c3.upd hp) (Rep.newTup hp (cut_rep r4))
          | none =>
            rw [t] at hf
            dsimp only at hf
            split at hf
            · rename_i xs e4
              cases hf
              obtain ⟨a, vs, rfl, e5, r5⟩ := lst_rep c3 r3 e4
              refine .inl ⟨a, vs, rfl, .inl e5, fun p hp => ?_⟩
              exact q L3 _ _ (s.trans (.upd hp)) (c3.upd hp) (RepE.newLst s c c3 hp (cut_rep r5))
            · cases hf
        · cases hf
      · cases hf
    · cases hf

abbrev KB := List EV → Mem → Option (EV × Mem)
def KerB (K : PySem.W.Frag) (r : List V → Hp → VK → Prop) (k : KB) : Prop := ∀ {L : List Addr} {M M' : Mem} {H H0 : Hp} {xs : List EV} {d : EV} {vs : List V} {Q : VK}, Cor K L M H → RepEs H0 L H xs vs → k xs M = some (d, M') →
  (∀ L' H' u, Stp L H L' H' → Cor K L' M' H' → RepE H L' H' d u → Q u H') → r vs H Q
def fB (k : KB) (f : FAE) : FE := fun σ M => match f σ M with
  | some (xs, M1) => k xs M1
  | none => none
theorem b_read {K : PySem.W.Frag} {r : List V → Hp → VK → Prop} {k : KB} {f : FAE} (hk : KerB K r k) {τ : Sv} {H : Hp} {Q : VK} (h : trE K (fB k f) τ H Q) : tCB r (trAE K f) τ H Q := by
  obtain ⟨L, σ, M, d, M', c, rs, hf, q⟩ := h
  unfold fB at hf
  split at hf
  · rename_i xs M1 e1
    refine ⟨L, σ, M, _, _, c, rs, e1, fun L1 H1 vs s1 c1 r1 => ?_⟩
    refine hk c1 r1 hf fun L2 H2 u s2 c2 r2 => ?_
    exact q L2 H2 u (s1.trans s2) c2 (r2.back s1 c s2.sub)
  · cases hf
theorem RepEs.one {H0 : Hp} {L : List Addr} {H : Hp} {x : EV} {vs : List V} (h : RepEs H0 L H [x] vs) : ∃ v, vs = [v] ∧ RepE H0 L H x v := by
  obtain ⟨v, r, rfl, h1, h2⟩ := h
  unfold RepEs at h2
  subst h2
  exact ⟨v, rfl, h1⟩
def kLen : KB := fun xs M => match xs with
  | [x] => match seqOf M x with
    | some ys => some (.dat (.int ys.length), M)
    | none => none
  | _ => none
theorem ker_len : KerB X.K (fun xs H Q => ∃ p ys, xs = [.ref p] ∧ (SqL X.K H p ys ∨ SqT X.K H p ys) ∧ Q (.int ys.length) H) kLen := by
  intro L M M' H H0 xs d vs Q c r hk q
  unfold kLen at hk
  split at hk
  · rename_i x
    split at hk
    · rename_i ys e1
      cases hk
      obtain ⟨v, rfl, r1⟩ := r.one
      obtain ⟨a, ws, rfl, hs, r2⟩ := seq_rep c r1 e1
      refine ⟨a, ws, rfl, hs, q L H _ (.refl L H) c ?_⟩
      rw [r2.length]; exact (rep_int (L := L) (H := H))
    · cases hk
  · cases hk
theorem q_callB {x : Str} {p : Pos} {id : String} {r : List V → Hp → VK → Prop} {k : KB} {f : FAE} (hk : KerB X.K r k) (hc : CallR X (.builtin id) r) (hv : bootBuiltins x = some (.builtin id)) (hg : Gl X x) (hm : X.mg x = none) (ha : QAE X (e :: es) f) (hn : x ≠ "__name__" := by decide) (hdb : (x == ("__debug__" : Str)) = false := by decide)
    (he : starEach (e :: es) X.env = (false, eval e X.env) :: starEach es X.env := by rfl) (hpl : (backTo pos (starEach es X.env)).any (·.1) = false := by rfl) : QE X (.Call (.Name x p) (e :: es) [] pos) (fB k f) := 
  .mk <| PE.imp (pe_callB hc hg hm hv ha.un hn hdb he hpl) fun _ _ _ h => b_read hk h
theorem q_callTy {x : Str} {p : Pos} {T : String} {r : List V → Hp → VK → Prop} {k : KB} {f : FAE} (hk : KerB X.K r k) (hc : CallR X (.type T) r) (hv : bootBuiltins x = some (.type T)) (hg : Gl X x) (hm : X.mg x = none) (ha : QAE X (e :: es) f) (hn : x ≠ "__name__" := by decide) (hdb : (x == ("__debug__" : Str)) = false := by decide)
    (he : starEach (e :: es) X.env = (false, eval e X.env) :: starEach es X.env := by rfl) (hpl : (backTo pos (starEach es X.env)).any (·.1) = false := by rfl) : QE X (.Call (.Name x p) (e :: es) [] pos) (fB k f) := 
  .mk <| PE.imp (pe_callTy hc hg hm hv ha.un hn hdb he hpl) fun _ _ _ h => b_read hk h
def kTuple : KB := fun xs M => match xs with
  | [x] => match seqOf M x with
    | some ys => some (.dat (.tup ys), M)
    | none => none
  | _ => none
theorem ker_tuple : KerB X.K (fun xs H Q => ∃ p ys, xs = [.ref p] ∧ ((SqL X.K H p ys ∧ ∀ l, H l = none → Q (.ref l) (upd H l (.tup ys))) ∨ (SqT X.K H p ys ∧ Q (.ref p) H))) kTuple := by
  intro L M M' H H0 xs d vs Q c r hk q
  unfold kTuple at hk
  split at hk
  · rename_i x
    split at hk
    · rename_i ys e1
      cases hk
      obtain ⟨v, rfl, r1⟩ := r.one
      unfold seqOf at e1
      cases t : tupOf x with
      | some zs =>
        rw [t] at e1; cases e1
        obtain ⟨a, ws, rfl, e2, r2⟩ := tup_rep r1 t
        refine ⟨a, ws, rfl, .inr ⟨.of e2, q L H _ (.refl L H) c ?_⟩⟩
        unfold RepE Rep
        exact ⟨a, ws, rfl, e2, r2⟩
      | none =>
        rw [t] at e1
        obtain ⟨a, ws, rfl, e2, r2⟩ := lst_rep c r1 e1
        refine ⟨a, ws, rfl, .inl ⟨.inl e2, fun p hp => ?_⟩⟩
        exact q L _ _ (.upd hp) (c.upd hp) (Rep.newTup hp r2)
    · cases hk
  · cases hk
end
end L3

set_option Elab.async false
set_option linter.all false
set_option maxRecDepth 100000
namespace L3
open PySem PySem.Spec PyProof.Rows L2
inductive Out where
  | nx | ret (d : D) | brk | cnt
abbrev FS := Sd → Mem → Option (Out × Sd × Mem)
def endOf (E : Ends) (L : List Addr) (H : Hp) (σ : Sd) : Out → Prop
  | .nx => ∀ τ, RepS L H σ τ → E.nx τ H
  | .ret d => ∀ v, Rep L H d v → E.rt v H
  | .brk => ∀ τ, RepS L H σ τ → E.bk τ H
  | .cnt => ∀ τ, RepS L H σ τ → E.ct τ H
def trS (K : PySem.W.Frag) (f : FS) : TS := fun E τ H => ∃ L σ M o σ' M', Cor K L M H ∧ RepS L H σ τ ∧ f σ M = some (o, σ', M') ∧ ∀ L' H', Stp L H L' H' → Cor K L' M' H' → endOf E L' H' σ' o
structure QS (X : Cx) (st : Stmt) (f : FS) : Prop where
  un : PS X st (trS X.K f)
structure QSs (X : Cx) (st : List Stmt) (f : FS) : Prop where
  un : PSs X st (trS X.K f)
theorem RepS.set {L : List Addr} {H : Hp} {σ : Sd} {τ : Sv} {i : Nat} {d : D} {v : V} (h : RepS L H σ τ) (r : Rep L H d v) : RepS L H (σ.set i (some d)) (τ.set i (some v)) := by
  refine ⟨by simp [h.1], fun j e q => ?_⟩
  rw [List.getElem?_set] at q ⊢
  split at q
  · rename_i z
    subst z
    split at q
    · rename_i hl
      cases q
      rw [if_pos rfl, if_pos (by rw [h.1]; exact hl)]
      exact ⟨v, rfl, r⟩
    · cases q
  · rename_i z
    rw [if_neg z]
    exact h.2 j e q
theorem toD_read {K : PySem.W.Frag} {f : FE} {τ : Sv} {H : Hp} {Q : VK} (h : trD K (toD f) τ H Q) : trE K f τ H Q := by
  obtain ⟨L, σ, M, d, M', c, rs, hf, q⟩ := h
  unfold toD at hf
  split at hf
  · rename_i d' M1 e1
    cases hf
    exact ⟨L, σ, M, _, _, c, rs, e1, fun L' H' v s c' r => q L' H' v s c' r⟩
  · rename_i xs M1 e1
    cases hf
    refine ⟨L, σ, M, _, _, c, rs, e1, fun L' H' v s c' r => ?_⟩
    obtain ⟨p, vs, rfl, e0, e2, e3, r⟩ := r
    obtain ⟨c2, s2⟩ := track s c' e0 e2 e3 r
    exact q _ H' _ s2 c2 (Rep.last c')
  · cases hf
def sNil : FS := fun σ M => some (.nx, σ, M)
def sSeq (f g : FS) : FS := fun σ M => match f σ M with
  | some (.nx, σ1, M1) => g σ1 M1
  | r => r
def sIf (c : FT) (f g : FS) : FS := fun σ M => match c σ M with
  | some (true, M1) => f σ M1
  | some (false, M1) => g σ M1
  | none => none
def sRet (f : FE) : FS := fun σ M => match toD f σ M with
  | some (d, M1) => some (.ret d, σ, M1)
  | none => none
def sSet (i : Nat) (f : FE) : FS := fun σ M => match toD f σ M with
  | some (d, M1) => some (.nx, σ.set i (some d), M1)
  | none => none
def sExpr (f : FE) : FS := fun σ M => match f σ M with
  | some (_, M1) => some (.nx, σ, M1)
  | none => none
section
variable {X : Cx} {st : Stmt} {rest : List Stmt} {e c : Expr} {pos : Pos}
theorem qs_nil : QSs X [] sNil := .mk <| PSs.imp pss_nil fun E τ H ⟨L, σ, M, o, σ', M', c, rs, hf, q⟩ => by
  unfold sNil at hf
  cases hf
  exact q L H (.refl L H) c τ rs
theorem qs_cons {f g : FS} (h1 : QS X st f) (h2 : QSs X rest g) : QSs X (st :: rest) (sSeq f g) := .mk <| PSs.imp (pss_cons h1.un h2.un) fun E τ H ⟨L, σ, M, o, σ', M', c, rs, hf, q⟩ => by
  unfold sSeq at hf
  split at hf
  · rename_i σ1 M1 e1
    refine ⟨L, σ, M, _, _, _, c, rs, e1, fun L1 H1 s1 c1 τ1 r1 => ⟨L1, σ1, M1, _, _, _, c1, r1, hf, fun L2 H2 s2 c2 => q L2 H2 (s1.trans s2) c2⟩⟩
  · rename_i hne
    refine ⟨L, σ, M, _, _, _, c, rs, hf, fun L1 H1 s1 c1 => ?_⟩
    have z := q L1 H1 s1 c1
    cases o with
    | nx => exact absurd hf (hne σ' M')
    | ret d => exact z
    | brk => exact z
    | cnt => exact z
theorem qs_one {f : FS} (h1 : QS X st f) : QSs X [st] f := .mk <| PSs.imp (pss_one h1.un) fun _ _ _ h => h
theorem q_if {a b : List Stmt} {fc : FT} {f g : FS} (hc : QT X c fc) (ha : QSs X a f) (hb : QSs X b g) : QS X (.If c a b pos) (sIf fc f g) := .mk <| PS.imp (ps_if hc.un ha.un hb.un) fun E τ H ⟨L, σ, M, o, σ', M', c, rs, hf, q⟩ => by
  unfold sIf at hf
  split at hf
  · rename_i M1 e1
    refine ⟨L, σ, M, _, _, c, rs, e1, fun L1 H1 s1 c1 => ?_⟩
    exact iteT ⟨L1, σ, M1, _, _, _, c1, rs.stp s1, hf, fun L2 H2 s2 c2 => q L2 H2 (s1.trans s2) c2⟩
  · rename_i M1 e1
    refine ⟨L, σ, M, _, _, c, rs, e1, fun L1 H1 s1 c1 => ?_⟩
    exact iteF ⟨L1, σ, M1, _, _, _, c1, rs.stp s1, hf, fun L2 H2 s2 c2 => q L2 H2 (s1.trans s2) c2⟩
  · cases hf
theorem q_ret {f : FE} (h : QE X e f) : QS X (.Return (some e) pos) (sRet f) := .mk <| PS.imp (ps_ret (q_toD h).un) fun E τ H ⟨L, σ, M, o, σ', M', c, rs, hf, q⟩ => by
  unfold sRet at hf
  split at hf
  · rename_i d M1 e1
    cases hf
    exact ⟨L, σ, M, _, _, c, rs, e1, fun L1 H1 v s1 c1 r1 => q L1 H1 s1 c1 v r1⟩
  · cases hf
theorem asg_read {K : PySem.W.Frag} {i : Nat} {f : FE} {t : TE} (ht : ∀ τ H Q, trE K f τ H Q → t τ H Q) {E : Ends} {τ : Sv} {H : Hp} (h : trS K (sSet i f) E τ H) : tAsg t (gName i) E τ H := by
  obtain ⟨L, σ, M, o, σ', M', c, rs, hf, q⟩ := h
  unfold sSet at hf
  split at hf
  · rename_i d M1 e1
    cases hf
    exact ht _ _ _ (toD_read ⟨L, σ, M, _, _, c, rs, e1, fun L1 H1 v s1 c1 r1 => q L1 H1 s1 c1 _ ((rs.stp s1).set r1)⟩)
  · cases hf
theorem q_set {i : Nat} {x : Str} {f : FE} {pos' : Pos} (hN : X.N.Nodup) (hi : X.N[i]? = some x) (hx : Loc X.env.scope x) (h : QE X e f) (hs : swapsWith e (some (.Name x pos')) pos.line X.env = pure false := by rfl)
    (hf : X.fn x = true ∨ X.env.scope.names.lookup x = some .local := by first | exact .inl rfl | exact .inr rfl | assumption) : QS X (.Assign [.Name x pos'] e pos) (sSet i f) := 
  .mk <| PS.imp (ps_set hN hi hx h.un hs hf) fun _ _ _ z => asg_read (fun _ _ _ z => z) z
theorem q_expr {f : FE} (h : QE X e f) (hs : swapsWith e none pos.line X.env = pure false := by rfl) : QS X (.Expr e pos) (sExpr f) := .mk <| PS.imp (ps_expr h.un hs) fun E τ H ⟨L, σ, M, o, σ', M', c, rs, hf, q⟩ => by
  unfold sExpr at hf
  split at hf
  · rename_i d M1 e1
    cases hf
    exact ⟨L, σ, M, _, _, c, rs, e1, fun L1 H1 v s1 c1 r1 => q L1 H1 s1 c1 τ (rs.stp s1)⟩
  · cases hf

abbrev FG := D → Sd → Option Sd
def GOk (g : TG) (fg : FG) : Prop := ∀ {L : List Addr} {H : Hp} {σ σ' : Sd} {τ : Sv} {d : D} {v : V} {Q : Sv → Hp → Prop}, RepS L H σ τ → Rep L H d v → fg d σ = some σ' → (∀ τ', RepS L H σ' τ' → Q τ' H) → g v τ H Q
def gN (i : Nat) : FG := fun d σ => some (σ.set i (some d))
theorem gok_name {i : Nat} : GOk (gName i) (gN i) := by
  intro L H σ σ' τ d v Q rs r hf q
  unfold gN at hf
  cases hf
  exact q _ (rs.set r)

abbrev FI := Sd → Mem → Option (List D × Option (Mem → Prop) × Mem)
def grdOk (g : Option (Mem → Prop)) (xs : List D) (M : Mem) : Prop := match g with
  | none => True
  | some p => p M
def ItOk (K : PySem.W.Frag) (J : It) (L : List Addr) (H : Hp) (xs : List D) (g : Option (Mem → Prop)) : Prop := ∀ L' H' M', Stp L H L' H' → Cor K L' M' H' → grdOk g xs M' →
  (∀ (i : Nat) d, xs[i]? = some d → J.go i H' ∧ ∀ v H'', J.yld i H' v H'' → (∀ a o, H' a = some o → H'' a = some o) ∧ Rep L' H'' d v) ∧ J.stop xs.length H'
def trI (K : PySem.W.Frag) (f : FI) : TI := fun τ H R => ∃ L σ M xs g M', Cor K L M H ∧ RepS L H σ τ ∧ f σ M = some (xs, g, M') ∧ ∀ L' H' J, Stp L H L' H' → Cor K L' M' H' → ItOk K J L' H' xs g → R J H'
structure QI (X : Cx) (tg e : Expr) (f : FI) : Prop where
  un : PI X tg e (trI X.K f)
theorem PI.imp {tg e : Expr} {t t' : TI} (h : PI X tg e t) (hi : ∀ τ H R, t' τ H R → t τ H R) : PI X tg e t' := fun pins s σ H R I q => h pins s σ H R I (hi _ _ _ q)

noncomputable def loopF (g : FG) (b : FS) (all : List D) (gd : Option (Mem → Prop)) : List D → Sd → Mem → Option (Out × Sd × Mem)
  | [], σ, M => open Classical in if grdOk gd all M then some (.nx, σ, M) else none
  | x :: r, σ, M => open Classical in if grdOk gd all M then match g x σ with
      | some σ1 => match b σ1 M with
        | some (.nx, σ2, M2) => loopF g b all gd r σ2 M2
        | some (.cnt, σ2, M2) => loopF g b all gd r σ2 M2
        | some (.brk, σ2, M2) => some (.nx, σ2, M2)
        | some (.ret d, σ2, M2) => some (.ret d, σ2, M2)
        | none => none
      | none => none
    else none
noncomputable def sFor (fi : FI) (g : FG) (b : FS) : FS := fun σ M => match fi σ M with
  | some (xs, gd, M1) => loopF g b xs gd xs σ M1
  | none => none
theorem drop_cons {α : Type} {xs : List α} {i : Nat} (h : i < xs.length) : xs.drop i = xs[i] :: xs.drop (i + 1) := List.drop_eq_getElem_cons h
theorem Stp.yld {L L' : List Addr} {H H' H'' : Hp} (s : Stp L H L' H') (h : ∀ a o, H' a = some o → H'' a = some o) : Stp L H L' H'' := s.trans (.grow h)
theorem for_read {K : PySem.W.Frag} {fi : FI} {g : TG} {fg : FG} {b : FS} (hg : GOk g fg) {E : Ends} {τ : Sv} {H : Hp} (h : trS K (sFor fi fg b) E τ H) : tFor (trI K fi) g (trS K b) E τ H := by
  obtain ⟨L, σ, M, o, σf, Mf, c, rs, hf, q⟩ := h
  unfold sFor at hf
  split at hf
  · rename_i xs gd M1 e1
    refine ⟨L, σ, M, _, _, _, c, rs, e1, fun L1 H1 J s1 c1 it => ?_⟩
    refine ⟨fun i m τ' H' => m = xs.length - i ∧ i ≤ xs.length ∧ ∃ L' σ' M', Stp L1 H1 L' H' ∧ Cor K L' M' H' ∧ RepS L' H' σ' τ' ∧ loopF fg b xs gd (xs.drop i) σ' M' = some (o, σf, Mf),
      ⟨xs.length, by simp, Nat.zero_le _, L1, σ, M1, .refl _ _, c1, rs.stp s1, by simpa using hf⟩, ?_⟩
    rintro i m τ' H' ⟨rfl, hi, L', σ', M', s', c', rs', e'⟩
    by_cases hlt : i < xs.length
    · rw [drop_cons hlt] at e'
      unfold loopF at e'
      split at e'
      · rename_i hgd
        obtain ⟨step, _⟩ := it L' H' M' s' c' hgd
        obtain ⟨go, yl⟩ := step i xs[i] (List.getElem?_eq_getElem hlt)
        cases eg : fg xs[i] σ' with
        | none => rw [eg] at e'; cases e'
        | some σ1 =>
          rw [eg] at e'
          dsimp only at e'
          refine .inr ⟨go, fun τ2 H2 => ∃ L2 σ2 M2, Stp L1 H1 L2 H2 ∧ Cor K L2 M2 H2 ∧ RepS L2 H2 σ2 τ2 ∧ loopF fg b xs gd (xs.drop (i + 1)) σ2 M2 = some (o, σf, Mf), fun τ2 H2 ⟨L2, σ2, M2, a1, a2, a3, a4⟩ => ⟨xs.length - (i + 1), by omega, rfl, hlt, L2, σ2, M2, a1, a2, a3, a4⟩, fun v H2 hy => ?_⟩
          obtain ⟨gr, rv⟩ := yl v H2 hy
          refine hg (RepS.stp (.grow gr) rs') rv eg fun τ2 r2 => ?_
          cases eb : b σ1 M' with
          | none => rw [eb] at e'; cases e'
          | some r =>
            obtain ⟨o2, σ2, M2⟩ := r
            rw [eb] at e'
            refine ⟨L', σ1, M', _, _, _, c'.grow gr, r2, eb, fun L3 H3 s3 c3 => ?_⟩
            have s13 : Stp L1 H1 L3 H3 := (s'.yld gr).trans s3
            cases o2 with
            | nx => exact fun τ3 r3 => ⟨L3, σ2, M2, s13, c3, r3, e'⟩
            | cnt => exact fun τ3 r3 => ⟨L3, σ2, M2, s13, c3, r3, e'⟩
            | brk => cases e'; exact q L3 H3 (s1.trans s13) c3
            | ret d => cases e'; exact q L3 H3 (s1.trans s13) c3
      · cases e'
    · have hi' : i = xs.length := by omega
      subst hi'
      rw [List.drop_length] at e'
      unfold loopF at e'
      split at e'
      · rename_i hgd
        cases e'
        obtain ⟨_, stop⟩ := it L' H' _ s' c' hgd
        exact .inl ⟨stop, q L' H' (s1.trans s') c' τ' rs'⟩
      · cases e'
  · cases hf
theorem q_for {tg iter : Expr} {body : List Stmt} {fi : FI} {g : TG} {fg : FG} {b : FS} (hg : GOk g fg) (hp : PassesOwn (model X.prog X.w) X.A X.env X.xe) (hc : X.calm = true) (hi : QI X tg iter fi) (ht : PG X tg g) (hb : QSs X body b)
    (hs : ∀ x, foldedSetIterable iter X.env x = pure x := by intro _; rfl) : QS X (.For tg iter body [] pos) (sFor fi fg b) := .mk <| PS.imp (ps_for hp hc hi.un ht hb.un hs) fun _ _ _ h => for_read hg h
end
end L3

set_option Elab.async false
set_option linter.all false
set_option maxRecDepth 100000
namespace L3
open PySem PySem.Spec PyProof.Rows L2
section
variable {X : Cx} {e c iter tg elt : Expr} {pos : Pos} {scope : Scope} {ifs : List Expr}
def whileF (c : FT) (b : FS) : Nat → Sd → Mem → Option (Out × Sd × Mem)
  | 0, _, _ => none
  | n + 1, σ, M => match c σ M with
    | some (true, M1) => match b σ M1 with
      | some (.nx, σ2, M2) => whileF c b n σ2 M2
      | some (.cnt, σ2, M2) => whileF c b n σ2 M2
      | some (.brk, σ2, M2) => some (.nx, σ2, M2)
      | some (.ret d, σ2, M2) => some (.ret d, σ2, M2)
      | none => none
    | some (false, M1) => some (.nx, σ, M1)
    | none => none
def clrD (own : List Nat) (σ : Sd) : Sd := own.foldl (fun σ i => σ.set i none) σ
theorem clr_rep {L : List Addr} {H : Hp} : ∀ (own : List Nat) {σ : Sd} {τ : Sv}, RepS L H σ τ → RepS L H (clrD own σ) (clr own τ)
  | [], _, _, h => h
  | i :: r, σ, τ, h => by
    refine clr_rep r (σ := σ.set i none) (τ := τ.set i none) ⟨by simp [h.1], fun j d q => ?_⟩
    rw [List.getElem?_set] at q ⊢
    split at q
    · split at q <;> cases q
    · rename_i z
      rw [if_neg z]
      exact h.2 j d q
noncomputable def compL (g : FG) (tc : FT) (te : FE) (σ : Sd) (all : List D) (gd : Option (Mem → Prop)) : List D → Mem → Option (List D × Mem)
  | [], M => open Classical in if grdOk gd all M then some ([], M) else none
  | x :: r, M => open Classical in if grdOk gd all M then match g x σ with
      | some σ1 => match tc σ1 M with
        | some (true, M1) => match toD te σ1 M1 with
          | some (d, M2) => match compL g tc te σ all gd r M2 with
            | some (ds, M3) => some (d :: ds, M3)
            | none => none
          | none => none
        | some (false, M1) => compL g tc te σ all gd r M1
        | none => none
      | none => none
    else none
noncomputable def fComp (own : List Nat) (fi : FI) (g : FG) (tc : FT) (te : FE) : FE := fun σ M => match fi σ M with
  | some (xs, gd, M1) => if xs.length ≤ sizeLine then match compL g tc te (clrD own σ) xs gd xs M1 with
      | some (ys, M2) => some (.fl ys, M2)
      | none => none
    else none
  | none => none
/-- what a target of a comprehension does: it sets names of its own -/
def GOwn (own : List Nat) (g : TG) (fg : FG) : Prop := ∀ {L : List Addr} {H : Hp} {σ σ' : Sd} {τ τ0 : Sv} {d : D} {v : V} {Q : Sv → Hp → Prop}, RepS L H σ τ → Ext (clr own τ0) τ → Rep L H d v → fg d σ = some σ' → (∀ τ', RepS L H σ' τ' → Ext (clr own τ0) τ' → Q τ' H) → g v τ H Q
theorem gown_name {own : List Nat} {i : Nat} (hi : i ∈ own) : GOwn own (gName i) (gN i) := by
  intro L H σ σ' τ τ0 d v Q rs ex r hf q
  unfold gN at hf
  cases hf
  exact q _ (rs.set r) (ex.set hi)
theorem comp_read {K : PySem.W.Frag} {own : List Nat} {fi : FI} {g : TG} {fg : FG} {tc : FT} {te : FE} (hg : GOwn own g fg) {τ : Sv} {H : Hp} {Q : VK} (h : trE K (fComp own fi fg tc te) τ H Q) : tComp own (trI K fi) g (trT K tc) (trD K (toD te)) τ H Q := by
  obtain ⟨L, σ, M, d, Mf, c, rs, hf, q⟩ := h
  unfold fComp at hf
  split at hf
  · rename_i xs gd M1 e1
    split at hf
    · rename_i hz
      split at hf
      · rename_i zs M2 e2
        cases hf
        refine ⟨L, σ, M, _, _, _, c, rs, e1, fun L1 H1 J s1 c1 it => ?_⟩
        refine ⟨fun i m ys H' => m = xs.length - i ∧ i ≤ xs.length ∧ ∃ L' M' as bs, Stp L1 H1 L' H' ∧ Cor K L' M' H' ∧ Reps L' H' as ys ∧ as.length ≤ i ∧ compL fg tc te (clrD own σ) xs gd (xs.drop i) M' = some (bs, Mf) ∧ as ++ bs = zs,
          ⟨xs.length, by simp, Nat.zero_le _, L1, M1, [], zs, .refl _ _, c1, .nil, Nat.le_refl _, by simpa using e2, rfl⟩, ?_⟩
        rintro i m ys H' ⟨rfl, hi, L', M', as, bs, s', c', r', hl, e', hab⟩
        have hys : ys.length ≤ i := by rw [r'.length]; exact hl
        by_cases hlt : i < xs.length
        · rw [drop_cons hlt] at e'
          unfold compL at e'
          split at e'
          · rename_i hgd
            obtain ⟨step, _⟩ := it L' H' M' s' c' hgd
            obtain ⟨go, yl⟩ := step i xs[i] (List.getElem?_eq_getElem hlt)
            split at e'
            · rename_i σ1 eg
              refine .inr ⟨go, fun v H2 hy => ?_⟩
              obtain ⟨gr, rv⟩ := yl v H2 hy
              have s2 : Stp L1 H1 L' H2 := s'.yld gr
              refine hg (clr_rep own ((rs.stp s1).stp s2)) (.refl _) rv eg fun τ2 r2 x2 => ⟨x2, ?_⟩
              split at e'
              · rename_i M3 e3
                split at e'
                · rename_i d M4 e4
                  split at e'
                  · rename_i ds M5 e5
                    cases e'
                    refine ⟨L', σ1, M', _, _, c'.grow gr, r2, e3, fun L3 H3 s3 c3 => iteT ?_⟩
                    refine ⟨L3, σ1, M3, _, _, c3, r2.stp s3, e4, fun L4 H4 w s4 c4 r4 => ?_⟩
                    have st : Stp L' H' L4 H4 := ((Stp.grow gr).trans s3).trans s4
                    refine ⟨Nat.lt_of_le_of_lt hys (Nat.lt_of_lt_of_le hlt hz), xs.length - (i + 1), by omega, rfl, hlt, L4, M4, as ++ [d], ds, s'.trans st, c4, (r'.stp st).app (.cons r4 .nil), by simp; omega, e5, by rw [← hab]; simp⟩
                  · cases e'
                · cases e'
              · rename_i M3 e3
                refine ⟨L', σ1, M', _, _, c'.grow gr, r2, e3, fun L3 H3 s3 c3 => iteF ?_⟩
                have st : Stp L' H' L3 H3 := (Stp.grow gr).trans s3
                exact ⟨xs.length - (i + 1), by omega, rfl, hlt, L3, M3, as, bs, s'.trans st, c3, r'.stp st, by omega, e', hab⟩
              · cases e'
            · cases e'
          · cases e'
        · have hi' : i = xs.length := by omega
          subst hi'
          rw [List.drop_length] at e'
          unfold compL at e'
          split at e'
          · rename_i hgd
            cases e'
            obtain ⟨_, stop⟩ := it L' H' _ s' c' hgd
            refine .inl ⟨stop, Nat.le_trans hys hz, fun p hp => ?_⟩
            rw [List.append_nil] at hab
            subst hab
            exact q L' _ _ ((s1.trans s').trans (.upd hp)) (c'.upd hp) (RepE.newLst (s1.trans s') c c' hp r')
          · cases e'
      · cases hf
    · cases hf
  · cases hf
structure QIfs (X : Cx) (ifs : List Expr) (f : FT) : Prop where
  un : PIfs X ifs (trT X.K f)
def tTrue : FT := fun _ M => some (true, M)
theorem qi_nil : QIfs X [] tTrue := .mk fun pins s σ H Q I h => by
  obtain ⟨L, σ', M, d, M', c, rs, hf, q⟩ := h
  unfold tTrue at hf
  cases hf
  exact pifs_nil pins s σ H Q I (q L H (.refl L H) c)
theorem qi_one {f : FT} (h : QT X c f) : QIfs X [c] f := .mk (pifs_one h.un)
/-- the parts of a comprehension in its block -/
structure QParts (X : Cx) (scope : Scope) (tg : Expr) (ifs : List Expr) (elt : Expr) (g : TG) (tc : FT) (te : FE) : Prop where
  g : ∀ pins cl s H fp, PG (cxComp X pins scope cl s H fp) tg g
  c : ∀ pins cl s H fp, QIfs (cxComp X pins scope cl s H fp) ifs tc
  e : ∀ pins cl s H fp, QE (cxComp X pins scope cl s H fp) elt te
theorem QParts.parts {g : TG} {tc : FT} {te : FE} (p : QParts X scope tg ifs elt g tc te) : CompParts X scope tg ifs elt g (trT X.K tc) (trD X.K (toD te)) :=
  ⟨p.g, fun pins cl s H fp => (p.c pins cl s H fp).un, fun pins cl s H fp => (q_toD (p.e pins cl s H fp)).un⟩
theorem q_comp {own : List Nat} {fi : FI} {g : TG} {fg : FG} {tc : FT} {te : FE} (hg : GOwn own g fg) (C : CompIn X scope own) (hcalm : X.calm = true) (hi : QI X tg iter fi) (p : QParts X scope tg ifs elt g tc te) (hs : ∀ x, foldedSetIterable iter X.env x = pure x := by intro _; rfl) :
    QE X (.ListComp elt [⟨tg, iter, ifs, 0⟩] scope pos) (fComp own fi fg tc te) := .mk <| PE.imp (pe_comp C hcalm hi.un p.parts hs) fun _ _ _ h => comp_read hg h
theorem q_setComp {i : Nat} {x : Str} {pos' pos'' : Pos} {own : List Nat} {fi : FI} {g : TG} {fg : FG} {tc : FT} {te : FE} (hN : X.N.Nodup) (hi' : X.N[i]? = some x) (hx : Loc X.env.scope x) (hfn : X.fn x = true ∨ X.env.scope.names.lookup x = some .local)
    (hsw : swapsWith (.ListComp elt [⟨tg, iter, ifs, 0⟩] scope pos) (some (.Name x pos')) pos''.line X.env = pure true)
    (hg : GOwn own g fg) (C : CompIn X scope own) (hcalm : X.calm = true) (hi : QI X tg iter fi) (p : QParts X scope tg ifs elt g tc te) (hs : ∀ x, foldedSetIterable iter X.env x = pure x := by intro _; rfl) :
    QS X (.Assign [.Name x pos'] (.ListComp elt [⟨tg, iter, ifs, 0⟩] scope pos) pos'') (sSet i (fComp own fi fg tc te)) := 
  .mk <| PS.imp (ps_setComp hN hi' hx hfn C hcalm hi.un p.parts hsw hs) fun _ _ _ z => asg_read (fun _ _ _ z => comp_read hg z) z
end
end L3

set_option Elab.async false
set_option linter.all false
set_option maxRecDepth 100000
namespace L3
open PySem PySem.Spec PyProof.Rows L2
abbrev FF := List D → Mem → Option (D × Mem)
def spF (K : PySem.W.Frag) (n : Nat) (g : FF) : Sp := fun vs H Q _ => ∃ L ds M d M', Cor K L M H ∧ Reps L H ds vs ∧ ds.length = n ∧ g ds M = some (d, M') ∧ ∀ L' H' v, Stp L H L' H' → Cor K L' M' H' → Rep L' H' d v → Q v H'
def fCall (g : FF) (fa : FA) : FE := fun σ M => match fa σ M with
  | some (ds, M1) => match g ds M1 with
    | some (d, M2) => some (.dat d, M2)
    | none => none
  | none => none
section
variable {X : Cx} {e : Expr} {es : List Expr} {pos p : Pos} {x : Str} {k : Nat} {f : Addr} {fd : FuncData} {ps : List Str}
theorem q_call {g : FF} {fa : FA} (F : FnOk X.prog X.w X.K X.mg X.base CX0 k f fd ps (spF X.K (e :: es).length g)) (hr : Room k X.A) (hg : Gl X x) (hm : X.mg x = some (.ref f)) (hk : PySem.W.keepIn X.K (.ref f) = true) (hb : Binds X.K fd ps [])
    (ha : QA X (e :: es) fa) (hl : ∀ σ M ds M1, fa σ M = some (ds, M1) → ds.length = (e :: es).length) (hdb : (x == ("__debug__" : Str)) = false := by decide) (he : starEach (e :: es) X.env = (false, eval e X.env) :: starEach es X.env := by rfl) (hpl : (backTo pos (starEach es X.env)).any (·.1) = false := by rfl) :
    QE X (.Call (.Name x p) (e :: es) [] pos) (fCall g fa) := 
  .mk <| PE.imp (pe_call F hr hg hm hk hb .nil pass0 ha.un hdb he hpl) fun τ H Q ⟨L, σ, M, d, M', c, rs, hf, q⟩ => by
    unfold fCall at hf
    split at hf
    · rename_i ds M1 e1
      split at hf
      · rename_i d' M2 e2
        cases hf
        refine ⟨L, σ, M, _, _, c, rs, e1, fun L1 H1 vs s1 c1 r1 => ?_⟩
        dsimp only
        rw [List.append_nil]
        exact ⟨L1, ds, M1, d', _, c1, r1, hl _ _ _ _ e1, e2, fun L2 H2 v s2 c2 r2 => q L2 H2 v (s1.trans s2) c2 r2⟩
      · cases hf
    · cases hf
/-- the length of what is handed in -/
def ALen (fa : FA) (n : Nat) : Prop := ∀ σ M ds M1, fa σ M = some (ds, M1) → ds.length = n
theorem alen_nil : ALen aNil 0 := fun σ M ds M1 h => by unfold aNil at h; cases h; rfl
theorem alen_cons {f : FD} {g : FA} {n : Nat} (h : ALen g n) : ALen (aCons f g) (n + 1) := fun σ M ds M1 q => by
  unfold aCons at q
  split at q
  · split at q
    · rename_i e2
      cases q
      simp [h _ _ _ _ e2]
    · cases q
  · cases q
/-- a def by its body -/
def fDef (n : Nat) (b : FS) : FF := fun ds M => match b (ds.map some ++ List.replicate (n - ds.length) none) M with
  | some (.ret d, _, M') => some (d, M')
  | some (.nx, _, M') => some (.non, M')
  | _ => none
theorem start_rep {L : List Addr} {H : Hp} {N : List Str} : ∀ {ds : List D} {vs : List V}, Reps L H ds vs → RepS L H (ds.map some ++ List.replicate (N.length - ds.length) none) (L2.start N vs) := fun {ds vs} r => by
  unfold L2.start
  have hl := r.length
  refine ⟨by simp [hl], fun i d q => ?_⟩
  by_cases hi : i < ds.length
  · rw [List.getElem?_append_left (by simpa using hi), List.getElem?_map] at q
    rw [List.getElem?_append_left (by simpa [hl] using hi), List.getElem?_map]
    cases e1 : ds[i]? with
    | none => rw [e1] at q; cases q
    | some d' =>
      rw [e1] at q; cases q
      obtain ⟨v, e2, r2⟩ := r.get e1
      exact ⟨v, by rw [e2]; rfl, r2⟩
  · rw [List.getElem?_append_right (by simpa using hi), List.getElem?_replicate] at q
    split at q <;> cases q
theorem fn_def {P : Program} {w : World} {K : PySem.W.Frag} {mg : Str → Option Value} {base : Heap} {qual : Str} {st : Stmt} {N : List Str} {b : FS} {n : Nat} (F : Fun K x qual st f fd) (S : FnScope N ps (defScope st)) (hn : ps.length = n)
    (hb : ∀ (cdv : Value) (A : Around) (outer : List Env) (s : Shared) (H : Hp) (E : XK), Room k (A.deeper (envOfC qual (defScope st) s.heap.objs.size f cdv)) → QSs (cxOf CX0 P w K mg base N qual (defScope st) f cdv A outer s H E).nox (defBody st) b) :
    FnOk P w K mg base CX0 (k + 1) f fd ps (spF K n (fDef N.length b)) := by
  refine F.ok S (fun vs H Q E h => ?_) (fun cdv A outer s H vs Q E hr h => ⟨_, (hb cdv A outer s H E hr).un, ?_⟩)
  · obtain ⟨L, ds, M, d, M', c, r, hl, _⟩ := h
    rw [r.length, hl, hn]
  · obtain ⟨L, ds, M, d, M', c, r, hl, hf, q⟩ := h
    unfold fDef at hf
    split at hf
    · rename_i d' σ' M1 e1
      cases hf
      exact ⟨L, _, M, _, _, _, c, start_rep r, e1, fun L1 H1 s1 c1 v r1 => q L1 H1 v s1 c1 r1⟩
    · rename_i σ' M1 e1
      cases hf
      exact ⟨L, _, M, _, _, _, c, start_rep r, e1, fun L1 H1 s1 c1 τ' r1 => q L1 H1 .non s1 c1 (by unfold Rep; rfl)⟩
    · cases hf
mutual
def D.und (n : Nat) : D → Bool
  | .tup ds => D.unds n ds
  | .ref k => decide (k < n)
  | _ => true
def D.unds (n : Nat) : List D → Bool
  | [] => true
  | d :: ds => D.und n d && D.unds n ds
end
mutual
theorem Rep.less {L N : List Addr} {H : Hp} : ∀ {d : D} {v : V}, D.und L.length d = true → Rep (L ++ N) H d v → Rep L H d v
  | .non, _, _, h => by unfold Rep at h ⊢; exact h
  | .bl _, _, _, h => by unfold Rep at h ⊢; exact h
  | .int _, _, _, h => by unfold Rep at h ⊢; exact h
  | .str _, _, _, h => by unfold Rep at h ⊢; exact h
  | .tup ds, _, hb, h => by
    unfold D.und at hb
    unfold Rep at h ⊢
    obtain ⟨a, vs, rfl, e, r⟩ := h
    exact ⟨a, vs, rfl, e, Reps.less hb r⟩
  | .ref n, _, hb, h => by
    unfold D.und at hb
    unfold Rep at h ⊢
    obtain ⟨a, rfl, e⟩ := h
    exact ⟨a, rfl, by rwa [List.getElem?_append_left (of_decide_eq_true hb)] at e⟩
theorem Reps.less {L N : List Addr} {H : Hp} : ∀ {ds : List D} {vs : List V}, D.unds L.length ds = true → Reps (L ++ N) H ds vs → Reps L H ds vs
  | [], _, _, h => by unfold Reps at h ⊢; exact h
  | d :: ds, _, hb, h => by
    unfold D.unds at hb
    rw [Bool.and_eq_true] at hb
    unfold Reps at h ⊢
    obtain ⟨v, r, rfl, h1, h2⟩ := h
    exact ⟨v, r, rfl, Rep.less hb.1 h1, Reps.less hb.2 h2⟩
end
theorem DRep.less {κ : Type} {kf : D → Option κ} {L N : List Addr} {H : Hp} : ∀ {ps : List (D × D)} {vs : List (κ × V)}, (ps.all fun p => D.und L.length p.1 && D.und L.length p.2) = true → DRep kf (L ++ N) H ps vs → DRep kf L H ps vs
  | [], _, _, h => h
  | p :: r, _, hb, h => by
    rw [List.all_cons, Bool.and_eq_true, Bool.and_eq_true] at hb
    obtain ⟨k, v, r', rfl, e, h1, h2⟩ := h
    exact ⟨k, v, r', rfl, e, Rep.less hb.1.2 h1, DRep.less hb.2 h2⟩
def MO.und (n : Nat) : MO → Bool
  | .lst xs => D.unds n xs
  | .fro xs => D.unds n xs
  | .dict kvs => kvs.all fun p => D.und n p.1 && D.und n p.2
  | .dicT kvs => kvs.all fun p => D.und n p.1 && D.und n p.2
  | .set xs => D.unds n xs
/-- what a call leaves that nobody can reach is forgotten -/
def fTrim (g : FF) : FF := fun ds M => match g ds M with
  | some (d, M') => if D.und M.length d && (M'.take M.length).all (MO.und M.length) && decide (M.length ≤ M'.length) then some (d, M'.take M.length) else none
  | none => none
theorem fn_trim {P : Program} {w : World} {K : PySem.W.Frag} {mg : Str → Option Value} {base : Heap} {n : Nat} {g : FF} (h : FnOk P w K mg base CX0 k f fd ps (spF K n g)) : FnOk P w K mg base CX0 k f fd ps (spF K n (fTrim g)) :=
  h.imp fun vs H Q E ⟨L, ds, M, d, M', c, r, hl, hf, q⟩ => by
    unfold fTrim at hf
    split at hf
    · rename_i d' M1 e1
      split at hf
      · rename_i hb
        cases hf
        simp only [Bool.and_eq_true, decide_eq_true_eq, List.all_eq_true] at hb
        obtain ⟨⟨hb1, hb2⟩, hb3⟩ := hb
        refine ⟨L, ds, M, _, _, c, r, hl, e1, fun L1 H1 v s1 c1 r1 => ?_⟩
        obtain ⟨N, rfl⟩ := s1.pre
        rw [← c.len] at hb1 hb2 hb3
        refine q L H1 v ⟨⟨[], by simp⟩, fun a ha => .inl ha, s1.old, s1.tup, s1.frz⟩ ⟨?_, ?_, fun i a m e2 e3 => ?_⟩ (Rep.less hb1 r1)
        · rw [List.length_take, ← c.len]; omega
        · exact (List.nodup_append.mp c1.nd).1
        · rw [← c.len] at e3
          have hi : i < L.length := (List.getElem?_eq_some_iff.mp e2).1
          have hm : m ∈ M1.take L.length := List.mem_of_getElem? e3
          rw [List.getElem?_take_of_lt hi] at e3
          have z := c1.obj i a m (pre_get e2) e3
          have bl := hb2 m hm
          cases m with
          | lst xs => obtain ⟨ws, e4, r4⟩ := z; exact ⟨ws, e4, Reps.less bl r4⟩
          | fro xs => obtain ⟨o, ws, e4, r4⟩ := z; exact ⟨o, ws, e4, Reps.less bl r4⟩
          | dict ps => obtain ⟨vs, e, r⟩ := z; exact ⟨vs, e, DRep.less bl r⟩
          | dicT ps => obtain ⟨vs, e, r⟩ := z; exact ⟨vs, e, DRep.less bl r⟩
          | set _ => exact z.elim
      · cases hf
    · cases hf
/-- a call that is handed plain data and gives plain data runs by itself -/
def fPure (g : FF) : FF := fun ds M => if D.unds 0 ds then match g ds [] with
    | some (d, _) => if D.und 0 d then some (d, M) else none
    | none => none
  else none
theorem fn_pure {P : Program} {w : World} {K : PySem.W.Frag} {mg : Str → Option Value} {base : Heap} {n : Nat} {g : FF} (h : FnOk P w K mg base CX0 k f fd ps (spF K n g)) : FnOk P w K mg base CX0 k f fd ps (spF K n (fPure g)) :=
  h.imp fun vs H Q E ⟨L, ds, M, d, M', c, r, hl, hf, q⟩ => by
    unfold fPure at hf
    split at hf
    · rename_i hb0
      split at hf
      · rename_i d' M1 e1
        split at hf
        · rename_i hb
          cases hf
          refine ⟨[], ds, [], _, _, ⟨rfl, .nil, fun i a m e => by simp at e⟩, Reps.less (L := []) (N := L) hb0 (by simpa using r), hl, e1, fun L1 H1 v s1 c1 r1 => ?_⟩
          have gr : ∀ a o, H a = some o → H1 a = some o := fun a o e => s1.old a o e (by simp)
          exact q L H1 v (.grow gr) (c.grow gr) ((Rep.less (L := []) (N := L1) hb (by simpa using r1)).more L |> fun z => by simpa using z)
        · cases hf
      · cases hf
    · cases hf

theorem pi_seq {X : Cx} {tg l : Expr} {tl : TE} (hl : PE X l tl) : PI X tg l (fun σ H R => tl σ H fun x H1 => ∃ a, x = .ref a ∧ ((∃ xs, SqL X.K H1 a xs) ∧ R (Itl X.K a) H1 ∨ (∃ xs, SqT X.K H1 a xs) ∧ R (Itt X.K a) H1)) := by
  intro pins s σ H R I h
  refine thn (hl pins s σ H _ I h) fun v s1 ⟨y, H1, I1, r1, a, hy, h1⟩ => ?_
  subst hy
  cases r1
  have fpk : ∀ b ∈ [s1.heap.objs.size], FpOk X pins H1 b := fun b hb => by
    have e : b = s1.heap.objs.size := by simpa using hb
    subst e
    exact I1.fpOk (Nat.le_refl _) (I1.hok.fresh (Nat.le_refl _))
  rcases h1 with ⟨⟨xs, hq⟩, q⟩ | ⟨⟨xs, hq⟩, q⟩
  · obtain ⟨its, rv, pl, hz⟩ := I1.list hq
    exact wpAny_pyIter_list pl.isList ⟨s1.heap.objs.size, [s1.heap.objs.size], _, _, H1, rfl, I1.kept (t' := s1.toks) fun b o e => Heap.get?_push_of_some _ e, turn_list a _, ⟨_, Heap.get?_push_size _ rfl, rfl, rfl⟩, fpk, q⟩
  · obtain ⟨its, rv, pl, hz⟩ := I1.tuple hq
    exact wpAny_pyIter_tuple (show s1.heap.IsTuple a its.toArray from pl) ⟨s1.heap.objs.size, [s1.heap.objs.size], _, _, H1, rfl, I1.kept (t' := s1.toks) fun b o e => Heap.get?_push_of_some _ e, turn_tuple a _, ⟨_, Heap.get?_push_size _ rfl, rfl, rfl⟩, fpk, q⟩
def gdOf (x : EV) (xs : List D) : Option (Mem → Prop) := match x with
  | .dat (.ref n) => some fun M => M[n]? = some (.lst xs) ∨ M[n]? = some (.fro xs)
  | _ => none
def iSeq (f : FE) : FI := fun σ M => match f σ M with
  | some (x, M1) => match seqOf M1 x with
    | some xs => some (xs, gdOf x xs, M1)
    | none => none
  | none => none
def iRange (f : FA) : FI := fun σ M => match f σ M with
  | some ([.int j], M1) => if -(2 ^ 62) ≤ j ∧ j < 2 ^ 62 then some ((List.range j.toNat).map fun (k : Nat) => D.int k, none, M1) else none
  | some ([.int i, .int j], M1) => if -(2 ^ 62) ≤ i ∧ i < 2 ^ 62 ∧ -(2 ^ 62) ≤ j ∧ j < 2 ^ 62 then some ((List.range (j - i).toNat).map fun (k : Nat) => D.int (i + k), none, M1) else none
  | _ => none
theorem q_iseq {tg : Expr} {g : FE} (h : QE X e g) : QI X tg e (iSeq g) := .mk <| PI.imp (pi_seq h.un) fun τ H R ⟨L, σ, M, xs, gd, M', c, rs, hf, q⟩ => by
  unfold iSeq at hf
  split at hf
  · rename_i y M1 e1
    split at hf
    · rename_i zs e2
      cases hf
      refine ⟨L, σ, M, _, _, c, rs, e1, fun L1 H1 v s1 c1 r1 => ?_⟩
      unfold seqOf at e2
      cases t : tupOf y with
      | some ws =>
        rw [t] at e2; cases e2
        obtain ⟨a, vs, rfl, e3, r3⟩ := tup_rep r1 t
        refine ⟨a, rfl, .inr ⟨⟨vs, .of e3⟩, q L1 H1 _ s1 c1 fun L2 H2 M2 s2 c2 _ => ?_⟩⟩
        have e4 := s2.tup a vs e3
        have r4 := r3.stp s2
        refine ⟨fun i d hd => ?_, ⟨vs, .of e4, by rw [r4.length]; exact Nat.le_refl _⟩⟩
        obtain ⟨u, hu, ru⟩ := r4.get hd
        refine ⟨⟨vs, u, .of e4, hu⟩, fun v H3 ⟨hH, hv⟩ => ?_⟩
        subst hH
        have := hv vs (.of e4)
        rw [hu] at this; cases this
        exact ⟨fun _ _ z => z, ru⟩
      | none =>
        rw [t] at e2
        dsimp only at e2
        obtain ⟨a, vs, rfl, e3, r3⟩ := lst_rep c1 r1 e2
        refine ⟨a, rfl, .inl ⟨⟨vs, .inl e3⟩, q L1 H1 _ s1 c1 fun L2 H2 M2 s2 c2 hgd => ?_⟩⟩
        have key : ∃ vs', SqL X.K H2 a vs' ∧ Reps L2 H2 xs vs' := by
          cases y with
          | fl ys =>
            cases e2
            obtain ⟨p', vs', hp', _, e5, e6, r6⟩ := r1
            cases hp'
            exact ⟨vs', .of (s2.old _ _ e5 e6), r6.stp s2⟩
          | dat d =>
            cases d with
            | ref n =>
              unfold RepE Rep at r1
              obtain ⟨a', ha', e5⟩ := r1
              cases ha'
              have e6 : L2[n]? = some a := by obtain ⟨N, hN⟩ := s2.pre; rw [hN]; exact pre_get e5
              rcases hgd with z | z
              · obtain ⟨vs', e7, r7⟩ := c2.obj n a _ e6 z; exact ⟨vs', .of e7, r7⟩
              · obtain ⟨o, vs', e7, r7⟩ := c2.obj n a _ e6 z; exact ⟨vs', .inl (.inr ⟨o, e7⟩), r7⟩
            | _ => cases e2
        obtain ⟨vs', hq, r7⟩ := key
        refine ⟨fun i d hd => ?_, ⟨vs', hq, by rw [r7.length]; exact Nat.le_refl _⟩⟩
        obtain ⟨u, hu, ru⟩ := r7.get hd
        refine ⟨⟨vs', u, hq, hu⟩, fun v H3 ⟨hH, hv⟩ => ?_⟩
        subst hH
        have := hv vs' hq
        rw [hu] at this; cases this
        exact ⟨fun _ _ z => z, ru⟩
    · cases hf
  · cases hf
theorem reps_int1 {L : List Addr} {H : Hp} {j : Int} {vs : List V} (h : Reps L H [.int j] vs) : vs = [.int j] := by
  unfold Reps at h
  obtain ⟨v, r, rfl, h1, h2⟩ := h
  unfold Reps at h2
  unfold Rep at h1
  subst h1 h2; rfl
theorem reps_int2 {L : List Addr} {H : Hp} {i j : Int} {vs : List V} (h : Reps L H [.int i, .int j] vs) : vs = [.int i, .int j] := by
  unfold Reps at h
  obtain ⟨v, r, rfl, h1, h2⟩ := h
  unfold Rep at h1
  rw [reps_int1 h2, h1]
theorem range_ok {K : PySem.W.Frag} {L : List Addr} {H : Hp} {lo : Int} {n : Nat} : ItOk K (Itr lo n) L H ((List.range n).map fun (k : Nat) => D.int (lo + k)) none := by
  intro L' H' M' s c _
  refine ⟨fun i d hd => ?_, by simp [Itr]⟩
  rw [List.getElem?_map] at hd
  cases q : (List.range n)[i]? with
  | none => rw [q] at hd; cases hd
  | some k =>
    rw [q] at hd; cases hd
    have hi : i < n := by have := (List.getElem?_eq_some_iff.mp q).1; simpa using this
    rw [List.getElem?_range hi] at q; cases q
    refine ⟨hi, fun v H'' ⟨hH, hv⟩ => ?_⟩
    subst hH hv
    exact ⟨fun _ _ z => z, rep_int⟩
theorem q_irange1 {tg a : Expr} {g : FA} (hg : Gl X "range") (hm : X.mg "range" = none) (ha : QA X [a] g) (hl : ALen g 1) (hs : starEach [a] X.env = [(false, eval a X.env)] := by rfl) : QI X tg (.Call (.Name "range" p) [a] [] pos) (iRange g) := 
  .mk <| PI.imp (pi_range1 hg hm ha.un hs) fun τ H R ⟨L, σ, M, xs, gd, M', c, rs, hf, q⟩ => by
    unfold iRange at hf
    split at hf
    · rename_i j M1 e1
      split at hf
      · rename_i hb
        cases hf
        refine ⟨L, σ, M, _, _, c, rs, e1, fun L1 H1 vs s1 c1 r1 => ⟨j, reps_int1 r1, hb.1, hb.2, q L1 H1 _ s1 c1 ?_⟩⟩
        have z := range_ok (K := X.K) (L := L1) (H := H1) (lo := 0) (n := j.toNat)
        simpa using z
      · cases hf
    · rename_i e1
      have := hl _ _ _ _ e1
      simp at this
    · cases hf
theorem q_irange2 {tg a b : Expr} {g : FA} (hg : Gl X "range") (hm : X.mg "range" = none) (ha : QA X [a, b] g) (hl : ALen g 2) (hs : starEach [a, b] X.env = [(false, eval a X.env), (false, eval b X.env)] := by rfl) (hs2 : starEach [b] X.env = [(false, eval b X.env)] := by rfl) : QI X tg (.Call (.Name "range" p) [a, b] [] pos) (iRange g) := 
  .mk <| PI.imp (pi_range2 hg hm ha.un hs hs2) fun τ H R ⟨L, σ, M, xs, gd, M', c, rs, hf, q⟩ => by
    unfold iRange at hf
    split at hf
    · rename_i e1
      have := hl _ _ _ _ e1
      simp at this
    · rename_i i j M1 e1
      split at hf
      · rename_i hb
        cases hf
        exact ⟨L, σ, M, _, _, c, rs, e1, fun L1 H1 vs s1 c1 r1 => ⟨i, j, reps_int2 r1, hb, q L1 H1 _ s1 c1 range_ok⟩⟩
      · cases hf
    · cases hf
end
end L3

set_option Elab.async false
set_option linter.all false
set_option maxRecDepth 100000
namespace L3
open PySem PySem.Spec PyProof.Rows L2
section
variable {X : Cx} {a b c e : Expr} {es rest : List Expr} {pos p apos cpos : Pos}
def tAndF (f g : FT) : FT := fun σ M => match f σ M with
  | some (true, M1) => g σ M1
  | r => r
def tOrF (f g : FT) : FT := fun σ M => match f σ M with
  | some (false, M1) => g σ M1
  | r => r
def tNotF (f : FT) : FT := fun σ M => match f σ M with
  | some (k, M1) => some (!k, M1)
  | none => none
structure QW (X : Cx) (e : Expr) (f : FT) : Prop where
  un : PW X e (trT X.K f)
theorem PW.imp {t t' : TT} (h : PW X e t) (hi : ∀ τ H Q, t' τ H Q → t τ H Q) : PW X e t' := fun wh pins s σ H Q I q => h wh pins s σ H Q I (hi _ _ _ q)
theorem qw_or1 {f : FT} (h : QT X a f) : QW X (.BoolOp .Or [a] pos) f := .mk (pw_or1 h.un)
theorem qw_or {f g : FT} (h1 : QT X a f) (h2 : QW X (.BoolOp .Or (b :: rest) pos) g) : QW X (.BoolOp .Or (a :: b :: rest) pos) (tOrF f g) := .mk <| PW.imp (pw_or h1.un h2.un) fun τ H Q ⟨L, σ, M, d, M', c, rs, hf, q⟩ => by
  unfold tOrF at hf
  split at hf
  · rename_i M1 e1
    exact ⟨L, σ, M, _, _, c, rs, e1, fun L1 H1 s1 c1 => iteF ⟨L1, σ, M1, _, _, c1, rs.stp s1, hf, fun L2 H2 s2 c2 => q L2 H2 (s1.trans s2) c2⟩⟩
  · rename_i hne
    cases d with
    | false => exact absurd hf (hne M')
    | true => exact ⟨L, σ, M, _, _, c, rs, hf, fun L1 H1 s1 c1 => iteT (q L1 H1 s1 c1)⟩
theorem qt_w {f : FT} (h : QW X e f) : QT X e f := .mk (PW.pt h.un)
theorem qt_not {f : FT} (h : QT X a f) : QT X (.UnaryOp .Not a pos) (tNotF f) := .mk <| PT.imp (pt_not h.un) fun τ H Q ⟨L, σ, M, d, M', c, rs, hf, q⟩ => by
  unfold tNotF at hf
  split at hf
  · rename_i k M1 e1
    cases hf
    exact ⟨L, σ, M, _, _, c, rs, e1, fun L1 H1 s1 c1 => q L1 H1 s1 c1⟩
  · cases hf
def vIf (t : FT) (f g : FE) : FE := fun σ M => match t σ M with
  | some (true, M1) => f σ M1
  | some (false, M1) => g σ M1
  | none => none
theorem q_ifExp {t : FT} {f g : FE} (hc : QT X c t) (h1 : QE X a f) (h2 : QE X b g) : QE X (.IfExp c a b pos) (vIf t f g) := .mk <| PE.imp (pe_ifExp hc.un h1.un h2.un) fun τ H Q ⟨L, σ, M, d, M', c, rs, hf, q⟩ => by
  unfold vIf at hf
  split at hf
  · rename_i M1 e1
    exact ⟨L, σ, M, _, _, c, rs, e1, fun L1 H1 s1 c1 => iteT ⟨L1, σ, M1, _, _, c1, rs.stp s1, hf, fun L2 H2 w s2 c2 r2 => q L2 H2 w (s1.trans s2) c2 (r2.back s1 c s2.sub)⟩⟩
  · rename_i M1 e1
    exact ⟨L, σ, M, _, _, c, rs, e1, fun L1 H1 s1 c1 => iteF ⟨L1, σ, M1, _, _, c1, rs.stp s1, hf, fun L2 H2 w s2 c2 r2 => q L2 H2 w (s1.trans s2) c2 (r2.back s1 c s2.sub)⟩⟩
  · cases hf

abbrev KM := EV → List D → Mem → Option (D × Mem)
def fM (k : KM) (f : FE) (g : FA) : FE := fun σ M => match f σ M with
  | some (x, M1) => match lstOf M1 x with
    | some _ => match g σ M1 with
      | some (ds, M2) => match k x ds M2 with
        | some (d, M3) => some (.dat d, M3)
        | none => none
      | none => none
    | none => none
  | none => none
def KerM (K : PySem.W.Frag) (r : V → List V → Hp → VK → Prop) (k : KM) : Prop := ∀ {L : List Addr} {M M' : Mem} {H H0 : Hp} {x : EV} {ds : List D} {d : D} {v : V} {vs : List V} {Q : VK}, Cor K L M H → RepE H0 L H x v → Reps L H ds vs → k x ds M = some (d, M') →
  (∀ L' H' u, Stp L H L' H' → Cor K L' M' H' → Rep L' H' d u → Q u H') → r v vs H Q
theorem m_read {K : PySem.W.Frag} {r : V → List V → Hp → VK → Prop} {k : KM} {f : FE} {g : FA} (hk : KerM K r k) {τ : Sv} {H : Hp} {Q : VK} (h : trE K (fM k f g) τ H Q) : tBM K "list" r (trE K f) (trA K g) τ H Q := by
  obtain ⟨L, σ, M, d, M', c, rs, hf, q⟩ := h
  unfold fM at hf
  split at hf
  · rename_i x M1 e1
    split at hf
    · rename_i xs e2
      split at hf
      · rename_i ds M2 e3
        split at hf
        · rename_i d' M3 e4
          cases hf
          refine ⟨L, σ, M, _, _, c, rs, e1, fun L1 H1 v s1 c1 r1 => ?_⟩
          obtain ⟨a, vs, rfl, e5, r5⟩ := lst_rep c1 r1 e2
          refine ⟨.inl ⟨rfl, vs, .inl e5⟩, L1, σ, M1, _, _, c1, rs.stp s1, e3, fun L2 H2 ws s2 c2 r2 => ?_⟩
          exact hk c2 (r1.stp s2) r2 e4 fun L3 H3 u s3 c3 r3 => q L3 H3 u ((s1.trans s2).trans s3) c3 r3
        · cases hf
      · cases hf
    · cases hf
  · cases hf
def kAppend : KM := fun x ds M => match x, ds with
  | .dat (.ref n), [d] => match M[n]? with
    | some (.lst xs) => if xs.length < sizeLine then some (.non, M.set n (.lst (xs ++ [d]))) else none
    | _ => none
  | _, _ => none
theorem Reps.one {L : List Addr} {H : Hp} {d : D} {vs : List V} (h : Reps L H [d] vs) : ∃ v, vs = [v] ∧ Rep L H d v := by
  unfold Reps at h
  obtain ⟨v, r, rfl, h1, h2⟩ := h
  unfold Reps at h2
  subst h2
  exact ⟨v, rfl, h1⟩
theorem ker_append {K : PySem.W.Frag} : KerM K rAppend kAppend := by
  intro L M M' H H0 x ds d v vs Q c rx rd hk q
  unfold kAppend at hk
  split at hk
  · rename_i n d'
    split at hk
    · rename_i xs e1
      split at hk
      · rename_i hz
        cases hk
        unfold RepE Rep at rx
        obtain ⟨a, rfl, e2⟩ := rx
        obtain ⟨ws, e3, r3⟩ := c.obj n a _ e2 e1
        obtain ⟨w, rfl, r4⟩ := rd.one
        obtain ⟨c5, s5⟩ := c.write e2 e1 (r3.app (.cons r4 .nil))
        exact ⟨a, ws, w, rfl, rfl, e3, by rw [r3.length]; exact hz, q L _ _ s5 c5 (by unfold Rep; rfl)⟩
      · cases hk
    · cases hk
  · cases hk
theorem q_append {f : FE} {g : FA} (h : QE X a f) (hg : QA X [e] g) (hbase : attributeBase a "append" X.env (eval a X.env) = eval a X.env := by rfl)
    (hfew : ((backTo cpos (starEach [e] X.env)).all (fun x => !x.1) && (backToKw cpos (keywordEach [] X.env)).all (fun x => x.1.isSome) && decide ([e].length + ([] : List Keyword).length + (if ([] : List Keyword).isEmpty then 0 else 1) < 30)) = true := by rfl)
    (hline : (apos.endLine == cpos.line) = true := by rfl) (hs : starEach [e] X.env = (false, eval e X.env) :: starEach [] X.env := by rfl) (hplain : (backTo cpos (starEach [] X.env)).any (·.1) = false := by rfl) :
    QE X (.Call (.Attribute a "append" apos) [e] [] cpos) (fM kAppend f g) := 
  .mk <| PE.imp (pe_bm PySem.F.plainAttrs_list PySem.F.slot_list_append PySem.F.type_list_append mt_append h.un hg.un hbase hfew hline hs hplain) fun _ _ _ z => m_read ker_append z
def kPop : KM := fun x ds M => match x, ds with
  | .dat (.ref n), [.int i] => match M[n]? with
    | some (.lst xs) => match ixN xs.length i with
      | some k => match xs[k]? with
        | some d => if -(2 ^ 63) ≤ i ∧ i < 2 ^ 63 then some (d, M.set n (.lst (xs.eraseIdx k))) else none
        | none => none
      | none => none
    | _ => none
  | _, _ => none
theorem ker_pop {K : PySem.W.Frag} : KerM K rPopAt kPop := by
  intro L M M' H H0 x ds d v vs Q c rx rd hk q
  unfold kPop at hk
  split at hk
  · rename_i n i
    split at hk
    · rename_i xs e1
      split at hk
      · rename_i k e2
        split at hk
        · rename_i d' e3
          split at hk
          · rename_i hb
            cases hk
            unfold RepE Rep at rx
            obtain ⟨a, rfl, e4⟩ := rx
            obtain ⟨ws, e5, r5⟩ := c.obj n a _ e4 e1
            obtain ⟨u, e6, r6⟩ := r5.get e3
            obtain ⟨c5, s5⟩ := c.write e4 e1 (r5.eraseIdx k)
            exact ⟨a, ws, i, k, u, rfl, reps_int1 rd, e5, hb.1, hb.2, by rw [r5.length]; exact (ixN_seq e2).1, e6, q L _ _ s5 c5 (r6.stp s5)⟩
          · cases hk
        · cases hk
      · cases hk
    · cases hk
  · cases hk
theorem q_pop {f : FE} {g : FA} (h : QE X a f) (hg : QA X [e] g) (hbase : attributeBase a "pop" X.env (eval a X.env) = eval a X.env := by rfl)
    (hfew : ((backTo cpos (starEach [e] X.env)).all (fun x => !x.1) && (backToKw cpos (keywordEach [] X.env)).all (fun x => x.1.isSome) && decide ([e].length + ([] : List Keyword).length + (if ([] : List Keyword).isEmpty then 0 else 1) < 30)) = true := by rfl)
    (hline : (apos.endLine == cpos.line) = true := by rfl) (hs : starEach [e] X.env = (false, eval e X.env) :: starEach [] X.env := by rfl) (hplain : (backTo cpos (starEach [] X.env)).any (·.1) = false := by rfl) :
    QE X (.Call (.Attribute a "pop" apos) [e] [] cpos) (fM kPop f g) := 
  .mk <| PE.imp (pe_bm PySem.F.plainAttrs_list PySem.F.slot_list_pop PySem.F.type_list_pop mt_popAt h.un hg.un hbase hfew hline hs hplain) fun _ _ _ z => m_read ker_pop z

def kSetL (x : EV) (i : D) (d : D) (M : Mem) : Option Mem := match x, i with
  | .dat (.ref n), .int i => match M[n]? with
    | some (.lst xs) => match ixN xs.length i with
      | some j => some (M.set n (.lst (xs.set j d)))
      | none => none
    | _ => none
  | _, _ => none
def sSub (fv fo fi : FE) : FS := fun σ M => match toD fv σ M with
  | some (d, M1) => match fo σ M1 with
    | some (x, M2) => match toD fi σ M2 with
      | some (i, M3) => match kSetL x i d M3 with
        | some M4 => some (.nx, σ, M4)
        | none => none
      | none => none
    | none => none
  | none => none
theorem q_setSub {o i v : Expr} {fv fo fi : FE} (hv : QE X v fv) (ho : QE X o fo) (hi : QE X i fi)
    (ha : ∀ v, assign (.Subscript o i p) X.env v = (do
      let ov ← holding [v] (eval o X.env)
      let iv ← holding [v, ov] (eval i X.env)
      standAt p
      holding [v, ov, iv] (setItem ov iv v)
      release [v, ov, iv] []) := by intro _; rfl)
    (hs : swapsWithSole [.Subscript o i p] v pos.line X.env = pure false := by rfl) (hw : swappedStores [.Subscript o i p] v X.env = pure none := by rfl) (h1 : (assignEach [.Subscript o i p] X.env).map (·.2) = [assign (.Subscript o i p) X.env] := by rfl) :
    QS X (.Assign [.Subscript o i p] v pos) (sSub fv fo fi) := .mk <| PS.imp (ps_asg (q_toD hv).un (pg_sub ho.un (q_toD hi).un set_list ha) hs hw h1) fun E τ H ⟨L, σ, M, out, σ', M', c, rs, hf, q⟩ => by
  unfold sSub at hf
  split at hf
  · rename_i d M1 e1
    split at hf
    · rename_i x M2 e2
      split at hf
      · rename_i j M3 e3
        split at hf
        · rename_i M4 e4
          cases hf
          refine ⟨L, σ, M, _, _, c, rs, e1, fun L1 H1 u s1 c1 r1 => ⟨L1, σ, M1, _, _, c1, rs.stp s1, e2, fun L2 H2 w s2 c2 r2 => ⟨L2, σ, M2, _, _, c2, rs.stp (s1.trans s2), e3, fun L3 H3 z s3 c3 r3 => ?_⟩⟩⟩
          have st := (s1.trans s2).trans s3
          unfold kSetL at e4
          split at e4
          · rename_i n k
            split at e4
            · rename_i xs e5
              split at e4
              · rename_i m e6
                cases e4
                have r2' := r2.stp s3
                unfold RepE Rep at r2'
                obtain ⟨a, rfl, e7⟩ := r2'
                obtain ⟨ws, e8, r8⟩ := c3.obj n a _ e7 e5
                obtain ⟨c9, s9⟩ := c3.write e7 e5 (Reps.set ((r1.stp s2).stp s3) m r8)
                exact ⟨a, ws, k, m, rfl, by unfold Rep at r3; exact r3, e8, by rw [r8.length]; exact e6, q L3 _ (st.trans s9) c9 τ ((rs.stp st).stp s9)⟩
              · cases e4
            · cases e4
          · cases e4
        · cases hf
      · cases hf
    · cases hf
  · cases hf
end
end L3

set_option Elab.async false
set_option linter.all false
set_option maxRecDepth 100000
namespace L3
open PySem PySem.Spec PyProof.Rows L2
section
variable {X : Cx} {a b c e : Expr} {es rest : List Expr} {pos p apos cpos : Pos}
/-- a plain value as the hand layer has it -/
def scalV : D → Option V
  | .non => some .non
  | .bl k => some (.bl k)
  | .int i => some (.int i)
  | .str x => some (.str x)
  | _ => none
theorem scal_rep {L : List Addr} {H : Hp} {d : D} {v u : V} (h : Rep L H d v) (e : scalV d = some u) : v = u := by
  cases d with
  | non => cases e; unfold Rep at h; exact h
  | bl _ => cases e; unfold Rep at h; exact h
  | int _ => cases e; unfold Rep at h; exact h
  | str _ => cases e; unfold Rep at h; exact h
  | tup _ => cases e
  | ref _ => cases e
def kEqS (neg : Bool) : K2 := fun x y M => match x, y with
  | .dat d, .dat d' => match scalV d, scalV d' with
    | some u, some w => if scal u w then some (.dat (.bl (if neg then !decide (u = w) else decide (u = w))), M) else none
    | _, _ => none
  | _, _ => none
theorem kEqS_some {neg : Bool} {x y r : EV} {M M' : Mem} (h : kEqS neg x y M = some (r, M')) : ∃ d d' u w, x = .dat d ∧ y = .dat d' ∧ scalV d = some u ∧ scalV d' = some w ∧ scal u w = true ∧ r = .dat (.bl (if neg then !decide (u = w) else decide (u = w))) ∧ M' = M := by
  unfold kEqS at h
  split at h
  · rename_i d d'
    split at h
    · rename_i u w e1 e2
      split at h
      · rename_i hs
        cases h
        exact ⟨d, d', u, w, rfl, rfl, e1, e2, hs, rfl, rfl⟩
      · cases h
    · cases h
  · cases h
theorem ker_eqS {K : PySem.W.Frag} : Ker2 K rEq (kEqS false) := by
  intro L M M' H H0 x y d v w Q c rx ry hk q
  obtain ⟨d1, d2, u, z, rfl, rfl, e1, e2, hs, rfl, rfl⟩ := kEqS_some hk
  have a1 := scal_rep rx e1
  have a2 := scal_rep ry e2
  subst a1 a2
  exact ⟨hs, q L H _ (.refl L H) c (rep_bl (L := L) (H := H))⟩
theorem ker_neS {K : PySem.W.Frag} : Ker2 K rNe (kEqS true) := by
  intro L M M' H H0 x y d v w Q c rx ry hk q
  obtain ⟨d1, d2, u, z, rfl, rfl, e1, e2, hs, rfl, rfl⟩ := kEqS_some hk
  have a1 := scal_rep rx e1
  have a2 := scal_rep ry e2
  subst a1 a2
  exact ⟨hs, q L H _ (.refl L H) c (rep_bl (L := L) (H := H))⟩
/-- x == [], x != [], x a list -/
def rNil (neg : Bool) (K : PySem.W.Frag) : R2 := fun x y H Q => ∃ p q xs, x = .ref p ∧ y = .ref q ∧ SqL K H p xs ∧ SqL K H q [] ∧ Q (.bl (if neg then !xs.isEmpty else xs.isEmpty)) H
theorem nil_its {its : List Value} (r : Vals [] its) : its = [] := by cases r; rfl
theorem op_nilEq (hu : X.A.units < cLine) : OpR X (compareOp .Eq) (rNil false X.K) := by
  intro pins s σ H x y v u Q I rx ry h
  obtain ⟨p, q, xs, rfl, rfl, h1, h2, hq⟩ := h
  cases rx
  cases ry
  obtain ⟨its, rv, pl, _⟩ := I.list h1
  obtain ⟨its2, rv2, pl2, _⟩ := I.list h2
  cases nil_its rv2
  cases rv with
  | nil => exact SeqAt.eq_listAt (e := fun _ => true) pl.isList pl2.isList rfl hu (fun j h1 => by simp at h1) ⟨.bl true, H, I, rfl, hq⟩
  | cons _ _ => exact SeqAt.eq_list_lengthsAt pl.isList pl2.isList (by simp) hu ⟨.bl false, H, I, rfl, hq⟩
theorem op_nilNe (hu : X.A.units < cLine) : OpR X (compareOp .NotEq) (rNil true X.K) := by
  intro pins s σ H x y v u Q I rx ry h
  obtain ⟨p, q, xs, rfl, rfl, h1, h2, hq⟩ := h
  cases rx
  cases ry
  obtain ⟨its, rv, pl, _⟩ := I.list h1
  obtain ⟨its2, rv2, pl2, _⟩ := I.list h2
  cases nil_its rv2
  cases rv with
  | nil => exact SeqAt.RcNeAt.lists (e := fun _ => true) pl.isList pl2.isList rfl hu (fun j h1 => by simp at h1) _ _ _ _ ⟨.bl false, H, I, rfl, hq⟩
  | cons _ _ => exact SeqAt.RcNeAt.lists_lengths pl.isList pl2.isList (by simp) hu _ _ _ _ ⟨.bl true, H, I, rfl, hq⟩
def kNil (neg : Bool) : K2 := fun x y M => match lstOf M x, lstOf M y with
  | some xs, some [] => some (.dat (.bl (if neg then !xs.isEmpty else xs.isEmpty)), M)
  | _, _ => none
theorem ker_nil {K : PySem.W.Frag} {neg : Bool} : Ker2 K (rNil neg K) (kNil neg) := by
  intro L M M' H H0 x y d v w Q c rx ry hk q
  unfold kNil at hk
  split at hk
  · rename_i xs e1 e2
    cases hk
    obtain ⟨p1, vs, rfl, h1, r1⟩ := lst_rep c rx e1
    obtain ⟨p2, ws, rfl, h2, r2⟩ := lst_rep c ry e2
    unfold Reps at r2
    subst r2
    refine ⟨p1, p2, vs, rfl, rfl, .inl h1, .inl h2, q L H _ (.refl L H) c ?_⟩
    have : vs.isEmpty = xs.isEmpty := by
      have := r1.length
      cases vs <;> cases xs <;> simp_all
    rw [this]
    exact (rep_bl (L := L) (H := H))
  · cases hk
def kOr (k1 k2 : K2) : K2 := fun x y M => match k1 x y M with
  | some r => some r
  | none => k2 x y M
theorem ker_or {K : PySem.W.Frag} {r1 r2 : R2} {k1 k2 : K2} (h1 : Ker2 K r1 k1) (h2 : Ker2 K r2 k2) : Ker2 K (fun x y H Q => r1 x y H Q ∨ r2 x y H Q) (kOr k1 k2) := by
  intro L M M' H H0 x y d v w Q c rx ry hk q
  unfold kOr at hk
  split at hk
  · rename_i r e1
    cases hk
    exact .inl (h1 c rx ry e1 q)
  · exact .inr (h2 c rx ry hk q)
abbrev kEq : K2 := kOr (kEqS false) (kNil false)
abbrev kNe : K2 := kOr (kEqS true) (kNil true)
variable {f g : FE}
theorem q_teq (hu : X.A.units < cLine) (h1 : QE X a f) (h2 : QE X b g) : QT X (.Compare a [.Eq] [b] pos) (tst (fOp kEq f g)) := q_tcmp (ker_or ker_eqS ker_nil) (op_eq.or (op_nilEq hu)) h1 h2 (nomark _)
theorem q_tne (hu : X.A.units < cLine) (h1 : QE X a f) (h2 : QE X b g) : QT X (.Compare a [.NotEq] [b] pos) (tst (fOp kNe f g)) := q_tcmp (ker_or ker_neS ker_nil) (op_ne.or (op_nilNe hu)) h1 h2 (nomark _)
def kAbs : KB := fun xs M => match xs with
  | [.dat (.int i)] => some (.dat (.int (if i < 0 then -i else i)), M)
  | _ => none
def kInt : KB := fun xs M => match xs with
  | [.dat (.int i)] => some (.dat (.int i), M)
  | [.dat (.bl k)] => some (.dat (.int (if k then 1 else 0)), M)
  | _ => none
end
end L3

set_option Elab.async false
set_option linter.all false
set_option maxRecDepth 100000
namespace L3
open PySem PySem.Spec PyProof.Rows L2
section
variable {X : Cx} {a b c e : Expr} {es rest : List Expr} {pos p apos cpos : Pos}
theorem cat_tup0 {prog : Program} {w : World} {A : Around} {E : Value → Shared → Prop} {s : Shared} {t b : Addr} {ws : List Value} {Q : Value → Shared → Prop} (ht : IsTup s.heap t #[]) (hb : IsTup s.heap b ws.toArray) (h1 : Q (.ref b) s) :
    wpAny (model prog w) A (binaryOp .Add (.ref t) (.ref b)) Q E s := by
  obtain ⟨⟨cls, dd, data, sl⟩, ho, hc, n, hd⟩ := id ht
  obtain ⟨⟨cls2, dd2, data2, sl2⟩, ho2, hc2, n2, hd2⟩ := id hb
  simp only at hc hd hc2 hd2
  subst hc hd hc2 hd2
  exact concat_meets ⟨_, ho, rfl⟩ ⟨_, ho2, rfl⟩ noFill_tuple_add seq_tuple_add PySem.F.slot_tuple_add PySem.F.entry_tuple_add (PySem.F.args_tuple_add_2 _ _)
      (tuple_addW0 t b #[] ws.toArray n n2 dd dd2 sl sl2 (by simp)) ⟨ho, ho2, h1⟩
def rCatT0 (K : PySem.W.Frag) : R2 := fun x y H Q => ∃ a b ys, x = .ref a ∧ y = .ref b ∧ SqT K H a [] ∧ SqT K H b ys ∧ Q (.ref b) H
theorem op_catT0 : OpR X (binaryOp .Add) (rCatT0 X.K) := by
  intro pins s σ H x y v u Q I rx ry h
  obtain ⟨a, b, ys, rfl, rfl, ha, hb, q⟩ := h
  cases rx
  cases ry
  obtain ⟨its, r1, p1, _⟩ := I.tuple ha
  obtain ⟨its2, r2, p2, _⟩ := I.tuple hb
  cases nil_its r1
  exact cat_tup0 p1 p2 ⟨.ref b, H, I, rfl, q⟩
def kCatT : K2 := fun x y M => match tupOf x, tupOf y with
  | some xs, some ys => if xs.length + ys.length ≤ sizeLine then some (.dat (.tup (xs ++ ys)), M) else none
  | _, _ => none
theorem ker_catT {K : PySem.W.Frag} : Ker2 K (fun x y H Q => rCatT K x y H Q ∨ rCatT0 K x y H Q) kCatT := by
  intro L M M' H H0 x y d v w Q c rx ry hk q
  unfold kCatT at hk
  split at hk
  · rename_i xs ys e1 e2
    split at hk
    · rename_i hz
      cases hk
      obtain ⟨p1, vs, rfl, h1, r1⟩ := tup_rep rx e1
      obtain ⟨p2, ws, rfl, h2, r2⟩ := tup_rep ry e2
      cases xs with
      | nil =>
        refine .inr ⟨p1, p2, ws, rfl, rfl, .of (by unfold Reps at r1; subst r1; exact h1), .of h2, q L H _ (.refl L H) c ?_⟩
        unfold RepE Rep
        exact ⟨p2, ws, rfl, h2, r2⟩
      | cons x0 xr =>
        have hv : vs ≠ [] := fun z => by have := r1.length; rw [z] at this; simp at this
        refine .inl ⟨p1, p2, vs, ws, rfl, rfl, .of h1, .of h2, hv, by rw [r1.length, r2.length]; exact hz, fun z => ?_, fun z pp hp => ?_⟩
        · have : ys = [] := by
            have := r2.length; rw [z] at this
            cases ys with
            | nil => rfl
            | cons _ _ => simp at this
          subst this
          refine q L H _ (.refl L H) c ?_
          unfold RepE Rep
          rw [List.append_nil]
          exact ⟨p1, vs, rfl, h1, r1⟩
        · exact q L _ _ (.upd hp) (c.upd hp) (Rep.newTup hp (r1.app r2))
    · cases hk
  · cases hk
abbrev kPlus : K2 := kOr kAdd kCatT
variable {f g : FE}
theorem q_plus (h1 : QE X a f) (h2 : QE X b g) : QE X (.BinOp a .Add b pos) (fOp kPlus f g) := q_op (ker_or (ker_I0 fun _ _ _ _ => rep_int) ker_catT) (op_add.or (op_catT.or op_catT0)) h1 h2

/-- what the text's own fragment says of kinds -/
structure Kinds (K : PySem.W.Frag) : Prop where
  k : ∀ t T, t ∈ ["NoneType", "bool", "int", "str", "list", "tuple", "dict"] → T ∈ ["int", "bool", "str", "tuple"] → PySem.W.kitOne K (.type t) (.type T) = some (decide (t = T) || (decide (t = "bool") && decide (T = "int")))
def tyOf (M : Mem) : EV → Option String
  | .dat .non => some "NoneType"
  | .dat (.bl _) => some "bool"
  | .dat (.int _) => some "int"
  | .dat (.str _) => some "str"
  | .dat (.tup _) => some "tuple"
  | .fl _ => some "list"
  | .dat (.ref n) => match M[n]? with
    | some (.lst _) => some "list"
    | some (.fro _) => some "list"
    | some (.dict _) => some "dict"
    | some (.dicT _) => some "dict"
    | _ => none
theorem ty_rep {K : PySem.W.Frag} {L : List Addr} {M : Mem} {H H0 : Hp} {x : EV} {v : V} {t : String} (c : Cor K L M H) (r : RepE H0 L H x v) (h : tyOf M x = some t) : TyOf K H v (.type t) ∧ t ∈ ["NoneType", "bool", "int", "str", "list", "tuple", "dict"] := by
  unfold tyOf at h
  split at h
  · cases h; unfold RepE Rep at r; subst r; exact ⟨.non, by simp⟩
  · cases h; unfold RepE Rep at r; subst r; exact ⟨.bl _, by simp⟩
  · cases h; unfold RepE Rep at r; subst r; exact ⟨.int _, by simp⟩
  · cases h; unfold RepE Rep at r; subst r; exact ⟨.str _, by simp⟩
  · cases h; unfold RepE Rep at r; obtain ⟨a, vs, rfl, e, _⟩ := r; exact ⟨.tup e, by simp⟩
  · cases h
    obtain ⟨p, vs, rfl, _, e, _⟩ := r
    exact ⟨.lst e, by simp⟩
  · unfold RepE Rep at r
    obtain ⟨a, rfl, e⟩ := r
    split at h
    · rename_i e1; cases h; obtain ⟨vs, q, _⟩ := c.obj _ a _ e e1; exact ⟨.lst q, by simp⟩
    · rename_i e1; cases h; obtain ⟨o, vs, q, _⟩ := c.obj _ a _ e e1; exact ⟨.frz q, by simp⟩
    · rename_i e1; cases h; obtain ⟨vs, q, _⟩ := c.obj _ a _ e e1; exact ⟨.dK q, by simp⟩
    · rename_i e1; cases h; obtain ⟨vs, q, _⟩ := c.obj _ a _ e e1; exact ⟨.dT q, by simp⟩
    · cases h
def isT (t T : String) : Bool := decide (t = T) || (decide (t = "bool") && decide (T = "int"))
def fIsI (T : String) (f : FE) : FE := fun σ M => match f σ M with
  | some (x, M1) => match tyOf M1 x with
    | some t => some (.dat (.bl (isT t T)), M1)
    | none => none
  | none => none
def rIsI (K : PySem.W.Frag) (T : String) : List V → Hp → VK → Prop := fun xs H Q => ∃ x t b, xs = [x, .ty T] ∧ TyOf K H x t ∧ PySem.W.kitOne K t (.type T) = some b ∧ Q (.bl b) H
theorem call_isI {T : String} : CallR X (.builtin "isinstance") (rIsI X.K T) := by
  intro pins s σ H xs us Q I r h
  obtain ⟨x, t, b, rfl, ty, e, q⟩ := h
  cases r with
  | cons r1 r2 =>
    cases r2 with
    | cons r3 r4 =>
      cases r4
      cases r3
      exact isinst_ok I r1 ty e fun tk => ⟨.bl b, H, I.tok _, rfl, q⟩
theorem q_isI {T : String} {y : Str} {p1 p2 : Pos} (hK : Kinds X.K) (hT : T ∈ ["int", "bool", "str", "tuple"]) (hg : Gl X "isinstance") (hm : X.mg "isinstance" = none) (hg2 : Gl X y) (hm2 : X.mg y = none) (hv2 : bootBuiltins y = some (.type T)) (hn2 : y ≠ "__name__") (hd2 : (y == ("__debug__" : Str)) = false) (h : QE X e f)
    (he : starEach (e :: [.Name y p2]) X.env = (false, eval e X.env) :: starEach [.Name y p2] X.env := by rfl) (he2 : starEach [.Name y p2] X.env = (false, eval (.Name y p2) X.env) :: starEach [] X.env := by rfl) (hpl : (backTo pos (starEach [.Name y p2] X.env)).any (·.1) = false := by rfl) :
    QE X (.Call (.Name "isinstance" p1) [e, .Name y p2] [] pos) (fIsI T f) := 
  .mk <| PE.imp (pe_callB (r := rIsI X.K T) call_isI hg hm (by rfl) (pa_cons h.un (pa_cons (pe_bltn (v := .ty T) hg2 hm2 hv2 rfl hn2 hd2) pa_nil he2) he) (by decide) (by decide) he hpl) fun τ H Q ⟨L, σ, M, d, M', c, rs, hf, q⟩ => by
    unfold fIsI at hf
    split at hf
    · rename_i x M1 e1
      split at hf
      · rename_i t e2
        cases hf
        refine ⟨L, σ, M, _, _, c, rs, e1, fun L1 H1 v s1 c1 r1 => ?_⟩
        obtain ⟨ty, ht⟩ := ty_rep c1 r1 e2
        exact ⟨v, _, _, rfl, ty, hK.k t T ht hT, q L1 H1 _ s1 c1 (rep_bl (L := L1) (H := H1))⟩
      · cases hf
    · cases hf

theorem Reps.two {L : List Addr} {H : Hp} {d d' : D} {vs : List V} (h : Reps L H [d, d'] vs) : ∃ v v', vs = [v, v'] ∧ Rep L H d v ∧ Rep L H d' v' := by
  unfold Reps at h
  obtain ⟨v, r, rfl, h1, h2⟩ := h
  obtain ⟨v', rfl, h3⟩ := h2.one
  exact ⟨v, v', rfl, h1, h3⟩
section
variable {fa : FAE}
theorem q_len (hg : Gl X "len") (hm : X.mg "len" = none) (ha : QAE X [e] fa) (he : starEach [e] X.env = (false, eval e X.env) :: starEach [] X.env := by rfl) (hpl : (backTo pos (starEach [] X.env)).any (·.1) = false := by rfl) : QE X (.Call (.Name "len" p) [e] [] pos) (fB kLen fa) :=
  q_callB ker_len call_len_seq PySem.boot_len hg hm ha (by decide) (by decide) he hpl
theorem q_tuple (hg : Gl X "tuple") (hm : X.mg "tuple" = none) (ha : QAE X [e] fa) (he : starEach [e] X.env = (false, eval e X.env) :: starEach [] X.env := by rfl) (hpl : (backTo pos (starEach [] X.env)).any (·.1) = false := by rfl) : QE X (.Call (.Name "tuple" p) [e] [] pos) (fB kTuple fa) :=
  q_callTy ker_tuple call_tuple_of (by rfl) hg hm ha (by decide) (by decide) he hpl
end
end
end L3

set_option Elab.async false
set_option linter.all false
set_option maxRecDepth 100000
namespace L3
open PySem PySem.Spec PyProof.Rows L2
def compLook (sc scope : Scope) : Bool := scope.names.all fun y =>
  (y.2 != .local || scope.names.lookup y.1 == some .local) && (y.2 != .cell || scope.names.lookup y.1 == some .cell) && (y.2 != .free || (sc.names.lookup y.1 == some .cell || sc.names.lookup y.1 == some .free))
def ownLook (N : List Str) (scope : Scope) (own : List Nat) : Bool := (List.range N.length).all fun i => match N[i]? with
  | some x => decide (i ∈ own) || (scope.names.lookup x == none) || (scope.names.lookup x == some .free)
  | none => true
theorem compIn_of {X : Cx} {scope sc : Scope} {own : List Nat} {N : List Str} (hk : scope.kind = .function) (hs : X.env.scope = sc) (hN : X.N = N) (h1 : compLook sc scope = true) (h2 : ownLook N scope own = true) : CompIn X scope own := by
  unfold compLook at h1
  rw [List.all_eq_true] at h1
  refine ⟨⟨hk, fun y hy e => ?_, fun y hy e => ?_, fun y hy e => ?_⟩, fun i x e => ?_⟩
  · have := h1 y hy
    simp [e] at this
    exact this
  · have := h1 y hy
    simp [e] at this
    exact this
  · have := h1 y hy
    simp [e] at this
    show X.env.scope.names.lookup y.1 = _ ∨ X.env.scope.names.lookup y.1 = _
    rw [hs]
    exact this
  · unfold ownLook at h2
    rw [List.all_eq_true] at h2
    rw [hN] at e
    have hi : i < N.length := (List.getElem?_eq_some_iff.mp e).1
    have := h2 i (by simpa using hi)
    rw [e] at this
    simp only [Bool.or_eq_true, decide_eq_true_eq, beq_iff_eq, or_assoc] at this
    exact this
def noList (K : PySem.W.Frag) : Bool := K.all fun p => match p.2.cls with
  | .type n => n != "list"
  | _ => true
theorem mem_look {a : Addr} {o : Obj} : ∀ {K : PySem.W.Frag}, K.lookup a = some o → (a, o) ∈ K
  | [], h => by cases h
  | (b, u) :: r, h => by
    have h' : List.lookup a ((b, u) :: r) = some o := h
    rw [List.lookup_cons] at h'
    cases q : a == b with
    | true => rw [q] at h'; cases h'; rw [beq_iff_eq.mp q]; exact List.mem_cons_self
    | false => rw [q] at h'; exact List.mem_cons_of_mem _ (mem_look h')
theorem noList_ne {K : PySem.W.Frag} (h : noList K = true) {a : Addr} {o : Obj} (e : K.lookup a = some o) (hc : o.cls = .type "list") : False := by
  unfold noList at h
  rw [List.all_eq_true] at h
  have := h (a, o) (mem_look e)
  simp [hc] at this
theorem ints_reps {L : List Addr} {H : Hp} : ∀ (ns : List Int), Reps L H (ns.map D.int) (ns.map V.int)
  | [] => .nil
  | n :: r => .cons (by unfold Rep; rfl) (ints_reps r)
theorem start_law {K : PySem.W.Frag} {m : FF} {H : Hp} {a : Addr} {ns : List Int} {E : XK} (hL : noList K = true) (hO : Only H) (hS : SqL K H a (ns.map V.int)) (h : ∃ M', m [.ref 0] [.fro (ns.map D.int)] = some (.bl true, M')) :
    spF K 1 m [.ref a] H (fun v _ => v = .bl true) E := by
  obtain ⟨M', e⟩ := h
  have hf : ∃ o, H a = some (.frz o (.lst (ns.map V.int))) := by
    rcases hS with (h1 | h1) | ⟨o, its, n, h1, h2, _⟩
    · rcases hO a with z | ⟨o, xs, z⟩
      · rw [h1] at z; cases z
      · rw [h1] at z; cases z
    · exact h1
    · exact (noList_ne hL h1 h2).elim
  obtain ⟨o, hf⟩ := hf
  refine ⟨[a], [.ref 0], [.fro (ns.map D.int)], _, _, ⟨rfl, by simp, fun n b m e1 e2 => ?_⟩, .cons ?_ .nil, rfl, e, fun L' H' v s c r => ?_⟩
  · cases n with
    | zero => simp at e1 e2; subst e1; subst e2; exact ⟨o, _, hf, ints_reps ns⟩
    | succ n => simp at e1
  · unfold Rep; exact ⟨a, rfl, rfl⟩
  · unfold Rep at r; exact r
end L3

set_option Elab.async false
set_option linter.all false
set_option maxRecDepth 100000
namespace L3
open PySem PySem.Spec PyProof.Rows L2
def Ok {α : Type} (x : Option (α × Mem)) (P : α → Mem → Prop) : Prop := ∃ a M, x = some (a, M) ∧ P a M
def OkS (x : Option (Out × Sd × Mem)) (P : Out → Sd → Mem → Prop) : Prop := ∃ o σ M, x = some (o, σ, M) ∧ P o σ M
theorem Ok.mono {α : Type} {x : Option (α × Mem)} {P Q : α → Mem → Prop} (h : Ok x P) (hq : ∀ a M, P a M → Q a M) : Ok x Q := let ⟨a, M, e, p⟩ := h; ⟨a, M, e, hq a M p⟩
theorem OkS.mono {x : Option (Out × Sd × Mem)} {P Q : Out → Sd → Mem → Prop} (h : OkS x P) (hq : ∀ o σ M, P o σ M → Q o σ M) : OkS x Q := let ⟨a, σ, M, e, p⟩ := h; ⟨a, σ, M, e, hq a σ M p⟩
theorem ok_some {α : Type} {a : α} {M : Mem} {P : α → Mem → Prop} : Ok (some (a, M)) P ↔ P a M := ⟨fun ⟨_, _, e, p⟩ => by cases e; exact p, fun p => ⟨a, M, rfl, p⟩⟩
theorem ok_none {α : Type} {P : α → Mem → Prop} : Ok (none : Option (α × Mem)) P ↔ False := ⟨(fun ⟨_, _, e, _⟩ => (nomatch e)), fun h => h.elim⟩
theorem oks_some {o : Out} {σ : Sd} {M : Mem} {P : Out → Sd → Mem → Prop} : OkS (some (o, σ, M)) P ↔ P o σ M := ⟨fun ⟨_, _, _, e, p⟩ => by cases e; exact p, fun p => ⟨o, σ, M, rfl, p⟩⟩
section
variable {σ : Sd} {M : Mem} {f g : FE} {P : EV → Mem → Prop}
theorem ok_var {i : Nat} : Ok (fVar i σ M) P ↔ ∃ d, σ[i]? = some (some d) ∧ P (.dat d) M := by
  unfold fVar
  constructor
  · rintro ⟨a, M1, e, p⟩
    split at e
    · rename_i d e1; cases e; exact ⟨d, e1, p⟩
    · cases e
  · rintro ⟨d, e1, p⟩
    rw [e1]; exact ⟨_, _, rfl, p⟩
theorem ok_c {d : D} : Ok (fC d σ M) P ↔ P (.dat d) M := ok_some
theorem ok_op {k : K2} : Ok (fOp k f g σ M) P ↔ Ok (f σ M) fun x M1 => Ok (g σ M1) fun y M2 => Ok (k x y M2) P := by
  unfold fOp
  constructor
  · rintro ⟨a, M1, e, p⟩
    split at e
    · rename_i x M2 e1
      split at e
      · rename_i y M3 e2
        exact ⟨x, M2, e1, y, M3, e2, a, M1, e, p⟩
      · cases e
    · cases e
  · rintro ⟨x, M2, e1, y, M3, e2, a, M1, e, p⟩
    rw [e1]; dsimp only; rw [e2]; exact ⟨a, M1, e, p⟩
def toDp (P : D → Mem → Prop) : EV → Mem → Prop
  | .dat d, M => P d M
  | .fl xs, M => P (.ref M.length) (M ++ [.lst xs])
theorem ok_toD {P : D → Mem → Prop} : Ok (toD f σ M) P ↔ Ok (f σ M) (toDp P) := by
  unfold toD
  constructor
  · rintro ⟨a, M1, e, p⟩
    split at e
    · rename_i d M2 e1; cases e; exact ⟨_, _, e1, p⟩
    · rename_i xs M2 e1; cases e; exact ⟨_, _, e1, p⟩
    · cases e
  · rintro ⟨x, M2, e1, p⟩
    rw [e1]
    cases x with
    | dat d => exact ⟨d, M2, rfl, p⟩
    | fl xs => exact ⟨_, _, rfl, p⟩
theorem toDp_dat {P : D → Mem → Prop} {d : D} {M : Mem} : toDp P (.dat d) M ↔ P d M := Iff.rfl
theorem toDp_fl {P : D → Mem → Prop} {xs : List D} {M : Mem} : toDp P (.fl xs) M ↔ P (.ref M.length) (M ++ [.lst xs]) := Iff.rfl
section
variable {P : List D → Mem → Prop}
theorem ok_aNil : Ok (aNil σ M) P ↔ P [] M := ok_some
theorem ok_aCons {f : FD} {g : FA} : Ok (aCons f g σ M) P ↔ Ok (f σ M) fun d M1 => Ok (g σ M1) fun ds M2 => P (d :: ds) M2 := by
  unfold aCons
  constructor
  · rintro ⟨a, M1, e, p⟩
    split at e
    · rename_i x M2 e1
      split at e
      · rename_i y M3 e2
        cases e
        exact ⟨x, M2, e1, y, _, e2, p⟩
      · cases e
    · cases e
  · rintro ⟨x, M2, e1, y, M3, e2, p⟩
    rw [e1]; dsimp only; rw [e2]; exact ⟨_, _, rfl, p⟩
end
section
variable {P : List EV → Mem → Prop}
theorem ok_eNil : Ok (eNil σ M) P ↔ P [] M := ok_some
theorem ok_eCons {f : FE} {g : FAE} : Ok (eCons f g σ M) P ↔ Ok (f σ M) fun d M1 => Ok (g σ M1) fun ds M2 => P (d :: ds) M2 := by
  unfold eCons
  constructor
  · rintro ⟨a, M1, e, p⟩
    split at e
    · rename_i x M2 e1
      split at e
      · rename_i y M3 e2
        cases e
        exact ⟨x, M2, e1, y, _, e2, p⟩
      · cases e
    · cases e
  · rintro ⟨x, M2, e1, y, M3, e2, p⟩
    rw [e1]; dsimp only; rw [e2]; exact ⟨_, _, rfl, p⟩
end
theorem ok_lst {a : FA} : Ok (fLst a σ M) P ↔ Ok (a σ M) fun ds M1 => ds.length ≤ sizeLine ∧ P (.fl ds) M1 := by
  unfold fLst
  constructor
  · rintro ⟨x, M1, e, p⟩
    split at e
    · rename_i ds M2 e1
      split at e
      · rename_i hz; cases e; exact ⟨ds, _, e1, hz, p⟩
      · cases e
    · cases e
  · rintro ⟨ds, M1, e1, hz, p⟩
    rw [e1]; dsimp only; rw [if_pos hz]; exact ⟨_, _, rfl, p⟩
theorem ok_B {k : KB} {a : FAE} : Ok (fB k a σ M) P ↔ Ok (a σ M) fun xs M1 => Ok (k xs M1) P := by
  unfold fB
  constructor
  · rintro ⟨x, M1, e, p⟩
    split at e
    · rename_i ds M2 e1; exact ⟨ds, _, e1, x, M1, e, p⟩
    · cases e
  · rintro ⟨ds, M1, e1, p⟩
    rw [e1]; exact p
theorem ok_call {m : FF} {a : FA} : Ok (fCall m a σ M) P ↔ Ok (a σ M) fun ds M1 => Ok (m ds M1) fun d M2 => P (.dat d) M2 := by
  unfold fCall
  constructor
  · rintro ⟨x, M1, e, p⟩
    split at e
    · rename_i ds M2 e1
      split at e
      · rename_i d M3 e2; cases e; exact ⟨ds, _, e1, d, _, e2, p⟩
      · cases e
    · cases e
  · rintro ⟨ds, M1, e1, d, M2, e2, p⟩
    rw [e1]; dsimp only; rw [e2]; exact ⟨_, _, rfl, p⟩
theorem ok_M {k : KM} {a : FA} : Ok (fM k f a σ M) P ↔ Ok (f σ M) fun x M1 => (∃ xs, lstOf M1 x = some xs) ∧ Ok (a σ M1) fun ds M2 => Ok (k x ds M2) fun d M3 => P (.dat d) M3 := by
  unfold fM
  constructor
  · rintro ⟨x, M1, e, p⟩
    split at e
    · rename_i y M2 e1
      split at e
      · rename_i xs e2
        split at e
        · rename_i ds M3 e3
          split at e
          · rename_i d M4 e4; cases e; exact ⟨y, _, e1, ⟨xs, e2⟩, ds, _, e3, d, _, e4, p⟩
          · cases e
        · cases e
      · cases e
    · cases e
  · rintro ⟨y, M1, e1, ⟨xs, e2⟩, ds, M2, e3, d, M3, e4, p⟩
    rw [e1]; dsimp only; rw [e2]; dsimp only; rw [e3]; dsimp only; rw [e4]; exact ⟨_, _, rfl, p⟩
section
variable {P : Option Int → Mem → Prop}
theorem ok_oNone : Ok (oNone σ M) P ↔ P none M := ok_some
def intP (P : Option Int → Mem → Prop) : EV → Mem → Prop
  | .dat (.int i), M => P (some i) M
  | _, _ => False
theorem intP_int {i : Int} {M : Mem} : intP P (.dat (.int i)) M ↔ P (some i) M := Iff.rfl
theorem ok_oSome : Ok (oSome f σ M) P ↔ Ok (f σ M) (intP P) := by
  unfold oSome
  constructor
  · rintro ⟨x, M1, e, p⟩
    split at e
    · rename_i i M2 e1; cases e; exact ⟨_, _, e1, p⟩
    · cases e
  · rintro ⟨x, M1, e1, p⟩
    rw [e1]
    cases x with
    | fl xs => exact p.elim
    | dat d =>
      cases d with
      | int i => exact ⟨_, _, rfl, p⟩
      | _ => exact p.elim
end
theorem ok_sl {l h : FO} : Ok (fSl f l h σ M) P ↔ Ok (f σ M) fun x M1 => Ok (l σ M1) fun lo M2 => Ok (h σ M2) fun hi M3 => Ok (kSl x lo hi M3) P := by
  unfold fSl
  constructor
  · rintro ⟨x, M1, e, p⟩
    split at e
    · rename_i y M2 e1
      split at e
      · rename_i lo M3 e2
        split at e
        · rename_i hi M4 e3; exact ⟨y, _, e1, lo, _, e2, hi, _, e3, x, M1, e, p⟩
        · cases e
      · cases e
    · cases e
  · rintro ⟨y, M1, e1, lo, M2, e2, hi, M3, e3, p⟩
    rw [e1]; dsimp only; rw [e2]; dsimp only; rw [e3]; exact p
def blP (P : Bool → Mem → Prop) : EV → Mem → Prop
  | .dat (.bl k), M => P k M
  | _, _ => False
theorem blP_bl {P : Bool → Mem → Prop} {k : Bool} {M : Mem} : blP P (.dat (.bl k)) M ↔ P k M := Iff.rfl
theorem ok_tst {P : Bool → Mem → Prop} : Ok (tst f σ M) P ↔ Ok (f σ M) (blP P) := by
  unfold tst
  constructor
  · rintro ⟨x, M1, e, p⟩
    split at e
    · rename_i i M2 e1; cases e; exact ⟨_, _, e1, p⟩
    · cases e
  · rintro ⟨x, M1, e1, p⟩
    rw [e1]
    cases x with
    | fl xs => exact p.elim
    | dat d =>
      cases d with
      | bl i => exact ⟨_, _, rfl, p⟩
      | _ => exact p.elim
section
variable {P : Bool → Mem → Prop} {s t : FT}
theorem ok_tTrue : Ok (tTrue σ M) P ↔ P true M := ok_some
theorem ok_tAnd : Ok (tAndF s t σ M) P ↔ Ok (s σ M) fun k M1 => if k then Ok (t σ M1) P else P false M1 := by
  unfold tAndF
  constructor
  · rintro ⟨x, M1, e, p⟩
    split at e
    · rename_i M2 e1; exact ⟨true, M2, e1, by dsimp only; rw [if_pos rfl]; exact ⟨x, M1, e, p⟩⟩
    · rename_i hn
      cases x with
      | true => exact absurd e (hn M1)
      | false => exact ⟨false, M1, e, by simpa using p⟩
  · rintro ⟨x, M1, e1, p⟩
    rw [e1]
    cases x with
    | true => simpa using p
    | false => exact ⟨false, M1, rfl, by simpa using p⟩
theorem ok_tNot : Ok (tNotF s σ M) P ↔ Ok (s σ M) fun k M1 => P (!k) M1 := by
  unfold tNotF
  constructor
  · rintro ⟨x, M1, e, p⟩
    split at e
    · rename_i k M2 e1; cases e; exact ⟨k, _, e1, p⟩
    · cases e
  · rintro ⟨k, M1, e1, p⟩
    rw [e1]; exact ⟨_, _, rfl, p⟩
end
end
section
variable {σ : Sd} {M : Mem} {f g : FS} {P : Out → Sd → Mem → Prop}
def nxP (k : Sd → Mem → Prop) (P : Out → Sd → Mem → Prop) : Out → Sd → Mem → Prop
  | .nx, σ, M => k σ M
  | o, σ, M => P o σ M
theorem nxP_nx {k : Sd → Mem → Prop} : nxP k P .nx σ M ↔ k σ M := Iff.rfl
theorem nxP_ret {k : Sd → Mem → Prop} {d : D} : nxP k P (.ret d) σ M ↔ P (.ret d) σ M := Iff.rfl
theorem oks_nil : OkS (sNil σ M) P ↔ P .nx σ M := oks_some
theorem oks_seq : OkS (sSeq f g σ M) P ↔ OkS (f σ M) (nxP (fun σ1 M1 => OkS (g σ1 M1) P) P) := by
  unfold sSeq
  constructor
  · rintro ⟨o, σ1, M1, e, p⟩
    split at e
    · rename_i σ2 M2 e1; exact ⟨_, _, _, e1, o, σ1, M1, e, p⟩
    · rename_i hn
      refine ⟨o, σ1, M1, e, ?_⟩
      cases o with
      | nx => exact absurd e (hn σ1 M1)
      | _ => exact p
  · rintro ⟨o, σ1, M1, e1, p⟩
    rw [e1]
    cases o with
    | nx => exact p
    | _ => exact ⟨_, _, _, rfl, p⟩
theorem oks_if {c : FT} : OkS (sIf c f g σ M) P ↔ Ok (c σ M) fun k M1 => if k then OkS (f σ M1) P else OkS (g σ M1) P := by
  unfold sIf
  constructor
  · rintro ⟨o, σ1, M1, e, p⟩
    split at e
    · rename_i M2 e1; exact ⟨_, _, e1, by dsimp only; rw [if_pos rfl]; exact ⟨o, σ1, M1, e, p⟩⟩
    · rename_i M2 e1; exact ⟨_, _, e1, by simpa using ⟨o, σ1, M1, e, p⟩⟩
    · cases e
  · rintro ⟨x, M1, e1, p⟩
    rw [e1]
    cases x with
    | true => simpa using p
    | false => simpa using p
theorem oks_ret {h : FE} : OkS (sRet h σ M) P ↔ Ok (h σ M) (toDp fun d M1 => P (.ret d) σ M1) := by
  rw [← ok_toD]
  unfold sRet
  constructor
  · rintro ⟨o, σ1, M1, e, p⟩
    split at e
    · rename_i d M2 e1; cases e; exact ⟨_, _, e1, p⟩
    · cases e
  · rintro ⟨x, M1, e1, p⟩
    rw [e1]; exact ⟨_, _, _, rfl, p⟩
theorem oks_set {i : Nat} {h : FE} : OkS (sSet i h σ M) P ↔ Ok (h σ M) (toDp fun d M1 => P .nx (σ.set i (some d)) M1) := by
  rw [← ok_toD]
  unfold sSet
  constructor
  · rintro ⟨o, σ1, M1, e, p⟩
    split at e
    · rename_i d M2 e1; cases e; exact ⟨_, _, e1, p⟩
    · cases e
  · rintro ⟨x, M1, e1, p⟩
    rw [e1]; exact ⟨_, _, _, rfl, p⟩
theorem oks_expr {h : FE} : OkS (sExpr h σ M) P ↔ Ok (h σ M) fun _ M1 => P .nx σ M1 := by
  unfold sExpr
  constructor
  · rintro ⟨o, σ1, M1, e, p⟩
    split at e
    · rename_i d M2 e1; cases e; exact ⟨_, _, e1, p⟩
    · cases e
  · rintro ⟨x, M1, e1, p⟩
    rw [e1]; exact ⟨_, _, _, rfl, p⟩
theorem oks_sub {v o i : FE} : OkS (sSub v o i σ M) P ↔ Ok (v σ M) (toDp fun d M1 => Ok (o σ M1) fun x M2 => Ok (i σ M2) (toDp fun j M3 => ∃ M4, kSetL x j d M3 = some M4 ∧ P .nx σ M4)) := by
  rw [← ok_toD]
  unfold sSub
  constructor
  · rintro ⟨o, σ1, M1, e, p⟩
    split at e
    · rename_i d M2 e1
      split at e
      · rename_i x M3 e2
        split at e
        · rename_i j M4 e3
          split at e
          · rename_i M5 e4
            cases e
            refine ⟨_, _, e1, _, _, e2, ?_⟩
            dsimp only; rw [← ok_toD]
            exact ⟨_, _, e3, _, e4, p⟩
          · cases e
        · cases e
      · cases e
    · cases e
  · rintro ⟨d, M1, e1, x, M2, e2, p⟩
    rw [← ok_toD] at p
    obtain ⟨j, M3, e3, M4, e4, p⟩ := p
    rw [e1]; dsimp only; rw [e2]; dsimp only; rw [e3]; dsimp only; rw [e4]; exact ⟨_, _, _, rfl, p⟩
/-- a def's value -/
theorem ok_def {n : Nat} {ds : List D} {Q : D → Mem → Prop} : Ok (fDef n f ds M) Q ↔ OkS (f (ds.map some ++ List.replicate (n - ds.length) none) M) fun o _ M1 => match o with | .ret d => Q d M1 | .nx => Q .non M1 | _ => False := by
  unfold fDef
  constructor
  · rintro ⟨o, M1, e, p⟩
    split at e
    · rename_i d σ1 M2 e1; cases e; exact ⟨_, _, _, e1, p⟩
    · rename_i σ1 M2 e1; cases e; exact ⟨_, _, _, e1, p⟩
    · cases e
  · rintro ⟨o, σ1, M1, e1, p⟩
    rw [e1]
    cases o with
    | ret d => exact ⟨_, _, rfl, p⟩
    | nx => exact ⟨_, _, rfl, p⟩
    | brk => exact p.elim
    | cnt => exact p.elim
/-- a while by its measure -/
theorem oks_while {c : FT} {b : FS} (I : Nat → Sd → Mem → Prop) (hs : ∀ m σ M, I m σ M → Ok (c σ M) fun k M1 => if k then OkS (b σ M1) fun o σ2 M2 => match o with | .nx => ∃ m', m' < m ∧ I m' σ2 M2 | .cnt => ∃ m', m' < m ∧ I m' σ2 M2 | .brk => P .nx σ2 M2 | .ret d => P (.ret d) σ2 M2 else P .nx σ M1) :
    ∀ (n m : Nat) (σ : Sd) (M : Mem), m < n → I m σ M → OkS (whileF c b n σ M) P
  | 0, m, σ, M, h, _ => absurd h (Nat.not_lt_zero _)
  | n + 1, m, σ, M, h, hi => by
    obtain ⟨k, M1, e, q⟩ := hs m σ M hi
    unfold whileF
    rw [e]
    cases k with
    | false => exact ⟨_, _, _, rfl, by simpa using q⟩
    | true =>
      rw [if_pos rfl] at q
      obtain ⟨o, σ2, M2, e2, q⟩ := q
      dsimp only
      rw [e2]
      cases o with
      | nx => obtain ⟨m', hm, q⟩ := q; exact oks_while I hs n m' σ2 M2 (by omega) q
      | cnt => obtain ⟨m', hm, q⟩ := q; exact oks_while I hs n m' σ2 M2 (by omega) q
      | brk => exact ⟨_, _, _, rfl, q⟩
      | ret d => exact ⟨_, _, _, rfl, q⟩
/-- a for by what holds with a rest of the things -/
theorem oks_loop {g : FG} {b : FS} {all : List D} {gd : Option (Mem → Prop)} (I : List D → Sd → Mem → Prop)
    (hs : ∀ x r σ M, I (x :: r) σ M → grdOk gd all M ∧ ∃ σ1, g x σ = some σ1 ∧ OkS (b σ1 M) fun o σ2 M2 => match o with | .nx => I r σ2 M2 | .cnt => I r σ2 M2 | .brk => P .nx σ2 M2 | .ret d => P (.ret d) σ2 M2)
    (he : ∀ σ M, I [] σ M → grdOk gd all M ∧ P .nx σ M) : ∀ (xs : List D) (σ : Sd) (M : Mem), I xs σ M → OkS (loopF g b all gd xs σ M) P
  | [], σ, M, hi => by
    unfold loopF
    obtain ⟨h1, h2⟩ := he σ M hi
    rw [if_pos h1]
    exact ⟨_, _, _, rfl, h2⟩
  | x :: r, σ, M, hi => by
    unfold loopF
    obtain ⟨h1, σ1, e1, o, σ2, M2, e2, q⟩ := hs x r σ M hi
    rw [if_pos h1, e1]
    dsimp only
    rw [e2]
    cases o with
    | nx => exact oks_loop I hs he r σ2 M2 q
    | cnt => exact oks_loop I hs he r σ2 M2 q
    | brk => exact ⟨_, _, _, rfl, q⟩
    | ret d => exact ⟨_, _, _, rfl, q⟩
theorem oks_for {i : FI} {g : FG} {b : FS} : OkS (sFor i g b σ M) P ↔ ∃ xs gd M1, i σ M = some (xs, gd, M1) ∧ OkS (loopF g b xs gd xs σ M1) P := by
  unfold sFor
  constructor
  · rintro ⟨o, σ1, M1, e, p⟩
    split at e
    · rename_i xs gd M2 e1; exact ⟨_, _, _, e1, _, _, _, e, p⟩
    · cases e
  · rintro ⟨xs, gd, M1, e1, p⟩
    rw [e1]; exact p
theorem ok_compL {g : FG} {tc : FT} {te : FE} {all : List D} {gd : Option (Mem → Prop)} (I : List D → List D → Mem → Prop)
    (hs : ∀ x r acc M, I (x :: r) acc M → grdOk gd all M ∧ ∃ σ1, g x σ = some σ1 ∧ Ok (tc σ1 M) fun k M1 => if k then Ok (te σ1 M1) (toDp fun d M2 => I r (acc ++ [d]) M2) else I r acc M1)
    {Q : List D → Mem → Prop} (he : ∀ acc M, I [] acc M → grdOk gd all M ∧ Q acc M) : ∀ (xs acc : List D) (M : Mem), I xs acc M → Ok (compL g tc te σ all gd xs M) fun ys M1 => Q (acc ++ ys) M1
  | [], acc, M, hi => by
    unfold compL
    obtain ⟨h1, h2⟩ := he acc M hi
    rw [if_pos h1]
    exact ⟨_, _, rfl, by simpa using h2⟩
  | x :: r, acc, M, hi => by
    unfold compL
    obtain ⟨h1, σ1, e1, k, M1, e2, q⟩ := hs x r acc M hi
    rw [if_pos h1, e1]
    dsimp only
    rw [e2]
    cases k with
    | false => exact ok_compL I hs he r acc M1 (by simpa using q)
    | true =>
      rw [if_pos rfl, ← ok_toD] at q
      obtain ⟨d, M2, e3, q⟩ := q
      dsimp only
      rw [e3]
      obtain ⟨ys, M3, e4, p⟩ := ok_compL I hs he r (acc ++ [d]) M2 q
      dsimp only
      rw [e4]
      exact ⟨_, _, rfl, by simpa using p⟩
theorem ok_comp {own : List Nat} {i : FI} {g : FG} {tc : FT} {te : FE} {Q : EV → Mem → Prop} : Ok (fComp own i g tc te σ M) Q ↔ ∃ xs gd M1, i σ M = some (xs, gd, M1) ∧ xs.length ≤ sizeLine ∧ Ok (compL g tc te (clrD own σ) xs gd xs M1) fun ys M2 => Q (.fl ys) M2 := by
  unfold fComp
  constructor
  · rintro ⟨o, M1, e, p⟩
    split at e
    · rename_i xs gd M2 e1
      split at e
      · rename_i hz
        split at e
        · rename_i ys M3 e2; cases e; exact ⟨_, _, _, e1, hz, _, _, e2, p⟩
        · cases e
      · cases e
    · cases e
  · rintro ⟨xs, gd, M1, e1, hz, ys, M2, e2, p⟩
    rw [e1]; dsimp only; rw [if_pos hz, e2]; exact ⟨_, _, rfl, p⟩
/-- what is walked -/
theorem iSeq_of {h : FE} {x : EV} {M1 : Mem} {xs : List D} (e : h σ M = some (x, M1)) (e2 : seqOf M1 x = some xs) : iSeq h σ M = some (xs, gdOf x xs, M1) := by
  unfold iSeq; rw [e]; dsimp only; rw [e2]
theorem iRange1_of {a : FA} {M1 : Mem} {j : Int} (e : a σ M = some ([.int j], M1)) (h1 : 0 ≤ j) (h2 : j < 2 ^ 62) : iRange a σ M = some ((List.range j.toNat).map fun (k : Nat) => D.int k, none, M1) := by
  unfold iRange; rw [e]; dsimp only; rw [if_pos ⟨by omega, h2⟩]
end
section
variable {M : Mem} {P : EV → Mem → Prop} {i j : Int}
theorem k_plus : Ok (kPlus (.dat (.int i)) (.dat (.int j)) M) P ↔ P (.dat (.int (i + j))) M := ok_some
theorem k_sub : Ok (kSub (.dat (.int i)) (.dat (.int j)) M) P ↔ P (.dat (.int (i - j))) M := ok_some
theorem k_mul : Ok (kMul (.dat (.int i)) (.dat (.int j)) M) P ↔ cMul i j = true ∧ P (.dat (.int (i * j))) M := by
  unfold kMul kI; dsimp only; split
  · rename_i h; rw [ok_some]; simp [h]
  · rename_i h; rw [ok_none]; simp [h]
theorem k_mod : Ok (kMod (.dat (.int i)) (.dat (.int j)) M) P ↔ 0 < j ∧ P (.dat (.int (i % j))) M := by
  unfold kMod kI; dsimp only; split
  · rename_i h; rw [ok_some]; simp at h; simp [h]
  · rename_i h; rw [ok_none]; simp at h; simp; intro h'; omega
theorem k_div : Ok (kDiv (.dat (.int i)) (.dat (.int j)) M) P ↔ (0 < j ∧ j < 1073741824) ∧ P (.dat (.int (i / j))) M := by
  unfold kDiv kI; dsimp only; split
  · rename_i h; rw [ok_some]; simp at h; simp [h]
  · rename_i h; rw [ok_none]; simp at h; simp; intro h' h2; have := h h'; omega
theorem k_pow : Ok (kPow (.dat (.int i)) (.dat (.int j)) M) P ↔ (0 ≤ j ∧ j ≤ 1000000 ∧ i.natAbs < 2 ^ 64) ∧ P (.dat (.int (i ^ j.toNat))) M := by
  unfold kPow kI; dsimp only; split
  · rename_i h; rw [ok_some]; simp only [Bool.and_eq_true, decide_eq_true_eq] at h; simp [h]
  · rename_i h; rw [ok_none]; simp only [Bool.and_eq_true, decide_eq_true_eq, not_and] at h; simp only [false_iff, not_and]; intro ⟨a, b, c⟩; exact absurd c (h ⟨a, b⟩)
theorem k_lt : Ok (kLt (.dat (.int i)) (.dat (.int j)) M) P ↔ P (.dat (.bl (decide (i < j)))) M := ok_some
theorem k_le : Ok (kLe (.dat (.int i)) (.dat (.int j)) M) P ↔ P (.dat (.bl (decide (i ≤ j)))) M := ok_some
theorem k_ge : Ok (kGe (.dat (.int i)) (.dat (.int j)) M) P ↔ P (.dat (.bl (decide (j ≤ i)))) M := ok_some
theorem k_eq : Ok (kEq (.dat (.int i)) (.dat (.int j)) M) P ↔ P (.dat (.bl (decide (i = j)))) M := by
  have : kEq (.dat (.int i)) (.dat (.int j)) M = some (.dat (.bl (decide (V.int i = V.int j))), M) := rfl
  rw [this, ok_some]; simp
theorem k_ne : Ok (kNe (.dat (.int i)) (.dat (.int j)) M) P ↔ P (.dat (.bl (decide (i ≠ j)))) M := by
  have : kNe (.dat (.int i)) (.dat (.int j)) M = some (.dat (.bl (!decide (V.int i = V.int j))), M) := rfl
  rw [this, ok_some]; simp
theorem k_neNil {x : EV} {xs : List D} (h : lstOf M x = some xs) (hx : ∀ d, x = .dat d → scalV d = none) : Ok (kNe x (.fl []) M) P ↔ P (.dat (.bl (!xs.isEmpty))) M := by
  have e1 : kEqS true x (.fl []) M = none := by cases x <;> rfl
  have e2 : kNe x (.fl []) M = some (.dat (.bl (!xs.isEmpty)), M) := by
    unfold kNe kOr; rw [e1]; unfold kNil; rw [h]; rfl
  rw [e2, ok_some]
theorem k_ix {x : EV} {xs : List D} {d : D} (h : seqOf M x = some xs) (hd : atI xs i = some d) (p : P (.dat d) M) : Ok (kIx x (.dat (.int i)) M) P := by
  have : kIx x (.dat (.int i)) M = some (.dat d, M) := by unfold kIx; dsimp only; rw [h]; dsimp only; rw [hd]
  rw [this, ok_some]; exact p
theorem at_nat {xs : List D} {k : Nat} {d : D} (h : xs[k]? = some d) : atI xs (k : Int) = some d := atI_nat h
theorem at_int {xs : List D} {i : Int} {d : D} (h0 : 0 ≤ i) (h : xs[i.toNat]? = some d) : atI xs i = some d := by
  have : i = ((i.toNat : Nat) : Int) := by omega
  rw [this]; exact atI_nat h
theorem k_len {x : EV} {xs : List D} (h : seqOf M x = some xs) : Ok (kLen [x] M) P ↔ P (.dat (.int xs.length)) M := by
  have : kLen [x] M = some (.dat (.int xs.length), M) := by unfold kLen; dsimp only; rw [h]
  rw [this, ok_some]
theorem k_tuple {x : EV} {xs : List D} (h : seqOf M x = some xs) : Ok (kTuple [x] M) P ↔ P (.dat (.tup xs)) M := by
  have : kTuple [x] M = some (.dat (.tup xs), M) := by unfold kTuple; dsimp only; rw [h]
  rw [this, ok_some]
theorem k_abs : Ok (kAbs [.dat (.int i)] M) P ↔ P (.dat (.int (if i < 0 then -i else i))) M := ok_some
theorem k_intb {k : Bool} : Ok (kInt [.dat (.bl k)] M) P ↔ P (.dat (.int (if k then 1 else 0))) M := ok_some
theorem sl_lst {x : EV} {xs : List D} {lo hi : Option Int} (h : lstOf M x = some xs) (ht : tupOf x = none) : Ok (kSl x lo hi M) P ↔ P (.fl (cutD xs lo hi)) M := by
  have : kSl x lo hi M = some (.fl (cutD xs lo hi), M) := by unfold kSl; rw [ht]; dsimp only; rw [h]
  rw [this, ok_some]
theorem seq_tup {xs : List D} : seqOf M (.dat (.tup xs)) = some xs := rfl
theorem seq_fl {xs : List D} : seqOf M (.fl xs) = some xs := rfl
theorem lst_fl {xs : List D} : lstOf M (.fl xs) = some xs := rfl
theorem lst_ref {n : Nat} {xs : List D} (h : M[n]? = some (.lst xs)) : lstOf M (.dat (.ref n)) = some xs := by unfold lstOf; dsimp only; rw [h]
theorem lst_fro {n : Nat} {xs : List D} (h : M[n]? = some (.fro xs)) : lstOf M (.dat (.ref n)) = some xs := by unfold lstOf; dsimp only; rw [h]
theorem seq_ref {n : Nat} {xs : List D} (h : M[n]? = some (.lst xs)) : seqOf M (.dat (.ref n)) = some xs := lst_ref h
theorem seq_fro {n : Nat} {xs : List D} (h : M[n]? = some (.fro xs)) : seqOf M (.dat (.ref n)) = some xs := lst_fro h
theorem k_append {n : Nat} {xs : List D} {d : D} {Q : D → Mem → Prop} (h : M[n]? = some (.lst xs)) (hz : xs.length < sizeLine) : Ok (kAppend (.dat (.ref n)) [d] M) Q ↔ Q .non (M.set n (.lst (xs ++ [d]))) := by
  have : kAppend (.dat (.ref n)) [d] M = some (.non, M.set n (.lst (xs ++ [d]))) := by unfold kAppend; dsimp only; rw [h]; dsimp only; rw [if_pos hz]
  rw [this, ok_some]
theorem k_pop0 {n : Nat} {x : D} {xs : List D} {Q : D → Mem → Prop} (h : M[n]? = some (.lst (x :: xs))) : Ok (kPop (.dat (.ref n)) [.int 0] M) Q ↔ Q x (M.set n (.lst xs)) := by
  have : kPop (.dat (.ref n)) [.int 0] M = some (x, M.set n (.lst xs)) := by
    unfold kPop; dsimp only; rw [h]; dsimp only
    have e : ixN (x :: xs).length 0 = some 0 := by unfold ixN; rw [if_pos (by omega), if_pos (by simp)]; rfl
    rw [e]; dsimp only [List.getElem?_cons_zero]; rw [if_pos (by decide)]; rfl
  rw [this, ok_some]
theorem kSetL_of {n k : Nat} {xs : List D} {d : D} (h : M[n]? = some (.lst xs)) (hk : k < xs.length) : kSetL (.dat (.ref n)) (.int k) d M = some (M.set n (.lst (xs.set k d))) := by
  unfold kSetL; dsimp only; rw [h]; dsimp only
  have e : ixN xs.length (k : Int) = some k := by unfold ixN; rw [if_pos (by omega), if_pos (by omega)]; simp
  rw [e]
end
/-- a call that forgets -/
theorem ok_trim {m : FF} {ds : List D} {M : Mem} {Q : D → Mem → Prop} (h : Ok (m ds M) fun d M1 => (D.und M.length d = true ∧ M.length ≤ M1.length ∧ ∀ (j : Nat) u, j < M.length → M1[j]? = some u → MO.und M.length u = true) ∧ Q d (M1.take M.length)) : Ok (fTrim m ds M) Q := by
  obtain ⟨d, M1, e, ⟨h1, h2, h3⟩, q⟩ := h
  unfold fTrim
  rw [e]
  dsimp only
  rw [if_pos]
  · exact ⟨_, _, rfl, q⟩
  · simp only [Bool.and_eq_true, decide_eq_true_eq, List.all_eq_true]
    refine ⟨⟨h1, fun u hu => ?_⟩, h2⟩
    obtain ⟨j, hj⟩ := List.getElem?_of_mem hu
    have hlt : j < M.length := by
      have := (List.getElem?_eq_some_iff.mp hj).1
      rw [List.length_take] at this; omega
    rw [List.getElem?_take_of_lt hlt] at hj
    exact h3 j u hlt hj
theorem ok_pure {m : FF} {ds : List D} {M : Mem} {Q : D → Mem → Prop} (h0 : D.unds 0 ds = true) (h : Ok (m ds []) fun d _ => D.und 0 d = true ∧ Q d M) : Ok (fPure m ds M) Q := by
  obtain ⟨d, M1, e, h1, q⟩ := h
  unfold fPure
  rw [if_pos h0, e]
  dsimp only
  rw [if_pos h1]
  exact ⟨_, _, rfl, q⟩
end L3

set_option Elab.async false
set_option linter.all false
set_option maxRecDepth 100000
namespace L3
open PySem PySem.Spec PyProof.Rows L2
section
variable {prog : Program} {w : World} {A : Around} {E : Value → Shared → Prop} {s : Shared}
theorem TIt.but {h h' : Heap} {a b t : Addr} {i : Nat} (x : h.IsTupleIter a t i) (hs : Heap.ExtBut b h h') (n : a ≠ b) : h'.IsTupleIter a t i := x.extBut hs n
theorem Tup.but {h h' : Heap} {a b : Addr} {its : Array Value} (x : h.IsTuple a its) (hs : Heap.ExtBut b h h') (n : a ≠ b) : h'.IsTuple a its := x.extBut hs n
theorem nextT_item {it t : Addr} {i : Nat} {its : Array Value} {x : Value} {Q : Value → Shared → Prop} (I : s.heap.IsTupleIter it t i) (T : s.heap.IsTuple t its) (hx : its[i]? = some x)
    (q : ∀ h', h'.IsTupleIter it t (i + 1) → Heap.SameBut it s.heap h' → Q x { s with heap := h' }) : wpAny (model prog w) A (Builtin.SmallTypes.nextOf (.ref it)) Q E s := by
  obtain ⟨o, O, C, FD⟩ := id I
  obtain ⟨u, U, _, m, G⟩ := T
  unfold Builtin.SmallTypes.nextOf
  refine wpAny_bind (wpAny_callSpecial?_slot (name := Str.ofString "__next__") I.typeIs PySem.F.slot_tuple_iterator_next (wpAny_call_entry PySem.F.slot_tuple_iterator_next I.typeIs PySem.F.entry_tuple_iterator_next ?_ (PySem.F.args_tuple_iterator_next_1 _)))
  refine wpAny_bind (m := field (.ref it) 0) (wpAny_field O FD (x := .ref t) rfl ?_)
  rw [if_neg (show ¬ ((Value.ref t == Value.none) = true) by exact Bool.false_ne_true)]
  refine wpAny_bind (m := field (.ref it) 1) (wpAny_field O FD (x := .int i 0) rfl ?_)
  refine wpAny_bind (m := seqItems? (.ref t)) (wpAny_seqItems U G ?_)
  simp only [hx, Int.toNat_natCast]
  refine wpAny_bind (wpAny_setField O FD (by simp) (wpAny_pure ⟨x, rfl, wpAny_pure (q _ ⟨_, Heap.get?_update_self _ O (Obj.isFreed_of_fields (Obj.data_mapFields FD _)), (Obj.cls_mapFields ..).trans C, ?_⟩ (Heap.SameBut.update ..))⟩))
  rw [Obj.data_mapFields FD]
  simp [rawInt]
theorem nextT_end {it t : Addr} {i : Nat} {its : Array Value} {Q : Value → Shared → Prop} (hh : A.handled = none) (I : s.heap.IsTupleIter it t i) (T : s.heap.IsTuple t its) (hx : its[i]? = none)
    (q : ∀ h' e, Heap.ExtBut it s.heap h' → (∃ o, h'.get? e = some o ∧ o.cls = .type "StopIteration") → E (.ref e) { s with heap := h' }) : wpAny (model prog w) A (Builtin.SmallTypes.nextOf (.ref it)) Q E s := by
  obtain ⟨o, O, C, FD⟩ := id I
  obtain ⟨u, U, _, m, G⟩ := T
  unfold Builtin.SmallTypes.nextOf
  refine wpAny_bind (wpAny_callSpecial?_slot (name := Str.ofString "__next__") I.typeIs PySem.F.slot_tuple_iterator_next (wpAny_call_entry PySem.F.slot_tuple_iterator_next I.typeIs PySem.F.entry_tuple_iterator_next ?_ (PySem.F.args_tuple_iterator_next_1 _)))
  refine wpAny_bind (m := field (.ref it) 0) (wpAny_field O FD (x := .ref t) rfl ?_)
  rw [if_neg (show ¬ ((Value.ref t == Value.none) = true) by exact Bool.false_ne_true)]
  refine wpAny_bind (m := field (.ref it) 1) (wpAny_field O FD (x := .int i 0) rfl ?_)
  refine wpAny_bind (m := seqItems? (.ref t)) (wpAny_seqItems U G ?_)
  simp only [hx, Int.toNat_natCast]
  refine wpAny_bind (wpAny_rule (wpAny_bind (wpAny_setField O FD (by simp) ?_)))
  refine wpAny_bind (m := newExc (.type "StopIteration") []) ?_
  simp only [newTuple, newExc]
  refine wpAny_bind (wpAny_newObj_type (wpAny_bind (m := firstArgMember _ _) (wpAny_of_eq (a := Value.none) (by first | rfl | (simp only [firstArgMember]; rfl)) (wpAny_newObj_type ?_ (by size_fits)))) (by size_fits))
  simp only [raiseNew]
  refine wpAny_bind (wpAny_handled ?_)
  first | rw [hh] | rw [show A.in1.handled = none from hh]
  exact wpAny_bind (wpAny_pure (wpAny_throw (q _ _ (((Heap.SameBut.update ..).extBut.push _).push _) ⟨_, Heap.get?_push_size _ rfl, rfl⟩)))

/-- how a zip over two tuples stands -/
structure ZipT (h : Heap) (z TI TO i1 i2 t1 t2 : Addr) (f : Value) (k1 k2 : Nat) : Prop where
  z : IsZip h z TI TO f
  ti : IsPair h TI (.ref i1) (.ref i2)
  to : ∃ a b, IsPair h TO a b
  a : h.IsTupleIter i1 t1 k1
  b : h.IsTupleIter i2 t2 k2
theorem zipT_item {z TI TO i1 i2 t1 t2 : Addr} {k : Nat} {xs ys : Array Value} {x y : Value} {Q : Option Value → Shared → Prop} (D : ZipApart z TI TO i1 i2 t1 t2) (Z : ZipT s.heap z TI TO i1 i2 t1 t2 .none k k)
    (T1 : s.heap.IsTuple t1 xs) (T2 : s.heap.IsTuple t2 ys) (hx : xs[k]? = some x) (hy : ys[k]? = some y)
    (q : ∀ h', ZipT h' z TI TO i1 i2 t1 t2 (rawInt s.heap.objs.size) (k + 1) (k + 1) → IsPair h' s.heap.objs.size x y →
      (∀ c o, c ∉ [z, TO, i1, i2] → s.heap.get? c = some o → h'.get? c = some o) → Q (some (.ref s.heap.objs.size)) { s with heap := h' }) : wpAny (model prog w) A (pyNext (.ref z)) Q E s := by
  obtain ⟨Z0, P0, ⟨a, b, O0⟩, I1, I2⟩ := Z
  have ty : s.TypeIs (.ref z) "zip" := ⟨_, Z0, rfl⟩
  unfold pyNext
  refine wpAny_bind (wpAny_attempt (wpAny_callSpecial?_slot (name := Str.ofString "__next__") ty PySem.F.slot_zip_next (wpAny_call_entry PySem.F.slot_zip_next ty PySem.F.entry_zip_next ?_ (PySem.F.args_zip_next_1 _))))
  refine wpAny_bind (m := field (.ref z) 2) (wpAny_field Z0 rfl (x := .bool false) rfl ?_)
  refine wpAny_bind (m := field (.ref z) 3) (wpAny_field Z0 rfl (x := .ref TI) rfl ?_)
  refine wpAny_bind (wpAny_seqItems P0 rfl ?_)
  refine wpAny_bind (m := Builtin.SmallTypes.ownedTupleIsFree (.ref z)) ?_
  unfold Builtin.SmallTypes.ownedTupleIsFree
  refine wpAny_bind (wpAny_field Z0 rfl (x := .none) rfl (wpAny_pure ?_))
  simp only [if_true]
  refine wpAny_bind (wpAny_rule (wpAny_bind (wpAny_field Z0 rfl (x := .ref TO) rfl (wpAny_bind (wpAny_setField_rec Z0 (by simp) fun h1 Z1 e1 => ?_)))))
  replace Z1 : IsZip h1 z TI TO .ellipsis := Z1
  refine wpAny_bind ?_
  simp only [List.forIn_cons, List.forIn_nil, List.zipIdx_cons, List.zipIdx_nil]
  -- the first one's item is laid into the pair that is kept
  refine wpAny_bind (wpAny_bind (wpAny_onRaise (wpAny_bind (m := Builtin.SmallTypes.nextOf (.ref i1)) (nextT_item (TIt.but I1 e1.extBut D.i1z) (Tup.but T1 e1.extBut D.l1z) hx fun h2 J1 e2 => wpAny_pure ?_))))
  have O2 : IsPair h2 TO a b := e2.extBut _ _ D.TOi1 (e1.extBut _ _ D.TOz O0)
  refine wpAny_bind (wpAny_seqItems O2 rfl (wpAny_bind (wpAny_updateSeq_pair O2 fun h3 O3 e3 => wpAny_bind (wpAny_letGo (wpAny_pure ?_)))))
  replace O3 : IsPair h3 TO x b := O3
  -- then the other one's
  refine wpAny_bind (wpAny_bind (wpAny_onRaise (wpAny_bind (m := Builtin.SmallTypes.nextOf (.ref i2)) (nextT_item (TIt.but (TIt.but (TIt.but I2 e1.extBut D.i2z) e2.extBut D.i12.symm) e3.extBut D.TOi2.symm)
    (Tup.but (Tup.but (Tup.but T2 e1.extBut D.l2z) e2.extBut D.l2i1) e3.extBut D.l2TO) hy fun h4 J2 e4 => wpAny_pure ?_))))
  have O4 : IsPair h4 TO x b := e4.extBut _ _ D.TOi2 O3
  refine wpAny_bind (wpAny_seqItems O4 rfl (wpAny_bind (wpAny_updateSeq_pair O4 fun h5 O5 e5 => wpAny_bind (wpAny_letGo (wpAny_pure (wpAny_pure ?_))))))
  replace O5 : IsPair h5 TO x y := O5
  refine wpAny_bind (wpAny_seqItems O5 rfl (wpAny_bind (wpAny_newTuple ?_)))
  have sz : h5.objs.size = s.heap.objs.size := by rw [e5.1, e4.1, e3.1, e2.1, e1.1]
  have Z5 : IsZip h5 z TI TO .ellipsis := e5.extBut _ _ D.TOz.symm (e4.extBut _ _ D.i2z.symm (e3.extBut _ _ D.TOz.symm (e2.extBut _ _ D.i1z.symm Z1)))
  have kp : ∀ c o, c ∉ [z, TO, i1, i2] → s.heap.get? c = some o → h5.get? c = some o := fun c o n e => by
    simp only [List.mem_cons, List.not_mem_nil, or_false, not_or] at n
    obtain ⟨n1, n2, n3, n4⟩ := n
    exact e5.extBut _ _ n2 (e4.extBut _ _ n4 (e3.extBut _ _ n2 (e2.extBut _ _ n3 (e1.extBut _ _ n1 e))))
  have A5 : h5.IsTupleIter i1 t1 (k + 1) := TIt.but (TIt.but (TIt.but J1 e3.extBut D.TOi1.symm) e4.extBut D.i12) e5.extBut D.TOi1.symm
  have B5 : h5.IsTupleIter i2 t2 (k + 1) := TIt.but J2 e5.extBut D.TOi2.symm
  have zl : z < h5.objs.size := Heap.lt_size Z5
  refine wpAny_bind (m := Builtin.SmallTypes.ownedTupleHandOut (.ref z) (.ref h5.objs.size)) ?_
  unfold Builtin.SmallTypes.ownedTupleHandOut
  have Z6 : IsZip (h5.push { cls := .type "tuple", data := .seq #[x, y] }) z TI TO .ellipsis := Heap.get?_push_of_some _ Z5
  refine wpAny_bind (wpAny_setField_rec Z6 (by simp) fun h7 Z7 e7 => ?_)
  replace Z7 : IsZip h7 z TI TO (rawInt h5.objs.size) := Z7
  refine wpAny_setField_rec Z7 (by simp) fun h8 Z8 e8 => ?_
  replace Z8 : IsZip h8 z TI TO (rawInt h5.objs.size) := Z8
  have up : ∀ c o, c ≠ z → h5.get? c = some o → h8.get? c = some o := fun c o n e => e8.extBut _ _ n (e7.extBut _ _ n (Heap.get?_push_of_some _ e))
  have N8 : IsPair h8 h5.objs.size x y := e8.extBut _ _ (Nat.ne_of_gt zl) (e7.extBut _ _ (Nat.ne_of_gt zl) (Heap.get?_push_size _ rfl))
  rw [sz] at Z8 N8
  refine wpAny_pure ⟨_, rfl, ?_⟩
  rw [sz]
  refine wpAny_pure (q h8 ⟨Z8, up _ _ D.TIz (kp _ _ (by simp [D.TIz, D.TITO, D.TIi1, D.TIi2]) P0), ⟨_, _, up _ _ D.TOz O5⟩, ?_, ?_⟩ N8 fun c o n e => up c o (fun m => n (by simp [m])) (kp c o n e))
  · obtain ⟨o, e, r⟩ := A5; exact ⟨o, up _ _ D.i1z e, r⟩
  · obtain ⟨o, e, r⟩ := B5; exact ⟨o, up _ _ D.i2z e, r⟩
theorem zipT_end {z TI TO i1 i2 t1 t2 : Addr} {k : Nat} {xs ys : Array Value} {Q : Option Value → Shared → Prop} (hh : A.handled = none) (D : ZipApart z TI TO i1 i2 t1 t2) (Z : ZipT s.heap z TI TO i1 i2 t1 t2 .none k k)
    (T1 : s.heap.IsTuple t1 xs) (T2 : s.heap.IsTuple t2 ys) (he : xs[k]? = none ∨ ys[k]? = none)
    (q : ∀ h', (∀ c o, c ∉ [z, TO, i1, i2] → s.heap.get? c = some o → h'.get? c = some o) → Q none { s with heap := h' }) : wpAny (model prog w) A (pyNext (.ref z)) Q E s := by
  obtain ⟨Z0, P0, ⟨a, b, O0⟩, I1, I2⟩ := Z
  have ty : s.TypeIs (.ref z) "zip" := ⟨_, Z0, rfl⟩
  have stop : ∀ (e : Addr) (h' : Heap), (∀ c o, c ∉ [z, TO, i1, i2] → s.heap.get? c = some o → h'.get? c = some o) → (∃ o, h'.get? e = some o ∧ o.cls = .type "StopIteration") →
      wpAny (model prog w) A (do if (← isInstance (.ref e) (.type "StopIteration")) then pure none else throw (.ref e) : Sem (Option Value)) Q E { s with heap := h' } := fun e h' k1 ⟨o, e1, e2⟩ =>
    wpAny_bind (wpAny_isInstance (T := "StopIteration") (b := true) ⟨o, e1, e2⟩ isSubtype_stop (wpAny_pure (q h' k1)))
  unfold pyNext
  refine wpAny_bind (wpAny_attempt (wpAny_callSpecial?_slot (name := Str.ofString "__next__") ty PySem.F.slot_zip_next (wpAny_call_entry PySem.F.slot_zip_next ty PySem.F.entry_zip_next ?_ (PySem.F.args_zip_next_1 _))))
  refine wpAny_bind (m := field (.ref z) 2) (wpAny_field Z0 rfl (x := .bool false) rfl ?_)
  refine wpAny_bind (m := field (.ref z) 3) (wpAny_field Z0 rfl (x := .ref TI) rfl ?_)
  refine wpAny_bind (wpAny_seqItems P0 rfl ?_)
  refine wpAny_bind (m := Builtin.SmallTypes.ownedTupleIsFree (.ref z)) ?_
  unfold Builtin.SmallTypes.ownedTupleIsFree
  refine wpAny_bind (wpAny_field Z0 rfl (x := .none) rfl (wpAny_pure ?_))
  simp only [if_true]
  refine wpAny_bind (wpAny_rule (wpAny_bind (wpAny_field Z0 rfl (x := .ref TO) rfl (wpAny_bind (wpAny_setField_rec Z0 (by simp) fun h1 Z1 e1 => ?_)))))
  replace Z1 : IsZip h1 z TI TO .ellipsis := Z1
  refine wpAny_bind ?_
  simp only [List.forIn_cons, List.forIn_nil, List.zipIdx_cons, List.zipIdx_nil]
  cases hx : xs[k]? with
  | none =>
    refine wpAny_bind (wpAny_bind (wpAny_onRaise (wpAny_bind (m := Builtin.SmallTypes.nextOf (.ref i1)) (nextT_end hh (TIt.but I1 e1.extBut D.i1z) (Tup.but T1 e1.extBut D.l1z) hx fun h2 e e2 he => ?_))))
    obtain ⟨oe, o1, o2⟩ := he
    have Z2 : IsZip h2 z TI TO .ellipsis := e2 _ _ D.i1z.symm Z1
    have ne : e ≠ z := fun m => by subst m; rw [Z2] at o1; cases o1; simp at o2
    refine wpAny_setField_rec Z2 (by simp) fun h3 _ e3 => stop e h3 (fun c o n x => ?_) ⟨oe, e3.extBut _ _ ne o1, o2⟩
    simp only [List.mem_cons, List.not_mem_nil, or_false, not_or] at n
    exact e3.extBut _ _ n.1 (e2 _ _ n.2.2.1 (e1.extBut _ _ n.1 x))
  | some x =>
    have hy : ys[k]? = none := by
      rcases he with m | m
      · rw [hx] at m; cases m
      · exact m
    refine wpAny_bind (wpAny_bind (wpAny_onRaise (wpAny_bind (m := Builtin.SmallTypes.nextOf (.ref i1)) (nextT_item (TIt.but I1 e1.extBut D.i1z) (Tup.but T1 e1.extBut D.l1z) hx fun h2 J1 e2 => wpAny_pure ?_))))
    have O2 : IsPair h2 TO a b := e2.extBut _ _ D.TOi1 (e1.extBut _ _ D.TOz O0)
    refine wpAny_bind (wpAny_seqItems O2 rfl (wpAny_bind (wpAny_updateSeq_pair O2 fun h3 O3 e3 => wpAny_bind (wpAny_letGo (wpAny_pure ?_)))))
    refine wpAny_bind (wpAny_bind (wpAny_onRaise (wpAny_bind (m := Builtin.SmallTypes.nextOf (.ref i2)) (nextT_end hh (TIt.but (TIt.but (TIt.but I2 e1.extBut D.i2z) e2.extBut D.i12.symm) e3.extBut D.TOi2.symm)
      (Tup.but (Tup.but (Tup.but T2 e1.extBut D.l2z) e2.extBut D.l2i1) e3.extBut D.l2TO) hy fun h4 e e4 he => ?_))))
    obtain ⟨oe, o1, o2⟩ := he
    have Z4 : IsZip h4 z TI TO .ellipsis := e4 _ _ D.i2z.symm (e3.extBut _ _ D.TOz.symm (e2.extBut _ _ D.i1z.symm Z1))
    have ne : e ≠ z := fun m => by subst m; rw [Z4] at o1; cases o1; simp at o2
    refine wpAny_setField_rec Z4 (by simp) fun h5 _ e5 => stop e h5 (fun c o n x => ?_) ⟨oe, e5.extBut _ _ ne o1, o2⟩
    simp only [List.mem_cons, List.not_mem_nil, or_false, not_or] at n
    exact e5.extBut _ _ n.1 (e4 _ _ n.2.2.2 (e3.extBut _ _ n.2.1 (e2.extBut _ _ n.2.2.1 (e1.extBut _ _ n.1 x))))
end
end L3

set_option Elab.async false
set_option linter.all false
set_option maxRecDepth 100000
namespace L3
open PySem PySem.Spec PyProof.Rows L2
section
variable {prog : Program} {w : World} {A : Around} {E : Value → Shared → Prop} {s : Shared}
abbrev zT1 (h : Heap) (a : Addr) : Heap := h.push { cls := .type "tuple_iterator", data := .fields #[.ref a, .int 0 0] }
abbrev zT2 (h : Heap) (a b : Addr) : Heap := zT1 (zT1 h a) b
abbrev zT3 (h : Heap) (a b : Addr) : Heap := (zT2 h a b).push { cls := .type "tuple", data := .seq #[.ref h.objs.size, .ref (zT1 h a).objs.size] }
abbrev zT4 (h : Heap) (a b : Addr) : Heap := (zT3 h a b).push { cls := .type "tuple", data := .seq #[.none, .none] }
abbrev zT5 (h : Heap) (a b : Addr) : Heap := (zT4 h a b).push { cls := .type "zip", data := .fields #[.none, .bool false, .bool false, .ref (zT2 h a b).objs.size, .ref (zT3 h a b).objs.size] }
theorem zipT_meets (a b : Addr) (xs ys : Array Value) : Meets (Builtin.«zip.__new__» ⟨[.type "zip", .ref a, .ref b], []⟩) (fun _ R s => s.heap.IsTuple a xs ∧ s.heap.IsTuple b ys ∧ R (.ok (.ret (.ref (zT4 s.heap a b).objs.size))) { s with heap := zT5 s.heap a b }) :=
  .of_wp fun prog w A R s h => by
    obtain ⟨hp, g, d, tk, os⟩ := s
    obtain ⟨Ta, Tb, h⟩ := h
    have sz := sub_zip
    have U1 : Heap.IsTuple (Shared.heap ⟨hp, g, d, tk, os⟩) a xs := Ta
    have U2 : Heap.IsTuple (Shared.heap ⟨hp.push { cls := .type "tuple_iterator", data := .fields #[.ref a, .int 0 0] }, g, d, tk, os⟩) b ys := Heap.IsTuple.push Tb _
    wp_walk using wpAny_pyIter_tuple U1, wpAny_pyIter_tuple U2
    exact ⟨_, rfl, h⟩
theorem zipT_new {a b : Addr} {xs ys : Array Value} {Q : Value → Shared → Prop} (Ta : s.heap.IsTuple a xs) (Tb : s.heap.IsTuple b ys)
    (h : ∀ h', ZipT h' (s.heap.objs.size + 4) (s.heap.objs.size + 2) (s.heap.objs.size + 3) s.heap.objs.size (s.heap.objs.size + 1) a b .none 0 0 → (∀ c o, s.heap.get? c = some o → h'.get? c = some o) → Q (.ref (s.heap.objs.size + 4)) { s with heap := h' }) :
    wpAny (model prog w) A (call (.type "zip") [.ref a, .ref b]) Q E s := by
  refine callType_new PySem.F.called_zip (by decide) (PySem.F.typeCall_zip_2 _ _) (PySem.F.newCall_zip_2 _ _) (fun obj => PySem.F.args_object_init_3 obj _ _) PySem.F.entry_zip_new (zipT_meets a b xs ys) ⟨Ta, Tb, ?_⟩
  have q1 : (zT1 s.heap a).objs.size = s.heap.objs.size + 1 := Heap.size_push ..
  have q2 : (zT2 s.heap a b).objs.size = s.heap.objs.size + 2 := by rw [Heap.size_push, q1]
  have q3 : (zT3 s.heap a b).objs.size = s.heap.objs.size + 3 := by rw [Heap.size_push, q2]
  have q4 : (zT4 s.heap a b).objs.size = s.heap.objs.size + 4 := by rw [Heap.size_push, q3]
  have u : ∀ {h : Heap} {c : Addr} {o p : Obj}, h.get? c = some o → (h.push p).get? c = some o := fun e => Heap.get?_push_of_some _ e
  have p5 : (zT5 s.heap a b).get? (zT4 s.heap a b).objs.size = some _ := Heap.get?_push_size _ rfl
  have p4 : (zT5 s.heap a b).get? (zT3 s.heap a b).objs.size = some _ := u (Heap.get?_push_size _ rfl)
  have p3 : (zT5 s.heap a b).get? (zT2 s.heap a b).objs.size = some _ := u (u (Heap.get?_push_size _ rfl))
  have p2 : (zT5 s.heap a b).get? (zT1 s.heap a).objs.size = some _ := u (u (u (Heap.get?_push_size _ rfl)))
  have p1 : (zT5 s.heap a b).get? s.heap.objs.size = some _ := u (u (u (u (Heap.get?_push_size _ rfl))))
  show _ ∧ _
  rw [q2, q3, q4] at p5
  rw [q1, q2] at p3
  rw [q3] at p4
  rw [q1] at p2
  rw [q4]
  exact ⟨⟨_, p5, rfl⟩, h _ ⟨p5, p3, ⟨_, _, p4⟩, ⟨_, p1, rfl, rfl⟩, ⟨_, p2, rfl, rfl⟩⟩ fun c o x => u (u (u (u (u x))))⟩
end
/-- objects of an iterator's own turn, and one is laid -/
theorem inv_turnLay {X : Cx} {pins : List (Addr × Obj)} {σ : L2.St} {H : Hp} {s : Shared} {h' : Heap} {t' : Nat} {ch : List Addr} {T : Addr} {o : HO} (I : Inv X pins σ H s) (hf : ∀ b ∈ ch, FpOk X pins H b)
    (k : ∀ b u, b ∉ ch → s.heap.get? b = some u → h'.get? b = some u) (hT : s.heap.objs.size ≤ T) (new : ObjOk X.prog X.w (upd H T o) h' T o) : Inv X pins σ (upd H T o) { s with heap := h', toks := t' } := by
  have hn : H T = none := I.hok.fresh hT
  have nch : ∀ b u, H b = some u → b ∉ ch := fun b u e z => by rw [(hf b z).1] at e; cases e
  have un : ∀ b u, H b = some u → upd H T o b = some u := fun b u e => by rw [upd_ne (ne_of_none e hn)]; exact e
  refine I.step (g' := s.gens) (d' := s.drawn) (ch := ch) (fun b hb => ⟨(hf b hb).2.2.2.1, (hf b hb).2.1, (hf b hb).2.2.2.2.1, (hf b hb).2.2.2.2.2⟩) (fun b u _ _ hc e _ => k b u hc e) (fun b u _ _ hc e _ => ⟨u.slots, k b u hc e⟩)
    (fun b u _ e n => by rw [upd_ne (fun z => by rw [z] at e; exact absurd (Heap.lt_size e) (Nat.not_lt.mpr hT))]; exact n) (fun b u hc e => ⟨u, k b u hc e⟩) (fun b xs e => un b _ e) (fun b p u e => un b _ e) (fun b ps e => ⟨#[], by rw [un b _ e]; simp⟩) (fun m hm => ?_) (fun b u e => ?_) I.bare
  · obtain ⟨p, es, ep, ho, r⟩ := hm
    exact ⟨p, es, ep, k _ p (fun z => (hf _ z).2.1 rfl) ho, r⟩
  · by_cases hb : b = T
    · subst hb; rw [upd_same] at e; cases e; exact new
    · rw [upd_ne hb] at e
      refine (I.hok b u e).stay (fun c v hc q => k c v ?_ q) (fun c q => un c _ q) fun c xs q => un c _ q
      rcases hc with z | z
      · rw [z]; exact nch b u e
      · exact nch c _ z
/-- .. and none is laid -/
theorem inv_turns {X : Cx} {pins : List (Addr × Obj)} {σ : L2.St} {H : Hp} {s : Shared} {h' : Heap} {t' : Nat} {ch : List Addr} (I : Inv X pins σ H s) (hf : ∀ b ∈ ch, FpOk X pins H b)
    (k : ∀ b u, b ∉ ch → s.heap.get? b = some u → h'.get? b = some u) : Inv X pins σ H { s with heap := h', toks := t' } := by
  have nch : ∀ b u, H b = some u → b ∉ ch := fun b u e z => by rw [(hf b z).1] at e; cases e
  refine I.step (g' := s.gens) (d' := s.drawn) (ch := ch) (fun b hb => ⟨(hf b hb).2.2.2.1, (hf b hb).2.1, (hf b hb).2.2.2.2.1, (hf b hb).2.2.2.2.2⟩) (fun b u _ _ hc e _ => k b u hc e) (fun b u _ _ hc e _ => ⟨u.slots, k b u hc e⟩)
    (fun b u _ e n => n) (fun b u hc e => ⟨u, k b u hc e⟩) (fun b xs e => e) (fun b p u e => e) (fun b ps e => ⟨#[], by rw [e]; simp⟩) (fun m hm => ?_) (fun b u e => ?_) I.bare
  · obtain ⟨p, es, ep, ho, r⟩ := hm
    exact ⟨p, es, ep, k _ p (fun z => (hf _ z).2.1 rfl) ho, r⟩
  · refine (I.hok b u e).stay (fun c v hc q => k c v ?_ q) (fun c q => q) fun c xs q => q
    rcases hc with z | z
    · rw [z]; exact nch b u e
    · exact nch c _ z
/-- the pairs of two tuples -/
def Itz (K : PySem.W.Frag) (a b : Addr) : It :=
  ⟨fun i H => ∃ xs ys x y, SqT K H a xs ∧ SqT K H b ys ∧ xs[i]? = some x ∧ ys[i]? = some y,
   fun i H v H' => ∃ T x y, v = .ref T ∧ H T = none ∧ H' = upd H T (.tup [x, y]) ∧ (∀ xs, SqT K H a xs → xs[i]? = some x) ∧ ∀ ys, SqT K H b ys → ys[i]? = some y,
   fun i H => ∃ xs ys, SqT K H a xs ∧ SqT K H b ys ∧ (xs.length ≤ i ∨ ys.length ≤ i)⟩
theorem turn_zipT {P : Program} {w : World} {K : PySem.W.Frag} {es : List Expr} {ek : Nat} {ep : Pos} {z TI TO i1 i2 a b : Addr} (D : ZipApart z TI TO i1 i2 a b) :
    Turn P w K (.Tuple es ek ep) (Itz K a b) [z, TI, TO, i1, i2] z (fun i h => ZipT h z TI TO i1 i2 a b .none i i) where
  mem := by simp
  obj := fun i h Z c hc => by
    obtain ⟨Z0, P0, ⟨x, y, O0⟩, ⟨o1, e1, _, d1⟩, ⟨o2, e2, _, d2⟩⟩ := Z
    simp only [List.mem_cons, List.not_mem_nil, or_false] at hc
    rcases hc with rfl | rfl | rfl | rfl | rfl
    · exact ⟨_, Z0, fun v m => by cases m⟩
    · exact ⟨_, P0, fun v m => by cases m⟩
    · exact ⟨_, O0, fun v m => by cases m⟩
    · exact ⟨_, e1, fun v m => by rw [d1] at m; cases m⟩
    · exact ⟨_, e2, fun v m => by rw [d2] at m; cases m⟩
  keep := fun i h h' Z k => by
    obtain ⟨Z0, P0, ⟨x, y, O0⟩, ⟨o1, e1, r1⟩, ⟨o2, e2, r2⟩⟩ := Z
    exact ⟨k z (by simp) _ Z0, k TI (by simp) _ P0, ⟨x, y, k TO (by simp) _ O0⟩, ⟨o1, k i1 (by simp) _ e1, r1⟩, ⟨o2, k i2 (by simp) _ e2, r2⟩⟩
  item := by
    intro X hP hw hK hc i pins s σ H E I hf Z hg
    subst hP hw hK
    obtain ⟨xs, ys, x, y, sa, sb, hx, hy⟩ := hg
    obtain ⟨its, rv, p1, z1⟩ := I.tuple sa
    obtain ⟨its2, rv2, p2, z2⟩ := I.tuple sb
    obtain ⟨u, hu, ru⟩ := rv.get hx
    obtain ⟨u2, hu2, ru2⟩ := rv2.get hy
    refine zipT_item D Z (show s.heap.IsTuple a its.toArray from p1) (show s.heap.IsTuple b its2.toArray from p2) (x := u) (y := u2) (by simpa using hu) (by simpa using hu2) fun h' Z' N' kp => ⟨_, rfl, ?_⟩
    refine wpAny_letOwnedTupleGo_zip Z'.z fun h2 Z2 e2 => ?_
    have hch : ∀ c ∈ [z, TO, i1, i2], FpOk X pins H c := fun c hm => hf c (by
      simp only [List.mem_cons, List.not_mem_nil, or_false] at hm ⊢
      rcases hm with q | q | q | q <;> simp [q])
    have kk : ∀ c o, c ∉ [z, TO, i1, i2] → s.heap.get? c = some o → h2.get? c = some o := fun c o n e => e2.extBut _ _ (fun m => n (by simp [m])) (kp c o n e)
    have zlt : z < s.heap.objs.size := Heap.lt_size Z.z
    have NT : IsPair h2 s.heap.objs.size u u2 := e2.extBut _ _ (Nat.ne_of_gt zlt) N'
    have hfr : H s.heap.objs.size = none := I.hok.fresh (Nat.le_refl _)
    refine ⟨.ref s.heap.objs.size, upd H s.heap.objs.size (.tup [x, y]), inv_turnLay (s := s) (h' := h2) (t' := s.toks) I hch kk (Nat.le_refl _) ?_, rfl, ⟨_, x, y, rfl, hfr, rfl, fun ws hw => ?_, fun ws hw => ?_⟩, ?_, fun c hm => ?_⟩
    · exact ⟨by show 2 ≤ sizeLine; decide, [u, u2], .cons ru (.cons ru2 .nil), ⟨_, NT, rfl, ⟨_, rfl⟩, rfl⟩⟩
    · rw [I.tuple_inj hw sa]; exact hx
    · rw [I.tuple_inj hw sb]; exact hy
    · obtain ⟨_, P1, ⟨q1, q2, O1⟩, ⟨o1, f1, r1⟩, ⟨o2, f2, r2⟩⟩ := Z'
      exact ⟨Z2, e2.extBut _ _ D.TIz P1, ⟨q1, q2, e2.extBut _ _ D.TOz O1⟩, ⟨o1, e2.extBut _ _ D.i1z f1, r1⟩, ⟨o2, e2.extBut _ _ D.i2z f2, r2⟩⟩
    · have lt : c < s.heap.objs.size := by
        obtain ⟨Z0, P0, ⟨q1, q2, O0⟩, ⟨o1, f1, _⟩, ⟨o2, f2, _⟩⟩ := Z
        simp only [List.mem_cons, List.not_mem_nil, or_false] at hm
        rcases hm with rfl | rfl | rfl | rfl | rfl
        · exact Heap.lt_size Z0
        · exact Heap.lt_size P0
        · exact Heap.lt_size O0
        · exact Heap.lt_size f1
        · exact Heap.lt_size f2
      rw [upd_ne (Nat.ne_of_lt lt)]
      exact (hf c hm).1
  done := by
    intro X hP hw hK hc i pins s σ H E I hf Z hg
    subst hP hw hK
    obtain ⟨xs, ys, sa, sb, hz⟩ := hg
    obtain ⟨its, rv, p1, z1⟩ := I.tuple sa
    obtain ⟨its2, rv2, p2, z2⟩ := I.tuple sb
    have l1 := rv.length
    have l2 := rv2.length
    refine zipT_end (I.ok.hd hc) D Z (show s.heap.IsTuple a its.toArray from p1) (show s.heap.IsTuple b its2.toArray from p2) ?_ fun h' kp => ⟨rfl, inv_turns (s := s) (h' := h') (t' := s.toks) I (fun c hm => hf c (by
      simp only [List.mem_cons, List.not_mem_nil, or_false] at hm ⊢
      rcases hm with q | q | q | q <;> simp [q])) kp⟩
    rcases hz with q | q
    · exact .inl (by simp; omega)
    · exact .inr (by simp; omega)
  self := fun _ _ _ _ _ Z h => wpAny_pyIter_zip Z.z h
section
variable {X : Cx} {a b : Expr} {es : List Expr} {ek : Nat} {ep p pos : Pos}
theorem pi_zip {ta : TA} (hg : Gl X "zip") (hm : X.mg "zip" = none) (ha : PA X [a, b] ta) (hs : starEach [a, b] X.env = [(false, eval a X.env), (false, eval b X.env)] := by rfl) (hs2 : starEach [b] X.env = [(false, eval b X.env)] := by rfl) :
    PI X (.Tuple es ek ep) (.Call (.Name "zip" p) [a, b] [] pos) (fun σ H R => ta σ H fun vs H1 => ∃ l1 l2 xs ys, vs = [.ref l1, .ref l2] ∧ SqT X.K H1 l1 xs ∧ SqT X.K H1 l2 ys ∧ R (Itz X.K l1 l2) H1) := by
  intro pins s σ H R I h
  refine Call_ (ld_blt I hg hm (by rfl) (PyProof.Rows.callWith_type1 (thn (ha pos pins s σ H _ I h) fun us s1 ⟨vs, H1, I1, r1, q1⟩ => ?_) (by rw [hs, hs2]) (by rw [hs2]; rfl)))
  obtain ⟨l1, l2, xs, ys, rfl, s1', s2', q⟩ := q1
  cases r1 with
  | cons r rr =>
    cases rr with
    | cons r' rr =>
      cases rr
      cases r
      cases r'
      obtain ⟨its, rv, p1, _⟩ := I1.tuple s1'
      obtain ⟨its2, rv2, p2, _⟩ := I1.tuple s2'
      have d1 : l1 < s1.heap.objs.size := by obtain ⟨_, e, _⟩ := p1; exact Heap.lt_size e
      have d2 : l2 < s1.heap.objs.size := by obtain ⟨_, e, _⟩ := p2; exact Heap.lt_size e
      refine zipT_new (show s1.heap.IsTuple l1 its.toArray from p1) (show s1.heap.IsTuple l2 its2.toArray from p2) fun h' Z kp => wpAny_pyIter_zip Z.z ?_
      refine ⟨s1.heap.objs.size + 4, [s1.heap.objs.size + 4, s1.heap.objs.size + 2, s1.heap.objs.size + 3, s1.heap.objs.size, s1.heap.objs.size + 1], _, _, H1, rfl, I1.kept (t' := s1.toks) kp, turn_zipT (zipApart_new d1 d2), Z, fun c hc => ?_, q⟩
      have ge : s1.heap.objs.size ≤ c := by
        simp only [List.mem_cons, List.not_mem_nil, or_false] at hc
        rcases hc with rfl | rfl | rfl | rfl | rfl
        · exact Nat.le_add_right _ 4
        · exact Nat.le_add_right _ 2
        · exact Nat.le_add_right _ 3
        · exact Nat.le_refl _
        · exact Nat.le_add_right _ 1
      exact I1.fpOk ge (I1.hok.fresh ge)
def iZip (g : FA) : FI := fun σ M => match g σ M with
  | some ([.tup xs, .tup ys], M1) => some ((xs.zip ys).map fun q => D.tup [q.1, q.2], none, M1)
  | _ => none
theorem q_izip {g : FA} (hg : Gl X "zip") (hm : X.mg "zip" = none) (ha : QA X [a, b] g) (hs : starEach [a, b] X.env = [(false, eval a X.env), (false, eval b X.env)] := by rfl) (hs2 : starEach [b] X.env = [(false, eval b X.env)] := by rfl) :
    QI X (.Tuple es ek ep) (.Call (.Name "zip" p) [a, b] [] pos) (iZip g) := .mk <| PI.imp (pi_zip hg hm ha.un hs hs2) fun τ H R ⟨L, σ, M, xs, gd, M', c, rs, hf, q⟩ => by
  unfold iZip at hf
  split at hf
  · rename_i ds es' M1 e1
    cases hf
    refine ⟨L, σ, M, _, _, c, rs, e1, fun L1 H1 vs s1 c1 r1 => ?_⟩
    obtain ⟨v, v', rfl, r2, r3⟩ := r1.two
    unfold Rep at r2 r3
    obtain ⟨l1, ws1, rfl, h1, q1⟩ := r2
    obtain ⟨l2, ws2, rfl, h2, q2⟩ := r3
    refine ⟨l1, l2, ws1, ws2, rfl, .of h1, .of h2, q L1 H1 _ s1 c1 fun L2 H2 M2 s2 c2 _ => ?_⟩
    have k1 := s2.tup l1 ws1 h1
    have k2 := s2.tup l2 ws2 h2
    have p1 := q1.stp s2
    have p2 := q2.stp s2
    refine ⟨fun i d hd => ?_, ⟨ws1, ws2, .of k1, .of k2, ?_⟩⟩
    · rw [List.getElem?_map] at hd
      cases e2 : (ds.zip es')[i]? with
      | none => rw [e2] at hd; cases hd
      | some pr =>
        rw [e2] at hd
        cases hd
        obtain ⟨f1, f2⟩ := List.getElem?_zip_eq_some.mp e2
        obtain ⟨u, hu, ru⟩ := p1.get f1
        obtain ⟨u2, hu2, ru2⟩ := p2.get f2
        refine ⟨⟨ws1, ws2, u, u2, .of k1, .of k2, hu, hu2⟩, fun v H3 hy => ?_⟩
        obtain ⟨T, x, y, rfl, hT, rfl, hxx, hyy⟩ := hy
        have ex := hxx ws1 (.of k1)
        have ey := hyy ws2 (.of k2)
        rw [hu] at ex; cases ex
        rw [hu2] at ey; cases ey
        exact ⟨fun a o e => by rw [upd_ne (ne_of_none e hT)]; exact e, Rep.newTup hT (.cons ru (.cons ru2 .nil))⟩
    · rw [List.length_map, List.length_zip, p1.length, p2.length]
      omega
  · cases hf
def gPair (i j : Nat) : FG := fun d σ => match d with
  | .tup [x, y] => some ((σ.set i (some x)).set j (some y))
  | _ => none
abbrev gP2 (K : PySem.W.Frag) (i j : Nat) : TG := gTup K 2 (gCons (gName i) (gCons (gName j) gNil))
theorem gok_pair {K : PySem.W.Frag} {i j : Nat} : GOk (gP2 K i j) (gPair i j) := by
  intro L H σ σ' τ d v Q rs r hf q
  unfold gPair at hf
  split at hf
  · rename_i x y
    cases hf
    unfold Rep at r
    obtain ⟨a, vs, rfl, e, r⟩ := r
    obtain ⟨v1, v2, rfl, r1, r2⟩ := r.two
    exact ⟨a, _, rfl, .of e, rfl, v1, [v2], rfl, v2, [], rfl, rfl, q _ ((rs.set r1).set r2)⟩
  · cases hf
theorem gown_pair {K : PySem.W.Frag} {own : List Nat} {i j : Nat} (hi : i ∈ own) (hj : j ∈ own) : GOwn own (gP2 K i j) (gPair i j) := by
  intro L H σ σ' τ τ0 d v Q rs ex r hf q
  unfold gPair at hf
  split at hf
  · rename_i x y
    cases hf
    unfold Rep at r
    obtain ⟨a, vs, rfl, e, r⟩ := r
    obtain ⟨v1, v2, rfl, r1, r2⟩ := r.two
    exact ⟨a, _, rfl, .of e, rfl, v1, [v2], rfl, v2, [], rfl, rfl, q _ ((rs.set r1).set r2) ((ex.set hi).set hj)⟩
  · cases hf
end
end L3

set_option Elab.async false
set_option linter.all false
set_option maxRecDepth 100000
namespace L3
open PySem PySem.Spec PyProof.Rows L2
section
variable {X : Cx} {a b c e : Expr} {es : List Expr} {pos p p2 pos2 : Pos} {f g h : FE}
theorem bls_get : ∀ {bs : List Bool} {its : List Value}, Vals (bs.map V.bl) its → ∀ (i : Nat) v, its[i]? = some v → ∃ k, bs[i]? = some k ∧ v = .bool k
  | [], _, .nil, _, _, h => by simp at h
  | k :: bs, _, .cons r t, 0, v, h => by
    simp at h; subst h
    exact ⟨k, rfl, r⟩
  | k :: bs, _, .cons r t, i + 1, v, h => by
    obtain ⟨k', e1, e2⟩ := bls_get t i v (by simpa using h)
    exact ⟨k', by simpa using e1, e2⟩
theorem all_places (bs : List Bool) : ((List.range bs.length).all fun i => (bs[i]?).getD true) = bs.all id := by
  rw [Bool.eq_iff_iff, List.all_eq_true, List.all_eq_true]
  constructor
  · intro q k hk
    obtain ⟨i, hi, rfl⟩ := List.getElem_of_mem hk
    have := q i (List.mem_range.mpr hi)
    rw [List.getElem?_eq_getElem hi] at this
    exact this
  · intro q i hi
    rw [List.getElem?_eq_getElem (List.mem_range.mp hi)]
    exact q _ (List.getElem_mem _)
def rTru (K : PySem.W.Frag) (F : List Bool → Bool) : List V → Hp → VK → Prop := fun xs H Q => ∃ q bs, xs = [.ref q] ∧ SqL K H q (bs.map V.bl) ∧ Q (.bl (F bs)) H
theorem call_allL (hc : X.calm = true) : CallR X (.builtin "all") (rTru X.K fun bs => bs.all id) := by
  intro pins s σ H xs us Q I r h
  obtain ⟨l, bs, rfl, hq, q⟩ := h
  obtain ⟨u, rfl, rx⟩ := vals1 r
  cases rx
  obtain ⟨its, rv, pl, _⟩ := I.list hq
  have hlt : l < s.heap.objs.size := by obtain ⟨_, z, _⟩ := pl.isList; exact Heap.lt_size z
  refine call_all_walk (wpAny_pyIter_list pl.isList ⟨s.heap.objs.size, [s.heap.objs.size, l], [s.heap.objs.size], its.toArray.size, _, _, fun i => (bs[i]?).getD true, rfl, Walks.list (A := X.A.in1) (I.ok.hd hc) _ l (Nat.ne_of_lt hlt) its.toArray,
    ⟨⟨_, Heap.get?_push_size _ rfl, rfl, rfl⟩, pl.isList.push _⟩, fun i v s' Q' E' hP hQ => ?_, fun h' tk hk => ?_⟩)
  · obtain ⟨k, z, rfl⟩ := bls_get rv i v (by simpa using hP)
    dsimp only at hQ; rw [z] at hQ
    exact wpAny_truthy_bool hQ
  · have hl := rv.length
    rw [List.length_map] at hl
    rw [List.size_toArray, ← hl, all_places]
    exact ⟨.bl _, H, I.kept (t' := tk) fun b o z => hk b o (fun m => by rw [List.mem_singleton.mp m] at z; exact Nat.lt_irrefl _ (Heap.lt_size z)) (Heap.get?_push_of_some _ z), rfl, q⟩
def blsOf : List D → Option (List Bool)
  | [] => some []
  | .bl k :: r => match blsOf r with
    | some bs => some (k :: bs)
    | none => none
  | _ => none
theorem bls_rep {L : List Addr} {H : Hp} : ∀ {ds : List D} {bs : List Bool} {vs : List V}, blsOf ds = some bs → Reps L H ds vs → vs = bs.map V.bl
  | [], bs, vs, e, r => by cases e; unfold Reps at r; exact r
  | d :: ds, bs, vs, e, r => by
    unfold Reps at r
    obtain ⟨v, r', rfl, r1, r2⟩ := r
    cases d with
    | bl k =>
      unfold blsOf at e
      cases q : blsOf ds with
      | none => rw [q] at e; cases e
      | some bs' =>
        rw [q] at e; cases e
        unfold Rep at r1
        rw [r1, bls_rep q r2]; rfl
    | _ => cases e
def kTru (F : List Bool → Bool) : KB := fun xs M => match xs with
  | [x] => match lstOf M x with
    | some ds => match blsOf ds with
      | some bs => some (.dat (.bl (F bs)), M)
      | none => none
    | none => none
  | _ => none
theorem ker_tru {K : PySem.W.Frag} {F : List Bool → Bool} : KerB K (rTru K F) (kTru F) := by
  intro L M M' H H0 xs d vs Q c r hk q
  unfold kTru at hk
  split at hk
  · rename_i x
    split at hk
    · rename_i ds e1
      split at hk
      · rename_i bs e2
        cases hk
        obtain ⟨v, rfl, r1⟩ := r.one
        obtain ⟨l, ws, rfl, h1, r2⟩ := lst_rep c r1 e1
        have := bls_rep e2 r2
        subst this
        exact ⟨l, bs, rfl, .inl h1, q L H _ (.refl L H) c (rep_bl (L := L) (H := H))⟩
      · cases hk
    · cases hk
  · cases hk
abbrev kAll : KB := kTru fun bs => bs.all id
section
variable {fa : FAE}
theorem q_all (hc : X.calm = true) (hg : Gl X "all") (hm : X.mg "all" = none) (ha : QAE X [e] fa) (he : starEach [e] X.env = (false, eval e X.env) :: starEach [] X.env := by rfl) (hpl : (backTo pos (starEach [] X.env)).any (·.1) = false := by rfl) : QE X (.Call (.Name "all" p) [e] [] pos) (fB kAll fa) :=
  q_callB ker_tru (call_allL hc) (by rfl) hg hm ha (by decide) (by decide) he hpl
end
theorem k_tru {M : Mem} {P : EV → Mem → Prop} {F : List Bool → Bool} {x : EV} {ds : List D} {bs : List Bool} (h : lstOf M x = some ds) (hb : blsOf ds = some bs) : Ok (kTru F [x] M) P ↔ P (.dat (.bl (F bs))) M := by
  have : kTru F [x] M = some (.dat (.bl (F bs)), M) := by unfold kTru; dsimp only; rw [h]; dsimp only; rw [hb]
  rw [this, ok_some]
theorem blsOf_map : ∀ bs : List Bool, blsOf (bs.map D.bl) = some bs
  | [] => rfl
  | k :: bs => by rw [List.map_cons]; unfold blsOf; rw [blsOf_map bs]
section
variable {M : Mem} {σ : Sd} {P : EV → Mem → Prop}
end
def fNeg (f : FE) : FE := fun σ M => match f σ M with
  | some (.dat (.int i), M1) => some (.dat (.int (-i)), M1)
  | _ => none
theorem q_neg (h1 : QE X a f) : QE X (.UnaryOp .USub a pos) (fNeg f) := .mk <| PE.imp (pe_un un_neg h1.un) fun τ H Q ⟨L, σ, M, d, M', cc, rs, hf, q⟩ => by
  unfold fNeg at hf
  split at hf
  · rename_i i M1 e1
    cases hf
    refine ⟨L, σ, M, _, _, cc, rs, e1, fun L1 H1 v s1 c1 r1 => ?_⟩
    exact ⟨i, by unfold RepE Rep at r1; exact r1, q L1 H1 _ s1 c1 (rep_int (L := L1) (H := H1))⟩
  · cases hf
def kList : KB := fun xs M => match xs with
  | [x] => match seqOf M x with
    | some ys => some (.fl ys, M)
    | none => none
  | _ => none
theorem ker_list : KerB X.K (fun xs H Q => ∃ q ys, xs = [.ref q] ∧ (SqL X.K H q ys ∨ SqT X.K H q ys) ∧ ∀ l, H l = none → Q (.ref l) (upd H l (.lst ys))) kList := by
  intro L M M' H H0 xs d vs Q cc r hk q
  unfold kList at hk
  split at hk
  · rename_i x
    split at hk
    · rename_i ys e1
      cases hk
      obtain ⟨v, rfl, r1⟩ := r.one
      obtain ⟨l, ws, rfl, hs, r2⟩ := seq_rep cc r1 e1
      refine ⟨l, ws, rfl, hs, fun k hk => ?_⟩
      exact q L _ _ (.upd hk) (cc.upd hk) (RepE.newLst (.refl L H) cc cc hk r2)
    · cases hk
  · cases hk
theorem q_list {fa : FAE} (hg : Gl X "list") (hm : X.mg "list" = none) (ha : QAE X [e] fa) (he : starEach [e] X.env = (false, eval e X.env) :: starEach [] X.env := by rfl) (hpl : (backTo pos (starEach [] X.env)).any (·.1) = false := by rfl) : QE X (.Call (.Name "list" p) [e] [] pos) (fB kList fa) :=
  q_callTy ker_list call_list_of (by rfl) hg hm ha (by decide) (by decide) he hpl
theorem k_list {M : Mem} {P : EV → Mem → Prop} {x : EV} {xs : List D} (hh : seqOf M x = some xs) : Ok (kList [x] M) P ↔ P (.fl xs) M := by
  have : kList [x] M = some (.fl xs, M) := by unfold kList; dsimp only; rw [hh]
  rw [this, ok_some]
end
end L3

set_option Elab.async false
set_option linter.all false
set_option maxRecDepth 100000
namespace L3
open PySem PySem.Spec PyProof.Rows L2
open AutoSeq1 (wpAny_loadPart')
section
variable {prog : Program} {w : World} {A : Around} {E : Value → Shared → Prop} {s : Shared}
theorem collectR {r : Addr} {lo hi : Int} {t u v : Tok} {n : Nat} {Q : List Value → Shared → Prop} (hh : A.handled = none) (R : IsRange s.heap r lo hi 1 t u v) (sm : Builtin.Range.small lo hi 1 = true) (hn : Builtin.Range.rangeSize lo hi 1 = n) (hz : n ≤ 2 ^ 24)
    (q : ∀ h' tk (acc : Array Value), (∀ b o, s.heap.get? b = some o → h'.get? b = some o) → ItemsOf (fun i v => ∃ t, v = .int (lo + i * 1) t) acc n → Q acc.toList { s with heap := h', toks := tk }) : wpAny (model prog w) A (collect (.ref r)) Q E s := by
  unfold collect
  refine wpAny_bind (wpAny_runValue (codeAny_builtin PySem.F.entry_proto_collect ?_))
  rw [Around.under_plainId PySem.F.plain_proto_collect _]
  refine wpAny_bind (m := newList []) (wpAny_newObj_type (wpAny_pure ⟨plainId_quiet PySem.F.plain_list_iadd _, codeAny_builtin PySem.F.entry_list_iadd ?_⟩))
  rw [Around.under_plainId PySem.F.plain_list_iadd _]
  have S0 : (s.heap.push { cls := .type "list", data := .seq ([] : List Value).toArray }).get? s.heap.objs.size = some { cls := .type "list", data := .seq #[] 0 } := Heap.get?_push_size _ rfl
  have fin : ∀ (h' : Heap) (tk : Nat) (acc : Array Value) (k : Nat), (∀ b o, b ≠ s.heap.objs.size → (s.heap.push { cls := .type "list", data := .seq ([] : List Value).toArray }).get? b = some o → h'.get? b = some o) →
      h'.get? s.heap.objs.size = some { cls := .type "list", dict := none, data := .seq acc k, slots := #[] } → ItemsOf (fun i v => ∃ t, v = .int (lo + i * 1) t) acc n →
      wpAny (model prog w) A (match Value.ref s.heap.objs.size with
        | Value.ref a => do
          match (← load a).data with
            | Data.seq xs _ => pure xs.toList
            | _ => unsupported "internal:collect"
        | _ => unsupported "internal:collect") Q E { s with heap := h', toks := tk } := fun h' tk acc k kp e it => by
    refine wpAny_bind (m := load s.heap.objs.size) (wpAny_load e (wpAny_pure (q h' tk acc (fun b o m => kp b o (Nat.ne_of_lt (Heap.lt_size m)) (Heap.get?_push_of_some _ m)) it)))
  refine wpAny_mono (wpAny_extend_range (A := A) (s := { s with heap := s.heap.push { cls := .type "list", data := .seq ([] : List Value).toArray } })
    (R := fun r s' => r = .ok (.ret (.ref s.heap.objs.size)) ∧ ∃ h' tk acc k, s' = { s with heap := h', toks := tk } ∧ (∀ b o, b ≠ s.heap.objs.size → (s.heap.push { cls := .type "list", data := .seq ([] : List Value).toArray }).get? b = some o → h'.get? b = some o) ∧
      h'.get? s.heap.objs.size = some { cls := .type "list", dict := none, data := .seq acc k, slots := #[] } ∧ ItemsOf (fun i v => ∃ t, v = .int (lo + i * 1) t) acc n)
    hh (Heap.get?_push_of_some _ R) sm hn hz s.heap.objs.size (.ref s.heap.objs.size) 0 S0 fun h' tk acc k kp e it => ⟨rfl, h', tk, acc, k, rfl, kp, e, it⟩) (fun f s' z => ?_) (fun e s' z => ?_)
  · cases f with
    | done f =>
      obtain ⟨e, h', tk, acc, k, rfl, z1, z2, z3⟩ := z
      cases e
      exact fin h' tk acc k z1 z2 z3
    | again c' => exact ⟨z.1, codeAny_mono z.2 fun r s'' z => by obtain ⟨rfl, h', tk, acc, k, rfl, z1, z2, z3⟩ := z; exact fin h' tk acc k z1 z2 z3⟩
  · exact absurd z.1 (by simp)
end
theorem meets_tupleR (r : Addr) (lo hi : Int) (t u v : Tok) (n : Nat) (sm : Builtin.Range.small lo hi 1 = true) (hn : Builtin.Range.rangeSize lo hi 1 = n) (hz : n ≤ 2 ^ 24) :
    Meets (Builtin.«tuple.__new__» ⟨[.type "tuple", .ref r], []⟩) (fun A R s => A.handled = none ∧ IsRange s.heap r lo hi 1 t u v ∧
      ∀ (h' : Heap) (tk : Nat) (acc : Array Value), (∀ b o, s.heap.get? b = some o → h'.get? b = some o) → ItemsOf (fun i v => ∃ t, v = .int (lo + i * 1) t) acc n → R (.ok (.ret (.ref h'.objs.size))) { s with heap := h'.push { cls := .type "tuple", data := .seq acc }, toks := tk }) :=
  .of_wp fun prog w A R s h => by
    obtain ⟨hp, g, d, tk, os⟩ := s
    obtain ⟨hh, Ra, h⟩ := h
    have h1 := sub_tuple_self
    have h2 := init_tuple_lookup
    have h3 := madeHere_tuple
    have T : Shared.TypeIs ⟨hp, g, d, tk, os⟩ (.ref r) "range" := ⟨_, Ra, rfl⟩
    wp_walk using wpAny_loadPart' Ra, wpAny_typeOf T, collectR (show A.in1.handled = none from hh) Ra sm hn hz
    intro h' tk' acc kp it
    refine wpAny_bind (m := Builtin.Tuple.tupleExact acc.toList.toArray) ?_
    unfold Builtin.Tuple.tupleExact
    have sz : acc.toList.toArray.size ≤ sizeLine := by rw [List.size_toArray, Array.length_toList, it.1, sizeLine_eq]; omega
    refine wpAny_newObj_type (wpAny_pure ⟨_, rfl, ?_⟩) sz
    have e : acc.toList.toArray = acc := by simp
    rw [e]
    exact h h' tk' acc kp it
end L3

set_option Elab.async false
set_option linter.all false
set_option maxRecDepth 100000
namespace L3
open PySem PySem.Spec PyProof.Rows L2
section
variable {X : Cx} {a e : Expr} {es : List Expr} {pos p p2 pos2 : Pos} {f : FE}
theorem call_rng : CallR X (.type "range") (fun xs H Q => ∃ j, xs = [.int j] ∧ ∀ l, H l = none → Q (.ref l) (upd H l (.rng 0 j))) := by
  intro pins s σ H xs us Q I r h
  obtain ⟨j, rfl, q⟩ := h
  obtain ⟨u, rfl, rx⟩ := vals1 r
  obtain ⟨t, rfl⟩ := rx
  refine call_range_1 ⟨.ref s.heap.objs.size, _, I.laid (fun b o z => Heap.get?_push_of_some _ z) (Nat.le_refl _) ?_, rfl, q _ (I.hok.fresh (Nat.le_refl _))⟩
  exact ⟨_, _, _, Heap.get?_push_size _ rfl⟩
def upV (n : Nat) : List V := (List.range n).map fun (k : Nat) => V.int k
theorem items_up {acc : Array Value} {n : Nat} (h : ItemsOf (fun i v => ∃ t, v = .int ((0 : Int) + i * 1) t) acc n) : Vals (upV n) acc.toList := by
  obtain ⟨hz, hi⟩ := h
  have : ∀ (xs : List Value) (k : Nat), (∀ j v, xs[j]? = some v → ∃ t, v = Value.int ((k + j : Nat) : Int) t) → Vals ((List.range' k xs.length).map fun (k : Nat) => V.int k) xs := by
    intro xs
    induction xs with
    | nil => intro k _; exact .nil
    | cons x xs ih =>
      intro k hk
      rw [List.length_cons, List.range'_succ, List.map_cons]
      refine .cons ?_ (ih (k + 1) fun j v e => ?_)
      · obtain ⟨t, e⟩ := hk 0 x rfl
        exact ⟨t, by simpa using e⟩
      · obtain ⟨t, e'⟩ := hk (j + 1) v (by simpa using e)
        exact ⟨t, by rw [e']; congr 2; omega⟩
  have q := this acc.toList 0 (fun j v e => by
    obtain ⟨t, e'⟩ := hi j v (by simpa using e)
    exact ⟨t, by rw [e']; congr 1; omega⟩)
  unfold upV
  rw [List.range_eq_range']
  rw [Array.length_toList, hz] at q
  exact q
theorem rng_facts {j : Int} (h0 : 0 ≤ j) (h1 : j ≤ 16777216) : Builtin.Range.small 0 j 1 = true ∧ Builtin.Range.rangeSize 0 j 1 = (j.toNat : Int) := by
  refine ⟨small_one (by omega) (by omega) (by omega) (by omega), ?_⟩
  rw [rangeSize_one]; split <;> omega
def rRng (mk : List V → HO) : List V → Hp → VK → Prop := fun xs H Q => ∃ r j, xs = [.ref r] ∧ H r = some (.rng 0 j) ∧ 0 ≤ j ∧ j ≤ 16777216 ∧ ∀ l, H l = none → Q (.ref l) (upd H l (mk (upV j.toNat)))
theorem upV_length (n : Nat) : (upV n).length = n := by unfold upV; simp
theorem call_tupR (hc : X.calm = true) : CallR X (.type "tuple") (rRng HO.tup) := by
  intro pins s σ H xs us Q I r h
  obtain ⟨l, j, rfl, hr, h0, h1, q⟩ := h
  obtain ⟨u, rfl, rx⟩ := vals1 r
  cases rx
  obtain ⟨t, u, v, er⟩ := (show ObjOk X.prog X.w H s.heap l (.rng 0 j) from I.hok l _ hr)
  obtain ⟨sm, sz⟩ := rng_facts h0 h1
  refine callType_new PySem.F.called_tuple (by decide) (PySem.F.typeCall_tuple_1 _) (PySem.F.newCall_tuple_1 _) (fun obj => PySem.F.args_object_init_2 obj _) PySem.F.entry_tuple_new (meets_tupleR l 0 j t u v j.toNat sm sz (by omega))
    ⟨I.ok.hd hc, er, fun h' tk acc kp it => ⟨⟨_, Heap.get?_push_size _ rfl, rfl⟩, ?_⟩⟩
  have I1 : Inv X pins σ H { s with heap := h', toks := tk } := I.kept kp
  refine ⟨.ref h'.objs.size, _, I1.laid (t' := tk) (fun b o z => Heap.get?_push_of_some _ z) (Nat.le_refl _) ?_, rfl, q _ (I1.hok.fresh (Nat.le_refl _))⟩
  exact ⟨by rw [upV_length, sizeLine_eq]; omega, acc.toList, items_up it, by simpa using IsTupN.new h' acc⟩
theorem call_lstR (hc : X.calm = true) : CallR X (.type "list") (rRng HO.lst) := by
  intro pins s σ H xs us Q I r h
  obtain ⟨l, j, rfl, hr, h0, h1, q⟩ := h
  obtain ⟨u, rfl, rx⟩ := vals1 r
  cases rx
  obtain ⟨t, u, v, er⟩ := (show ObjOk X.prog X.w H s.heap l (.rng 0 j) from I.hok l _ hr)
  obtain ⟨sm, sz⟩ := rng_facts h0 h1
  refine call_list_range (I.ok.hd hc) er sm sz (by omega) fun h' tk acc k kp z it => ?_
  refine ⟨.ref s.heap.objs.size, _, I.laid (t' := tk) kp (Nat.le_refl _) (show ObjOk X.prog X.w _ h' _ (.lst (upV j.toNat)) from ⟨by rw [upV_length, sizeLine_eq]; omega, acc.toList, k, items_up it, by simpa using z⟩), rfl, q _ (I.hok.fresh (Nat.le_refl _))⟩
def upD (n : Nat) : List D := (List.range n).map fun (k : Nat) => D.int k
theorem up_reps {L : List Addr} {H : Hp} (n : Nat) : Reps L H (upD n) (upV n) := by
  have : ∀ xs : List Nat, Reps L H (xs.map fun (k : Nat) => D.int k) (xs.map fun (k : Nat) => V.int k) := by
    intro xs
    induction xs with
    | nil => exact .nil
    | cons x xs ih => exact .cons rep_int ih
  exact this _
def fTupR (f : FE) : FE := fun σ M => match f σ M with
  | some (.dat (.int j), M1) => if 0 ≤ j ∧ j ≤ 16777216 then some (.dat (.tup (upD j.toNat)), M1) else none
  | _ => none
def fLstR (f : FE) : FE := fun σ M => match f σ M with
  | some (.dat (.int j), M1) => if 0 ≤ j ∧ j ≤ 16777216 then some (.fl (upD j.toNat), M1) else none
  | _ => none
theorem q_tupR (hc : X.calm = true) (hg : Gl X "tuple") (hm : X.mg "tuple" = none) (hg2 : Gl X "range") (hm2 : X.mg "range" = none) (ha : QE X a f)
    (he : starEach [Expr.Call (.Name "range" p2) [a] [] pos2] X.env = (false, eval (Expr.Call (.Name "range" p2) [a] [] pos2) X.env) :: starEach [] X.env := by rfl) (hpl : (backTo pos (starEach [] X.env)).any (·.1) = false := by rfl)
    (he2 : starEach [a] X.env = (false, eval a X.env) :: starEach [] X.env := by rfl) (hpl2 : (backTo pos2 (starEach [] X.env)).any (·.1) = false := by rfl) :
    QE X (.Call (.Name "tuple" p) [.Call (.Name "range" p2) [a] [] pos2] [] pos) (fTupR f) := 
  .mk <| PE.imp (pe_callTy (call_tupR hc) hg hm (by rfl) (pa_cons (pe_callTy call_rng hg2 hm2 boot_range (pa_cons ha.un pa_nil he2) (by decide) (by decide) he2 hpl2) pa_nil he) (by decide) (by decide) he hpl) fun τ H Q ⟨L, σ, M, d, M', c, rs, hf, q⟩ => by
    unfold fTupR at hf
    split at hf
    · rename_i j M1 e1
      split at hf
      · rename_i hb
        cases hf
        refine ⟨L, σ, M, _, _, c, rs, e1, fun L1 H1 v s1 c1 r1 => ⟨j, by unfold RepE Rep at r1; rw [r1], fun l hl => ⟨l, j, rfl, upd_same, hb.1, hb.2, fun k hk => ?_⟩⟩⟩
        exact q L1 _ _ ((s1.trans (.upd hl)).trans (.upd hk)) ((c1.upd hl).upd hk) (Rep.newTup hk (up_reps _))
      · cases hf
    · cases hf
theorem q_lstR (hc : X.calm = true) (hg : Gl X "list") (hm : X.mg "list" = none) (hg2 : Gl X "range") (hm2 : X.mg "range" = none) (ha : QE X a f)
    (he : starEach [Expr.Call (.Name "range" p2) [a] [] pos2] X.env = (false, eval (Expr.Call (.Name "range" p2) [a] [] pos2) X.env) :: starEach [] X.env := by rfl) (hpl : (backTo pos (starEach [] X.env)).any (·.1) = false := by rfl)
    (he2 : starEach [a] X.env = (false, eval a X.env) :: starEach [] X.env := by rfl) (hpl2 : (backTo pos2 (starEach [] X.env)).any (·.1) = false := by rfl) :
    QE X (.Call (.Name "list" p) [.Call (.Name "range" p2) [a] [] pos2] [] pos) (fLstR f) := 
  .mk <| PE.imp (pe_callTy (call_lstR hc) hg hm (by rfl) (pa_cons (pe_callTy call_rng hg2 hm2 boot_range (pa_cons ha.un pa_nil he2) (by decide) (by decide) he2 hpl2) pa_nil he) (by decide) (by decide) he hpl) fun τ H Q ⟨L, σ, M, d, M', c, rs, hf, q⟩ => by
    unfold fLstR at hf
    split at hf
    · rename_i j M1 e1
      split at hf
      · rename_i hb
        cases hf
        refine ⟨L, σ, M, _, _, c, rs, e1, fun L1 H1 v s1 c1 r1 => ⟨j, by unfold RepE Rep at r1; rw [r1], fun l hl => ⟨l, j, rfl, upd_same, hb.1, hb.2, fun k hk => ?_⟩⟩⟩
        have s2 : Stp L H L1 (upd H1 l (.rng 0 j)) := s1.trans (.upd hl)
        exact q L1 _ _ (s2.trans (.upd hk)) ((c1.upd hl).upd hk) (RepE.newLst s2 c (c1.upd hl) hk (up_reps _))
      · cases hf
    · cases hf
section
variable {M : Mem} {σ : Sd} {P : EV → Mem → Prop}
end
end
end L3

set_option Elab.async false
set_option linter.all false
set_option maxRecDepth 100000
namespace L3
open PySem PySem.Spec PyProof.Rows L2
def notStar : Expr → Bool
  | .Starred .. => false
  | _ => true
theorem star_cons {e : Expr} {es : List Expr} {env : Env} (h : notStar e = true) : starEach (e :: es) env = (false, eval e env) :: starEach es env := by
  cases e <;> first | rfl | cases h
theorem star_one {e : Expr} {env : Env} (h : notStar e = true) : starEach [e] env = [(false, eval e env)] := star_cons h
theorem star_two {e e' : Expr} {env : Env} (h : notStar e = true) (h' : notStar e' = true) : starEach [e, e'] env = [(false, eval e env), (false, eval e' env)] := by rw [star_cons h, star_one h']
theorem star_any {pos : Pos} {env : Env} : ∀ {es : List Expr}, es.all notStar = true → (backTo pos (starEach es env)).any (·.1) = false
  | [], _ => rfl
  | e :: es, h => by
    rw [List.all_cons, Bool.and_eq_true] at h
    rw [star_cons h.1]
    have := star_any (pos := pos) (env := env) h.2
    simpa [backTo] using this
theorem Cor.pushO {K : PySem.W.Frag} {L : List Addr} {M : List MO} {H : Hp} {p : Addr} {o : HO} {m : MO} (c : Cor K L M H) (h : H p = none) (new : MRep K (L ++ [p]) (L2.upd H p o) p m) :
    Cor K (L ++ [p]) (M ++ [m]) (L2.upd H p o) ∧ Stp L H (L ++ [p]) (L2.upd H p o) := by
  have hp : p ∉ L := fun z => by obtain ⟨o, e⟩ := c.tracked z; rw [h] at e; cases e
  have st : Stp L H (L ++ [p]) (L2.upd H p o) := by
    refine ⟨⟨[p], rfl⟩, fun a ha => ?_, fun a o e _ => ?_, fun a o e => ?_, fun a o u e => ?_⟩
    · rcases List.mem_append.mp ha with z | z
      · exact .inl z
      · have : a = p := by simpa using z
        subst this; exact .inr h
    all_goals (rw [upd_ne (ne_of_none e h)]; exact e)
  refine ⟨⟨by simp [c.len], ?_, fun n a m e1 e2 => ?_⟩, st⟩
  · rw [List.nodup_append]
    exact ⟨c.nd, by simp, fun a ha b hb z => by
      have : b = p := by simpa using hb
      subst this; subst z; exact hp ha⟩
  · by_cases hn : n < L.length
    · rw [List.getElem?_append_left hn] at e1
      rw [List.getElem?_append_left (by rw [← c.len]; exact hn)] at e2
      exact (c.obj n a m e1 e2).stp st fun o e => by rw [upd_ne (ne_of_none e h)]; exact e
    · have hn' : n = L.length := by
        have := (List.getElem?_eq_some_iff.mp e1).1
        rw [List.length_append] at this
        simp at this; omega
      subst hn'
      simp at e1
      rw [c.len] at e2
      simp at e2
      subst e1; subst e2
      exact new
theorem Cor.put {K : PySem.W.Frag} {L : List Addr} {M : List MO} {H : Hp} {n : Nat} {p : Addr} {o o' : HO} {m : MO} (c : Cor K L M H) (h1 : L[n]? = some p) (ho : H p = some o) (ht : ∀ xs, o ≠ .tup xs) (hf : ∀ a u, o ≠ .frz a u)
    (new : Stp L H L (L2.upd H p o') → MRep K L (L2.upd H p o') p m) : Cor K L (M.set n m) (L2.upd H p o') ∧ Stp L H L (L2.upd H p o') := by
  have st : Stp L H L (L2.upd H p o') := by
    refine ⟨⟨[], by simp⟩, fun a ha => .inl ha, fun a o e ha => ?_, fun a xs e => ?_, fun a b u e => ?_⟩
    · rw [upd_ne (show a ≠ p from fun z => ha (by rw [z]; exact List.mem_of_getElem? h1))]; exact e
    · rw [upd_ne (ne_of e ho (fun z => ht xs z.symm))]; exact e
    · rw [upd_ne (ne_of e ho (fun z => hf b u z.symm))]; exact e
  refine ⟨⟨by simp [c.len], c.nd, fun k a m' e1 e2 => ?_⟩, st⟩
  rw [List.getElem?_set] at e2
  split at e2
  · rename_i hk
    subst hk
    rw [h1] at e1; cases e1
    split at e2
    · cases e2; exact new st
    · cases e2
  · rename_i hk
    have hne : a ≠ p := fun z => hk (by
      subst z
      exact (List.getElem?_inj (List.getElem?_eq_some_iff.mp h1).1 c.nd).mp (h1.trans e1.symm))
    exact (c.obj k a m' e1 e2).stp st fun o e => by rw [upd_ne hne]; exact e
section
variable {X : Cx} {a b e : Expr} {pos : Pos} {f g : FE}
theorem key_rep {L : List Addr} {H : Hp} {d : D} {v : V} {k : Key} (h : Rep L H d v) (e : keyD d = some k) : v = kV k := by
  cases d with
  | int i => cases e; unfold Rep at h; exact h
  | str x => cases e; unfold Rep at h; exact h
  | _ => cases e
def mlOf (M : Mem) : EV → Option (List D)
  | .fl xs => some xs
  | .dat (.ref n) => match M[n]? with
    | some (.lst xs) => some xs
    | _ => none
  | _ => none
theorem ml_rep {K : PySem.W.Frag} {L : List Addr} {M : Mem} {H H0 : Hp} {x : EV} {v : V} {xs : List D} (c : Cor K L M H) (r : RepE H0 L H x v) (h : mlOf M x = some xs) : ∃ a vs, v = .ref a ∧ H a = some (.lst vs) ∧ Reps L H xs vs := by
  cases x with
  | fl ys =>
    cases h
    obtain ⟨p, vs, rfl, _, e, _, r⟩ := r
    exact ⟨p, vs, rfl, e, r⟩
  | dat d =>
    cases d with
    | ref n =>
      unfold RepE Rep at r
      obtain ⟨a, rfl, e⟩ := r
      unfold mlOf at h
      dsimp only at h
      split at h
      · rename_i ys q
        cases h
        obtain ⟨vs, e1, r1⟩ := c.obj n a _ e q
        exact ⟨a, vs, rfl, e1, r1⟩
      · cases h
    | _ => cases h
def kCatL : K2 := fun x y M => match mlOf M x, mlOf M y with
  | some xs, some ys => if xs.length + ys.length ≤ sizeLine then some (.fl (xs ++ ys), M) else none
  | _, _ => none
theorem ker_catL {K : PySem.W.Frag} : Ker2 K rCat kCatL := by
  intro L M M' H H0 x y d v w Q c rx ry hk q
  unfold kCatL at hk
  split at hk
  · rename_i xs ys e1 e2
    split at hk
    · rename_i hz
      cases hk
      obtain ⟨l, vs, rfl, h1, r1⟩ := ml_rep c rx e1
      obtain ⟨l2, ws, rfl, h2, r2⟩ := ml_rep c ry e2
      refine ⟨l, l2, vs, ws, rfl, rfl, h1, h2, by rw [r1.length, r2.length]; exact hz, fun p hp => ?_⟩
      exact q L _ _ (.upd hp) (c.upd hp) (RepE.newLst (.refl L H) c c hp (r1.app r2))
    · cases hk
  · cases hk
theorem q_catL (h1 : QE X a f) (h2 : QE X b g) : QE X (.BinOp a .Add b pos) (fOp kCatL f g) := q_op ker_catL op_cat h1 h2
theorem k_catL {M : Mem} {P : EV → Mem → Prop} {x y : EV} {xs ys : List D} (h1 : mlOf M x = some xs) (h2 : mlOf M y = some ys) (hz : xs.length + ys.length ≤ 100000) (q : P (.fl (xs ++ ys)) M) : Ok (kCatL x y M) P := by
  refine ⟨_, _, ?_, q⟩
  unfold kCatL; rw [h1, h2]; dsimp only; rw [if_pos (Nat.le_trans hz (by decide))]
end
end L3

set_option Elab.async false
set_option linter.all false
set_option maxRecDepth 100000
namespace L3
open PySem PySem.Spec PyProof.Rows L2
section
variable {X : Cx} {a b c e o : Expr} {es : List Expr} {pos p apos cpos : Pos} {f g h : FE}
end
end L3

set_option Elab.async false
set_option linter.all false
set_option maxRecDepth 100000
namespace LR
open PySem PySem.Spec PyProof.Rows
open Sem (wp)
end LR

set_option Elab.async false
set_option linter.all false
set_option maxRecDepth 100000
namespace LR
open PySem PySem.Spec PyProof.Rows
open Sem (wp)
open AutoSeq1 (wpAny_loadPart')
section
variable {prog : Program} {w : World} {A : Around} {E : Value → Shared → Prop} {s : Shared}
end
section
variable {prog : Program} {w : World} {A : Around} {E : Value → Shared → Prop} {s : Shared}
end
end LR

set_option Elab.async false
set_option linter.all false
set_option maxRecDepth 100000
namespace LR
open PySem PySem.Spec PyProof.Rows
open Sem (wp)
open AutoSeq1 (wpAny_loadPart')
section
variable {prog : Program} {w : World} {A : Around} {E : Value → Shared → Prop} {s : Shared}
end
end LR

set_option Elab.async false
set_option linter.all false
set_option maxRecDepth 100000
namespace L3
open PySem PySem.Spec PyProof.Rows L2
section
variable {X : Cx} {e : Expr} {p p2 pos pos2 : Pos}
end
end L3

set_option Elab.async false
set_option linter.all false
set_option maxRecDepth 100000
namespace L3
open PySem PySem.Spec PyProof.Rows L2
section
variable {X : Cx} {a b e : Expr} {p p2 pos pos2 : Pos} {f g : FE}
end
end L3

set_option Elab.async false
set_option linter.all false
set_option maxRecDepth 100000
namespace L3
open PySem PySem.Spec PyProof.Rows L2
section
variable {X : Cx} {a b e o : Expr} {pos p apos cpos : Pos} {f g : FE}
def intsOf : List D → Option (List Int)
  | [] => some []
  | .int i :: r => match intsOf r with
    | some bs => some (i :: bs)
    | none => none
  | _ => none
theorem intsOf_rep {L : List Addr} {H : Hp} : ∀ {ds : List D} {bs : List Int} {vs : List V}, intsOf ds = some bs → Reps L H ds vs → vs = bs.map V.int
  | [], bs, vs, e, r => by cases e; unfold Reps at r; exact r
  | d :: ds, bs, vs, e, r => by
    unfold Reps at r
    obtain ⟨v, r', rfl, r1, r2⟩ := r
    cases d with
    | int k =>
      unfold intsOf at e
      cases q : intsOf ds with
      | none => rw [q] at e; cases e
      | some bs' =>
        rw [q] at e; cases e
        unfold Rep at r1
        rw [r1, intsOf_rep q r2]; rfl
    | _ => cases e
theorem intsOf_map : ∀ xs : List Int, intsOf (xs.map D.int) = some xs
  | [] => rfl
  | x :: r => by rw [List.map_cons]; unfold intsOf; rw [intsOf_map r]
theorem flat_ints (xs : List Int) : (xs.map V.int).all flatV = true := by
  rw [List.all_eq_true]; intro x hx; obtain ⟨i, _, rfl⟩ := List.mem_map.mp hx; rfl
theorem in_ints (i : Int) (xs : List Int) : inV (.int i) (xs.map V.int) = xs.any fun y => decide (y = i) := by
  unfold inV
  rw [List.any_map]
  congr 1
def kIn (neg : Bool) : K2 := fun x y M => match x with
  | .dat (.int i) => match seqOf M y with
    | some ds => match intsOf ds with
      | some xs => some (.dat (.bl (if neg then !(xs.any fun y => decide (y = i)) else xs.any fun y => decide (y = i))), M)
      | none => none
    | none => none
  | _ => none
theorem ker_in {K : PySem.W.Frag} {neg : Bool} : Ker2 K (rIn K neg) (kIn neg) := by
  intro L M M' H H0 x y d v w Q cc rx ry hk q
  unfold kIn at hk
  split at hk
  · rename_i i
    split at hk
    · rename_i ds e1
      split at hk
      · rename_i xs e2
        cases hk
        have ev : v = .int i := by unfold RepE Rep at rx; exact rx
        obtain ⟨p, vs, rfl, hs, r⟩ := seq_rep cc ry e1
        have := intsOf_rep e2 r
        subst this
        refine ⟨p, _, rfl, hs, by rw [ev]; rfl, flat_ints xs, ?_⟩
        rw [ev, in_ints]
        exact q L H _ (.refl L H) cc (rep_bl (L := L) (H := H))
      · cases hk
    · cases hk
  · cases hk
theorem q_tin (h1 : QE X a f) (h2 : QE X b g) (hm : behindInMarks .In b = false := by rfl) : QT X (.Compare a [.In] [b] pos) (tst (fOp (kIn false) f g)) := q_tcmp ker_in op_in_seq h1 h2 hm
theorem q_tnotin (h1 : QE X a f) (h2 : QE X b g) (hm : behindInMarks .NotIn b = false := by rfl) : QT X (.Compare a [.NotIn] [b] pos) (tst (fOp (kIn true) f g)) := q_tcmp ker_in op_notIn_seq h1 h2 hm
end
end L3

set_option Elab.async false
set_option linter.all false
set_option maxRecDepth 100000
namespace L2
open PySem PySem.Spec PyProof.Rows
section
variable {prog : Program} {w : World} {A : Around} {E : Value → Shared → Prop} {R : Result → Shared → Prop} {s : Shared}
end
end L2

set_option Elab.async false
set_option linter.all false
set_option maxRecDepth 100000
namespace LR
open PySem PySem.Spec PyProof.Rows
open Sem (wp)
section
variable {prog : Program} {w : World} {A : Around} {E : Value → Shared → Prop} {s : Shared}
theorem call_index {t : Addr} {items : Array Value} {i : Int} {u : Tok} {j : Nat} {Q : Value → Shared → Prop} (ht : IsTup s.heap t items) (hj : j < items.size) (hi : ∃ v, items[j] = .int i v) (hno : ∀ m (hm : m < items.size), m < j → ∃ k v, items[m] = .int k v ∧ k ≠ i)
    (h : Q (.int j s.toks) { s with toks := s.toks + 1 }) : wpAny (model prog w) A (call (.builtin "tuple.index") [.ref t, .int i u]) Q E s := by
  refine wpAny_call_entry F.slot_tuple_index ht.typeIs F.entry_tuple_index ?_ (F.args_tuple_index_2 _ _)
  unfold Builtin.«tuple.index»
  refine wpAny_bind (wpAny_of_eq (a := ((Value.ref t, [Value.int i u]) : Value × List Value)) rfl ?_)
  refine wpAny_bind (tupleItemsOf_ ht ?_)
  show wpAny _ _ (pure 0 >>= _) _ _ s
  refine wpAny_bind (wpAny_pure (wpAny_bind (wpAny_pure ?_)))
  show wpAny _ _ (forIn [:min items.size items.size] ((none : Option PySem.Fin), ()) _ >>= _) _ _ s
  rw [Nat.min_self]
  have L : ∀ (k m : Nat), m + k = items.size → m ≤ j → ∀ (E' : Value → Shared → Prop), wpAny (model prog w) A.in1 (forIn (List.range' m k) ((none : Option PySem.Fin), ()) fun (i_1 : Nat) (__s : Option PySem.Fin × Unit) =>
              match items[i_1]? with
              | some y => do
                let __do_lift ← eqBool y (Value.int i u)
                if __do_lift = true then do
                    let __do_lift ← retInt (i_1 : Int)
                    pure (ForInStep.done (some __do_lift, ()))
                  else pure (ForInStep.yield (none, ()))
              | x => pure (ForInStep.yield (none, ()))) (fun r s' => r = (some (Fin.done (Flow.ret (Value.int j s.toks))), ()) ∧ s' = { s with toks := s.toks + 1 }) E' s := by
    intro k
    induction k with
    | zero => intro m hm hle; omega
    | succ k ih =>
      intro m hm hle E'
      have hlt : m < items.size := by omega
      rw [List.range'_succ, List.forIn_cons]
      have e : items[m]? = some items[m] := Array.getElem?_eq_getElem hlt
      rw [e]
      dsimp only
      by_cases q : m = j
      · subst q
        obtain ⟨v, hv⟩ := hi
        rw [hv]
        refine wpAny_bind (wpAny_bind (wpAny_eqBool_int ?_))
        rw [if_pos (by simp)]
        exact wpAny_bind (wpAny_bind (wpAny_mkInt (wpAny_pure (wpAny_pure (wpAny_pure ⟨rfl, rfl⟩)))))
      · obtain ⟨k', v, hv, hk⟩ := hno m hlt (by omega)
        rw [hv]
        refine wpAny_bind (wpAny_bind (wpAny_eqBool_int ?_))
        rw [if_neg (by simpa using hk)]
        exact wpAny_pure (ih (m + 1) (by omega) (by omega) E')
  refine wpAny_bind ?_
  rw [Std.Legacy.Range.forIn_eq_forIn_range']
  have er : List.range' ([:items.size] : Std.Legacy.Range).start ([:items.size] : Std.Legacy.Range).size ([:items.size] : Std.Legacy.Range).step = List.range' 0 items.size := by simp [Std.Legacy.Range.size]
  rw [er]
  refine wpAny_mono (L items.size 0 (by omega) (Nat.zero_le _) _) (fun r s' ⟨hr, hs⟩ => ?_) fun _ _ e => e
  subst hr hs
  exact wpAny_pure ⟨_, rfl, h⟩
end
end LR
namespace L3
open PySem PySem.Spec PyProof.Rows L2
section
variable {X : Cx} {e o : Expr} {apos cpos : Pos} {f : FE}
theorem ints_vals {xs : List Int} {its : List Value} (r : Vals (xs.map V.int) its) {m : Nat} (hm : m < its.toArray.size) : ∃ v, its.toArray[m] = .int (xs.getD m 0) v := by
  have hl : m < xs.length := by have := r.length; simp at this hm; omega
  obtain ⟨u, e, q⟩ := r.get (i := m) (x := .int (xs.getD m 0)) (by simp [hl])
  obtain ⟨t, rfl⟩ := q
  refine ⟨t, ?_⟩
  have : its.toArray[m]? = some (.int (xs.getD m 0) t) := by simpa using e
  rw [Array.getElem?_eq_getElem hm] at this
  exact Option.some.inj this
theorem mt_index : MtR X "tuple.index" (fun x vs H Q => ∃ (p : Addr) (i : Int) (xs : List Int), x = .ref p ∧ vs = [.int i] ∧ SqT X.K H p (xs.map V.int) ∧ i ∈ xs ∧ Q (.int (xs.idxOf i)) H) := by
  intro pins s σ H x xs v us Q I rx rv z
  obtain ⟨p, i, ns, rfl, rfl, hp, hi, q⟩ := z
  cases rx
  obtain ⟨u, rfl, ru⟩ := rv.one
  obtain ⟨t, rfl⟩ := ru
  obtain ⟨its, r, ht, hz⟩ := I.tuple hp
  have hl : its.toArray.size = ns.length := by have := r.length; simp at this ⊢; omega
  have hj : ns.idxOf i < ns.length := List.idxOf_lt_length_iff.mpr hi
  refine LR.call_index (j := ns.idxOf i) ht (by omega) ?_ (fun m hm hlt => ?_) ⟨.int (ns.idxOf i), H, I.tok _, ⟨_, rfl⟩, q⟩
  · obtain ⟨v, e⟩ := ints_vals r (m := ns.idxOf i) (by omega)
    refine ⟨v, ?_⟩
    rw [e, List.getD_eq_getElem?_getD, List.getElem?_eq_getElem hj]
    simp
  · obtain ⟨v, e⟩ := ints_vals r (m := m) hm
    refine ⟨_, v, e, fun z => ?_⟩
    have hm' : m < ns.length := by omega
    rw [List.getD_eq_getElem?_getD, List.getElem?_eq_getElem hm'] at z
    have := List.not_of_lt_findIdx (xs := ns) (p := (· == i)) (show m < ns.findIdx (· == i) from hlt)
    simp at z this
    exact this z
end
end L3

set_option Elab.async false
set_option linter.all false
set_option maxRecDepth 100000
namespace ST
open PySem
abbrev Up (xs : Array Nat) : Prop := xs.toList.Pairwise (· < ·)
theorem Up.get {xs : Array Nat} (h : Up xs) {i k : Nat} (hik : i < k) (hk : k < xs.size) : xs[i]'(by omega) < xs[k] := by
  have := List.pairwise_iff_getElem.mp h i k (by simpa using (show i < xs.size by omega)) (by simpa using hk) hik
  simpa using this
/-- what the search by halves finds: all ahead of it are less, none behind it is -/
theorem go_spec {xs : Array Nat} (h : Up xs) (j : Nat) : ∀ (fuel lo hi : Nat), lo ≤ hi → hi ≤ xs.size → hi - lo ≤ fuel → (∀ i (hi' : i < xs.size), i < lo → xs[i] < j) → (∀ i (hi' : i < xs.size), hi ≤ i → j ≤ xs[i]) →
    (SetTable.below.go xs j fuel lo hi ≤ xs.size) ∧ (∀ i (hi' : i < xs.size), i < SetTable.below.go xs j fuel lo hi → xs[i] < j) ∧ (∀ i (hi' : i < xs.size), SetTable.below.go xs j fuel lo hi ≤ i → j ≤ xs[i])
  | 0, lo, hi, h1, h2, h3, a, b => by
    have : lo = hi := by omega
    subst this
    unfold SetTable.below.go
    exact ⟨h2, a, b⟩
  | fuel + 1, lo, hi, h1, h2, h3, a, b => by
    unfold SetTable.below.go
    by_cases hl : lo < hi
    · rw [if_pos hl]
      dsimp only
      have hm : (lo + hi) / 2 < xs.size := by omega
      have eg : xs.getD ((lo + hi) / 2) j = xs[(lo + hi) / 2] := by simp [Array.getD, hm]
      rw [eg]
      by_cases hc : xs[(lo + hi) / 2] < j
      · rw [if_pos hc]
        refine go_spec h j fuel _ _ (by omega) h2 (by omega) (fun i hi' hlt => ?_) b
        rcases Nat.lt_or_ge i ((lo + hi) / 2) with z | z
        · exact Nat.lt_trans (h.get z hm) hc
        · have : i = (lo + hi) / 2 := by omega
          subst this; exact hc
      · rw [if_neg hc]
        refine go_spec h j fuel _ _ (by omega) (by omega) (by omega) a (fun i hi' hge => ?_)
        rcases Nat.lt_or_ge ((lo + hi) / 2) i with z | z
        · have := h.get z hi'; omega
        · have : i = (lo + hi) / 2 := by omega
          subst this; omega
    · rw [if_neg hl]
      have : lo = hi := by omega
      subst this
      exact ⟨h2, a, b⟩
theorem below_spec {xs : Array Nat} (h : Up xs) (j : Nat) : SetTable.below xs j ≤ xs.size ∧ (∀ i (hi' : i < xs.size), i < SetTable.below xs j → xs[i] < j) ∧ (∀ i (hi' : i < xs.size), SetTable.below xs j ≤ i → j ≤ xs[i]) := by
  unfold SetTable.below
  exact go_spec h j xs.size 0 xs.size (Nat.zero_le _) (Nat.le_refl _) (by omega) (fun i _ z => by omega) (fun i hi' z => by omega)
theorem insertAt_toList {α : Type} (xs : Array α) (p : Nat) (x : α) : (SetTable.insertAt xs p x).toList = xs.toList.take p ++ x :: xs.toList.drop p := by
  unfold SetTable.insertAt
  simp
  have : xs.toList.length ≤ xs.size := by simp
  rw [List.take_of_length_le (by simp)]
theorem up_insert {xs : Array Nat} (h : Up xs) {j : Nat} (hj : j ∉ xs.toList) : Up (SetTable.insertAt xs (SetTable.below xs j) j) := by
  obtain ⟨a, b, c⟩ := below_spec h j
  unfold Up
  rw [insertAt_toList]
  rw [List.pairwise_append]
  have hT : ∀ x ∈ xs.toList.take (SetTable.below xs j), x < j := fun x hx => by
    obtain ⟨i, hi, e⟩ := List.getElem_of_mem hx
    rw [List.getElem_take] at e
    rw [List.length_take] at hi
    have h1 : i < xs.size := by have : xs.toList.length = xs.size := by simp
                                omega
    have := b i h1 (by omega)
    rw [← e]; simpa using this
  have hD : ∀ x ∈ xs.toList.drop (SetTable.below xs j), j < x := fun x hx => by
    obtain ⟨i, hi, e⟩ := List.getElem_of_mem hx
    rw [List.getElem_drop] at e
    rw [List.length_drop] at hi
    have h1 : SetTable.below xs j + i < xs.size := by have : xs.toList.length = xs.size := by simp
                                                      omega
    have h2 := c _ h1 (by omega)
    have h3 : x ≠ j := fun z => hj (z ▸ List.mem_of_mem_drop hx)
    have e' : xs[SetTable.below xs j + i] = x := by simpa using e
    omega
  refine ⟨h.sublist (List.take_sublist _ _), List.pairwise_cons.mpr ⟨hD, h.sublist (List.drop_sublist _ _)⟩, fun x hx y hy => ?_⟩
  rcases List.mem_cons.mp hy with z | z
  · rw [z]; exact hT x hx
  · exact Nat.lt_trans (hT x hx) (hD y z)
theorem has_empty (j : Nat) : SetTable.has #[] j = false := by
  unfold SetTable.has; simp
structure TabOk (w : World) (t : SetTable) : Prop where
  led : t.led = !w.params.followText "set-order"
  up : Up t.place
  nod : t.dummies = #[]
theorem TabOk.put {w : World} {t : SetTable} (h : TabOk w t) {j : Nat} (hj : j ∉ t.place.toList) : TabOk w (t.put j).1 := by
  unfold SetTable.put
  refine ⟨h.led, up_insert h.up hj, ?_⟩
  show (if SetTable.has t.dummies j = true then _ else t.dummies) = #[]
  rw [h.nod, has_empty]; rfl
theorem TabOk.plain {w : World} {t : SetTable} (h : TabOk w t) (b : Bool) : TabOk w { t with plain := b } := ⟨h.led, h.up, h.nod⟩
theorem TabOk.fresh {w : World} : TabOk w (SetTable.fresh 0 0 (!w.params.followText "set-order")) := ⟨rfl, List.Pairwise.nil, rfl⟩
end ST

set_option Elab.async false
set_option linter.all false
set_option maxRecDepth 100000
namespace ST
open PySem
open Sem (wp)
inductive F2 {α β : Type} (R : α → β → Prop) : List α → List β → Prop
  | nil : F2 R [] []
  | cons {x y xs ys} : R x y → F2 R xs ys → F2 R (x :: xs) (y :: ys)
section
variable {prog : Program} {w : World} {K : Type} [DecidableEq K]
def EntK (knd : KeyKind prog w K) (e : Int × Value) (k : K) : Prop := (knd.is k e.2 = true ∧ e.1 = knd.hash k) ∧ e.2.scannable = true
structure SetK (knd : KeyKind prog w K) (o : Obj) (es : Array (Int × Value)) (ep : Nat) (t : SetTable) (ks : List K) : Prop where
  ex : o.ExactSet
  data : o.data = .set es ep t
  tab : TabOk w t
  fits : t.fits es.size = true
  bound : es.size < scanBound
  ent : ∃ ks', ks'.Perm ks ∧ F2 (EntK knd) es.toList ks'
def ins (ks : List K) (k : K) : List K := if k ∈ ks then ks else ks ++ [k]
variable {knd : KeyKind prog w K} {o : Obj} {es : Array (Int × Value)} {ep : Nat} {t : SetTable} {ks : List K}
theorem forall2_length {α β : Type} {R : α → β → Prop} : ∀ {xs : List α} {ys : List β}, F2 R xs ys → xs.length = ys.length
  | _, _, .nil => rfl
  | _, _, .cons _ h => by simp [forall2_length h]
theorem forall2_mem {α β : Type} {R : α → β → Prop} : ∀ {xs : List α} {ys : List β}, F2 R xs ys → ∀ x ∈ xs, ∃ y ∈ ys, R x y
  | _, _, .nil, x, hx => by cases hx
  | _, _, .cons h r, x, hx => by
    rcases List.mem_cons.mp hx with z | z
    · subst z; exact ⟨_, List.mem_cons_self, h⟩
    · obtain ⟨y, hy, q⟩ := forall2_mem r x z; exact ⟨y, List.mem_cons_of_mem _ hy, q⟩
theorem forall2_mem' {α β : Type} {R : α → β → Prop} : ∀ {xs : List α} {ys : List β}, F2 R xs ys → ∀ y ∈ ys, ∃ x ∈ xs, R x y
  | _, _, .nil, x, hx => by cases hx
  | _, _, .cons h r, x, hx => by
    rcases List.mem_cons.mp hx with z | z
    · subst z; exact ⟨_, List.mem_cons_self, h⟩
    · obtain ⟨y, hy, q⟩ := forall2_mem' r x z; exact ⟨y, List.mem_cons_of_mem _ hy, q⟩
theorem SetK.size (h : SetK knd o es ep t ks) : es.size = ks.length := by
  obtain ⟨ks', p, f⟩ := h.ent
  rw [← p.length_eq, ← forall2_length f, Array.length_toList]
theorem SetK.mem (h : SetK knd o es ep t ks) (k : K) : k ∈ ks ↔ ∃ e ∈ es.toList, knd.is k e.2 = true := by
  obtain ⟨ks', p, f⟩ := h.ent
  rw [← p.mem_iff]
  constructor
  · intro hk
    obtain ⟨e, he, q⟩ := forall2_mem' f k hk
    exact ⟨e, he, q.1.1⟩
  · rintro ⟨e, he, q⟩
    obtain ⟨k', hk', q'⟩ := forall2_mem f e he
    rw [knd.inj e.2 k k' q q'.1.1]; exact hk'
variable {A : Around} {E : Value → Shared → Prop} {s : Shared} {a : Addr} {k : K} {x : Value}
theorem SetK.typeIs (h : SetK knd o es ep t ks) (ho : s.heap.get? a = some o) : s.TypeIs (.ref a) "set" := ⟨o, ho, h.ex.1⟩
def freshSet (w : World) : Obj := { cls := .type "set", dict := none, data := .set #[] 0 (.fresh 0 0 (!w.params.followText "set-order")) }
theorem SetK.fresh : SetK knd (freshSet w) #[] 0 (.fresh 0 0 (!w.params.followText "set-order")) [] := ⟨⟨rfl, rfl, rfl⟩, rfl, .fresh, by rfl, by decide, [], .refl _, .nil⟩
end
end ST

set_option Elab.async false
set_option linter.all false
set_option maxRecDepth 100000
namespace ST
open PySem PySem.Spec PyProof.Rows
open Sem (wp)
section
variable {prog : Program} {w : World} {A : Around} {E : Value → Shared → Prop} {s : Shared}
variable {K : Type} [DecidableEq K] {knd : KeyKind prog w K} {o : Obj} {es : Array (Int × Value)} {ep : Nat} {t : SetTable} {ks : List K} {a I : Addr}
end
end ST

set_option Elab.async false
set_option linter.all false
set_option maxRecDepth 100000
namespace ST
open PySem PySem.Spec PyProof.Rows
open Sem (wp)
section
variable {prog : Program} {w : World} {A : Around} {E : Value → Shared → Prop} {s : Shared}
variable {K : Type} [DecidableEq K] {knd : KeyKind prog w K} {o : Obj} {es : Array (Int × Value)} {ep : Nat} {t : SetTable} {ks : List K} {a I : Addr}
end
end ST

set_option Elab.async false
set_option linter.all false
set_option maxRecDepth 100000
namespace ST
open PySem PySem.Spec PyProof.Rows
open Sem (wp)
section
variable {prog : Program} {w : World} {A : Around} {E : Value → Shared → Prop} {s : Shared}
variable {K : Type} [DecidableEq K] {knd : KeyKind prog w K} {o : Obj} {es : Array (Int × Value)} {ep : Nat} {t : SetTable} {ks : List K} {a I : Addr}
end
end ST

set_option Elab.async false
set_option linter.all false
set_option maxRecDepth 100000
namespace ST
open PySem PySem.Spec PyProof.Rows
open Sem (wp)
section
variable {prog : Program} {w : World} {A : Around} {E : Value → Shared → Prop} {s : Shared}
variable {K : Type} [DecidableEq K] {knd : KeyKind prog w K} {o : Obj} {es : Array (Int × Value)} {ep : Nat} {t : SetTable} {ks : List K} {a I : Addr}
end
end ST

set_option Elab.async false
set_option linter.all false
set_option maxRecDepth 100000
namespace L2
open PySem PySem.Spec PyProof.Rows ST
section
variable {prog : Program} {w : World} {A : Around} {R : Result → Shared → Prop} {s : Shared}
end
section
variable {X : Cx} {pins : List (Addr × Obj)} {σ : St} {H : Hp} {s : Shared} {scope : Scope} {cl : List (Str × Addr)} {fp : List Addr} {it : Addr} {tn : Nat → Heap → Prop} {J : It} {tg elt iter : Expr} {ifs : List Expr} {pos : Pos}
  {own : List Nat} {g : TG} {tc : TT} {te : TE} {E : Value → Shared → Prop}
end

/-- an expression whose value is a new set of whole numbers -/
abbrev TZ := St → Hp → (List Int → Hp → Prop) → Prop
def PZ (X : Cx) (e : Expr) (t : TZ) : Prop := ∀ (pins : List (Addr × Obj)) (s : Shared) (σ : St) (H : Hp) (Q : List Int → Hp → Prop), Inv X pins σ H s → t σ H Q →
  wpAny (model X.prog X.w) X.A (eval e X.env) (fun v s' => ∃ a o es ep tb ks H', v = .ref a ∧ s'.heap.get? a = some o ∧ SetK (intKind X.prog X.w) o es ep tb ks ∧ Inv X pins σ H' s' ∧ Q ks H') X.xe s
section
variable {X : Cx} {scope : Scope} {tg elt iter : Expr} {ifs : List Expr} {pos : Pos} {own : List Nat} {wi : TI} {g : TG} {tc : TT} {te : TE}
end
end L2

set_option Elab.async false
set_option linter.all false
set_option maxRecDepth 100000
namespace ST
open PySem PySem.Spec PyProof.Rows
open Sem (wp)
section
variable {prog : Program} {w : World} {A : Around} {E : Value → Shared → Prop} {s : Shared}
variable {K : Type} [DecidableEq K] {knd : KeyKind prog w K}
def insAll (ks : List K) : List K := ks.foldl ins []
theorem ins_len (ks : List K) (k : K) : (ins ks k).length ≤ ks.length + 1 := by unfold ins; split <;> simp
theorem insAll_len (ks : List K) : (insAll ks).length ≤ ks.length := by
  have : ∀ (l acc : List K), (l.foldl ins acc).length ≤ acc.length + l.length := by
    intro l
    induction l with
    | nil => intro acc; simp
    | cons x r ih => intro acc; have := ih (ins acc x); have := ins_len acc x; simp only [List.foldl_cons, List.length_cons]; omega
  simpa [insAll] using this ks []
theorem ins_mem (ks : List K) (k x : K) : x ∈ ins ks k ↔ x ∈ ks ∨ x = k := by
  unfold ins
  split
  · rename_i h; constructor
    · exact .inl
    · rintro (z | z)
      · exact z
      · rw [z]; exact h
  · simp
theorem insAll_mem (ks : List K) (x : K) : x ∈ insAll ks ↔ x ∈ ks := by
  have : ∀ (l acc : List K), x ∈ l.foldl ins acc ↔ x ∈ acc ∨ x ∈ l := by
    intro l
    induction l with
    | nil => intro acc; simp
    | cons y r ih => intro acc; rw [List.foldl_cons, ih, ins_mem, List.mem_cons]; simp [or_assoc]
  simpa [insAll] using this ks []
variable {R : Result → Shared → Prop} {I : Addr} {fp wr : List Addr} {G : Array GenState → Array GenState → Prop} {n : Nat} {P : Nat → Value → Prop} {St : Nat → Shared → Prop}
end
section
variable {prog : Program} {w : World} {A : Around} {E : Value → Shared → Prop} {s : Shared}
variable {K : Type} [DecidableEq K] {knd : KeyKind prog w K}
end
end ST

set_option Elab.async false
set_option linter.all false
set_option maxRecDepth 100000
namespace ST
open PySem PySem.Spec PyProof.Rows
section
variable {prog : Program} {w : World} {A : Around} {E : Value → Shared → Prop} {s : Shared}
end
end ST
namespace L2
open PySem PySem.Spec PyProof.Rows ST
section
variable {X : Cx} {e : Expr} {p pos : Pos} {pins : List (Addr × Obj)} {σ : St} {H : Hp} {s : Shared}
end
end L2

set_option Elab.async false
set_option linter.all false
set_option maxRecDepth 100000
namespace L3
open PySem PySem.Spec PyProof.Rows L2 ST
theorem PZ.imp {X : Cx} {e : Expr} {t t' : TZ} (h : PZ X e t) (hi : ∀ τ H Q, t' τ H Q → t τ H Q) : PZ X e t' := fun pins s σ H Q I q => h pins s σ H Q I (hi _ _ _ q)
section
variable {X : Cx} {scope : Scope} {tg elt iter : Expr} {ifs : List Expr} {pos p : Pos} {own : List Nat} {e : Expr} {f : FE}
end
end L3

set_option Elab.async false
set_option linter.all false
set_option maxRecDepth 100000
namespace L3
open PySem PySem.Spec PyProof.Rows L2
open AutoSeq1 (wpAny_loadPart')
theorem drawsT {prog : Program} {w : World} {A : Around} (hh : A.handled = none) (it l : Addr) (hne : l ≠ it) (items : Array Value) :
    Draws prog w A it [it, l] items.size (fun i v => items[i]? = some v) (fun i h => h.IsTupleIter it l i ∧ h.IsTuple l items) where
  live := fun _ _ st => let ⟨o, ho, _⟩ := st.1; ⟨o, ho⟩
  frame := fun _ _ _ st hk => ⟨let ⟨o, ho, r⟩ := st.1; ⟨o, hk it (by simp) o ho, r⟩, let ⟨o, ho, r⟩ := st.2; ⟨o, hk l (by simp) o ho, r⟩⟩
  item := fun i s Q E hi st hQ => by
    refine nextT_item st.1 st.2 (x := items[i]) (by simp [hi]) fun h' hit' hs' => ?_
    exact hQ _ h' s.toks (by simp [hi]) ⟨hit', Tup.but st.2 hs'.extBut hne⟩ hs'
  done := fun s Q E st hE => nextT_end hh st.1 st.2 (by simp) hE
theorem meets_enumT (l : Addr) (items : Array Value) (n : Nat) (dct : Option Addr) (sl : Array (Option Value)) :
    Meets (Builtin.«enumerate.__new__» ⟨[.type "enumerate", .ref l], []⟩) (fun _ R s => s.heap.get? l = some { cls := .type "tuple", dict := dct, data := .seq items n, slots := sl } ∧
      R (.ok (.ret (.ref (s.heap.push { cls := .type "tuple_iterator", data := .fields #[.ref l, .int 0 0] }).objs.size)))
        { s with heap := (s.heap.push { cls := .type "tuple_iterator", data := .fields #[.ref l, .int 0 0] }).push { cls := .type "enumerate", data := .fields #[.none, .bool false, .ref s.heap.objs.size, rawInt 0, .none, .none] } }) :=
  .of_wp fun prog w A R s h => by
    obtain ⟨hp, g, d, tk, os⟩ := s; obtain ⟨hl, h⟩ := h
    have hsub := sub_enumerate
    have hL : Heap.IsTuple (Shared.heap ⟨hp, g, d, tk, os⟩) l items := ⟨_, hl, rfl, n, rfl⟩
    wp_walk using wpAny_loadPart' hl
    refine wpAny_stack_any fun st => wpAny_pure ?_
    split
    · rename_i c _ _ _ _ _
      cases (c == Value.type "enumerate")
      · wp_walk using wpAny_loadPart' hl, wpAny_pyIter_tuple hL
        exact ⟨_, rfl, h⟩
      · wp_walk using wpAny_loadPart' hl, wpAny_pyIter_tuple hL
        exact ⟨_, rfl, h⟩
    · wp_walk using wpAny_loadPart' hl, wpAny_pyIter_tuple hL
      exact ⟨_, rfl, h⟩
section
variable {prog : Program} {w : World} {A : Around} {E : Value → Shared → Prop} {s : Shared}
theorem call_enumT {l : Addr} {items : Array Value} {Q : Value → Shared → Prop} (hL : s.heap.IsTuple l items)
    (h : ∀ h', IsEnum h' (s.heap.objs.size + 1) s.heap.objs.size 0 .none → h'.IsTupleIter s.heap.objs.size l 0 → (∀ c o, s.heap.get? c = some o → h'.get? c = some o) → Q (.ref (s.heap.objs.size + 1)) { s with heap := h' }) :
    wpAny (model prog w) A (call (.type "enumerate") [.ref l]) Q E s := by
  obtain ⟨o, ho, hc, n, hd⟩ := hL
  obtain ⟨ocls, odict, odata, oslots⟩ := o
  simp only at hc hd
  subst hc; subst hd
  refine callType_new PySem.F.called_enumerate (by decide) (PySem.F.typeCall_enumerate_1 _) (PySem.F.newCall_enumerate_1 _) (fun obj => PySem.F.args_object_init_2 obj _) PySem.F.entry_enumerate_new (meets_enumT l items n odict oslots) ⟨ho, ?_⟩
  have q1 : (s.heap.push { cls := .type "tuple_iterator", data := .fields #[.ref l, .int 0 0] }).objs.size = s.heap.objs.size + 1 := Heap.size_push ..
  have p2 : ((s.heap.push { cls := .type "tuple_iterator", data := .fields #[.ref l, .int 0 0] }).push { cls := .type "enumerate", data := .fields #[.none, .bool false, .ref s.heap.objs.size, rawInt 0, .none, .none] }).get? (s.heap.push { cls := .type "tuple_iterator", data := .fields #[.ref l, .int 0 0] }).objs.size = some _ := Heap.get?_push_size _ rfl
  show _ ∧ _
  rw [q1] at p2
  rw [q1]
  exact ⟨⟨_, p2, rfl⟩, h _ p2 ⟨_, Heap.get?_push_of_some _ (Heap.get?_push_size _ rfl), rfl, rfl⟩ fun c o x => Heap.get?_push_of_some _ (Heap.get?_push_of_some _ x)⟩
theorem enum_end {e it : Addr} {i : Int} {old : Value} {Q : Option Value → Shared → Prop} (he : IsEnum s.heap e it i old)
    (hn : ∀ (Q' : Value → Shared → Prop) (E' : Value → Shared → Prop), (∀ h' x, Heap.ExtBut it s.heap h' → (∃ o, h'.get? x = some o ∧ o.cls = .type "StopIteration") → E' (.ref x) { s with heap := h' }) → wpAny (model prog w) A.in1 (Builtin.SmallTypes.nextOf (.ref it)) Q' E' s)
    (hQ : ∀ h', Heap.ExtBut it s.heap h' → Q none { s with heap := h' }) : wpAny (model prog w) A (pyNext (.ref e)) Q E s := by
  have hT : s.TypeIs (.ref e) "enumerate" := ⟨_, he, rfl⟩
  unfold pyNext
  refine wpAny_bind (wpAny_attempt (wpAny_callSpecial?_slot (name := Str.ofString "__next__") hT PySem.F.slot_enumerate_next
    (wpAny_call_entry PySem.F.slot_enumerate_next hT PySem.F.entry_enumerate_next ?_ (PySem.F.args_enumerate_next_1 _))))
  show wpAny _ _ (field (.ref e) 2 >>= _) _ _ _
  refine wpAny_bind (wpAny_field he rfl (x := .ref it) rfl ?_)
  refine wpAny_bind (hn _ _ fun h' x he' hx' => ?_)
  obtain ⟨o, ho, hc⟩ := hx'
  refine wpAny_bind (wpAny_isInstance (T := "StopIteration") (b := true) ⟨o, ho, hc⟩ isSubtype_stop ?_)
  exact wpAny_pure (hQ _ he')
end
/-- the numbered things of a list or a tuple -/
def Iten (K : PySem.W.Frag) (isT : Bool) (a : Addr) : It :=
  ⟨fun i H => ∃ xs x, (if isT then SqT K H a xs else SqL K H a xs) ∧ xs[i]? = some x,
   fun i H v H' => ∃ T x, v = .ref T ∧ H T = none ∧ H' = upd H T (.tup [.int i, x]) ∧ ∀ xs, (if isT then SqT K H a xs else SqL K H a xs) → xs[i]? = some x,
   fun i H => ∃ xs, (if isT then SqT K H a xs else SqL K H a xs) ∧ xs.length ≤ i⟩
def enSt (isT : Bool) (it a : Addr) (i : Nat) (h : Heap) : Prop := if isT then h.IsTupleIter it a i else h.IsListIter it a i
theorem turn_enum {P : Program} {w : World} {K : PySem.W.Frag} {es : List Expr} {ek : Nat} {ep : Pos} {isT : Bool} {e it a : Addr} (hei : e ≠ it) (hae : a ≠ e) (hai : a ≠ it) :
    Turn P w K (.Tuple es ek ep) (Iten K isT a) [e, it] e (fun i h => (∃ old, IsEnum h e it i old) ∧ enSt isT it a i h) where
  mem := by simp
  obj := fun i h ⟨⟨old, he⟩, st⟩ c hc => by
    simp only [List.mem_cons, List.not_mem_nil, or_false] at hc
    rcases hc with rfl | rfl
    · exact ⟨_, he, fun v m => by cases m⟩
    · cases isT with
      | true => obtain ⟨o1, e1, _, d1⟩ := (show h.IsTupleIter c a i from st); exact ⟨_, e1, fun v m => by rw [d1] at m; cases m⟩
      | false => obtain ⟨o1, e1, _, d1⟩ := (show h.IsListIter c a i from st); exact ⟨_, e1, fun v m => by rw [d1] at m; cases m⟩
  keep := fun i h h' ⟨⟨old, he⟩, st⟩ k => by
    refine ⟨⟨old, k e (by simp) _ he⟩, ?_⟩
    cases isT with
    | true => obtain ⟨o1, e1, r⟩ := (show h.IsTupleIter it a i from st); exact ⟨o1, k it (by simp) _ e1, r⟩
    | false => obtain ⟨o1, e1, r⟩ := (show h.IsListIter it a i from st); exact ⟨o1, k it (by simp) _ e1, r⟩
  item := by
    intro X hP hw hK hc i pins s σ H E I hf Z hg
    subst hP hw hK
    obtain ⟨⟨old, he⟩, st⟩ := Z
    obtain ⟨xs, x, sa, hx⟩ := hg
    have hch : ∀ c ∈ [e, it], FpOk X pins H c := hf
    have elt : e < s.heap.objs.size := Heap.lt_size he
    have fin : ∀ (its : List Value) (u : Value) (h' : Heap) (tk : Nat), Vals xs its → its[i]? = some u → IsEnumOut h' e it ((i : Int) + 1) u s.heap.objs.size → enSt isT it a (i + 1) h' → h'.get? s.heap.objs.size = some { cls := .type "tuple", data := .seq #[.int i tk, u] } →
        (∀ b o, b ≠ e → b ≠ it → s.heap.get? b = some o → h'.get? b = some o) → it < s.heap.objs.size →
        ∃ u', some (Value.ref s.heap.objs.size) = some u' ∧ wpAny (model X.prog X.w) X.A (letOwnedTupleGo (.Tuple es ek ep) (.ref e) u') (fun _ s2 => ∃ x H', Inv X pins σ H' s2 ∧ RelV x u' ∧ (Iten X.K isT a).yld i H x H' ∧ ((∃ old, IsEnum s2.heap e it ((i + 1 : Nat) : Int) old) ∧ enSt isT it a (i + 1) s2.heap) ∧ ∀ b ∈ [e, it], H' b = none) E { s with heap := h', toks := tk + 1 } := by
      intro its u h' tk rv hu ho st' hT hk ilt
      refine ⟨_, rfl, wpAny_letOwnedTupleGo_enum ho fun h2 he2 e2 => ?_⟩
      have kk : ∀ c o, c ∉ [e, it] → s.heap.get? c = some o → h2.get? c = some o := fun c o n q => by
        simp only [List.mem_cons, List.not_mem_nil, or_false, not_or] at n
        exact e2.extBut _ _ n.1 (hk c o n.1 n.2 q)
      have NT := e2.extBut _ _ (Nat.ne_of_gt elt) hT
      have hfr : H s.heap.objs.size = none := I.hok.fresh (Nat.le_refl _)
      obtain ⟨u2, hu2, ru⟩ := rv.get hx
      rw [hu] at hu2; cases hu2
      refine ⟨.ref s.heap.objs.size, upd H s.heap.objs.size (.tup [.int i, x]), inv_turnLay (s := s) (h' := h2) (t' := tk + 1) I hch kk (Nat.le_refl _) ?_, rfl, ⟨_, x, rfl, hfr, rfl, fun ws hw => ?_⟩, ⟨⟨u, by simpa using he2⟩, ?_⟩, fun c hm => ?_⟩
      · exact ⟨by show 2 ≤ sizeLine; decide, [.int i tk, u], .cons ⟨tk, rfl⟩ (.cons ru .nil), ⟨_, NT, rfl, ⟨_, rfl⟩, rfl⟩⟩
      · cases isT with
        | true => rw [I.tuple_inj hw sa]; exact hx
        | false => rw [I.list_inj hw sa]; exact hx
      · cases isT with
        | true => obtain ⟨o1, e1, r⟩ := (show h'.IsTupleIter it a (i + 1) from st'); exact ⟨o1, e2.extBut _ _ hei.symm e1, r⟩
        | false => obtain ⟨o1, e1, r⟩ := (show h'.IsListIter it a (i + 1) from st'); exact ⟨o1, e2.extBut _ _ hei.symm e1, r⟩
      · have lt : c < s.heap.objs.size := by
          simp only [List.mem_cons, List.not_mem_nil, or_false] at hm
          rcases hm with rfl | rfl
          · exact elt
          · exact ilt
        rw [upd_ne (Nat.ne_of_lt lt)]
        exact (hf c hm).1
    have hef : e ∉ [it, a] := by simp only [List.mem_cons, List.not_mem_nil, or_false, not_or]; exact ⟨hei, hae.symm⟩
    cases isT with
    | true =>
      obtain ⟨its, rv, p1, z1⟩ := I.tuple sa
      have st' : s.heap.IsTupleIter it a i := st
      obtain ⟨o1, e1, _⟩ := id st'
      refine wpAny_pyNext_enum_itemD (drawsT (prog := X.prog) (w := X.w) (A := X.A.in1) (I.ok.hd hc) it a hai its.toArray) he ⟨st', show s.heap.IsTuple a its.toArray from p1⟩ (by have := rv.length; have := (List.getElem?_eq_some_iff.mp hx).1; rw [List.size_toArray]; omega) hei hef fun u h' tk hu ho hs hT _ hk => ?_
      exact fin its u h' tk rv (by simpa using hu) ho hs.1 hT hk (Heap.lt_size e1)
    | false =>
      obtain ⟨its, rv, p1, z1⟩ := I.list sa
      have st' : s.heap.IsListIter it a i := st
      obtain ⟨o1, e1, _⟩ := id st'
      refine wpAny_pyNext_enum_itemD (Draws.list (prog := X.prog) (w := X.w) (A := X.A.in1) (I.ok.hd hc) it a hai its.toArray) he ⟨st', p1.isList⟩ (by have := rv.length; have := (List.getElem?_eq_some_iff.mp hx).1; rw [List.size_toArray]; omega) hei hef fun u h' tk hu ho hs hT _ hk => ?_
      exact fin its u h' tk rv (by simpa using hu) ho hs.1 hT hk (Heap.lt_size e1)
  done := by
    intro X hP hw hK hc i pins s σ H E I hf Z hg
    subst hP hw hK
    obtain ⟨⟨old, he⟩, st⟩ := Z
    obtain ⟨xs, sa, hz⟩ := hg
    have out : ∀ h', Heap.ExtBut it s.heap h' → (none : Option Value) = none ∧ Inv X pins σ H { s with heap := h' } := fun h' x => ⟨rfl, inv_turns (s := s) (h' := h') (t' := s.toks) I hf fun c o n q => x c o (fun m => n (by simp [m])) q⟩
    cases isT with
    | true =>
      obtain ⟨its, rv, p1, z1⟩ := I.tuple sa
      refine enum_end he (fun Q' E' hq => nextT_end (I.ok.hd hc) (show s.heap.IsTupleIter it a i from st) (show s.heap.IsTuple a its.toArray from p1) (by have := rv.length; simp; omega) hq) out
    | false =>
      obtain ⟨its, rv, p1, z1⟩ := I.list sa
      refine enum_end he (fun Q' E' hq => wpAny_nextOf_list_end (I.ok.hd hc) (show s.heap.IsListIter it a i from st) p1.isList (by have := rv.length; simp; omega) hq) out
  self := fun _ _ _ _ _ Z h => let ⟨⟨_, he⟩, _⟩ := Z; wpAny_pyIter_enum he h
section
variable {X : Cx} {a : Expr} {es : List Expr} {ek : Nat} {ep p pos : Pos}
theorem pi_enum {te : TE} (hg : Gl X "enumerate") (hm : X.mg "enumerate" = none) (ha : PE X a te) (hs : starEach [a] X.env = (false, eval a X.env) :: starEach [] X.env := by rfl) (hpl : (backTo pos (starEach [] X.env)).any (·.1) = false := by rfl) :
    PI X (.Tuple es ek ep) (.Call (.Name "enumerate" p) [a] [] pos) (fun σ H R => te σ H fun x H1 => ∃ l, x = .ref l ∧ ((∃ xs, SqT X.K H1 l xs) ∧ R (Iten X.K true l) H1 ∨ (∃ xs, SqL X.K H1 l xs) ∧ R (Iten X.K false l) H1)) := by
  intro pins s σ H R I h
  refine wpAny_Call_Name_kw (ld_blt I hg hm (by rfl) ?_ (by decide) (by decide))
  refine callWith_type1 ?_ hs hpl
  rw [hs]
  show wpAny _ _ (spliced ((false, eval a X.env) :: backTo pos (starEach [] X.env))) _ _ s
  refine Calls.spliced_cons (thn (ha pins s σ H _ I h) fun u s1 ⟨x, H1, I1, r1, l, hx, q⟩ => Calls.spliced_nil ?_)
  subst hx
  cases r1
  have out : ∀ (isT : Bool) (h' : Heap), l < s1.heap.objs.size → IsEnum h' (s1.heap.objs.size + 1) s1.heap.objs.size 0 .none → enSt isT s1.heap.objs.size l 0 h' → (∀ c o, s1.heap.get? c = some o → h'.get? c = some o) → R (Iten X.K isT l) H1 →
      wpAny (model X.prog X.w) X.A (pyIter (.ref (s1.heap.objs.size + 1))) (PIE X pins σ (.Tuple es ek ep) R) X.xe { s1 with heap := h' } := by
    intro isT h' hl he st kp q
    refine wpAny_pyIter_enum (s := { s1 with heap := h' }) he ?_
    refine ⟨s1.heap.objs.size + 1, [s1.heap.objs.size + 1, s1.heap.objs.size], _, _, H1, rfl, I1.kept (t' := s1.toks) kp, turn_enum (isT := isT) (Nat.ne_of_gt (Nat.lt_succ_self _)) (Nat.ne_of_lt (Nat.lt_succ_of_lt hl)) (Nat.ne_of_lt hl), ⟨⟨_, he⟩, st⟩, fun c hc => ?_, q⟩
    have ge : s1.heap.objs.size ≤ c := by
      simp only [List.mem_cons, List.not_mem_nil, or_false] at hc
      rcases hc with rfl | rfl
      · exact Nat.le_succ _
      · exact Nat.le_refl _
    exact I1.fpOk ge (I1.hok.fresh ge)
  rcases q with ⟨⟨xs, hq⟩, q⟩ | ⟨⟨xs, hq⟩, q⟩
  · obtain ⟨its, rv, p1, _⟩ := I1.tuple hq
    have hl : l < s1.heap.objs.size := by obtain ⟨_, e, _⟩ := p1; exact Heap.lt_size e
    exact call_enumT (show s1.heap.IsTuple l its.toArray from p1) fun h' he st kp => out true h' hl he st kp q
  · obtain ⟨its, rv, p1, _⟩ := I1.list hq
    have hl : l < s1.heap.objs.size := by obtain ⟨_, _, e, _⟩ := p1; exact Heap.lt_size e
    exact call_enumerate_list p1.isList fun h' he st _ kp => out false h' hl he st kp q
def numD (xs : List D) : List D := ((List.range xs.length).zip xs).map fun q => D.tup [.int (q.1 : Nat), q.2]
theorem numD_get {xs : List D} {i : Nat} {d : D} (h : (numD xs)[i]? = some d) : ∃ x, xs[i]? = some x ∧ d = .tup [.int (i : Nat), x] := by
  unfold numD at h
  rw [List.getElem?_map] at h
  cases e : ((List.range xs.length).zip xs)[i]? with
  | none => rw [e] at h; cases h
  | some pr =>
    rw [e] at h
    cases h
    obtain ⟨f1, f2⟩ := List.getElem?_zip_eq_some.mp e
    have hi : i < xs.length := (List.getElem?_eq_some_iff.mp f2).1
    rw [List.getElem?_range hi] at f1
    cases f1
    exact ⟨pr.2, f2, rfl⟩
theorem numD_len (xs : List D) : (numD xs).length = xs.length := by unfold numD; simp
def iEnum (f : FE) : FI := fun σ M => match f σ M with
  | some (x, M1) => match seqOf M1 x with
    | some xs => some (numD xs, gdOf x xs, M1)
    | none => none
  | none => none
theorem q_ienum {g : FE} (hg : Gl X "enumerate") (hm : X.mg "enumerate" = none) (h : QE X a g) (hs : starEach [a] X.env = (false, eval a X.env) :: starEach [] X.env := by rfl) (hpl : (backTo pos (starEach [] X.env)).any (·.1) = false := by rfl) :
    QI X (.Tuple es ek ep) (.Call (.Name "enumerate" p) [a] [] pos) (iEnum g) := .mk <| PI.imp (pi_enum hg hm h.un hs hpl) fun τ H R ⟨L, σ, M, xs, gd, M', c, rs, hf, q⟩ => by
  unfold iEnum at hf
  split at hf
  · rename_i y M1 e1
    split at hf
    · rename_i zs e2
      cases hf
      refine ⟨L, σ, M, _, _, c, rs, e1, fun L1 H1 v s1 c1 r1 => ?_⟩
      have step : ∀ (isT : Bool) (l : Addr) (L2 : List Addr) (H2 : Hp) (vs : List V), (if isT then SqT X.K H2 l vs else SqL X.K H2 l vs) → Reps L2 H2 zs vs →
          (∀ (i : Nat) d, (numD zs)[i]? = some d → (Iten X.K isT l).go i H2 ∧ ∀ v H'', (Iten X.K isT l).yld i H2 v H'' → (∀ a o, H2 a = some o → H'' a = some o) ∧ Rep L2 H'' d v) ∧ (Iten X.K isT l).stop (numD zs).length H2 := by
        intro isT l L2 H2 vs hq r
        refine ⟨fun i d hd => ?_, ⟨vs, hq, by rw [numD_len, r.length]; exact Nat.le_refl _⟩⟩
        obtain ⟨x, hx, rfl⟩ := numD_get hd
        obtain ⟨u, hu, ru⟩ := r.get hx
        refine ⟨⟨vs, u, hq, hu⟩, fun v H3 hy => ?_⟩
        obtain ⟨T, x', rfl, hT, rfl, hxx⟩ := hy
        have ex := hxx vs hq
        rw [hu] at ex; cases ex
        exact ⟨fun a o e => by rw [upd_ne (ne_of_none e hT)]; exact e, Rep.newTup hT (.cons rep_int (.cons ru .nil))⟩
      unfold seqOf at e2
      cases t : tupOf y with
      | some ws =>
        rw [t] at e2; cases e2
        obtain ⟨a, vs, rfl, e3, r3⟩ := tup_rep r1 t
        refine ⟨a, rfl, .inl ⟨⟨vs, .of e3⟩, q L1 H1 _ s1 c1 fun L2 H2 M2 s2 c2 _ => ?_⟩⟩
        exact step true a L2 H2 vs (.of (s2.tup a vs e3)) (r3.stp s2)
      | none =>
        rw [t] at e2
        dsimp only at e2
        obtain ⟨a, vs, rfl, e3, r3⟩ := lst_rep c1 r1 e2
        refine ⟨a, rfl, .inr ⟨⟨vs, .inl e3⟩, q L1 H1 _ s1 c1 fun L2 H2 M2 s2 c2 hgd => ?_⟩⟩
        have key : ∃ vs', SqL X.K H2 a vs' ∧ Reps L2 H2 zs vs' := by
          cases y with
          | fl ys =>
            cases e2
            obtain ⟨p', vs', hp', _, e5, e6, r6⟩ := r1
            cases hp'
            exact ⟨vs', .of (s2.old _ _ e5 e6), r6.stp s2⟩
          | dat d =>
            cases d with
            | ref n =>
              unfold RepE Rep at r1
              obtain ⟨a', ha', e5⟩ := r1
              cases ha'
              have e6 : L2[n]? = some a := by obtain ⟨N, hN⟩ := s2.pre; rw [hN]; exact pre_get e5
              rcases hgd with z | z
              · obtain ⟨vs', e7, r7⟩ := c2.obj n a _ e6 z; exact ⟨vs', .of e7, r7⟩
              · obtain ⟨o, vs', e7, r7⟩ := c2.obj n a _ e6 z; exact ⟨vs', .inl (.inr ⟨o, e7⟩), r7⟩
            | _ => cases e2
        obtain ⟨vs', hq, r7⟩ := key
        exact step false a L2 H2 vs' hq r7
    · cases hf
  · cases hf
end
end L3

set_option Elab.async false
set_option linter.all false
set_option maxRecDepth 100000
namespace L3
open PySem PySem.Spec PyProof.Rows L2
section
variable {κ : Type} [DecidableEq κ]
def lookD (kf : D → Option κ) (kvs : List (D × D)) (k : κ) : Option D := (kvs.find? fun p => decide (kf p.1 = some k)).map (·.2)
def putD (kf : D → Option κ) (kvs : List (D × D)) (k : κ) (kd v : D) : List (D × D) :=
  if (kvs.any fun p => decide (kf p.1 = some k)) = true then kvs.map fun p => if kf p.1 = some k then (p.1, v) else p else kvs ++ [(kd, v)]
theorem look_rep {kf : D → Option κ} {L : List Addr} {H : Hp} (k : κ) : ∀ {kvs : List (D × D)} {vs : List (κ × V)}, DRep kf L H kvs vs → (lookD kf kvs k = none ∧ valV vs k = none) ∨ ∃ d v, lookD kf kvs k = some d ∧ valV vs k = some v ∧ Rep L H d v
  | [], vs, h => by unfold DRep at h; subst h; exact .inl ⟨rfl, rfl⟩
  | p :: r, vs, h => by
    obtain ⟨k', v, r', rfl, e, h1, h2⟩ := h
    by_cases q : k' = k
    · subst q
      exact .inr ⟨p.2, v, by unfold lookD; rw [List.find?_cons, e]; simp, by rw [valV_pos rfl], h1⟩
    · have e1 : lookD kf (p :: r) k = lookD kf r k := by unfold lookD; rw [List.find?_cons, e]; simp [q]
      rw [e1, valV_neg q]
      exact look_rep k h2
theorem drep_any {kf : D → Option κ} {L : List Addr} {H : Hp} (k : κ) : ∀ {kvs : List (D × D)} {vs : List (κ × V)}, DRep kf L H kvs vs → (kvs.any fun p => decide (kf p.1 = some k)) = (vs.any fun kv => decide (kv.1 = k))
  | [], vs, h => by unfold DRep at h; subst h; rfl
  | p :: r, vs, h => by
    obtain ⟨k', v, r', rfl, e, h1, h2⟩ := h
    rw [List.any_cons, List.any_cons, drep_any k h2, e]
    simp
theorem drep_map {kf : D → Option κ} {L : List Addr} {H : Hp} (k : κ) {d : D} {u : V} (hd : Rep L H d u) : ∀ {kvs : List (D × D)} {vs : List (κ × V)}, DRep kf L H kvs vs → DRep kf L H (kvs.map fun p => if kf p.1 = some k then (p.1, d) else p) (vs.map fun kv => if kv.1 = k then (kv.1, u) else kv)
  | [], vs, h => by unfold DRep at h; subst h; rfl
  | p :: r, vs, h => by
    obtain ⟨k', v, r', rfl, e, h1, h2⟩ := h
    rw [List.map_cons, List.map_cons]
    by_cases q : k' = k
    · subst q
      rw [if_pos e, if_pos rfl]
      exact ⟨k', u, _, rfl, e, hd, drep_map k' hd h2⟩
    · rw [if_neg (by rw [e]; simpa using q), if_neg q]
      exact ⟨k', v, _, rfl, e, h1, drep_map k hd h2⟩
theorem drep_snoc {kf : D → Option κ} {L : List Addr} {H : Hp} {k : κ} {kd d : D} {u : V} (hk : kf kd = some k) (hd : Rep L H d u) : ∀ {kvs : List (D × D)} {vs : List (κ × V)}, DRep kf L H kvs vs → DRep kf L H (kvs ++ [(kd, d)]) (vs ++ [(k, u)])
  | [], vs, h => by unfold DRep at h; subst h; exact ⟨k, u, [], rfl, hk, hd, rfl⟩
  | p :: r, vs, h => by
    obtain ⟨k', v, r', rfl, e, h1, h2⟩ := h
    exact ⟨k', v, _, rfl, e, h1, drep_snoc hk hd h2⟩
theorem put_rep {kf : D → Option κ} {L : List Addr} {H : Hp} {k : κ} {kd d : D} {u : V} (hk : kf kd = some k) (hd : Rep L H d u) {kvs : List (D × D)} {vs : List (κ × V)} (h : DRep kf L H kvs vs) : DRep kf L H (putD kf kvs k kd d) (putK vs k u) := by
  unfold putD putK
  rw [drep_any k h]
  split
  · exact drep_map k hd h
  · exact drep_snoc hk hd h
end
theorem keys_rep {L : List Addr} {H : Hp} : ∀ {ds : List D} {vs : List V} {ks : List Key}, Reps L H ds vs → keysD ds = some ks → vs = ks.map kV
  | [], vs, ks, h, e => by cases e; unfold Reps at h; exact h
  | d :: ds, vs, ks, h, e => by
    unfold Reps at h
    obtain ⟨v, r, rfl, h1, h2⟩ := h
    unfold keysD at e
    cases e1 : keyD d with
    | none => rw [e1] at e; cases e
    | some k =>
      cases e2 : keysD ds with
      | none => rw [e1, e2] at e; cases e
      | some ks' =>
        rw [e1, e2] at e; cases e
        rw [key_rep h1 e1, keys_rep h2 e2]; rfl
theorem tk_rep {L : List Addr} {H : Hp} {d : D} {v : V} {ks : List Key} (h : Rep L H d v) (e : tkD d = some ks) : ∃ b, v = .ref b ∧ H b = some (.tup (ks.map kV)) := by
  cases d with
  | tup ds =>
    unfold Rep at h
    obtain ⟨a, vs, rfl, e1, r⟩ := h
    exact ⟨a, rfl, by rw [e1, keys_rep r e]⟩
  | _ => cases e
/-- what a dict has at a key -/
def dGetD (M : Mem) (x : EV) (k : D) : Option (Option D) := match x with
  | .dat (.ref n) => match M[n]? with
    | some (.dict kvs) => match keyD k with
      | some kk => some (lookD keyD kvs kk)
      | none => none
    | some (.dicT kvs) => match tkD k with
      | some kk => some (lookD tkD kvs kk)
      | none => none
    | _ => none
  | _ => none
def OptR (L : List Addr) (H : Hp) : Option D → Option V → Prop
  | none, o => o = none
  | some d, o => ∃ v, o = some v ∧ Rep L H d v
theorem dget_rep {K : PySem.W.Frag} {L : List Addr} {M : Mem} {H H0 : Hp} {x : EV} {v w : V} {k : D} {o : Option D} (c : Cor K L M H) (rx : RepE H0 L H x v) (rk : Rep L H k w) (e : dGetD M x k = some o) : ∃ a ov, v = .ref a ∧ DGet H a w ov ∧ OptR L H o ov := by
  cases x with
  | fl xs => cases e
  | dat d =>
    cases d with
    | ref n =>
      unfold RepE Rep at rx
      obtain ⟨a, rfl, ea⟩ := rx
      unfold dGetD at e
      dsimp only at e
      cases q : M[n]? with
      | none => rw [q] at e; cases e
      | some m =>
        rw [q] at e
        have z := c.obj n a m ea q
        cases m with
        | dict kvs =>
          dsimp only at e
          cases e2 : keyD k with
          | none => rw [e2] at e; cases e
          | some kk =>
            rw [e2] at e
            cases e
            obtain ⟨vs, e3, r⟩ := z
            refine ⟨a, valV vs kk, rfl, ?_, ?_⟩
            · rw [key_rep rk e2]; exact DGet.k e3
            · rcases look_rep kk r with ⟨h1, h2⟩ | ⟨d, v, h1, h2, h3⟩
              · rw [h1, h2]; rfl
              · rw [h1, h2]; exact ⟨v, rfl, h3⟩
        | dicT kvs =>
          dsimp only at e
          cases e2 : tkD k with
          | none => rw [e2] at e; cases e
          | some kk =>
            rw [e2] at e
            cases e
            obtain ⟨vs, e3, r⟩ := z
            obtain ⟨b, rfl, eb⟩ := tk_rep rk e2
            refine ⟨a, valV vs kk, rfl, DGet.t e3 eb, ?_⟩
            rcases look_rep kk r with ⟨h1, h2⟩ | ⟨d, v, h1, h2, h3⟩
            · rw [h1, h2]; rfl
            · rw [h1, h2]; exact ⟨v, rfl, h3⟩
        | _ => cases e
    | _ => cases e
def dPutD (M : Mem) (n : Nat) (k v : D) : Option Mem := match M[n]? with
  | some (.dict kvs) => match keyD k with
    | some kk => if kvs.length < sizeLine then some (M.set n (.dict (putD keyD kvs kk k v))) else none
    | none => none
  | some (.dicT kvs) => match tkD k with
    | some kk => if kvs.length < sizeLine then some (M.set n (.dicT (putD tkD kvs kk k v))) else none
    | none => none
  | _ => none
theorem dput_rep {K : PySem.W.Frag} {L : List Addr} {M M' : Mem} {H : Hp} {n : Nat} {a : Addr} {k v : D} {w u : V} (c : Cor K L M H) (ea : L[n]? = some a) (rk : Rep L H k w) (rv : Rep L H v u) (e : dPutD M n k v = some M') : ∃ H', DPut H a w u H' ∧ Cor K L M' H' ∧ Stp L H L H' := by
  unfold dPutD at e
  cases q : M[n]? with
  | none => rw [q] at e; cases e
  | some m =>
    rw [q] at e
    have z := c.obj n a m ea q
    cases m with
    | dict kvs =>
      dsimp only at e
      cases e2 : keyD k with
      | none => rw [e2] at e; cases e
      | some kk =>
        rw [e2] at e
        dsimp only at e
        split at e
        · rename_i hl
          cases e
          obtain ⟨vs, e3, r⟩ := z
          obtain ⟨c3, s3⟩ := c.put (m := .dict (putD keyD kvs kk k v)) (o' := .dK (putK vs kk u)) ea e3 (fun _ z => by cases z) (fun _ _ z => by cases z) fun s3 => ⟨_, upd_same, (put_rep e2 rv r).stp s3⟩
          refine ⟨_, ?_, c3, s3⟩
          rw [key_rep rk e2]; exact DPut.k e3 (by rw [r.length]; exact hl)
        · cases e
    | dicT kvs =>
      dsimp only at e
      cases e2 : tkD k with
      | none => rw [e2] at e; cases e
      | some kk =>
        rw [e2] at e
        dsimp only at e
        split at e
        · rename_i hl
          cases e
          obtain ⟨vs, e3, r⟩ := z
          obtain ⟨b, rfl, eb⟩ := tk_rep rk e2
          obtain ⟨c3, s3⟩ := c.put (m := .dicT (putD tkD kvs kk k v)) (o' := .dT (putK vs kk u)) ea e3 (fun _ z => by cases z) (fun _ _ z => by cases z) fun s3 => ⟨_, upd_same, (put_rep e2 rv r).stp s3⟩
          exact ⟨_, DPut.t e3 eb (by rw [r.length]; exact hl), c3, s3⟩
        · cases e
    | _ => cases e
section
variable {X : Cx} {a b e o i value : Expr} {pos pos' apos cpos : Pos} {f g h : FE}
def kDGet : K2 := fun x y M => match y with
  | .dat k => match dGetD M x k with
    | some (some d) => some (.dat d, M)
    | _ => none
  | _ => none
theorem ker_dget {K : PySem.W.Frag} : Ker2 K (fun x y H Q => ∃ a v, x = .ref a ∧ DGet H a y (some v) ∧ Q v H) kDGet := by
  intro L M M' H H0 x y d v w Q c rx ry hk q
  unfold kDGet at hk
  split at hk
  · rename_i k
    split at hk
    · rename_i d' e1
      cases hk
      obtain ⟨a, ov, rfl, h1, h2⟩ := dget_rep c rx ry e1
      obtain ⟨u, rfl, r⟩ := h2
      exact ⟨a, u, rfl, h1, q L H u (.refl L H) c r⟩
    · cases hk
  · cases hk
theorem q_dget (hu : X.A.units + 1 < cLine) (h1 : QE X o f) (h2 : QE X i g) (hs : NoSl i := by intro _ _; rfl) : QE X (.Subscript o i pos) (fOp kDGet f g) := .mk <| PE.imp (pe_dget hu h1.un h2.un hs) fun _ _ _ h => op_read ker_dget h
def sDSet (fv fo fi : FE) : FS := fun σ M => match toD fv σ M with
  | some (v, M1) => match toD fo σ M1 with
    | some (.ref n, M2) => match toD fi σ M2 with
      | some (k, M3) => match dPutD M3 n k v with
        | some M4 => some (.nx, σ, M4)
        | none => none
      | none => none
    | _ => none
  | none => none
theorem q_dset (hu : X.A.units + 1 < cLine) (hv : QE X value f) (ho : QE X o g) (hi : QE X i h) (hs : swapsWith value (some (.Subscript o i pos')) pos.line X.env = pure false := by rfl) : QS X (.Assign [.Subscript o i pos'] value pos) (sDSet f g h) :=
  .mk <| PS.imp (ps_dput hu (q_toD ho).un (q_toD hi).un (q_toD hv).un hs) fun E τ H ⟨L, σ, M, out, σ', M', c, rs, hf, q⟩ => by
    unfold sDSet at hf
    split at hf
    · rename_i v M1 e1
      split at hf
      · rename_i n M2 e2
        split at hf
        · rename_i k M3 e3
          split at hf
          · rename_i M4 e4
            cases hf
            refine ⟨L, σ, M, _, _, c, rs, e1, fun L1 H1 u s1 c1 r1 => ⟨L1, σ, M1, _, _, c1, rs.stp s1, e2, fun L2 H2 y s2 c2 r2 => ⟨L2, σ, M2, _, _, c2, (rs.stp s1).stp s2, e3, fun L3 H3 z s3 c3 r3 => ?_⟩⟩⟩
            unfold Rep at r2
            obtain ⟨a, rfl, ea⟩ := r2
            have ea3 : L3[n]? = some a := by obtain ⟨N, hN⟩ := s3.pre; rw [hN]; exact pre_get ea
            obtain ⟨H4, h1, h2, h3⟩ := dput_rep c3 ea3 r3 ((r1.stp s2).stp s3) e4
            exact ⟨a, H4, rfl, h1, q L3 H4 (((s1.trans s2).trans s3).trans h3) h2 τ ((((rs.stp s1).stp s2).stp s3).stp h3)⟩
          · cases hf
        · cases hf
      · cases hf
    · cases hf
end
end L3

set_option Elab.async false
set_option linter.all false
set_option maxRecDepth 100000
namespace L2
open PySem PySem.Spec PyProof.Rows
section
variable {prog : Program} {w : World} {A : Around} {R : Result → Shared → Prop} {s : Shared}
end
section
variable {X : Cx} {pins : List (Addr × Obj)} {σ : St} {H : Hp} {s : Shared}
end
section
variable {X : Cx} {pins : List (Addr × Obj)} {σ : St} {H : Hp} {s : Shared} {scope : Scope} {cl : List (Str × Addr)} {fp : List Addr} {it : Addr} {tn : Nat → Heap → Prop} {J : It} {tg kx vx iter : Expr} {ifs : List Expr} {pos : Pos}
  {own : List Nat} {g : TG} {tc : TT} {tk tv : TE} {E : Value → Shared → Prop} {isT : Bool}
end
section
variable {X : Cx} {scope : Scope} {tg kx vx iter : Expr} {ifs : List Expr} {pos : Pos} {own : List Nat} {wi : TI} {g : TG} {tc : TT} {tk tv : TE} {isT : Bool}
end
end L2

set_option Elab.async false
set_option linter.all false
set_option maxRecDepth 100000
namespace L3
open PySem PySem.Spec PyProof.Rows L2
section
variable {X : Cx} {scope : Scope} {tg kx vx iter : Expr} {ifs : List Expr} {pos : Pos} {own : List Nat} {isT : Bool}
end
end L3

set_option Elab.async false
set_option linter.all false
set_option maxRecDepth 100000
namespace L3
open PySem PySem.Spec PyProof.Rows L2
def isTree : Nat → D → Bool
  | 0, .int _ => true
  | n + 1, .tup ds => ds.all (isTree n)
  | _, _ => false
def eqTr : Nat → D → D → Bool
  | 0, .int i, .int j => decide (i = j)
  | n + 1, .tup xs, .tup ys => xs.length == ys.length && (xs.zip ys).all fun q => eqTr n q.1 q.2
  | _, _, _ => false
theorem eqTr_refl : ∀ (n : Nat) (x : D), isTree n x = true → eqTr n x x = true
  | 0, .int i, _ => by simp [eqTr]
  | n + 1, .tup xs, h => by
    unfold isTree at h
    unfold eqTr
    rw [List.all_eq_true] at h
    simp only [beq_self_eq_true, Bool.true_and]
    rw [List.all_eq_true]
    intro q hq
    have : q.1 = q.2 := by
      obtain ⟨i, hi, e⟩ := List.getElem_of_mem hq
      rw [List.getElem_zip] at e
      rw [← e]
    rw [← this]
    exact eqTr_refl n _ (h q.1 (List.of_mem_zip hq).1)
  | 0, .non, h => by cases h
  | 0, .bl _, h => by cases h
  | 0, .str _, h => by cases h
  | 0, .tup _, h => by cases h
  | 0, .ref _, h => by cases h
  | n + 1, .non, h => by cases h
  | n + 1, .bl _, h => by cases h
  | n + 1, .int _, h => by cases h
  | n + 1, .str _, h => by cases h
  | n + 1, .ref _, h => by cases h
theorem eqTr_eq : ∀ (n : Nat) (x y : D), isTree n x = true → isTree n y = true → eqTr n x y = true → x = y := by
  intro n
  induction n with
  | zero =>
    intro x y hx hy h
    cases x <;> first | cases hx | skip
    cases y <;> first | cases hy | skip
    unfold eqTr at h
    rw [of_decide_eq_true h]
  | succ n ih =>
    intro x y hx hy h
    cases x <;> first | cases hx | skip
    cases y <;> first | cases hy | skip
    rename_i xs ys
    unfold isTree at hx hy
    unfold eqTr at h
    rw [List.all_eq_true] at hx hy
    rw [Bool.and_eq_true, beq_iff_eq, List.all_eq_true] at h
    congr 1
    apply List.ext_getElem h.1
    intro i h1 h2
    refine ih _ _ (hx _ (List.getElem_mem h1)) (hy _ (List.getElem_mem h2)) ?_
    exact h.2 (xs[i], ys[i]) (by
      have hz : i < (xs.zip ys).length := by rw [List.length_zip]; omega
      have := List.getElem_mem hz
      rw [List.getElem_zip] at this
      exact this)
theorem tree_inj {L : List Addr} {H : Hp} : ∀ (n : Nat) (x y : D) (v : V), isTree n x = true → isTree n y = true → Rep L H x v → Rep L H y v → x = y := by
  intro n
  induction n with
  | zero =>
    intro x y v hx hy rx ry
    cases x <;> first | cases hx | skip
    cases y <;> first | cases hy | skip
    unfold Rep at rx ry
    rw [rx] at ry
    cases ry; rfl
  | succ n ih =>
    intro x y v hx hy rx ry
    cases x <;> first | cases hx | skip
    cases y <;> first | cases hy | skip
    rename_i xs ys
    unfold isTree at hx hy
    rw [List.all_eq_true] at hx hy
    unfold Rep at rx ry
    obtain ⟨a, vs, rfl, e, r⟩ := rx
    obtain ⟨a', vs', e1, e2, r'⟩ := ry
    cases e1
    rw [e] at e2; cases e2
    congr 1
    have hl : xs.length = ys.length := by rw [← r.length, r'.length]
    apply List.ext_getElem hl
    intro i h1 h2
    obtain ⟨u, hu, ru⟩ := r.get (List.getElem?_eq_getElem h1)
    obtain ⟨u', hu', ru'⟩ := r'.get (List.getElem?_eq_getElem h2)
    rw [hu] at hu'; cases hu'
    exact ih _ _ u (hx _ (List.getElem_mem h1)) (hy _ (List.getElem_mem h2)) ru ru'
section
variable {X : Cx} {pins : List (Addr × Obj)} {σ : L2.St} {H : Hp} {s : Shared} {L : List Addr}
theorem zip_all {xs ys : List D} (f : D → D → Bool) (h : xs.length = ys.length) : ((List.range xs.length).all fun j => f (xs.getD j .non) (ys.getD j .non)) = (xs.zip ys).all fun q => f q.1 q.2 := by
  rw [Bool.eq_iff_iff, List.all_eq_true, List.all_eq_true]
  constructor
  · intro hh q hq
    obtain ⟨i, hi, e⟩ := List.getElem_of_mem hq
    rw [List.getElem_zip] at e
    rw [List.length_zip] at hi
    have := hh i (by simp; omega)
    rw [← e]
    simpa [List.getD_eq_getElem?_getD, show i < xs.length by omega, show i < ys.length by omega] using this
  · intro hh i hi
    have h1 : i < xs.length := by simpa using hi
    have h2 : i < ys.length := by omega
    have hz : i < (xs.zip ys).length := by rw [List.length_zip]; omega
    have := hh (xs.zip ys)[i] (List.getElem_mem hz)
    rw [List.getElem_zip] at this
    simpa [List.getD_eq_getElem?_getD, h1, h2] using this
theorem eqAt_tree (I : Inv X pins σ H s) : ∀ (n : Nat) (A : Around) (x y : D) (v w : V) (u u' : Value), A.units + n < cLine → isTree n x = true → isTree n y = true → Rep L H x v → Rep L H y w → RelV v u → RelV w u' → SeqAt.EqAt A s u u' (eqTr n x y) := by
  intro n
  induction n with
  | zero =>
    intro A x y v w u u' hu hx hy rx ry ru ru'
    cases x <;> first | cases hx | skip
    cases y <;> first | cases hy | skip
    unfold Rep at rx ry
    subst rx; subst ry
    obtain ⟨t, rfl⟩ := ru
    obtain ⟨t', rfl⟩ := ru'
    have := SeqAt.EqAt.int_int (A := A) (s := s) ‹Int› t ‹Int› t'
    unfold eqTr
    rename_i i j
    have h := SeqAt.EqAt.int_int (A := A) (s := s) i t j t'
    have e : (i == j) = decide (i = j) := by by_cases q : i = j <;> simp [q]
    rw [e] at h
    exact h
  | succ n ih =>
    intro A x y v w u u' hu hx hy rx ry ru ru'
    cases x <;> first | cases hx | skip
    cases y <;> first | cases hy | skip
    rename_i xs ys
    have hx' := hx
    have hy' := hy
    have rx' := rx
    have ry' := ry
    unfold isTree at hx hy
    rw [List.all_eq_true] at hx hy
    unfold Rep at rx ry
    obtain ⟨a, vs, rfl, e, r⟩ := rx
    obtain ⟨b, ws, rfl, e2, r2⟩ := ry
    cases ru
    cases ru'
    by_cases hab : a = b
    · subst hab
      have := tree_inj (n + 1) _ _ _ hx' hy' rx' ry'
      rw [this, eqTr_refl (n + 1) _ hy']
      exact SeqAt.EqAt.same _
    · refine SeqAt.EqAt.of_refs hab ?_
      obtain ⟨its, rv, p1, _⟩ := I.tuple (.of e)
      obtain ⟨its2, rv2, p2, _⟩ := I.tuple (.of e2)
      have l1 : its.toArray.size = xs.length := by rw [List.size_toArray, ← rv.length, r.length]
      have l2 : its2.toArray.size = ys.length := by rw [List.size_toArray, ← rv2.length, r2.length]
      have key := SeqAt.RcAt.tuples (A := A) (s := s) (l := a) (b := b) (items := its.toArray) (items2 := its2.toArray) (e := fun j => eqTr n (xs.getD j .non) (ys.getD j .non)) p1 p2 (by omega) (fun j h1 h2 => by
        have j1 : j < xs.length := by omega
        have j2 : j < ys.length := by omega
        obtain ⟨q1, g1, t1⟩ := r.get (List.getElem?_eq_getElem j1)
        obtain ⟨q2, g2, t2⟩ := r2.get (List.getElem?_eq_getElem j2)
        obtain ⟨o1, k1, m1⟩ := rv.get g1
        obtain ⟨o2, k2, m2⟩ := rv2.get g2
        have z1 : its.toArray[j] = o1 := by have : its.toArray[j]? = some o1 := by simpa using k1
                                            rw [Array.getElem?_eq_getElem h1] at this; exact Option.some.inj this
        have z2 : its2.toArray[j] = o2 := by have : its2.toArray[j]? = some o2 := by simpa using k2
                                             rw [Array.getElem?_eq_getElem h2] at this; exact Option.some.inj this
        rw [z1, z2]
        have w1 : xs.getD j .non = xs[j] := by simp [List.getD_eq_getElem?_getD, j1]
        have w2 : ys.getD j .non = ys[j] := by simp [List.getD_eq_getElem?_getD, j2]
        show SeqAt.EqAt A.in1 s o1 o2 (eqTr n (xs.getD j .non) (ys.getD j .non))
        rw [w1, w2]
        exact ih A.in1 _ _ _ _ _ _ (by show A.units + 1 + n < cLine; omega) (hx _ (List.getElem_mem j1)) (hy _ (List.getElem_mem j2)) t1 t2 m1 m2)
      have fin : ((List.range (min its.toArray.size its2.toArray.size)).all (fun j => eqTr n (xs.getD j .non) (ys.getD j .non)) && its.toArray.size == its2.toArray.size) = eqTr (n + 1) (.tup xs) (.tup ys) := by
        rw [l1, l2]
        show _ = (xs.length == ys.length && (xs.zip ys).all fun q => eqTr n q.1 q.2)
        by_cases hl : xs.length = ys.length
        · rw [hl, Nat.min_self, ← hl, zip_all (eqTr n) hl, Bool.and_comm]
        · have : (xs.length == ys.length) = false := by simpa using hl
          rw [this]; simp
      rw [fin] at key
      exact key
end
end L3

set_option Elab.async false
set_option linter.all false
set_option maxRecDepth 100000
namespace L3
open PySem PySem.Spec PyProof.Rows L2
def nb (neg b : Bool) : Bool := if neg then !b else b
def rTr (neg : Bool) (K : PySem.W.Frag) (n : Nat) : R2 := fun x y H Q => ∃ (L : List Addr) (xs ys : List D), (xs.all (isTree n) = true ∧ ys.all (isTree n) = true) ∧
  ((Rep L H (.tup xs) x ∧ Rep L H (.tup ys) y) ∨ ∃ a b vs ws, x = .ref a ∧ y = .ref b ∧ SqL K H a vs ∧ SqL K H b ws ∧ Reps L H xs vs ∧ Reps L H ys ws) ∧ Q (.bl (nb neg (eqTr (n + 1) (.tup xs) (.tup ys)))) H
section
variable {X : Cx}
theorem tree_items {pins : List (Addr × Obj)} {σ : L2.St} {H : Hp} {s : Shared} {L : List Addr} {A : Around} {n : Nat} {xs ys : List D} {vs ws : List V} {its its2 : List Value} (I : Inv X pins σ H s) (hu : A.units + n < cLine) (hx : xs.all (isTree n) = true) (hy : ys.all (isTree n) = true) (r : Reps L H xs vs) (r2 : Reps L H ys ws) (rv : Vals vs its) (rv2 : Vals ws its2) (j : Nat) (h1 : j < its.toArray.size) (h2 : j < its2.toArray.size) :
    SeqAt.EqAt A s its.toArray[j] its2.toArray[j] (eqTr n (xs.getD j .non) (ys.getD j .non)) := by
  rw [List.all_eq_true] at hx hy
  have l1 : its.toArray.size = xs.length := by rw [List.size_toArray, ← rv.length, r.length]
  have l2 : its2.toArray.size = ys.length := by rw [List.size_toArray, ← rv2.length, r2.length]
  have j1 : j < xs.length := by omega
  have j2 : j < ys.length := by omega
  obtain ⟨q1, g1, t1⟩ := r.get (List.getElem?_eq_getElem j1)
  obtain ⟨q2, g2, t2⟩ := r2.get (List.getElem?_eq_getElem j2)
  obtain ⟨o1, k1, m1⟩ := rv.get g1
  obtain ⟨o2, k2, m2⟩ := rv2.get g2
  have z1 : its.toArray[j] = o1 := by
    have : its.toArray[j]? = some o1 := by simpa using k1
    rw [Array.getElem?_eq_getElem h1] at this; exact Option.some.inj this
  have z2 : its2.toArray[j] = o2 := by
    have : its2.toArray[j]? = some o2 := by simpa using k2
    rw [Array.getElem?_eq_getElem h2] at this; exact Option.some.inj this
  have w1 : xs.getD j .non = xs[j] := by simp [List.getD_eq_getElem?_getD, j1]
  have w2 : ys.getD j .non = ys[j] := by simp [List.getD_eq_getElem?_getD, j2]
  rw [z1, z2, w1, w2]
  exact eqAt_tree I n A _ _ _ _ _ _ hu (hx _ (List.getElem_mem j1)) (hy _ (List.getElem_mem j2)) t1 t2 m1 m2
theorem tr_fin {n : Nat} {xs ys : List D} {a b : Nat} (l1 : a = xs.length) (l2 : b = ys.length) : ((List.range (min a b)).all (fun j => eqTr n (xs.getD j .non) (ys.getD j .non)) && a == b) = eqTr (n + 1) (.tup xs) (.tup ys) := by
  subst l1 l2
  show _ = (xs.length == ys.length && (xs.zip ys).all fun q => eqTr n q.1 q.2)
  by_cases hl : xs.length = ys.length
  · rw [hl, Nat.min_self, ← hl, zip_all (eqTr n) hl, Bool.and_comm]
  · have : (xs.length == ys.length) = false := by simpa using hl
    rw [this]; simp
theorem tr_all {n : Nat} {xs ys : List D} (hl : xs.length = ys.length) : ((List.range xs.length).all fun j => eqTr n (xs.getD j .non) (ys.getD j .non)) = eqTr (n + 1) (.tup xs) (.tup ys) := by
  rw [← tr_fin (n := n) rfl rfl, hl, Nat.min_self]; simp
theorem tr_len {n : Nat} {xs ys : List D} (hl : xs.length ≠ ys.length) : eqTr (n + 1) (.tup xs) (.tup ys) = false := by
  show (xs.length == ys.length && _) = false
  rw [show (xs.length == ys.length) = false by simpa using hl]; rfl
theorem op_trEq (n : Nat) (hu : X.A.units + 1 + n < cLine) : OpR X (compareOp .Eq) (rTr false X.K n) := by
  intro pins s σ H x y v u Q I rx ry h
  obtain ⟨L, xs, ys, ⟨hx, hy⟩, hc, q⟩ := h
  have hu1 : X.A.in1.units + n < cLine := hu
  rcases hc with ⟨p1, p2⟩ | ⟨a, b, vs, ws, rfl, rfl, s1, s2, r1, r2⟩
  · unfold Rep at p1 p2
    obtain ⟨a, vs, rfl, e1, r1⟩ := p1
    obtain ⟨b, ws, rfl, e2, r2⟩ := p2
    cases rx
    cases ry
    obtain ⟨its, rv, t1, _⟩ := I.tuple (.of e1)
    obtain ⟨its2, rv2, t2, _⟩ := I.tuple (.of e2)
    refine SeqAt.eq_tupleAt (e := fun j => eqTr n (xs.getD j .non) (ys.getD j .non)) t1 t2 (by omega) (fun j h1 h2 => tree_items I hu1 hx hy r1 r2 rv rv2 j h1 h2) ?_
    rw [tr_fin (by rw [List.size_toArray, ← rv.length, r1.length]) (by rw [List.size_toArray, ← rv2.length, r2.length])]
    exact ⟨.bl _, H, I, rfl, q⟩
  · cases rx
    cases ry
    obtain ⟨its, rv, t1, _⟩ := I.list s1
    obtain ⟨its2, rv2, t2, _⟩ := I.list s2
    have l1 : its.toArray.size = xs.length := by rw [List.size_toArray, ← rv.length, r1.length]
    have l2 : its2.toArray.size = ys.length := by rw [List.size_toArray, ← rv2.length, r2.length]
    by_cases hl : xs.length = ys.length
    · refine SeqAt.eq_listAt (e := fun j => eqTr n (xs.getD j .non) (ys.getD j .non)) t1.isList t2.isList (by omega) (by omega) (fun j h1 h2 => tree_items I hu1 hx hy r1 r2 rv rv2 j h1 h2) ?_
      rw [l1, tr_all hl]
      exact ⟨.bl _, H, I, rfl, q⟩
    · refine SeqAt.eq_list_lengthsAt t1.isList t2.isList (by rw [l1, l2]; simpa using hl) (by omega) ?_
      rw [tr_len hl] at q
      exact ⟨.bl false, H, I, rfl, q⟩
end
section
variable {X : Cx} {a b e o : Expr} {pos apos cpos : Pos} {f g : FE}
def kTr (neg : Bool) (n : Nat) : K2 := fun x y M => match tupOf x, tupOf y with
  | some xs, some ys => if xs.all (isTree n) && ys.all (isTree n) then some (.dat (.bl (nb neg (eqTr (n + 1) (.tup xs) (.tup ys)))), M) else none
  | _, _ => match lstOf M x, lstOf M y with
    | some xs, some ys => if xs.all (isTree n) && ys.all (isTree n) then some (.dat (.bl (nb neg (eqTr (n + 1) (.tup xs) (.tup ys)))), M) else none
    | _, _ => none
theorem ker_tr {K : PySem.W.Frag} {neg : Bool} {n : Nat} : Ker2 K (rTr neg K n) (kTr neg n) := by
  intro L M M' H H0 x y d v w Q c rx ry hk q
  unfold kTr at hk
  split at hk
  · rename_i xs ys e1 e2
    split at hk
    · rename_i hb
      cases hk
      rw [Bool.and_eq_true] at hb
      obtain ⟨p, vs, rfl, h1, r1⟩ := tup_rep rx e1
      obtain ⟨p', ws, rfl, h2, r2⟩ := tup_rep ry e2
      refine ⟨L, xs, ys, hb, .inl ⟨?_, ?_⟩, q L H _ (.refl L H) c (rep_bl (L := L) (H := H))⟩
      · unfold Rep; exact ⟨p, vs, rfl, h1, r1⟩
      · unfold Rep; exact ⟨p', ws, rfl, h2, r2⟩
    · cases hk
  · split at hk
    · rename_i xs ys e1 e2
      split at hk
      · rename_i hb
        cases hk
        rw [Bool.and_eq_true] at hb
        obtain ⟨p, vs, rfl, h1, r1⟩ := lst_rep c rx e1
        obtain ⟨p', ws, rfl, h2, r2⟩ := lst_rep c ry e2
        exact ⟨L, xs, ys, hb, .inr ⟨p, p', vs, ws, rfl, rfl, .inl h1, .inl h2, r1, r2⟩, q L H _ (.refl L H) c (rep_bl (L := L) (H := H))⟩
      · cases hk
    · cases hk
theorem q_trEq (n : Nat) (hu : X.A.units + 1 + n < cLine) (h1 : QE X a f) (h2 : QE X b g) : QE X (.Compare a [.Eq] [b] pos) (fOp (kTr false n) f g) := q_cmp ker_tr (op_trEq n hu) h1 h2 (nomark _)
theorem hu_tr {A : Around} {k : Nat} (n : Nat) (hn : n ≤ 8) (hr : Room k A) : A.units + 1 + n < cLine := by
  have := hr.units
  omega
def fIndex (f g : FE) : FE := fun σ M => match toD f σ M with
  | some (.tup ds, M1) => match intsOf ds with
    | some xs => match toD g σ M1 with
      | some (.int i, M2) => if i ∈ xs then some (.dat (.int (xs.idxOf i)), M2) else none
      | _ => none
    | none => none
  | _ => none
theorem q_index (h : QE X o f) (hg : QE X e g) (hbase : attributeBase o "index" X.env (eval o X.env) = eval o X.env := by rfl)
    (hfew : ((backTo cpos (starEach [e] X.env)).all (fun x => !x.1) && (backToKw cpos (keywordEach [] X.env)).all (fun x => x.1.isSome) && decide ([e].length + ([] : List Keyword).length + (if ([] : List Keyword).isEmpty then 0 else 1) < 30)) = true := by rfl)
    (hline : (apos.endLine == cpos.line) = true := by rfl) (hs : starEach [e] X.env = (false, eval e X.env) :: starEach [] X.env := by rfl) (hplain : (backTo cpos (starEach [] X.env)).any (·.1) = false := by rfl) :
    QE X (.Call (.Attribute o "index" apos) [e] [] cpos) (fIndex f g) :=
  .mk <| PE.imp (pe_bm PySem.F.plainAttrs_tuple PySem.F.slot_tuple_index PySem.F.type_tuple_index mt_index (q_toD h).un (qa_cons (q_toD hg) qa_nil hs).un hbase hfew hline hs hplain) fun τ H Q ⟨L, σ, M, d, M', c, rs, hf, q⟩ => by
    unfold fIndex at hf
    split at hf
    · rename_i ds M1 e1
      split at hf
      · rename_i xs e2
        split at hf
        · rename_i i Mq e3
          split at hf
          · rename_i hi
            cases hf
            refine ⟨L, σ, M, _, _, c, rs, e1, fun L1 H1 u s1 c1 r1 => ?_⟩
            unfold Rep at r1
            obtain ⟨p, vs, rfl, h1, r⟩ := r1
            have ev := intsOf_rep e2 r
            subst ev
            refine ⟨.inr (.inl ⟨rfl, .inr ⟨_, h1⟩⟩), L1, σ, M1, _, _, c1, rs.stp s1, (show aCons (toD g) aNil σ M1 = some ([D.int i], M') by unfold aCons aNil; rw [e3]), fun L2 H2 ws s2 c2 r2 => ?_⟩
            have ew := reps_int1 r2
            subst ew
            exact ⟨p, i, xs, rfl, rfl, .of (s2.tup p _ h1), hi, q L2 H2 _ (s1.trans s2) c2 (rep_int (L := L2) (H := H2))⟩
          · cases hf
        · cases hf
      · cases hf
    · cases hf
end
end L3

set_option Elab.async false
set_option linter.all false
set_option maxRecDepth 100000
namespace L3
open PySem PySem.Spec PyProof.Rows L2
open Builtin
theorem noFill_tup_mul : fillsNumberSlot (.type "tuple") "mul" = pure false :=
  PySem.fillsNumberSlot_seq (id := "tuple.__mul__") (r := some (.builtin "tuple.__rmul__")) F.slot_tuple_mul.lookup (by decide +kernel) F.slot_tuple_rmul.lookup (by decide +kernel)
theorem repeat_tup : seqRepeat? (.type "tuple") = pure (some (.builtin "tuple.__mul__")) := by
  unfold seqRepeat?
  rw [PySem.seqSlot_of (T := "tuple") (name := "__mul__") (id := "tuple.__mul__") F.slot_tuple_mul.lookup (by decide +kernel), PySem.seqSlot_of (T := "tuple") (name := "__rmul__") (id := "tuple.__rmul__") F.slot_tuple_rmul.lookup (by decide +kernel)]
  rfl
theorem rmul_tup (a : Int) (t : Tok) (l : Addr) (items : Array Value) (n : Nat) (dd : Option Addr) (sl : Array (Option Value)) :
    Meets (Builtin.«int.__rmul__» ⟨[.int a t, .ref l], []⟩) (fun _ R s => s.heap.get? l = some { cls := .type "tuple", dict := dd, data := .seq items n, slots := sl } ∧ R (.ok (.ret Value.notImplemented)) s) :=
  .of_wp fun prog w A R s h => by obtain ⟨hp, g, d, tk, os⟩ := s; obtain ⟨hl, h⟩ := h; wp_walk using wpAny_loadPart' hl; exact ⟨_, rfl, h⟩
theorem tuple_mulW1 (l : Addr) (items : Array Value) (n : Nat) (dd : Option Addr) (sl : Array (Option Value)) (u : Tok) :
    Meets (Builtin.«tuple.__mul__» ⟨[.ref l, .int 1 u], []⟩) (fun _ R s => s.heap.get? l = some { cls := .type "tuple", dict := dd, data := .seq items n, slots := sl } ∧ R (.ok (.ret (.ref l))) s) :=
  .of_wp fun prog w A R s h => by
    obtain ⟨hp, g, d, tk, os⟩ := s; obtain ⟨hl, h⟩ := h
    have f1 := AutoSeq1.idx_int
    wp_walk using wpAny_loadPart' hl
    exact ⟨_, rfl, h⟩
theorem tuple_mulW2 (l : Addr) (items : Array Value) (n : Nat) (dd : Option Addr) (sl : Array (Option Value)) (x : Int) (u : Tok) (h0 : ¬ (decide (x < -(2 ^ 63)) || decide (x ≥ 2 ^ 63)) = true) (h1 : ¬ (items.isEmpty || x == 1) = true) (h2 : ¬ (decide (x ≤ 0) || items.isEmpty) = true) (h3 : ¬ (items.size : Int) * x > (2 ^ 63 - 1) / 8) (h4 : ¬ Builtin.Tuple.tupleTooMany (items.size * x) = true)
    (hsz : (List.foldl (fun x1 x2 => x1 ++ x2) #[] (List.replicate x.toNat items)).size ≤ sizeLine) :
    Meets (Builtin.«tuple.__mul__» ⟨[.ref l, .int x u], []⟩) (fun _ R s => s.heap.get? l = some { cls := .type "tuple", dict := dd, data := .seq items n, slots := sl } ∧ R (.ok (.ret (Value.ref s.heap.objs.size))) { s with heap := s.heap.push { cls := Value.type "tuple", data := Data.seq (List.foldl (fun x1 x2 => x1 ++ x2) #[] (List.replicate x.toNat items)) }, toks := s.toks }) :=
  .of_wp fun prog w A R s h => by
    obtain ⟨hp, g, d, tk, os⟩ := s; obtain ⟨hl, h⟩ := h
    have f1 := AutoSeq1.idx_int
    wp_walk using wpAny_loadPart' hl
    rw [if_neg h0]
    wp_walk using wpAny_loadPart' hl
    rw [if_neg h3]
    wp_walk using wpAny_loadPart' hl
    all_goals first | exact ⟨_, rfl, h⟩ | skip
section
variable {X : Cx} {a b o e e2 : Expr} {pos p apos cpos : Pos} {f g : FE}
def rRepT (K : PySem.W.Frag) : R2 := fun x y H Q => ∃ a k xs, x = .ref a ∧ y = .int k ∧ SqT K H a xs ∧ xs ≠ [] ∧ 1 ≤ k ∧ xs.length * k.toNat ≤ sizeLine ∧
  (k = 1 → Q (.ref a) H) ∧ (k ≠ 1 → ∀ p, H p = none → Q (.ref p) (upd H p (.tup (List.replicate k.toNat xs).flatten)))
theorem op_repT : OpR X (binaryOp .Mult) (rRepT X.K) := by
  intro pins s σ H x y v u Q I rx ry h
  obtain ⟨a, k, xs, rfl, rfl, ha, hx, hk, hz, q1, q2⟩ := h
  cases rx
  obtain ⟨t, rfl⟩ := ry
  obtain ⟨its, r, p1, _⟩ := I.tuple ha
  obtain ⟨⟨cls, dd, data, sl⟩, ho, hc, n, hd⟩ := id p1
  simp only at hc hd
  subst hc hd
  have hl : its.toArray.size = xs.length := by rw [List.size_toArray]; exact r.length.symm
  have hx0 : 0 < xs.length := List.length_pos_iff.mpr hx
  have hkz : k.toNat ≤ sizeLine := Nat.le_trans (Nat.le_mul_of_pos_left _ hx0) hz
  have hk63 : k < 2 ^ 63 := by
    have : (sizeLine : Nat) < 2 ^ 62 := by decide
    omega
  refine wpAny_binaryOp_repeat_ref (T := "tuple") (U := "int") (by decide) ⟨_, ho, rfl⟩ (fun s' => typeIs_int s' k t) noFill_tup_mul F.fills_int_mul F.slot_int_rmul repeat_tup F.slot_int_index.lookup
    (call_meets F.slot_int_rmul (typeIs_int s k t) F.entry_int_rmul (F.args_int_rmul_2 _ _) (rmul_tup k t a its.toArray n dd sl)
      ⟨ho, rfl, ⟨_, ho, rfl⟩, ?_⟩)
  by_cases h1 : k = 1
  · subst h1
    exact call_meets F.slot_tuple_mul ⟨_, ho, rfl⟩ F.entry_tuple_mul (F.args_tuple_mul_2 _ _) (tuple_mulW1 a its.toArray n dd sl t) ⟨ho, ⟨.ref a, H, I, rfl, q1 rfl⟩⟩
  · have hnew : List.foldl (fun x1 x2 => x1 ++ x2) #[] (List.replicate k.toNat its.toArray) = (List.replicate k.toNat its).flatten.toArray := by
      have := foldl_rep its k.toNat []
      rw [List.nil_append] at this
      exact this
    have hlr : (List.replicate k.toNat its).flatten.length ≤ sizeLine := by
      rw [len_rep, ← r.length, Nat.mul_comm]; exact hz
    have hem : its.toArray.isEmpty = false := by
      rw [Array.isEmpty_eq_false_iff]; intro z; rw [z] at hl; simp at hl; omega
    have hprod : ((its.toArray.size : Int)) * k = ((xs.length * k.toNat : Nat) : Int) := by
      rw [hl]; rw [Int.natCast_mul, show ((k.toNat : Nat) : Int) = k by omega]
    refine call_meets F.slot_tuple_mul ⟨_, ho, rfl⟩ F.entry_tuple_mul (F.args_tuple_mul_2 _ _) (tuple_mulW2 a its.toArray n dd sl k t ?_ ?_ ?_ ?_ ?_ ?_) ⟨ho, ?_⟩
    · rw [decide_eq_false (by omega), decide_eq_false (by omega)]; decide
    · rw [hem, Bool.false_or]; intro z; exact h1 (eq_of_beq z)
    · rw [hem, Bool.or_false, decide_eq_false (by omega)]; decide
    · rw [hprod]
      have : (sizeLine : Nat) ≤ (2 ^ 63 - 1) / 8 := by decide
      omega
    · rw [hprod]
      unfold Builtin.Tuple.tupleTooMany
      rw [decide_eq_false (by omega)]; decide
    · rw [hnew, List.size_toArray]; exact hlr
    · rw [hnew]
      refine ⟨.ref s.heap.objs.size, _, I.laid (t' := s.toks) (o := .tup (List.replicate k.toNat xs).flatten) (fun b ob q => Heap.get?_push_of_some _ q) (Nat.le_refl _) ?_, rfl, q2 h1 _ (I.hok.fresh (Nat.le_refl _))⟩
      exact ⟨by rw [len_rep, Nat.mul_comm]; exact hz, _, r.rep k.toNat, IsTupN.new _ _⟩
theorem Reps.rep {L : List Addr} {H : Hp} {ds : List D} {vs : List V} (h : Reps L H ds vs) : ∀ k : Nat, Reps L H (List.replicate k ds).flatten (List.replicate k vs).flatten
  | 0 => .nil
  | k + 1 => by
    rw [List.replicate_succ, List.replicate_succ, List.flatten_cons, List.flatten_cons]
    exact Reps.app h (Reps.rep h k)
/-- a list or a tuple, so many times -/
def kRep : K2 := fun x y M => match y with
  | .dat (.int k) => match tupOf x with
    | some xs => if 0 < xs.length ∧ 1 ≤ k ∧ xs.length * k.toNat ≤ sizeLine then some (.dat (.tup (List.replicate k.toNat xs).flatten), M) else none
    | none => match mlOf M x with
      | some xs => if -(2 ^ 63) ≤ k ∧ k < 2 ^ 63 ∧ xs.length * k.toNat ≤ sizeLine then some (.fl (List.replicate k.toNat xs).flatten, M) else none
      | none => none
  | _ => none
theorem ker_rep {K : PySem.W.Frag} : Ker2 K (fun x y H Q => rRep x y H Q ∨ rRepT K x y H Q) kRep := by
  intro L M M' H H0 x y d v w Q c rx ry hk q
  unfold kRep at hk
  split at hk
  · rename_i k
    have hw : w = .int k := by unfold RepE Rep at ry; exact ry
    subst hw
    split at hk
    · rename_i xs e1
      split at hk
      · rename_i hz
        cases hk
        obtain ⟨p1, vs, rfl, h1, r1⟩ := tup_rep rx e1
        refine .inr ⟨p1, k, vs, rfl, rfl, .of h1, ?_, hz.2.1, by rw [r1.length]; exact hz.2.2, fun z => ?_, fun z pp hp => ?_⟩
        · intro z; have := r1.length; rw [z] at this; simp at this; omega
        · subst z
          refine q L H _ (.refl L H) c ?_
          have : (List.replicate (1 : Int).toNat xs).flatten = xs := by simp
          rw [this]
          unfold RepE Rep
          exact ⟨p1, vs, rfl, h1, r1⟩
        · exact q L _ _ (.upd hp) (c.upd hp) (Rep.newTup hp (r1.rep k.toNat))
      · cases hk
    · split at hk
      · rename_i xs e1
        split at hk
        · rename_i hz
          cases hk
          obtain ⟨l, vs, rfl, h1, r1⟩ := ml_rep c rx e1
          refine .inl ⟨l, k, vs, rfl, rfl, h1, hz.1, hz.2.1, by rw [r1.length]; exact hz.2.2, fun p hp => ?_⟩
          exact q L _ _ (.upd hp) (c.upd hp) (RepE.newLst (.refl L H) c c hp (r1.rep k.toNat))
        · cases hk
      · cases hk
  · cases hk
theorem q_rep (h1 : QE X a f) (h2 : QE X b g) : QE X (.BinOp a .Mult b pos) (fOp kRep f g) := q_op ker_rep (op_rep.or op_repT) h1 h2
def kMin2 : KB := fun xs M => match xs with
  | [.dat (.int i), .dat (.int j)] => some (.dat (.int (if j < i then j else i)), M)
  | _ => none
theorem repEs_ints2 {H0 H : Hp} {L : List Addr} {i j : Int} {vs : List V} (r : RepEs H0 L H [.dat (.int i), .dat (.int j)] vs) : vs = [.int i, .int j] := by
  unfold RepEs at r
  obtain ⟨v, r1, rfl, a1, a2⟩ := r
  unfold RepEs at a2
  obtain ⟨v2, r2, rfl, b1, b2⟩ := a2
  unfold RepEs at b2
  subst b2
  unfold RepE Rep at a1 b1
  subst a1 b1
  rfl
theorem ker_min2 {K : PySem.W.Frag} : KerB K (fun xs H Q => ∃ i j, xs = [.int i, .int j] ∧ Q (.int (if j < i then j else i)) H) kMin2 := by
  intro L M M' H H0 xs d vs Q c r hk q
  unfold kMin2 at hk
  split at hk
  · rename_i i j
    cases hk
    exact ⟨i, j, repEs_ints2 r, q L H _ (.refl L H) c (rep_int (L := L) (H := H))⟩
  · cases hk
theorem q_min2 {fa : FAE} (hcalm : X.calm = true) (hg : Gl X "min") (hm : X.mg "min" = none) (ha : QAE X [e, e2] fa) (he : starEach [e, e2] X.env = (false, eval e X.env) :: starEach [e2] X.env := by rfl) (hpl : (backTo pos (starEach [e2] X.env)).any (·.1) = false := by rfl) : QE X (.Call (.Name "min" p) [e, e2] [] pos) (fB kMin2 fa) :=
  q_callB ker_min2 (call_min2 hcalm) (by rfl) hg hm ha (by decide) (by decide) he hpl
def kExtend : KM := fun x ds M => match x, ds with
  | .dat (.ref n), [.ref m] => match M[n]?, M[m]? with
    | some (.lst xs), some (.lst ys) => if xs.length + ys.length ≤ sizeLine then some (.non, M.set n (.lst (xs ++ ys))) else none
    | _, _ => none
  | _, _ => none
theorem ker_extend {K : PySem.W.Frag} : KerM K rExtend kExtend := by
  intro L M M' H H0 x ds d v vs Q c rx rd hk q
  unfold kExtend at hk
  split at hk
  · rename_i n m
    split at hk
    · rename_i xs ys e1 e1'
      split at hk
      · rename_i hz
        cases hk
        unfold RepE Rep at rx
        obtain ⟨a, rfl, e2⟩ := rx
        obtain ⟨ws, e3, r3⟩ := c.obj n a _ e2 e1
        obtain ⟨w, rfl, r4⟩ := rd.one
        unfold Rep at r4
        obtain ⟨b, rfl, e4⟩ := r4
        obtain ⟨zs, e5, r5⟩ := c.obj m b _ e4 e1'
        obtain ⟨c5, s5⟩ := c.write e2 e1 (r3.app r5)
        exact ⟨a, b, ws, zs, rfl, rfl, e3, e5, by rw [r3.length, r5.length]; exact hz, q L _ _ s5 c5 (by unfold Rep; rfl)⟩
      · cases hk
    · cases hk
  · cases hk
theorem q_extend {fg : FA} (h : QE X a f) (hg : QA X [e] fg) (hbase : attributeBase a "extend" X.env (eval a X.env) = eval a X.env := by rfl)
    (hfew : ((backTo cpos (starEach [e] X.env)).all (fun x => !x.1) && (backToKw cpos (keywordEach [] X.env)).all (fun x => x.1.isSome) && decide ([e].length + ([] : List Keyword).length + (if ([] : List Keyword).isEmpty then 0 else 1) < 30)) = true := by rfl)
    (hline : (apos.endLine == cpos.line) = true := by rfl) (hs : starEach [e] X.env = (false, eval e X.env) :: starEach [] X.env := by rfl) (hplain : (backTo cpos (starEach [] X.env)).any (·.1) = false := by rfl) :
    QE X (.Call (.Attribute a "extend" apos) [e] [] cpos) (fM kExtend f fg) := 
  .mk <| PE.imp (pe_bm PySem.F.plainAttrs_list PySem.F.slot_list_extend PySem.F.type_list_extend mt_extend h.un hg.un hbase hfew hline hs hplain) fun _ _ _ z => m_read ker_extend z
end
end L3

set_option Elab.async false
set_option linter.all false
set_option maxRecDepth 100000
namespace HT
open PySem PySem.Spec PyProof.Rows
section
variable {prog : Program} {w : World} {A : Around} {E : Value → Shared → Prop} {s : Shared}
end
end HT
namespace L3
open PySem PySem.Spec PyProof.Rows L2
section
variable {X : Cx} {a b o e e2 st : Expr} {pos p p2 apos cpos : Pos} {f g : FE} {te : TE} {ts : TO}
theorem mt_indexL : MtM X "list.index" (fun x vs H Q => ∃ (l : Addr) (i : Int) (xs : List Int), x = .ref l ∧ vs = [.int i] ∧ H l = some (.lst (xs.map V.int)) ∧ xs.length ≤ 90000 ∧ i ∈ xs ∧ Q (.int (xs.idxOf i)) H) := by
  intro pins s σ H x xs v us Q I rx rv z
  obtain ⟨p, i, ns, rfl, rfl, hp, hz, hi, q⟩ := z
  cases rx
  obtain ⟨u, rfl, ru⟩ := rv.one
  obtain ⟨t, rfl⟩ := ru
  obtain ⟨z, its, n, r, hl, ee⟩ := I.lstM hp
  have hia := intsAre_of r
  have hlen := hia.length
  have hj : ns.idxOf i < ns.length := List.idxOf_lt_length_iff.mpr hi
  refine call_meets PySem.F.slot_list_index ⟨_, ee, rfl⟩ PySem.F.entry_list_index (PySem.F.args_list_index_2 _ _)
    (PySem.SeqAt.list_indexAt p its.toArray n none #[] (.int i t) (isInt i) (ns.idxOf i) (by simpa [hlen] using hj) (by omega) ?_ ?_) ⟨ee, fun y hy => (eq_isInt i t hia y (by simpa using hy)).at _ _, ⟨.int (ns.idxOf i), H, I.tok _, ⟨_, rfl⟩, q⟩⟩
  · show isInt i its[ns.idxOf i] = true
    rw [isInt_at i hia _ (by omega) hj]
    simpa using List.getElem_idxOf hj
  · intro j hjs hlt
    show isInt i its[j] = false
    rw [isInt_at i hia j (by simpa using hjs) (by omega)]
    exact ne_of_lt_idxOf hlt _
def kIndexL : KM := fun x ds M => match x, ds with
  | .dat (.ref n), [.int i] => match M[n]? with
    | some (.lst ds) => match intsOf ds with
      | some xs => if i ∈ xs ∧ xs.length ≤ 90000 then some (.int (xs.idxOf i), M) else none
      | none => none
    | _ => none
  | _, _ => none
theorem ker_indexL {K : PySem.W.Frag} : KerM K (fun x vs H Q => ∃ (l : Addr) (i : Int) (xs : List Int), x = .ref l ∧ vs = [.int i] ∧ H l = some (.lst (xs.map V.int)) ∧ xs.length ≤ 90000 ∧ i ∈ xs ∧ Q (.int (xs.idxOf i)) H) kIndexL := by
  intro L M M' H H0 x ds d v vs Q c rx rd hk q
  unfold kIndexL at hk
  split at hk
  · rename_i n i
    split at hk
    · rename_i ds e1
      split at hk
      · rename_i xs e2
        split at hk
        · rename_i hi
          cases hk
          unfold RepE Rep at rx
          obtain ⟨a, rfl, e4⟩ := rx
          obtain ⟨ws, e5, r5⟩ := c.obj n a _ e4 e1
          have ev := intsOf_rep e2 r5
          subst ev
          exact ⟨a, i, xs, rfl, reps_int1 rd, e5, hi.2, hi.1, q L H _ (.refl L H) c (by unfold Rep; rfl)⟩
        · cases hk
      · cases hk
    · cases hk
  · cases hk
theorem q_indexL {fg : FA} (h : QE X a f) (hg : QA X [e] fg) (hbase : attributeBase a "index" X.env (eval a X.env) = eval a X.env := by rfl)
    (hfew : ((backTo cpos (starEach [e] X.env)).all (fun x => !x.1) && (backToKw cpos (keywordEach [] X.env)).all (fun x => x.1.isSome) && decide ([e].length + ([] : List Keyword).length + (if ([] : List Keyword).isEmpty then 0 else 1) < 30)) = true := by rfl)
    (hline : (apos.endLine == cpos.line) = true := by rfl) (hs : starEach [e] X.env = (false, eval e X.env) :: starEach [] X.env := by rfl) (hplain : (backTo cpos (starEach [] X.env)).any (·.1) = false := by rfl) :
    QE X (.Call (.Attribute a "index" apos) [e] [] cpos) (fM kIndexL f fg) := 
  .mk <| PE.imp (pe_bm PySem.F.plainAttrs_list PySem.F.slot_list_index PySem.F.type_list_index mt_indexL h.un hg.un hbase hfew hline hs hplain) fun _ _ _ z => m_read ker_indexL z
end
end L3

set_option Elab.async false
set_option linter.all false
set_option maxRecDepth 100000
namespace L3
open PySem PySem.Spec PyProof.Rows L2
section
variable {X : Cx} {a b a2 b2 o e e2 : Expr} {pos p apos cpos : Pos}
/-- {k: v, k2: v2}, the keys two texts -/
def fDict2 (k1 : Str) (fv : FE) (k2 : Str) (fw : FE) : FE := fun σ M => match toD fv σ (M ++ [.dict []]) with
  | some (v, M1) => match toD fw σ M1 with
    | some (w, M2) => match M2[M.length]? with
      | some (.dict []) => if k1 = k2 then none else some (.dat (.ref M.length), M2.set M.length (.dict [(.str k1, v), (.str k2, w)]))
      | _ => none
    | none => none
  | none => none
theorem q_dict2 {fv fw : FE} {k1 k2 : Str} (h1 : QE X a (fC (.str k1))) (h2 : QE X b fv) (h3 : QE X a2 (fC (.str k2))) (h4 : QE X b2 fw) : QE X (.Dict [some a, some a2] [b, b2] pos) (fDict2 k1 fv k2 fw) := .mk <| PE.imp (pe_disp (pps_cons (q_toD h1).un (q_toD h2).un (pps_cons (q_toD h3).un (q_toD h4).un pps_nil)) rfl rfl (by simp) (by simp)) fun τ H Q ⟨L, σ, M, d, M', c, rs, hf, q⟩ p hp => by
  unfold fDict2 at hf
  split at hf
  · rename_i v M1 e2
    split at hf
    · rename_i w M2 e4
      split at hf
      · rename_i e5
        split at hf
        · cases hf
        · rename_i hne
          cases hf
          obtain ⟨c0, s0⟩ := c.pushO (m := .dict []) (o := .dK []) hp ⟨[], upd_same, rfl⟩
          refine ⟨L ++ [p], σ, _, _, _, c0, rs.stp s0, (rfl : toD (fC (.str k1)) σ (M ++ [.dict []]) = some (.str k1, _)), fun L1 H1 x st1 c1 r1 => ⟨L1, σ, _, _, _, c1, (rs.stp s0).stp st1, e2, fun L2 H2 y st2 c2 r2 => ?_⟩⟩
          refine ⟨L2, σ, _, _, _, c2, ((rs.stp s0).stp st1).stp st2, (rfl : toD (fC (.str k2)) σ M1 = some (.str k2, _)), fun L3 H3 x' st3 c3 r3 => ⟨L3, σ, _, _, _, c3, (((rs.stp s0).stp st1).stp st2).stp st3, e4, fun L4 H4 y' st4 c4 r4 => ?_⟩⟩
          have st := (((s0.trans st1).trans st2).trans st3).trans st4
          have hx : x = .str k1 := by unfold Rep at r1; exact r1
          have hx' : x' = .str k2 := by unfold Rep at r3; exact r3
          have lp : L4[M.length]? = some p := by
            obtain ⟨N, hN⟩ := ((st1.trans st2).trans st3).trans st4 |>.pre
            rw [hN, ← c.len]; simp
          obtain ⟨vs, ev, dv⟩ := c4.obj _ p _ lp e5
          unfold DRep at dv
          subst dv
          have hm : mergeK [] [((Sum.inr k1 : Key), y), (Sum.inr k2, y')] = [((Sum.inr k1 : Key), y), (Sum.inr k2, y')] := by
            unfold mergeK putK
            have h12 : ¬ ((Sum.inr k1 : Key) = Sum.inr k2) := fun z => hne (Sum.inr.inj z)
            simp [h12]
          refine ⟨ev, [(Sum.inr k1, y), (Sum.inr k2, y')], by rw [hx, hx']; rfl, by simp, ?_⟩
          rw [hm]
          obtain ⟨c5, s5⟩ := c4.put (m := .dict [(.str k1, v), (.str k2, w)]) (o' := .dK [(Sum.inr k1, y), (Sum.inr k2, y')]) lp ev (fun _ z => by cases z) (fun _ _ z => by cases z) fun s5 => ⟨_, upd_same, _, y, [(Sum.inr k2, y')], rfl, rfl, (r2.stp (st3.trans st4)).stp s5, _, y', [], rfl, rfl, r4.stp s5, rfl⟩
          refine q _ _ _ (st.trans s5) c5 ?_
          unfold RepE Rep
          exact ⟨p, rfl, lp⟩
      · cases hf
    · cases hf
  · cases hf
end
end L3

set_option Elab.async false
set_option linter.all false
set_option maxRecDepth 100000
namespace L3
open PySem PySem.Spec PyProof.Rows L2
section
variable {X : Cx} {e tg : Expr} {pos : Pos}
/-- target = value, any target -/
def sAsg (fg : FG) (f : FE) : FS := fun σ M => match toD f σ M with
  | some (d, M1) => match fg d σ with
    | some σ1 => some (.nx, σ1, M1)
    | none => none
  | none => none
theorem q_asg {g : TG} {fg : FG} {f : FE} (hk : GOk g fg) (h : QE X e f) (hg : PG X tg g) (hs : swapsWithSole [tg] e pos.line X.env = pure false := by rfl) (hw : swappedStores [tg] e X.env = pure none := by rfl)
    (h1 : (assignEach [tg] X.env).map (·.2) = [assign tg X.env] := by rfl) : QS X (.Assign [tg] e pos) (sAsg fg f) :=
  .mk <| PS.imp (ps_asg h.un hg hs hw h1) fun E τ H ⟨L, σ, M, o, σ', M', c, rs, hf, q⟩ => by
    unfold sAsg at hf
    split at hf
    · rename_i d M1 e1
      split at hf
      · rename_i σ1 e2
        cases hf
        refine toD_read ⟨L, σ, M, _, _, c, rs, e1, fun L1 H1 v s1 c1 r1 => ?_⟩
        exact hk (rs.stp s1) r1 e2 fun τ' rs' => q L1 H1 s1 c1 τ' rs'
      · cases hf
    · cases hf
variable {σ : Sd} {M : Mem} {P : Out → Sd → Mem → Prop} {fg : FG} {f : FE}
theorem oks_asg : OkS (sAsg fg f σ M) P ↔ Ok (f σ M) (toDp fun d M1 => ∃ σ1, fg d σ = some σ1 ∧ P .nx σ1 M1) := by
  rw [← ok_toD]
  unfold sAsg
  constructor
  · rintro ⟨o, σ', M', e, p⟩
    split at e
    · rename_i d M1 e1
      split at e
      · rename_i σ1 e2
        cases e
        exact ⟨d, _, e1, _, e2, p⟩
      · cases e
    · cases e
  · rintro ⟨d, M1, e1, σ1, e2, p⟩
    refine ⟨.nx, σ1, M1, ?_, p⟩
    rw [e1]; dsimp only; rw [e2]
end
end L3

set_option Elab.async false
set_option linter.all false
set_option maxRecDepth 100000
namespace L3
open PySem PySem.Spec PyProof.Rows L2
/-- an iterator of a tuple, or of a list -/
def SI (b : Bool) (h : Heap) (it t : Addr) (k : Nat) : Prop := if b then h.IsTupleIter it t k else h.IsListIter it t k
def SO (b : Bool) (h : Heap) (t : Addr) (xs : Array Value) : Prop := if b then h.IsTuple t xs else h.IsList t xs
abbrev itO (b : Bool) (t : Addr) : Obj := { cls := .type (if b then "tuple_iterator" else "list_iterator"), data := .fields #[.ref t, .int 0 0] }
theorem SI.keep {b : Bool} {h h' : Heap} {it t : Addr} {k : Nat} (x : SI b h it t k) (e : ∀ o, h.get? it = some o → h'.get? it = some o) : SI b h' it t k := by
  cases b with
  | true => obtain ⟨o, q, r⟩ := (show h.IsTupleIter it t k from x); exact (show h'.IsTupleIter it t k from ⟨o, e o q, r⟩)
  | false => obtain ⟨o, q, r⟩ := (show h.IsListIter it t k from x); exact (show h'.IsListIter it t k from ⟨o, e o q, r⟩)
theorem SO.keep {b : Bool} {h h' : Heap} {t : Addr} {xs : Array Value} (x : SO b h t xs) (e : ∀ o, h.get? t = some o → h'.get? t = some o) : SO b h' t xs := by
  cases b with
  | true => obtain ⟨o, q, r⟩ := (show h.IsTuple t xs from x); exact (show h'.IsTuple t xs from ⟨o, e o q, r⟩)
  | false => obtain ⟨o, q, r⟩ := (show h.IsList t xs from x); exact (show h'.IsList t xs from ⟨o, e o q, r⟩)
theorem SI.but {b : Bool} {h h' : Heap} {a c t : Addr} {i : Nat} (x : SI b h a t i) (hs : Heap.ExtBut c h h') (n : a ≠ c) : SI b h' a t i := x.keep fun o e => hs a o n e
theorem SO.but {b : Bool} {h h' : Heap} {a c : Addr} {its : Array Value} (x : SO b h a its) (hs : Heap.ExtBut c h h') (n : a ≠ c) : SO b h' a its := x.keep fun o e => hs a o n e
theorem SI.obj {b : Bool} {h : Heap} {it t : Addr} {k : Nat} (x : SI b h it t k) : ∃ o, h.get? it = some o ∧ ∀ v, o.data ≠ .cell v := by
  cases b with
  | true => obtain ⟨o, q, _, r⟩ := (show h.IsTupleIter it t k from x); exact ⟨o, q, fun v m => by rw [r] at m; cases m⟩
  | false => obtain ⟨o, q, _, r⟩ := (show h.IsListIter it t k from x); exact ⟨o, q, fun v m => by rw [r] at m; cases m⟩
section
variable {prog : Program} {w : World} {A : Around} {E : Value → Shared → Prop} {s : Shared}
theorem nextG_item {b : Bool} {it t : Addr} {i : Nat} {its : Array Value} {x : Value} {Q : Value → Shared → Prop} (I : SI b s.heap it t i) (T : SO b s.heap t its) (hx : its[i]? = some x)
    (q : ∀ h', SI b h' it t (i + 1) → Heap.SameBut it s.heap h' → Q x { s with heap := h' }) : wpAny (model prog w) A (Builtin.SmallTypes.nextOf (.ref it)) Q E s := by
  cases b with
  | true => exact nextT_item (show s.heap.IsTupleIter it t i from I) (show s.heap.IsTuple t its from T) hx q
  | false => exact wpAny_nextOf_list_item (show s.heap.IsListIter it t i from I) (show s.heap.IsList t its from T) hx q
theorem nextG_end {b : Bool} {it t : Addr} {i : Nat} {its : Array Value} {Q : Value → Shared → Prop} (hh : A.handled = none) (I : SI b s.heap it t i) (T : SO b s.heap t its) (hx : its[i]? = none)
    (q : ∀ h' e, Heap.ExtBut it s.heap h' → (∃ o, h'.get? e = some o ∧ o.cls = .type "StopIteration") → E (.ref e) { s with heap := h' }) : wpAny (model prog w) A (Builtin.SmallTypes.nextOf (.ref it)) Q E s := by
  cases b with
  | true => exact nextT_end hh (show s.heap.IsTupleIter it t i from I) (show s.heap.IsTuple t its from T) hx q
  | false => exact wpAny_nextOf_list_end hh (show s.heap.IsListIter it t i from I) (show s.heap.IsList t its from T) hx q
theorem iterG {b : Bool} {l : Addr} {items : Array Value} {Q : Value → Shared → Prop} (hl : SO b s.heap l items) (hQ : Q (.ref s.heap.objs.size) { s with heap := s.heap.push (itO b l) }) : wpAny (model prog w) A (pyIter (.ref l)) Q E s := by
  cases b with
  | true => exact wpAny_pyIter_tuple (show s.heap.IsTuple l items from hl) hQ
  | false => exact wpAny_pyIter_list (show s.heap.IsList l items from hl) hQ
/-- how a zip over two tuples stands -/
structure ZipG (b1 b2 : Bool) (h : Heap) (z TI TO i1 i2 t1 t2 : Addr) (f : Value) (k1 k2 : Nat) : Prop where
  z : IsZip h z TI TO f
  ti : IsPair h TI (.ref i1) (.ref i2)
  to : ∃ a b, IsPair h TO a b
  a : SI b1 h i1 t1 k1
  b : SI b2 h i2 t2 k2
theorem zipG_item {b1 b2 : Bool} {z TI TO i1 i2 t1 t2 : Addr} {k : Nat} {xs ys : Array Value} {x y : Value} {Q : Option Value → Shared → Prop} (D : ZipApart z TI TO i1 i2 t1 t2) (Z : ZipG b1 b2 s.heap z TI TO i1 i2 t1 t2 .none k k)
    (T1 : SO b1 s.heap t1 xs) (T2 : SO b2 s.heap t2 ys) (hx : xs[k]? = some x) (hy : ys[k]? = some y)
    (q : ∀ h', ZipG b1 b2 h' z TI TO i1 i2 t1 t2 (rawInt s.heap.objs.size) (k + 1) (k + 1) → IsPair h' s.heap.objs.size x y →
      (∀ c o, c ∉ [z, TO, i1, i2] → s.heap.get? c = some o → h'.get? c = some o) → Q (some (.ref s.heap.objs.size)) { s with heap := h' }) : wpAny (model prog w) A (pyNext (.ref z)) Q E s := by
  obtain ⟨Z0, P0, ⟨a, b, O0⟩, I1, I2⟩ := Z
  have ty : s.TypeIs (.ref z) "zip" := ⟨_, Z0, rfl⟩
  unfold pyNext
  refine wpAny_bind (wpAny_attempt (wpAny_callSpecial?_slot (name := Str.ofString "__next__") ty PySem.F.slot_zip_next (wpAny_call_entry PySem.F.slot_zip_next ty PySem.F.entry_zip_next ?_ (PySem.F.args_zip_next_1 _))))
  refine wpAny_bind (m := field (.ref z) 2) (wpAny_field Z0 rfl (x := .bool false) rfl ?_)
  refine wpAny_bind (m := field (.ref z) 3) (wpAny_field Z0 rfl (x := .ref TI) rfl ?_)
  refine wpAny_bind (wpAny_seqItems P0 rfl ?_)
  refine wpAny_bind (m := Builtin.SmallTypes.ownedTupleIsFree (.ref z)) ?_
  unfold Builtin.SmallTypes.ownedTupleIsFree
  refine wpAny_bind (wpAny_field Z0 rfl (x := .none) rfl (wpAny_pure ?_))
  simp only [if_true]
  refine wpAny_bind (wpAny_rule (wpAny_bind (wpAny_field Z0 rfl (x := .ref TO) rfl (wpAny_bind (wpAny_setField_rec Z0 (by simp) fun h1 Z1 e1 => ?_)))))
  replace Z1 : IsZip h1 z TI TO .ellipsis := Z1
  refine wpAny_bind ?_
  simp only [List.forIn_cons, List.forIn_nil, List.zipIdx_cons, List.zipIdx_nil]
  -- the first one's item is laid into the pair that is kept
  refine wpAny_bind (wpAny_bind (wpAny_onRaise (wpAny_bind (m := Builtin.SmallTypes.nextOf (.ref i1)) (nextG_item (SI.but I1 e1.extBut D.i1z) (SO.but T1 e1.extBut D.l1z) hx fun h2 J1 e2 => wpAny_pure ?_))))
  have O2 : IsPair h2 TO a b := e2.extBut _ _ D.TOi1 (e1.extBut _ _ D.TOz O0)
  refine wpAny_bind (wpAny_seqItems O2 rfl (wpAny_bind (wpAny_updateSeq_pair O2 fun h3 O3 e3 => wpAny_bind (wpAny_letGo (wpAny_pure ?_)))))
  replace O3 : IsPair h3 TO x b := O3
  -- then the other one's
  refine wpAny_bind (wpAny_bind (wpAny_onRaise (wpAny_bind (m := Builtin.SmallTypes.nextOf (.ref i2)) (nextG_item (SI.but (SI.but (SI.but I2 e1.extBut D.i2z) e2.extBut D.i12.symm) e3.extBut D.TOi2.symm)
    (SO.but (SO.but (SO.but T2 e1.extBut D.l2z) e2.extBut D.l2i1) e3.extBut D.l2TO) hy fun h4 J2 e4 => wpAny_pure ?_))))
  have O4 : IsPair h4 TO x b := e4.extBut _ _ D.TOi2 O3
  refine wpAny_bind (wpAny_seqItems O4 rfl (wpAny_bind (wpAny_updateSeq_pair O4 fun h5 O5 e5 => wpAny_bind (wpAny_letGo (wpAny_pure (wpAny_pure ?_))))))
  replace O5 : IsPair h5 TO x y := O5
  refine wpAny_bind (wpAny_seqItems O5 rfl (wpAny_bind (wpAny_newTuple ?_)))
  have sz : h5.objs.size = s.heap.objs.size := by rw [e5.1, e4.1, e3.1, e2.1, e1.1]
  have Z5 : IsZip h5 z TI TO .ellipsis := e5.extBut _ _ D.TOz.symm (e4.extBut _ _ D.i2z.symm (e3.extBut _ _ D.TOz.symm (e2.extBut _ _ D.i1z.symm Z1)))
  have kp : ∀ c o, c ∉ [z, TO, i1, i2] → s.heap.get? c = some o → h5.get? c = some o := fun c o n e => by
    simp only [List.mem_cons, List.not_mem_nil, or_false, not_or] at n
    obtain ⟨n1, n2, n3, n4⟩ := n
    exact e5.extBut _ _ n2 (e4.extBut _ _ n4 (e3.extBut _ _ n2 (e2.extBut _ _ n3 (e1.extBut _ _ n1 e))))
  have A5 : SI b1 h5 i1 t1 (k + 1) := SI.but (SI.but (SI.but J1 e3.extBut D.TOi1.symm) e4.extBut D.i12) e5.extBut D.TOi1.symm
  have B5 : SI b2 h5 i2 t2 (k + 1) := SI.but J2 e5.extBut D.TOi2.symm
  have zl : z < h5.objs.size := Heap.lt_size Z5
  refine wpAny_bind (m := Builtin.SmallTypes.ownedTupleHandOut (.ref z) (.ref h5.objs.size)) ?_
  unfold Builtin.SmallTypes.ownedTupleHandOut
  have Z6 : IsZip (h5.push { cls := .type "tuple", data := .seq #[x, y] }) z TI TO .ellipsis := Heap.get?_push_of_some _ Z5
  refine wpAny_bind (wpAny_setField_rec Z6 (by simp) fun h7 Z7 e7 => ?_)
  replace Z7 : IsZip h7 z TI TO (rawInt h5.objs.size) := Z7
  refine wpAny_setField_rec Z7 (by simp) fun h8 Z8 e8 => ?_
  replace Z8 : IsZip h8 z TI TO (rawInt h5.objs.size) := Z8
  have up : ∀ c o, c ≠ z → h5.get? c = some o → h8.get? c = some o := fun c o n e => e8.extBut _ _ n (e7.extBut _ _ n (Heap.get?_push_of_some _ e))
  have N8 : IsPair h8 h5.objs.size x y := e8.extBut _ _ (Nat.ne_of_gt zl) (e7.extBut _ _ (Nat.ne_of_gt zl) (Heap.get?_push_size _ rfl))
  rw [sz] at Z8 N8
  refine wpAny_pure ⟨_, rfl, ?_⟩
  rw [sz]
  refine wpAny_pure (q h8 ⟨Z8, up _ _ D.TIz (kp _ _ (by simp [D.TIz, D.TITO, D.TIi1, D.TIi2]) P0), ⟨_, _, up _ _ D.TOz O5⟩, ?_, ?_⟩ N8 fun c o n e => up c o (fun m => n (by simp [m])) (kp c o n e))
  · exact A5.keep fun o e => up _ o D.i1z e
  · exact B5.keep fun o e => up _ o D.i2z e
theorem zipG_end {b1 b2 : Bool} {z TI TO i1 i2 t1 t2 : Addr} {k : Nat} {xs ys : Array Value} {Q : Option Value → Shared → Prop} (hh : A.handled = none) (D : ZipApart z TI TO i1 i2 t1 t2) (Z : ZipG b1 b2 s.heap z TI TO i1 i2 t1 t2 .none k k)
    (T1 : SO b1 s.heap t1 xs) (T2 : SO b2 s.heap t2 ys) (he : xs[k]? = none ∨ ys[k]? = none)
    (q : ∀ h', (∀ c o, c ∉ [z, TO, i1, i2] → s.heap.get? c = some o → h'.get? c = some o) → Q none { s with heap := h' }) : wpAny (model prog w) A (pyNext (.ref z)) Q E s := by
  obtain ⟨Z0, P0, ⟨a, b, O0⟩, I1, I2⟩ := Z
  have ty : s.TypeIs (.ref z) "zip" := ⟨_, Z0, rfl⟩
  have stop : ∀ (e : Addr) (h' : Heap), (∀ c o, c ∉ [z, TO, i1, i2] → s.heap.get? c = some o → h'.get? c = some o) → (∃ o, h'.get? e = some o ∧ o.cls = .type "StopIteration") →
      wpAny (model prog w) A (do if (← isInstance (.ref e) (.type "StopIteration")) then pure none else throw (.ref e) : Sem (Option Value)) Q E { s with heap := h' } := fun e h' k1 ⟨o, e1, e2⟩ =>
    wpAny_bind (wpAny_isInstance (T := "StopIteration") (b := true) ⟨o, e1, e2⟩ isSubtype_stop (wpAny_pure (q h' k1)))
  unfold pyNext
  refine wpAny_bind (wpAny_attempt (wpAny_callSpecial?_slot (name := Str.ofString "__next__") ty PySem.F.slot_zip_next (wpAny_call_entry PySem.F.slot_zip_next ty PySem.F.entry_zip_next ?_ (PySem.F.args_zip_next_1 _))))
  refine wpAny_bind (m := field (.ref z) 2) (wpAny_field Z0 rfl (x := .bool false) rfl ?_)
  refine wpAny_bind (m := field (.ref z) 3) (wpAny_field Z0 rfl (x := .ref TI) rfl ?_)
  refine wpAny_bind (wpAny_seqItems P0 rfl ?_)
  refine wpAny_bind (m := Builtin.SmallTypes.ownedTupleIsFree (.ref z)) ?_
  unfold Builtin.SmallTypes.ownedTupleIsFree
  refine wpAny_bind (wpAny_field Z0 rfl (x := .none) rfl (wpAny_pure ?_))
  simp only [if_true]
  refine wpAny_bind (wpAny_rule (wpAny_bind (wpAny_field Z0 rfl (x := .ref TO) rfl (wpAny_bind (wpAny_setField_rec Z0 (by simp) fun h1 Z1 e1 => ?_)))))
  replace Z1 : IsZip h1 z TI TO .ellipsis := Z1
  refine wpAny_bind ?_
  simp only [List.forIn_cons, List.forIn_nil, List.zipIdx_cons, List.zipIdx_nil]
  cases hx : xs[k]? with
  | none =>
    refine wpAny_bind (wpAny_bind (wpAny_onRaise (wpAny_bind (m := Builtin.SmallTypes.nextOf (.ref i1)) (nextG_end hh (SI.but I1 e1.extBut D.i1z) (SO.but T1 e1.extBut D.l1z) hx fun h2 e e2 he => ?_))))
    obtain ⟨oe, o1, o2⟩ := he
    have Z2 : IsZip h2 z TI TO .ellipsis := e2 _ _ D.i1z.symm Z1
    have ne : e ≠ z := fun m => by subst m; rw [Z2] at o1; cases o1; simp at o2
    refine wpAny_setField_rec Z2 (by simp) fun h3 _ e3 => stop e h3 (fun c o n x => ?_) ⟨oe, e3.extBut _ _ ne o1, o2⟩
    simp only [List.mem_cons, List.not_mem_nil, or_false, not_or] at n
    exact e3.extBut _ _ n.1 (e2 _ _ n.2.2.1 (e1.extBut _ _ n.1 x))
  | some x =>
    have hy : ys[k]? = none := by
      rcases he with m | m
      · rw [hx] at m; cases m
      · exact m
    refine wpAny_bind (wpAny_bind (wpAny_onRaise (wpAny_bind (m := Builtin.SmallTypes.nextOf (.ref i1)) (nextG_item (SI.but I1 e1.extBut D.i1z) (SO.but T1 e1.extBut D.l1z) hx fun h2 J1 e2 => wpAny_pure ?_))))
    have O2 : IsPair h2 TO a b := e2.extBut _ _ D.TOi1 (e1.extBut _ _ D.TOz O0)
    refine wpAny_bind (wpAny_seqItems O2 rfl (wpAny_bind (wpAny_updateSeq_pair O2 fun h3 O3 e3 => wpAny_bind (wpAny_letGo (wpAny_pure ?_)))))
    refine wpAny_bind (wpAny_bind (wpAny_onRaise (wpAny_bind (m := Builtin.SmallTypes.nextOf (.ref i2)) (nextG_end hh (SI.but (SI.but (SI.but I2 e1.extBut D.i2z) e2.extBut D.i12.symm) e3.extBut D.TOi2.symm)
      (SO.but (SO.but (SO.but T2 e1.extBut D.l2z) e2.extBut D.l2i1) e3.extBut D.l2TO) hy fun h4 e e4 he => ?_))))
    obtain ⟨oe, o1, o2⟩ := he
    have Z4 : IsZip h4 z TI TO .ellipsis := e4 _ _ D.i2z.symm (e3.extBut _ _ D.TOz.symm (e2.extBut _ _ D.i1z.symm Z1))
    have ne : e ≠ z := fun m => by subst m; rw [Z4] at o1; cases o1; simp at o2
    refine wpAny_setField_rec Z4 (by simp) fun h5 _ e5 => stop e h5 (fun c o n x => ?_) ⟨oe, e5.extBut _ _ ne o1, o2⟩
    simp only [List.mem_cons, List.not_mem_nil, or_false, not_or] at n
    exact e5.extBut _ _ n.1 (e4 _ _ n.2.2.2 (e3.extBut _ _ n.2.1 (e2.extBut _ _ n.2.2.1 (e1.extBut _ _ n.1 x))))
theorem siNew {b : Bool} {h : Heap} {it t : Addr} (e : h.get? it = some (itO b t)) : SI b h it t 0 := by
  cases b with
  | true => exact (show h.IsTupleIter it t 0 from ⟨_, e, rfl, rfl⟩)
  | false => exact (show h.IsListIter it t 0 from ⟨_, e, rfl, rfl⟩)
abbrev zG1 (b1 : Bool) (h : Heap) (a : Addr) : Heap := h.push (itO b1 a)
abbrev zG2 (b1 b2 : Bool) (h : Heap) (a b : Addr) : Heap := zG1 b2 (zG1 b1 h a) b
abbrev zG3 (b1 b2 : Bool) (h : Heap) (a b : Addr) : Heap := (zG2 b1 b2 h a b).push { cls := .type "tuple", data := .seq #[.ref h.objs.size, .ref (zG1 b1 h a).objs.size] }
abbrev zG4 (b1 b2 : Bool) (h : Heap) (a b : Addr) : Heap := (zG3 b1 b2 h a b).push { cls := .type "tuple", data := .seq #[.none, .none] }
abbrev zG5 (b1 b2 : Bool) (h : Heap) (a b : Addr) : Heap := (zG4 b1 b2 h a b).push { cls := .type "zip", data := .fields #[.none, .bool false, .bool false, .ref (zG2 b1 b2 h a b).objs.size, .ref (zG3 b1 b2 h a b).objs.size] }
theorem zipG_meets (b1 b2 : Bool) (a b : Addr) (xs ys : Array Value) : Meets (Builtin.«zip.__new__» ⟨[.type "zip", .ref a, .ref b], []⟩) (fun _ R s => SO b1 s.heap a xs ∧ SO b2 s.heap b ys ∧ R (.ok (.ret (.ref (zG4 b1 b2 s.heap a b).objs.size))) { s with heap := zG5 b1 b2 s.heap a b }) :=
  .of_wp fun prog w A R s h => by
    obtain ⟨hp, g, d, tk, os⟩ := s
    obtain ⟨Ta, Tb, h⟩ := h
    have sz := sub_zip
    have U1 : SO b1 (Shared.heap ⟨hp, g, d, tk, os⟩) a xs := Ta
    have U2 : SO b2 (Shared.heap ⟨hp.push (itO b1 a), g, d, tk, os⟩) b ys := Tb.keep fun o e => Heap.get?_push_of_some _ e
    wp_walk using iterG U1, iterG U2
    exact ⟨_, rfl, h⟩
theorem zipG_new {b1 b2 : Bool} {a b : Addr} {xs ys : Array Value} {Q : Value → Shared → Prop} (Ta : SO b1 s.heap a xs) (Tb : SO b2 s.heap b ys)
    (h : ∀ h', ZipG b1 b2 h' (s.heap.objs.size + 4) (s.heap.objs.size + 2) (s.heap.objs.size + 3) s.heap.objs.size (s.heap.objs.size + 1) a b .none 0 0 → (∀ c o, s.heap.get? c = some o → h'.get? c = some o) → Q (.ref (s.heap.objs.size + 4)) { s with heap := h' }) :
    wpAny (model prog w) A (call (.type "zip") [.ref a, .ref b]) Q E s := by
  refine callType_new PySem.F.called_zip (by decide) (PySem.F.typeCall_zip_2 _ _) (PySem.F.newCall_zip_2 _ _) (fun obj => PySem.F.args_object_init_3 obj _ _) PySem.F.entry_zip_new (zipG_meets b1 b2 a b xs ys) ⟨Ta, Tb, ?_⟩
  have q1 : (zG1 b1 s.heap a).objs.size = s.heap.objs.size + 1 := Heap.size_push ..
  have q2 : (zG2 b1 b2 s.heap a b).objs.size = s.heap.objs.size + 2 := by rw [Heap.size_push, q1]
  have q3 : (zG3 b1 b2 s.heap a b).objs.size = s.heap.objs.size + 3 := by rw [Heap.size_push, q2]
  have q4 : (zG4 b1 b2 s.heap a b).objs.size = s.heap.objs.size + 4 := by rw [Heap.size_push, q3]
  have u : ∀ {h : Heap} {c : Addr} {o p : Obj}, h.get? c = some o → (h.push p).get? c = some o := fun e => Heap.get?_push_of_some _ e
  have p5 : (zG5 b1 b2 s.heap a b).get? (zG4 b1 b2 s.heap a b).objs.size = some _ := Heap.get?_push_size _ rfl
  have p4 : (zG5 b1 b2 s.heap a b).get? (zG3 b1 b2 s.heap a b).objs.size = some _ := u (Heap.get?_push_size _ rfl)
  have p3 : (zG5 b1 b2 s.heap a b).get? (zG2 b1 b2 s.heap a b).objs.size = some _ := u (u (Heap.get?_push_size _ rfl))
  have p2 : (zG5 b1 b2 s.heap a b).get? (zG1 b1 s.heap a).objs.size = some _ := u (u (u (Heap.get?_push_size _ rfl)))
  have p1 : (zG5 b1 b2 s.heap a b).get? s.heap.objs.size = some _ := u (u (u (u (Heap.get?_push_size _ rfl))))
  show _ ∧ _
  rw [q2, q3, q4] at p5
  rw [q1, q2] at p3
  rw [q3] at p4
  rw [q1] at p2
  rw [q4]
  exact ⟨⟨_, p5, rfl⟩, h _ ⟨p5, p3, ⟨_, _, p4⟩, siNew p1, siNew p2⟩ fun c o x => u (u (u (u (u x))))⟩
end
/-- a list or a tuple that is tracked -/
def SqG (K : PySem.W.Frag) (b : Bool) (H : Hp) (a : Addr) (xs : List V) : Prop := if b then SqT K H a xs else SqL K H a xs
theorem sqG_of {X : Cx} {pins : List (Addr × Obj)} {σ : L2.St} {H : Hp} {s : Shared} {b : Bool} {a : Addr} {xs : List V} (I : Inv X pins σ H s) (h : SqG X.K b H a xs) : ∃ its, Vals xs its ∧ SO b s.heap a its.toArray := by
  cases b with
  | true => obtain ⟨its, rv, p1, _⟩ := I.tuple h; exact ⟨its, rv, p1⟩
  | false => obtain ⟨its, rv, p1, _⟩ := I.list h; exact ⟨its, rv, p1.isList⟩
theorem sqG_inj {X : Cx} {pins : List (Addr × Obj)} {σ : L2.St} {H : Hp} {s : Shared} {b : Bool} {a : Addr} {xs ys : List V} (I : Inv X pins σ H s) (h : SqG X.K b H a xs) (h' : SqG X.K b H a ys) : xs = ys := by
  cases b with
  | true => exact I.tuple_inj h h'
  | false => exact I.list_inj h h'
theorem soLt {b : Bool} {h : Heap} {a : Addr} {its : Array Value} (x : SO b h a its) : a < h.objs.size := by
  cases b with
  | true => obtain ⟨_, e, _⟩ := (show h.IsTuple a its from x); exact Heap.lt_size e
  | false => obtain ⟨_, e, _⟩ := (show h.IsList a its from x); exact Heap.lt_size e
/-- the pairs of two tuples -/
def ItzG (K : PySem.W.Frag) (b1 b2 : Bool) (a b : Addr) : It :=
  ⟨fun i H => ∃ xs ys x y, SqG K b1 H a xs ∧ SqG K b2 H b ys ∧ xs[i]? = some x ∧ ys[i]? = some y,
   fun i H v H' => ∃ T x y, v = .ref T ∧ H T = none ∧ H' = upd H T (.tup [x, y]) ∧ (∀ xs, SqG K b1 H a xs → xs[i]? = some x) ∧ ∀ ys, SqG K b2 H b ys → ys[i]? = some y,
   fun i H => ∃ xs ys, SqG K b1 H a xs ∧ SqG K b2 H b ys ∧ (xs.length ≤ i ∨ ys.length ≤ i)⟩
theorem turn_zipG {b1 b2 : Bool} {P : Program} {w : World} {K : PySem.W.Frag} {es : List Expr} {ek : Nat} {ep : Pos} {z TI TO i1 i2 a b : Addr} (D : ZipApart z TI TO i1 i2 a b) :
    Turn P w K (.Tuple es ek ep) (ItzG K b1 b2 a b) [z, TI, TO, i1, i2] z (fun i h => ZipG b1 b2 h z TI TO i1 i2 a b .none i i) where
  mem := by simp
  obj := fun i h Z c hc => by
    obtain ⟨Z0, P0, ⟨x, y, O0⟩, S1, S2⟩ := Z
    obtain ⟨o1, e1, d1⟩ := S1.obj
    obtain ⟨o2, e2, d2⟩ := S2.obj
    simp only [List.mem_cons, List.not_mem_nil, or_false] at hc
    rcases hc with rfl | rfl | rfl | rfl | rfl
    · exact ⟨_, Z0, fun v m => by cases m⟩
    · exact ⟨_, P0, fun v m => by cases m⟩
    · exact ⟨_, O0, fun v m => by cases m⟩
    · exact ⟨_, e1, d1⟩
    · exact ⟨_, e2, d2⟩
  keep := fun i h h' Z k => by
    obtain ⟨Z0, P0, ⟨x, y, O0⟩, S1, S2⟩ := Z
    exact ⟨k z (by simp) _ Z0, k TI (by simp) _ P0, ⟨x, y, k TO (by simp) _ O0⟩, S1.keep fun o e => k i1 (by simp) o e, S2.keep fun o e => k i2 (by simp) o e⟩
  item := by
    intro X hP hw hK hc i pins s σ H E I hf Z hg
    subst hP hw hK
    obtain ⟨xs, ys, x, y, sa, sb, hx, hy⟩ := hg
    obtain ⟨its, rv, p1⟩ := sqG_of I sa
    obtain ⟨its2, rv2, p2⟩ := sqG_of I sb
    obtain ⟨u, hu, ru⟩ := rv.get hx
    obtain ⟨u2, hu2, ru2⟩ := rv2.get hy
    refine zipG_item D Z p1 p2 (x := u) (y := u2) (by simpa using hu) (by simpa using hu2) fun h' Z' N' kp => ⟨_, rfl, ?_⟩
    refine wpAny_letOwnedTupleGo_zip Z'.z fun h2 Z2 e2 => ?_
    have hch : ∀ c ∈ [z, TO, i1, i2], FpOk X pins H c := fun c hm => hf c (by
      simp only [List.mem_cons, List.not_mem_nil, or_false] at hm ⊢
      rcases hm with q | q | q | q <;> simp [q])
    have kk : ∀ c o, c ∉ [z, TO, i1, i2] → s.heap.get? c = some o → h2.get? c = some o := fun c o n e => e2.extBut _ _ (fun m => n (by simp [m])) (kp c o n e)
    have zlt : z < s.heap.objs.size := Heap.lt_size Z.z
    have NT : IsPair h2 s.heap.objs.size u u2 := e2.extBut _ _ (Nat.ne_of_gt zlt) N'
    have hfr : H s.heap.objs.size = none := I.hok.fresh (Nat.le_refl _)
    refine ⟨.ref s.heap.objs.size, upd H s.heap.objs.size (.tup [x, y]), inv_turnLay (s := s) (h' := h2) (t' := s.toks) I hch kk (Nat.le_refl _) ?_, rfl, ⟨_, x, y, rfl, hfr, rfl, fun ws hw => ?_, fun ws hw => ?_⟩, ?_, fun c hm => ?_⟩
    · exact ⟨by show 2 ≤ sizeLine; decide, [u, u2], .cons ru (.cons ru2 .nil), ⟨_, NT, rfl, ⟨_, rfl⟩, rfl⟩⟩
    · rw [sqG_inj I hw sa]; exact hx
    · rw [sqG_inj I hw sb]; exact hy
    · obtain ⟨_, P1, ⟨q1, q2, O1⟩, S1, S2⟩ := Z'
      exact ⟨Z2, e2.extBut _ _ D.TIz P1, ⟨q1, q2, e2.extBut _ _ D.TOz O1⟩, S1.keep fun o e => e2.extBut _ o D.i1z e, S2.keep fun o e => e2.extBut _ o D.i2z e⟩
    · have lt : c < s.heap.objs.size := by
        obtain ⟨Z0, P0, ⟨q1, q2, O0⟩, S1, S2⟩ := Z
        obtain ⟨o1, f1, _⟩ := S1.obj
        obtain ⟨o2, f2, _⟩ := S2.obj
        simp only [List.mem_cons, List.not_mem_nil, or_false] at hm
        rcases hm with rfl | rfl | rfl | rfl | rfl
        · exact Heap.lt_size Z0
        · exact Heap.lt_size P0
        · exact Heap.lt_size O0
        · exact Heap.lt_size f1
        · exact Heap.lt_size f2
      rw [upd_ne (Nat.ne_of_lt lt)]
      exact (hf c hm).1
  done := by
    intro X hP hw hK hc i pins s σ H E I hf Z hg
    subst hP hw hK
    obtain ⟨xs, ys, sa, sb, hz⟩ := hg
    obtain ⟨its, rv, p1⟩ := sqG_of I sa
    obtain ⟨its2, rv2, p2⟩ := sqG_of I sb
    have l1 := rv.length
    have l2 := rv2.length
    refine zipG_end (I.ok.hd hc) D Z p1 p2 ?_ fun h' kp => ⟨rfl, inv_turns (s := s) (h' := h') (t' := s.toks) I (fun c hm => hf c (by
      simp only [List.mem_cons, List.not_mem_nil, or_false] at hm ⊢
      rcases hm with q | q | q | q <;> simp [q])) kp⟩
    rcases hz with q | q
    · exact .inl (by simp; omega)
    · exact .inr (by simp; omega)
  self := fun _ _ _ _ _ Z h => wpAny_pyIter_zip Z.z h
section
variable {X : Cx} {a b : Expr} {es : List Expr} {ek : Nat} {ep p pos : Pos}
theorem pi_zipG {ta : TA} (hg : Gl X "zip") (hm : X.mg "zip" = none) (ha : PA X [a, b] ta) (hs : starEach [a, b] X.env = [(false, eval a X.env), (false, eval b X.env)] := by rfl) (hs2 : starEach [b] X.env = [(false, eval b X.env)] := by rfl) :
    PI X (.Tuple es ek ep) (.Call (.Name "zip" p) [a, b] [] pos) (fun σ H R => ta σ H fun vs H1 => ∃ b1 b2 l1 l2 xs ys, vs = [.ref l1, .ref l2] ∧ SqG X.K b1 H1 l1 xs ∧ SqG X.K b2 H1 l2 ys ∧ R (ItzG X.K b1 b2 l1 l2) H1) := by
  intro pins s σ H R I h
  refine Call_ (ld_blt I hg hm (by rfl) (PyProof.Rows.callWith_type1 (thn (ha pos pins s σ H _ I h) fun us s1 ⟨vs, H1, I1, r1, q1⟩ => ?_) (by rw [hs, hs2]) (by rw [hs2]; rfl)))
  obtain ⟨b1, b2, l1, l2, xs, ys, rfl, s1', s2', q⟩ := q1
  cases r1 with
  | cons r rr =>
    cases rr with
    | cons r' rr =>
      cases rr
      cases r
      cases r'
      obtain ⟨its, rv, p1⟩ := sqG_of I1 s1'
      obtain ⟨its2, rv2, p2⟩ := sqG_of I1 s2'
      have d1 : l1 < s1.heap.objs.size := soLt p1
      have d2 : l2 < s1.heap.objs.size := soLt p2
      refine zipG_new p1 p2 fun h' Z kp => wpAny_pyIter_zip Z.z ?_
      refine ⟨s1.heap.objs.size + 4, [s1.heap.objs.size + 4, s1.heap.objs.size + 2, s1.heap.objs.size + 3, s1.heap.objs.size, s1.heap.objs.size + 1], _, _, H1, rfl, I1.kept (t' := s1.toks) kp, turn_zipG (zipApart_new d1 d2), Z, fun c hc => ?_, q⟩
      have ge : s1.heap.objs.size ≤ c := by
        simp only [List.mem_cons, List.not_mem_nil, or_false] at hc
        rcases hc with rfl | rfl | rfl | rfl | rfl
        · exact Nat.le_add_right _ 4
        · exact Nat.le_add_right _ 2
        · exact Nat.le_add_right _ 3
        · exact Nat.le_refl _
        · exact Nat.le_add_right _ 1
      exact I1.fpOk ge (I1.hok.fresh ge)
/-- the pairs of two lists or tuples -/
def iZipG (g : FA) : FI := fun σ M => match g σ M with
  | some ([x, y], M1) => match seqOf M1 (.dat x), seqOf M1 (.dat y) with
    | some xs, some ys => some ((xs.zip ys).map fun q => D.tup [q.1, q.2], some fun M => seqOf M (.dat x) = some xs ∧ seqOf M (.dat y) = some ys, M1)
    | _, _ => none
  | _ => none
theorem src_of {K : PySem.W.Frag} {L1 : List Addr} {M1 : Mem} {H1 : Hp} {x : D} {v : V} {xs : List D} (c1 : Cor K L1 M1 H1) (r1 : Rep L1 H1 x v) (e : seqOf M1 (.dat x) = some xs) :
    ∃ b l, v = .ref l ∧ (∃ vs, SqG K b H1 l vs) ∧ ∀ L2 H2 M2, Stp L1 H1 L2 H2 → Cor K L2 M2 H2 → seqOf M2 (.dat x) = some xs → ∃ vs', SqG K b H2 l vs' ∧ Reps L2 H2 xs vs' := by
  have r1' : RepE H1 L1 H1 (.dat x) v := r1
  cases x with
  | tup ds =>
    cases e
    obtain ⟨a, vs, rfl, e3, r3⟩ := tup_rep r1' (xs := xs) rfl
    exact ⟨true, a, rfl, ⟨vs, (show SqT K H1 a vs from .of e3)⟩, fun L2 H2 M2 s2 c2 _ => ⟨vs, (show SqT K H2 a vs from .of (s2.tup a vs e3)), r3.stp s2⟩⟩
  | ref n =>
    have e2 : lstOf M1 (.dat (.ref n)) = some xs := e
    obtain ⟨a, vs, rfl, e3, r3⟩ := lst_rep c1 r1' e2
    refine ⟨false, a, rfl, ⟨vs, (show SqL K H1 a vs from .inl e3)⟩, fun L2 H2 M2 s2 c2 hq => ?_⟩
    unfold Rep at r1
    obtain ⟨a', ha', e5⟩ := r1
    cases ha'
    have e6 : L2[n]? = some a := by obtain ⟨N, hN⟩ := s2.pre; rw [hN]; exact pre_get e5
    have r2 : RepE H2 L2 H2 (.dat (.ref n)) (.ref a) := by unfold RepE Rep; exact ⟨a, rfl, e6⟩
    obtain ⟨a2, vs', h2, e7, r7⟩ := lst_rep c2 r2 (show lstOf M2 (.dat (.ref n)) = some xs from hq)
    cases h2
    exact ⟨vs', (show SqL K H2 a vs' from .inl e7), r7⟩
  | _ => cases e
theorem q_izipG {g : FA} (hg : Gl X "zip") (hm : X.mg "zip" = none) (ha : QA X [a, b] g) (hs : starEach [a, b] X.env = [(false, eval a X.env), (false, eval b X.env)] := by rfl) (hs2 : starEach [b] X.env = [(false, eval b X.env)] := by rfl) :
    QI X (.Tuple es ek ep) (.Call (.Name "zip" p) [a, b] [] pos) (iZipG g) := .mk <| PI.imp (pi_zipG hg hm ha.un hs hs2) fun τ H R ⟨L, σ, M, xs, gd, M', c, rs, hf, q⟩ => by
  unfold iZipG at hf
  split at hf
  · rename_i x y M1 e1
    split at hf
    · rename_i ds es' e2 e3
      cases hf
      refine ⟨L, σ, M, _, _, c, rs, e1, fun L1 H1 vs s1 c1 r1 => ?_⟩
      obtain ⟨v, v', rfl, r2, r3⟩ := r1.two
      obtain ⟨b1, l1, rfl, ⟨w1, h1⟩, k1⟩ := src_of c1 r2 e2
      obtain ⟨b2, l2, rfl, ⟨w2, h2⟩, k2⟩ := src_of c1 r3 e3
      refine ⟨b1, b2, l1, l2, w1, w2, rfl, h1, h2, q L1 H1 _ s1 c1 fun L2 H2 M2 s2 c2 hgd => ?_⟩
      obtain ⟨ws1, g1, p1⟩ := k1 L2 H2 M2 s2 c2 hgd.1
      obtain ⟨ws2, g2, p2⟩ := k2 L2 H2 M2 s2 c2 hgd.2
      refine ⟨fun i d hd => ?_, ⟨ws1, ws2, g1, g2, ?_⟩⟩
      · rw [List.getElem?_map] at hd
        cases e2 : (ds.zip es')[i]? with
        | none => rw [e2] at hd; cases hd
        | some pr =>
          rw [e2] at hd
          cases hd
          obtain ⟨f1, f2⟩ := List.getElem?_zip_eq_some.mp e2
          obtain ⟨u, hu, ru⟩ := p1.get f1
          obtain ⟨u2, hu2, ru2⟩ := p2.get f2
          refine ⟨⟨ws1, ws2, u, u2, g1, g2, hu, hu2⟩, fun v H3 hy => ?_⟩
          obtain ⟨T, x, y, rfl, hT, rfl, hxx, hyy⟩ := hy
          have ex := hxx ws1 g1
          have ey := hyy ws2 g2
          rw [hu] at ex; cases ex
          rw [hu2] at ey; cases ey
          exact ⟨fun a o e => by rw [upd_ne (ne_of_none e hT)]; exact e, Rep.newTup hT (.cons ru (.cons ru2 .nil))⟩
      · rw [List.length_map, List.length_zip, p1.length, p2.length]
        omega
    · cases hf
  · cases hf
end
end L3

set_option Elab.async false
set_option linter.all false
set_option maxRecDepth 100000
namespace Law
open PySem PySem.Spec PyProof.Rows L2 L3
noncomputable def b_law_begin : FS := (sSeq (sSet 1 (fOp kPlus (fB kLen (eCons (fVar 0) eNil)) (fC (.int 3))))
    (sSeq (sFor (iSeq (fSl (fVar 0) oNone (oSome (fC (.int 63))))) (gN 2) (sSet 1 (fOp kMod (fOp kPlus (fOp kPlus (fOp kMul (fVar 1) (fC (.int 6364136223846793))) (fOp kMod (fVar 2) (fOp kPow (fC (.int 10)) (fC (.int 30))))) (fC (.int 1442695040888963))) (fC (.int 2305843009213693951)))))
    (sRet (fLst (aCons (toD (fComp [2] (iSeq (fSl (fVar 0) oNone (oSome (fC (.int 63))))) (gN 2) (tst (fOp kGe (fB kAbs (eCons (fVar 2) eNil)) (fOp kPow (fC (.int 10)) (fC (.int 18))))) (fB kAbs (eCons (fVar 2) eNil)))) (aCons (toD (fVar 1)) aNil))))))
noncomputable def m_law_begin : FF := fDef 3 b_law_begin

noncomputable def b_law_next : FS := (sSeq (whileF (tAndF (tst (fOp kNe (fOp kIx (fVar 0) (fC (.int 0))) (fLst aNil))) (tst (fOp kEq (fOp kIx (fOp kIx (fVar 0) (fC (.int 0))) (fC (.int 0))) (fC (.int 0))))) (sExpr (fM kPop (fOp kIx (fVar 0) (fC (.int 0))) (aCons (toD (fC (.int 0))) aNil))) 100)
    (sSeq (sIf (tst (fOp kNe (fOp kIx (fVar 0) (fC (.int 0))) (fLst aNil))) (sSeq (sSet 2 (fOp kMod (fOp kIx (fOp kIx (fVar 0) (fC (.int 0))) (fC (.int 0))) (fVar 1)))
    (sSeq (sSub (fOp kDiv (fOp kIx (fOp kIx (fVar 0) (fC (.int 0))) (fC (.int 0))) (fVar 1)) (fOp kIx (fVar 0) (fC (.int 0))) (fC (.int 0)))
    (sRet (fVar 2)))) sNil)
    (sSeq (sSub (fOp kMod (fOp kPlus (fOp kMul (fOp kIx (fVar 0) (fC (.int 1))) (fC (.int 6364136223846793))) (fC (.int 1442695040888963))) (fC (.int 2305843009213693951))) (fVar 0) (fC (.int 1)))
    (sRet (fOp kMod (fOp kDiv (fOp kMod (fOp kMul (fOp kIx (fVar 0) (fC (.int 1))) (fOp kIx (fVar 0) (fC (.int 1)))) (fC (.int 2305843009213693921))) (fC (.int 65537))) (fVar 1))))))
noncomputable def m_law_next : FF := fDef 3 b_law_next

/-- the state lies at n, its list of great numbers at k -/
structure Gen (M : Mem) (n k : Nat) : Prop where
  ex : ∃ (c : List Int) (s : Int), M[n]? = some (.lst [.ref k, .int s]) ∧ M[k]? = some (.lst (c.map D.int)) ∧ (∀ x ∈ c, 0 ≤ x) ∧ c.length ≤ 63 ∧ 0 ≤ s ∧ s < 2305843009213693951
  ne : n ≠ k
  wf : ∀ (j : Nat) u, M[j]? = some u → MO.und M.length u = true
/-- all but the state is as it was -/
structure Nx (M M' : Mem) (n k : Nat) : Prop where
  gen : Gen M' n k
  len : M'.length = M.length
  fr : ∀ j, j ≠ n → j ≠ k → M'[j]? = M[j]?
theorem Nx.refl {M : Mem} {n k : Nat} (h : Gen M n k) : Nx M M n k := ⟨h, rfl, fun _ _ _ => rfl⟩
theorem Nx.trans {M M1 M2 : Mem} {n k : Nat} (a : Nx M M1 n k) (b : Nx M1 M2 n k) : Nx M M2 n k := ⟨b.gen, b.len.trans a.len, fun j h1 h2 => (b.fr j h1 h2).trans (a.fr j h1 h2)⟩
theorem unds_ints (n : Nat) : ∀ c : List Int, D.unds n (c.map D.int) = true
  | [] => rfl
  | x :: r => by
    show (D.und n (D.int x) && D.unds n (r.map D.int)) = true
    rw [unds_ints n r]; rfl
theorem Gen.lt {M : Mem} {n k : Nat} (h : Gen M n k) : n < M.length ∧ k < M.length := by
  obtain ⟨c, s, e1, e2, _⟩ := h.ex
  exact ⟨(List.getElem?_eq_some_iff.mp e1).1, (List.getElem?_eq_some_iff.mp e2).1⟩
/-- the state is stored anew -/
theorem Gen.put {M : Mem} {n k : Nat} (h : Gen M n k) {c : List Int} {s : Int} (hc : ∀ x ∈ c, 0 ≤ x) (hl : c.length ≤ 63) (h0 : 0 ≤ s) (h1 : s < 2305843009213693951) :
    Nx M ((M.set k (.lst (c.map D.int))).set n (.lst [.ref k, .int s])) n k := by
  obtain ⟨hn, hk⟩ := h.lt
  refine ⟨⟨⟨c, s, ?_, ?_, hc, hl, h0, h1⟩, h.ne, fun j u e => ?_⟩, by simp, fun j h1 h2 => ?_⟩
  · rw [List.getElem?_set_self (by simpa using hn)]
  · rw [List.getElem?_set_ne h.ne, List.getElem?_set_self hk]
  · rw [List.length_set, List.length_set]
    rw [List.getElem?_set] at e
    split at e
    · split at e
      · cases e
        show D.unds _ _ = true
        unfold D.unds D.unds D.unds D.und
        simp [hk]
      · cases e
    · rw [List.getElem?_set] at e
      split at e
      · rename_i z
        subst z
        cases e; exact unds_ints _ _
      · exact h.wf j u e
  · rw [List.getElem?_set_ne (Ne.symm h1), List.getElem?_set_ne (Ne.symm h2)]
theorem set_same {M : Mem} {k : Nat} {u : MO} (h : M[k]? = some u) : M.set k u = M := by
  apply List.ext_getElem?
  intro i
  rw [List.getElem?_set]
  split
  · rename_i e; subst e
    rw [if_pos (List.getElem?_eq_some_iff.mp h).1]; exact h.symm
  · rfl
theorem ints_inj : ∀ {a b : List Int}, a.map D.int = b.map D.int → a = b
  | [], [], _ => rfl
  | [], _ :: _, h => by cases h
  | _ :: _, [], h => by cases h
  | x :: a, y :: b, h => by
    rw [List.map_cons, List.map_cons] at h
    have h1 := (List.cons.inj h).1
    have h2 := ints_inj (List.cons.inj h).2
    cases h1; rw [h2]
theorem at0 {x : D} {xs : List D} : atI (x :: xs) 0 = some x := at_nat (k := 0) rfl
theorem at1 {x y : D} {xs : List D} : atI (x :: y :: xs) 1 = some y := at_nat (k := 1) rfl
theorem next_ok {M : Mem} {n k : Nat} {m : Int} (h : Gen M n k) (h0 : 0 < m) (h1 : m < 1073741824) :
    Ok (m_law_next [.ref n, .int m] M) fun d M' => (∃ i, d = .int i ∧ 0 ≤ i ∧ i < m) ∧ Nx M M' n k := by
  unfold m_law_next
  rw [ok_def]
  unfold b_law_next
  show OkS (sSeq _ _ [some (.ref n), some (.int m), none] M) _
  rw [oks_seq]
  -- the first expression: the list of great numbers
  have st : ∀ {M : Mem} {c : List Int} {s : Int} {σ : Sd} {P : EV → Mem → Prop}, σ[0]? = some (some (.ref n)) → M[n]? = some (.lst [.ref k, .int s]) → P (.dat (.ref k)) M → Ok (fOp kIx (fVar 0) (fC (.int 0)) σ M) P := fun hσ hM p =>
    ok_op.mpr (ok_var.mpr ⟨_, hσ, ok_c.mpr (k_ix (seq_ref hM) at0 p)⟩)
  have sd : ∀ {M : Mem} {s : Int} {σ : Sd} {P : EV → Mem → Prop}, σ[0]? = some (some (.ref n)) → M[n]? = some (.lst [.ref k, .int s]) → P (.dat (.int s)) M → Ok (fOp kIx (fVar 0) (fC (.int 1)) σ M) P := fun hσ hM p =>
    ok_op.mpr (ok_var.mpr ⟨_, hσ, ok_c.mpr (k_ix (seq_ref hM) at1 p)⟩)
  have hd : ∀ {M : Mem} {c : List Int} {x s : Int} {σ : Sd} {P : EV → Mem → Prop}, σ[0]? = some (some (.ref n)) → M[n]? = some (.lst [.ref k, .int s]) → M[k]? = some (.lst ((x :: c).map D.int)) → P (.dat (.int x)) M → Ok (fOp kIx (fOp kIx (fVar 0) (fC (.int 0))) (fC (.int 0)) σ M) P := fun {M c x s σ P} hσ hM hK p =>
    ok_op.mpr (st (c := c) hσ hM (ok_c.mpr (k_ix (seq_ref hK) at0 p)))
  have ne : ∀ {M : Mem} {c : List Int} {s : Int} {σ : Sd} {P : Bool → Mem → Prop}, σ[0]? = some (some (.ref n)) → M[n]? = some (.lst [.ref k, .int s]) → M[k]? = some (.lst (c.map D.int)) → P (!c.isEmpty) M → Ok (tst (fOp kNe (fOp kIx (fVar 0) (fC (.int 0))) (fLst aNil)) σ M) P := fun {M c s σ P} hσ hM hK p => by
    refine ok_tst.mpr (ok_op.mpr (st (c := c) hσ hM (ok_lst.mpr (ok_aNil.mpr ⟨Nat.zero_le _, ?_⟩))))
    rw [k_neNil (lst_ref hK) (by intro d e; cases e; rfl)]
    rw [blP_bl]
    simpa using p
  -- the while
  have W : ∀ (fuel m' : Nat) (σ : Sd) (M' : Mem), m' < fuel → ((σ = [some (.ref n), some (.int m), none] ∧ Nx M M' n k) ∧ ∃ (c : List Int) (s : Int), M'[n]? = some (.lst [.ref k, .int s]) ∧ M'[k]? = some (.lst (c.map D.int)) ∧ c.length = m') →
      OkS (whileF (tAndF (tst (fOp kNe (fOp kIx (fVar 0) (fC (.int 0))) (fLst aNil))) (tst (fOp kEq (fOp kIx (fOp kIx (fVar 0) (fC (.int 0))) (fC (.int 0))) (fC (.int 0))))) (sExpr (fM kPop (fOp kIx (fVar 0) (fC (.int 0))) (aCons (toD (fC (.int 0))) aNil))) fuel σ M')
        (fun o σ1 M1 => o = .nx ∧ σ1 = [some (.ref n), some (.int m), none] ∧ Nx M M1 n k) := by
    intro fuel m' σ M' hlt hI
    refine oks_while (I := fun m' σ M' => (σ = [some (.ref n), some (.int m), none] ∧ Nx M M' n k) ∧ ∃ (c : List Int) (s : Int), M'[n]? = some (.lst [.ref k, .int s]) ∧ M'[k]? = some (.lst (c.map D.int)) ∧ c.length = m') ?_ fuel m' σ M' hlt hI
    rintro m' σ M' ⟨⟨rfl, nx⟩, c, s, e1, e2, hl⟩
    refine ok_tAnd.mpr (ne rfl e1 e2 ?_)
    cases c with
    | nil => simp; exact nx
    | cons x c =>
      simp only [List.isEmpty_cons, Bool.not_false, if_true]
      refine ok_tst.mpr (ok_op.mpr (hd rfl e1 e2 (ok_c.mpr (k_eq.mpr (blP_bl.mpr ?_)))))
      by_cases hx : x = 0
      · rw [if_pos (by simpa using hx)]
        refine oks_expr.mpr (ok_M.mpr (st (c := c) rfl e1 ⟨⟨_, lst_ref e2⟩, ok_aCons.mpr (ok_toD.mpr (ok_c.mpr (toDp_dat.mpr (ok_aNil.mpr ?_))))⟩))
        rw [List.map_cons] at e2
        rw [k_pop0 e2]
        refine ⟨c.length, by rw [← hl]; simp, ?_⟩
        obtain ⟨c', s', z1, z2, z3, z4, z5, z6⟩ := nx.gen.ex
        rw [e1] at z1; cases z1
        rw [e2] at z2
        have hcc : c' = x :: c := by
          have : (x :: c).map D.int = c'.map D.int := by have := z2; simp only [Option.some.injEq, MO.lst.injEq] at this; simpa using this
          exact (ints_inj this).symm
        subst hcc
        have P := nx.gen.put (c := c) (s := s) (fun y hy => z3 y (List.mem_cons_of_mem _ hy)) (by simp at z4; omega) z5 z6
        have q : ((M'.set k (.lst (c.map D.int))).set n (.lst [.ref k, .int s])) = M'.set k (.lst (c.map D.int)) := set_same (by rw [List.getElem?_set_ne (Ne.symm nx.gen.ne)]; exact e1)
        rw [q] at P
        have hk := nx.gen.lt.2
        refine ⟨⟨rfl, nx.trans P⟩, c, s, ?_, ?_, rfl⟩
        · rw [List.getElem?_set_ne (Ne.symm nx.gen.ne)]; exact e1
        · rw [List.getElem?_set_self hk]
      · rw [if_neg (by simpa using hx)]
        first | exact ⟨rfl, rfl, nx⟩ | exact ⟨trivial, trivial, nx⟩ | simpa using nx
  obtain ⟨c, s, e1, e2, e3, e4, _⟩ := h.ex
  refine OkS.mono (W 100 c.length _ M (by omega) ⟨⟨rfl, .refl h⟩, c, s, e1, e2, rfl⟩) ?_
  rintro o σ M1 ⟨rfl, rfl, nx⟩
  rw [nxP_nx, oks_seq, oks_if]
  obtain ⟨c, s, e1, e2, e3, e4, e5, e6⟩ := nx.gen.ex
  refine ne rfl e1 e2 ?_
  cases c with
  | nil =>
    simp only [List.isEmpty_nil, Bool.not_true, Bool.false_eq_true, if_false]
    rw [oks_nil, nxP_nx, oks_seq, oks_sub]
    refine ok_op.mpr (ok_op.mpr (ok_op.mpr (sd rfl e1 (ok_c.mpr (k_mul.mpr ⟨by simp [cMul] <;> omega, ok_c.mpr (k_plus.mpr (ok_c.mpr (k_mod.mpr ⟨by decide, ?_⟩)))⟩)))))
    rw [toDp_dat]
    refine ok_var.mpr ⟨_, rfl, ok_c.mpr ?_⟩
    rw [toDp_dat]
    have hs0 : 0 ≤ (s * 6364136223846793 + 1442695040888963) % 2305843009213693951 := Int.emod_nonneg _ (by decide)
    have hs1 : (s * 6364136223846793 + 1442695040888963) % 2305843009213693951 < 2305843009213693951 := Int.emod_lt_of_pos _ (by decide)
    generalize (s * 6364136223846793 + 1442695040888963) % 2305843009213693951 = s' at hs0 hs1
    have P := nx.gen.put (c := []) (s := s') (fun _ h => by cases h) (by simp) hs0 hs1
    rw [set_same (show M1[k]? = some (.lst (([] : List Int).map D.int)) from e2)] at P
    refine ⟨_, kSetL_of (k := 1) e1 (by simp), ?_⟩
    rw [nxP_nx, oks_ret]
    have e1' : (M1.set n (.lst [.ref k, .int s']))[n]? = some (.lst [.ref k, .int s']) := List.getElem?_set_self nx.gen.lt.1
    refine ok_op.mpr (ok_op.mpr (ok_op.mpr (ok_op.mpr (sd rfl e1' (sd rfl e1' (k_mul.mpr ⟨by simp [cMul] <;> omega, ok_c.mpr (k_mod.mpr ⟨by decide, ok_c.mpr (k_div.mpr ⟨by decide, ok_var.mpr ⟨_, rfl, k_mod.mpr ⟨h0, ?_⟩⟩⟩)⟩)⟩))))))
    rw [toDp_dat]
    exact ⟨⟨_, rfl, Int.emod_nonneg _ (by omega), Int.emod_lt_of_pos _ h0⟩, nx.trans P⟩
  | cons x c =>
    simp only [List.isEmpty_cons, Bool.not_false, if_true]
    rw [oks_seq, oks_set]
    refine ok_op.mpr (hd rfl e1 e2 (ok_var.mpr ⟨_, rfl, k_mod.mpr ⟨h0, ?_⟩⟩))
    rw [toDp_dat, nxP_nx, oks_seq, oks_sub]
    refine ok_op.mpr (hd rfl e1 e2 (ok_var.mpr ⟨_, rfl, k_div.mpr ⟨⟨h0, h1⟩, ?_⟩⟩))
    rw [toDp_dat]
    refine st (c := c) rfl e1 (ok_c.mpr ?_)
    rw [toDp_dat]
    refine ⟨_, kSetL_of (k := 0) e2 (by simp), ?_⟩
    rw [nxP_nx, oks_ret]
    refine ok_var.mpr ⟨_, rfl, ?_⟩
    rw [toDp_dat, nxP_ret]
    have hx := e3 x List.mem_cons_self
    have P := nx.gen.put (c := (x / m) :: c) (s := s) (fun y hy => by
      rcases List.mem_cons.mp hy with z | z
      · subst z; exact Int.ediv_nonneg hx (by omega)
      · exact e3 y (List.mem_cons_of_mem _ z)) (by simpa using e4) e5 e6
    rw [set_same (k := n) (by rw [List.getElem?_set_ne (Ne.symm nx.gen.ne)]; exact e1)] at P
    exact ⟨⟨_, rfl, Int.emod_nonneg _ (by omega), Int.emod_lt_of_pos _ h0⟩, nx.trans P⟩
end Law

set_option Elab.async false
set_option linter.all false
set_option maxRecDepth 100000
namespace Law
open PySem PySem.Spec PyProof.Rows L2 L3
theorem cut_ints (ns : List Int) (lo hi : Option Int) : ∃ c : List Int, L3.cutD (ns.map D.int) lo hi = c.map D.int ∧ c.length ≤ ns.length := by
  refine ⟨(ns.drop (HT.sIx ns.length 0 lo)).take (HT.sIx ns.length ns.length hi - HT.sIx ns.length 0 lo), ?_, ?_⟩
  · unfold L3.cutD
    rw [List.length_map, List.map_take, List.map_drop]
  · rw [List.length_take, List.length_drop]; omega
theorem map_ints_cons {c : List Int} {x : D} {r : List D} (h : x :: r = c.map D.int) : ∃ y c', c = y :: c' ∧ x = .int y ∧ r = c'.map D.int := by
  cases c with
  | nil => cases h
  | cons y c' => rw [List.map_cons] at h; exact ⟨y, c', rfl, (List.cons.inj h).1, (List.cons.inj h).2⟩
theorem grd_none {xs : List D} {M : Mem} : grdOk none xs M := trivial
theorem size_ok {n : Nat} (h : n ≤ 100000) : n ≤ sizeLine := Nat.le_trans h (by decide)
theorem begin_ok {ns : List Int} (h : ns.length ≤ 63) : Ok (m_law_begin [.ref 0] [.fro (ns.map D.int)]) fun d M' => d = .ref 2 ∧ Gen M' 2 1 ∧ M'[0]? = some (.fro (ns.map D.int)) ∧ M'.length = 3 := by
  unfold m_law_begin
  rw [ok_def]
  unfold b_law_begin
  show OkS (sSeq _ _ [some (.ref 0), none, none] _) _
  have e0 : ([.fro (ns.map D.int)] : Mem)[0]? = some (.fro (ns.map D.int)) := rfl
  obtain ⟨cut, ec, lc⟩ := cut_ints ns none (some 63)
  have sl : ∀ {σ : Sd} {P : EV → Mem → Prop}, σ[0]? = some (some (.ref 0)) → P (.fl (cut.map D.int)) [.fro (ns.map D.int)] → Ok (fSl (fVar 0) oNone (oSome (fC (.int 63))) σ [.fro (ns.map D.int)]) P := fun hσ p => by
    refine ok_sl.mpr (ok_var.mpr ⟨_, hσ, ok_oNone.mpr (ok_oSome.mpr (ok_c.mpr (intP_int.mpr ?_)))⟩)
    rw [sl_lst (lst_fro e0) rfl, ec]; exact p
  rw [oks_seq, oks_set]
  refine ok_op.mpr (ok_B.mpr (ok_eCons.mpr (ok_var.mpr ⟨_, rfl, ok_eNil.mpr ((k_len (seq_fro e0)).mpr (ok_c.mpr (k_plus.mpr ?_)))⟩)))
  rw [toDp_dat, nxP_nx, oks_seq, oks_for]
  obtain ⟨x, M1, ex, px⟩ := sl (σ := [some (.ref 0), some (.int (((ns.map D.int).length : Int) + 3)), none]) (P := fun x M => x = .fl (cut.map D.int) ∧ M = [.fro (ns.map D.int)]) rfl ⟨rfl, rfl⟩
  obtain ⟨rfl, rfl⟩ := px
  refine ⟨_, _, _, iSeq_of ex seq_fl, ?_⟩
  refine oks_loop (I := fun r σ M => M = [.fro (ns.map D.int)] ∧ (∃ c : List Int, r = c.map D.int) ∧ ∃ s y, σ = [some (.ref 0), some (.int s), y] ∧ 0 ≤ s ∧ s < 2305843009213693951) ?_ ?_ _ _ _ ⟨rfl, ⟨cut, rfl⟩, _, none, rfl, by simp; omega, by simp; omega⟩
  · rintro x r σ M ⟨rfl, ⟨c, hc⟩, s, y, rfl, h0, h1⟩
    obtain ⟨z, c', rfl, rfl, rfl⟩ := map_ints_cons hc
    refine ⟨grd_none, _, rfl, ?_⟩
    rw [oks_set]
    refine ok_op.mpr (ok_op.mpr (ok_op.mpr (ok_op.mpr (ok_var.mpr ⟨_, rfl, ok_c.mpr (k_mul.mpr ⟨by simp [cMul], ?_⟩)⟩))))
    refine ok_op.mpr (ok_var.mpr ⟨_, rfl, ok_op.mpr (ok_c.mpr (ok_c.mpr (k_pow.mpr ⟨by decide, k_mod.mpr ⟨by decide, k_plus.mpr (ok_c.mpr (k_plus.mpr (ok_c.mpr (k_mod.mpr ⟨by decide, ?_⟩))))⟩⟩)))⟩)
    rw [toDp_dat]
    exact ⟨rfl, ⟨c', rfl⟩, _, _, rfl, Int.emod_nonneg _ (by decide), Int.emod_lt_of_pos _ (by decide)⟩
  · rintro σ M ⟨rfl, _, s, y, rfl, h0, h1⟩
    refine ⟨grd_none, ?_⟩
    rw [nxP_nx, oks_ret, ok_lst, ok_aCons, ok_toD, ok_comp]
    obtain ⟨x, M1, ex, px⟩ := sl (σ := [some (.ref 0), some (.int s), y]) (P := fun x M => x = .fl (cut.map D.int) ∧ M = [.fro (ns.map D.int)]) rfl ⟨rfl, rfl⟩
    obtain ⟨rfl, rfl⟩ := px
    refine ⟨_, _, _, iSeq_of ex seq_fl, by rw [List.length_map]; exact size_ok (by omega), ?_⟩
    refine Ok.mono (ok_compL (I := fun r acc M => M = [.fro (ns.map D.int)] ∧ (∃ c : List Int, r = c.map D.int) ∧ r.length + acc.length ≤ 63 ∧ ∃ b : List Int, acc = b.map D.int ∧ ∀ x ∈ b, 0 ≤ x) (Q := fun acc M => M = [.fro (ns.map D.int)] ∧ acc.length ≤ 63 ∧ ∃ b : List Int, acc = b.map D.int ∧ ∀ x ∈ b, 0 ≤ x) ?_ ?_ _ [] _ ⟨rfl, ⟨cut, rfl⟩, by simp; omega, [], rfl, fun _ h => by cases h⟩) ?_
    · rintro x r acc M ⟨rfl, ⟨c, hc⟩, hl, b, rfl, hb⟩
      obtain ⟨z, c', rfl, rfl, rfl⟩ := map_ints_cons hc
      refine ⟨grd_none, _, rfl, ?_⟩
      refine ok_tst.mpr (ok_op.mpr (ok_B.mpr (ok_eCons.mpr (ok_var.mpr ⟨_, rfl, ok_eNil.mpr (k_abs.mpr (ok_op.mpr (ok_c.mpr (ok_c.mpr (k_pow.mpr ⟨by decide, k_ge.mpr (blP_bl.mpr ?_)⟩)))))⟩))))
      by_cases hz : (10 : Int) ^ (18 : Int).toNat ≤ (if z < 0 then -z else z)
      · rw [if_pos (by simpa using hz)]
        refine ok_B.mpr (ok_eCons.mpr (ok_var.mpr ⟨_, rfl, ok_eNil.mpr (k_abs.mpr (toDp_dat.mpr ⟨rfl, ⟨c', rfl⟩, ?_, b ++ [if z < 0 then -z else z], by simp, ?_⟩))⟩))
        · simp at hl ⊢; omega
        · intro y hy
          rcases List.mem_append.mp hy with q | q
          · exact hb y q
          · have : y = if z < 0 then -z else z := by simpa using q
            rw [this]; split <;> omega
      · rw [if_neg (by simpa using hz)]
        exact ⟨rfl, ⟨c', rfl⟩, by simp at hl ⊢; omega, b, rfl, hb⟩
    · rintro acc M ⟨rfl, _, hl, hb⟩
      exact ⟨grd_none, rfl, by simpa using hl, hb⟩
    · rintro ys M ⟨rfl, hl, b, hb, hp⟩
      rw [List.nil_append] at hb hl
      subst hb
      rw [toDp_fl, ok_aCons, ok_toD, ok_var]
      refine ⟨_, rfl, ?_⟩
      rw [toDp_dat, ok_aNil]
      refine ⟨size_ok (by simp), ?_⟩
      rw [toDp_fl]
      refine ⟨rfl, ⟨⟨b, s, rfl, rfl, hp, by simpa using hl, h0, h1⟩, by decide, ?_⟩, rfl, rfl⟩
      intro j u e
      match j, e with
      | 0, e => cases e; exact unds_ints _ _
      | 1, e => cases e; exact unds_ints _ _
      | 2, e => cases e; rfl
      | j + 3, e => simp at e
end Law

set_option Elab.async false
set_option linter.all false
set_option maxRecDepth 100000
namespace Law
open PySem PySem.Spec PyProof.Rows L2 L3
mutual
theorem und_mono {a b : Nat} (h : a ≤ b) : ∀ {d : D}, D.und a d = true → D.und b d = true
  | .non, _ => by unfold D.und; rfl
  | .bl _, _ => by unfold D.und; rfl
  | .int _, _ => by unfold D.und; rfl
  | .str _, _ => by unfold D.und; rfl
  | .tup ds, e => by unfold D.und at e ⊢; exact unds_mono h e
  | .ref k, e => by unfold D.und at e ⊢; simp at e ⊢; omega
theorem unds_mono {a b : Nat} (h : a ≤ b) : ∀ {ds : List D}, D.unds a ds = true → D.unds b ds = true
  | [], _ => by unfold D.unds; rfl
  | d :: ds, e => by
    unfold D.unds at e ⊢
    rw [Bool.and_eq_true] at e ⊢
    exact ⟨und_mono h e.1, unds_mono h e.2⟩
end
theorem mund_mono {a b : Nat} (h : a ≤ b) {u : MO} (e : MO.und a u = true) : MO.und b u = true := by
  cases u with
  | lst xs => exact unds_mono h e
  | fro xs => exact unds_mono h e
  | set xs => exact unds_mono h e
  | dict kvs =>
    unfold MO.und at e ⊢
    rw [List.all_eq_true] at e ⊢
    intro p hp
    have := e p hp
    rw [Bool.and_eq_true] at this ⊢
    exact ⟨und_mono h this.1, und_mono h this.2⟩
  | dicT kvs =>
    unfold MO.und at e ⊢
    rw [List.all_eq_true] at e ⊢
    intro p hp
    have := e p hp
    rw [Bool.and_eq_true] at this ⊢
    exact ⟨und_mono h this.1, und_mono h this.2⟩
theorem unds_app {n : Nat} : ∀ {xs ys : List D}, D.unds n (xs ++ ys) = (D.unds n xs && D.unds n ys)
  | [], ys => by simp [D.unds]
  | x :: xs, ys => by
    show (D.und n x && D.unds n (xs ++ ys)) = ((D.und n x && D.unds n xs) && D.unds n ys)
    rw [unds_app, Bool.and_assoc]
theorem unds_all {n : Nat} : ∀ {xs : List D}, (∀ x ∈ xs, D.und n x = true) → D.unds n xs = true
  | [], _ => rfl
  | x :: xs, h => by
    show (D.und n x && D.unds n xs) = true
    rw [h x List.mem_cons_self, unds_all fun y hy => h y (List.mem_cons_of_mem _ hy)]; rfl
theorem und_ints {n : Nat} (c : List Int) : D.und n (.tup (c.map D.int)) = true := by unfold D.und; exact unds_ints n c
/-- more things behind -/
theorem Gen.app {A us : Mem} {n k : Nat} (h : Gen A n k) (hu : ∀ u ∈ us, MO.und (A.length + us.length) u = true) : Gen (A ++ us) n k := by
  obtain ⟨c, s, e1, e2, r⟩ := h.ex
  obtain ⟨hn, hk⟩ := h.lt
  refine ⟨⟨c, s, by rw [List.getElem?_append_left hn]; exact e1, by rw [List.getElem?_append_left hk]; exact e2, r⟩, h.ne, fun j u e => ?_⟩
  rw [List.length_append]
  by_cases hj : j < A.length
  · rw [List.getElem?_append_left hj] at e
    exact mund_mono (by omega) (h.wf j u e)
  · rw [List.getElem?_append_right (by omega)] at e
    exact hu u (List.mem_of_getElem? e)
/-- .. are as they were -/
theorem Nx.split {A us M : Mem} {n k : Nat} (h : Gen A n k) (x : Nx (A ++ us) M n k) : ∃ A', M = A' ++ us ∧ Nx A A' n k := by
  obtain ⟨hn, hk⟩ := h.lt
  have hl := x.len
  rw [List.length_append] at hl
  have ed : M.drop A.length = us := by
    apply List.ext_getElem?
    intro i
    rw [List.getElem?_drop, x.fr _ (by omega) (by omega), List.getElem?_append_right (by omega)]
    congr 1; omega
  refine ⟨M.take A.length, by rw [← ed, List.take_append_drop], ?_⟩
  have tk : ∀ j, j < A.length → (M.take A.length)[j]? = M[j]? := fun j hj => List.getElem?_take_of_lt hj
  have tl : (M.take A.length).length = A.length := by rw [List.length_take]; omega
  obtain ⟨c, s, e1, e2, r⟩ := x.gen.ex
  refine ⟨⟨⟨c, s, (tk n hn).trans e1, (tk k hk).trans e2, r⟩, h.ne, fun j u e => ?_⟩, tl, fun j h1 h2 => ?_⟩
  · rw [tl]
    have hj : j < A.length := by have := (List.getElem?_eq_some_iff.mp e).1; rw [tl] at this; exact this
    rw [tk j hj] at e
    by_cases q1 : j = n
    · subst q1; rw [e1] at e; cases e
      show D.unds _ _ = true
      unfold D.unds D.unds D.unds D.und
      simp [hk]
    · by_cases q2 : j = k
      · subst q2; rw [e2] at e; cases e; exact unds_ints _ _
      · rw [x.fr j q1 q2, List.getElem?_append_left hj] at e
        exact h.wf j u e
  · by_cases hj : j < A.length
    · rw [tk j hj, x.fr j h1 h2, List.getElem?_append_left hj]
    · rw [List.getElem?_eq_none (by rw [tl]; omega), List.getElem?_eq_none (by omega)]
theorem call_next {M : Mem} {n k : Nat} {m : Int} {σ : Sd} {fa fb : FE} {P : EV → Mem → Prop} (h : Gen M n k) (ha : fa σ M = some (.dat (.ref n), M)) (hb : fb σ M = some (.dat (.int m), M)) (h0 : 0 < m) (h1 : m < 1073741824)
    (q : ∀ i M', 0 ≤ i → i < m → Nx M M' n k → P (.dat (.int i)) M') : Ok (fCall m_law_next (aCons (toD fa) (aCons (toD fb) aNil)) σ M) P := by
  rw [ok_call, ok_aCons, ok_toD]
  refine ⟨_, _, ha, ?_⟩
  rw [toDp_dat, ok_aCons, ok_toD]
  refine ⟨_, _, hb, ?_⟩
  rw [toDp_dat, ok_aNil]
  refine Ok.mono (next_ok h h0 h1) ?_
  rintro d M' ⟨⟨i, rfl, i0, i1⟩, nx⟩
  exact q i M' i0 i1 nx
/-- the rest of a range -/
def upFrom (i : Nat) : Nat → List D
  | 0 => []
  | n + 1 => .int i :: upFrom (i + 1) n
theorem upFrom_range (n : Nat) : ∀ i, ((List.range' i n).map fun (k : Nat) => D.int k) = upFrom i n := by
  induction n with
  | zero => intro i; rfl
  | succ n ih => intro i; rw [List.range'_succ, List.map_cons, ih]; rfl
theorem range_up (n : Nat) : ((List.range n).map fun (k : Nat) => D.int k) = upFrom 0 n := by rw [List.range_eq_range', upFrom_range]
theorem upFrom_length : ∀ (n i : Nat), (upFrom i n).length = n
  | 0, _ => rfl
  | n + 1, i => by show (upFrom (i + 1) n).length + 1 = _; rw [upFrom_length n]
/-- a loop over a range, by what holds ahead of its turn i -/
theorem oks_up {g : FG} {b : FS} {all : List D} {P : Out → Sd → Mem → Prop} (n : Nat) (I : Nat → Sd → Mem → Prop)
    (hs : ∀ i σ M, i < n → I i σ M → ∃ σ1, g (.int i) σ = some σ1 ∧ OkS (b σ1 M) fun o σ2 M2 => match o with | .nx => I (i + 1) σ2 M2 | .cnt => I (i + 1) σ2 M2 | .brk => P .nx σ2 M2 | .ret d => P (.ret d) σ2 M2)
    (he : ∀ σ M, I n σ M → P .nx σ M) (σ : Sd) (M : Mem) (h0 : I 0 σ M) : OkS (loopF g b all none (upFrom 0 n) σ M) P := by
  refine oks_loop (I := fun r σ M => ∃ i, i ≤ n ∧ r = upFrom i (n - i) ∧ I i σ M) ?_ ?_ _ _ _ ⟨0, Nat.zero_le _, by simp, h0⟩
  · rintro x r σ M ⟨i, hi, e, hI⟩
    have hlt : i < n := by
      rcases Nat.lt_or_ge i n with z | z
      · exact z
      · rw [show n - i = 0 by omega] at e; cases e
    rw [show n - i = (n - (i + 1)) + 1 by omega] at e
    obtain ⟨rfl, rfl⟩ := List.cons.inj e
    obtain ⟨σ1, e1, q⟩ := hs i σ M hlt hI
    refine ⟨grd_none, σ1, e1, OkS.mono q ?_⟩
    intro o σ2 M2 z
    cases o with
    | nx => exact ⟨i + 1, hlt, rfl, z⟩
    | cnt => exact ⟨i + 1, hlt, rfl, z⟩
    | brk => exact z
    | ret d => exact z
  · rintro σ M ⟨i, hi, e, hI⟩
    have : i = n := by
      rcases Nat.lt_or_ge i n with z | z
      · rw [show n - i = (n - (i + 1)) + 1 by omega] at e; cases e
      · omega
    subst this
    exact ⟨grd_none, he σ M hI⟩
/-- a comprehension over a range -/
theorem ok_upL {g : FG} {te : FE} {all : List D} {σ : Sd} (n : Nat) (I : Nat → List D → Mem → Prop)
    (hs : ∀ i acc M, i < n → I i acc M → ∃ σ1, g (.int i) σ = some σ1 ∧ Ok (te σ1 M) (toDp fun d M2 => I (i + 1) (acc ++ [d]) M2)) {M : Mem} (h0 : I 0 [] M) :
    Ok (compL g tTrue te σ all none (upFrom 0 n) M) fun ys M1 => I n ys M1 := by
  refine Ok.mono (ok_compL (I := fun r acc M => ∃ i, i ≤ n ∧ r = upFrom i (n - i) ∧ I i acc M) (Q := fun acc M => I n acc M) ?_ ?_ _ [] _ ⟨0, Nat.zero_le _, by simp, h0⟩) fun ys M1 q => by simpa using q
  · rintro x r acc M ⟨i, hi, e, hI⟩
    have hlt : i < n := by
      rcases Nat.lt_or_ge i n with z | z
      · exact z
      · rw [show n - i = 0 by omega] at e; cases e
    rw [show n - i = (n - (i + 1)) + 1 by omega] at e
    obtain ⟨rfl, rfl⟩ := List.cons.inj e
    obtain ⟨σ1, e1, q⟩ := hs i acc M hlt hI
    refine ⟨grd_none, σ1, e1, ok_tTrue.mpr ?_⟩
    rw [if_pos rfl]
    refine Ok.mono q ?_
    intro x M2 z
    cases x with
    | dat d => exact ⟨i + 1, hlt, rfl, z⟩
    | fl xs => exact ⟨i + 1, hlt, rfl, z⟩
  · rintro acc M ⟨i, hi, e, hI⟩
    have : i = n := by
      rcases Nat.lt_or_ge i n with z | z
      · rw [show n - i = (n - (i + 1)) + 1 by omega] at e; cases e
      · omega
    subst this
    exact ⟨grd_none, hI⟩
theorem range_of {σ : Sd} {M : Mem} {f : FE} {j : Int} (e : f σ M = some (.dat (.int j), M)) (h1 : 0 ≤ j) (h2 : j < 2 ^ 62) : iRange (aCons (toD f) aNil) σ M = some (upFrom 0 j.toNat, none, M) := by
  have e' : (aCons (toD f) aNil) σ M = some ([.int j], M) := by unfold aCons toD aNil; rw [e]
  rw [iRange1_of e' h1 h2, range_up]
end Law

set_option Elab.async false
set_option linter.all false
set_option maxRecDepth 100000
namespace Law
open PySem PySem.Spec PyProof.Rows L2 L3
noncomputable def b_law_goal : FS := (sSeq (sIf (tst (fOp kEq (fVar 1) (fC (.int 0)))) (sRet (fCall m_law_next (aCons (toD (fVar 0)) (aCons (toD (fVar 2)) aNil)))) sNil)
    (sSeq (sIf (tst (fOp kEq (fVar 1) (fC (.int 1)))) (sRet (fOp kMod (fOp kPlus (fVar 3) (fCall m_law_next (aCons (toD (fVar 0)) (aCons (toD (fC (.int 3))) aNil)))) (fVar 2))) sNil)
    (sSeq (sIf (tst (fOp kEq (fVar 1) (fC (.int 2)))) (sSeq (sSet 5 (fOp kDiv (fVar 2) (fC (.int 2))))
    (sSeq (sIf (tst (fOp kLt (fVar 3) (fVar 5))) (sRet (fCall m_law_next (aCons (toD (fVar 0)) (aCons (toD (fVar 5)) aNil)))) sNil)
    (sRet (fOp kPlus (fVar 5) (fCall m_law_next (aCons (toD (fVar 0)) (aCons (toD (fOp kSub (fVar 2) (fVar 5))) aNil))))))) sNil)
    (sSeq (sIf (tst (fOp kEq (fVar 4) (fC (.int 0)))) (sRet (fOp kMod (fOp kPlus (fVar 3) (fC (.int 1))) (fVar 2))) sNil)
    (sSeq (sIf (tst (fOp kEq (fVar 1) (fC (.int 3)))) (sRet (fOp kIx (fLst (aCons (toD (fVar 3)) (aCons (toD (fC (.int 0))) aNil))) (fB kInt (eCons (fOp kEq (fVar 3) (fOp kSub (fVar 2) (fC (.int 1)))) eNil)))) sNil)
    (sRet (fOp kMod (fOp kPlus (fOp kPlus (fVar 3) (fC (.int 1))) (fOp kMul (fCall m_law_next (aCons (toD (fVar 0)) (aCons (toD (fC (.int 2))) aNil))) (fOp kSub (fVar 2) (fC (.int 2))))) (fVar 2))))))))
noncomputable def m_law_goal : FF := fDef 6 b_law_goal

noncomputable def b_law_machine : FS := (sSeq (sSet 3 (fOp kPlus (fC (.int 1)) (fCall m_law_next (aCons (toD (fVar 0)) (aCons (toD (fVar 1)) aNil)))))
    (sSeq (sSet 4 (fOp kPlus (fC (.int 1)) (fCall m_law_next (aCons (toD (fVar 0)) (aCons (toD (fVar 2)) aNil)))))
    (sSeq (sSet 5 (fCall m_law_next (aCons (toD (fVar 0)) (aCons (toD (fC (.int 5))) aNil))))
    (sSeq (sSet 6 (fLst aNil))
    (sSeq (sFor (iRange (aCons (toD (fVar 3)) aNil)) (gN 7) (sExpr (fM kAppend (fVar 6) (aCons (toD (fB kTuple (eCons (fComp [8] (iRange (aCons (toD (fVar 4)) aNil)) (gN 8) tTrue (fCall m_law_goal (aCons (toD (fVar 0)) (aCons (toD (fVar 5)) (aCons (toD (fVar 3)) (aCons (toD (fVar 7)) (aCons (toD (fVar 8)) aNil))))))) eNil))) aNil))))
    (sRet (fB kTuple (eCons (fVar 6) eNil))))))))
noncomputable def m_law_machine : FF := fTrim (fDef 9 b_law_machine)

theorem goal_ok {M : Mem} {n k : Nat} {fam rooms room letter : Int} (h : Gen M n k) (hr0 : 0 ≤ room) (hr : room < rooms) (hR : rooms ≤ 1000) :
    Ok (m_law_goal [.ref n, .int fam, .int rooms, .int room, .int letter] M) fun d M' => (∃ i, d = .int i ∧ 0 ≤ i ∧ i < rooms) ∧ Nx M M' n k := by
  unfold m_law_goal
  rw [ok_def]
  unfold b_law_goal
  show OkS (sSeq _ _ [some (.ref n), some (.int fam), some (.int rooms), some (.int room), some (.int letter), none] M) _
  have hm : ∀ x : Int, 0 ≤ x % rooms ∧ x % rooms < rooms := fun x => ⟨Int.emod_nonneg _ (by omega), Int.emod_lt_of_pos _ (by omega)⟩
  rw [oks_seq, oks_if]
  refine ok_tst.mpr (ok_op.mpr (ok_var.mpr ⟨_, rfl, ok_c.mpr (k_eq.mpr (blP_bl.mpr ?_))⟩))
  by_cases f0 : fam = 0
  · rw [if_pos (by simpa using f0), oks_ret]
    refine call_next h rfl rfl (by omega) (by omega) fun i M' i0 i1 nx => ?_
    exact ⟨⟨i, rfl, i0, i1⟩, nx⟩
  rw [if_neg (by simpa using f0), oks_nil, nxP_nx, oks_seq, oks_if]
  refine ok_tst.mpr (ok_op.mpr (ok_var.mpr ⟨_, rfl, ok_c.mpr (k_eq.mpr (blP_bl.mpr ?_))⟩))
  by_cases f1 : fam = 1
  · rw [if_pos (by simpa using f1), oks_ret]
    refine ok_op.mpr (ok_op.mpr (ok_var.mpr ⟨_, rfl, call_next h rfl rfl (by decide) (by decide) fun i M' i0 i1 nx => k_plus.mpr (ok_var.mpr ⟨_, rfl, k_mod.mpr ⟨by omega, ?_⟩⟩)⟩))
    exact ⟨⟨_, rfl, hm _⟩, nx⟩
  rw [if_neg (by simpa using f1), oks_nil, nxP_nx, oks_seq, oks_if]
  refine ok_tst.mpr (ok_op.mpr (ok_var.mpr ⟨_, rfl, ok_c.mpr (k_eq.mpr (blP_bl.mpr ?_))⟩))
  by_cases f2 : fam = 2
  · rw [if_pos (by simpa using f2), oks_seq, oks_set]
    refine ok_op.mpr (ok_var.mpr ⟨_, rfl, ok_c.mpr (k_div.mpr ⟨by decide, ?_⟩)⟩)
    rw [toDp_dat, nxP_nx, oks_seq, oks_if]
    refine ok_tst.mpr (ok_op.mpr (ok_var.mpr ⟨_, rfl, ok_var.mpr ⟨_, rfl, k_lt.mpr (blP_bl.mpr ?_)⟩⟩))
    by_cases hh : room < rooms / 2
    · rw [if_pos (by simpa using hh), oks_ret]
      refine call_next h rfl rfl (by omega) (by omega) fun i M' i0 i1 nx => ?_
      exact ⟨⟨i, rfl, i0, by omega⟩, nx⟩
    · rw [if_neg (by simpa using hh), oks_nil, nxP_nx, oks_ret]
      refine ok_op.mpr (ok_var.mpr ⟨_, rfl, call_next h rfl rfl (m := rooms - rooms / 2) (by omega) (by omega) fun i M' i0 i1 nx => k_plus.mpr ?_⟩)
      exact ⟨⟨_, rfl, by omega, by omega⟩, nx⟩
  rw [if_neg (by simpa using f2), oks_nil, nxP_nx, oks_seq, oks_if]
  refine ok_tst.mpr (ok_op.mpr (ok_var.mpr ⟨_, rfl, ok_c.mpr (k_eq.mpr (blP_bl.mpr ?_))⟩))
  by_cases l0 : letter = 0
  · rw [if_pos (by simpa using l0), oks_ret]
    refine ok_op.mpr (ok_op.mpr (ok_var.mpr ⟨_, rfl, ok_c.mpr (k_plus.mpr (ok_var.mpr ⟨_, rfl, k_mod.mpr ⟨by omega, ?_⟩⟩))⟩))
    exact ⟨⟨_, rfl, hm _⟩, .refl h⟩
  rw [if_neg (by simpa using l0), oks_nil, nxP_nx, oks_seq, oks_if]
  refine ok_tst.mpr (ok_op.mpr (ok_var.mpr ⟨_, rfl, ok_c.mpr (k_eq.mpr (blP_bl.mpr ?_))⟩))
  by_cases f3 : fam = 3
  · rw [if_pos (by simpa using f3), oks_ret]
    refine ok_op.mpr (ok_lst.mpr (ok_aCons.mpr (ok_toD.mpr (ok_var.mpr ⟨_, rfl, toDp_dat.mpr (ok_aCons.mpr (ok_toD.mpr (ok_c.mpr (toDp_dat.mpr (ok_aNil.mpr ⟨size_ok (by simp), ?_⟩)))))⟩))))
    refine ok_B.mpr (ok_eCons.mpr (ok_op.mpr (ok_var.mpr ⟨_, rfl, ok_op.mpr (ok_var.mpr ⟨_, rfl, ok_c.mpr (k_sub.mpr (k_eq.mpr (ok_eNil.mpr (k_intb.mpr ?_))))⟩)⟩)))
    by_cases q : room = rooms - 1
    · rw [if_pos (by simpa using q)]
      exact k_ix seq_fl at1 ⟨⟨_, rfl, by omega, by omega⟩, .refl h⟩
    · rw [if_neg (by simpa using q)]
      exact k_ix seq_fl at0 ⟨⟨_, rfl, by omega, by omega⟩, .refl h⟩
  rw [if_neg (by simpa using f3), oks_nil, nxP_nx, oks_ret]
  refine ok_op.mpr (ok_op.mpr (ok_op.mpr (ok_var.mpr ⟨_, rfl, ok_c.mpr (k_plus.mpr (ok_op.mpr (call_next h rfl rfl (by decide) (by decide) fun i M' i0 i1 nx => ?_)))⟩)))
  refine ok_op.mpr (ok_var.mpr ⟨_, rfl, ok_c.mpr (k_sub.mpr (k_mul.mpr ⟨by simp [cMul] <;> omega, k_plus.mpr (ok_var.mpr ⟨_, rfl, k_mod.mpr ⟨by omega, ?_⟩⟩)⟩))⟩)
  exact ⟨⟨_, rfl, hm _⟩, nx⟩
/-- a machine as data -/
def mD (rows : List (List Int)) : D := .tup (rows.map fun r => .tup (r.map D.int))
structure IsM (rows : List (List Int)) (l : Nat) : Prop where
  r0 : 0 < rows.length
  l0 : 0 < l
  row : ∀ r ∈ rows, r.length = l ∧ ∀ g ∈ r, 0 ≤ g ∧ g < rows.length
theorem mD_und {n : Nat} (rows : List (List Int)) : D.und n (mD rows) = true := by
  unfold mD D.und
  refine unds_all fun x hx => ?_
  obtain ⟨r, _, rfl⟩ := List.mem_map.mp hx
  exact und_ints r
theorem rows_und {n : Nat} (rows : List (List Int)) : D.unds n (rows.map fun r => D.tup (r.map D.int)) = true := by
  refine unds_all fun x hx => ?_
  obtain ⟨r, _, rfl⟩ := List.mem_map.mp hx
  exact und_ints r
theorem machine_ok {M : Mem} {n k : Nat} {most lm : Int} (h : Gen M n k) (hm : 0 < most) (hm1 : most ≤ 999) (hl : 0 < lm) (hl1 : lm ≤ 999) :
    Ok (m_law_machine [.ref n, .int most, .int lm] M) fun d M' => (∃ rows l, d = mD rows ∧ IsM rows l ∧ (rows.length : Int) ≤ most ∧ (l : Int) ≤ lm) ∧ Nx M M' n k := by
  unfold m_law_machine
  refine ok_trim ?_
  rw [ok_def]
  unfold b_law_machine
  show OkS (sSeq _ _ [some (.ref n), some (.int most), some (.int lm), none, none, none, none, none, none] M) _
  rw [oks_seq, oks_set]
  refine ok_op.mpr (ok_c.mpr (call_next h rfl rfl (by omega) (by omega) fun R M1 R0 R1 nx1 => k_plus.mpr ?_))
  rw [toDp_dat, nxP_nx, oks_seq, oks_set]
  refine ok_op.mpr (ok_c.mpr (call_next nx1.gen rfl rfl (by omega) (by omega) fun L M2 L0 L1 nx2 => k_plus.mpr ?_))
  rw [toDp_dat, nxP_nx, oks_seq, oks_set]
  refine call_next nx2.gen rfl rfl (by decide) (by decide) fun F M3 F0 F1 nx3 => ?_
  rw [toDp_dat, nxP_nx, oks_seq, oks_set]
  refine ok_lst.mpr (ok_aNil.mpr ⟨size_ok (by simp), ?_⟩)
  rw [toDp_fl, nxP_nx, oks_seq, oks_for]
  have nx := (nx1.trans nx2).trans nx3
  refine ⟨_, _, _, range_of rfl (by omega) (by omega), ?_⟩
  have hlen : M3.length = M.length := nx.len
  generalize eR : 1 + R = Rm
  generalize eL : 1 + L = Lm
  refine oks_up (n := Rm.toNat) (I := fun i σ M' => ∃ x y, σ = [some (.ref n), some (.int most), some (.int lm), some (.int Rm), some (.int Lm), some (.int F), some (.ref M.length), x, y] ∧ ∃ (A : Mem) (rows : List (List Int)), M' = A ++ [.lst (rows.map fun r => D.tup (r.map D.int))] ∧ Nx M A n k ∧ rows.length = i ∧ ∀ r ∈ rows, r.length = Lm.toNat ∧ ∀ g ∈ r, 0 ≤ g ∧ g < Rm)
    ?_ ?_ _ _ ⟨none, none, by simp [hlen], M3, [], rfl, nx, rfl, fun _ h => by cases h⟩
  · rintro i σ M' hi ⟨x, y, rfl, A, rows, rfl, nxA, hrl, hrow⟩
    refine ⟨_, rfl, ?_⟩
    rw [oks_expr]
    have eA : (A ++ [MO.lst (rows.map fun r => D.tup (r.map D.int))])[M.length]? = some (.lst (rows.map fun r => D.tup (r.map D.int))) := by
      rw [← nxA.len]; simp
    refine ok_M.mpr (ok_var.mpr ⟨_, rfl, ⟨_, lst_ref eA⟩, ok_aCons.mpr (ok_toD.mpr (ok_B.mpr (ok_eCons.mpr (ok_comp.mpr ⟨_, _, _, range_of rfl (by omega) (by omega), by rw [upFrom_length]; exact size_ok (by omega), ?_⟩))))⟩)
    refine Ok.mono (ok_upL (n := Lm.toNat) (I := fun j acc M2 => ∃ (A2 : Mem) (c : List Int), M2 = A2 ++ [.lst (rows.map fun r => D.tup (r.map D.int))] ∧ Nx M A2 n k ∧ acc = c.map D.int ∧ c.length = j ∧ ∀ g ∈ c, 0 ≤ g ∧ g < Rm) ?_ ⟨A, [], rfl, nxA, rfl, rfl, fun _ h => by cases h⟩) ?_
    · rintro j acc M2 hj ⟨A2, c, rfl, nxA2, rfl, hcl, hc⟩
      refine ⟨_, rfl, ?_⟩
      have gA : Gen (A2 ++ [MO.lst (rows.map fun r => D.tup (r.map D.int))]) n k := nxA2.gen.app (by
        intro u hu
        have : u = .lst (rows.map fun r => D.tup (r.map D.int)) := by simpa using hu
        subst this
        exact rows_und rows)
      refine ok_call.mpr (ok_aCons.mpr (ok_toD.mpr (ok_var.mpr ⟨_, rfl, toDp_dat.mpr (ok_aCons.mpr (ok_toD.mpr (ok_var.mpr ⟨_, rfl, toDp_dat.mpr (ok_aCons.mpr (ok_toD.mpr (ok_var.mpr ⟨_, rfl, toDp_dat.mpr (ok_aCons.mpr (ok_toD.mpr (ok_var.mpr ⟨_, rfl, toDp_dat.mpr (ok_aCons.mpr (ok_toD.mpr (ok_var.mpr ⟨_, rfl, toDp_dat.mpr (ok_aNil.mpr ?_)⟩)))⟩)))⟩)))⟩)))⟩)))
      refine Ok.mono (goal_ok gA (by omega) (by omega) (by omega)) ?_
      rintro d M4 ⟨⟨g, rfl, g0, g1⟩, nx4⟩
      obtain ⟨A3, rfl, nx5⟩ := nx4.split nxA2.gen
      rw [toDp_dat]
      refine ⟨A3, c ++ [g], rfl, nxA2.trans nx5, by simp, by simp [hcl], fun z hz => ?_⟩
      rcases List.mem_append.mp hz with q | q
      · exact hc z q
      · have : z = g := by simpa using q
        subst this; exact ⟨g0, g1⟩
    · rintro ys M2 ⟨A2, c, rfl, nxA2, rfl, hcl, hc⟩
      refine ok_eNil.mpr ((k_tuple seq_fl).mpr (toDp_dat.mpr (ok_aNil.mpr ?_)))
      have eA2 : (A2 ++ [MO.lst (rows.map fun r => D.tup (r.map D.int))])[M.length]? = some (.lst (rows.map fun r => D.tup (r.map D.int))) := by
        rw [← nxA2.len]; simp
      rw [k_append eA2 (by rw [List.length_map, hrl]; exact Nat.lt_of_lt_of_le (by omega) (size_ok (n := 100000) (by omega)))]
      refine ⟨_, _, rfl, A2, rows ++ [c], ?_, nxA2, by simp [hrl], fun r hr => ?_⟩
      · rw [← nxA2.len, List.set_append_right _ _ (by omega)]
        simp
      · rcases List.mem_append.mp hr with q | q
        · exact hrow r q
        · have : r = c := by simpa using q
          subst this; exact ⟨hcl, hc⟩
  · rintro σ M' ⟨x, y, rfl, A, rows, rfl, nxA, hrl, hrow⟩
    rw [nxP_nx, oks_ret]
    have eA : (A ++ [MO.lst (rows.map fun r => D.tup (r.map D.int))])[M.length]? = some (.lst (rows.map fun r => D.tup (r.map D.int))) := by
      rw [← nxA.len]; simp
    refine ok_B.mpr (ok_eCons.mpr (ok_var.mpr ⟨_, rfl, ok_eNil.mpr ((k_tuple (seq_ref eA)).mpr ?_)⟩))
    rw [toDp_dat]
    have tk : (A ++ [MO.lst (rows.map fun r => D.tup (r.map D.int))]).take M.length = A := by rw [← nxA.len]; simp
    refine ⟨⟨mD_und rows, by rw [List.length_append, nxA.len]; omega, fun j u hj e => ?_⟩, ⟨rows, Lm.toNat, rfl, ⟨by omega, by omega, fun r hr => ?_⟩, by omega, by omega⟩, by rw [tk]; exact nxA⟩
    · rw [List.getElem?_append_left (by rw [nxA.len]; exact hj)] at e
      have := nxA.gen.wf j u e
      rw [nxA.len] at this
      exact this
    · obtain ⟨q1, q2⟩ := hrow r hr
      exact ⟨q1, fun g hg => ⟨(q2 g hg).1, by have := (q2 g hg).2; omega⟩⟩
end Law

set_option Elab.async false
set_option linter.all false
set_option maxRecDepth 100000
namespace Law
open PySem PySem.Spec PyProof.Rows L2 L3
theorem eq_of_ok {α : Type} {x : Option (α × Mem)} {a : α} {M : Mem} (h : Ok x fun b M' => b = a ∧ M' = M) : x = some (a, M) := by
  obtain ⟨b, M', e, rfl, rfl⟩ := h; exact e
theorem ok_of_eq {α : Type} {x : Option (α × Mem)} {a : α} {M : Mem} {P : α → Mem → Prop} (h : x = some (a, M)) (p : P a M) : Ok x P := ⟨a, M, h, p⟩
theorem skip_if1 {c : FT} {a : FS} {σ : Sd} {M : Mem} {P : Out → Sd → Mem → Prop} (hc : c σ M = some (false, M)) (h : P .nx σ M) : OkS (sIf c a sNil σ M) P := by
  rw [oks_if]
  refine ok_of_eq hc ?_
  rw [if_neg (by decide), oks_nil]
  exact h
theorem tup1_eq {f : FE} {σ : Sd} {M : Mem} {d : D} (h : f σ M = some (.dat d, M)) : fTup (aCons (toD f) aNil) σ M = some (.dat (.tup [d]), M) := by
  unfold fTup aCons toD aNil; rw [h]; dsimp only; rw [if_pos (size_ok (by simp))]
theorem a1_eq {f : FE} {σ : Sd} {M : Mem} {d : D} (h : f σ M = some (.dat d, M)) : aCons (toD f) aNil σ M = some ([d], M) := by
  unfold aCons toD aNil; rw [h]
theorem aC_eq {f : FE} {g : FA} {σ : Sd} {M : Mem} {d : D} {ds : List D} (h : f σ M = some (.dat d, M)) (hg : g σ M = some (ds, M)) : aCons (toD f) g σ M = some (d :: ds, M) := by
  unfold aCons toD; rw [h]; dsimp only; rw [hg]
theorem call_eq {m : FF} {a : FA} {σ : Sd} {M M' : Mem} {ds : List D} {d : D} (h : a σ M = some (ds, M)) (hm : m ds M = some (d, M')) : fCall m a σ M = some (.dat d, M') := by
  unfold fCall; rw [h]; dsimp only; rw [hm]
theorem op_eq' {k : K2} {f g : FE} {σ : Sd} {M : Mem} {x y : EV} {r : Option (EV × Mem)} (hf : f σ M = some (x, M)) (hg : g σ M = some (y, M)) (hk : k x y M = r) : fOp k f g σ M = r := by
  unfold fOp; rw [hf]; dsimp only; rw [hg]; exact hk
theorem ix_eq {x : EV} {xs : List D} {i : Int} {d : D} {M : Mem} (h : seqOf M x = some xs) (hd : atI xs i = some d) : kIx x (.dat (.int i)) M = some (.dat d, M) := eq_of_ok (k_ix h hd ⟨rfl, rfl⟩)
theorem len_eq {f : FE} {x : EV} {xs : List D} {σ : Sd} {M : Mem} (hf : f σ M = some (x, M)) (h : seqOf M x = some xs) : fB kLen (eCons f eNil) σ M = some (.dat (.int xs.length), M) := by
  unfold fB eCons eNil; rw [hf]; exact eq_of_ok ((k_len h).mpr ⟨rfl, rfl⟩)
def stepR (rows : List (List Int)) (h g : Int) : Int := (rows.getD h.toNat []).getD g.toNat 0
def ledR (rows : List (List Int)) (room : Int) (word : List Int) : Int := word.foldl (stepR rows) room
theorem row_at {rows : List (List Int)} {h : Int} (h0 : 0 ≤ h) (h1 : h < rows.length) : atI (rows.map fun r => D.tup (r.map D.int)) h = some (.tup ((rows.getD h.toNat []).map D.int)) := by
  refine at_int h0 ?_
  rw [List.getElem?_map, List.getD_eq_getElem?_getD, List.getElem?_eq_getElem (by omega)]
  rfl
theorem int_at {r : List Int} {g : Int} (h0 : 0 ≤ g) (h1 : g < r.length) : atI (r.map D.int) g = some (.int (r.getD g.toNat 0)) := by
  refine at_int h0 ?_
  rw [List.getElem?_map, List.getD_eq_getElem?_getD, List.getElem?_eq_getElem (by omega)]
  rfl
theorem IsM.get {rows : List (List Int)} {l : Nat} (m : IsM rows l) {h : Int} (h0 : 0 ≤ h) (h1 : h < rows.length) : (rows.getD h.toNat []).length = l ∧ ∀ g ∈ rows.getD h.toNat [], 0 ≤ g ∧ g < rows.length := by
  refine m.row _ ?_
  rw [List.getD_eq_getElem?_getD, List.getElem?_eq_getElem (by omega)]
  exact List.getElem_mem _
theorem IsM.step {rows : List (List Int)} {l : Nat} (m : IsM rows l) {h g : Int} (h0 : 0 ≤ h) (h1 : h < rows.length) (g0 : 0 ≤ g) (g1 : g < l) : 0 ≤ stepR rows h g ∧ stepR rows h g < rows.length := by
  obtain ⟨q1, q2⟩ := m.get h0 h1
  refine q2 _ ?_
  unfold stepR
  rw [List.getD_eq_getElem?_getD (l := rows.getD h.toNat []), List.getElem?_eq_getElem (by omega)]
  exact List.getElem_mem _
theorem IsM.led {rows : List (List Int)} {l : Nat} (m : IsM rows l) : ∀ (word : List Int) {h : Int}, 0 ≤ h → h < rows.length → (∀ g ∈ word, 0 ≤ g ∧ g < l) → 0 ≤ ledR rows h word ∧ ledR rows h word < rows.length
  | [], h, h0, h1, _ => ⟨h0, h1⟩
  | g :: r, h, h0, h1, hw => by
    obtain ⟨g0, g1⟩ := hw g List.mem_cons_self
    obtain ⟨s0, s1⟩ := m.step h0 h1 g0 g1
    exact IsM.led m r s0 s1 fun x hx => hw x (List.mem_cons_of_mem _ hx)
end Law

set_option Elab.async false
set_option linter.all false
set_option maxRecDepth 100000
namespace Law
open PySem PySem.Spec PyProof.Rows L2 L3
theorem isI_eq {f : FE} {x : EV} {σ : Sd} {M : Mem} {T t : String} (hf : f σ M = some (x, M)) (ht : tyOf M x = some t) : fIsI T f σ M = some (.dat (.bl (isT t T)), M) := by
  unfold fIsI; rw [hf]; dsimp only; rw [ht]
theorem tst_eq {f : FE} {σ : Sd} {M M' : Mem} {k : Bool} (h : f σ M = some (.dat (.bl k), M')) : tst f σ M = some (k, M') := by unfold tst; rw [h]
theorem isV {f : FE} {x : EV} {σ : Sd} {M : Mem} {T t : String} {k : Bool} (hf : f σ M = some (x, M)) (ht : tyOf M x = some t) (h : isT t T = k) : fIsI T f σ M = some (.dat (.bl k), M) := by
  rw [isI_eq hf ht, h]
theorem ret_eq {f : FE} {σ : Sd} {M : Mem} {d : D} {P : Out → Sd → Mem → Prop} (hf : f σ M = some (.dat d, M)) (h : P (.ret d) σ M) : OkS (sRet f σ M) P := by
  rw [oks_ret]; exact ok_of_eq hf h
/-- plain things, nested so deep -/
def Pl : Nat → D → Prop
  | 0, d => (scalV d).isSome = true
  | n + 1, d => (scalV d).isSome = true ∨ ∃ ds, d = .tup ds ∧ ds.length ≤ sizeLine ∧ ∀ x ∈ ds, Pl n x
theorem Pl.int (n : Nat) (i : Int) : Pl n (.int i) := by cases n; exact rfl; exact .inl rfl
theorem Pl.tup {n : Nat} {ds : List D} (hz : ds.length ≤ 100000) (h : ∀ x ∈ ds, Pl n x) : Pl (n + 1) (.tup ds) := .inr ⟨ds, rfl, size_ok hz, h⟩
theorem Pl.ints {c : List Int} (hz : c.length ≤ 100000) : Pl 1 (.tup (c.map D.int)) := Pl.tup (by simpa using hz) fun x hx => by obtain ⟨i, _, rfl⟩ := List.mem_map.mp hx; exact Pl.int 0 i
theorem Pl.rows {rows : List (List Int)} (hz : rows.length ≤ 100000) (hr : ∀ r ∈ rows, r.length ≤ 100000) : Pl 2 (mD rows) := Pl.tup (by simpa using hz) fun x hx => by obtain ⟨i, hi, rfl⟩ := List.mem_map.mp hx; exact Pl.ints (hr i hi)
end Law

set_option Elab.async false
set_option linter.all false
set_option maxRecDepth 100000
namespace Law
open PySem PySem.Spec PyProof.Rows L2 L3
/-- a comprehension whose element changes nothing -/
theorem comp_map {α : Type} {own : List Nat} {fi : FI} {g : FG} {te : FE} {σ : Sd} {M : Mem} {gd : Option (Mem → Prop)} (as : List α) (enc out : α → D) (hi : fi σ M = some (as.map enc, gd, M)) (hgd : grdOk gd (as.map enc) M) (hz : as.length ≤ 100000)
    (he : ∀ a ∈ as, ∃ σ1, g (enc a) (clrD own σ) = some σ1 ∧ te σ1 M = some (.dat (out a), M)) : fComp own fi g tTrue te σ M = some (.fl (as.map out), M) := by
  refine eq_of_ok (ok_comp.mpr ⟨_, _, _, hi, by rw [List.length_map]; exact size_ok hz, ?_⟩)
  refine Ok.mono (ok_compL (I := fun r acc M' => M' = M ∧ ∃ ra rb : List α, as = rb ++ ra ∧ r = ra.map enc ∧ acc = rb.map out) (Q := fun acc M' => M' = M ∧ acc = as.map out) ?_ ?_ _ [] _ ⟨rfl, as, [], rfl, rfl, rfl⟩) ?_
  · rintro x r acc M' ⟨rfl, ra, rb, hab, hr, rfl⟩
    cases ra with
    | nil => cases hr
    | cons a ra =>
      rw [List.map_cons] at hr
      obtain ⟨rfl, rfl⟩ := List.cons.inj hr
      obtain ⟨σ1, e1, e2⟩ := he a (by rw [hab]; simp)
      refine ⟨hgd, σ1, e1, ok_tTrue.mpr ?_⟩
      rw [if_pos rfl]
      refine ok_of_eq e2 ?_
      rw [toDp_dat]
      exact ⟨rfl, ra, rb ++ [a], by rw [hab]; simp, rfl, by simp⟩
  · rintro acc M' ⟨rfl, ra, rb, hab, hr, rfl⟩
    cases ra with
    | nil => rw [List.append_nil] at hab; subst hab; exact ⟨hgd, rfl, rfl⟩
    | cons a ra => cases hr
  · rintro ys M' ⟨rfl, h⟩
    rw [List.nil_append] at h
    subst h
    exact ⟨rfl, rfl⟩
theorem tuple_eq {f : FE} {x : EV} {xs : List D} {σ : Sd} {M : Mem} (hf : f σ M = some (x, M)) (h : seqOf M x = some xs) : fB kTuple (eCons f eNil) σ M = some (.dat (.tup xs), M) := by
  unfold fB eCons eNil; rw [hf]; exact eq_of_ok ((k_tuple h).mpr ⟨rfl, rfl⟩)
theorem seqI_eq {f : FE} {xs : List D} {σ : Sd} {M : Mem} (hf : f σ M = some (.dat (.tup xs), M)) : iSeq f σ M = some (xs, none, M) := iSeq_of hf seq_tup
theorem upFrom_map (n : Nat) : upFrom 0 n = (List.range n).map fun (k : Nat) => D.int k := (range_up n).symm
theorem rangeI_eq {f : FE} {σ : Sd} {M : Mem} {j : Int} (e : f σ M = some (.dat (.int j), M)) (h1 : 0 ≤ j) (h2 : j < 2 ^ 62) : iRange (aCons (toD f) aNil) σ M = some ((List.range j.toNat).map (fun (k : Nat) => D.int k), none, M) := by
  rw [range_of e h1 h2, upFrom_map]
theorem set_eq {i : Nat} {f : FE} {g : FS} {σ : Sd} {M : Mem} {d : D} {P : Out → Sd → Mem → Prop} (hf : f σ M = some (.dat d, M)) (h : OkS (g (σ.set i (some d)) M) P) : OkS (sSeq (sSet i f) g σ M) P := by
  rw [oks_seq, oks_set]; exact ok_of_eq hf h
end Law

set_option Elab.async false
set_option linter.all false
set_option maxRecDepth 100000
namespace Law
open PySem PySem.Spec PyProof.Rows L2 L3 ST
structure IsS (rows : List (List Int)) (S : List Int) : Prop where
  pw : S.Pairwise (· < ·)
  n0 : 0 < S.length
  mem : ∀ x ∈ S, 0 ≤ x ∧ x < (rows.length : Int)
theorem pw_len : ∀ {S : List Int} {a : Int} {n : Nat}, S.Pairwise (· < ·) → (∀ x ∈ S, a ≤ x ∧ x < a + (n : Int)) → S.length ≤ n
  | [], _, _, _, _ => Nat.zero_le _
  | x :: S, a, n, h, hm => by
    have hx := List.pairwise_cons.mp h
    obtain ⟨m0, m1⟩ := hm x List.mem_cons_self
    have hn : 0 < n := by omega
    have := pw_len (S := S) (a := x + 1) (n := (a + n - (x + 1)).toNat) hx.2 fun y hy => by
      have := hx.1 y hy
      have := (hm y (List.mem_cons_of_mem _ hy)).2
      omega
    simp only [List.length_cons]; omega
theorem IsS.len {rows : List (List Int)} {S : List Int} (h : IsS rows S) : S.length ≤ rows.length := pw_len h.pw (a := 0) fun x hx => by have := h.mem x hx; omega
def tI (xs : List Int) : D := .tup (xs.map D.int)
theorem atI_last {α : Type} (xs : List α) (x : α) : atI (xs ++ [x]) (-1) = some x := by
  unfold atI ixN
  rw [if_neg (by decide), if_pos (by simp; omega)]
  have : ((-1 : Int) + ((xs ++ [x]).length : Int)).toNat = xs.length := by simp; omega
  simp only [Option.bind_some]
  rw [this]; simp
end Law

set_option Elab.async false
set_option linter.all false
set_option maxRecDepth 100000
namespace Law
open PySem PySem.Spec PyProof.Rows L2 L3 ST
end Law

set_option Elab.async false
set_option linter.all false
set_option maxRecDepth 100000
namespace Law
open PySem PySem.Spec PyProof.Rows L2 L3 ST
end Law

set_option Elab.async false
set_option linter.all false
set_option maxRecDepth 100000
namespace Law
open PySem PySem.Spec PyProof.Rows L2 L3 ST
structure IsO (R : Nat) (o : List Int) : Prop where
  nd : o.Nodup
  len : o.length = R
  mem : ∀ x ∈ o, 0 ≤ x ∧ x < (R : Int)
theorem nodup_len {a b : List Int} (h : a.Nodup) (hs : ∀ x ∈ a, x ∈ b) : a.length ≤ b.length := List.Nodup.length_le_of_subset h hs
theorem IsO.has {R : Nat} {o : List Int} (h : IsO R o) {x : Int} (h0 : 0 ≤ x) (h1 : x < R) : x ∈ o := by
  by_cases q : x ∈ o
  · exact q
  · have := nodup_len (a := x :: o) (b := (List.range R).map fun (k : Nat) => (k : Int)) (List.nodup_cons.mpr ⟨q, h.nd⟩) fun y hy => by
      have hy' : 0 ≤ y ∧ y < (R : Int) := by
        rcases List.mem_cons.mp hy with z | z
        · rw [z]; exact ⟨h0, h1⟩
        · exact h.mem y z
      exact List.mem_map.mpr ⟨y.toNat, List.mem_range.mpr (by omega), by omega⟩
    simp [h.len] at this
    omega
theorem k_popN {M : Mem} {n : Nat} {xs : List D} {k : Nat} {d : D} {Q : D → Mem → Prop} (h : M[n]? = some (.lst xs)) (hk : xs[k]? = some d) (hz : k < 90000) (q : Q d (M.set n (.lst (xs.eraseIdx k)))) : Ok (kPop (.dat (.ref n)) [.int (k : Int)] M) Q := by
  refine ⟨d, M.set n (.lst (xs.eraseIdx k)), ?_, q⟩
  have hl : k < xs.length := (List.getElem?_eq_some_iff.mp hk).1
  unfold kPop
  dsimp only
  rw [h]
  dsimp only
  have e : ixN xs.length (k : Int) = some k := by unfold ixN; rw [if_pos (by omega), if_pos (by omega)]; simp
  rw [e]
  dsimp only
  rw [hk]
  dsimp only
  rw [if_pos ⟨by omega, by omega⟩]
theorem rows_len {rows : List (List Int)} {σ : Sd} {M : Mem} {f : FE} (e : f σ M = some (.dat (mD rows), M)) : fB kLen (eCons f eNil) σ M = some (.dat (.int rows.length), M) := by
  have := len_eq e seq_tup
  rw [List.length_map] at this; exact this
end Law

set_option Elab.async false
set_option linter.all false
set_option maxRecDepth 100000
namespace Law
open PySem PySem.Spec PyProof.Rows L2 L3
mutual
/-- every mutable thing in it is there, tuples are not too long -/
def Vd (M : Mem) : D → Prop
  | .ref n => ∃ t, tyOf M (.dat (.ref n)) = some t ∧ (t = "list" ∨ t = "dict")
  | .tup ds => ds.length ≤ 100000 ∧ Vds M ds
  | _ => True
def Vds (M : Mem) : List D → Prop
  | [] => True
  | d :: ds => Vd M d ∧ Vds M ds
end
theorem Vds.mem {M : Mem} : ∀ {ds : List D}, Vds M ds → ∀ d ∈ ds, Vd M d
  | [], _, d, h => by cases h
  | x :: ds, hv, d, h => by
    unfold Vds at hv
    rcases List.mem_cons.mp h with q | q
    · subst q; exact hv.1
    · exact Vds.mem hv.2 d q
theorem Vds.of {M : Mem} : ∀ {ds : List D}, (∀ d ∈ ds, Vd M d) → Vds M ds
  | [], _ => trivial
  | x :: ds, h => ⟨h x List.mem_cons_self, Vds.of fun d hd => h d (List.mem_cons_of_mem _ hd)⟩
def wholeD : D → Bool
  | .int _ => true
  | _ => false
def isTupD : D → Bool
  | .tup _ => true
  | _ => false
theorem Vd.ty {M : Mem} {d : D} (h : Vd M d) : ∃ t, tyOf M (.dat d) = some t ∧ isT t "tuple" = isTupD d ∧ (isT t "int" && !isT t "bool") = wholeD d := by
  cases d with
  | non => exact ⟨_, rfl, (show isT "NoneType" "tuple" = false by decide), (show (isT "NoneType" "int" && !isT "NoneType" "bool") = false by decide)⟩
  | bl k => exact ⟨_, rfl, (show isT "bool" "tuple" = false by decide), (show (isT "bool" "int" && !isT "bool" "bool") = false by decide)⟩
  | int i => exact ⟨_, rfl, (show isT "int" "tuple" = false by decide), (show (isT "int" "int" && !isT "int" "bool") = true by decide)⟩
  | str x => exact ⟨_, rfl, (show isT "str" "tuple" = false by decide), (show (isT "str" "int" && !isT "str" "bool") = false by decide)⟩
  | tup ds => exact ⟨_, rfl, (show isT "tuple" "tuple" = true by decide), (show (isT "tuple" "int" && !isT "tuple" "bool") = false by decide)⟩
  | ref n =>
    unfold Vd at h
    obtain ⟨t, e, h⟩ := h
    rcases h with rfl | rfl
    · exact ⟨_, e, (show isT "list" "tuple" = false by decide), (show (isT "list" "int" && !isT "list" "bool") = false by decide)⟩
    · exact ⟨_, e, (show isT "dict" "tuple" = false by decide), (show (isT "dict" "int" && !isT "dict" "bool") = false by decide)⟩
theorem all_eq {f : FE} {σ : Sd} {M : Mem} {bs : List Bool} (h : f σ M = some (.fl (bs.map D.bl), M)) : fB kAll (eCons f eNil) σ M = some (.dat (.bl (bs.all id)), M) := by
  unfold fB eCons eNil; rw [h]; exact eq_of_ok ((k_tru lst_fl (blsOf_map bs)).mpr ⟨rfl, rfl⟩)
theorem all_map_id {α : Type} (xs : List α) (p : α → Bool) : (xs.map p).all id = xs.all p := by rw [List.all_map]; rfl
end Law

set_option Elab.async false
set_option linter.all false
set_option maxRecDepth 100000
namespace Law
open PySem PySem.Spec PyProof.Rows L2 L3 ST
theorem oS {f : FE} {σ : Sd} {M : Mem} {i : Int} (h : f σ M = some (.dat (.int i), M)) : oSome f σ M = some (some i, M) := by unfold oSome; rw [h]
theorem cut_dropD {xs : List D} {p : Int} (h0 : 0 < p) (hx : 0 < xs.length) : L3.cutD xs (some p) none = xs.drop p.toNat := by
  have e : p = ((p.toNat : Nat) : Int) := by omega
  have s : HT.sIx xs.length 0 (some p) = min p.toNat xs.length := by
    have q := HT.sIx_nat xs.length 0 p.toNat
    rw [← e] at q; exact q
  have z : HT.sIx xs.length xs.length none = xs.length := rfl
  unfold L3.cutD
  rw [s, z]
  rcases Nat.le_total p.toNat xs.length with q | q
  · rw [Nat.min_eq_left q, List.take_of_length_le (by simp)]
  · rw [Nat.min_eq_right q, List.drop_of_length_le (Nat.le_refl _), List.drop_of_length_le q]; simp
end Law

set_option Elab.async false
set_option linter.all false
set_option maxRecDepth 100000
namespace Lad
open PySem PySem.Spec PyProof.Rows L2 L3 ST Law
noncomputable def b_law_begin : FS := (sSeq (sSet 1 (fC (.int 7)))
    (sSeq (sFor (iSeq (fSl (fVar 0) oNone (oSome (fC (.int 63))))) (gN 2) (sSet 1 (fOp kMod (fOp kPlus (fOp kPlus (fOp kMul (fVar 1) (fC (.int 6364136223846793005))) (fVar 2)) (fC (.int 1442695040888963407))) (fC (.int 2305843009213693951)))))
    (sRet (fDict2 "great" (fComp [2] (iSeq (fSl (fVar 0) oNone (oSome (fC (.int 63))))) (gN 2) (tst (fOp kGe (fVar 2) (fOp kPow (fC (.int 10)) (fC (.int 18))))) (fVar 2)) "seed" (fVar 1)))))
noncomputable def m_law_begin : FF := fDef 3 b_law_begin

noncomputable def b_law_next : FS := (sSeq (sIf (tst (fOp kNe (fOp kDGet (fVar 0) (fC (.str "great"))) (fLst aNil))) (sSeq (sSet 2 (fOp kMod (fOp kIx (fOp kDGet (fVar 0) (fC (.str "great"))) (fC (.int 0))) (fVar 1)))
    (sSeq (sSub (fOp kDiv (fOp kIx (fOp kDGet (fVar 0) (fC (.str "great"))) (fC (.int 0))) (fVar 1)) (fOp kDGet (fVar 0) (fC (.str "great"))) (fC (.int 0)))
    (sSeq (sIf (tst (fOp kEq (fOp kIx (fOp kDGet (fVar 0) (fC (.str "great"))) (fC (.int 0))) (fC (.int 0)))) (sExpr (fM kPop (fOp kDGet (fVar 0) (fC (.str "great"))) (aCons (toD (fC (.int 0))) aNil))) sNil)
    (sRet (fVar 2))))) sNil)
    (sSeq (sDSet (fOp kMod (fOp kPlus (fOp kMul (fOp kDGet (fVar 0) (fC (.str "seed"))) (fC (.int 3935559000370003845))) (fC (.int 2691343689449507681))) (fC (.int 2305843009213693951))) (fVar 0) (fC (.str "seed")))
    (sSeq (sSet 3 (fOp kDiv (fOp kDGet (fVar 0) (fC (.str "seed"))) (fC (.int 65537))))
    (sRet (fOp kMod (fOp kDiv (fOp kMod (fOp kMul (fVar 3) (fVar 3)) (fC (.int 998244353))) (fC (.int 3))) (fVar 1))))))
noncomputable def m_law_next : FF := fDef 4 b_law_next

abbrev gS (k : Nat) (s : Int) : MO := .dict [(.str "great", .ref k), (.str "seed", .int s)]
structure Gen (M : Mem) (n k : Nat) : Prop where
  ex : ∃ (c : List Int) (s : Int), M[n]? = some (gS k s) ∧ M[k]? = some (.lst (c.map D.int)) ∧ (∀ x ∈ c, 0 ≤ x) ∧ c.length ≤ 63 ∧ 0 ≤ s ∧ s < 2305843009213693951
  ne : n ≠ k
  wf : ∀ (j : Nat) u, M[j]? = some u → MO.und M.length u = true
/-- what lay there, but the state, is as it was; more may lie behind -/
structure Nw (M M' : Mem) (n k : Nat) : Prop where
  gen : Gen M' n k
  len : M.length ≤ M'.length
  fr : ∀ j, j < M.length → j ≠ n → j ≠ k → M'[j]? = M[j]?
theorem Nw.refl {M : Mem} {n k : Nat} (h : Gen M n k) : Nw M M n k := ⟨h, Nat.le_refl _, fun _ _ _ _ => rfl⟩
theorem Nw.trans {M M1 M2 : Mem} {n k : Nat} (a : Nw M M1 n k) (b : Nw M1 M2 n k) : Nw M M2 n k :=
  ⟨b.gen, Nat.le_trans a.len b.len, fun j h h1 h2 => (b.fr j (Nat.lt_of_lt_of_le h a.len) h1 h2).trans (a.fr j h h1 h2)⟩
theorem Gen.lt {M : Mem} {n k : Nat} (h : Gen M n k) : n < M.length ∧ k < M.length := by
  obtain ⟨c, s, e1, e2, _⟩ := h.ex
  exact ⟨(List.getElem?_eq_some_iff.mp e1).1, (List.getElem?_eq_some_iff.mp e2).1⟩
theorem gS_und {k N : Nat} {s : Int} (hk : k < N) : MO.und N (gS k s) = true := by
  unfold MO.und
  simp [D.und, hk]
/-- the state is stored anew -/
theorem Gen.put {M : Mem} {n k : Nat} (h : Gen M n k) {c : List Int} {s : Int} (hc : ∀ x ∈ c, 0 ≤ x) (hl : c.length ≤ 63) (h0 : 0 ≤ s) (h1 : s < 2305843009213693951) :
    Nw M ((M.set k (.lst (c.map D.int))).set n (gS k s)) n k := by
  obtain ⟨hn, hk⟩ := h.lt
  refine ⟨⟨⟨c, s, ?_, ?_, hc, hl, h0, h1⟩, h.ne, fun j u e => ?_⟩, by simp, fun j _ h1 h2 => ?_⟩
  · rw [List.getElem?_set_self (by simpa using hn)]
  · rw [List.getElem?_set_ne h.ne, List.getElem?_set_self hk]
  · rw [List.length_set, List.length_set]
    rw [List.getElem?_set] at e
    split at e
    · split at e
      · cases e
        exact gS_und hk
      · cases e
    · rw [List.getElem?_set] at e
      split at e
      · rename_i z
        subst z
        cases e; exact unds_ints _ _
      · exact h.wf j u e
  · rw [List.getElem?_set_ne (Ne.symm h1), List.getElem?_set_ne (Ne.symm h2)]
theorem Gen.app {A us : Mem} {n k : Nat} (h : Gen A n k) (hu : ∀ u ∈ us, MO.und (A.length + us.length) u = true) : Nw A (A ++ us) n k := by
  obtain ⟨c, s, e1, e2, r⟩ := h.ex
  obtain ⟨hn, hk⟩ := h.lt
  refine ⟨⟨⟨c, s, by rw [List.getElem?_append_left hn]; exact e1, by rw [List.getElem?_append_left hk]; exact e2, r⟩, h.ne, fun j u e => ?_⟩, by simp, fun j hj _ _ => List.getElem?_append_left hj⟩
  rw [List.length_append]
  by_cases hj : j < A.length
  · rw [List.getElem?_append_left hj] at e
    exact mund_mono (by omega) (h.wf j u e)
  · rw [List.getElem?_append_right (by omega)] at e
    exact hu u (List.mem_of_getElem? e)
theorem Gen.lst {A : Mem} {n k : Nat} (h : Gen A n k) (xs : List D) (hx : D.unds A.length xs = true) : Nw A (A ++ [.lst xs]) n k := h.app fun u hu => by
  have : u = .lst xs := by simpa using hu
  subst this; exact unds_mono (by simp) hx
/-- a thing that lies behind is stored anew -/
theorem Nw.setB {M A : Mem} {n k j : Nat} {u : MO} (h : Nw M A n k) (g : Gen M n k) (hj : M.length ≤ j) (hu : MO.und A.length u = true) : Nw M (A.set j u) n k := by
  obtain ⟨hn, hk⟩ := g.lt
  obtain ⟨c, s, e1, e2, r⟩ := h.gen.ex
  refine ⟨⟨⟨c, s, by rw [List.getElem?_set_ne (by omega)]; exact e1, by rw [List.getElem?_set_ne (by omega)]; exact e2, r⟩, g.ne, fun i v e => ?_⟩, by rw [List.length_set]; exact h.len, fun i hi h1 h2 => by rw [List.getElem?_set_ne (by omega)]; exact h.fr i hi h1 h2⟩
  rw [List.length_set]
  rw [List.getElem?_set] at e
  split at e
  · split at e
    · cases e; exact hu
    · cases e
  · exact h.gen.wf i v e
theorem Nw.wf0 {M M' : Mem} {n k : Nat} (h : Nw M M' n k) (g : Gen M n k) : ∀ (j : Nat) u, j < M.length → M'[j]? = some u → MO.und M.length u = true := fun j u hj e => by
  obtain ⟨hn, hk⟩ := g.lt
  obtain ⟨c, s, e1, e2, r⟩ := h.gen.ex
  by_cases q1 : j = n
  · subst q1; rw [e1] at e; cases e; exact gS_und hk
  · by_cases q2 : j = k
    · subst q2; rw [e2] at e; cases e; exact unds_ints _ _
    · rw [h.fr j hj q1 q2] at e; exact g.wf j u e
/-- what lies behind is forgotten -/
theorem Nw.trim {M M' : Mem} {n k : Nat} (h : Nw M M' n k) (g : Gen M n k) : Nw M (M'.take M.length) n k := by
  obtain ⟨hn, hk⟩ := g.lt
  have tk : ∀ j, j < M.length → (M'.take M.length)[j]? = M'[j]? := fun j hj => List.getElem?_take_of_lt hj
  have tl : (M'.take M.length).length = M.length := by have := h.len; rw [List.length_take]; omega
  obtain ⟨c, s, e1, e2, r⟩ := h.gen.ex
  refine ⟨⟨⟨c, s, (tk n hn).trans e1, (tk k hk).trans e2, r⟩, g.ne, fun j u e => ?_⟩, by omega, fun j hj h1 h2 => (tk j hj).trans (h.fr j hj h1 h2)⟩
  have hj : j < M.length := by have := (List.getElem?_eq_some_iff.mp e).1; omega
  rw [tk j hj] at e
  rw [tl]
  exact h.wf0 g j u hj e
/-- a thing that is not the state's -/
theorem Nw.get {M M' : Mem} {n k j : Nat} {u : MO} (h : Nw M M' n k) (e : M[j]? = some u) (h1 : j ≠ n) (h2 : j ≠ k) : M'[j]? = some u :=
  (h.fr j (List.getElem?_eq_some_iff.mp e).1 h1 h2).trans e
theorem dgetS {M : Mem} {n k : Nat} {s : Int} {σ : Sd} {f : FE} (hf : f σ M = some (.dat (.ref n), M)) (hM : M[n]? = some (gS k s)) : fOp kDGet f (fC (.str "great")) σ M = some (.dat (.ref k), M) ∧ fOp kDGet f (fC (.str "seed")) σ M = some (.dat (.int s), M) := by
  constructor
  · refine op_eq' hf rfl ?_
    unfold kDGet dGetD
    dsimp only
    rw [hM]
    rfl
  · refine op_eq' hf rfl ?_
    unfold kDGet dGetD
    dsimp only
    rw [hM]
    rfl
theorem putS {M : Mem} {n k : Nat} {s s' : Int} (hM : M[n]? = some (gS k s)) : dPutD M n (.str "seed") (.int s') = some (M.set n (gS k s')) := by
  unfold dPutD
  rw [hM]
  dsimp only [keyD]
  rw [if_pos (show [(D.str (Str.ofString "great"), D.ref k), (D.str (Str.ofString "seed"), D.int s)].length < sizeLine from size_ok (n := 3) (by omega))]
  rfl
theorem oks_dset {fv fo fi : FE} {σ : Sd} {M M4 : Mem} {P : Out → Sd → Mem → Prop} {v k : D} {n : Nat} (h1 : fv σ M = some (.dat v, M)) (h2 : fo σ M = some (.dat (.ref n), M)) (h3 : fi σ M = some (.dat k, M)) (h4 : dPutD M n k v = some M4) (q : P .nx σ M4) : OkS (sDSet fv fo fi σ M) P := by
  refine ⟨.nx, σ, M4, ?_, q⟩
  unfold sDSet toD
  rw [h1]; dsimp only; rw [h2]; dsimp only; rw [h3]; dsimp only; rw [h4]
theorem mod_eq {a b : Int} {M : Mem} (h : 0 < b) : kMod (.dat (.int a)) (.dat (.int b)) M = some (.dat (.int (a % b)), M) := eq_of_ok (k_mod.mpr ⟨h, rfl, rfl⟩)
theorem div_eq {a b : Int} {M : Mem} (h : 0 < b ∧ b < 1073741824) : kDiv (.dat (.int a)) (.dat (.int b)) M = some (.dat (.int (a / b)), M) := eq_of_ok (k_div.mpr ⟨h, rfl, rfl⟩)
theorem next_ok {M : Mem} {n k : Nat} {m : Int} (h : Gen M n k) (h0 : 0 < m) (h1 : m < 1073741824) :
    Ok (m_law_next [.ref n, .int m] M) fun d M' => (∃ i, d = .int i ∧ 0 ≤ i ∧ i < m) ∧ Nw M M' n k ∧ M'.length = M.length := by
  unfold m_law_next
  rw [ok_def]
  unfold b_law_next
  show OkS (sSeq _ _ [some (.ref n), some (.int m), none, none] M) _
  obtain ⟨c, s, e1, e2, e3, e4, e5, e6⟩ := h.ex
  obtain ⟨hn, hk⟩ := h.lt
  rw [oks_seq, oks_if]
  have ne : Ok (tst (fOp kNe (fOp kDGet (fVar 0) (fC (.str "great"))) (fLst aNil)) [some (.ref n), some (.int m), none, none] M) fun b M' => b = (!c.isEmpty) ∧ M' = M := by
    refine ok_tst.mpr (ok_op.mpr (ok_of_eq (dgetS rfl e1).1 (ok_lst.mpr (ok_aNil.mpr ⟨Nat.zero_le _, ?_⟩))))
    rw [k_neNil (lst_ref e2) (by intro d e; cases e; rfl)]
    rw [blP_bl]
    exact ⟨by simp, rfl⟩
  refine Ok.mono ne ?_
  rintro b M' ⟨rfl, rfl⟩
  cases c with
  | nil =>
    simp only [List.isEmpty_nil, Bool.not_true, Bool.false_eq_true, if_false]
    rw [oks_nil, nxP_nx, oks_seq]
    have hs0 : 0 ≤ (s * 3935559000370003845 + 2691343689449507681) % 2305843009213693951 := Int.emod_nonneg _ (by decide)
    have hs1 : (s * 3935559000370003845 + 2691343689449507681) % 2305843009213693951 < 2305843009213693951 := Int.emod_lt_of_pos _ (by decide)
    have ev : fOp kMod (fOp kPlus (fOp kMul (fOp kDGet (fVar 0) (fC (.str "seed"))) (fC (.int 3935559000370003845))) (fC (.int 2691343689449507681))) (fC (.int 2305843009213693951)) [some (.ref n), some (.int m), none, none] M' = some (.dat (.int ((s * 3935559000370003845 + 2691343689449507681) % 2305843009213693951)), M') :=
      op_eq' (op_eq' (op_eq' (dgetS rfl e1).2 rfl (eq_of_ok (k_mul.mpr ⟨by simp [cMul] <;> omega, rfl, rfl⟩))) rfl rfl) rfl (mod_eq (by decide))
    generalize (s * 3935559000370003845 + 2691343689449507681) % 2305843009213693951 = s' at hs0 hs1 ev
    refine oks_dset ev rfl rfl (putS e1) ?_
    rw [nxP_nx]
    have P := h.put (c := []) (s := s') (fun _ h => by cases h) (by simp) hs0 hs1
    rw [set_same (show M'[k]? = some (.lst (([] : List Int).map D.int)) from e2)] at P
    have e1' : (M'.set n (gS k s'))[n]? = some (gS k s') := List.getElem?_set_self hn
    refine set_eq (op_eq' (dgetS rfl e1').2 rfl (div_eq ⟨by decide, by decide⟩)) ?_
    have hm0 : 0 ≤ s' / 65537 := Int.ediv_nonneg hs0 (by decide)
    have hm1 : s' / 65537 < 2305843009213693951 := by omega
    refine ret_eq (op_eq' (op_eq' (op_eq' (op_eq' (x := .dat (.int (s' / 65537))) (y := .dat (.int (s' / 65537))) rfl rfl (eq_of_ok (k_mul.mpr ⟨by simp [cMul] <;> omega, rfl, rfl⟩))) rfl (mod_eq (by decide))) rfl (div_eq ⟨by decide, by decide⟩)) rfl (mod_eq h0)) ?_
    exact ⟨⟨_, rfl, Int.emod_nonneg _ (by omega), Int.emod_lt_of_pos _ h0⟩, P, by simp⟩
  | cons x c =>
    simp only [List.isEmpty_cons, Bool.not_false, if_true]
    have hd : ∀ {x : Int} {c : List Int} {M : Mem} {σ : Sd}, fVar 0 σ M = some (.dat (.ref n), M) → M[n]? = some (gS k s) → M[k]? = some (.lst ((x :: c).map D.int)) → fOp kIx (fOp kDGet (fVar 0) (fC (.str "great"))) (fC (.int 0)) σ M = some (.dat (.int x), M) := fun {x c M σ} hf hM hK =>
      op_eq' (dgetS hf hM).1 rfl (ix_eq (seq_ref hK) at0)
    refine set_eq (op_eq' (hd rfl e1 e2) rfl (mod_eq h0)) ?_
    rw [oks_seq, oks_sub]
    refine ok_op.mpr (ok_of_eq (hd rfl e1 e2) (ok_var.mpr ⟨_, rfl, k_div.mpr ⟨⟨h0, h1⟩, ?_⟩⟩))
    rw [toDp_dat]
    refine ok_of_eq (dgetS rfl e1).1 (ok_c.mpr ?_)
    rw [toDp_dat]
    refine ⟨_, kSetL_of (k := 0) e2 (by simp), ?_⟩
    rw [nxP_nx, oks_seq]
    have hx := e3 x List.mem_cons_self
    have hq : 0 ≤ x / m := Int.ediv_nonneg hx (by omega)
    have e2' : (M'.set k (.lst (((x / m) :: c).map D.int)))[k]? = some (.lst (((x / m) :: c).map D.int)) := List.getElem?_set_self hk
    have e1' : (M'.set k (.lst (((x / m) :: c).map D.int)))[n]? = some (gS k s) := by rw [List.getElem?_set_ne (Ne.symm h.ne)]; exact e1
    show OkS (sIf _ _ _ [some (.ref n), some (.int m), some (.int (x % m)), none] (M'.set k (.lst (((x / m) :: c).map D.int)))) _
    rw [oks_if]
    refine ok_of_eq (tst_eq (op_eq' (hd rfl e1' e2') rfl (eq_of_ok (k_eq.mpr ⟨rfl, rfl⟩)))) ?_
    have fin : ∀ (c' : List Int), (∀ y ∈ c', 0 ≤ y) → c'.length ≤ 63 → Nw M' (M'.set k (.lst (c'.map D.int))) n k := fun c' q1 q2 => by
      have P := h.put (c := c') (s := s) q1 q2 e5 e6
      rw [set_same (k := n) (by rw [List.getElem?_set_ne (Ne.symm h.ne)]; exact e1)] at P
      exact P
    by_cases hz : x / m = 0
    · rw [if_pos (by simpa using hz), oks_expr]
      refine ok_M.mpr (ok_of_eq (dgetS rfl e1').1 ⟨⟨_, lst_ref e2'⟩, ok_aCons.mpr (ok_toD.mpr (ok_c.mpr (toDp_dat.mpr (ok_aNil.mpr ?_))))⟩)
      rw [List.map_cons] at e2' ⊢
      rw [k_pop0 e2', nxP_nx]
      refine ret_eq rfl ⟨⟨_, rfl, Int.emod_nonneg _ (by omega), Int.emod_lt_of_pos _ h0⟩, ?_, by simp⟩
      rw [List.set_set]
      exact fin c (fun y hy => e3 y (List.mem_cons_of_mem _ hy)) (by simp at e4; omega)
    · rw [if_neg (by simpa using hz), oks_nil, nxP_nx]
      refine ret_eq rfl ⟨⟨_, rfl, Int.emod_nonneg _ (by omega), Int.emod_lt_of_pos _ h0⟩, fin ((x / m) :: c) (fun y hy => ?_) (by simpa using e4), by simp⟩
      rcases List.mem_cons.mp hy with z | z
      · subst z; exact hq
      · exact e3 y (List.mem_cons_of_mem _ z)
theorem call_next {M : Mem} {n k : Nat} {m : Int} {σ : Sd} {fa fb : FE} {P : EV → Mem → Prop} (h : Gen M n k) (ha : fa σ M = some (.dat (.ref n), M)) (hb : fb σ M = some (.dat (.int m), M)) (h0 : 0 < m) (h1 : m < 1073741824)
    (q : ∀ i M', 0 ≤ i → i < m → Nw M M' n k → M'.length = M.length → P (.dat (.int i)) M') : Ok (fCall m_law_next (aCons (toD fa) (aCons (toD fb) aNil)) σ M) P := by
  rw [ok_call, ok_aCons, ok_toD]
  refine ⟨_, _, ha, ?_⟩
  rw [toDp_dat, ok_aCons, ok_toD]
  refine ⟨_, _, hb, ?_⟩
  rw [toDp_dat, ok_aNil]
  refine Ok.mono (next_ok h h0 h1) ?_
  rintro d M' ⟨⟨i, rfl, i0, i1⟩, nx, hl⟩
  exact q i M' i0 i1 nx hl
theorem begin_ok {ns : List Int} (h : ns.length ≤ 63) : Ok (m_law_begin [.ref 0] [.fro (ns.map D.int)]) fun d M' => d = .ref 1 ∧ Gen M' 1 2 ∧ M'[0]? = some (.fro (ns.map D.int)) := by
  unfold m_law_begin
  rw [ok_def]
  unfold b_law_begin
  show OkS (sSeq _ _ [some (.ref 0), none, none] _) _
  have e0 : ([.fro (ns.map D.int)] : Mem)[0]? = some (.fro (ns.map D.int)) := rfl
  obtain ⟨cut, ec, lc⟩ := cut_ints ns none (some 63)
  have sl : ∀ {σ : Sd} {us : Mem}, σ[0]? = some (some (.ref 0)) → fSl (fVar 0) oNone (oSome (fC (.int 63))) σ (.fro (ns.map D.int) :: us) = some (.fl (cut.map D.int), .fro (ns.map D.int) :: us) := fun {σ us} hσ => by
    refine eq_of_ok (ok_sl.mpr (ok_var.mpr ⟨_, hσ, ok_oNone.mpr (ok_oSome.mpr (ok_c.mpr (intP_int.mpr ?_)))⟩))
    rw [sl_lst (lst_fro (xs := ns.map D.int) rfl) rfl, ec]; exact ⟨rfl, rfl⟩
  refine set_eq rfl ?_
  rw [oks_seq, oks_for]
  refine ⟨_, _, _, iSeq_of (sl rfl) seq_fl, ?_⟩
  refine oks_loop (I := fun r σ M => M = [.fro (ns.map D.int)] ∧ (∃ c : List Int, r = c.map D.int) ∧ ∃ s y, σ = [some (.ref 0), some (.int s), y] ∧ 0 ≤ s ∧ s < 2305843009213693951) ?_ ?_ _ _ _ ⟨rfl, ⟨cut, rfl⟩, _, none, rfl, by decide, by decide⟩
  · rintro x r σ M ⟨rfl, ⟨c, hc⟩, s, y, rfl, h0, h1⟩
    obtain ⟨z, c', rfl, rfl, rfl⟩ := map_ints_cons hc
    refine ⟨grd_none, _, rfl, ?_⟩
    rw [oks_set]
    refine ok_op.mpr (ok_op.mpr (ok_op.mpr (ok_op.mpr (ok_var.mpr ⟨_, rfl, ok_c.mpr (k_mul.mpr ⟨by simp [cMul], ?_⟩)⟩))))
    refine ok_var.mpr ⟨_, rfl, k_plus.mpr (ok_c.mpr (k_plus.mpr (ok_c.mpr (k_mod.mpr ⟨by decide, ?_⟩))))⟩
    rw [toDp_dat]
    exact ⟨rfl, ⟨c', rfl⟩, _, _, rfl, Int.emod_nonneg _ (by decide), Int.emod_lt_of_pos _ (by decide)⟩
  · rintro σ M ⟨rfl, _, s, y, rfl, h0, h1⟩
    refine ⟨grd_none, ?_⟩
    rw [nxP_nx, oks_ret]
    have cp : Ok (fComp [2] (iSeq (fSl (fVar 0) oNone (oSome (fC (.int 63))))) (gN 2) (tst (fOp kGe (fVar 2) (fOp kPow (fC (.int 10)) (fC (.int 18))))) (fVar 2) [some (.ref 0), some (.int s), y] [.fro (ns.map D.int), .dict []]) fun x M => M = [.fro (ns.map D.int), .dict []] ∧ ∃ b : List Int, x = .fl (b.map D.int) ∧ b.length ≤ 63 ∧ ∀ x ∈ b, 0 ≤ x := by
      rw [ok_comp]
      refine ⟨_, _, _, iSeq_of (sl rfl) seq_fl, by rw [List.length_map]; exact size_ok (by omega), ?_⟩
      refine Ok.mono (ok_compL (I := fun r acc M => M = [.fro (ns.map D.int), .dict []] ∧ (∃ c : List Int, r = c.map D.int) ∧ r.length + acc.length ≤ 63 ∧ ∃ b : List Int, acc = b.map D.int ∧ ∀ x ∈ b, 0 ≤ x) (Q := fun acc M => M = [.fro (ns.map D.int), .dict []] ∧ acc.length ≤ 63 ∧ ∃ b : List Int, acc = b.map D.int ∧ ∀ x ∈ b, 0 ≤ x) ?_ ?_ _ [] _ ⟨rfl, ⟨cut, rfl⟩, by simp; omega, [], rfl, fun _ h => by cases h⟩) ?_
      · rintro x r acc M ⟨rfl, ⟨c, hc⟩, hl, b, rfl, hb⟩
        obtain ⟨z, c', rfl, rfl, rfl⟩ := map_ints_cons hc
        refine ⟨grd_none, _, rfl, ?_⟩
        refine ok_tst.mpr (ok_op.mpr (ok_var.mpr ⟨_, rfl, ok_op.mpr (ok_c.mpr (ok_c.mpr (k_pow.mpr ⟨by decide, k_ge.mpr (blP_bl.mpr ?_)⟩)))⟩))
        by_cases hz : (10 : Int) ^ (18 : Int).toNat ≤ z
        · rw [if_pos (by simpa using hz)]
          have big : (0 : Int) ≤ 10 ^ (18 : Int).toNat := by decide
          refine ok_var.mpr ⟨_, rfl, toDp_dat.mpr ⟨rfl, ⟨c', rfl⟩, ?_, b ++ [z], by simp, ?_⟩⟩
          · simp at hl ⊢; omega
          · intro y hy
            rcases List.mem_append.mp hy with q | q
            · exact hb y q
            · have : y = z := by simpa using q
              rw [this]; exact Int.le_trans big hz
        · rw [if_neg (by simpa using hz)]
          exact ⟨rfl, ⟨c', rfl⟩, by simp at hl ⊢; omega, b, rfl, hb⟩
      · rintro acc M ⟨rfl, _, hl, hb⟩
        exact ⟨grd_none, rfl, by simpa using hl, hb⟩
      · rintro ys M ⟨rfl, hl, b, hb, hp⟩
        rw [List.nil_append] at hb hl
        subst hb
        exact ⟨rfl, b, rfl, by simpa using hl, hp⟩
    obtain ⟨x, M1, ex, rfl, b, rfl, hl, hb⟩ := cp
    refine ok_of_eq (M := [.fro (ns.map D.int), gS 2 s, .lst (b.map D.int)]) (a := .dat (.ref 1)) ?_ ?_
    · unfold fDict2
      have e1 : toD (fComp [2] (iSeq (fSl (fVar 0) oNone (oSome (fC (.int 63))))) (gN 2) (tst (fOp kGe (fVar 2) (fOp kPow (fC (.int 10)) (fC (.int 18))))) (fVar 2)) [some (.ref 0), some (.int s), y] ([.fro (ns.map D.int)] ++ [.dict []]) = some (.ref 2, [.fro (ns.map D.int), .dict [], .lst (b.map D.int)]) := by
        unfold toD
        rw [show ([.fro (ns.map D.int)] ++ [.dict []] : Mem) = [.fro (ns.map D.int), .dict []] from rfl, ex]
        rfl
      rw [e1]
      dsimp only
      rfl
    · rw [toDp_dat]
      refine ⟨rfl, ⟨⟨b, s, rfl, rfl, hb, hl, h0, h1⟩, by decide, ?_⟩, rfl⟩
      intro j u e
      match j, e with
      | 0, e => cases e; exact unds_ints _ _
      | 1, e => cases e; rfl
      | 2, e => cases e; exact unds_ints _ _
      | j + 3, e => simp at e
end Lad

set_option Elab.async false
set_option linter.all false
set_option maxRecDepth 100000
namespace Lad
open PySem PySem.Spec PyProof.Rows L2 L3 ST Law
noncomputable def b_law_column : FS := (sSeq (sSet 3 (fComp [4] (iRange (aCons (toD (fVar 1)) aNil)) (gN 4) tTrue (fCall m_law_next (aCons (toD (fVar 0)) (aCons (toD (fVar 1)) aNil)))))
    (sSeq (sAsg (gPair 5 6) (fTup (aCons (toD (fOp kIx (fVar 3) (fC (.int 0)))) (aCons (toD (fOp kIx (fVar 3) (fNeg (fC (.int 1))))) aNil))))
    (sSeq (sIf (tst (fOp kEq (fVar 2) (fC (.int 0)))) (sRet (fVar 3)) sNil)
    (sSeq (sIf (tst (fOp kEq (fVar 2) (fC (.int 5)))) (sRet (fOp kRep (fLst (aCons (toD (fVar 5)) aNil)) (fVar 1))) sNil)
    (sSeq (sIf (tst (fOp kEq (fVar 2) (fC (.int 6)))) (sRet (fComp [4, 7] (iEnum (fVar 3)) (gPair 4 7) tTrue (vIf (tst (fOp kLe (fVar 4) (fVar 5))) (fOp kMod (fVar 7) (fOp kPlus (fVar 5) (fC (.int 1)))) (fOp kPlus (fOp kPlus (fVar 5) (fC (.int 1))) (fOp kMod (fVar 7) (fOp kSub (fOp kSub (fVar 1) (fVar 5)) (fC (.int 1)))))))) sNil)
    (sSeq (sSet 8 (fLstR (fVar 1)))
    (sSeq (sIf (tst (fOp kEq (fVar 2) (fC (.int 3)))) (sRet (fOp kCatL (fSl (fVar 8) (oSome (fC (.int 1))) oNone) (fSl (fVar 8) oNone (oSome (fC (.int 1)))))) sNil)
    (sSeq (sIf (tst (fOp kLt (fVar 2) (fC (.int 3)))) (sSeq (sSet 9 (fLstR (fVar 1)))
    (sSet 8 (fComp [7] (iSeq (fVar 3)) (gN 7) tTrue (fM kPop (fVar 9) (aCons (toD (fOp kMod (fVar 7) (fB kLen (eCons (fVar 9) eNil)))) aNil))))) sNil)
    (sSeq (sIf (tst (fOp (kIn false) (fVar 2) (fTup (aCons (toD (fC (.int 2))) (aCons (toD (fC (.int 4))) aNil))))) (sSub (fOp kIx (fVar 8) (fVar 6)) (fVar 8) (fVar 5)) sNil)
    (sRet (fVar 8)))))))))))
noncomputable def m_law_column : FF := fDef 10 b_law_column

noncomputable def b_law_machine : FS := (sSeq (sSet 3 (fOp kPlus (fC (.int 1)) (fCall m_law_next (aCons (toD (fVar 0)) (aCons (toD (fOp kIx (fLst (aCons (toD (fC (.int 3))) (aCons (toD (fC (.int 7))) (aCons (toD (fVar 1)) aNil)))) (fCall m_law_next (aCons (toD (fVar 0)) (aCons (toD (fC (.int 3))) aNil))))) aNil)))))
    (sSeq (sSet 4 (fOp kPlus (fC (.int 1)) (fCall m_law_next (aCons (toD (fVar 0)) (aCons (toD (fVar 2)) aNil)))))
    (sSeq (sSet 5 (fCall m_law_next (aCons (toD (fVar 0)) (aCons (toD (fC (.int 10))) aNil))))
    (sSeq (sSet 6 (fLst aNil))
    (sSeq (sFor (iRange (aCons (toD (fVar 4)) aNil)) (gN 7) (sSeq (sSet 8 (fOp kIx (fLst (aCons (toD (fC (.int 3))) (aCons (toD (fC (.int 4))) aNil))) (fOp kMod (fVar 7) (fC (.int 2)))))
    (sSeq (sIf (tst (fOp kLt (fVar 5) (fC (.int 7)))) (sSet 8 (fVar 5)) sNil)
    (sSeq (sIf (tst (fOp kEq (fVar 5) (fC (.int 9)))) (sSet 8 (fCall m_law_next (aCons (toD (fVar 0)) (aCons (toD (fC (.int 7))) aNil)))) sNil)
    (sExpr (fM kAppend (fVar 6) (aCons (toD (fCall m_law_column (aCons (toD (fVar 0)) (aCons (toD (fVar 3)) (aCons (toD (fVar 8)) aNil))))) aNil)))))))
    (sSeq (sIf (tst (fOp kEq (fVar 5) (fC (.int 8)))) (sSet 6 (fOp kRep (fSl (fVar 6) oNone (oSome (fC (.int 1)))) (fVar 4))) sNil)
    (sRet (fB kTuple (eCons (fComp [10] (iRange (aCons (toD (fVar 3)) aNil)) (gN 10) tTrue (fB kTuple (eCons (fComp [9] (iSeq (fVar 6)) (gN 9) tTrue (fOp kIx (fVar 9) (fVar 10))) eNil))) eNil)))))))))
noncomputable def m_law_machine : FF := fTrim (fDef 11 b_law_machine)

/-- so many numbers below -/
def Col (many : Int) (c : List Int) : Prop := (c.length : Int) = many ∧ ∀ x ∈ c, 0 ≤ x ∧ x < many
/-- so many drawn -/
theorem draws_ok {M : Mem} {n k : Nat} (h : Gen M n k) {own : List Nat} {i : Nat} {f fa fb : FE} {σ : Sd} {many few : Int} (h0 : 0 < few) (h1 : few < 1073741824) (m0 : 0 ≤ many) (m1 : many ≤ 90000)
    (hf : f σ M = some (.dat (.int many), M)) (ha : ∀ (x : D) (M : Mem), fa ((clrD own σ).set i (some x)) M = some (.dat (.ref n), M)) (hb : ∀ (x : D) (M : Mem), fb ((clrD own σ).set i (some x)) M = some (.dat (.int few), M)) :
    Ok (fComp own (iRange (aCons (toD f) aNil)) (gN i) tTrue (fCall m_law_next (aCons (toD fa) (aCons (toD fb) aNil))) σ M) fun x M' => (∃ c : List Int, x = .fl (c.map D.int) ∧ (c.length : Int) = many ∧ ∀ y ∈ c, 0 ≤ y ∧ y < few) ∧ Nw M M' n k ∧ M'.length = M.length := by
  refine ok_comp.mpr ⟨_, _, _, range_of hf m0 (by omega), by rw [upFrom_length]; exact size_ok (by omega), ?_⟩
  refine Ok.mono (ok_upL (n := many.toNat) (I := fun j acc M2 => (∃ c : List Int, acc = c.map D.int ∧ c.length = j ∧ ∀ y ∈ c, 0 ≤ y ∧ y < few) ∧ Nw M M2 n k ∧ M2.length = M.length) ?_ ⟨⟨[], rfl, rfl, fun _ h => by cases h⟩, Nw.refl h, rfl⟩) ?_
  · rintro j acc M2 hj ⟨⟨c, rfl, hcl, hc⟩, nw, hl⟩
    refine ⟨_, rfl, ?_⟩
    refine call_next nw.gen (ha _ _) (hb _ _) h0 h1 fun g M3 g0 g1 nw3 hl3 => ?_
    rw [toDp_dat]
    refine ⟨⟨c ++ [g], by simp, by simp [hcl], fun z hz => ?_⟩, nw.trans nw3, by omega⟩
    rcases List.mem_append.mp hz with q | q
    · exact hc z q
    · have : z = g := by simpa using q
      subst this; exact ⟨g0, g1⟩
  · rintro ys M2 ⟨⟨c, rfl, hcl, hc⟩, nw, hl⟩
    exact ⟨⟨c, rfl, by omega, hc⟩, nw, hl⟩
theorem up_ints (j : Nat) : upD j = ((List.range j).map fun (k : Nat) => (k : Int)).map D.int := by
  unfold upD; rw [List.map_map]; rfl
theorem up_col {many : Int} (h : 0 ≤ many) : Col many ((List.range many.toNat).map fun (k : Nat) => (k : Int)) := by
  refine ⟨by simp; omega, fun x hx => ?_⟩
  obtain ⟨k, hk, rfl⟩ := List.mem_map.mp hx
  have := List.mem_range.mp hk
  omega
theorem toDp_new {P : D → Mem → Prop} {xs : List D} {M : Mem} (h : P (.ref M.length) (M ++ [.lst xs])) : toDp P (.fl xs) M := h
theorem last_get (A : Mem) (u : MO) : (A ++ [u])[A.length]? = some u := by simp
theorem seti_col {many : Int} {c : List Int} (h : Col many c) {i j : Nat} (hj : j < c.length) : Col many (c.set i (c.getD j 0)) := by
  refine ⟨by rw [List.length_set]; exact h.1, fun x hx => ?_⟩
  rcases List.mem_or_eq_of_mem_set hx with q | q
  · exact h.2 x q
  · rw [q, List.getD_eq_getElem?_getD, List.getElem?_eq_getElem hj]; exact h.2 _ (List.getElem_mem hj)
theorem getD_in {many : Int} {c : List Int} (h : Col many c) {j : Nat} (hj : j < c.length) : 0 ≤ c.getD j 0 ∧ c.getD j 0 < many := by
  rw [List.getD_eq_getElem?_getD, List.getElem?_eq_getElem hj]; exact h.2 _ (List.getElem_mem hj)
theorem map_eraseIdx (xs : List Int) (i : Nat) : (xs.eraseIdx i).map D.int = (xs.map D.int).eraseIdx i := by
  induction xs generalizing i with
  | nil => rfl
  | cons x r ih =>
    cases i with
    | zero => rfl
    | succ i => simp [ih]
theorem cut_take1 {xs : List D} : L3.cutD xs none (some 1) = xs.take 1 := by
  have s : HT.sIx xs.length xs.length (some 1) = min 1 xs.length := HT.sIx_nat xs.length xs.length 1
  have z : HT.sIx xs.length 0 none = 0 := rfl
  unfold L3.cutD
  rw [s, z]
  simp only [List.drop_zero, Nat.sub_zero]
  cases xs with
  | nil => rfl
  | cons a r => simp
theorem slL {f : FE} {fl fh : FO} {σ : Sd} {M : Mem} {x : EV} {xs : List D} {lo hi : Option Int} (hf : f σ M = some (x, M)) (ht : tupOf x = none) (hx : lstOf M x = some xs) (hl : fl σ M = some (lo, M)) (hh : fh σ M = some (hi, M)) : fSl f fl fh σ M = some (.fl (L3.cutD xs lo hi), M) := by
  unfold fSl; rw [hf]; dsimp only; rw [hl]; dsimp only; rw [hh]; dsimp only; unfold kSl; rw [ht]; dsimp only; rw [hx]
theorem column_ok {M : Mem} {n k : Nat} (h : Gen M n k) {many way : Int} (m0 : 0 < many) (m1 : many ≤ 1000) :
    Ok (m_law_column [.ref n, .int many, .int way] M) fun d M' => ∃ j c, d = .ref j ∧ M'[j]? = some (.lst (c.map D.int)) ∧ Col many c ∧ M.length ≤ j ∧ Nw M M' n k := by
  obtain ⟨hn, hk⟩ := h.lt
  unfold m_law_column
  rw [ok_def]
  unfold b_law_column
  show OkS (sSeq _ _ [some (.ref n), some (.int many), some (.int way), none, none, none, none, none, none, none] M) _
  rw [oks_seq, oks_set]
  refine Ok.mono (draws_ok h m0 (by omega) (by omega) (by omega) rfl (fun _ _ => rfl) (fun _ _ => rfl)) ?_
  rintro x M1 ⟨⟨c, rfl, hcl, hc⟩, nw1, hl1⟩
  refine toDp_new ?_
  rw [nxP_nx]
  have nw2 := nw1.trans (nw1.gen.lst (c.map D.int) (unds_ints _ _))
  have e3 : (M1 ++ [MO.lst (c.map D.int)])[M1.length]? = some (.lst (c.map D.int)) := last_get _ _
  generalize hM2 : M1 ++ [MO.lst (c.map D.int)] = M2 at nw2 e3
  have hj3 : M.length ≤ M1.length := nw1.len
  generalize hj : M1.length = j3 at e3 hj3
  show OkS (sSeq _ _ [some (.ref n), some (.int many), some (.int way), some (.ref j3), none, none, none, none, none, none] M2) _
  have cl : c.length = many.toNat := by omega
  have cc : Col many c := ⟨hcl, hc⟩
  have hfst : atI (c.map D.int) 0 = some (.int (c.getD 0 0)) := int_at (by decide) (by omega)
  have hlst : atI (c.map D.int) (-1) = some (.int (c.getD (c.length - 1) 0)) := by
    have hne : c ≠ [] := by intro e; rw [e] at cl; simp at cl; omega
    have e := (List.dropLast_concat_getLast hne).symm
    have eg : c.getD (c.length - 1) 0 = c.getLast hne := by
      rw [List.getD_eq_getElem?_getD, List.getElem?_eq_getElem (by omega), List.getLast_eq_getElem]; rfl
    rw [eg]
    generalize c.getLast hne = z at e
    rw [e, List.map_append]; exact L2.atI_last _ _
  obtain ⟨o0, o1⟩ := getD_in cc (j := 0) (by omega)
  obtain ⟨p0, p1⟩ := getD_in cc (j := c.length - 1) (by omega)
  generalize c.getD 0 0 = one at hfst o0 o1
  generalize c.getD (c.length - 1) 0 = oth at hlst p0 p1
  rw [oks_seq, oks_asg]
  have etup : fTup (aCons (toD (fOp kIx (fVar 3) (fC (.int 0)))) (aCons (toD (fOp kIx (fVar 3) (fNeg (fC (.int 1))))) aNil)) [some (.ref n), some (.int many), some (.int way), some (.ref j3), none, none, none, none, none, none] M2 = some (.dat (.tup [.int one, .int oth]), M2) := by
    unfold fTup
    rw [aC_eq (op_eq' rfl rfl (ix_eq (seq_ref e3) hfst)) (a1_eq (op_eq' (y := .dat (.int (-1))) rfl rfl (ix_eq (seq_ref e3) hlst)))]
    dsimp only
    rw [if_pos (size_ok (by simp))]
  refine ok_of_eq etup ?_
  rw [toDp_dat]
  refine ⟨_, rfl, ?_⟩
  rw [nxP_nx]
  show OkS (sSeq _ _ [some (.ref n), some (.int many), some (.int way), some (.ref j3), none, some (.int one), some (.int oth), none, none, none] M2) _
  have isw : ∀ (j : Int) (σ : Sd) (M : Mem), σ[2]? = some (some (.int way)) → tst (fOp kEq (fVar 2) (fC (.int j))) σ M = some (decide (way = j), M) := fun j σ M e => by
    have v4 : fVar 2 σ M = some (.dat (.int way), M) := by unfold fVar; rw [e]
    exact tst_eq (op_eq' v4 rfl (eq_of_ok (k_eq.mpr ⟨rfl, rfl⟩)))
  -- a new list is told
  have new : ∀ (A : Mem) (c' : List Int), Nw M A n k → Col many c' → ∃ j c, D.ref A.length = D.ref j ∧ (A ++ [MO.lst (c'.map D.int)])[j]? = some (.lst (c.map D.int)) ∧ Col many c ∧ M.length ≤ j ∧ Nw M (A ++ [MO.lst (c'.map D.int)]) n k := fun A c' nw hc' =>
    ⟨A.length, c', rfl, last_get _ _, hc', nw.len, nw.trans (nw.gen.lst _ (unds_ints _ _))⟩
  rw [oks_seq, oks_if]
  refine ok_of_eq (isw 0 _ _ rfl) ?_
  by_cases w0 : way = 0
  · rw [if_pos (by simpa using w0)]
    exact ret_eq rfl ⟨j3, c, rfl, e3, cc, hj3, nw2⟩
  rw [if_neg (by simpa using w0), oks_nil, nxP_nx, oks_seq, oks_if]
  refine ok_of_eq (isw 5 _ _ rfl) ?_
  by_cases w5 : way = 5
  · rw [if_pos (by simpa using w5), oks_ret]
    refine ok_op.mpr (ok_lst.mpr (ok_aCons.mpr (ok_toD.mpr (ok_var.mpr ⟨_, rfl, toDp_dat.mpr (ok_aNil.mpr ⟨size_ok (by simp), ok_var.mpr ⟨_, rfl, ?_⟩⟩)⟩))))
    have er : kRep (.fl [.int one]) (.dat (.int many)) M2 = some (.fl ((List.replicate many.toNat one).map D.int), M2) := by
      unfold kRep
      dsimp only [tupOf, mlOf]
      rw [if_pos ⟨by omega, by omega, size_ok (by simp; omega)⟩]
      have : (List.replicate many.toNat [D.int one]).flatten = (List.replicate many.toNat one).map D.int := by
        rw [List.map_replicate]
        generalize many.toNat = q
        induction q with
        | zero => rfl
        | succ q ih => rw [List.replicate_succ, List.flatten_cons, ih, List.replicate_succ]; rfl
      rw [this]
    refine ok_of_eq er (toDp_new ?_)
    rw [nxP_ret]
    refine new M2 _ nw2 ⟨by simp; omega, fun x hx => ?_⟩
    rw [(List.mem_replicate.mp hx).2]; exact ⟨o0, o1⟩
  rw [if_neg (by simpa using w5), oks_nil, nxP_nx, oks_seq, oks_if]
  refine ok_of_eq (isw 6 _ _ rfl) ?_
  by_cases w6 : way = 6
  · rw [if_pos (by simpa using w6), oks_ret]
    have hen : iEnum (fVar 3) [some (.ref n), some (.int many), some (.int way), some (.ref j3), none, some (.int one), some (.int oth), none, none, none] M2 = some (((List.range c.length).zip c).map fun q => D.tup [.int (q.1 : Nat), .int q.2], gdOf (.dat (.ref j3)) (c.map D.int), M2) := by
      unfold iEnum
      rw [show fVar 3 [some (.ref n), some (.int many), some (.int way), some (.ref j3), none, some (.int one), some (.int oth), none, none, none] M2 = some (.dat (.ref j3), M2) from rfl]
      dsimp only
      rw [seq_ref e3]
      dsimp only
      unfold numD
      rw [List.length_map, List.zip_map_right, List.map_map]
      rfl
    have step : ∀ q ∈ (List.range c.length).zip c, (0 ≤ (if (q.1 : Int) ≤ one then q.2 % (one + 1) else one + 1 + q.2 % (many - one - 1)) ∧ (if (q.1 : Int) ≤ one then q.2 % (one + 1) else one + 1 + q.2 % (many - one - 1)) < many) ∧ (one < (q.1 : Int) → 0 < many - one - 1) := by
      intro q hq
      have hq1 := List.mem_range.mp (List.of_mem_zip hq).1
      by_cases hle : (q.1 : Int) ≤ one
      · rw [if_pos hle]
        have := Int.emod_nonneg q.2 (show one + 1 ≠ 0 by omega)
        have := Int.emod_lt_of_pos q.2 (show 0 < one + 1 by omega)
        omega
      · rw [if_neg hle]
        have h1 : 0 < many - one - 1 := by omega
        have := Int.emod_nonneg q.2 (show many - one - 1 ≠ 0 by omega)
        have := Int.emod_lt_of_pos q.2 h1
        omega
    have ec := comp_map (own := [4, 7]) (g := gPair 4 7) (te := vIf (tst (fOp kLe (fVar 4) (fVar 5))) (fOp kMod (fVar 7) (fOp kPlus (fVar 5) (fC (.int 1)))) (fOp kPlus (fOp kPlus (fVar 5) (fC (.int 1))) (fOp kMod (fVar 7) (fOp kSub (fOp kSub (fVar 1) (fVar 5)) (fC (.int 1)))))) ((List.range c.length).zip c) (fun q => D.tup [.int (q.1 : Nat), .int q.2]) (fun q => .int (if (q.1 : Int) ≤ one then q.2 % (one + 1) else one + 1 + q.2 % (many - one - 1))) hen ?_ ?_ ?_
    · refine ok_of_eq ec (toDp_new ?_)
      rw [nxP_ret, show (fun q : Nat × Int => D.int (if (q.1 : Int) ≤ one then q.2 % (one + 1) else one + 1 + q.2 % (many - one - 1))) = D.int ∘ (fun q : Nat × Int => (if (q.1 : Int) ≤ one then q.2 % (one + 1) else one + 1 + q.2 % (many - one - 1))) from rfl, ← List.map_map]
      refine new M2 _ nw2 ⟨by simp; omega, fun x hx => ?_⟩
      obtain ⟨q, hq, rfl⟩ := List.mem_map.mp hx
      exact (step q hq).1
    · exact .inl e3
    · simp; omega
    · intro q hq
      refine ⟨_, rfl, ?_⟩
      have hs := step q hq
      unfold vIf
      have ht : tst (fOp kLe (fVar 4) (fVar 5)) [some (.ref n), some (.int many), some (.int way), some (.ref j3), some (.int (q.1 : Nat)), some (.int one), some (.int oth), some (.int q.2), none, none] M2 = some (decide ((q.1 : Int) ≤ one), M2) := tst_eq (op_eq' rfl rfl (eq_of_ok (k_le.mpr ⟨rfl, rfl⟩)))
      show (match tst (fOp kLe (fVar 4) (fVar 5)) [some (.ref n), some (.int many), some (.int way), some (.ref j3), some (.int (q.1 : Nat)), some (.int one), some (.int oth), some (.int q.2), none, none] M2 with | some (true, M1) => _ | some (false, M1) => _ | none => none) = _
      rw [ht]
      by_cases hle : (q.1 : Int) ≤ one
      · rw [decide_eq_true hle, if_pos hle]
        exact op_eq' (x := .dat (.int q.2)) (y := .dat (.int (one + 1))) rfl rfl (mod_eq (by omega))
      · rw [decide_eq_false hle, if_neg hle]
        exact op_eq' (x := .dat (.int (one + 1))) rfl (op_eq' (x := .dat (.int q.2)) (y := .dat (.int (many - one - 1))) rfl rfl (mod_eq (hs.2 (by omega)))) rfl
  rw [if_neg (by simpa using w6), oks_nil, nxP_nx, oks_seq, oks_set]
  have elr : ∀ {σ : Sd} {A : Mem}, σ[1]? = some (some (.int many)) → fLstR (fVar 1) σ A = some (.fl (((List.range many.toNat).map fun (k : Nat) => (k : Int)).map D.int), A) := fun {σ A} e => by
    unfold fLstR fVar
    rw [e]
    dsimp only
    rw [if_pos ⟨by omega, by omega⟩, up_ints]
  refine ok_of_eq (elr rfl) (toDp_new ?_)
  rw [nxP_nx]
  have nw4 := nw2.trans (nw2.gen.lst (((List.range many.toNat).map fun (k : Nat) => (k : Int)).map D.int) (unds_ints _ _))
  have e8 : (M2 ++ [MO.lst (((List.range many.toNat).map fun (k : Nat) => (k : Int)).map D.int)])[M2.length]? = some (.lst (((List.range many.toNat).map fun (k : Nat) => (k : Int)).map D.int)) := last_get _ _
  have e3' : (M2 ++ [MO.lst (((List.range many.toNat).map fun (k : Nat) => (k : Int)).map D.int)])[j3]? = some (.lst (c.map D.int)) := by
    rw [List.getElem?_append_left (List.getElem?_eq_some_iff.mp e3).1]; exact e3
  have hj8 : M.length ≤ M2.length := nw2.len
  have hj38 : j3 < M2.length := (List.getElem?_eq_some_iff.mp e3).1
  generalize hM4 : M2 ++ [MO.lst (((List.range many.toNat).map fun (k : Nat) => (k : Int)).map D.int)] = M4 at nw4 e8 e3'
  generalize hj8' : M2.length = j8 at e8 hj8 hj38
  have cu := up_col (many := many) (by omega)
  generalize hup : ((List.range many.toNat).map fun (k : Nat) => (k : Int)) = up at e8 cu elr
  show OkS (sSeq _ _ [some (.ref n), some (.int many), some (.int way), some (.ref j3), none, some (.int one), some (.int oth), none, some (.ref j8), none] M4) _
  rw [oks_seq, oks_if]
  refine ok_of_eq (isw 3 _ _ rfl) ?_
  by_cases w3 : way = 3
  · rw [if_pos (by simpa using w3), oks_ret]
    have s1 := slL (f := fVar 8) (fl := oSome (fC (.int 1))) (fh := oNone) (σ := [some (.ref n), some (.int many), some (.int way), some (.ref j3), none, some (.int one), some (.int oth), none, some (.ref j8), none]) rfl rfl (lst_ref e8) (oS (i := 1) rfl) rfl
    have s2 := slL (f := fVar 8) (fl := oNone) (fh := oSome (fC (.int 1))) (σ := [some (.ref n), some (.int many), some (.int way), some (.ref j3), none, some (.int one), some (.int oth), none, some (.ref j8), none]) rfl rfl (lst_ref e8) rfl (oS (i := 1) rfl)
    have hul : up.length = many.toNat := by have := cu.1; omega
    rw [cut_dropD (by decide) (by rw [List.length_map]; omega)] at s1
    rw [cut_take1] at s2
    refine ok_op.mpr (ok_of_eq s1 (ok_of_eq s2 (k_catL rfl rfl (by simp; omega) (toDp_new ?_))))
    rw [nxP_ret, show (1 : Int).toNat = 1 from rfl, ← List.map_drop, ← List.map_take, ← List.map_append]
    refine new M4 _ nw4 ⟨by simp; omega, fun x hx => ?_⟩
    rcases List.mem_append.mp hx with q | q
    · exact cu.2 x (List.mem_of_mem_drop q)
    · exact cu.2 x (List.mem_of_mem_take q)
  rw [if_neg (by simpa using w3), oks_nil, nxP_nx, oks_seq]
  -- the end: perhaps one goal more is changed
  have tail : ∀ (y7 y9 : Option D) (A : Mem) (j : Nat) (c' : List Int), Nw M A n k → M.length ≤ j → A[j]? = some (.lst (c'.map D.int)) → Col many c' →
      OkS (sSeq (sIf (tst (fOp (kIn false) (fVar 2) (fTup (aCons (toD (fC (.int 2))) (aCons (toD (fC (.int 4))) aNil))))) (sSub (fOp kIx (fVar 8) (fVar 6)) (fVar 8) (fVar 5)) sNil) (sRet (fVar 8)) [some (.ref n), some (.int many), some (.int way), some (.ref j3), none, some (.int one), some (.int oth), y7, some (.ref j), y9] A) fun o x M1 => match o with | .ret d => ∃ j c, d = .ref j ∧ M1[j]? = some (.lst (c.map D.int)) ∧ Col many c ∧ M.length ≤ j ∧ Nw M M1 n k | .nx => ∃ j c, D.non = .ref j ∧ M1[j]? = some (.lst (c.map D.int)) ∧ Col many c ∧ M.length ≤ j ∧ Nw M M1 n k | _ => False := by
    intro y7 y9 A j c' nw hj ej hc'
    rw [oks_seq, oks_if]
    have hin : tst (fOp (kIn false) (fVar 2) (fTup (aCons (toD (fC (.int 2))) (aCons (toD (fC (.int 4))) aNil)))) [some (.ref n), some (.int many), some (.int way), some (.ref j3), none, some (.int one), some (.int oth), y7, some (.ref j), y9] A = some ([2, 4].any fun y : Int => decide (y = way), A) := by
      refine tst_eq (op_eq' (x := .dat (.int way)) (y := .dat (.tup [.int 2, .int 4])) rfl ?_ rfl)
      unfold fTup
      rw [aC_eq (d := .int 2) rfl (a1_eq (d := .int 4) rfl)]
      dsimp only
      rw [if_pos (size_ok (by simp))]
    refine ok_of_eq hin ?_
    have hcl' : c'.length = many.toNat := by have := hc'.1; omega
    by_cases hb : ([2, 4].any fun y : Int => decide (y = way)) = true
    · rw [if_pos hb, oks_sub]
      refine ok_of_eq (op_eq' (x := .dat (.ref j)) (y := .dat (.int oth)) rfl rfl (ix_eq (seq_ref ej) (int_at p0 (by omega)))) ?_
      rw [toDp_dat]
      refine ok_var.mpr ⟨_, rfl, ok_var.mpr ⟨_, rfl, ?_⟩⟩
      rw [toDp_dat]
      have eo : one = ((one.toNat : Nat) : Int) := by omega
      refine ⟨A.set j (.lst ((c'.map D.int).set one.toNat (.int (c'.getD oth.toNat 0)))), ?_, ?_⟩
      · have := kSetL_of (k := one.toNat) (d := .int (c'.getD oth.toNat 0)) ej (by rw [List.length_map]; omega)
        rw [← eo] at this; exact this
      rw [nxP_nx]
      have hlj : j < A.length := (List.getElem?_eq_some_iff.mp ej).1
      refine ret_eq rfl ⟨j, c'.set one.toNat (c'.getD oth.toNat 0), rfl, ?_, seti_col hc' (by omega), hj, ?_⟩
      · rw [List.getElem?_set_self hlj, List.map_set]
      · refine nw.setB h hj ?_
        show D.unds _ _ = true
        rw [← List.map_set]; exact unds_ints _ _
    · rw [if_neg hb, oks_nil, nxP_nx]
      exact ret_eq rfl ⟨j, c', rfl, ej, hc', hj, nw⟩
  rw [oks_if]
  refine ok_of_eq (M := M4) (a := decide (way < 3)) (tst_eq (op_eq' (x := .dat (.int way)) rfl rfl (eq_of_ok (k_lt.mpr ⟨rfl, rfl⟩)))) ?_
  by_cases wl : way < 3
  · rw [if_pos (by simpa using wl), oks_seq, oks_set]
    refine ok_of_eq (elr rfl) (toDp_new ?_)
    rw [nxP_nx, oks_set]
    have nw5 := nw4.trans (nw4.gen.lst (up.map D.int) (unds_ints _ _))
    have e9 : (M4 ++ [MO.lst (up.map D.int)])[M4.length]? = some (.lst (up.map D.int)) := last_get _ _
    have e3'' : (M4 ++ [MO.lst (up.map D.int)])[j3]? = some (.lst (c.map D.int)) := by
      rw [List.getElem?_append_left (List.getElem?_eq_some_iff.mp e3').1]; exact e3'
    have hj9 : M.length ≤ M4.length := nw4.len
    have hj39 : j3 < M4.length := (List.getElem?_eq_some_iff.mp e3').1
    generalize hM5 : M4 ++ [MO.lst (up.map D.int)] = M5 at nw5 e9 e3''
    generalize hj9' : M4.length = j9 at e9 hj9 hj39
    show Ok (fComp _ _ _ _ _ [some (.ref n), some (.int many), some (.int way), some (.ref j3), none, some (.int one), some (.int oth), none, some (.ref j8), some (.ref j9)] M5) _
    have hul : up.length = many.toNat := by have := cu.1; omega
    refine ok_comp.mpr ⟨_, _, _, iSeq_of (x := .dat (.ref j3)) rfl (seq_ref e3''), by rw [List.length_map]; exact size_ok (by omega), ?_⟩
    refine Ok.mono (ok_compL (I := fun r acc M' => ∃ (r' a left : List Int), r = r'.map D.int ∧ acc = a.map D.int ∧ (a.length + r'.length : Nat) = many.toNat ∧ (∀ x ∈ a, 0 ≤ x ∧ x < many) ∧ left.length = r'.length ∧ (∀ x ∈ left, 0 ≤ x ∧ x < many) ∧ M'[j9]? = some (.lst (left.map D.int)) ∧ M'[j3]? = some (.lst (c.map D.int)) ∧ (∀ x ∈ r', 0 ≤ x) ∧ Nw M M' n k)
      (Q := fun acc M' => ∃ a : List Int, acc = a.map D.int ∧ Col many a ∧ Nw M M' n k) ?_ ?_ _ [] _ ⟨c, [], up, rfl, rfl, by simp; omega, (fun _ h => by cases h), by omega, cu.2, e9, e3'', (fun x hx => (hc x hx).1), nw5⟩) ?_
    · rintro x r acc M' ⟨r', a, left, hr, rfl, hal, ha, hll, hlf, e9', e3s, hr0, nw⟩
      obtain ⟨g, r'', rfl, rfl, rfl⟩ := map_ints_cons hr
      refine ⟨.inl e3s, _, rfl, ok_tTrue.mpr ?_⟩
      rw [if_pos rfl]
      have hg0 := hr0 g List.mem_cons_self
      have hlen0 : 0 < left.length := by rw [hll]; simp
      have hz : left.length ≤ 1000 := by rw [hll]; omega
      have ei : fOp kMod (fVar 7) (fB kLen (eCons (fVar 9) eNil)) [some (.ref n), some (.int many), some (.int way), some (.ref j3), none, some (.int one), some (.int oth), some (.int g), some (.ref j8), some (.ref j9)] M' = some (.dat (.int ((g.toNat % left.length : Nat) : Int)), M') := by
        have := len_eq (f := fVar 9) (σ := [some (.ref n), some (.int many), some (.int way), some (.ref j3), none, some (.int one), some (.int oth), some (.int g), some (.ref j8), some (.ref j9)]) (M := M') rfl (seq_ref e9')
        rw [List.length_map] at this
        refine op_eq' (x := .dat (.int g)) rfl this ?_
        rw [mod_eq (by omega)]
        rw [show ((g.toNat % left.length : Nat) : Int) = g % left.length by rw [Int.natCast_emod, Int.toNat_of_nonneg hg0]]
      have hlt : g.toNat % left.length < left.length := Nat.mod_lt _ hlen0
      refine ok_M.mpr (ok_var.mpr ⟨_, rfl, ⟨_, lst_ref e9'⟩, ok_of_eq (a1_eq ei) ?_⟩)
      have hget : (left.map D.int)[g.toNat % left.length]? = some (.int (left[g.toNat % left.length])) := by
        rw [List.getElem?_map, List.getElem?_eq_getElem hlt]; rfl
      refine k_popN e9' hget (by omega) ?_
      rw [toDp_dat]
      have hl9 : j9 < M'.length := (List.getElem?_eq_some_iff.mp e9').1
      refine ⟨r'', a ++ [left[g.toNat % left.length]], left.eraseIdx (g.toNat % left.length), rfl, by simp, by simp at hal ⊢; omega, fun x hx => ?_, ?_, fun x hx => hlf x (List.mem_of_mem_eraseIdx hx), ?_, ?_, fun x hx => hr0 x (List.mem_cons_of_mem _ hx), ?_⟩
      · rcases List.mem_append.mp hx with q | q
        · exact ha x q
        · have : x = left[g.toNat % left.length] := by simpa using q
          rw [this]; exact hlf _ (List.getElem_mem hlt)
      · rw [List.length_eraseIdx_of_lt hlt, hll]; simp
      · rw [List.getElem?_set_self hl9, map_eraseIdx]
      · rw [List.getElem?_set_ne (by omega)]; exact e3s
      · refine nw.setB h hj9 ?_
        show D.unds _ _ = true
        rw [← map_eraseIdx]; exact unds_ints _ _
    · rintro acc M' ⟨r', a, left, hr, rfl, hal, ha, hll, hlf, e9', e3s, hr0, nw⟩
      have : r' = [] := by cases r' with | nil => rfl | cons _ _ => cases hr
      subst this
      exact ⟨.inl e3s, a, rfl, ⟨by simp at hal; omega, ha⟩, nw⟩
    · rintro ys M' ⟨a, ea, hca, nw⟩
      rw [List.nil_append] at ea
      subst ea
      refine toDp_new ?_
      rw [nxP_nx]
      exact tail _ _ _ M'.length a (nw.trans (nw.gen.lst _ (unds_ints _ _))) nw.len (last_get _ _) hca
  · rw [if_neg (by simpa using wl), oks_nil, nxP_nx]
    exact tail _ _ M4 j8 up nw4 hj8 e8 cu
/-- a machine by its columns -/
def byCols (many : Int) (cs : List (List Int)) : List (List Int) := (List.range many.toNat).map fun r => cs.map fun c => c.getD r 0
theorem byCols_is {many : Int} (h0 : 0 < many) {cs : List (List Int)} (hc : ∀ c ∈ cs, Col many c) (hl : 0 < cs.length) : IsM (byCols many cs) cs.length := by
  have hlen : (byCols many cs).length = many.toNat := by unfold byCols; simp
  refine ⟨by omega, hl, fun r hr => ?_⟩
  rw [hlen]
  unfold byCols at hr
  obtain ⟨k, hk, rfl⟩ := List.mem_map.mp hr
  refine ⟨by simp, fun g hg => ?_⟩
  obtain ⟨c, hcm, rfl⟩ := List.mem_map.mp hg
  have := hc c hcm
  have h1 := this.1
  have := getD_in this (j := k) (by have := List.mem_range.mp hk; omega)
  omega
/-- lists that lie behind, as the list of columns names them -/
def ColsAt (M : Mem) (lo : Nat) (many : Int) (js : List Nat) (cs : List (List Int)) : Prop := js.length = cs.length ∧ ∀ (i : Nat) j c, js[i]? = some j → cs[i]? = some c → lo < j ∧ M[j]? = some (.lst (c.map D.int)) ∧ Col many c
theorem machine_ok {M : Mem} {n k : Nat} {most lm : Int} (h : Gen M n k) (hm : 0 < most) (hm1 : most ≤ 900) (hl : 0 < lm) (hl1 : lm ≤ 900) :
    Ok (m_law_machine [.ref n, .int most, .int lm] M) fun d M' => (∃ rows l, d = mD rows ∧ IsM rows l ∧ (rows.length ≤ 8 ∨ (rows.length : Int) ≤ most) ∧ (l : Int) ≤ lm) ∧ Nw M M' n k := by
  obtain ⟨hn, hk⟩ := h.lt
  unfold m_law_machine
  refine ok_trim ?_
  rw [ok_def]
  unfold b_law_machine
  show OkS (sSeq _ _ [some (.ref n), some (.int most), some (.int lm), none, none, none, none, none, none, none, none] M) _
  rw [oks_seq, oks_set]
  refine ok_op.mpr (ok_c.mpr ?_)
  refine ok_call.mpr (ok_aCons.mpr (ok_toD.mpr (ok_var.mpr ⟨_, rfl, ?_⟩)))
  rw [toDp_dat, ok_aCons, ok_toD, ok_op]
  simp only [ok_aCons, ok_toD, ok_c, ok_var, toDp_dat, toDp_fl, ok_lst, ok_aNil, List.getElem?_cons_succ, List.getElem?_cons_zero, Option.some.injEq, exists_eq_left']
  refine ⟨size_ok (by simp), call_next h rfl rfl (by decide) (by decide) fun i M0 i0 i1 nw0 _ => ?_⟩
  obtain ⟨mm, em, m0, m1, m2⟩ : ∃ mm : Int, [D.int 3, D.int 7, D.int most][i.toNat]? = some (.int mm) ∧ 0 < mm ∧ mm ≤ 900 ∧ (mm ≤ 7 ∨ mm ≤ most) := by
    have hi : i = 0 ∨ i = 1 ∨ i = 2 := by omega
    rcases hi with rfl | rfl | rfl
    · exact ⟨3, rfl, by decide, by decide, .inl (by decide)⟩
    · exact ⟨7, rfl, by decide, by decide, .inl (by decide)⟩
    · exact ⟨most, rfl, hm, hm1, .inr (Int.le_refl _)⟩
  refine k_ix seq_fl (at_int i0 em) ?_
  rw [toDp_dat]
  refine Ok.mono (next_ok nw0.gen m0 (by omega)) ?_
  rintro d M1 ⟨⟨R, rfl, R0, R1⟩, nw1, _⟩
  rw [k_plus, toDp_dat, nxP_nx]
  have nw1' := nw0.trans nw1
  generalize eR : 1 + R = many
  have r0 : 0 < many := by omega
  have r1 : many ≤ 900 := by omega
  have r2 : many ≤ 7 ∨ many ≤ most := by omega
  rw [oks_seq, oks_set]
  refine ok_op.mpr (ok_c.mpr (call_next nw1'.gen rfl rfl hl (by omega) fun L M2 L0 L1 nw2 _ => k_plus.mpr ?_))
  rw [toDp_dat, nxP_nx, oks_seq, oks_set]
  generalize eL : 1 + L = cnt
  have nw2' := nw1'.trans nw2
  refine call_next nw2'.gen rfl rfl (by decide) (by decide) fun srt M3 s0 s1 nw3 _ => ?_
  have nw3' := nw2'.trans nw3
  rw [toDp_dat, nxP_nx, oks_seq, oks_set]
  refine ok_lst.mpr (ok_aNil.mpr ⟨size_ok (by simp), toDp_new ?_⟩)
  rw [nxP_nx, oks_seq, oks_for]
  have nw4 := nw3'.trans (nw3'.gen.lst [] rfl)
  have e6 : (M3 ++ [MO.lst ([] : List D)])[M3.length]? = some (.lst []) := last_get _ _
  have hj6 : M.length ≤ M3.length := nw3'.len
  generalize hM4 : M3 ++ [MO.lst ([] : List D)] = M4 at nw4 e6
  generalize hj6' : M3.length = j6 at e6 hj6
  show ∃ xs gd M1, iRange _ [some (.ref n), some (.int most), some (.int lm), some (.int many), some (.int cnt), some (.int srt), some (.ref j6), none, none, none, none] M4 = some (xs, gd, M1) ∧ _
  refine ⟨_, _, _, range_of rfl (by omega) (by omega), ?_⟩
  refine oks_up (n := cnt.toNat) (I := fun i σ M' => ∃ x y, σ = [some (.ref n), some (.int most), some (.int lm), some (.int many), some (.int cnt), some (.int srt), some (.ref j6), x, y, none, none] ∧ ∃ (js : List Nat) (cs : List (List Int)), M'[j6]? = some (.lst (js.map D.ref)) ∧ ColsAt M' j6 many js cs ∧ cs.length = i ∧ Nw M M' n k) ?_ ?_ _ _ ⟨none, none, rfl, [], [], e6, ⟨rfl, fun i j c h => by simp at h⟩, rfl, nw4⟩
  · rintro i σ M' hi ⟨x, y, rfl, js, cs, ej, hcs, hl, nw⟩
    refine ⟨_, rfl, ?_⟩
    rw [oks_seq, oks_set]
    have hmod : ∃ w0 : Int, fOp kIx (fLst (aCons (toD (fC (.int 3))) (aCons (toD (fC (.int 4))) aNil))) (fOp kMod (fVar 7) (fC (.int 2))) [some (.ref n), some (.int most), some (.int lm), some (.int many), some (.int cnt), some (.int srt), some (.ref j6), some (.int (i : Nat)), y, none, none] M' = some (.dat (.int w0), M') := by
      have ei : fOp kMod (fVar 7) (fC (.int 2)) [some (.ref n), some (.int most), some (.int lm), some (.int many), some (.int cnt), some (.int srt), some (.ref j6), some (.int (i : Nat)), y, none, none] M' = some (.dat (.int ((i : Int) % 2)), M') := op_eq' (x := .dat (.int (i : Nat))) rfl rfl (mod_eq (by decide))
      have el : fLst (aCons (toD (fC (.int 3))) (aCons (toD (fC (.int 4))) aNil)) [some (.ref n), some (.int most), some (.int lm), some (.int many), some (.int cnt), some (.int srt), some (.ref j6), some (.int (i : Nat)), y, none, none] M' = some (.fl [.int 3, .int 4], M') := eq_of_ok (ok_lst.mpr (ok_of_eq (aC_eq (d := .int 3) rfl (a1_eq (d := .int 4) rfl)) ⟨size_ok (by simp), rfl, rfl⟩))
      have h2 : (i : Int) % 2 = 0 ∨ (i : Int) % 2 = 1 := by omega
      rcases h2 with q | q
      · rw [q] at ei; exact ⟨3, op_eq' el ei rfl⟩
      · rw [q] at ei; exact ⟨4, op_eq' el ei rfl⟩
    obtain ⟨w0, ew⟩ := hmod
    refine ok_of_eq ew ?_
    rw [toDp_dat, nxP_nx]
    -- whichever way is taken, a column is made
    have fin : ∀ (way : Int) (M5 : Mem), Nw M' M5 n k → OkS (sExpr (fM kAppend (fVar 6) (aCons (toD (fCall m_law_column (aCons (toD (fVar 0)) (aCons (toD (fVar 3)) (aCons (toD (fVar 8)) aNil))))) aNil)) [some (.ref n), some (.int most), some (.int lm), some (.int many), some (.int cnt), some (.int srt), some (.ref j6), some (.int (i : Nat)), some (.int way), none, none] M5)
        fun o σ2 M2 => match o with | .nx => (∃ x y, σ2 = [some (.ref n), some (.int most), some (.int lm), some (.int many), some (.int cnt), some (.int srt), some (.ref j6), x, y, none, none] ∧ ∃ (js : List Nat) (cs : List (List Int)), M2[j6]? = some (.lst (js.map D.ref)) ∧ ColsAt M2 j6 many js cs ∧ cs.length = i + 1 ∧ Nw M M2 n k) | _ => False := by
      intro way M5 nw5
      have ej5 := nw5.get ej (by omega) (by omega)
      rw [oks_expr]
      refine ok_M.mpr (ok_var.mpr ⟨_, rfl, ⟨_, lst_ref ej5⟩, ok_aCons.mpr (ok_toD.mpr (ok_call.mpr (ok_of_eq (aC_eq rfl (aC_eq rfl (a1_eq rfl))) ?_)))⟩)
      refine Ok.mono (column_ok nw5.gen r0 (by omega)) ?_
      rintro d M6 ⟨j, c, rfl, ec, cc, hj, nw6⟩
      have ej6 := nw6.get ej5 (by omega) (by omega)
      rw [toDp_dat, ok_aNil, k_append ej6 (by rw [List.length_map, hcs.1, hl]; exact Nat.lt_of_lt_of_le (m := 95000) (by omega) (size_ok (by omega)))]
      have hlt6 : j6 < M5.length := (List.getElem?_eq_some_iff.mp ej5).1
      have hlt6' : j6 < M6.length := Nat.lt_of_lt_of_le hlt6 nw6.len
      refine ⟨_, _, rfl, js ++ [j], cs ++ [c], ?_, ⟨by simp [hcs.1], fun a b c' h1 h2 => ?_⟩, by simp [hl], ?_⟩
      · rw [List.getElem?_set_self hlt6', List.map_append]; rfl
      · have keep : ∀ {b : Nat} {u : MO}, j6 < b → M6[b]? = some u → (M6.set j6 (.lst (js.map D.ref ++ [.ref j])))[b]? = some u := fun {b u} hb e => by rw [List.getElem?_set_ne (by omega)]; exact e
        by_cases ha : a < js.length
        · rw [List.getElem?_append_left ha] at h1
          rw [List.getElem?_append_left (by rw [← hcs.1]; exact ha)] at h2
          obtain ⟨q1, q2, q3⟩ := hcs.2 a b c' h1 h2
          exact ⟨q1, keep q1 (nw6.get (nw5.get q2 (by omega) (by omega)) (by omega) (by omega)), q3⟩
        · have ha' : a = js.length := by
            have := (List.getElem?_eq_some_iff.mp h1).1
            simp at this; omega
          subst ha'
          rw [List.getElem?_append_right (Nat.le_refl _)] at h1
          rw [List.getElem?_append_right (by rw [hcs.1]; exact Nat.le_refl _)] at h2
          simp at h1
          rw [hcs.1] at h2
          simp at h2
          subst h1 h2
          exact ⟨by omega, keep (by omega) ec, cc⟩
      · refine ((nw.trans nw5).trans nw6).setB h hj6 ?_
        show D.unds _ _ = true
        have w1 : D.unds M6.length (js.map D.ref) = true := nw6.gen.wf j6 _ ej6
        have hlj : j < M6.length := (List.getElem?_eq_some_iff.mp ec).1
        rw [unds_app, w1]
        simp [D.unds, D.und, hlj]
    have two : ∀ (way : Int) (R : Out → Sd → Mem → Prop), (∀ σ2 M2, (∃ x y, σ2 = [some (.ref n), some (.int most), some (.int lm), some (.int many), some (.int cnt), some (.int srt), some (.ref j6), x, y, none, none] ∧ ∃ (js : List Nat) (cs : List (List Int)), M2[j6]? = some (.lst (js.map D.ref)) ∧ ColsAt M2 j6 many js cs ∧ cs.length = i + 1 ∧ Nw M M2 n k) → R .nx σ2 M2) →
        OkS (sSeq (sIf (tst (fOp kEq (fVar 5) (fC (.int 9)))) (sSet 8 (fCall m_law_next (aCons (toD (fVar 0)) (aCons (toD (fC (.int 7))) aNil)))) sNil) (sExpr (fM kAppend (fVar 6) (aCons (toD (fCall m_law_column (aCons (toD (fVar 0)) (aCons (toD (fVar 3)) (aCons (toD (fVar 8)) aNil))))) aNil))) [some (.ref n), some (.int most), some (.int lm), some (.int many), some (.int cnt), some (.int srt), some (.ref j6), some (.int (i : Nat)), some (.int way), none, none] M') R := by
      intro way R hR
      have go : ∀ (way : Int) (M5 : Mem), Nw M' M5 n k → OkS (sExpr (fM kAppend (fVar 6) (aCons (toD (fCall m_law_column (aCons (toD (fVar 0)) (aCons (toD (fVar 3)) (aCons (toD (fVar 8)) aNil))))) aNil)) [some (.ref n), some (.int most), some (.int lm), some (.int many), some (.int cnt), some (.int srt), some (.ref j6), some (.int (i : Nat)), some (.int way), none, none] M5) R := fun way M5 nw5 => OkS.mono (fin way M5 nw5) (by
        intro o σ2 M2 z
        cases o with
        | nx => exact hR _ _ z
        | _ => exact z.elim)
      rw [oks_seq, oks_if]
      refine ok_of_eq (M := M') (a := decide (srt = 9)) (tst_eq (op_eq' (x := .dat (.int srt)) rfl rfl (eq_of_ok (k_eq.mpr ⟨rfl, rfl⟩)))) ?_
      by_cases h9 : srt = 9
      · rw [if_pos (by simpa using h9), oks_set]
        refine call_next nw.gen rfl rfl (by decide) (by decide) fun w M5 _ _ nw5 _ => ?_
        rw [toDp_dat, nxP_nx]
        exact go w M5 nw5
      · rw [if_neg (by simpa using h9), oks_nil, nxP_nx]
        exact go way M' (Nw.refl nw.gen)
    rw [oks_seq, oks_if]
    refine ok_of_eq (M := M') (a := decide (srt < 7)) (tst_eq (op_eq' (x := .dat (.int srt)) rfl rfl (eq_of_ok (k_lt.mpr ⟨rfl, rfl⟩)))) ?_
    by_cases h7 : srt < 7
    · rw [if_pos (by simpa using h7), oks_set]
      refine ok_var.mpr ⟨_, rfl, ?_⟩
      rw [toDp_dat, nxP_nx]
      exact two srt _ fun σ2 M2 z => z
    · rw [if_neg (by simpa using h7), oks_nil, nxP_nx]
      exact two w0 _ fun σ2 M2 z => z
  · rintro σ M' ⟨x, y, rfl, js, cs, ej, hcs, hl, nw⟩
    rw [nxP_nx]
    -- the rows out of the columns
    have last : ∀ (A : Mem) (j : Nat) (js' : List Nat) (cs' : List (List Int)), Nw M A n k → A[j]? = some (.lst (js'.map D.ref)) → ColsAt A j6 many js' cs' → cs'.length = cnt.toNat →
        OkS (sRet (fB kTuple (eCons (fComp [10] (iRange (aCons (toD (fVar 3)) aNil)) (gN 10) tTrue (fB kTuple (eCons (fComp [9] (iSeq (fVar 6)) (gN 9) tTrue (fOp kIx (fVar 9) (fVar 10))) eNil))) eNil)) [some (.ref n), some (.int most), some (.int lm), some (.int many), some (.int cnt), some (.int srt), some (.ref j), x, y, none, none] A)
          fun o x M1 => match o with
          | .ret d => (D.und M.length d = true ∧ M.length ≤ M1.length ∧ ∀ (j : Nat) u, j < M.length → M1[j]? = some u → MO.und M.length u = true) ∧ (∃ rows l, d = mD rows ∧ IsM rows l ∧ (rows.length ≤ 8 ∨ (rows.length : Int) ≤ most) ∧ (l : Int) ≤ lm) ∧ Nw M (M1.take M.length) n k
          | .nx => (D.und M.length D.non = true ∧ M.length ≤ M1.length ∧ ∀ (j : Nat) u, j < M.length → M1[j]? = some u → MO.und M.length u = true) ∧ (∃ rows l, D.non = mD rows ∧ IsM rows l ∧ (rows.length ≤ 8 ∨ (rows.length : Int) ≤ most) ∧ (l : Int) ≤ lm) ∧ Nw M (M1.take M.length) n k
          | _ => False := by
      intro A j js' cs' nwA eA hA hlA
      have hcol : ∀ c ∈ cs', Col many c := fun c hc => by
        obtain ⟨i, hi, rfl⟩ := List.mem_iff_getElem.mp hc
        exact (hA.2 i (js'[i]'(by rw [hA.1]; exact hi)) cs'[i] (List.getElem?_eq_getElem _) (List.getElem?_eq_getElem _)).2.2
      have hlen : (byCols many cs').length = many.toNat := by unfold byCols; simp
      refine ret_eq (d := mD (byCols many cs')) ?_ ⟨⟨mD_und _, nwA.len, nwA.wf0 h⟩, ⟨byCols many cs', cs'.length, rfl, byCols_is r0 hcol (by omega), by omega, by omega⟩, nwA.trim h⟩
      refine (tuple_eq (comp_map (List.range many.toNat) (fun k => D.int k) (fun k => .tup ((cs'.map fun c => c.getD k 0).map D.int)) (rangeI_eq (f := fVar 3) rfl (by omega) (by omega)) trivial (by simp; omega) fun r hr => ⟨_, rfl, ?_⟩) seq_fl).trans ?_
      · have hr' := List.mem_range.mp hr
        refine (tuple_eq (comp_map (gd := gdOf (.dat (.ref j)) (js'.map D.ref)) (List.range js'.length) (fun i => D.ref (js'.getD i 0)) (fun i => .int ((cs'.getD i []).getD r 0)) ?_ ?_ (by rw [List.length_range, hA.1, hlA]; omega) fun i hi => ⟨_, rfl, ?_⟩) seq_fl).trans ?_
        · rw [show ((List.range js'.length).map fun i => D.ref (js'.getD i 0)) = js'.map D.ref by
            apply List.ext_getElem
            · simp
            · intro i h1 h2
              simp at h1
              simp [h1]]
          exact iSeq_of (x := .dat (.ref j)) rfl (seq_ref eA)
        · exact .inl eA
        · have hi' := List.mem_range.mp hi
          have hc' : i < cs'.length := by rw [← hA.1]; exact hi'
          have ej' : js'[i]? = some (js'.getD i 0) := by rw [List.getD_eq_getElem?_getD, List.getElem?_eq_getElem hi']; rfl
          have ec' : cs'[i]? = some (cs'.getD i []) := by rw [List.getD_eq_getElem?_getD, List.getElem?_eq_getElem hc']; rfl
          obtain ⟨_, q2, q3⟩ := hA.2 i _ _ ej' ec'
          have hz := q3.1
          exact op_eq' (x := .dat (.ref (js'.getD i 0))) (y := .dat (.int (r : Nat))) rfl rfl (ix_eq (seq_ref q2) (int_at (by omega) (by omega)))
        · congr 3
          rw [List.map_map]
          refine congrArg D.tup ?_
          apply List.ext_getElem
          · simp [hA.1]
          · intro i h1 h2
            simp at h1 h2
            have h2' : i < cs'.length := h2
            simp [h2']
      · unfold mD byCols; rw [List.map_map]; rfl
    rw [oks_seq, oks_if]
    refine ok_of_eq (M := M') (a := decide (srt = 8)) (tst_eq (op_eq' (x := .dat (.int srt)) rfl rfl (eq_of_ok (k_eq.mpr ⟨rfl, rfl⟩)))) ?_
    by_cases h8 : srt = 8
    · rw [if_pos (by simpa using h8), oks_set]
      have s2 := slL (f := fVar 6) (fl := oNone) (fh := oSome (fC (.int 1))) (σ := [some (.ref n), some (.int most), some (.int lm), some (.int many), some (.int cnt), some (.int srt), some (.ref j6), x, y, none, none]) rfl rfl (lst_ref ej) rfl (oS (i := 1) rfl)
      rw [cut_take1] at s2
      have hjl : 0 < js.length := by rw [hcs.1]; omega
      have hcl : 0 < cs.length := by omega
      obtain ⟨j0, jr, rfl⟩ : ∃ a b, js = a :: b := by cases js with | nil => simp at hjl | cons a b => exact ⟨a, b, rfl⟩
      obtain ⟨c0, cr, rfl⟩ : ∃ a b, cs = a :: b := by cases cs with | nil => simp at hcl | cons a b => exact ⟨a, b, rfl⟩
      rw [show ((j0 :: jr).map D.ref).take 1 = [D.ref j0] from rfl] at s2
      have er : kRep (.fl [D.ref j0]) (.dat (.int cnt)) M' = some (.fl ((List.replicate cnt.toNat j0).map D.ref), M') := by
        unfold kRep
        dsimp only [tupOf, mlOf]
        rw [if_pos ⟨by omega, by omega, size_ok (by simp; omega)⟩]
        have : (List.replicate cnt.toNat [D.ref j0]).flatten = (List.replicate cnt.toNat j0).map D.ref := by
          rw [List.map_replicate]
          generalize cnt.toNat = q
          induction q with
          | zero => rfl
          | succ q ih => rw [List.replicate_succ, List.flatten_cons, ih, List.replicate_succ]; rfl
        rw [this]
      refine ok_op.mpr (ok_of_eq s2 (ok_var.mpr ⟨_, rfl, ok_of_eq er (toDp_new ?_)⟩))
      rw [nxP_nx]
      obtain ⟨q1, q2, q3⟩ := hcs.2 0 j0 c0 rfl rfl
      have hlj : j0 < M'.length := (List.getElem?_eq_some_iff.mp q2).1
      refine last _ M'.length (List.replicate cnt.toNat j0) (List.replicate cnt.toNat c0) (nw.trans (nw.gen.lst _ (unds_all fun z hz => ?_))) (last_get _ _) ⟨by simp, fun i j c h1 h2 => ?_⟩ (by simp)
      · obtain ⟨a, ha, rfl⟩ := List.mem_map.mp hz
        rw [(List.mem_replicate.mp ha).2]
        simp [D.und, hlj]
      · have e1 : j = j0 := (List.mem_replicate.mp (List.mem_of_getElem? h1)).2
        have e2 : c = c0 := (List.mem_replicate.mp (List.mem_of_getElem? h2)).2
        subst e1 e2
        exact ⟨q1, by rw [List.getElem?_append_left hlj]; exact q2, q3⟩
    · rw [if_neg (by simpa using h8), oks_nil, nxP_nx]
      exact last M' j6 js cs nw ej hcs hl
end Lad

set_option Elab.async false
set_option linter.all false
set_option maxRecDepth 100000
namespace Lad
open PySem PySem.Spec PyProof.Rows L2 L3 ST Law
noncomputable def b_law_numbered : FS := (sSeq (sSet 1 (fLst aNil))
    (sSeq (sFor (iSeq (fVar 0)) (gN 2) (sIf (tst (fOp (kIn true) (fVar 2) (fVar 1))) (sExpr (fM kAppend (fVar 1) (aCons (toD (fVar 2)) aNil))) sNil))
    (sRet (fB kTuple (eCons (fComp [2] (iSeq (fVar 0)) (gN 2) tTrue (fM kIndexL (fVar 1) (aCons (toD (fVar 2)) aNil))) eNil)))))
noncomputable def m_law_numbered : FF := fTrim (fDef 3 b_law_numbered)

theorem kIn_intsD {neg : Bool} {y : EV} {M : Mem} {g : Int} {xs : List Int} (h : seqOf M y = some (xs.map D.int)) : kIn neg (.dat (.int g)) y M = some (.dat (.bl (if neg then !(xs.any fun y => decide (y = g)) else xs.any fun y => decide (y = g))), M) := by
  unfold kIn; dsimp only; rw [h]; dsimp only; rw [intsOf_map]
theorem any_mem (xs : List Int) (g : Int) : (xs.any fun y => decide (y = g)) = decide (g ∈ xs) := by
  induction xs with
  | nil => rfl
  | cons x r ih =>
    rw [List.any_cons, ih]
    by_cases h : x = g
    · subst h; simp
    · have : ¬ g = x := fun e => h e.symm
      simp [h, this]
/-- numbered as they are first met -/
def numR (xs : List Int) : List Int := xs.map fun x => ((insAll xs).idxOf x : Int)
theorem numR_len (xs : List Int) : (numR xs).length = xs.length := by unfold numR; simp
theorem indexL_eq {M : Mem} {j : Nat} {xs : List Int} {i : Int} (h : M[j]? = some (.lst (xs.map D.int))) (hi : i ∈ xs) (hz : xs.length ≤ 90000) : kIndexL (.dat (.ref j)) [.int i] M = some (.int (xs.idxOf i), M) := by
  unfold kIndexL; dsimp only; rw [h]; dsimp only; rw [intsOf_map]; dsimp only; rw [if_pos ⟨hi, hz⟩]
theorem numbered_eq {M : Mem} (wf : ∀ (j : Nat) u, M[j]? = some u → MO.und M.length u = true) {j : Nat} {xs : List Int} (hj : M[j]? = some (.lst (xs.map D.int))) (hz : xs.length ≤ 4000) : m_law_numbered [.ref j] M = some (tI (numR xs), M) := by
  refine eq_of_ok ?_
  unfold m_law_numbered
  refine ok_trim ?_
  rw [ok_def]
  unfold b_law_numbered
  show OkS (sSeq _ _ [some (.ref j), none, none] M) _
  have hjl : j < M.length := (List.getElem?_eq_some_iff.mp hj).1
  rw [oks_seq, oks_set]
  refine ok_lst.mpr (ok_aNil.mpr ⟨size_ok (by simp), toDp_new ?_⟩)
  rw [nxP_nx, oks_seq, oks_for]
  show ∃ xs gd M1, iSeq (fVar 0) [some (.ref j), some (.ref M.length), none] (M ++ [.lst []]) = some (xs, gd, M1) ∧ _
  have ej : ∀ u : MO, (M ++ [u])[j]? = some (.lst (xs.map D.int)) := fun u => by rw [List.getElem?_append_left hjl]; exact hj
  refine ⟨_, _, _, iSeq_of (x := .dat (.ref j)) rfl (seq_ref (ej _)), ?_⟩
  refine oks_loop (I := fun r σ M' => ∃ (y : Option D) (a b : List Int), σ = [some (.ref j), some (.ref M.length), y] ∧ r = b.map D.int ∧ a ++ b = xs ∧ M' = M ++ [.lst ((insAll a).map D.int)]) ?_ ?_ _ _ _ ⟨none, [], xs, rfl, rfl, rfl, rfl⟩
  · rintro x r σ M' ⟨y, a, b, rfl, hr, hab, rfl⟩
    obtain ⟨g, b', rfl, rfl, rfl⟩ := map_ints_cons hr
    refine ⟨.inl (ej _), _, rfl, ?_⟩
    have ek : (M ++ [MO.lst ((insAll a).map D.int)])[M.length]? = some (.lst ((insAll a).map D.int)) := last_get _ _
    have hin : insAll (a ++ [g]) = ins (insAll a) g := by unfold insAll; rw [List.foldl_append]; rfl
    rw [oks_if]
    refine ok_of_eq (M := M ++ [MO.lst ((insAll a).map D.int)]) (a := !decide (g ∈ insAll a)) ?_ ?_
    · refine tst_eq (op_eq' (x := .dat (.int g)) (y := .dat (.ref M.length)) rfl rfl ?_)
      rw [kIn_intsD (seq_ref ek), any_mem]; rfl
    have hla : a.length < xs.length := by rw [← hab]; simp
    have hli := insAll_len a
    by_cases hg : g ∈ insAll a
    · rw [if_neg (by simp [hg]), oks_nil]
      refine ⟨_, a ++ [g], b', rfl, rfl, by rw [← hab]; simp, ?_⟩
      rw [hin]; unfold ins; rw [if_pos hg]
    · rw [if_pos (by simp [hg]), oks_expr]
      refine ok_M.mpr (ok_var.mpr ⟨_, rfl, ⟨_, lst_ref ek⟩, ok_of_eq (a1_eq (d := .int g) rfl) ?_⟩)
      rw [k_append ek (by rw [List.length_map]; exact Nat.lt_of_lt_of_le (m := 95000) (by omega) (size_ok (by omega)))]
      refine ⟨_, a ++ [g], b', rfl, rfl, by rw [← hab]; simp, ?_⟩
      rw [hin]; unfold ins; rw [if_neg hg, List.set_append_right _ _ (Nat.le_refl _)]
      simp
  · rintro σ M' ⟨y, a, b, rfl, hr, hab, rfl⟩
    have : b = [] := by cases b with | nil => rfl | cons _ _ => cases hr
    subst this
    rw [List.append_nil] at hab
    subst hab
    refine ⟨.inl (ej _), ?_⟩
    rw [nxP_nx]
    have ek : (M ++ [MO.lst ((insAll a).map D.int)])[M.length]? = some (.lst ((insAll a).map D.int)) := last_get _ _
    have hli := insAll_len a
    refine ret_eq (d := tI (numR a)) ?_ ⟨⟨und_ints _, by simp, fun i u hi e => ?_⟩, rfl, by simp⟩
    · refine (tuple_eq (comp_map (gd := gdOf (.dat (.ref j)) (a.map D.int)) a D.int (fun x => .int ((insAll a).idxOf x : Int)) (iSeq_of (x := .dat (.ref j)) rfl (seq_ref (ej _))) (.inl (ej _)) (by omega) fun x hx => ⟨_, rfl, ?_⟩) seq_fl).trans ?_
      · refine eq_of_ok (ok_M.mpr (ok_var.mpr ⟨_, rfl, ⟨_, lst_ref ek⟩, ok_of_eq (a1_eq (d := .int x) rfl) (ok_of_eq (indexL_eq ek ((insAll_mem a x).mpr hx) (by omega)) ⟨rfl, rfl⟩)⟩))
      · unfold numR tI; rw [List.map_map]; rfl
    · rw [List.getElem?_append_left hi] at e
      exact wf i u e
end Lad

set_option Elab.async false
set_option linter.all false
set_option maxRecDepth 100000
namespace Lad
open PySem PySem.Spec PyProof.Rows L2 L3 ST Law
theorem orF_eq {a b : FT} {σ : Sd} {M : Mem} {k : Bool} (ha : a σ M = some (false, M)) (hb : b σ M = some (k, M)) : tOrF a b σ M = some (k, M) := by unfold tOrF; rw [ha]; exact hb
theorem ntT {a : FE} {σ : Sd} {M : Mem} {k : Bool} (ha : a σ M = some (.dat (.bl k), M)) : tNotF (tst a) σ M = some (!k, M) := by
  refine eq_of_ok (ok_tNot.mpr (ok_of_eq (tst_eq ha) ⟨rfl, rfl⟩))
theorem aC' {f : FE} {g : FA} {σ : Sd} {M M1 M2 : Mem} {d : D} {ds : List D} (h : toD f σ M = some (d, M1)) (hg : g σ M1 = some (ds, M2)) : aCons (toD f) g σ M = some (d :: ds, M2) := by
  unfold aCons; rw [h]; dsimp only; rw [hg]
theorem toD_l {f : FE} {σ : Sd} {M M1 : Mem} {xs : List D} (h : f σ M = some (.fl xs, M1)) : toD f σ M = some (.ref M1.length, M1 ++ [.lst xs]) := by unfold toD; rw [h]
theorem lstE {g : FA} {σ : Sd} {M M1 : Mem} {ds : List D} (h : g σ M = some (ds, M1)) (hz : ds.length ≤ 100000) : fLst g σ M = some (.fl ds, M1) := by
  unfold fLst; rw [h]; dsimp only; rw [if_pos (size_ok hz)]
theorem tupE {g : FA} {σ : Sd} {M M1 : Mem} {ds : List D} (h : g σ M = some (ds, M1)) (hz : ds.length ≤ 100000) : fTup g σ M = some (.dat (.tup ds), M1) := by
  unfold fTup; rw [h]; dsimp only; rw [if_pos (size_ok hz)]
theorem repT_eq {M : Mem} {e : D} {R : Int} (h0 : 1 ≤ R) (h1 : R ≤ 5000) : kRep (.dat (.tup [e])) (.dat (.int R)) M = some (.dat (.tup (List.replicate R.toNat e)), M) := by
  unfold kRep
  dsimp only [tupOf]
  rw [if_pos ⟨by simp, h0, size_ok (by simp; omega)⟩]
  have : (List.replicate R.toNat [e]).flatten = List.replicate R.toNat e := by
    generalize R.toNat = q
    induction q with
    | zero => rfl
    | succ q ih => rw [List.replicate_succ, List.flatten_cons, ih, List.replicate_succ]; rfl
  rw [this]
theorem min2_eq {f g : FE} {σ : Sd} {M : Mem} {i j : Int} (hf : f σ M = some (.dat (.int i), M)) (hg : g σ M = some (.dat (.int j), M)) : fB kMin2 (eCons f (eCons g eNil)) σ M = some (.dat (.int (if j < i then j else i)), M) := by
  unfold fB eCons eNil; rw [hf]; dsimp only; rw [hg]; rfl
theorem iSeq_fl {f : FE} {σ : Sd} {M M1 : Mem} {xs : List D} (h : f σ M = some (.fl xs, M1)) : iSeq f σ M = some (xs, none, M1) := by
  unfold iSeq; rw [h]; rfl
theorem fIndexE {f g : FE} {σ : Sd} {M : Mem} {xs : List Int} {i : Int} (hf : f σ M = some (.dat (tI xs), M)) (hg : g σ M = some (.dat (.int i), M)) (hi : i ∈ xs) : fIndex f g σ M = some (.dat (.int (xs.idxOf i)), M) := by
  unfold fIndex
  have e1 : toD f σ M = some (.tup (xs.map D.int), M) := by unfold toD; rw [hf]; rfl
  have e2 : toD g σ M = some (.int i, M) := by unfold toD; rw [hg]
  rw [e1]; dsimp only
  rw [intsOf_map]; dsimp only
  rw [e2]; dsimp only
  rw [if_pos hi]
theorem tree_ints (a : List Int) : (a.map D.int).all (isTree 0) = true := by
  rw [List.all_eq_true]
  intro x hx
  obtain ⟨i, _, rfl⟩ := List.mem_map.mp hx
  rfl
theorem eqTr_ints (a b : List Int) (M : Mem) : kTr false 0 (.dat (.tup (a.map D.int))) (.dat (.tup (b.map D.int))) M = some (.dat (.bl (decide (a = b))), M) := by
  have e : eqTr 1 (.tup (a.map D.int)) (.tup (b.map D.int)) = decide (a = b) := by
    by_cases h : a = b
    · subst h
      rw [decide_eq_true rfl]
      exact eqTr_refl 1 _ (by unfold isTree; exact tree_ints a)
    · rw [decide_eq_false h]
      cases q : eqTr 1 (.tup (a.map D.int)) (.tup (b.map D.int)) with
      | false => rfl
      | true => exact absurd (ints_inj (D.tup.inj (eqTr_eq 1 _ _ (by unfold isTree; exact tree_ints a) (by unfold isTree; exact tree_ints b) q))) h
  show (if ((a.map D.int).all (isTree 0) && (b.map D.int).all (isTree 0)) = true then some (EV.dat (.bl (nb false (eqTr 1 (.tup (a.map D.int)) (.tup (b.map D.int))))), M) else none) = _
  rw [tree_ints a, tree_ints b, if_pos (by decide), e]
  rfl
theorem extend_eq {M : Mem} {n m : Nat} {xs ys : List D} (h1 : M[n]? = some (.lst xs)) (h2 : M[m]? = some (.lst ys)) (hz : xs.length + ys.length ≤ 90000) : kExtend (.dat (.ref n)) [.ref m] M = some (.non, M.set n (.lst (xs ++ ys))) := by
  unfold kExtend; dsimp only; rw [h1, h2]; dsimp only; rw [if_pos (size_ok (by omega))]
theorem range2_of {σ : Sd} {M : Mem} {f g : FE} {i j : Int} (e1 : f σ M = some (.dat (.int i), M)) (e2 : g σ M = some (.dat (.int j), M)) (h1 : 0 ≤ i) (h2 : i ≤ 90000) (h3 : 0 ≤ j) (h4 : j ≤ 90000) : iRange (aCons (toD f) (aCons (toD g) aNil)) σ M = some ((List.range (j - i).toNat).map (fun (k : Nat) => D.int (i + k)), none, M) := by
  unfold iRange; rw [aC_eq e1 (a1_eq e2)]; dsimp only; rw [if_pos ⟨by omega, by omega, by omega, by omega⟩]
end Lad

set_option Elab.async false
set_option linter.all false
set_option maxRecDepth 100000
namespace Lad
open PySem PySem.Spec PyProof.Rows L2 L3 ST Law
noncomputable def b_class_rows : FS := (sRet (fComp [3] (iSeq (fVar 0)) (gN 3) tTrue (fB kTuple (eCons (fComp [2] (iSeq (fVar 3)) (gN 2) tTrue (fOp kIx (fVar 1) (fVar 2))) eNil))))
noncomputable def m_class_rows : FF := fDef 4 b_class_rows

noncomputable def b_is_kept : FS := (sSeq (sSet 2 (fCall m_class_rows (aCons (toD (fVar 0)) (aCons (toD (fVar 1)) aNil))))
    (sRet (fB kAll (eCons (fComp [3, 4] (iZipG (aCons (toD (fVar 2)) (aCons (toD (fVar 1)) aNil))) (gPair 3 4) tTrue (fOp (kTr false 0) (fVar 3) (fOp kIx (fVar 2) (fIndex (fVar 1) (fVar 4))))) eNil))))
noncomputable def m_is_kept : FF := fPure (fDef 5 b_is_kept)

noncomputable def b_law_pairs : FS := (sSeq (sSet 1 (fLst aNil))
    (sSeq (sFor (iRange (aCons (toD (fVar 0)) aNil)) (gN 2) (sExpr (fM kExtend (fVar 1) (aCons (toD (fComp [3] (iRange (aCons (toD (fOp kPlus (fVar 2) (fC (.int 1)))) (aCons (toD (fVar 0)) aNil))) (gN 3) tTrue (fTup (aCons (toD (fVar 2)) (aCons (toD (fVar 3)) aNil))))) aNil))))
    (sRet (fVar 1))))
noncomputable def m_law_pairs : FF := fDef 4 b_law_pairs

noncomputable def b_law_kept : FS := (sSeq (sFor (iSeq (fCall m_law_pairs (aCons (toD (fB kLen (eCons (fVar 0) eNil))) aNil))) (gPair 2 3) (sIf (tst (fOp kEq (fOp kIx (fVar 1) (fVar 2)) (fOp kIx (fVar 1) (fVar 3)))) (sFor (iZip (aCons (toD (fOp kIx (fVar 0) (fVar 2))) (aCons (toD (fOp kIx (fVar 0) (fVar 3))) aNil))) (gPair 4 5) (sIf (tst (fOp kNe (fOp kIx (fVar 1) (fVar 4)) (fOp kIx (fVar 1) (fVar 5)))) (sRet (fC (.bl false))) sNil)) sNil))
    (sRet (fC (.bl true))))
noncomputable def m_law_kept : FF := fPure (fDef 6 b_law_kept)

/-- the classes of the goals, row by row -/
def clsR (p r : List Int) : List Int := r.map fun g => p.getD g.toNat 0
def crR (rows : List (List Int)) (p : List Int) : List (List Int) := rows.map (clsR p)
theorem class_rows_eq {rows : List (List Int)} {l : Nat} (m : IsM rows l) (hR : rows.length ≤ 1000) (hl : l ≤ 1000) {p : List Int} (hp : p.length = rows.length) {M : Mem} : m_class_rows [mD rows, tI p] M = some (.ref M.length, M ++ [.lst ((crR rows p).map fun r => D.tup (r.map D.int))]) := by
  have key : fComp [3] (iSeq (fVar 0)) (gN 3) tTrue (fB kTuple (eCons (fComp [2] (iSeq (fVar 3)) (gN 2) tTrue (fOp kIx (fVar 1) (fVar 2))) eNil)) [some (mD rows), some (tI p), none, none] M = some (.fl ((crR rows p).map fun r => D.tup (r.map D.int)), M) := by
    refine (comp_map rows (fun r => D.tup (r.map D.int)) (fun r => .tup ((clsR p r).map D.int)) (seqI_eq rfl) trivial (by omega) fun r hr => ⟨_, rfl, ?_⟩).trans ?_
    · obtain ⟨h1, h2⟩ := m.row r hr
      refine (tuple_eq (comp_map r D.int (fun g => .int (p.getD g.toNat 0)) (seqI_eq rfl) trivial (by omega) fun g hg => ⟨_, rfl, ?_⟩) seq_fl).trans ?_
      · exact op_eq' (x := .dat (tI p)) (y := .dat (.int g)) rfl rfl (ix_eq seq_tup (int_at (h2 g hg).1 (by rw [hp]; exact (h2 g hg).2)))
      · unfold clsR; rw [List.map_map]; rfl
    · unfold crR; rw [List.map_map]; rfl
  suffices h : Ok (m_class_rows [mD rows, tI p] M) fun d M' => d = .ref M.length ∧ M' = M ++ [.lst ((crR rows p).map fun r => D.tup (r.map D.int))] by
    obtain ⟨d, M', e, rfl, rfl⟩ := h; exact e
  unfold m_class_rows
  rw [ok_def]
  unfold b_class_rows
  rw [oks_ret]
  exact ok_of_eq key (toDp_new ⟨rfl, rfl⟩)
/-- whether rooms of one class lead alike -/
def keptB (rows : List (List Int)) (p : List Int) : Bool := (List.range rows.length).all fun k => decide ((crR rows p).getD k [] = (crR rows p).getD (p.idxOf (p.getD k 0)) [])
theorem pmem {p : List Int} {k : Nat} (h : k < p.length) : p.getD k 0 ∈ p := by
  rw [List.getD_eq_getElem?_getD, List.getElem?_eq_getElem h]; exact List.getElem_mem h
theorem is_kept_eq {rows : List (List Int)} {l : Nat} (m : IsM rows l) (hR : rows.length ≤ 1000) (hl : l ≤ 1000) {p : List Int} (hp : p.length = rows.length) {M : Mem} : m_is_kept [mD rows, tI p] M = some (.bl (keptB rows p), M) := by
  refine eq_of_ok ?_
  unfold m_is_kept
  refine ok_pure (by unfold D.unds D.unds D.unds; rw [mD_und]; simp [tI, und_ints]) ?_
  rw [ok_def]
  unfold b_is_kept
  show OkS (sSeq _ _ [some (mD rows), some (tI p), none, none, none] []) _
  rw [oks_seq, oks_set]
  refine ok_call.mpr (ok_of_eq (aC_eq rfl (a1_eq rfl)) (ok_of_eq (class_rows_eq m hR hl hp) ?_))
  rw [toDp_dat, nxP_nx]
  have hcl : (crR rows p).length = rows.length := by unfold crR; simp
  generalize hcr : crR rows p = cr at hcl
  show OkS (sRet _ [some (mD rows), some (tI p), some (.ref 0), none, none] [.lst (cr.map fun r => D.tup (r.map D.int))]) _
  have e0 : ([.lst (cr.map fun r => D.tup (r.map D.int))] : Mem)[0]? = some (.lst (cr.map fun r => D.tup (r.map D.int))) := rfl
  have key : keptB rows p = ((List.range rows.length).map fun k => decide (cr.getD k [] = cr.getD (p.idxOf (p.getD k 0)) [])).all id := by
    unfold keptB; rw [hcr, all_map_id]
  refine ret_eq (d := .bl (keptB rows p)) ?_ ⟨rfl, rfl, rfl⟩
  rw [key]
  refine all_eq ?_
  rw [List.map_map]
  have hz : iZipG (aCons (toD (fVar 2)) (aCons (toD (fVar 1)) aNil)) [some (mD rows), some (tI p), some (.ref 0), none, none] [.lst (cr.map fun r => D.tup (r.map D.int))] = some ((List.range rows.length).map (fun k => D.tup [.tup ((cr.getD k []).map D.int), .int (p.getD k 0)]), some fun M => seqOf M (.dat (.ref 0)) = some (cr.map fun r => D.tup (r.map D.int)) ∧ seqOf M (.dat (tI p)) = some (p.map D.int), [.lst (cr.map fun r => D.tup (r.map D.int))]) := by
    unfold iZipG
    rw [aC_eq (d := .ref 0) rfl (a1_eq (d := tI p) rfl)]
    dsimp only
    rw [show seqOf [.lst (cr.map fun r => D.tup (r.map D.int))] (.dat (.ref 0)) = some (cr.map fun r => D.tup (r.map D.int)) from rfl, show seqOf [.lst (cr.map fun r => D.tup (r.map D.int))] (.dat (tI p)) = some (p.map D.int) from rfl]
    dsimp only
    have : (((cr.map fun r => D.tup (r.map D.int)).zip (p.map D.int)).map fun q => D.tup [q.1, q.2]) = (List.range rows.length).map (fun k => D.tup [.tup ((cr.getD k []).map D.int), .int (p.getD k 0)]) := by
      apply List.ext_getElem
      · simp [hcl, hp]
      · intro i h1 h2
        simp at h1 h2
        have a1 : i < cr.length := by omega
        have a2 : i < p.length := by omega
        simp [a1, a2]
    rw [this]
  refine comp_map (List.range rows.length) (fun k => D.tup [.tup ((cr.getD k []).map D.int), .int (p.getD k 0)]) (fun k => .bl (decide (cr.getD k [] = cr.getD (p.idxOf (p.getD k 0)) []))) hz ⟨rfl, rfl⟩ (by simp; omega) fun k hk => ⟨_, rfl, ?_⟩
  have hk' := List.mem_range.mp hk
  have hm := pmem (p := p) (k := k) (by omega)
  have hix : p.idxOf (p.getD k 0) < cr.length := by rw [hcl, ← hp]; exact List.idxOf_lt_length_iff.mpr hm
  refine op_eq' (x := .dat (.tup ((cr.getD k []).map D.int))) (y := .dat (.tup ((cr.getD (p.idxOf (p.getD k 0)) []).map D.int))) rfl ?_ (eqTr_ints _ _ _)
  refine op_eq' (x := .dat (.ref 0)) (y := .dat (.int (p.idxOf (p.getD k 0)))) rfl (fIndexE (xs := p) rfl rfl hm) (ix_eq (seq_ref e0) (at_nat ?_))
  generalize p.idxOf (p.getD k 0) = q at hix ⊢
  rw [List.getElem?_map, List.getD_eq_getElem?_getD, List.getElem?_eq_getElem hix]; rfl
def encP (q : Nat × Nat) : D := .tup [.int (q.1 : Nat), .int (q.2 : Nat)]
theorem pairs_ok {R : Nat} (hR : R ≤ 200) : Ok (m_law_pairs [.int R] []) fun d M' => ∃ ps : List (Nat × Nat), d = .ref 0 ∧ M'[0]? = some (.lst (ps.map encP)) ∧ ps.length ≤ 80000 ∧ ∀ a b, (a, b) ∈ ps ↔ a < b ∧ b < R := by
  unfold m_law_pairs
  rw [ok_def]
  unfold b_law_pairs
  show OkS (sSeq _ _ [some (.int R), none, none, none] []) _
  rw [oks_seq, oks_set]
  refine ok_lst.mpr (ok_aNil.mpr ⟨size_ok (by simp), toDp_new ?_⟩)
  rw [nxP_nx, oks_seq, oks_for]
  refine ⟨_, _, _, range_of (j := (R : Int)) rfl (by omega) (by omega), ?_⟩
  show OkS (loopF _ _ _ _ (upFrom 0 (R : Int).toNat) [some (.int R), some (.ref 0), none, none] [.lst []]) _
  rw [show (R : Int).toNat = R by omega]
  refine oks_up (n := R) (I := fun i σ M' => ∃ y, σ = [some (.int R), some (.ref 0), y, none] ∧ ∃ ps : List (Nat × Nat), M'[0]? = some (.lst (ps.map encP)) ∧ ps.length ≤ i * 200 ∧ (∀ a b, (a, b) ∈ ps ↔ a < b ∧ b < R ∧ a < i)) ?_ ?_ _ _ ⟨_, rfl, [], rfl, by simp, fun a b => by simp⟩
  · rintro i σ M' hi ⟨y, rfl, ps, e0, hl, hps⟩
    refine ⟨_, rfl, ?_⟩
    show OkS (sExpr _ [some (.int R), some (.ref 0), some (.int (i : Nat)), none] M') _
    rw [oks_expr]
    have ec : fComp [3] (iRange (aCons (toD (fOp kPlus (fVar 2) (fC (.int 1)))) (aCons (toD (fVar 0)) aNil))) (gN 3) tTrue (fTup (aCons (toD (fVar 2)) (aCons (toD (fVar 3)) aNil))) [some (.int R), some (.ref 0), some (.int (i : Nat)), none] M' = some (.fl (((List.range (R - (i + 1))).map fun k => (i, i + 1 + k)).map encP), M') := by
      have e1 := range2_of (σ := [some (.int R), some (.ref 0), some (.int (i : Nat)), none]) (M := M') (f := fOp kPlus (fVar 2) (fC (.int 1))) (g := fVar 0) (i := (i : Int) + 1) (j := (R : Int)) (op_eq' rfl rfl rfl) rfl (by omega) (by omega) (by omega) (by omega)
      rw [show ((R : Int) - ((i : Int) + 1)).toNat = R - (i + 1) by omega] at e1
      refine (comp_map (List.range (R - (i + 1))) (fun k => D.int ((i : Int) + 1 + k)) (fun k => encP (i, i + 1 + k)) e1 trivial (by simp; omega) fun k hk => ⟨_, rfl, ?_⟩).trans ?_
      · refine (tupE (aC_eq (d := .int (i : Nat)) rfl (a1_eq (d := .int ((i : Int) + 1 + k)) rfl)) (by simp)).trans ?_
        unfold encP
        rw [show (((i + 1 + k : Nat)) : Int) = (i : Int) + 1 + k by omega]
      · rw [List.map_map]; rfl
    refine ok_M.mpr (ok_var.mpr ⟨_, rfl, ⟨_, lst_ref e0⟩, ok_of_eq (aC' (toD_l ec) rfl) ?_⟩)
    have h0 : 0 < M'.length := (List.getElem?_eq_some_iff.mp e0).1
    have e0' : (M' ++ [MO.lst (((List.range (R - (i + 1))).map fun k => (i, i + 1 + k)).map encP)])[0]? = some (.lst (ps.map encP)) := by rw [List.getElem?_append_left h0]; exact e0
    refine ok_of_eq (extend_eq e0' (last_get _ _) (by simp; have := Nat.mul_le_mul_right 200 (Nat.le_of_lt hi); omega)) ?_
    refine ⟨_, rfl, ps ++ ((List.range (R - (i + 1))).map fun k => (i, i + 1 + k)), ?_, ?_, fun a b => ?_⟩
    · rw [List.getElem?_set_self (by simp), List.map_append]
    · simp; rw [Nat.add_mul]; omega
    · rw [List.mem_append, hps, List.mem_map]
      constructor
      · rintro (⟨h1, h2, h3⟩ | ⟨k, hk, e⟩)
        · exact ⟨h1, h2, by omega⟩
        · have := List.mem_range.mp hk
          cases e
          exact ⟨by omega, by omega, by omega⟩
      · rintro ⟨h1, h2, h3⟩
        by_cases ha : a < i
        · exact .inl ⟨h1, h2, ha⟩
        · have : a = i := by omega
          subst this
          exact .inr ⟨b - (a + 1), List.mem_range.mpr (by omega), by rw [Prod.mk.injEq]; exact ⟨rfl, by omega⟩⟩
  · rintro σ M' ⟨y, rfl, ps, e0, hl, hps⟩
    rw [nxP_nx]
    refine ret_eq rfl ⟨ps, rfl, e0, by have := Nat.mul_le_mul_right 200 hR; omega, fun a b => ?_⟩
    rw [hps]
    constructor
    · rintro ⟨h1, h2, _⟩; exact ⟨h1, h2⟩
    · rintro ⟨h1, h2⟩; exact ⟨h1, h2, by omega⟩
theorem cls_get {rows : List (List Int)} {p : List Int} {k : Nat} (h : k < rows.length) : (crR rows p).getD k [] = clsR p (rows.getD k []) := by
  unfold crR
  rw [List.getD_eq_getElem?_getD, List.getElem?_map, List.getD_eq_getElem?_getD, List.getElem?_eq_getElem h]; rfl
theorem kept_pair {rows : List (List Int)} {p : List Int} (hp : p.length = rows.length) (h : keptB rows p = true) {a b : Nat} (ha : a < rows.length) (hb : b < rows.length) (e : p.getD a 0 = p.getD b 0) : (crR rows p).getD a [] = (crR rows p).getD b [] := by
  unfold keptB at h
  rw [List.all_eq_true] at h
  have h1 := of_decide_eq_true (h a (List.mem_range.mpr ha))
  have h2 := of_decide_eq_true (h b (List.mem_range.mpr hb))
  rw [h1, h2, e]
theorem idx_min {p : List Int} {k : Nat} (h : k < p.length) : p.idxOf (p.getD k 0) ≤ k ∧ p.getD (p.idxOf (p.getD k 0)) 0 = p.getD k 0 := by
  have hm := pmem h
  have hl : p.idxOf (p.getD k 0) < p.length := List.idxOf_lt_length_iff.mpr hm
  constructor
  · rcases Nat.lt_or_ge k (p.idxOf (p.getD k 0)) with q | q
    · exfalso
      have := ne_of_lt_idxOf q h
      rw [List.getD_eq_getElem?_getD, List.getElem?_eq_getElem h] at this
      simp at this
    · exact q
  · rw [List.getD_eq_getElem?_getD, List.getElem?_eq_getElem hl]
    exact List.getElem_idxOf hl
theorem kept_of {rows : List (List Int)} {p : List Int} (hp : p.length = rows.length) (h : ∀ a b, a < b → b < rows.length → p.getD a 0 = p.getD b 0 → (crR rows p).getD a [] = (crR rows p).getD b []) : keptB rows p = true := by
  unfold keptB
  rw [List.all_eq_true]
  intro k hk
  have hk' := List.mem_range.mp hk
  apply decide_eq_true
  obtain ⟨q1, q2⟩ := idx_min (p := p) (k := k) (by omega)
  rcases Nat.lt_or_ge (p.idxOf (p.getD k 0)) k with z | z
  · exact (h _ k z hk' q2).symm
  · rw [show p.idxOf (p.getD k 0) = k by omega]
theorem pair_ok {rows : List (List Int)} {l : Nat} (m : IsM rows l) {p : List Int} (hp : p.length = rows.length) {a b : Nat} (hlt : a < b) (hbR : b < rows.length) (hpe : p.getD a 0 = p.getD b 0) {y4 y5 : Option D} {M' : Mem} :
    OkS (sFor (iZip (aCons (toD (fOp kIx (fVar 0) (fVar 2))) (aCons (toD (fOp kIx (fVar 0) (fVar 3))) aNil))) (gPair 4 5) (sIf (tst (fOp kNe (fOp kIx (fVar 1) (fVar 4)) (fOp kIx (fVar 1) (fVar 5)))) (sRet (fC (.bl false))) sNil) [some (mD rows), some (tI p), some (.int (a : Nat)), some (.int (b : Nat)), y4, y5] M')
      fun o σ' M'' => M'' = M' ∧ match o with
        | .nx => (∃ y4 y5, σ' = [some (mD rows), some (tI p), some (.int (a : Nat)), some (.int (b : Nat)), y4, y5]) ∧ (crR rows p).getD a [] = (crR rows p).getD b []
        | .ret d => d = .bl false ∧ keptB rows p = false
        | _ => False := by
  rw [oks_for]
  have ga := m.get (h := (a : Int)) (by omega) (by omega)
  have gb := m.get (h := (b : Int)) (by omega) (by omega)
  have ra := row_at (rows := rows) (h := (a : Int)) (by omega) (by omega)
  have rb := row_at (rows := rows) (h := (b : Int)) (by omega) (by omega)
  rw [Int.toNat_natCast] at ga gb ra rb
  generalize hA : rows.getD a [] = A at ga ra
  generalize hB : rows.getD b [] = B at gb rb
  have hcA : (crR rows p).getD a [] = clsR p A := by rw [cls_get (by omega), hA]
  have hcB : (crR rows p).getD b [] = clsR p B := by rw [cls_get hbR, hB]
  have ez : iZip (aCons (toD (fOp kIx (fVar 0) (fVar 2))) (aCons (toD (fOp kIx (fVar 0) (fVar 3))) aNil)) [some (mD rows), some (tI p), some (.int (a : Nat)), some (.int (b : Nat)), y4, y5] M' = some ((A.zip B).map (fun q => D.tup [.int q.1, .int q.2]), none, M') := by
    unfold iZip
    rw [aC_eq (d := .tup (A.map D.int)) (op_eq' (x := .dat (mD rows)) (y := .dat (.int (a : Nat))) rfl rfl (ix_eq seq_tup ra)) (a1_eq (d := .tup (B.map D.int)) (op_eq' (x := .dat (mD rows)) (y := .dat (.int (b : Nat))) rfl rfl (ix_eq seq_tup rb)))]
    dsimp only
    rw [List.zip_map, List.map_map]; rfl
  refine ⟨_, _, _, ez, ?_⟩
  refine oks_loop (I := fun r σ M'' => M'' = M' ∧ (∃ y4 y5, σ = [some (mD rows), some (tI p), some (.int (a : Nat)), some (.int (b : Nat)), y4, y5]) ∧ ∃ u v : List (Int × Int), A.zip B = u ++ v ∧ r = v.map (fun q => D.tup [.int q.1, .int q.2]) ∧ ∀ q ∈ u, p.getD q.1.toNat 0 = p.getD q.2.toNat 0) ?_ ?_ _ _ _ ⟨rfl, ⟨_, _, rfl⟩, [], A.zip B, rfl, rfl, fun _ h => by cases h⟩
  · rintro x r σ M'' ⟨rfl, ⟨y4, y5, rfl⟩, u, v, huv, hr, hu⟩
    cases v with
    | nil => cases hr
    | cons q v =>
      rw [List.map_cons] at hr
      obtain ⟨rfl, rfl⟩ := List.cons.inj hr
      obtain ⟨g, g'⟩ := q
      have hmz : (g, g') ∈ A.zip B := by rw [huv]; simp
      obtain ⟨mg, mg'⟩ := List.of_mem_zip hmz
      obtain ⟨g0, g1⟩ := ga.2 g mg
      obtain ⟨g0', g1'⟩ := gb.2 g' mg'
      refine ⟨grd_none, _, rfl, ?_⟩
      show OkS (sIf _ _ _ [some (mD rows), some (tI p), some (.int (a : Nat)), some (.int (b : Nat)), some (.int g), some (.int g')] M'') _
      rw [oks_if]
      refine ok_of_eq (M := M'') (a := !decide (p.getD g.toNat 0 = p.getD g'.toNat 0)) (tst_eq (op_eq' (x := .dat (.int (p.getD g.toNat 0))) (y := .dat (.int (p.getD g'.toNat 0))) (op_eq' (x := .dat (tI p)) (y := .dat (.int g)) rfl rfl (ix_eq seq_tup (int_at g0 (by omega)))) (op_eq' (x := .dat (tI p)) (y := .dat (.int g')) rfl rfl (ix_eq seq_tup (int_at g0' (by omega)))) (eq_of_ok (k_ne.mpr ⟨by simp, rfl⟩)))) ?_
      by_cases hne : p.getD g.toNat 0 = p.getD g'.toNat 0
      · rw [if_neg (by simp only [hne, decide_true, Bool.not_true]; decide), oks_nil]
        refine ⟨rfl, ⟨_, _, rfl⟩, u ++ [(g, g')], v, by rw [huv]; simp, rfl, fun q hq => ?_⟩
        rcases List.mem_append.mp hq with z | z
        · exact hu q z
        · have : q = (g, g') := by simpa using z
          subst this; exact hne
      · rw [if_pos (by simp only [hne, decide_false, Bool.not_false])]
        refine ret_eq rfl ⟨rfl, rfl, ?_⟩
        cases hk : keptB rows p with
        | false => rfl
        | true =>
          exfalso
          have hc := kept_pair hp hk (by omega) hbR hpe
          rw [hcA, hcB] at hc
          unfold clsR at hc
          obtain ⟨i, hi, ei⟩ := List.mem_iff_getElem.mp hmz
          rw [List.getElem_zip] at ei
          have hi' : i < A.length ∧ i < B.length := by simp at hi; omega
          have e1 := congrArg (fun z : List Int => z[i]?) hc
          simp only [List.getElem?_map, List.getElem?_eq_getElem hi'.1, List.getElem?_eq_getElem hi'.2, Option.map_some, Option.some.injEq] at e1
          rw [(Prod.mk.inj ei).1, (Prod.mk.inj ei).2] at e1
          exact hne e1
  · rintro σ M'' ⟨rfl, ⟨y4, y5, rfl⟩, u, v, huv, hr, hu⟩
    have : v = [] := by cases v with | nil => rfl | cons _ _ => cases hr
    subst this
    rw [List.append_nil] at huv
    refine ⟨grd_none, rfl, ⟨_, _, rfl⟩, ?_⟩
    rw [hcA, hcB]
    unfold clsR
    apply List.ext_getElem
    · simp [ga.1, gb.1]
    · intro i h1 h2
      simp at h1 h2
      rw [List.getElem_map, List.getElem_map]
      have hm : (A[i], B[i]) ∈ A.zip B := List.mem_iff_getElem.mpr ⟨i, by simp; omega, by rw [List.getElem_zip]⟩
      rw [huv] at hm
      exact hu _ hm
theorem kept_loop {rows : List (List Int)} {l : Nat} (m : IsM rows l) {p : List Int} (hp : p.length = rows.length) {M1 : Mem} {ps : List (Nat × Nat)} (e0 : M1[0]? = some (.lst (ps.map encP))) (hps : ∀ a b, (a, b) ∈ ps ↔ a < b ∧ b < rows.length) :
    OkS (loopF (gPair 2 3) (sIf (tst (fOp kEq (fOp kIx (fVar 1) (fVar 2)) (fOp kIx (fVar 1) (fVar 3)))) (sFor (iZip (aCons (toD (fOp kIx (fVar 0) (fVar 2))) (aCons (toD (fOp kIx (fVar 0) (fVar 3))) aNil))) (gPair 4 5) (sIf (tst (fOp kNe (fOp kIx (fVar 1) (fVar 4)) (fOp kIx (fVar 1) (fVar 5)))) (sRet (fC (.bl false))) sNil)) sNil) (ps.map encP) (gdOf (.dat (.ref 0)) (ps.map encP)) (ps.map encP) [some (mD rows), some (tI p), none, none, none, none] M1)
      fun o σ' M'' => match o with
        | .nx => keptB rows p = true
        | .ret d => d = .bl false ∧ keptB rows p = false
        | _ => False := by
  refine oks_loop (I := fun r σ M' => M' = M1 ∧ (∃ y2 y3 y4 y5, σ = [some (mD rows), some (tI p), y2, y3, y4, y5]) ∧ ∃ us vs : List (Nat × Nat), ps = us ++ vs ∧ r = vs.map encP ∧ ∀ q ∈ us, p.getD q.1 0 = p.getD q.2 0 → (crR rows p).getD q.1 [] = (crR rows p).getD q.2 []) ?_ ?_ _ _ _ ⟨rfl, ⟨_, _, _, _, rfl⟩, [], ps, rfl, rfl, fun _ h => by cases h⟩
  · rintro x r σ M' ⟨rfl, ⟨y2, y3, y4, y5, rfl⟩, us, vs, hab, hr, hus⟩
    cases vs with
    | nil => cases hr
    | cons q vs =>
      rw [List.map_cons] at hr
      obtain ⟨rfl, rfl⟩ := List.cons.inj hr
      obtain ⟨a, b⟩ := q
      obtain ⟨hlt, hbR⟩ := (hps a b).mp (by rw [hab]; simp)
      refine ⟨.inl e0, _, rfl, ?_⟩
      show OkS (sIf _ _ _ [some (mD rows), some (tI p), some (.int (a : Nat)), some (.int (b : Nat)), y4, y5] M') _
      have pa : ∀ {k : Nat}, k < rows.length → atI (p.map D.int) (k : Int) = some (.int (p.getD k 0)) := fun {k} hk => by
        have := int_at (r := p) (g := (k : Int)) (by omega) (by omega)
        rw [Int.toNat_natCast] at this; exact this
      rw [oks_if]
      refine ok_of_eq (M := M') (a := decide (p.getD a 0 = p.getD b 0)) (tst_eq (op_eq' (x := .dat (.int (p.getD a 0))) (y := .dat (.int (p.getD b 0))) (op_eq' (x := .dat (tI p)) (y := .dat (.int (a : Nat))) rfl rfl (ix_eq seq_tup (pa (by omega)))) (op_eq' (x := .dat (tI p)) (y := .dat (.int (b : Nat))) rfl rfl (ix_eq seq_tup (pa hbR))) (eq_of_ok (k_eq.mpr ⟨rfl, rfl⟩)))) ?_
      by_cases hpe : p.getD a 0 = p.getD b 0
      · rw [if_pos (by simpa using hpe)]
        refine OkS.mono (pair_ok m hp hlt hbR hpe) ?_
        rintro o σ' M'' ⟨rfl, z⟩
        cases o with
        | nx =>
          obtain ⟨⟨y4, y5, rfl⟩, z⟩ := z
          refine ⟨rfl, ⟨_, _, _, _, rfl⟩, us ++ [(a, b)], vs, by rw [hab]; simp, rfl, fun q hq => ?_⟩
          rcases List.mem_append.mp hq with w | w
          · exact hus q w
          · have : q = (a, b) := by simpa using w
            subst this
            exact fun _ => z
        | ret d =>
          obtain ⟨rfl, z⟩ := z
          exact ⟨rfl, z⟩
        | _ => exact z.elim
      · rw [if_neg (by simpa using hpe), oks_nil]
        refine ⟨rfl, ⟨_, _, _, _, rfl⟩, us ++ [(a, b)], vs, by rw [hab]; simp, rfl, fun q hq => ?_⟩
        rcases List.mem_append.mp hq with z | z
        · exact hus q z
        · have : q = (a, b) := by simpa using z
          subst this
          exact fun e => absurd e hpe
  · rintro σ M' ⟨rfl, ⟨y2, y3, y4, y5, rfl⟩, us, vs, hab, hr, hus⟩
    have : vs = [] := by cases vs with | nil => rfl | cons _ _ => cases hr
    subst this
    rw [List.append_nil] at hab
    subst hab
    exact ⟨.inl e0, kept_of hp fun a b h1 h2 h3 => hus (a, b) ((hps a b).mpr ⟨h1, h2⟩) h3⟩
theorem seq_call {g : FF} {a : FA} {σ : Sd} {M M1 : Mem} {ds xs : List D} {j : Nat} (ha : a σ M = some (ds, M)) (hg : g ds M = some (.ref j, M1)) (hj : M1[j]? = some (.lst xs)) : iSeq (fCall g a) σ M = some (xs, gdOf (.dat (.ref j)) xs, M1) := by
  have : fCall g a σ M = some (.dat (.ref j), M1) := by unfold fCall; rw [ha]; dsimp only; rw [hg]
  unfold iSeq; rw [this]; dsimp only; rw [seq_ref hj]
theorem law_kept_eq {rows : List (List Int)} {l : Nat} (m : IsM rows l) (hR : rows.length ≤ 200) (hl : l ≤ 1000) {p : List Int} (hp : p.length = rows.length) {M : Mem} : m_law_kept [mD rows, tI p] M = some (.bl (keptB rows p), M) := by
  refine eq_of_ok ?_
  unfold m_law_kept
  refine ok_pure (by unfold D.unds D.unds D.unds; rw [mD_und]; simp [tI, und_ints]) ?_
  rw [ok_def]
  unfold b_law_kept
  show OkS (sSeq _ _ [some (mD rows), some (tI p), none, none, none, none] []) _
  rw [oks_seq, oks_for]
  obtain ⟨d, M1, e, ps, rfl, e0, hz, hps⟩ := pairs_ok hR
  refine ⟨_, _, _, seq_call (a1_eq (d := .int rows.length) (rows_len rfl)) e e0, ?_⟩
  refine OkS.mono (kept_loop m hp e0 hps) ?_
  rintro o σ' M'' z
  cases o with
  | nx =>
    rw [nxP_nx]
    exact ret_eq rfl ⟨rfl, by rw [z], rfl⟩
  | ret d =>
    obtain ⟨rfl, z⟩ := z
    exact ⟨rfl, by rw [z], rfl⟩
  | _ => exact z.elim
end Lad

set_option Elab.async false
set_option linter.all false
set_option maxRecDepth 100000
namespace Lad
open PySem PySem.Spec PyProof.Rows L2 L3 ST Law
noncomputable def b_law_copies : FS := (sSeq (sSet 3 (fCall m_law_machine (aCons (toD (fVar 0)) (aCons (toD (fC (.int 7))) (aCons (toD (fVar 2)) aNil)))))
    (sSeq (sSet 4 (fOp kPlus (fB kLen (eCons (fVar 3) eNil)) (fCall m_law_next (aCons (toD (fVar 0)) (aCons (toD (fOp kSub (fOp kPlus (fVar 1) (fC (.int 1))) (fB kLen (eCons (fVar 3) eNil)))) aNil)))))
    (sSeq (sSet 5 (fOp kCatL (fLstR (fB kLen (eCons (fVar 3) eNil))) (fComp [6] (iRange (aCons (toD (fOp kSub (fVar 4) (fB kLen (eCons (fVar 3) eNil)))) aNil)) (gN 6) tTrue (fCall m_law_next (aCons (toD (fVar 0)) (aCons (toD (fB kLen (eCons (fVar 3) eNil))) aNil))))))
    (sSeq (sSet 7 (fCall m_law_next (aCons (toD (fVar 0)) (aCons (toD (fVar 4)) aNil))))
    (sSeq (sSet 5 (fOp kCatL (fSl (fVar 5) (oSome (fVar 7)) oNone) (fSl (fVar 5) oNone (oSome (fVar 7)))))
    (sSeq (sSet 8 (fLst aNil))
    (sSeq (sFor (iSeq (fVar 5)) (gN 9) (sSeq (sSet 10 (fLst aNil))
    (sSeq (sFor (iSeq (fOp kIx (fVar 3) (fVar 9))) (gN 11) (sSeq (sSet 12 (fComp [6] (iRange (aCons (toD (fVar 4)) aNil)) (gN 6) (tst (fOp kEq (fOp kIx (fVar 5) (fVar 6)) (fVar 11))) (fVar 6)))
    (sExpr (fM kAppend (fVar 10) (aCons (toD (fOp kIx (fVar 12) (fCall m_law_next (aCons (toD (fVar 0)) (aCons (toD (fB kLen (eCons (fVar 12) eNil))) aNil))))) aNil)))))
    (sExpr (fM kAppend (fVar 8) (aCons (toD (fB kTuple (eCons (fVar 10) eNil))) aNil))))))
    (sRet (fTup (aCons (toD (fB kTuple (eCons (fVar 8) eNil))) (aCons (toD (fVar 5)) aNil)))))))))))
noncomputable def m_law_copies : FF := fDef 13 b_law_copies

noncomputable def b_law_either : FS := (sSeq (sIf (tst (fOp kEq (fCall m_law_next (aCons (toD (fVar 0)) (aCons (toD (fC (.int 2))) aNil))) (fC (.int 0)))) (sAsg (gPair 3 4) (fCall m_law_copies (aCons (toD (fVar 0)) (aCons (toD (fVar 1)) (aCons (toD (fVar 2)) aNil))))) (sSeq (sSet 3 (fCall m_law_machine (aCons (toD (fVar 0)) (aCons (toD (fVar 1)) (aCons (toD (fVar 2)) aNil)))))
    (sSeq (sSet 5 (fOp kPlus (fC (.int 1)) (fCall m_law_next (aCons (toD (fVar 0)) (aCons (toD (fB kLen (eCons (fVar 3) eNil))) aNil)))))
    (sSet 4 (fComp [6] (iSeq (fVar 3)) (gN 6) tTrue (fCall m_law_next (aCons (toD (fVar 0)) (aCons (toD (fVar 5)) aNil))))))))
    (sRet (fTup (aCons (toD (fVar 3)) (aCons (toD (fCall m_law_numbered (aCons (toD (fVar 4)) aNil))) aNil)))))
noncomputable def m_law_either : FF := fTrim (fDef 7 b_law_either)

/-- so many drawn, one for each thing of a tuple -/
theorem draws_seq {M : Mem} {n k : Nat} (h : Gen M n k) {own : List Nat} {i : Nat} {f fa fb : FE} {σ : Sd} {xs : List D} {few : Int} (h0 : 0 < few) (h1 : few < 1073741824) (m1 : xs.length ≤ 90000)
    (hf : f σ M = some (.dat (.tup xs), M)) (ha : ∀ (x : D) (M : Mem), fa ((clrD own σ).set i (some x)) M = some (.dat (.ref n), M)) (hb : ∀ (x : D) (M : Mem), fb ((clrD own σ).set i (some x)) M = some (.dat (.int few), M)) :
    Ok (fComp own (iSeq f) (gN i) tTrue (fCall m_law_next (aCons (toD fa) (aCons (toD fb) aNil))) σ M) fun x M' => (∃ c : List Int, x = .fl (c.map D.int) ∧ c.length = xs.length ∧ ∀ y ∈ c, 0 ≤ y ∧ y < few) ∧ Nw M M' n k := by
  refine ok_comp.mpr ⟨_, _, _, seqI_eq hf, size_ok (by omega), ?_⟩
  refine Ok.mono (ok_compL (I := fun r acc M2 => (∃ c : List Int, acc = c.map D.int ∧ c.length + r.length = xs.length ∧ ∀ y ∈ c, 0 ≤ y ∧ y < few) ∧ Nw M M2 n k) (Q := fun acc M2 => (∃ c : List Int, acc = c.map D.int ∧ c.length = xs.length ∧ ∀ y ∈ c, 0 ≤ y ∧ y < few) ∧ Nw M M2 n k) ?_ ?_ _ [] _ ⟨⟨[], rfl, by simp, fun _ h => by cases h⟩, Nw.refl h⟩) ?_
  · rintro x r acc M2 ⟨⟨c, rfl, hcl, hc⟩, nw⟩
    refine ⟨grd_none, _, rfl, ok_tTrue.mpr ?_⟩
    rw [if_pos rfl]
    refine call_next nw.gen (ha _ _) (hb _ _) h0 h1 fun g M3 g0 g1 nw3 hl3 => ?_
    rw [toDp_dat]
    refine ⟨⟨c ++ [g], by simp, by simp at hcl ⊢; omega, fun z hz => ?_⟩, nw.trans nw3⟩
    rcases List.mem_append.mp hz with q | q
    · exact hc z q
    · have : z = g := by simpa using q
      subst this; exact ⟨g0, g1⟩
  · rintro acc M2 ⟨⟨c, rfl, hcl, hc⟩, nw⟩
    exact ⟨grd_none, ⟨c, rfl, by simpa using hcl, hc⟩, nw⟩
  · rintro ys M2 ⟨⟨c, hc0, hcl, hc⟩, nw⟩
    rw [List.nil_append] at hc0
    exact ⟨⟨c, by rw [hc0], hcl, hc⟩, nw⟩
theorem cut_dropN {xs : List D} {q : Nat} (h : q ≤ xs.length) : L3.cutD xs (some (q : Int)) none = xs.drop q := by
  have s : HT.sIx xs.length 0 (some (q : Int)) = q := by rw [HT.sIx_nat]; omega
  have z : HT.sIx xs.length xs.length none = xs.length := rfl
  unfold L3.cutD
  rw [s, z, List.take_of_length_le (by simp)]
theorem cut_takeN {xs : List D} {q : Nat} (h : q ≤ xs.length) : L3.cutD xs none (some (q : Int)) = xs.take q := by
  have s : HT.sIx xs.length xs.length (some (q : Int)) = q := by rw [HT.sIx_nat]; omega
  have z : HT.sIx xs.length 0 none = 0 := rfl
  unfold L3.cutD
  rw [s, z]; simp
/-- the rooms of a class -/
theorem rooms_comp {M : Mem} {a0 a1 a2 a3 a6 a7 a8 a9 a10 a12 : Option D} {many j : Nat} {ow : List Int} {g : Int} (hz : many ≤ 1000) (hl : ow.length = many) (ej : M[j]? = some (.lst (ow.map D.int))) (hg : g ∈ ow) :
    Ok (fComp [6] (iRange (aCons (toD (fVar 4)) aNil)) (gN 6) (tst (fOp kEq (fOp kIx (fVar 5) (fVar 6)) (fVar 11))) (fVar 6) [a0, a1, a2, a3, some (.int many), some (.ref j), a6, a7, a8, a9, a10, some (.int g), a12] M) fun x M' => M' = M ∧ ∃ c : List Int, x = .fl (c.map D.int) ∧ c ≠ [] ∧ c.length ≤ many ∧ ∀ y ∈ c, 0 ≤ y ∧ y < (many : Int) := by
  refine ok_comp.mpr ⟨_, _, _, range_of (j := (many : Int)) rfl (by omega) (by omega), by rw [upFrom_length]; exact size_ok (by omega), ?_⟩
  rw [show (many : Int).toNat = many by omega]
  refine Ok.mono (ok_compL (I := fun r acc M2 => M2 = M ∧ ∃ (i : Nat) (c : List Int), i ≤ many ∧ r = upFrom i (many - i) ∧ acc = c.map D.int ∧ c.length ≤ i ∧ (∀ y ∈ c, 0 ≤ y ∧ y < (many : Int)) ∧ ∀ r, r < i → ow.getD r 0 = g → c ≠ []) (Q := fun acc M2 => M2 = M ∧ ∃ c : List Int, acc = c.map D.int ∧ c ≠ [] ∧ c.length ≤ many ∧ ∀ y ∈ c, 0 ≤ y ∧ y < (many : Int)) ?_ ?_ _ [] _ ⟨rfl, 0, [], Nat.zero_le _, by simp, rfl, by simp, (fun _ h => by cases h), fun r h => by omega⟩) ?_
  · rintro x r acc M2 ⟨rfl, i, c, hi, e, rfl, hcl, hc, hne⟩
    have hlt : i < many := by
      rcases Nat.lt_or_ge i many with z | z
      · exact z
      · rw [show many - i = 0 by omega] at e; cases e
    rw [show many - i = (many - (i + 1)) + 1 by omega] at e
    obtain ⟨rfl, rfl⟩ := List.cons.inj e
    refine ⟨grd_none, _, rfl, ?_⟩
    have hat : atI (ow.map D.int) ((i : Nat) : Int) = some (.int (ow.getD i 0)) := by
      have := int_at (r := ow) (g := ((i : Nat) : Int)) (by omega) (by omega)
      rw [Int.toNat_natCast] at this; exact this
    refine ok_of_eq (M := M2) (a := decide (ow.getD i 0 = g)) (tst_eq (op_eq' (x := .dat (.int (ow.getD i 0))) (y := .dat (.int g)) (op_eq' (x := .dat (.ref j)) (y := .dat (.int ((i : Nat) : Int))) rfl rfl (ix_eq (seq_ref ej) hat)) rfl (eq_of_ok (k_eq.mpr ⟨rfl, rfl⟩)))) ?_
    by_cases he : ow.getD i 0 = g
    · rw [if_pos (by simpa using he)]
      refine ok_of_eq (M := M2) (a := .dat (.int ((i : Nat) : Int))) rfl ?_
      rw [toDp_dat]
      refine ⟨rfl, i + 1, c ++ [((i : Nat) : Int)], hlt, rfl, by simp, by simp; omega, fun y hy => ?_, fun _ _ _ => by simp⟩
      rcases List.mem_append.mp hy with q | q
      · exact hc y q
      · have : y = ((i : Nat) : Int) := by simpa using q
        omega
    · rw [if_neg (by simpa using he)]
      refine ⟨rfl, i + 1, c, hlt, rfl, rfl, by omega, hc, fun r hr hq => ?_⟩
      rcases Nat.lt_or_ge r i with z | z
      · exact hne r z hq
      · have : r = i := by omega
        subst this; exact absurd hq he
  · rintro acc M2 ⟨rfl, i, c, hi, e, rfl, hcl, hc, hne⟩
    have : i = many := by
      rcases Nat.lt_or_ge i many with z | z
      · rw [show many - i = (many - (i + 1)) + 1 by omega] at e; cases e
      · omega
    subst this
    obtain ⟨q, hq, eq⟩ := List.mem_iff_getElem.mp hg
    exact ⟨grd_none, rfl, c, rfl, hne q (by omega) (by rw [List.getD_eq_getElem?_getD, List.getElem?_eq_getElem hq]; exact eq), hcl, hc⟩
  · rintro ys M2 ⟨rfl, c, e, h⟩
    rw [List.nil_append] at e
    exact ⟨rfl, c, by rw [e], h⟩
theorem copies_ok {M : Mem} {n k : Nat} (h : Gen M n k) {most lm : Int} (hm : 20 ≤ most) (hm1 : most ≤ 900) (hl : 0 < lm) (hl1 : lm ≤ 900) :
    Ok (m_law_copies [.ref n, .int most, .int lm] M) fun d M' => ∃ rows l j ow, d = .tup [mD rows, .ref j] ∧ IsM rows l ∧ (rows.length : Int) ≤ most ∧ (l : Int) ≤ lm ∧ M'[j]? = some (.lst ((ow : List Int).map D.int)) ∧ ow.length = rows.length ∧ Nw M M' n k := by
  obtain ⟨hn, hk⟩ := h.lt
  unfold m_law_copies
  rw [ok_def]
  unfold b_law_copies
  show OkS (sSeq _ _ [some (.ref n), some (.int most), some (.int lm), none, none, none, none, none, none, none, none, none, none] M) _
  rw [oks_seq, oks_set]
  refine ok_call.mpr (ok_of_eq (aC_eq rfl (aC_eq rfl (a1_eq rfl))) ?_)
  refine Ok.mono (machine_ok h (by decide) (by decide) hl hl1) ?_
  rintro d M1 ⟨⟨base, l, rfl, mb, hB, hL⟩, nw1⟩
  have b0 := mb.r0
  have l0 := mb.l0
  have hB' : base.length ≤ 8 := by omega
  rw [toDp_dat, nxP_nx, oks_seq, oks_set]
  refine ok_op.mpr (ok_of_eq (rows_len rfl) ?_)
  refine call_next nw1.gen rfl (op_eq' (x := .dat (.int (most + 1))) (op_eq' rfl rfl rfl) (rows_len rfl) rfl) (by omega) (by omega) fun ex M2 x0 x1 nw2 _ => k_plus.mpr ?_
  rw [toDp_dat, nxP_nx, oks_seq, oks_set]
  have nw2' := nw1.trans nw2
  obtain ⟨many, hmany⟩ : ∃ many : Nat, (base.length : Int) + ex = (many : Int) := ⟨((base.length : Int) + ex).toNat, by omega⟩
  rw [hmany]
  have mB : base.length ≤ many := by omega
  have mM : (many : Int) ≤ most := by omega
  -- the owners
  have elr : fLstR (fB kLen (eCons (fVar 3) eNil)) [some (.ref n), some (.int most), some (.int lm), some (mD base), some (.int many), none, none, none, none, none, none, none, none] M2 = some (.fl (((List.range base.length).map fun (k : Nat) => (k : Int)).map D.int), M2) := by
    unfold fLstR
    rw [rows_len (rows := base) rfl]
    dsimp only
    rw [if_pos ⟨by omega, by omega⟩, up_ints, show (base.length : Int).toNat = base.length by omega]
  refine ok_op.mpr (ok_of_eq elr ?_)
  refine Ok.mono (draws_ok nw2'.gen (few := base.length) (many := (many : Int) - base.length) (by omega) (by omega) (by omega) (by omega) (op_eq' rfl (rows_len rfl) rfl) (fun _ _ => rfl) (fun _ _ => rows_len rfl)) ?_
  rintro x M3 ⟨⟨cx, rfl, hcl, hcx⟩, nw3, _⟩
  have nw3' := nw2'.trans nw3
  refine k_catL rfl rfl (by simp; omega) (toDp_new ?_)
  rw [← List.map_append, nxP_nx]
  generalize how : ((List.range base.length).map fun (k : Nat) => (k : Int)) ++ cx = ow
  have owl : ow.length = many := by rw [← how]; simp; omega
  have owb : ∀ x ∈ ow, 0 ≤ x ∧ x < base.length := by
    intro x hx
    rw [← how] at hx
    rcases List.mem_append.mp hx with q | q
    · obtain ⟨a, ha, rfl⟩ := List.mem_map.mp q
      have := List.mem_range.mp ha; omega
    · exact hcx x q
  have ows : ∀ g : Int, 0 ≤ g → g < base.length → g ∈ ow := by
    intro g g0 g1
    rw [← how]
    exact List.mem_append_left _ (List.mem_map.mpr ⟨g.toNat, List.mem_range.mpr (by omega), by omega⟩)
  have nw4 := nw3'.trans (nw3'.gen.lst (ow.map D.int) (unds_ints _ _))
  have e5 : (M3 ++ [MO.lst (ow.map D.int)])[M3.length]? = some (.lst (ow.map D.int)) := last_get _ _
  have hj5 : M.length ≤ M3.length := nw3'.len
  generalize hM4 : M3 ++ [MO.lst (ow.map D.int)] = M4 at nw4 e5
  generalize M3.length = j5 at e5 hj5
  show OkS (sSeq _ _ [some (.ref n), some (.int most), some (.int lm), some (mD base), some (.int many), some (.ref j5), none, none, none, none, none, none, none] M4) _
  rw [oks_seq, oks_set]
  refine call_next nw4.gen rfl rfl (by omega) (by omega) fun tn M5 t0 t1 nw5 _ => ?_
  rw [toDp_dat, nxP_nx, oks_seq, oks_set]
  have nw5' := nw4.trans nw5
  have e5' := nw5.get e5 (by omega) (by omega)
  obtain ⟨t, ht⟩ : ∃ t : Nat, tn = (t : Int) := ⟨tn.toNat, by omega⟩
  subst ht
  show Ok (fOp _ _ _ [some (.ref n), some (.int most), some (.int lm), some (mD base), some (.int many), some (.ref j5), none, some (.int (t : Nat)), none, none, none, none, none] M5) _
  have s1 := slL (f := fVar 5) (fl := oSome (fVar 7)) (fh := oNone) (σ := [some (.ref n), some (.int most), some (.int lm), some (mD base), some (.int many), some (.ref j5), none, some (.int (t : Nat)), none, none, none, none, none]) rfl rfl (lst_ref e5') (oS (i := (t : Int)) rfl) rfl
  have s2 := slL (f := fVar 5) (fl := oNone) (fh := oSome (fVar 7)) (σ := [some (.ref n), some (.int most), some (.int lm), some (mD base), some (.int many), some (.ref j5), none, some (.int (t : Nat)), none, none, none, none, none]) rfl rfl (lst_ref e5') rfl (oS (i := (t : Int)) rfl)
  rw [cut_dropN (by simp; omega)] at s1
  rw [cut_takeN (by simp; omega)] at s2
  refine ok_op.mpr (ok_of_eq s1 (ok_of_eq s2 (k_catL rfl rfl (by simp; omega) (toDp_new ?_))))
  rw [← List.map_drop, ← List.map_take, ← List.map_append, nxP_nx]
  have hmem : ∀ x, x ∈ ow.drop t ++ ow.take t ↔ x ∈ ow := fun x => by
    rw [List.mem_append, Or.comm, ← List.mem_append, List.take_append_drop]
  have hlen' : (ow.drop t ++ ow.take t).length = many := by simp; omega
  generalize ow.drop t ++ ow.take t = ow2 at hmem hlen'
  replace owb : ∀ x ∈ ow2, 0 ≤ x ∧ x < base.length := fun x hx => owb x ((hmem x).mp hx)
  replace ows : ∀ g : Int, 0 ≤ g → g < base.length → g ∈ ow2 := fun g g0 g1 => (hmem g).mpr (ows g g0 g1)
  have nw6 := nw5'.trans (nw5'.gen.lst (ow2.map D.int) (unds_ints _ _))
  have e6 : (M5 ++ [MO.lst (ow2.map D.int)])[M5.length]? = some (.lst (ow2.map D.int)) := last_get _ _
  have hj6 : M.length ≤ M5.length := nw5'.len
  generalize M5 ++ [MO.lst (ow2.map D.int)] = M6 at nw6 e6
  generalize M5.length = j at e6 hj6
  show OkS (sSeq _ _ [some (.ref n), some (.int most), some (.int lm), some (mD base), some (.int many), some (.ref j), none, some (.int (t : Nat)), none, none, none, none, none] M6) _
  rw [oks_seq, oks_set]
  refine ok_lst.mpr (ok_aNil.mpr ⟨size_ok (by simp), toDp_new ?_⟩)
  rw [nxP_nx]
  have nw7 := nw6.trans (nw6.gen.lst [] rfl)
  have e8 : (M6 ++ [MO.lst ([] : List D)])[M6.length]? = some (.lst []) := last_get _ _
  have hj8 : M.length ≤ M6.length := nw6.len
  have hjlt : j < M6.length := (List.getElem?_eq_some_iff.mp e6).1
  have e6' : (M6 ++ [MO.lst ([] : List D)])[j]? = some (.lst (ow2.map D.int)) := by rw [List.getElem?_append_left hjlt]; exact e6
  generalize M6 ++ [MO.lst ([] : List D)] = M7 at nw7 e8 e6'
  generalize M6.length = j8 at e8 hj8 hjlt
  show OkS (sSeq _ _ [some (.ref n), some (.int most), some (.int lm), some (mD base), some (.int many), some (.ref j), none, some (.int (t : Nat)), some (.ref j8), none, none, none, none] M7) _
  rw [oks_seq, oks_for]
  refine ⟨_, _, _, iSeq_of (x := .dat (.ref j)) rfl (seq_ref e6'), ?_⟩
  refine oks_loop (I := fun r σ M' => (∃ y6 y9 y10 y11 y12, σ = [some (.ref n), some (.int most), some (.int lm), some (mD base), some (.int many), some (.ref j), y6, some (.int (t : Nat)), some (.ref j8), y9, y10, y11, y12]) ∧ ∃ (r' : List Int) (rows : List (List Int)), r = r'.map D.int ∧ (∀ x ∈ r', x ∈ ow2) ∧ rows.length + r'.length = many ∧ (∀ q ∈ rows, q.length = l ∧ ∀ g ∈ q, 0 ≤ g ∧ g < (many : Int)) ∧ M'[j]? = some (.lst (ow2.map D.int)) ∧ M'[j8]? = some (.lst (rows.map fun r => D.tup (r.map D.int))) ∧ Nw M M' n k) ?_ ?_ _ _ _ ⟨⟨_, _, _, _, _, rfl⟩, ow2, [], rfl, fun _ h => h, by simpa using hlen', (fun _ h => by cases h), e6', e8, nw7⟩
  · rintro x r σ M' ⟨⟨y6, y9, y10, y11, y12, rfl⟩, r', rows, hr, hsub, hrl, hrw, ej, ej8, nw⟩
    obtain ⟨o, r'', rfl, rfl, rfl⟩ := map_ints_cons hr
    refine ⟨.inl ej, _, rfl, ?_⟩
    obtain ⟨o0, o1⟩ := owb o (hsub o List.mem_cons_self)
    obtain ⟨bl, bb⟩ := mb.get (h := o) o0 o1
    show OkS (sSeq _ _ [some (.ref n), some (.int most), some (.int lm), some (mD base), some (.int many), some (.ref j), y6, some (.int (t : Nat)), some (.ref j8), some (.int o), y10, y11, y12] M') _
    rw [oks_seq, oks_set]
    refine ok_lst.mpr (ok_aNil.mpr ⟨size_ok (by simp), toDp_new ?_⟩)
    rw [nxP_nx]
    have nwa := nw.trans (nw.gen.lst [] rfl)
    have e10 : (M' ++ [MO.lst ([] : List D)])[M'.length]? = some (.lst []) := last_get _ _
    have hj10 : M.length ≤ M'.length := nw.len
    have l8 : j8 < M'.length := (List.getElem?_eq_some_iff.mp ej8).1
    have l5 : j < M'.length := (List.getElem?_eq_some_iff.mp ej).1
    have ej' : (M' ++ [MO.lst ([] : List D)])[j]? = some (.lst (ow2.map D.int)) := by rw [List.getElem?_append_left l5]; exact ej
    have ej8' : (M' ++ [MO.lst ([] : List D)])[j8]? = some (.lst (rows.map fun r => D.tup (r.map D.int))) := by rw [List.getElem?_append_left l8]; exact ej8
    generalize M' ++ [MO.lst ([] : List D)] = Ma at nwa e10 ej' ej8'
    generalize M'.length = j10 at e10 hj10 l8 l5
    show OkS (sSeq _ _ [some (.ref n), some (.int most), some (.int lm), some (mD base), some (.int many), some (.ref j), y6, some (.int (t : Nat)), some (.ref j8), some (.int o), some (.ref j10), y11, y12] Ma) _
    generalize hrow : base.getD o.toNat [] = row at bl bb
    rw [oks_seq, oks_for]
    have erow : fOp kIx (fVar 3) (fVar 9) [some (.ref n), some (.int most), some (.int lm), some (mD base), some (.int many), some (.ref j), y6, some (.int (t : Nat)), some (.ref j8), some (.int o), some (.ref j10), y11, y12] Ma = some (.dat (.tup (row.map D.int)), Ma) := by
      rw [← hrow]
      exact op_eq' rfl rfl (ix_eq seq_tup (row_at o0 o1))
    refine ⟨_, _, _, seqI_eq erow, ?_⟩
    refine oks_loop (I := fun r σ M'' => (∃ y6 y11 y12, σ = [some (.ref n), some (.int most), some (.int lm), some (mD base), some (.int many), some (.ref j), y6, some (.int (t : Nat)), some (.ref j8), some (.int o), some (.ref j10), y11, y12]) ∧ ∃ (r' q : List Int), r = r'.map D.int ∧ (∀ x ∈ r', x ∈ row) ∧ q.length + r'.length = l ∧ (∀ g ∈ q, 0 ≤ g ∧ g < (many : Int)) ∧ M''[j]? = some (.lst (ow2.map D.int)) ∧ M''[j8]? = some (.lst (rows.map fun r => D.tup (r.map D.int))) ∧ M''[j10]? = some (.lst (q.map D.int)) ∧ Nw M M'' n k) ?_ ?_ _ _ _ ⟨⟨_, _, _, rfl⟩, row, [], rfl, fun _ h => h, by simpa using bl, (fun _ h => by cases h), ej', ej8', e10, nwa⟩
    · rintro x r σ Mx ⟨⟨y6, y11, y12, rfl⟩, r', q, hr', hsub', hql, hq, f5, f8, f10, nwx⟩
      obtain ⟨g, rr, rfl, rfl, rfl⟩ := map_ints_cons hr'
      refine ⟨grd_none, _, rfl, ?_⟩
      obtain ⟨g0, g1⟩ := bb g (hsub' g List.mem_cons_self)
      show OkS (sSeq _ _ [some (.ref n), some (.int most), some (.int lm), some (mD base), some (.int many), some (.ref j), y6, some (.int (t : Nat)), some (.ref j8), some (.int o), some (.ref j10), some (.int g), y12] Mx) _
      rw [oks_seq, oks_set]
      refine Ok.mono (rooms_comp (by omega) hlen' f5 (ows g g0 g1)) ?_
      rintro x M9 ⟨rfl, c, rfl, hne, hcz, hc⟩
      refine toDp_new ?_
      rw [nxP_nx, oks_expr]
      have nwb := nwx.trans (nwx.gen.lst (c.map D.int) (unds_ints _ _))
      have e12 : (M9 ++ [MO.lst (c.map D.int)])[M9.length]? = some (.lst (c.map D.int)) := last_get _ _
      have p5 : j < M9.length := (List.getElem?_eq_some_iff.mp f5).1
      have p8 : j8 < M9.length := (List.getElem?_eq_some_iff.mp f8).1
      have p10 : j10 < M9.length := (List.getElem?_eq_some_iff.mp f10).1
      have f5' : (M9 ++ [MO.lst (c.map D.int)])[j]? = some (.lst (ow2.map D.int)) := by rw [List.getElem?_append_left p5]; exact f5
      have f8' : (M9 ++ [MO.lst (c.map D.int)])[j8]? = some (.lst (rows.map fun r => D.tup (r.map D.int))) := by rw [List.getElem?_append_left p8]; exact f8
      have f10' : (M9 ++ [MO.lst (c.map D.int)])[j10]? = some (.lst (q.map D.int)) := by rw [List.getElem?_append_left p10]; exact f10
      have hj12 : M.length ≤ M9.length := nwx.len
      generalize M9 ++ [MO.lst (c.map D.int)] = Mb at nwb e12 f5' f8' f10'
      generalize M9.length = j12 at e12 hj12 p5 p8 p10
      show Ok (fM _ _ _ [some (.ref n), some (.int most), some (.int lm), some (mD base), some (.int many), some (.ref j), y6, some (.int (t : Nat)), some (.ref j8), some (.int o), some (.ref j10), some (.int g), some (.ref j12)] Mb) _
      have hcl0 : 0 < c.length := List.length_pos_iff.mpr hne
      have elen : fB kLen (eCons (fVar 12) eNil) [some (.ref n), some (.int most), some (.int lm), some (mD base), some (.int many), some (.ref j), y6, some (.int (t : Nat)), some (.ref j8), some (.int o), some (.ref j10), some (.int g), some (.ref j12)] Mb = some (.dat (.int c.length), Mb) := by
        have := len_eq (f := fVar 12) (σ := [some (.ref n), some (.int most), some (.int lm), some (mD base), some (.int many), some (.ref j), y6, some (.int (t : Nat)), some (.ref j8), some (.int o), some (.ref j10), some (.int g), some (.ref j12)]) (M := Mb) rfl (seq_ref e12)
        rw [List.length_map] at this; exact this
      refine ok_M.mpr (ok_var.mpr ⟨_, rfl, ⟨_, lst_ref f10'⟩, ok_aCons.mpr (ok_toD.mpr (ok_op.mpr (ok_var.mpr ⟨_, rfl, ?_⟩)))⟩)
      refine call_next nwb.gen rfl elen (by omega) (by omega) fun z Mc z0 z1 nwc _ => ?_
      have h12 := nwc.get e12 (by omega) (by omega)
      refine k_ix (seq_ref h12) (int_at z0 z1) ?_
      have hcv := hc (c.getD z.toNat 0) (by rw [List.getD_eq_getElem?_getD, List.getElem?_eq_getElem (by omega)]; exact List.getElem_mem _)
      have h5 := nwc.get f5' (by omega) (by omega)
      have h8 := nwc.get f8' (by omega) (by omega)
      have h10 := nwc.get f10' (by omega) (by omega)
      generalize c.getD z.toNat 0 = v at hcv
      have hql' : q.length < l := by simp at hql; omega
      rw [toDp_dat, ok_aNil, k_append h10 (by rw [List.length_map]; exact Nat.lt_of_lt_of_le (m := 95000) (by omega) (size_ok (by omega)))]
      refine ⟨⟨_, _, _, rfl⟩, rr, q ++ [v], rfl, fun x hx => hsub' x (List.mem_cons_of_mem _ hx), by simp at hql ⊢; omega, fun x hx => ?_, ?_, ?_, ?_, ?_⟩
      · rcases List.mem_append.mp hx with w | w
        · exact hq x w
        · have : x = v := by simpa using w
          subst this; exact hcv
      · rw [List.getElem?_set_ne (by omega)]; exact h5
      · rw [List.getElem?_set_ne (by omega)]; exact h8
      · rw [List.getElem?_set_self (List.getElem?_eq_some_iff.mp h10).1, List.map_append]; rfl
      · refine (nwb.trans nwc).setB h (by omega) ?_
        show D.unds _ _ = true
        rw [unds_app, unds_ints]; rfl
    · rintro σ Mx ⟨⟨y6, y11, y12, rfl⟩, r', q, hr', hsub', hql, hq, f5, f8, f10, nwx⟩
      have : r' = [] := by cases r' with | nil => rfl | cons _ _ => cases hr'
      subst this
      refine ⟨grd_none, ?_⟩
      rw [nxP_nx, oks_expr]
      have et : fB kTuple (eCons (fVar 10) eNil) [some (.ref n), some (.int most), some (.int lm), some (mD base), some (.int many), some (.ref j), y6, some (.int (t : Nat)), some (.ref j8), some (.int o), some (.ref j10), y11, y12] Mx = some (.dat (.tup (q.map D.int)), Mx) := tuple_eq (x := .dat (.ref j10)) rfl (seq_ref f10)
      refine ok_M.mpr (ok_var.mpr ⟨_, rfl, ⟨_, lst_ref f8⟩, ok_of_eq (a1_eq et) ?_⟩)
      have hrl' : rows.length < many := by simp at hrl; omega
      rw [k_append f8 (by rw [List.length_map]; exact Nat.lt_of_lt_of_le (m := 95000) (by omega) (size_ok (by omega)))]
      refine ⟨⟨_, _, _, _, _, rfl⟩, r'', rows ++ [q], rfl, fun x hx => hsub x (List.mem_cons_of_mem _ hx), by simp at hrl ⊢; omega, fun x hx => ?_, ?_, ?_, ?_⟩
      · rcases List.mem_append.mp hx with w | w
        · exact hrw x w
        · have : x = q := by simpa using w
          subst this; exact ⟨by simpa using hql, hq⟩
      · rw [List.getElem?_set_ne (by omega)]; exact f5
      · rw [List.getElem?_set_self (List.getElem?_eq_some_iff.mp f8).1, List.map_append]; rfl
      · refine nwx.setB h hj8 ?_
        show D.unds _ _ = true
        rw [unds_app, rows_und]
        simp [D.unds, und_ints]
  · rintro σ M' ⟨⟨y6, y9, y10, y11, y12, rfl⟩, r', rows, hr, hsub, hrl, hrw, ej, ej8, nw⟩
    have : r' = [] := by cases r' with | nil => rfl | cons _ _ => cases hr
    subst this
    refine ⟨.inl ej, ?_⟩
    rw [nxP_nx]
    have hrl' : rows.length = many := by simpa using hrl
    refine ret_eq (tupE (aC_eq (d := mD rows) (tuple_eq (x := .dat (.ref j8)) rfl (seq_ref ej8)) (a1_eq (d := .ref j) rfl)) (by simp)) ⟨rows, l, j, ow2, rfl, ⟨by omega, l0, fun q hq => ?_⟩, by omega, hL, ej, by omega, nw⟩
    obtain ⟨q1, q2⟩ := hrw q hq
    exact ⟨q1, fun g hg => by rw [hrl']; exact q2 g hg⟩
end Lad

set_option Elab.async false
set_option linter.all false
set_option maxRecDepth 100000
namespace Lad
open PySem PySem.Spec PyProof.Rows L2 L3 ST Law
theorem either_ok {M : Mem} {n k : Nat} (h : Gen M n k) {most lm : Int} (hm : 20 ≤ most) (hm1 : most ≤ 900) (hl : 0 < lm) (hl1 : lm ≤ 900) :
    Ok (m_law_either [.ref n, .int most, .int lm] M) fun d M' => ∃ rows l p, d = .tup [mD rows, tI p] ∧ IsM rows l ∧ (rows.length : Int) ≤ most ∧ (l : Int) ≤ lm ∧ p.length = rows.length ∧ Nw M M' n k := by
  obtain ⟨hn, hk⟩ := h.lt
  unfold m_law_either
  refine ok_trim ?_
  rw [ok_def]
  unfold b_law_either
  show OkS (sSeq _ _ [some (.ref n), some (.int most), some (.int lm), none, none, none, none] M) _
  have tail : ∀ (A : Mem) (rows : List (List Int)) (l j : Nat) (ow : List Int) (y5 y6 : Option D), Nw M A n k → IsM rows l → (rows.length : Int) ≤ most → (l : Int) ≤ lm → A[j]? = some (.lst (ow.map D.int)) → ow.length = rows.length →
      OkS (sRet (fTup (aCons (toD (fVar 3)) (aCons (toD (fCall m_law_numbered (aCons (toD (fVar 4)) aNil))) aNil))) [some (.ref n), some (.int most), some (.int lm), some (mD rows), some (.ref j), y5, y6] A) fun o x M1 => match o with
        | .ret d => (D.und M.length d = true ∧ M.length ≤ M1.length ∧ ∀ (j : Nat) u, j < M.length → M1[j]? = some u → MO.und M.length u = true) ∧ ∃ rows l p, d = .tup [mD rows, tI p] ∧ IsM rows l ∧ (rows.length : Int) ≤ most ∧ (l : Int) ≤ lm ∧ p.length = rows.length ∧ Nw M (M1.take M.length) n k
        | .nx => (D.und M.length .non = true ∧ M.length ≤ M1.length ∧ ∀ (j : Nat) u, j < M.length → M1[j]? = some u → MO.und M.length u = true) ∧ ∃ rows l p, D.non = .tup [mD rows, tI p] ∧ IsM rows l ∧ (rows.length : Int) ≤ most ∧ (l : Int) ≤ lm ∧ p.length = rows.length ∧ Nw M (M1.take M.length) n k
        | _ => False := by
    intro A rows l j ow y5 y6 nw m h1 h2 ej hol
    refine ret_eq (tupE (aC_eq (d := mD rows) rfl (a1_eq (d := tI (numR ow)) (call_eq (a1_eq (d := .ref j) rfl) (numbered_eq nw.gen.wf ej (by omega))))) (by simp)) ⟨⟨?_, nw.len, nw.wf0 h⟩, rows, l, numR ow, rfl, m, h1, h2, by rw [numR_len, hol], nw.trim h⟩
    unfold D.und D.unds D.unds D.unds
    rw [mD_und]; simp [tI, und_ints]
  rw [oks_seq, oks_if]
  refine ok_tst.mpr (ok_op.mpr (call_next h rfl rfl (by decide) (by decide) fun w M1 w0 w1 nw1 _ => ok_c.mpr (k_eq.mpr (blP_bl.mpr ?_))))
  by_cases hw : w = 0
  · rw [if_pos (by simpa using hw), oks_asg]
    refine ok_call.mpr (ok_of_eq (aC_eq rfl (aC_eq rfl (a1_eq rfl))) ?_)
    refine Ok.mono (copies_ok nw1.gen hm hm1 hl hl1) ?_
    rintro d M2 ⟨rows, l, j, ow, rfl, m, h1, h2, ej, hol, nw2⟩
    rw [toDp_dat]
    refine ⟨_, rfl, ?_⟩
    rw [nxP_nx]
    exact tail M2 rows l j ow _ _ (nw1.trans nw2) m h1 h2 ej hol
  · rw [if_neg (by simpa using hw), oks_seq, oks_set]
    refine ok_call.mpr (ok_of_eq (aC_eq rfl (aC_eq rfl (a1_eq rfl))) ?_)
    refine Ok.mono (machine_ok nw1.gen (by omega) hm1 hl hl1) ?_
    rintro d M2 ⟨⟨rows, l, rfl, m, h1, h2⟩, nw2⟩
    have r0 := m.r0
    have nw2' := nw1.trans nw2
    rw [toDp_dat, nxP_nx, oks_seq, oks_set]
    refine ok_op.mpr (ok_c.mpr (call_next nw2'.gen rfl (rows_len rfl) (by omega) (by omega) fun f M3 f0 f1 nw3 _ => k_plus.mpr ?_))
    have nw3' := nw2'.trans nw3
    rw [toDp_dat, nxP_nx, oks_set]
    refine Ok.mono (draws_seq nw3'.gen (few := 1 + f) (xs := rows.map fun r => D.tup (r.map D.int)) (by omega) (by omega) (by simp; omega) rfl (fun _ _ => rfl) (fun _ _ => rfl)) ?_
    rintro x M4 ⟨⟨c, rfl, hcl, _⟩, nw4⟩
    have nw4' := nw3'.trans nw4
    refine toDp_new ?_
    rw [nxP_nx]
    exact tail _ rows l M4.length c _ _ (nw4'.trans (nw4'.gen.lst _ (unds_ints _ _))) m (by omega) h2 (last_get _ _) (by rw [hcl]; simp)
end Lad

set_option Elab.async false
set_option linter.all false
set_option maxRecDepth 100000
namespace Lad
open PySem PySem.Spec PyProof.Rows L2 L3 ST Law
noncomputable def b_law : FS := (sSeq (sSet 1 (fCall m_law_begin (aCons (toD (fVar 0)) aNil)))
    (sSeq (sFor (iRange (aCons (toD (fB kMin2 (eCons (fC (.int 6)) (eCons (fOp kPlus (fC (.int 1)) (fB kLen (eCons (fVar 0) eNil))) eNil)))) aNil)) (gN 2) (sSeq (sAsg (gPair 3 4) (fCall m_law_either (aCons (toD (fVar 1)) (aCons (toD (fC (.int 26))) (aCons (toD (fC (.int 6))) aNil)))))
    (sSeq (sSet 5 (fB kList (eCons (fVar 4) eNil)))
    (sSeq (sSub (fCall m_law_next (aCons (toD (fVar 1)) (aCons (toD (fB kLen (eCons (fVar 5) eNil))) aNil))) (fVar 5) (fCall m_law_next (aCons (toD (fVar 1)) (aCons (toD (fB kLen (eCons (fVar 5) eNil))) aNil))))
    (sFor (iSeq (fLst (aCons (toD (fVar 4)) (aCons (toD (fCall m_law_numbered (aCons (toD (fVar 5)) aNil))) (aCons (toD (fTupR (fB kLen (eCons (fVar 3) eNil)))) (aCons (toD (fOp kRep (fTup (aCons (toD (fC (.int 0))) aNil)) (fB kLen (eCons (fVar 3) eNil)))) (aCons (toD (fVar 4)) aNil))))))) (gN 6) (sSeq (sSet 7 (fCall m_is_kept (aCons (toD (fVar 3)) (aCons (toD (fVar 6)) aNil))))
    (sIf (tOrF (tNotF (tst (fIsI "bool" (fVar 7)))) (tst (fOp kNe (fVar 7) (fCall m_law_kept (aCons (toD (fVar 3)) (aCons (toD (fVar 6)) aNil)))))) (sRet (fC (.bl false))) sNil)))))))
    (sRet (fC (.bl true)))))
noncomputable def m_law : FF := fDef 8 b_law

theorem neB {a : Bool} {M : Mem} : kNe (.dat (.bl a)) (.dat (.bl a)) M = some (.dat (.bl false), M) := by cases a <;> rfl
theorem Gen.setO {A : Mem} {n k j : Nat} {u : MO} (h : Gen A n k) (h1 : j ≠ n) (h2 : j ≠ k) (hu : MO.und A.length u = true) : Gen (A.set j u) n k := by
  obtain ⟨c, s, e1, e2, r⟩ := h.ex
  refine ⟨⟨c, s, by rw [List.getElem?_set_ne h1]; exact e1, by rw [List.getElem?_set_ne h2]; exact e2, r⟩, h.ne, fun i v e => ?_⟩
  rw [List.length_set]
  rw [List.getElem?_set] at e
  split at e
  · split at e
    · cases e; exact hu
    · cases e
  · exact h.wf i v e
set_option maxHeartbeats 4000000 in
theorem law_true (ns : List Int) (h : ns.length ≤ 63) : ∃ M', m_law [.ref 0] [.fro (ns.map D.int)] = some (.bl true, M') := by
  suffices hh : Ok (m_law [.ref 0] [.fro (ns.map D.int)]) fun d _ => d = .bl true by
    obtain ⟨d, M', e, rfl⟩ := hh
    exact ⟨M', e⟩
  unfold m_law
  rw [ok_def]
  unfold b_law
  show OkS (sSeq _ _ [some (.ref 0), none, none, none, none, none, none, none] _) _
  rw [oks_seq, oks_set]
  refine ok_call.mpr (ok_of_eq (a1_eq rfl) ?_)
  refine Ok.mono (begin_ok h) ?_
  rintro d M1 ⟨rfl, g1, e0⟩
  rw [toDp_dat, nxP_nx, oks_seq, oks_for]
  have el : fB kLen (eCons (fVar 0) eNil) [some (.ref 0), some (.ref 1), none, none, none, none, none, none] M1 = some (.dat (.int (ns.map D.int).length), M1) := len_eq (x := .dat (.ref 0)) rfl (seq_fro e0)
  rw [List.length_map] at el
  have emin : fB kMin2 (eCons (fC (.int 6)) (eCons (fOp kPlus (fC (.int 1)) (fB kLen (eCons (fVar 0) eNil))) eNil)) [some (.ref 0), some (.ref 1), none, none, none, none, none, none] M1 = some (.dat (.int (if 1 + (ns.length : Int) < 6 then 1 + (ns.length : Int) else 6)), M1) := min2_eq rfl (op_eq' rfl el rfl)
  refine ⟨_, _, _, range_of emin (by split <;> omega) (by split <;> omega), ?_⟩
  refine oks_up (n := (if 1 + (ns.length : Int) < 6 then 1 + (ns.length : Int) else 6).toNat) (I := fun i σ M' => (∃ y2 y3 y4 y5 y6 y7, σ = [some (.ref 0), some (.ref 1), y2, y3, y4, y5, y6, y7]) ∧ Gen M' 1 2) ?_ ?_ _ _ ⟨⟨_, _, _, _, _, _, rfl⟩, g1⟩
  · rintro i σ M' hi ⟨⟨y2, y3, y4, y5, y6, y7, rfl⟩, g⟩
    refine ⟨_, rfl, ?_⟩
    rw [oks_seq, oks_asg]
    refine ok_call.mpr (ok_of_eq (aC_eq rfl (aC_eq rfl (a1_eq rfl))) ?_)
    refine Ok.mono (either_ok g (by decide) (by decide) (by decide) (by decide)) ?_
    rintro d M2 ⟨rows, l, p, rfl, m, hR, hL, hp, nw2⟩
    have r0 := m.r0
    rw [toDp_dat]
    refine ⟨_, rfl, ?_⟩
    rw [nxP_nx]
    show OkS (sSeq _ _ [some (.ref 0), some (.ref 1), some (.int (i : Nat)), some (mD rows), some (tI p), y5, y6, y7] M2) _
    rw [oks_seq, oks_set]
    refine ok_B.mpr (ok_eCons.mpr (ok_var.mpr ⟨_, rfl, ok_eNil.mpr ((k_list (xs := p.map D.int) (show seqOf M2 (.dat (tI p)) = _ from rfl)).mpr (toDp_new ?_))⟩))
    rw [nxP_nx]
    have nw3 := nw2.trans (nw2.gen.lst (p.map D.int) (unds_ints _ _))
    have e5 : (M2 ++ [MO.lst (p.map D.int)])[M2.length]? = some (.lst (p.map D.int)) := last_get _ _
    have hj5 : 2 < M2.length := by
      have h1 := nw2.gen.lt; have h2 := nw2.gen.ne; omega
    generalize M2 ++ [MO.lst (p.map D.int)] = M3 at nw3 e5
    generalize M2.length = j5 at e5 hj5
    show OkS (sSeq _ _ [some (.ref 0), some (.ref 1), some (.int (i : Nat)), some (mD rows), some (tI p), some (.ref j5), y6, y7] M3) _
    have elen : ∀ (A : Mem), A[j5]? = some (.lst (p.map D.int)) → fB kLen (eCons (fVar 5) eNil) [some (.ref 0), some (.ref 1), some (.int (i : Nat)), some (mD rows), some (tI p), some (.ref j5), y6, y7] A = some (.dat (.int p.length), A) := fun A e => by
      have := len_eq (f := fVar 5) (σ := [some (.ref 0), some (.ref 1), some (.int (i : Nat)), some (mD rows), some (tI p), some (.ref j5), y6, y7]) (M := A) rfl (seq_ref e)
      rw [List.length_map] at this; exact this
    rw [oks_seq, oks_sub]
    refine call_next nw3.gen rfl (elen _ e5) (by omega) (by omega) fun v M4 v0 v1 nw4 _ => ?_
    have e5' := nw4.get e5 (by omega) (by omega)
    rw [toDp_dat]
    refine ok_var.mpr ⟨_, rfl, ?_⟩
    refine call_next nw4.gen rfl (elen _ e5') (by omega) (by omega) fun q M5 q0 q1 nw5 _ => ?_
    have e5'' := nw5.get e5' (by omega) (by omega)
    rw [toDp_dat]
    have eq' : q = ((q.toNat : Nat) : Int) := by omega
    refine ⟨M5.set j5 (.lst ((p.map D.int).set q.toNat (.int v))), ?_, ?_⟩
    · have := kSetL_of (k := q.toNat) (d := .int v) e5'' (by rw [List.length_map]; omega)
      rw [← eq'] at this; exact this
    rw [nxP_nx]
    rw [← List.map_set]
    have g6 : Gen (M5.set j5 (.lst ((p.set q.toNat v).map D.int))) 1 2 := nw5.gen.setO (by omega) (by omega) (unds_ints _ _)
    have e6 : (M5.set j5 (.lst ((p.set q.toNat v).map D.int)))[j5]? = some (.lst ((p.set q.toNat v).map D.int)) := List.getElem?_set_self (List.getElem?_eq_some_iff.mp e5'').1
    have hml : (p.set q.toNat v).length = rows.length := by rw [List.length_set, hp]
    generalize p.set q.toNat v = mv at g6 e6 hml
    generalize M5.set j5 (.lst (mv.map D.int)) = M6 at g6 e6
    rw [oks_for]
    have elst : fLst (aCons (toD (fVar 4)) (aCons (toD (fCall m_law_numbered (aCons (toD (fVar 5)) aNil))) (aCons (toD (fTupR (fB kLen (eCons (fVar 3) eNil)))) (aCons (toD (fOp kRep (fTup (aCons (toD (fC (.int 0))) aNil)) (fB kLen (eCons (fVar 3) eNil)))) (aCons (toD (fVar 4)) aNil))))) [some (.ref 0), some (.ref 1), some (.int (i : Nat)), some (mD rows), some (tI p), some (.ref j5), y6, y7] M6 = some (.fl ([p, numR mv, (List.range rows.length).map fun (k : Nat) => (k : Int), List.replicate rows.length 0, p].map tI), M6) := by
      refine lstE (aC_eq (d := tI p) rfl (aC_eq (d := tI (numR mv)) (call_eq (a1_eq (d := .ref j5) rfl) (numbered_eq g6.wf e6 (by omega))) (aC_eq (d := tI ((List.range rows.length).map fun (k : Nat) => (k : Int))) ?_ (aC_eq (d := tI (List.replicate rows.length 0)) ?_ (a1_eq (d := tI p) rfl))))) (by simp)
      · unfold fTupR
        rw [rows_len (rows := rows) rfl]
        dsimp only
        rw [if_pos ⟨by omega, by omega⟩, up_ints, show (rows.length : Int).toNat = rows.length by omega]; rfl
      · refine (op_eq' (tup1_eq rfl) (rows_len rfl) (repT_eq (by omega) (by omega))).trans ?_
        unfold tI; rw [List.map_replicate, show (rows.length : Int).toNat = rows.length by omega]
    refine ⟨_, _, _, iSeq_fl elst, ?_⟩
    refine oks_loop (I := fun r σ M' => M' = M6 ∧ (∃ y6 y7, σ = [some (.ref 0), some (.ref 1), some (.int (i : Nat)), some (mD rows), some (tI p), some (.ref j5), y6, y7]) ∧ ∃ ps : List (List Int), r = ps.map tI ∧ ∀ x ∈ ps, x.length = rows.length) ?_ ?_ _ _ _ ⟨rfl, ⟨_, _, rfl⟩, _, rfl, fun x hx => ?_⟩
    · rintro x r σ M' ⟨rfl, ⟨y6, y7, rfl⟩, ps, hr, hps⟩
      cases ps with
      | nil => cases hr
      | cons x' ps =>
        rw [List.map_cons] at hr
        obtain ⟨rfl, rfl⟩ := List.cons.inj hr
        have hx := hps x' List.mem_cons_self
        refine ⟨grd_none, _, rfl, ?_⟩
        refine set_eq (call_eq (aC_eq (d := mD rows) rfl (a1_eq (d := tI x') rfl)) (is_kept_eq m (by omega) (by omega) hx)) ?_
        refine skip_if1 (orF_eq (ntT (a := fIsI "bool" (fVar 7)) (k := true) (isV (x := .dat (.bl (keptB rows x'))) rfl rfl (by decide))) (tst_eq (op_eq' (x := .dat (.bl (keptB rows x'))) rfl (call_eq (aC_eq (d := mD rows) rfl (a1_eq (d := tI x') rfl)) (law_kept_eq m (by omega) (by omega) hx)) neB))) ?_
        exact ⟨rfl, ⟨_, _, rfl⟩, ps, rfl, fun z hz => hps z (List.mem_cons_of_mem _ hz)⟩
    · rintro σ M' ⟨rfl, ⟨y6, y7, rfl⟩, ps, hr, hps⟩
      exact ⟨grd_none, ⟨_, _, _, _, _, _, rfl⟩, g6⟩
    · simp only [List.mem_cons, List.not_mem_nil, or_false] at hx
      rcases hx with rfl | rfl | rfl | rfl | rfl
      · exact hp
      · rw [numR_len, hml]
      · simp
      · simp
      · exact hp
  · rintro σ M' ⟨⟨y2, y3, y4, y5, y6, y7, rfl⟩, g⟩
    rw [nxP_nx]
    exact ret_eq rfl rfl
end Lad

set_option maxHeartbeats 4000000
namespace Lad
open PySem PySem.Spec PyProof.Rows L2 L3 Law

-- the text by places
def top (i : Nat) : Stmt := PySem.Challenge.pw_bringhome_k42_kept_or_not.main.body.getD i (.Pass ⟨0, 0, 0, 0⟩)
abbrev s_class_rows : Stmt := top 1
abbrev s_is_kept : Stmt := top 2
abbrev s_law_begin : Stmt := top 4
abbrev s_law_next : Stmt := top 5
abbrev s_law_column : Stmt := top 6
abbrev s_law_machine : Stmt := top 7
abbrev s_law_copies : Stmt := top 8
abbrev s_law_numbered : Stmt := top 9
abbrev s_law_either : Stmt := top 10
abbrev s_law_pairs : Stmt := top 11
abbrev s_law_kept : Stmt := top 12
abbrev s_law : Stmt := top 13
structure Txt (K : PySem.W.Frag) (mg : Str → Option Value) where
  f_class_rows : Addr
  fd_class_rows : FuncData
  F_class_rows : Fun K "class_rows" "class_rows" s_class_rows f_class_rows fd_class_rows
  b_class_rows : Binds K fd_class_rows ["machine", "parting"] []
  m_class_rows : mg "class_rows" = some (.ref f_class_rows)
  f_is_kept : Addr
  fd_is_kept : FuncData
  F_is_kept : Fun K "is_kept" "is_kept" s_is_kept f_is_kept fd_is_kept
  b_is_kept : Binds K fd_is_kept ["machine", "parting"] []
  m_is_kept : mg "is_kept" = some (.ref f_is_kept)
  f_law_begin : Addr
  fd_law_begin : FuncData
  F_law_begin : Fun K "_law_begin" "_law_begin" s_law_begin f_law_begin fd_law_begin
  b_law_begin : Binds K fd_law_begin ["_law_script"] []
  m_law_begin : mg "_law_begin" = some (.ref f_law_begin)
  f_law_next : Addr
  fd_law_next : FuncData
  F_law_next : Fun K "_law_next" "_law_next" s_law_next f_law_next fd_law_next
  b_law_next : Binds K fd_law_next ["_law_state", "_law_many"] []
  m_law_next : mg "_law_next" = some (.ref f_law_next)
  f_law_column : Addr
  fd_law_column : FuncData
  F_law_column : Fun K "_law_column" "_law_column" s_law_column f_law_column fd_law_column
  b_law_column : Binds K fd_law_column ["_law_state", "_law_many", "_law_way"] []
  m_law_column : mg "_law_column" = some (.ref f_law_column)
  f_law_machine : Addr
  fd_law_machine : FuncData
  F_law_machine : Fun K "_law_machine" "_law_machine" s_law_machine f_law_machine fd_law_machine
  b_law_machine : Binds K fd_law_machine ["_law_state", "_law_most", "_law_letters"] []
  m_law_machine : mg "_law_machine" = some (.ref f_law_machine)
  f_law_copies : Addr
  fd_law_copies : FuncData
  F_law_copies : Fun K "_law_copies" "_law_copies" s_law_copies f_law_copies fd_law_copies
  b_law_copies : Binds K fd_law_copies ["_law_state", "_law_most", "_law_letters"] []
  m_law_copies : mg "_law_copies" = some (.ref f_law_copies)
  f_law_numbered : Addr
  fd_law_numbered : FuncData
  F_law_numbered : Fun K "_law_numbered" "_law_numbered" s_law_numbered f_law_numbered fd_law_numbered
  b_law_numbered : Binds K fd_law_numbered ["_law_classes"] []
  m_law_numbered : mg "_law_numbered" = some (.ref f_law_numbered)
  f_law_either : Addr
  fd_law_either : FuncData
  F_law_either : Fun K "_law_either" "_law_either" s_law_either f_law_either fd_law_either
  b_law_either : Binds K fd_law_either ["_law_state", "_law_most", "_law_letters"] []
  m_law_either : mg "_law_either" = some (.ref f_law_either)
  f_law_pairs : Addr
  fd_law_pairs : FuncData
  F_law_pairs : Fun K "_law_pairs" "_law_pairs" s_law_pairs f_law_pairs fd_law_pairs
  b_law_pairs : Binds K fd_law_pairs ["_law_many"] []
  m_law_pairs : mg "_law_pairs" = some (.ref f_law_pairs)
  f_law_kept : Addr
  fd_law_kept : FuncData
  F_law_kept : Fun K "_law_kept" "_law_kept" s_law_kept f_law_kept fd_law_kept
  b_law_kept : Binds K fd_law_kept ["_law_machine_here", "_law_parting"] []
  m_law_kept : mg "_law_kept" = some (.ref f_law_kept)
  f_law : Addr
  fd_law : FuncData
  F_law : Fun K "law" "law" s_law f_law fd_law
  b_law : Binds K fd_law ["_law_script"] []
  m_law : mg "law" = some (.ref f_law)
  z_tuple : mg "tuple" = none
  z_all : mg "all" = none
  z_zip : mg "zip" = none
  z_list : mg "list" = none
  z_range : mg "range" = none
  z_enumerate : mg "enumerate" = none
  z_len : mg "len" = none
  z_min : mg "min" = none
  z_isinstance : mg "isinstance" = none
  z_bool : mg "bool" = none
  kinds : Kinds K

section
variable {P : Program} {w : World} {K : PySem.W.Frag} {mg : Str → Option Value} {base : Heap}
abbrev N_class_rows : List Str := ["machine", "parting", "goal", "row"]
theorem sc_class_rows : FnScope N_class_rows ["machine", "parting"] (defScope s_class_rows) := ⟨rfl, rfl, rfl, by decide +kernel, rfl, by decide +kernel, by decide +kernel⟩
set_option maxHeartbeats 4000000 in
theorem ok_class_rows (T : Txt K mg) : FnOk P w K mg base CX0 1 T.f_class_rows T.fd_class_rows ["machine", "parting"] (spF K 2 m_class_rows) := by
  unfold m_class_rows
  exact fn_def (n := 2) T.F_class_rows sc_class_rows rfl (fun cdv A outer s H E hr => by
    unfold b_class_rows
    exact (qs_one (q_ret (q_comp (gown_name (i := 3) (by decide)) (compIn_of (sc := defScope s_class_rows) (N := N_class_rows) rfl rfl rfl (by decide +kernel) (by decide +kernel)) rfl (q_iseq (q_var (pv 0))) ⟨fun _ _ _ _ _ => (pg_name (i := 3) sc_class_rows.nd rfl (by first | exact Or.inl rfl | exact Or.inr rfl)), fun _ _ _ _ _ => qi_nil, fun _ _ _ _ _ => (q_tuple rfl T.z_tuple (qe_cons (q_comp (gown_name (i := 2) (by decide)) (compIn_of (N := N_class_rows) rfl rfl rfl (by rfl) (by decide +kernel)) rfl (q_iseq (q_var (pv 3))) ⟨fun _ _ _ _ _ => (pg_name (i := 2) sc_class_rows.nd rfl (by first | exact Or.inl rfl | exact Or.inr rfl)), fun _ _ _ _ _ => qi_nil, fun _ _ _ _ _ => (q_ix (q_var (pv 1)) (q_var (pv 2)))⟩) qe_nil (star_cons rfl)) (star_cons rfl) rfl)⟩))))

abbrev N_law_begin : List Str := ["_law_script", "_law_seed", "_law_cell"]
theorem sc_law_begin : FnScope N_law_begin ["_law_script"] (defScope s_law_begin) := ⟨rfl, rfl, rfl, by decide +kernel, rfl, by decide +kernel, by decide +kernel⟩
set_option maxHeartbeats 4000000 in
theorem ok_law_begin (T : Txt K mg) : FnOk P w K mg base CX0 1 T.f_law_begin T.fd_law_begin ["_law_script"] (spF K 1 m_law_begin) := by
  unfold m_law_begin
  exact fn_def (n := 1) T.F_law_begin sc_law_begin rfl (fun cdv A outer s H E hr => by
    unfold b_law_begin
    exact (qs_cons (q_set (i := 1) sc_law_begin.nd rfl (by first | exact Or.inl rfl | exact Or.inr rfl) q_int)
    (qs_cons (q_for gok_name PassesOwn.never rfl (q_iseq (q_slice (q_var (pv 0)) qo_none (qo_some q_int))) (pg_name (i := 2) sc_law_begin.nd rfl (by first | exact Or.inl rfl | exact Or.inr rfl)) (qs_one (q_set (i := 1) sc_law_begin.nd rfl (by first | exact Or.inl rfl | exact Or.inr rfl) (q_mod (q_plus (q_plus (q_mul (q_var (pv 1)) q_int) (q_var (pv 2))) q_int) q_int))))
    (qs_one (q_ret (q_dict2 q_str (q_comp (gown_name (i := 2) (by decide)) (compIn_of (sc := defScope s_law_begin) (N := N_law_begin) rfl rfl rfl (by decide +kernel) (by decide +kernel)) rfl (q_iseq (q_slice (q_var (pv 0)) qo_none (qo_some q_int))) ⟨fun _ _ _ _ _ => (pg_name (i := 2) sc_law_begin.nd rfl (by first | exact Or.inl rfl | exact Or.inr rfl)), fun _ _ _ _ _ => (qi_one (q_tge (q_var (pv 2)) (q_pow q_int q_int))), fun _ _ _ _ _ => (q_var (pv 2))⟩) q_str (q_var (pv 1))))))))

abbrev N_law_next : List Str := ["_law_state", "_law_many", "_law_digit", "_law_mixed"]
theorem sc_law_next : FnScope N_law_next ["_law_state", "_law_many"] (defScope s_law_next) := ⟨rfl, rfl, rfl, by decide +kernel, rfl, by decide +kernel, by decide +kernel⟩
set_option maxHeartbeats 4000000 in
theorem ok_law_next (T : Txt K mg) : FnOk P w K mg base CX0 1 T.f_law_next T.fd_law_next ["_law_state", "_law_many"] (spF K 2 m_law_next) := by
  unfold m_law_next
  exact fn_def (n := 2) T.F_law_next sc_law_next rfl (fun cdv A outer s H E hr => by
    unfold b_law_next
    exact (qs_cons (q_if (q_tne hr.units0 (q_dget (hu_of hr) (q_var (pv 0)) q_str) (q_lst qa_nil)) (qs_cons (q_set (i := 2) sc_law_next.nd rfl (by first | exact Or.inl rfl | exact Or.inr rfl) (q_mod (q_ix (q_dget (hu_of hr) (q_var (pv 0)) q_str) q_int) (q_var (pv 1))))
    (qs_cons (q_setSub (q_div (q_ix (q_dget (hu_of hr) (q_var (pv 0)) q_str) q_int) (q_var (pv 1))) (q_dget (hu_of hr) (q_var (pv 0)) q_str) q_int)
    (qs_cons (q_if (q_teq hr.units0 (q_ix (q_dget (hu_of hr) (q_var (pv 0)) q_str) q_int) q_int) (qs_one (q_expr (q_pop (q_dget (hu_of hr) (q_var (pv 0)) q_str) (qa_cons (q_toD q_int) qa_nil (star_cons rfl))))) qs_nil)
    (qs_one (q_ret (q_var (pv 2))))))) qs_nil)
    (qs_cons (q_dset (hu_of hr) (q_mod (q_plus (q_mul (q_dget (hu_of hr) (q_var (pv 0)) q_str) q_int) q_int) q_int) (q_var (pv 0)) q_str)
    (qs_cons (q_set (i := 3) sc_law_next.nd rfl (by first | exact Or.inl rfl | exact Or.inr rfl) (q_div (q_dget (hu_of hr) (q_var (pv 0)) q_str) q_int))
    (qs_one (q_ret (q_mod (q_div (q_mod (q_mul (q_var (pv 3)) (q_var (pv 3))) q_int) q_int) (q_var (pv 1)))))))))

abbrev N_law_numbered : List Str := ["_law_classes", "_law_known", "_law_own"]
theorem sc_law_numbered : FnScope N_law_numbered ["_law_classes"] (defScope s_law_numbered) := ⟨rfl, rfl, rfl, by decide +kernel, rfl, by decide +kernel, by decide +kernel⟩
set_option maxHeartbeats 4000000 in
theorem ok_law_numbered (T : Txt K mg) : FnOk P w K mg base CX0 1 T.f_law_numbered T.fd_law_numbered ["_law_classes"] (spF K 1 m_law_numbered) := by
  unfold m_law_numbered
  exact fn_trim (fn_def (n := 1) T.F_law_numbered sc_law_numbered rfl (fun cdv A outer s H E hr => by
    unfold b_law_numbered
    exact (qs_cons (q_set (i := 1) sc_law_numbered.nd rfl (by first | exact Or.inl rfl | exact Or.inr rfl) (q_lst qa_nil))
    (qs_cons (q_for gok_name PassesOwn.never rfl (q_iseq (q_var (pv 0))) (pg_name (i := 2) sc_law_numbered.nd rfl (by first | exact Or.inl rfl | exact Or.inr rfl)) (qs_one (q_if (q_tnotin (q_var (pv 2)) (q_var (pv 1))) (qs_one (q_expr (q_append (q_var (pv 1)) (qa_cons (q_toD (q_var (pv 2))) qa_nil (star_cons rfl))))) qs_nil)))
    (qs_one (q_ret (q_tuple rfl T.z_tuple (qe_cons (q_comp (gown_name (i := 2) (by decide)) (compIn_of (sc := defScope s_law_numbered) (N := N_law_numbered) rfl rfl rfl (by decide +kernel) (by decide +kernel)) rfl (q_iseq (q_var (pv 0))) ⟨fun _ _ _ _ _ => (pg_name (i := 2) sc_law_numbered.nd rfl (by first | exact Or.inl rfl | exact Or.inr rfl)), fun _ _ _ _ _ => qi_nil, fun _ _ _ _ _ => (q_indexL (q_var (pv 1)) (qa_cons (q_toD (q_var (pv 2))) qa_nil (star_cons rfl)))⟩) qe_nil (star_cons rfl)) (star_cons rfl) rfl)))))))

abbrev N_law_pairs : List Str := ["_law_many", "_law_found", "_law_one", "_law_other"]
theorem sc_law_pairs : FnScope N_law_pairs ["_law_many"] (defScope s_law_pairs) := ⟨rfl, rfl, rfl, by decide +kernel, rfl, by decide +kernel, by decide +kernel⟩
set_option maxHeartbeats 4000000 in
theorem ok_law_pairs (T : Txt K mg) : FnOk P w K mg base CX0 1 T.f_law_pairs T.fd_law_pairs ["_law_many"] (spF K 1 m_law_pairs) := by
  unfold m_law_pairs
  exact fn_def (n := 1) T.F_law_pairs sc_law_pairs rfl (fun cdv A outer s H E hr => by
    unfold b_law_pairs
    exact (qs_cons (q_set (i := 1) sc_law_pairs.nd rfl (by first | exact Or.inl rfl | exact Or.inr rfl) (q_lst qa_nil))
    (qs_cons (q_for gok_name PassesOwn.never rfl (q_irange1 rfl T.z_range (qa_cons (q_toD (q_var (pv 0))) qa_nil (star_cons rfl)) (alen_cons alen_nil) (star_one rfl)) (pg_name (i := 2) sc_law_pairs.nd rfl (by first | exact Or.inl rfl | exact Or.inr rfl)) (qs_one (q_expr (q_extend (q_var (pv 1)) (qa_cons (q_toD (q_comp (gown_name (i := 3) (by decide)) (compIn_of (sc := defScope s_law_pairs) (N := N_law_pairs) rfl rfl rfl (by decide +kernel) (by decide +kernel)) rfl (q_irange2 rfl T.z_range (qa_cons (q_toD (q_plus (q_var (pv 2)) q_int)) (qa_cons (q_toD (q_var (pv 0))) qa_nil (star_cons rfl)) (star_cons rfl)) (alen_cons (alen_cons alen_nil)) (star_two rfl rfl) (star_one rfl)) ⟨fun _ _ _ _ _ => (pg_name (i := 3) sc_law_pairs.nd rfl (by first | exact Or.inl rfl | exact Or.inr rfl)), fun _ _ _ _ _ => qi_nil, fun _ _ _ _ _ => (q_tup (qa_cons (q_toD (q_var (pv 2))) (qa_cons (q_toD (q_var (pv 3))) qa_nil (star_cons rfl)) (star_cons rfl)))⟩)) qa_nil (star_cons rfl))))))
    (qs_one (q_ret (q_var (pv 1)))))))

abbrev N_is_kept : List Str := ["machine", "parting", "rows", "row", "number"]
theorem sc_is_kept : FnScope N_is_kept ["machine", "parting"] (defScope s_is_kept) := ⟨rfl, rfl, rfl, by decide +kernel, rfl, by decide +kernel, by decide +kernel⟩
set_option maxHeartbeats 4000000 in
theorem ok_is_kept (T : Txt K mg) : FnOk P w K mg base CX0 2 T.f_is_kept T.fd_is_kept ["machine", "parting"] (spF K 2 m_is_kept) := by
  unfold m_is_kept
  exact fn_pure (fn_def (n := 2) T.F_is_kept sc_is_kept rfl (fun cdv A outer s H E hr => by
    unfold b_is_kept
    exact (qs_cons (q_set (i := 2) sc_is_kept.nd rfl (by first | exact Or.inl rfl | exact Or.inr rfl) (q_call (ok_class_rows T) (hr.mono (by omega)) rfl T.m_class_rows T.F_class_rows.kp T.b_class_rows (qa_cons (q_toD (q_var (pv 0))) (qa_cons (q_toD (q_var (pv 1))) qa_nil (star_cons rfl)) (star_cons rfl)) (alen_cons (alen_cons alen_nil)) (by decide) (star_cons rfl) (star_any rfl)))
    (qs_one (q_ret (q_all rfl rfl T.z_all (qe_cons (q_comp (gown_pair (i := 3) (j := 4) (by decide) (by decide)) (compIn_of (sc := defScope s_is_kept) (N := N_is_kept) rfl rfl rfl (by decide +kernel) (by decide +kernel)) rfl (q_izipG rfl T.z_zip (qa_cons (q_toD (q_var (pv 2))) (qa_cons (q_toD (q_var (pv 1))) qa_nil (star_cons rfl)) (star_cons rfl)) (star_two rfl rfl) (star_one rfl)) ⟨fun _ _ _ _ _ => (pg_tup rfl (pgs_cons (pg_name (i := 3) sc_is_kept.nd rfl (by first | exact Or.inl rfl | exact Or.inr rfl)) (pgs_cons (pg_name (i := 4) sc_is_kept.nd rfl (by first | exact Or.inl rfl | exact Or.inr rfl)) pgs_nil))), fun _ _ _ _ _ => qi_nil, fun _ _ _ _ _ => (q_trEq 0 (hu_tr 0 (by decide) hr) (q_var (pv 3)) (q_ix (q_var (pv 2)) (q_index (q_var (pv 1)) (q_var (pv 4)))))⟩) qe_nil (star_cons rfl)) (star_cons rfl) rfl))))))

abbrev N_law_column : List Str := ["_law_state", "_law_many", "_law_way", "_law_column_here", "_law_room", "_law_one", "_law_other", "_law_goal", "_law_made", "_law_left"]
theorem sc_law_column : FnScope N_law_column ["_law_state", "_law_many", "_law_way"] (defScope s_law_column) := ⟨rfl, rfl, rfl, by decide +kernel, rfl, by decide +kernel, by decide +kernel⟩
set_option maxHeartbeats 4000000 in
theorem ok_law_column (T : Txt K mg) : FnOk P w K mg base CX0 2 T.f_law_column T.fd_law_column ["_law_state", "_law_many", "_law_way"] (spF K 3 m_law_column) := by
  unfold m_law_column
  exact fn_def (n := 3) T.F_law_column sc_law_column rfl (fun cdv A outer s H E hr => by
    unfold b_law_column
    exact (qs_cons (q_setComp (i := 3) sc_law_column.nd rfl (by first | exact Or.inl rfl | exact Or.inr rfl) (by first | exact .inl rfl | exact .inr rfl) rfl (gown_name (i := 4) (by decide)) (compIn_of (sc := defScope s_law_column) (N := N_law_column) rfl rfl rfl (by decide +kernel) (by decide +kernel)) rfl (q_irange1 rfl T.z_range (qa_cons (q_toD (q_var (pv 1))) qa_nil (star_cons rfl)) (alen_cons alen_nil) (star_one rfl)) ⟨fun _ _ _ _ _ => (pg_name (i := 4) sc_law_column.nd rfl (by first | exact Or.inl rfl | exact Or.inr rfl)), fun _ _ _ _ _ => qi_nil, fun _ _ _ _ _ => (q_call (ok_law_next T) (hr.mono (by omega)) rfl T.m_law_next T.F_law_next.kp T.b_law_next (qa_cons (q_toD (q_var (pv 0))) (qa_cons (q_toD (q_var (pv 1))) qa_nil (star_cons rfl)) (star_cons rfl)) (alen_cons (alen_cons alen_nil)) (by decide) (star_cons rfl) (star_any rfl))⟩)
    (qs_cons (q_asg gok_pair (q_tup (qa_cons (q_toD (q_ix (q_var (pv 3)) q_int)) (qa_cons (q_toD (q_ix (q_var (pv 3)) (q_neg q_int))) qa_nil (star_cons rfl)) (star_cons rfl))) (pg_tup rfl (pgs_cons (pg_name (i := 5) sc_law_column.nd rfl (by first | exact Or.inl rfl | exact Or.inr rfl)) (pgs_cons (pg_name (i := 6) sc_law_column.nd rfl (by first | exact Or.inl rfl | exact Or.inr rfl)) pgs_nil))))
    (qs_cons (q_if (q_teq hr.units0 (q_var (pv 2)) q_int) (qs_one (q_ret (q_var (pv 3)))) qs_nil)
    (qs_cons (q_if (q_teq hr.units0 (q_var (pv 2)) q_int) (qs_one (q_ret (q_rep (q_lst (qa_cons (q_toD (q_var (pv 5))) qa_nil (star_cons rfl))) (q_var (pv 1))))) qs_nil)
    (qs_cons (q_if (q_teq hr.units0 (q_var (pv 2)) q_int) (qs_one (q_ret (q_comp (gown_pair (i := 4) (j := 7) (by decide) (by decide)) (compIn_of (sc := defScope s_law_column) (N := N_law_column) rfl rfl rfl (by decide +kernel) (by decide +kernel)) rfl (q_ienum rfl T.z_enumerate (q_var (pv 3)) (star_cons rfl) rfl) ⟨fun _ _ _ _ _ => (pg_tup rfl (pgs_cons (pg_name (i := 4) sc_law_column.nd rfl (by first | exact Or.inl rfl | exact Or.inr rfl)) (pgs_cons (pg_name (i := 7) sc_law_column.nd rfl (by first | exact Or.inl rfl | exact Or.inr rfl)) pgs_nil))), fun _ _ _ _ _ => qi_nil, fun _ _ _ _ _ => (q_ifExp (q_tle (q_var (pv 4)) (q_var (pv 5))) (q_mod (q_var (pv 7)) (q_plus (q_var (pv 5)) q_int)) (q_plus (q_plus (q_var (pv 5)) q_int) (q_mod (q_var (pv 7)) (q_sub (q_sub (q_var (pv 1)) (q_var (pv 5))) q_int))))⟩))) qs_nil)
    (qs_cons (q_set (i := 8) sc_law_column.nd rfl (by first | exact Or.inl rfl | exact Or.inr rfl) (q_lstR rfl rfl T.z_list rfl T.z_range (q_var (pv 1)) (star_cons rfl) rfl (star_cons rfl) rfl))
    (qs_cons (q_if (q_teq hr.units0 (q_var (pv 2)) q_int) (qs_one (q_ret (q_catL (q_slice (q_var (pv 8)) (qo_some q_int) qo_none) (q_slice (q_var (pv 8)) qo_none (qo_some q_int))))) qs_nil)
    (qs_cons (q_if (q_tlt (q_var (pv 2)) q_int) (qs_cons (q_set (i := 9) sc_law_column.nd rfl (by first | exact Or.inl rfl | exact Or.inr rfl) (q_lstR rfl rfl T.z_list rfl T.z_range (q_var (pv 1)) (star_cons rfl) rfl (star_cons rfl) rfl))
    (qs_one (q_setComp (i := 8) sc_law_column.nd rfl (by first | exact Or.inl rfl | exact Or.inr rfl) (by first | exact .inl rfl | exact .inr rfl) rfl (gown_name (i := 7) (by decide)) (compIn_of (sc := defScope s_law_column) (N := N_law_column) rfl rfl rfl (by decide +kernel) (by decide +kernel)) rfl (q_iseq (q_var (pv 3))) ⟨fun _ _ _ _ _ => (pg_name (i := 7) sc_law_column.nd rfl (by first | exact Or.inl rfl | exact Or.inr rfl)), fun _ _ _ _ _ => qi_nil, fun _ _ _ _ _ => (q_pop (q_var (pv 9)) (qa_cons (q_toD (q_mod (q_var (pv 7)) (q_len rfl T.z_len (qe_cons (q_var (pv 9)) qe_nil (star_cons rfl)) (star_cons rfl) rfl))) qa_nil (star_cons rfl)))⟩))) qs_nil)
    (qs_cons (q_if (q_tin (q_var (pv 2)) (q_tup (qa_cons (q_toD q_int) (qa_cons (q_toD q_int) qa_nil (star_cons rfl)) (star_cons rfl)))) (qs_one (q_setSub (q_ix (q_var (pv 8)) (q_var (pv 6))) (q_var (pv 8)) (q_var (pv 5)))) qs_nil)
    (qs_one (q_ret (q_var (pv 8))))))))))))))

abbrev N_law_kept : List Str := ["_law_machine_here", "_law_parting", "_law_one", "_law_other", "_law_here", "_law_there"]
theorem sc_law_kept : FnScope N_law_kept ["_law_machine_here", "_law_parting"] (defScope s_law_kept) := ⟨rfl, rfl, rfl, by decide +kernel, rfl, by decide +kernel, by decide +kernel⟩
set_option maxHeartbeats 4000000 in
theorem ok_law_kept (T : Txt K mg) : FnOk P w K mg base CX0 2 T.f_law_kept T.fd_law_kept ["_law_machine_here", "_law_parting"] (spF K 2 m_law_kept) := by
  unfold m_law_kept
  exact fn_pure (fn_def (n := 2) T.F_law_kept sc_law_kept rfl (fun cdv A outer s H E hr => by
    unfold b_law_kept
    exact (qs_cons (q_for gok_pair PassesOwn.never rfl (q_iseq (q_call (ok_law_pairs T) (hr.mono (by omega)) rfl T.m_law_pairs T.F_law_pairs.kp T.b_law_pairs (qa_cons (q_toD (q_len rfl T.z_len (qe_cons (q_var (pv 0)) qe_nil (star_cons rfl)) (star_cons rfl) rfl)) qa_nil (star_cons rfl)) (alen_cons alen_nil) (by decide) (star_cons rfl) (star_any rfl))) (pg_tup rfl (pgs_cons (pg_name (i := 2) sc_law_kept.nd rfl (by first | exact Or.inl rfl | exact Or.inr rfl)) (pgs_cons (pg_name (i := 3) sc_law_kept.nd rfl (by first | exact Or.inl rfl | exact Or.inr rfl)) pgs_nil))) (qs_one (q_if (q_teq hr.units0 (q_ix (q_var (pv 1)) (q_var (pv 2))) (q_ix (q_var (pv 1)) (q_var (pv 3)))) (qs_one (q_for gok_pair PassesOwn.never rfl (q_izip rfl T.z_zip (qa_cons (q_toD (q_ix (q_var (pv 0)) (q_var (pv 2)))) (qa_cons (q_toD (q_ix (q_var (pv 0)) (q_var (pv 3)))) qa_nil (star_cons rfl)) (star_cons rfl)) (star_two rfl rfl) (star_one rfl)) (pg_tup rfl (pgs_cons (pg_name (i := 4) sc_law_kept.nd rfl (by first | exact Or.inl rfl | exact Or.inr rfl)) (pgs_cons (pg_name (i := 5) sc_law_kept.nd rfl (by first | exact Or.inl rfl | exact Or.inr rfl)) pgs_nil))) (qs_one (q_if (q_tne hr.units0 (q_ix (q_var (pv 1)) (q_var (pv 4))) (q_ix (q_var (pv 1)) (q_var (pv 5)))) (qs_one (q_ret q_bl)) qs_nil)))) qs_nil)))
    (qs_one (q_ret q_bl)))))

abbrev N_law_machine : List Str := ["_law_state", "_law_most", "_law_letters", "_law_many", "_law_count", "_law_sort", "_law_columns", "_law_letter", "_law_way", "_law_column_here", "_law_room"]
theorem sc_law_machine : FnScope N_law_machine ["_law_state", "_law_most", "_law_letters"] (defScope s_law_machine) := ⟨rfl, rfl, rfl, by decide +kernel, rfl, by decide +kernel, by decide +kernel⟩
set_option maxHeartbeats 4000000 in
theorem ok_law_machine (T : Txt K mg) : FnOk P w K mg base CX0 3 T.f_law_machine T.fd_law_machine ["_law_state", "_law_most", "_law_letters"] (spF K 3 m_law_machine) := by
  unfold m_law_machine
  exact fn_trim (fn_def (n := 3) T.F_law_machine sc_law_machine rfl (fun cdv A outer s H E hr => by
    unfold b_law_machine
    exact (qs_cons (q_set (i := 3) sc_law_machine.nd rfl (by first | exact Or.inl rfl | exact Or.inr rfl) (q_plus q_int (q_call (ok_law_next T) (hr.mono (by omega)) rfl T.m_law_next T.F_law_next.kp T.b_law_next (qa_cons (q_toD (q_var (pv 0))) (qa_cons (q_toD (q_ix (q_lst (qa_cons (q_toD q_int) (qa_cons (q_toD q_int) (qa_cons (q_toD (q_var (pv 1))) qa_nil (star_cons rfl)) (star_cons rfl)) (star_cons rfl))) (q_call (ok_law_next T) (hr.mono (by omega)) rfl T.m_law_next T.F_law_next.kp T.b_law_next (qa_cons (q_toD (q_var (pv 0))) (qa_cons (q_toD q_int) qa_nil (star_cons rfl)) (star_cons rfl)) (alen_cons (alen_cons alen_nil)) (by decide) (star_cons rfl) (star_any rfl)))) qa_nil (star_cons rfl)) (star_cons rfl)) (alen_cons (alen_cons alen_nil)) (by decide) (star_cons rfl) (star_any rfl))))
    (qs_cons (q_set (i := 4) sc_law_machine.nd rfl (by first | exact Or.inl rfl | exact Or.inr rfl) (q_plus q_int (q_call (ok_law_next T) (hr.mono (by omega)) rfl T.m_law_next T.F_law_next.kp T.b_law_next (qa_cons (q_toD (q_var (pv 0))) (qa_cons (q_toD (q_var (pv 2))) qa_nil (star_cons rfl)) (star_cons rfl)) (alen_cons (alen_cons alen_nil)) (by decide) (star_cons rfl) (star_any rfl))))
    (qs_cons (q_set (i := 5) sc_law_machine.nd rfl (by first | exact Or.inl rfl | exact Or.inr rfl) (q_call (ok_law_next T) (hr.mono (by omega)) rfl T.m_law_next T.F_law_next.kp T.b_law_next (qa_cons (q_toD (q_var (pv 0))) (qa_cons (q_toD q_int) qa_nil (star_cons rfl)) (star_cons rfl)) (alen_cons (alen_cons alen_nil)) (by decide) (star_cons rfl) (star_any rfl)))
    (qs_cons (q_set (i := 6) sc_law_machine.nd rfl (by first | exact Or.inl rfl | exact Or.inr rfl) (q_lst qa_nil))
    (qs_cons (q_for gok_name PassesOwn.never rfl (q_irange1 rfl T.z_range (qa_cons (q_toD (q_var (pv 4))) qa_nil (star_cons rfl)) (alen_cons alen_nil) (star_one rfl)) (pg_name (i := 7) sc_law_machine.nd rfl (by first | exact Or.inl rfl | exact Or.inr rfl)) (qs_cons (q_set (i := 8) sc_law_machine.nd rfl (by first | exact Or.inl rfl | exact Or.inr rfl) (q_ix (q_lst (qa_cons (q_toD q_int) (qa_cons (q_toD q_int) qa_nil (star_cons rfl)) (star_cons rfl))) (q_mod (q_var (pv 7)) q_int)))
    (qs_cons (q_if (q_tlt (q_var (pv 5)) q_int) (qs_one (q_set (i := 8) sc_law_machine.nd rfl (by first | exact Or.inl rfl | exact Or.inr rfl) (q_var (pv 5)))) qs_nil)
    (qs_cons (q_if (q_teq hr.units0 (q_var (pv 5)) q_int) (qs_one (q_set (i := 8) sc_law_machine.nd rfl (by first | exact Or.inl rfl | exact Or.inr rfl) (q_call (ok_law_next T) (hr.mono (by omega)) rfl T.m_law_next T.F_law_next.kp T.b_law_next (qa_cons (q_toD (q_var (pv 0))) (qa_cons (q_toD q_int) qa_nil (star_cons rfl)) (star_cons rfl)) (alen_cons (alen_cons alen_nil)) (by decide) (star_cons rfl) (star_any rfl)))) qs_nil)
    (qs_one (q_expr (q_append (q_var (pv 6)) (qa_cons (q_toD (q_call (ok_law_column T) (hr.mono (by omega)) rfl T.m_law_column T.F_law_column.kp T.b_law_column (qa_cons (q_toD (q_var (pv 0))) (qa_cons (q_toD (q_var (pv 3))) (qa_cons (q_toD (q_var (pv 8))) qa_nil (star_cons rfl)) (star_cons rfl)) (star_cons rfl)) (alen_cons (alen_cons (alen_cons alen_nil))) (by decide) (star_cons rfl) (star_any rfl))) qa_nil (star_cons rfl)))))))))
    (qs_cons (q_if (q_teq hr.units0 (q_var (pv 5)) q_int) (qs_one (q_set (i := 6) sc_law_machine.nd rfl (by first | exact Or.inl rfl | exact Or.inr rfl) (q_rep (q_slice (q_var (pv 6)) qo_none (qo_some q_int)) (q_var (pv 4))))) qs_nil)
    (qs_one (q_ret (q_tuple rfl T.z_tuple (qe_cons (q_comp (gown_name (i := 10) (by decide)) (compIn_of (sc := defScope s_law_machine) (N := N_law_machine) rfl rfl rfl (by decide +kernel) (by decide +kernel)) rfl (q_irange1 rfl T.z_range (qa_cons (q_toD (q_var (pv 3))) qa_nil (star_cons rfl)) (alen_cons alen_nil) (star_one rfl)) ⟨fun _ _ _ _ _ => (pg_name (i := 10) sc_law_machine.nd rfl (by first | exact Or.inl rfl | exact Or.inr rfl)), fun _ _ _ _ _ => qi_nil, fun _ _ _ _ _ => (q_tuple rfl T.z_tuple (qe_cons (q_comp (gown_name (i := 9) (by decide)) (compIn_of (N := N_law_machine) rfl rfl rfl (by rfl) (by decide +kernel)) rfl (q_iseq (q_var (pv 6))) ⟨fun _ _ _ _ _ => (pg_name (i := 9) sc_law_machine.nd rfl (by first | exact Or.inl rfl | exact Or.inr rfl)), fun _ _ _ _ _ => qi_nil, fun _ _ _ _ _ => (q_ix (q_var (pv 9)) (q_var (pv 10)))⟩) qe_nil (star_cons rfl)) (star_cons rfl) rfl)⟩) qe_nil (star_cons rfl)) (star_cons rfl) rfl)))))))))))

abbrev N_law_copies : List Str := ["_law_state", "_law_most", "_law_letters", "_law_base", "_law_many", "_law_owners", "_law_room", "_law_turn", "_law_rows", "_law_own", "_law_row", "_law_goal", "_law_copies_here"]
theorem sc_law_copies : FnScope N_law_copies ["_law_state", "_law_most", "_law_letters"] (defScope s_law_copies) := ⟨rfl, rfl, rfl, by decide +kernel, rfl, by decide +kernel, by decide +kernel⟩
set_option maxHeartbeats 4000000 in
theorem ok_law_copies (T : Txt K mg) : FnOk P w K mg base CX0 4 T.f_law_copies T.fd_law_copies ["_law_state", "_law_most", "_law_letters"] (spF K 3 m_law_copies) := by
  unfold m_law_copies
  exact fn_def (n := 3) T.F_law_copies sc_law_copies rfl (fun cdv A outer s H E hr => by
    unfold b_law_copies
    exact (qs_cons (q_set (i := 3) sc_law_copies.nd rfl (by first | exact Or.inl rfl | exact Or.inr rfl) (q_call (ok_law_machine T) (hr.mono (by omega)) rfl T.m_law_machine T.F_law_machine.kp T.b_law_machine (qa_cons (q_toD (q_var (pv 0))) (qa_cons (q_toD q_int) (qa_cons (q_toD (q_var (pv 2))) qa_nil (star_cons rfl)) (star_cons rfl)) (star_cons rfl)) (alen_cons (alen_cons (alen_cons alen_nil))) (by decide) (star_cons rfl) (star_any rfl)))
    (qs_cons (q_set (i := 4) sc_law_copies.nd rfl (by first | exact Or.inl rfl | exact Or.inr rfl) (q_plus (q_len rfl T.z_len (qe_cons (q_var (pv 3)) qe_nil (star_cons rfl)) (star_cons rfl) rfl) (q_call (ok_law_next T) (hr.mono (by omega)) rfl T.m_law_next T.F_law_next.kp T.b_law_next (qa_cons (q_toD (q_var (pv 0))) (qa_cons (q_toD (q_sub (q_plus (q_var (pv 1)) q_int) (q_len rfl T.z_len (qe_cons (q_var (pv 3)) qe_nil (star_cons rfl)) (star_cons rfl) rfl))) qa_nil (star_cons rfl)) (star_cons rfl)) (alen_cons (alen_cons alen_nil)) (by decide) (star_cons rfl) (star_any rfl))))
    (qs_cons (q_set (i := 5) sc_law_copies.nd rfl (by first | exact Or.inl rfl | exact Or.inr rfl) (q_catL (q_lstR rfl rfl T.z_list rfl T.z_range (q_len rfl T.z_len (qe_cons (q_var (pv 3)) qe_nil (star_cons rfl)) (star_cons rfl) rfl) (star_cons rfl) rfl (star_cons rfl) rfl) (q_comp (gown_name (i := 6) (by decide)) (compIn_of (sc := defScope s_law_copies) (N := N_law_copies) rfl rfl rfl (by decide +kernel) (by decide +kernel)) rfl (q_irange1 rfl T.z_range (qa_cons (q_toD (q_sub (q_var (pv 4)) (q_len rfl T.z_len (qe_cons (q_var (pv 3)) qe_nil (star_cons rfl)) (star_cons rfl) rfl))) qa_nil (star_cons rfl)) (alen_cons alen_nil) (star_one rfl)) ⟨fun _ _ _ _ _ => (pg_name (i := 6) sc_law_copies.nd rfl (by first | exact Or.inl rfl | exact Or.inr rfl)), fun _ _ _ _ _ => qi_nil, fun _ _ _ _ _ => (q_call (ok_law_next T) (hr.mono (by omega)) rfl T.m_law_next T.F_law_next.kp T.b_law_next (qa_cons (q_toD (q_var (pv 0))) (qa_cons (q_toD (q_len rfl T.z_len (qe_cons (q_var (pv 3)) qe_nil (star_cons rfl)) (star_cons rfl) rfl)) qa_nil (star_cons rfl)) (star_cons rfl)) (alen_cons (alen_cons alen_nil)) (by decide) (star_cons rfl) (star_any rfl))⟩)))
    (qs_cons (q_set (i := 7) sc_law_copies.nd rfl (by first | exact Or.inl rfl | exact Or.inr rfl) (q_call (ok_law_next T) (hr.mono (by omega)) rfl T.m_law_next T.F_law_next.kp T.b_law_next (qa_cons (q_toD (q_var (pv 0))) (qa_cons (q_toD (q_var (pv 4))) qa_nil (star_cons rfl)) (star_cons rfl)) (alen_cons (alen_cons alen_nil)) (by decide) (star_cons rfl) (star_any rfl)))
    (qs_cons (q_set (i := 5) sc_law_copies.nd rfl (by first | exact Or.inl rfl | exact Or.inr rfl) (q_catL (q_slice (q_var (pv 5)) (qo_some (q_var (pv 7))) qo_none) (q_slice (q_var (pv 5)) qo_none (qo_some (q_var (pv 7))))))
    (qs_cons (q_set (i := 8) sc_law_copies.nd rfl (by first | exact Or.inl rfl | exact Or.inr rfl) (q_lst qa_nil))
    (qs_cons (q_for gok_name PassesOwn.never rfl (q_iseq (q_var (pv 5))) (pg_name (i := 9) sc_law_copies.nd rfl (by first | exact Or.inl rfl | exact Or.inr rfl)) (qs_cons (q_set (i := 10) sc_law_copies.nd rfl (by first | exact Or.inl rfl | exact Or.inr rfl) (q_lst qa_nil))
    (qs_cons (q_for gok_name PassesOwn.never rfl (q_iseq (q_ix (q_var (pv 3)) (q_var (pv 9)))) (pg_name (i := 11) sc_law_copies.nd rfl (by first | exact Or.inl rfl | exact Or.inr rfl)) (qs_cons (q_setComp (i := 12) sc_law_copies.nd rfl (by first | exact Or.inl rfl | exact Or.inr rfl) (by first | exact .inl rfl | exact .inr rfl) rfl (gown_name (i := 6) (by decide)) (compIn_of (sc := defScope s_law_copies) (N := N_law_copies) rfl rfl rfl (by decide +kernel) (by decide +kernel)) rfl (q_irange1 rfl T.z_range (qa_cons (q_toD (q_var (pv 4))) qa_nil (star_cons rfl)) (alen_cons alen_nil) (star_one rfl)) ⟨fun _ _ _ _ _ => (pg_name (i := 6) sc_law_copies.nd rfl (by first | exact Or.inl rfl | exact Or.inr rfl)), fun _ _ _ _ _ => (qi_one (q_teq hr.units0 (q_ix (q_var (pv 5)) (q_var (pv 6))) (q_var (pv 11)))), fun _ _ _ _ _ => (q_var (pv 6))⟩)
    (qs_one (q_expr (q_append (q_var (pv 10)) (qa_cons (q_toD (q_ix (q_var (pv 12)) (q_call (ok_law_next T) (hr.mono (by omega)) rfl T.m_law_next T.F_law_next.kp T.b_law_next (qa_cons (q_toD (q_var (pv 0))) (qa_cons (q_toD (q_len rfl T.z_len (qe_cons (q_var (pv 12)) qe_nil (star_cons rfl)) (star_cons rfl) rfl)) qa_nil (star_cons rfl)) (star_cons rfl)) (alen_cons (alen_cons alen_nil)) (by decide) (star_cons rfl) (star_any rfl)))) qa_nil (star_cons rfl)))))))
    (qs_one (q_expr (q_append (q_var (pv 8)) (qa_cons (q_toD (q_tuple rfl T.z_tuple (qe_cons (q_var (pv 10)) qe_nil (star_cons rfl)) (star_cons rfl) rfl)) qa_nil (star_cons rfl))))))))
    (qs_one (q_ret (q_tup (qa_cons (q_toD (q_tuple rfl T.z_tuple (qe_cons (q_var (pv 8)) qe_nil (star_cons rfl)) (star_cons rfl) rfl)) (qa_cons (q_toD (q_var (pv 5))) qa_nil (star_cons rfl)) (star_cons rfl)))))))))))))

abbrev N_law_either : List Str := ["_law_state", "_law_most", "_law_letters", "_law_machine_here", "_law_owners", "_law_few", "_law_room"]
theorem sc_law_either : FnScope N_law_either ["_law_state", "_law_most", "_law_letters"] (defScope s_law_either) := ⟨rfl, rfl, rfl, by decide +kernel, rfl, by decide +kernel, by decide +kernel⟩
set_option maxHeartbeats 4000000 in
theorem ok_law_either (T : Txt K mg) : FnOk P w K mg base CX0 5 T.f_law_either T.fd_law_either ["_law_state", "_law_most", "_law_letters"] (spF K 3 m_law_either) := by
  unfold m_law_either
  exact fn_trim (fn_def (n := 3) T.F_law_either sc_law_either rfl (fun cdv A outer s H E hr => by
    unfold b_law_either
    exact (qs_cons (q_if (q_teq hr.units0 (q_call (ok_law_next T) (hr.mono (by omega)) rfl T.m_law_next T.F_law_next.kp T.b_law_next (qa_cons (q_toD (q_var (pv 0))) (qa_cons (q_toD q_int) qa_nil (star_cons rfl)) (star_cons rfl)) (alen_cons (alen_cons alen_nil)) (by decide) (star_cons rfl) (star_any rfl)) q_int) (qs_one (q_asg gok_pair (q_call (ok_law_copies T) (hr.mono (by omega)) rfl T.m_law_copies T.F_law_copies.kp T.b_law_copies (qa_cons (q_toD (q_var (pv 0))) (qa_cons (q_toD (q_var (pv 1))) (qa_cons (q_toD (q_var (pv 2))) qa_nil (star_cons rfl)) (star_cons rfl)) (star_cons rfl)) (alen_cons (alen_cons (alen_cons alen_nil))) (by decide) (star_cons rfl) (star_any rfl)) (pg_tup rfl (pgs_cons (pg_name (i := 3) sc_law_either.nd rfl (by first | exact Or.inl rfl | exact Or.inr rfl)) (pgs_cons (pg_name (i := 4) sc_law_either.nd rfl (by first | exact Or.inl rfl | exact Or.inr rfl)) pgs_nil))))) (qs_cons (q_set (i := 3) sc_law_either.nd rfl (by first | exact Or.inl rfl | exact Or.inr rfl) (q_call (ok_law_machine T) (hr.mono (by omega)) rfl T.m_law_machine T.F_law_machine.kp T.b_law_machine (qa_cons (q_toD (q_var (pv 0))) (qa_cons (q_toD (q_var (pv 1))) (qa_cons (q_toD (q_var (pv 2))) qa_nil (star_cons rfl)) (star_cons rfl)) (star_cons rfl)) (alen_cons (alen_cons (alen_cons alen_nil))) (by decide) (star_cons rfl) (star_any rfl)))
    (qs_cons (q_set (i := 5) sc_law_either.nd rfl (by first | exact Or.inl rfl | exact Or.inr rfl) (q_plus q_int (q_call (ok_law_next T) (hr.mono (by omega)) rfl T.m_law_next T.F_law_next.kp T.b_law_next (qa_cons (q_toD (q_var (pv 0))) (qa_cons (q_toD (q_len rfl T.z_len (qe_cons (q_var (pv 3)) qe_nil (star_cons rfl)) (star_cons rfl) rfl)) qa_nil (star_cons rfl)) (star_cons rfl)) (alen_cons (alen_cons alen_nil)) (by decide) (star_cons rfl) (star_any rfl))))
    (qs_one (q_setComp (i := 4) sc_law_either.nd rfl (by first | exact Or.inl rfl | exact Or.inr rfl) (by first | exact .inl rfl | exact .inr rfl) rfl (gown_name (i := 6) (by decide)) (compIn_of (sc := defScope s_law_either) (N := N_law_either) rfl rfl rfl (by decide +kernel) (by decide +kernel)) rfl (q_iseq (q_var (pv 3))) ⟨fun _ _ _ _ _ => (pg_name (i := 6) sc_law_either.nd rfl (by first | exact Or.inl rfl | exact Or.inr rfl)), fun _ _ _ _ _ => qi_nil, fun _ _ _ _ _ => (q_call (ok_law_next T) (hr.mono (by omega)) rfl T.m_law_next T.F_law_next.kp T.b_law_next (qa_cons (q_toD (q_var (pv 0))) (qa_cons (q_toD (q_var (pv 5))) qa_nil (star_cons rfl)) (star_cons rfl)) (alen_cons (alen_cons alen_nil)) (by decide) (star_cons rfl) (star_any rfl))⟩)))))
    (qs_one (q_ret (q_tup (qa_cons (q_toD (q_var (pv 3))) (qa_cons (q_toD (q_call (ok_law_numbered T) (hr.mono (by omega)) rfl T.m_law_numbered T.F_law_numbered.kp T.b_law_numbered (qa_cons (q_toD (q_var (pv 4))) qa_nil (star_cons rfl)) (alen_cons alen_nil) (by decide) (star_cons rfl) (star_any rfl))) qa_nil (star_cons rfl)) (star_cons rfl))))))))

abbrev N_law : List Str := ["_law_script", "_law_state", "_law_turn", "_law_machine_here", "_law_parting", "_law_moved", "_law_one", "_law_found"]
theorem sc_law : FnScope N_law ["_law_script"] (defScope s_law) := ⟨rfl, rfl, rfl, by decide +kernel, rfl, by decide +kernel, by decide +kernel⟩
set_option maxHeartbeats 4000000 in
theorem ok_law (T : Txt K mg) : FnOk P w K mg base CX0 6 T.f_law T.fd_law ["_law_script"] (spF K 1 m_law) := by
  unfold m_law
  exact fn_def (n := 1) T.F_law sc_law rfl (fun cdv A outer s H E hr => by
    unfold b_law
    exact (qs_cons (q_set (i := 1) sc_law.nd rfl (by first | exact Or.inl rfl | exact Or.inr rfl) (q_call (ok_law_begin T) (hr.mono (by omega)) rfl T.m_law_begin T.F_law_begin.kp T.b_law_begin (qa_cons (q_toD (q_var (pv 0))) qa_nil (star_cons rfl)) (alen_cons alen_nil) (by decide) (star_cons rfl) (star_any rfl)))
    (qs_cons (q_for gok_name PassesOwn.never rfl (q_irange1 rfl T.z_range (qa_cons (q_toD (q_min2 rfl rfl T.z_min (qe_cons q_int (qe_cons (q_plus q_int (q_len rfl T.z_len (qe_cons (q_var (pv 0)) qe_nil (star_cons rfl)) (star_cons rfl) rfl)) qe_nil (star_cons rfl)) (star_cons rfl)) (star_cons rfl) (star_any rfl))) qa_nil (star_cons rfl)) (alen_cons alen_nil) (star_one rfl)) (pg_name (i := 2) sc_law.nd rfl (by first | exact Or.inl rfl | exact Or.inr rfl)) (qs_cons (q_asg gok_pair (q_call (ok_law_either T) (hr.mono (by omega)) rfl T.m_law_either T.F_law_either.kp T.b_law_either (qa_cons (q_toD (q_var (pv 1))) (qa_cons (q_toD q_int) (qa_cons (q_toD q_int) qa_nil (star_cons rfl)) (star_cons rfl)) (star_cons rfl)) (alen_cons (alen_cons (alen_cons alen_nil))) (by decide) (star_cons rfl) (star_any rfl)) (pg_tup rfl (pgs_cons (pg_name (i := 3) sc_law.nd rfl (by first | exact Or.inl rfl | exact Or.inr rfl)) (pgs_cons (pg_name (i := 4) sc_law.nd rfl (by first | exact Or.inl rfl | exact Or.inr rfl)) pgs_nil))))
    (qs_cons (q_set (i := 5) sc_law.nd rfl (by first | exact Or.inl rfl | exact Or.inr rfl) (q_list rfl T.z_list (qe_cons (q_var (pv 4)) qe_nil (star_cons rfl)) (star_cons rfl) rfl))
    (qs_cons (q_setSub (q_call (ok_law_next T) (hr.mono (by omega)) rfl T.m_law_next T.F_law_next.kp T.b_law_next (qa_cons (q_toD (q_var (pv 1))) (qa_cons (q_toD (q_len rfl T.z_len (qe_cons (q_var (pv 5)) qe_nil (star_cons rfl)) (star_cons rfl) rfl)) qa_nil (star_cons rfl)) (star_cons rfl)) (alen_cons (alen_cons alen_nil)) (by decide) (star_cons rfl) (star_any rfl)) (q_var (pv 5)) (q_call (ok_law_next T) (hr.mono (by omega)) rfl T.m_law_next T.F_law_next.kp T.b_law_next (qa_cons (q_toD (q_var (pv 1))) (qa_cons (q_toD (q_len rfl T.z_len (qe_cons (q_var (pv 5)) qe_nil (star_cons rfl)) (star_cons rfl) rfl)) qa_nil (star_cons rfl)) (star_cons rfl)) (alen_cons (alen_cons alen_nil)) (by decide) (star_cons rfl) (star_any rfl)))
    (qs_one (q_for gok_name PassesOwn.never rfl (q_iseq (q_lst (qa_cons (q_toD (q_var (pv 4))) (qa_cons (q_toD (q_call (ok_law_numbered T) (hr.mono (by omega)) rfl T.m_law_numbered T.F_law_numbered.kp T.b_law_numbered (qa_cons (q_toD (q_var (pv 5))) qa_nil (star_cons rfl)) (alen_cons alen_nil) (by decide) (star_cons rfl) (star_any rfl))) (qa_cons (q_toD (q_tupR rfl rfl T.z_tuple rfl T.z_range (q_len rfl T.z_len (qe_cons (q_var (pv 3)) qe_nil (star_cons rfl)) (star_cons rfl) rfl) (star_cons rfl) rfl (star_cons rfl) rfl)) (qa_cons (q_toD (q_rep (q_tup (qa_cons (q_toD q_int) qa_nil (star_cons rfl))) (q_len rfl T.z_len (qe_cons (q_var (pv 3)) qe_nil (star_cons rfl)) (star_cons rfl) rfl))) (qa_cons (q_toD (q_var (pv 4))) qa_nil (star_cons rfl)) (star_cons rfl)) (star_cons rfl)) (star_cons rfl)) (star_cons rfl)))) (pg_name (i := 6) sc_law.nd rfl (by first | exact Or.inl rfl | exact Or.inr rfl)) (qs_cons (q_set (i := 7) sc_law.nd rfl (by first | exact Or.inl rfl | exact Or.inr rfl) (q_call (ok_is_kept T) (hr.mono (by omega)) rfl T.m_is_kept T.F_is_kept.kp T.b_is_kept (qa_cons (q_toD (q_var (pv 3))) (qa_cons (q_toD (q_var (pv 6))) qa_nil (star_cons rfl)) (star_cons rfl)) (alen_cons (alen_cons alen_nil)) (by decide) (star_cons rfl) (star_any rfl)))
    (qs_one (q_if (qt_w (qw_or (qt_not (q_tval (q_isI T.kinds (by decide) rfl T.z_isinstance rfl T.z_bool (by rfl) (by decide) (by decide) (q_var (pv 7)) (star_cons rfl) (star_cons rfl) (star_any rfl)))) (qw_or1 (q_tne hr.units0 (q_var (pv 7)) (q_call (ok_law_kept T) (hr.mono (by omega)) rfl T.m_law_kept T.F_law_kept.kp T.b_law_kept (qa_cons (q_toD (q_var (pv 3))) (qa_cons (q_toD (q_var (pv 6))) qa_nil (star_cons rfl)) (star_cons rfl)) (alen_cons (alen_cons alen_nil)) (by decide) (star_cons rfl) (star_any rfl)))))) (qs_one (q_ret q_bl)) qs_nil)))))))))
    (qs_one (q_ret q_bl)))))

end

theorem all_mk {l : PySem.W.OpenLaw} {w : World} {K : PySem.W.Frag} {h : Heap} {mg : Str → Option Value} {fa : Addr} (X : K.In h) (G : h.Ns mainGlobals mg) (hfa : mg "law" = some (.ref fa))
    {f1 : Addr} {od1 an1 : Option Addr} {sl1 : Array (Option Value)} {oc1 kV1 dc1 pm1 cd1 ct1 : Value}
    {f2 : Addr} {od2 an2 : Option Addr} {sl2 : Array (Option Value)} {oc2 kV2 dc2 pm2 cd2 ct2 : Value}
    {f3 : Addr} {od3 an3 : Option Addr} {sl3 : Array (Option Value)} {oc3 kV3 dc3 pm3 cd3 ct3 : Value}
    {f4 : Addr} {od4 an4 : Option Addr} {sl4 : Array (Option Value)} {oc4 kV4 dc4 pm4 cd4 ct4 : Value}
    {f5 : Addr} {od5 an5 : Option Addr} {sl5 : Array (Option Value)} {oc5 kV5 dc5 pm5 cd5 ct5 : Value}
    {f6 : Addr} {od6 an6 : Option Addr} {sl6 : Array (Option Value)} {oc6 kV6 dc6 pm6 cd6 ct6 : Value}
    {f7 : Addr} {od7 an7 : Option Addr} {sl7 : Array (Option Value)} {oc7 kV7 dc7 pm7 cd7 ct7 : Value}
    {f8 : Addr} {od8 an8 : Option Addr} {sl8 : Array (Option Value)} {oc8 kV8 dc8 pm8 cd8 ct8 : Value}
    {f9 : Addr} {od9 an9 : Option Addr} {sl9 : Array (Option Value)} {oc9 kV9 dc9 pm9 cd9 ct9 : Value}
    {f10 : Addr} {od10 an10 : Option Addr} {sl10 : Array (Option Value)} {oc10 kV10 dc10 pm10 cd10 ct10 : Value}
    {f11 : Addr} {od11 an11 : Option Addr} {sl11 : Array (Option Value)} {oc11 kV11 dc11 pm11 cd11 ct11 : Value}
    {f12 : Addr} {od12 an12 : Option Addr} {sl12 : Array (Option Value)} {oc12 kV12 dc12 pm12 cd12 ct12 : Value}
    (a1 : PySem.W.nsIn K mainGlobals "class_rows" = some (some (.ref f1))) (l1 : K.lookup f1 = some ⟨oc1, od1, .func (PySem.W.fnOf "class_rows" "class_rows" (defArgs s_class_rows) (defBody s_class_rows) (defScope s_class_rows) .none kV1 dc1 pm1 an1 cd1 ct1), sl1⟩) (c1 : PySem.W.codeIn K cd1 "class_rows" = true) (k1 : PySem.W.keepIn K (.ref f1) = true)
    (a2 : PySem.W.nsIn K mainGlobals "is_kept" = some (some (.ref f2))) (l2 : K.lookup f2 = some ⟨oc2, od2, .func (PySem.W.fnOf "is_kept" "is_kept" (defArgs s_is_kept) (defBody s_is_kept) (defScope s_is_kept) .none kV2 dc2 pm2 an2 cd2 ct2), sl2⟩) (c2 : PySem.W.codeIn K cd2 "is_kept" = true) (k2 : PySem.W.keepIn K (.ref f2) = true)
    (a3 : PySem.W.nsIn K mainGlobals "_law_begin" = some (some (.ref f3))) (l3 : K.lookup f3 = some ⟨oc3, od3, .func (PySem.W.fnOf "_law_begin" "_law_begin" (defArgs s_law_begin) (defBody s_law_begin) (defScope s_law_begin) .none kV3 dc3 pm3 an3 cd3 ct3), sl3⟩) (c3 : PySem.W.codeIn K cd3 "_law_begin" = true) (k3 : PySem.W.keepIn K (.ref f3) = true)
    (a4 : PySem.W.nsIn K mainGlobals "_law_next" = some (some (.ref f4))) (l4 : K.lookup f4 = some ⟨oc4, od4, .func (PySem.W.fnOf "_law_next" "_law_next" (defArgs s_law_next) (defBody s_law_next) (defScope s_law_next) .none kV4 dc4 pm4 an4 cd4 ct4), sl4⟩) (c4 : PySem.W.codeIn K cd4 "_law_next" = true) (k4 : PySem.W.keepIn K (.ref f4) = true)
    (a5 : PySem.W.nsIn K mainGlobals "_law_column" = some (some (.ref f5))) (l5 : K.lookup f5 = some ⟨oc5, od5, .func (PySem.W.fnOf "_law_column" "_law_column" (defArgs s_law_column) (defBody s_law_column) (defScope s_law_column) .none kV5 dc5 pm5 an5 cd5 ct5), sl5⟩) (c5 : PySem.W.codeIn K cd5 "_law_column" = true) (k5 : PySem.W.keepIn K (.ref f5) = true)
    (a6 : PySem.W.nsIn K mainGlobals "_law_machine" = some (some (.ref f6))) (l6 : K.lookup f6 = some ⟨oc6, od6, .func (PySem.W.fnOf "_law_machine" "_law_machine" (defArgs s_law_machine) (defBody s_law_machine) (defScope s_law_machine) .none kV6 dc6 pm6 an6 cd6 ct6), sl6⟩) (c6 : PySem.W.codeIn K cd6 "_law_machine" = true) (k6 : PySem.W.keepIn K (.ref f6) = true)
    (a7 : PySem.W.nsIn K mainGlobals "_law_copies" = some (some (.ref f7))) (l7 : K.lookup f7 = some ⟨oc7, od7, .func (PySem.W.fnOf "_law_copies" "_law_copies" (defArgs s_law_copies) (defBody s_law_copies) (defScope s_law_copies) .none kV7 dc7 pm7 an7 cd7 ct7), sl7⟩) (c7 : PySem.W.codeIn K cd7 "_law_copies" = true) (k7 : PySem.W.keepIn K (.ref f7) = true)
    (a8 : PySem.W.nsIn K mainGlobals "_law_numbered" = some (some (.ref f8))) (l8 : K.lookup f8 = some ⟨oc8, od8, .func (PySem.W.fnOf "_law_numbered" "_law_numbered" (defArgs s_law_numbered) (defBody s_law_numbered) (defScope s_law_numbered) .none kV8 dc8 pm8 an8 cd8 ct8), sl8⟩) (c8 : PySem.W.codeIn K cd8 "_law_numbered" = true) (k8 : PySem.W.keepIn K (.ref f8) = true)
    (a9 : PySem.W.nsIn K mainGlobals "_law_either" = some (some (.ref f9))) (l9 : K.lookup f9 = some ⟨oc9, od9, .func (PySem.W.fnOf "_law_either" "_law_either" (defArgs s_law_either) (defBody s_law_either) (defScope s_law_either) .none kV9 dc9 pm9 an9 cd9 ct9), sl9⟩) (c9 : PySem.W.codeIn K cd9 "_law_either" = true) (k9 : PySem.W.keepIn K (.ref f9) = true)
    (a10 : PySem.W.nsIn K mainGlobals "_law_pairs" = some (some (.ref f10))) (l10 : K.lookup f10 = some ⟨oc10, od10, .func (PySem.W.fnOf "_law_pairs" "_law_pairs" (defArgs s_law_pairs) (defBody s_law_pairs) (defScope s_law_pairs) .none kV10 dc10 pm10 an10 cd10 ct10), sl10⟩) (c10 : PySem.W.codeIn K cd10 "_law_pairs" = true) (k10 : PySem.W.keepIn K (.ref f10) = true)
    (a11 : PySem.W.nsIn K mainGlobals "_law_kept" = some (some (.ref f11))) (l11 : K.lookup f11 = some ⟨oc11, od11, .func (PySem.W.fnOf "_law_kept" "_law_kept" (defArgs s_law_kept) (defBody s_law_kept) (defScope s_law_kept) .none kV11 dc11 pm11 an11 cd11 ct11), sl11⟩) (c11 : PySem.W.codeIn K cd11 "_law_kept" = true) (k11 : PySem.W.keepIn K (.ref f11) = true)
    (a12 : PySem.W.nsIn K mainGlobals "law" = some (some (.ref f12))) (l12 : K.lookup f12 = some ⟨oc12, od12, .func (PySem.W.fnOf "law" "law" (defArgs s_law) (defBody s_law) (defScope s_law) .none kV12 dc12 pm12 an12 cd12 ct12), sl12⟩) (c12 : PySem.W.codeIn K cd12 "law" = true) (k12 : PySem.W.keepIn K (.ref f12) = true)
    (z1 : PySem.W.nsIn K mainGlobals "tuple" = some none)
    (z2 : PySem.W.nsIn K mainGlobals "all" = some none)
    (z3 : PySem.W.nsIn K mainGlobals "zip" = some none)
    (z4 : PySem.W.nsIn K mainGlobals "list" = some none)
    (z5 : PySem.W.nsIn K mainGlobals "range" = some none)
    (z6 : PySem.W.nsIn K mainGlobals "enumerate" = some none)
    (z7 : PySem.W.nsIn K mainGlobals "len" = some none)
    (z8 : PySem.W.nsIn K mainGlobals "min" = some none)
    (z9 : PySem.W.nsIn K mainGlobals "isinstance" = some none)
    (z10 : PySem.W.nsIn K mainGlobals "bool" = some none)
    (y1 : PySem.W.kitOne K (.type "NoneType") (.type "int") = some false)
    (y2 : PySem.W.kitOne K (.type "NoneType") (.type "bool") = some false)
    (y3 : PySem.W.kitOne K (.type "NoneType") (.type "str") = some false)
    (y4 : PySem.W.kitOne K (.type "NoneType") (.type "tuple") = some false)
    (y5 : PySem.W.kitOne K (.type "bool") (.type "int") = some true)
    (y6 : PySem.W.kitOne K (.type "bool") (.type "bool") = some true)
    (y7 : PySem.W.kitOne K (.type "bool") (.type "str") = some false)
    (y8 : PySem.W.kitOne K (.type "bool") (.type "tuple") = some false)
    (y9 : PySem.W.kitOne K (.type "int") (.type "int") = some true)
    (y10 : PySem.W.kitOne K (.type "int") (.type "bool") = some false)
    (y11 : PySem.W.kitOne K (.type "int") (.type "str") = some false)
    (y12 : PySem.W.kitOne K (.type "int") (.type "tuple") = some false)
    (y13 : PySem.W.kitOne K (.type "str") (.type "int") = some false)
    (y14 : PySem.W.kitOne K (.type "str") (.type "bool") = some false)
    (y15 : PySem.W.kitOne K (.type "str") (.type "str") = some true)
    (y16 : PySem.W.kitOne K (.type "str") (.type "tuple") = some false)
    (y17 : PySem.W.kitOne K (.type "list") (.type "int") = some false)
    (y18 : PySem.W.kitOne K (.type "list") (.type "bool") = some false)
    (y19 : PySem.W.kitOne K (.type "list") (.type "str") = some false)
    (y20 : PySem.W.kitOne K (.type "list") (.type "tuple") = some false)
    (y21 : PySem.W.kitOne K (.type "tuple") (.type "int") = some false)
    (y22 : PySem.W.kitOne K (.type "tuple") (.type "bool") = some false)
    (y23 : PySem.W.kitOne K (.type "tuple") (.type "str") = some false)
    (y24 : PySem.W.kitOne K (.type "tuple") (.type "tuple") = some true)
    (y25 : PySem.W.kitOne K (.type "dict") (.type "int") = some false)
    (y26 : PySem.W.kitOne K (.type "dict") (.type "bool") = some false)
    (y27 : PySem.W.kitOne K (.type "dict") (.type "str") = some false)
    (y28 : PySem.W.kitOne K (.type "dict") (.type "tuple") = some false) :
    ∃ fd : FuncData, (∀ (s : Shared) (v : Value), BindsTo s fd ⟨[v], []⟩ [("_law_script", v)]) ∧ ∀ base : Heap, K.In base → base.Ns mainGlobals mg → FnOk l.prog w K mg base CX0 6 fa fd ["_law_script"] (spF K 1 m_law) := by
  have e := hfa.symm.trans (PySem.W.mg_of X G a12)
  cases e
  have F1 := fun_mk (st := s_class_rows) l1 c1 k1
  have b1 := F1.binds (ps := ["machine", "parting"]) fun _ _ _ _ _ _ us hl => match us, hl with | [_, _], _ => rfl
  have F2 := fun_mk (st := s_is_kept) l2 c2 k2
  have b2 := F2.binds (ps := ["machine", "parting"]) fun _ _ _ _ _ _ us hl => match us, hl with | [_, _], _ => rfl
  have F3 := fun_mk (st := s_law_begin) l3 c3 k3
  have b3 := F3.binds (ps := ["_law_script"]) fun _ _ _ _ _ _ us hl => match us, hl with | [_], _ => rfl
  have F4 := fun_mk (st := s_law_next) l4 c4 k4
  have b4 := F4.binds (ps := ["_law_state", "_law_many"]) fun _ _ _ _ _ _ us hl => match us, hl with | [_, _], _ => rfl
  have F5 := fun_mk (st := s_law_column) l5 c5 k5
  have b5 := F5.binds (ps := ["_law_state", "_law_many", "_law_way"]) fun _ _ _ _ _ _ us hl => match us, hl with | [_, _, _], _ => rfl
  have F6 := fun_mk (st := s_law_machine) l6 c6 k6
  have b6 := F6.binds (ps := ["_law_state", "_law_most", "_law_letters"]) fun _ _ _ _ _ _ us hl => match us, hl with | [_, _, _], _ => rfl
  have F7 := fun_mk (st := s_law_copies) l7 c7 k7
  have b7 := F7.binds (ps := ["_law_state", "_law_most", "_law_letters"]) fun _ _ _ _ _ _ us hl => match us, hl with | [_, _, _], _ => rfl
  have F8 := fun_mk (st := s_law_numbered) l8 c8 k8
  have b8 := F8.binds (ps := ["_law_classes"]) fun _ _ _ _ _ _ us hl => match us, hl with | [_], _ => rfl
  have F9 := fun_mk (st := s_law_either) l9 c9 k9
  have b9 := F9.binds (ps := ["_law_state", "_law_most", "_law_letters"]) fun _ _ _ _ _ _ us hl => match us, hl with | [_, _, _], _ => rfl
  have F10 := fun_mk (st := s_law_pairs) l10 c10 k10
  have b10 := F10.binds (ps := ["_law_many"]) fun _ _ _ _ _ _ us hl => match us, hl with | [_], _ => rfl
  have F11 := fun_mk (st := s_law_kept) l11 c11 k11
  have b11 := F11.binds (ps := ["_law_machine_here", "_law_parting"]) fun _ _ _ _ _ _ us hl => match us, hl with | [_, _], _ => rfl
  have F12 := fun_mk (st := s_law) l12 c12 k12
  have b12 := F12.binds (ps := ["_law_script"]) fun _ _ _ _ _ _ us hl => match us, hl with | [_], _ => rfl
  have kinds : Kinds K := ⟨by
    intro t T ht hT
    simp only [List.mem_cons, List.not_mem_nil, or_false] at ht hT
    rcases ht with rfl | rfl | rfl | rfl | rfl | rfl | rfl <;> rcases hT with rfl | rfl | rfl | rfl <;> first | exact y1 | exact y2 | exact y3 | exact y4 | exact y5 | exact y6 | exact y7 | exact y8 | exact y9 | exact y10 | exact y11 | exact y12 | exact y13 | exact y14 | exact y15 | exact y16 | exact y17 | exact y18 | exact y19 | exact y20 | exact y21 | exact y22 | exact y23 | exact y24 | exact y25 | exact y26 | exact y27 | exact y28⟩
  let T : Txt K mg := ⟨_, _, F1, b1, PySem.W.mg_of X G a1, _, _, F2, b2, PySem.W.mg_of X G a2, _, _, F3, b3, PySem.W.mg_of X G a3, _, _, F4, b4, PySem.W.mg_of X G a4, _, _, F5, b5, PySem.W.mg_of X G a5, _, _, F6, b6, PySem.W.mg_of X G a6, _, _, F7, b7, PySem.W.mg_of X G a7, _, _, F8, b8, PySem.W.mg_of X G a8, _, _, F9, b9, PySem.W.mg_of X G a9, _, _, F10, b10, PySem.W.mg_of X G a10, _, _, F11, b11, PySem.W.mg_of X G a11, _, _, F12, b12, PySem.W.mg_of X G a12, PySem.W.mg_none_of X G z1, PySem.W.mg_none_of X G z2, PySem.W.mg_none_of X G z3, PySem.W.mg_none_of X G z4, PySem.W.mg_none_of X G z5, PySem.W.mg_none_of X G z6, PySem.W.mg_none_of X G z7, PySem.W.mg_none_of X G z8, PySem.W.mg_none_of X G z9, PySem.W.mg_none_of X G z10, kinds⟩
  refine ⟨PySem.W.fnOf "law" "law" (defArgs s_law) (defBody s_law) (defScope s_law) .none kV12 dc12 pm12 an12 cd12 ct12, fun s v => .of_eq rfl, fun base _ _ => ?_⟩
  exact ok_law (P := l.prog) (w := w) (base := base) T

theorem walk {l : PySem.W.OpenLaw} {q : Program} {loose : List Str} {XP : (Str → Option Value) → Heap → Prop} {YP : World → Heap → Prop} {d : DefRec} {K : Params → PySem.W.Frag} (hn : l.most = some 63) (hdf : d.params.defaults = [])
    (hY : ∀ (w : World) (h : Heap), YP w h → (K w.params).In h) (hL : ∀ w : World, noList (K w.params) = true)
    (F : ∀ (w : World) (mg : Str → Option Value) (fa : Addr) (h : Heap), (K w.params).In h → h.Ns mainGlobals mg → mg d.name = some (.ref fa) →
      ∃ fd : FuncData, (∀ (s : Shared) (u : Value), BindsTo s fd ⟨[u], []⟩ [("_law_script", u)]) ∧ ∀ base : Heap, (K w.params).In base → base.Ns mainGlobals mg → FnOk l.prog w (K w.params) mg base CX0 6 fa fd ["_law_script"] (spF (K w.params) 1 m_law)) :
    PySem.W.WalkO q loose XP YP l.row.toRowW d [] (fun f vs => PySem.call f vs) :=
  L2.walk_of (n := 63) (k := 6) (x := "_law_script") (CX := fun _ => CX0) (sp := fun w => spF (K w.params) 1 m_law) hn (by decide) hdf ⟨rfl, by decide, by decide⟩ hY F
    (fun w H a ns hl hO hS => start_law (hL w) hO hS (law_true ns hl)) fun _ _ _ _ _ z => z
end Lad
open PySem PySem.W PyProof.Rows
set_option maxRecDepth 100000 in
set_option maxHeartbeats 0 in
theorem PySem.Challenge.cw_bringhome_k42_kept_or_not_holds : PySem.Challenge.rw_bringhome_k42_kept_or_not.Holds := by
  w_on; o_law; k_head; (case hw => w_witness2)
  k_fill
  refine Lad.walk (l := PySem.Challenge.rw_bringhome_k42_kept_or_not) rfl rfl (fun w h Y => PySem.W.kIn_of Y) (fun w => by rfl) ?F
  case F =>
    intro w mg fa h KX G hmg
    refine' Lad.all_mk KX G hmg ?a1 ?l1 ?c1 ?k1 ?a2 ?l2 ?c2 ?k2 ?a3 ?l3 ?c3 ?k3 ?a4 ?l4 ?c4 ?k4 ?a5 ?l5 ?c5 ?k5 ?a6 ?l6 ?c6 ?k6 ?a7 ?l7 ?c7 ?k7 ?a8 ?l8 ?c8 ?k8 ?a9 ?l9 ?c9 ?k9 ?a10 ?l10 ?c10 ?k10 ?a11 ?l11 ?c11 ?k11 ?a12 ?l12 ?c12 ?k12 ?z1 ?z2 ?z3 ?z4 ?z5 ?z6 ?z7 ?z8 ?z9 ?z10 ?y1 ?y2 ?y3 ?y4 ?y5 ?y6 ?y7 ?y8 ?y9 ?y10 ?y11 ?y12 ?y13 ?y14 ?y15 ?y16 ?y17 ?y18 ?y19 ?y20 ?y21 ?y22 ?y23 ?y24 ?y25 ?y26 ?y27 ?y28
    (case a1 => k_is)
    (case l1 => k_is)
    (case c1 => k_is)
    (case k1 => k_is)
    (case a2 => k_is)
    (case l2 => k_is)
    (case c2 => k_is)
    (case k2 => k_is)
    (case a3 => k_is)
    (case l3 => k_is)
    (case c3 => k_is)
    (case k3 => k_is)
    (case a4 => k_is)
    (case l4 => k_is)
    (case c4 => k_is)
    (case k4 => k_is)
    (case a5 => k_is)
    (case l5 => k_is)
    (case c5 => k_is)
    (case k5 => k_is)
    (case a6 => k_is)
    (case l6 => k_is)
    (case c6 => k_is)
    (case k6 => k_is)
    (case a7 => k_is)
    (case l7 => k_is)
    (case c7 => k_is)
    (case k7 => k_is)
    (case a8 => k_is)
    (case l8 => k_is)
    (case c8 => k_is)
    (case k8 => k_is)
    (case a9 => k_is)
    (case l9 => k_is)
    (case c9 => k_is)
    (case k9 => k_is)
    (case a10 => k_is)
    (case l10 => k_is)
    (case c10 => k_is)
    (case k10 => k_is)
    (case a11 => k_is)
    (case l11 => k_is)
    (case c11 => k_is)
    (case k11 => k_is)
    (case a12 => k_is)
    (case l12 => k_is)
    (case c12 => k_is)
    (case k12 => k_is)
    (case z1 => k_is)
    (case z2 => k_is)
    (case z3 => k_is)
    (case z4 => k_is)
    (case z5 => k_is)
    (case z6 => k_is)
    (case z7 => k_is)
    (case z8 => k_is)
    (case z9 => k_is)
    (case z10 => k_is)
    (case y1 => kit_is)
    (case y2 => kit_is)
    (case y3 => kit_is)
    (case y4 => kit_is)
    (case y5 => kit_is)
    (case y6 => kit_is)
    (case y7 => kit_is)
    (case y8 => kit_is)
    (case y9 => kit_is)
    (case y10 => kit_is)
    (case y11 => kit_is)
    (case y12 => kit_is)
    (case y13 => kit_is)
    (case y14 => kit_is)
    (case y15 => kit_is)
    (case y16 => kit_is)
    (case y17 => kit_is)
    (case y18 => kit_is)
    (case y19 => kit_is)
    (case y20 => kit_is)
    (case y21 => kit_is)
    (case y22 => kit_is)
    (case y23 => kit_is)
    (case y24 => kit_is)
    (case y25 => kit_is)
    (case y26 => kit_is)
    (case y27 => kit_is)
    (case y28 => kit_is)

