import PyProof.Rows.All
import Wide.All
import OpenK.AllK
import Wide.FinOn
import Lean
import PyProof.EqAt
import PyProof.EqKinds
import PyProof.TupleCall
import PyProof.NeKinds
import PyProof.ZipIter
import PyProof.ListRange
import PyProof.TupleOfSeq
import PyProof.ConsumeWalk
import PyProof.IsRules
import PyProof.SetKind
import PyProof.SetRoads
import PyProof.Rows.SetFrom
import PyProof.Draws
import PyProof.EnumMake
import PyProof.DictCompW
import PyProof.ListMulRoad
import PyProof.Rows.SeqMore2
import PyProof.WalkInts
import PyProof.DictRoadsH
import PySem.Challenge.RW_bringhome_k23_pairs_apart
section
open PySem PySem.Spec PyProof.Rows
theorem zSo : type_of% @wpAny_bind := @wpAny_bind
theorem zSp : type_of% @Heap.get?_push_of_some := @Heap.get?_push_of_some
theorem zSq : type_of% @wpAny_pure := @wpAny_pure
theorem zSr : type_of% @List.getElem?_eq_some_iff := @List.getElem?_eq_some_iff
theorem zSs : type_of% @List.getElem?_eq_getElem := @List.getElem?_eq_getElem
theorem zSt : type_of% @List.getD_eq_getElem?_getD := @List.getD_eq_getElem?_getD
theorem zSu : type_of% @Nat.le_refl := @Nat.le_refl
theorem zSv : type_of% @List.getElem?_append_left := @List.getElem?_append_left
theorem zSw : type_of% @List.size_toArray := @List.size_toArray
theorem zSx : type_of% @List.length_map := @List.length_map
theorem zSy : type_of% @Heap.get?_push_size := @Heap.get?_push_size
theorem zSz : type_of% @Heap.lt_size := @Heap.lt_size
theorem zS0 : type_of% @List.mem_cons := @List.mem_cons
theorem zS1 : type_of% @List.mem_cons_of_mem := @List.mem_cons_of_mem
theorem zS2 : type_of% @List.mem_cons_self := @List.mem_cons_self
theorem zS3 : type_of% @if_pos := @if_pos
theorem zS4 : type_of% @List.length_append := @List.length_append
theorem zS5 : type_of% @List.mem_map := @List.mem_map
theorem zS6 : type_of% @if_neg := @if_neg
theorem zS7 : type_of% @List.map_cons := @List.map_cons
theorem zS8 : type_of% @List.mem_append_right := @List.mem_append_right
theorem zS9 : type_of% @Nat.ne_of_lt := @Nat.ne_of_lt
theorem zTA : type_of% @Bool.false_ne_true := @Bool.false_ne_true
theorem zTB : type_of% @List.getElem?_map := @List.getElem?_map
theorem zTC : type_of% @List.map_map := @List.map_map
theorem zTD : type_of% @Nat.lt_of_lt_of_le := @Nat.lt_of_lt_of_le
theorem zTE : type_of% @List.mem_append := @List.mem_append
theorem zTF : type_of% @Nat.le_trans := @Nat.le_trans
theorem zTG : type_of% @List.mem_singleton := @List.mem_singleton
theorem zTH : type_of% @wpAny_newObj_type := @wpAny_newObj_type
theorem zTI : type_of% @List.getElem?_set_ne := @List.getElem?_set_ne
theorem zTJ : type_of% @List.not_mem_nil := @List.not_mem_nil
theorem zTK : type_of% @wpAny_mono := @wpAny_mono
theorem zTL : type_of% @List.length_cons := @List.length_cons
theorem zTM : type_of% @List.getElem_mem := @List.getElem_mem
theorem zTN : type_of% @decide_eq_false := @decide_eq_false
theorem zTO : type_of% @Bool.and_eq_true := @Bool.and_eq_true
theorem zTP : type_of% @List.all_eq_true := @List.all_eq_true
theorem zTQ : type_of% @wpAny_callSpecial?_slot := @wpAny_callSpecial?_slot
theorem zTR : type_of% @wpAny_call_entry := @wpAny_call_entry
theorem zTS : type_of% @List.mem_range := @List.mem_range
theorem zTT : type_of% @wpAny_field := @wpAny_field
theorem zTU : type_of% @Heap.size_push := @Heap.size_push
theorem zTV : type_of% @Heap.get?_update_other := @Heap.get?_update_other
theorem zTW : type_of% @Nat.lt_irrefl := @Nat.lt_irrefl
theorem zTX : type_of% @Array.length_toList := @Array.length_toList
theorem zTY : type_of% @List.append_nil := @List.append_nil
theorem zTZ : type_of% @Array.getElem?_eq_getElem := @Array.getElem?_eq_getElem
theorem zTa : type_of% @Nat.zero_le := @Nat.zero_le
theorem zTb : type_of% @Heap.get?_update_self := @Heap.get?_update_self
theorem zTd : type_of% @Nat.lt_succ_of_lt := @Nat.lt_succ_of_lt
theorem zTe : type_of% @wpAny_seqItems := @wpAny_seqItems
theorem zTg : type_of% @List.map_append := @List.map_append
theorem zTh : type_of% @wpAny_holding := @wpAny_holding
theorem zTi : type_of% @List.getElem?_set_self := @List.getElem?_set_self
theorem zTk : type_of% @of_decide_eq_true := @of_decide_eq_true
theorem zTl : type_of% @Nat.lt_succ_self := @Nat.lt_succ_self
theorem zTm : type_of% @wpAny_standAt := @wpAny_standAt
theorem zTn : type_of% @PySem.W.mg_none_of := @PySem.W.mg_none_of
theorem zTo : type_of% @Option.some.inj := @Option.some.inj
theorem zTp : type_of% @Bool.false_eq_true := @Bool.false_eq_true
theorem zTq : type_of% @PySem.mem_of_lookup := @PySem.mem_of_lookup
theorem zTr : type_of% @Heap.SameBut.update := @Heap.SameBut.update
theorem zTs : type_of% @List.cons.inj := @List.cons.inj
theorem zTu : type_of% @List.append_assoc := @List.append_assoc
theorem zTw : type_of% @decide_eq_true := @decide_eq_true
theorem zTy : type_of% @List.getElem?_append_right := @List.getElem?_append_right
theorem zTz : type_of% @List.mem_filter := @List.mem_filter
theorem zT6 : type_of% @decide_eq_true_eq := @decide_eq_true_eq
theorem zT7 : type_of% @List.nodup_append := @List.nodup_append
theorem zT8 : type_of% @List.mem_append_left := @List.mem_append_left
theorem zUA : type_of% @Obj.data_mapFields := @Obj.data_mapFields
theorem zUF : type_of% @Nat.lt_or_ge := @Nat.lt_or_ge
theorem zUG : type_of% @wpAny_rule := @wpAny_rule
theorem zUH : type_of% @List.length_take := @List.length_take
theorem zUN : type_of% @PassesOwn.never := @PassesOwn.never
theorem zUS : type_of% @PyProof.Rows.slot_tuple_getitem := @PyProof.Rows.slot_tuple_getitem
theorem zUT : type_of% @List.getElem?_set := @List.getElem?_set
theorem zUW : type_of% @Nat.mul_le_mul := @Nat.mul_le_mul
theorem zUX : type_of% @PySem.W.kia_one := @PySem.W.kia_one
theorem zUg : type_of% @List.find?_cons := @List.find?_cons
theorem zUs : type_of% @List.foldl_append := @List.foldl_append
theorem zUx : type_of% @List.getElem_of_mem := @List.getElem_of_mem
theorem zUz : type_of% @List.lookup_cons := @List.lookup_cons
theorem zVD : type_of% @List.length_set := @List.length_set
theorem zVE : type_of% @List.length_filter_le := @List.length_filter_le
theorem zVN : type_of% @List.length_drop := @List.length_drop
end
set_option Elab.async false
set_option linter.all false
set_option maxRecDepth 100000
namespace L2
open PySem PySem.Spec PyProof.Rows
abbrev Key := Sum Int Str
def zHX : Key -> Value -> Bool
 | .inl k, v => Value.isInt k v
 | .inr x, v => Value.isStrOf x v
def zSa (w : World) : Key -> Int
 | .inl k => hashInt k
 | .inr x => hashStr w x
theorem zAc : ∀ {k : Key} {v : Value}, zHX k v = true -> (∃ i t, k = Sum.inl i /\ v = Value.int i t) \/ (∃ x t, k = Sum.inr x /\ v = Value.str x t)
 | .inl i, v, h => by
  obtain ⟨t, e⟩ := Value.isInt_shape (k := i) (v := v) h;exact .inl ⟨i, t, rfl, e⟩
 | .inr x, v, h => by
  obtain ⟨t, e⟩ := Value.isStrOf_shape (x := x) (v := v) h;exact .inr ⟨x, t, rfl, e⟩
theorem zL6 (i : Int) (t : Tok) : zHX (.inl i) (.int i t) = true := by simp [zHX, Value.isInt]
theorem zLk (x : Str) (t : Tok) : zHX (.inr x) (.str x t) = true := by simp [zHX, Value.isStrOf]
theorem zQT (a b : Int) : decide ((Sum.inl a : Key) = Sum.inl b) = (a == b) := by
 by_cases e : a = b
 ·subst e; simp
 ·have h : ¬ (Sum.inl a : Key) = Sum.inl b := fun q => e (Sum.inl.inj q);rw [zTN h];exact (beq_eq_false_iff_ne.mpr e).symm
theorem zQc (a b : Str) : decide ((Sum.inr a : Key) = Sum.inr b) = decide (a = b) := by
 by_cases e : a = b
 ·subst e; simp
 ·have h : ¬ (Sum.inr a : Key) = Sum.inr b := fun q => e (Sum.inr.inj q);rw [zTN h, zTN e]
theorem zQq (a : Int) (b : Str) : decide ((Sum.inl a : Key) = Sum.inr b) = false := zTN (fun q => nomatch q)
theorem zRB (a : Str) (b : Int) : decide ((Sum.inr a : Key) = Sum.inl b) = false := zTN (fun q => nomatch q)
def zAY (prog : Program) (w : World) : PySem.KeyKind prog w Key where
 is := zHX
 hash := zSa w
 inj := fun v a b ha hb => by
  rcases zAc ha with ⟨i, t, rfl, rfl⟩ | ⟨x, t, rfl, rfl⟩
  ·rcases zAc hb with ⟨j, u, rfl, e⟩ | ⟨y, u, rfl, e⟩
   ·injection e with e1 _; rw [e1]
   ·exact nomatch e
  ·rcases zAc hb with ⟨j, u, rfl, e⟩ | ⟨y, u, rfl, e⟩
   ·exact nomatch e
   ·injection e with e1 _; rw [e1]
 byValue := fun k v h => by
  rcases zAc h with ⟨i, t, rfl, rfl⟩ | ⟨x, t, rfl, rfl⟩ <;> rfl
 pyHash := fun hv h => by
  rcases zAc hv with ⟨i, t, rfl, rfl⟩ | ⟨x, t, rfl, rfl⟩
  ·exact wpAny_pyHash_int h
  ·exact wpAny_pyHash_str h
 eqBool := fun hu hv h => by
  rcases zAc hu with ⟨i, t, rfl, rfl⟩ | ⟨x, t, rfl, rfl⟩
  ·rcases zAc hv with ⟨j, u, rfl, rfl⟩ | ⟨y, u, rfl, rfl⟩
   ·rw [zQT] at h; exact wpAny_eqBool_int h
   ·rw [zQq] at h; exact SeqAt.EqAt.int_str i t y u _ _ _ _ h
  ·rcases zAc hv with ⟨j, u, rfl, rfl⟩ | ⟨y, u, rfl, rfl⟩
   ·rw [zRB] at h; exact SeqAt.EqAt.str_int x t j u _ _ _ _ h
   ·rw [zQc] at h; exact wpAny_eqBool_str h
 «strs» := fun k x t v h => by
  rcases zAc h with ⟨i, u, rfl, e⟩ | ⟨y, u, rfl, e⟩
  ·exact nomatch e
  ·injection e with e1 _
   subst e1
   cases v <;> rfl
theorem zJM (prog : Program) (w : World) (i : Int) (t : Tok) : (zAY prog w).is (.inl i) (.int i t) = true := zL6 i t
theorem zI7 (prog : Program) (w : World) (x : Str) (t : Tok) : (zAY prog w).is (.inr x) (.str x t) = true := zLk x t
inductive V where
 | non | bl (b : Bool) | int (i : Int) | str (x : Str) | byt (b : Array UInt8) | flt (b : UInt64) | ref (a : Addr) | ty (n : String)
 deriving DecidableEq
def zy : V -> Value -> Prop
 | .non, u => u = Value.none
 | .bl b, u => u = Value.bool b
 | .int i, u => ∃ t, u = Value.int i t
 | .str x, u => ∃ t, u = Value.str x t
 | .byt b, u => ∃ t, u = Value.bytes b t
 | .flt b, u => ∃ t, u = Value.float b t
 | .ref a, u => u = Value.ref a
 | .ty n, u => u = Value.type n
abbrev zk : List V -> List Value -> Prop := Paired zy
theorem zk.length {xs : List V} {us : List Value} (r : zk xs us) : xs.length = us.length := Paired.length r
theorem zk.get : ∀ {xs : List V} {us : List Value} {i : Nat} {x : V}, zk xs us -> xs[i]? = some x -> ∃ u, us[i]? = some u /\ zy x u
 | _, _, _, _, .nil, e => by simp at e
 | _, _, 0, _, .cons r _, e => by simp at e; subst e; exact ⟨_, rfl, r⟩
 | _, _, i + 1, x, .cons _ t, e => by
  obtain ⟨u, h1, h2⟩ := zk.get (i := i) (x := x) t (by simpa using e);exact ⟨u, by simpa using h1, h2⟩
theorem zk.set {x : V} {u : Value} (r : zy x u) : ∀ {xs : List V} {us : List Value} (i : Nat), zk xs us -> zk (xs.set i x) (us.set i u)
 | _, _, _, .nil => .nil
 | _, _, 0, .cons _ t => .cons r t
 | _, _, i + 1, .cons q t => .cons q (zk.set r i t)
theorem zk.append : ∀ {xs ys : List V} {us ws : List Value}, zk xs us -> zk ys ws -> zk (xs ++ ys) (us ++ ws)
 | _, _, _, _, .nil, s => s
 | _, _, _, _, .cons r t, s => .cons r (zk.append t s)
theorem zk.take : ∀ {xs : List V} {us : List Value} (n : Nat), zk xs us -> zk (xs.take n) (us.take n)
 | _, _, 0, _ => .nil
 | _, _, _ + 1, .nil => .nil
 | _, _, n + 1, .cons r t => .cons r (zk.take n t)
theorem zk.drop : ∀ {xs : List V} {us : List Value} (n : Nat), zk xs us -> zk (xs.drop n) (us.drop n)
 | _, _, 0, r => r
 | _, _, _ + 1, .nil => .nil
 | _, _, n + 1, .cons _ t => zk.drop n t
def zE1 : Option V -> Option Value -> Prop
 | some v, some u => zy v u
 | none, none => True
 | _, _ => False
def KV {κ : Type} : List (κ × V) -> List (κ × Value) -> Prop := Paired fun (p : κ × V) (q : κ × Value) => p.1 = q.1 /\ zy p.2 q.2
def kV : Key -> V
 | .inl i => .int i
 | .inr x => .str x
inductive HO where
 | lst (xs : List V)
 | tup (xs : List V)
 | dK (kvs : List (Key × V)) | dT (kvs : List (List Key × V))
 | set (S : Int -> Bool) (n : Nat)
 | ins (C dx : Addr) (fs : List (Str × V))
 | own (x : Addr)
 | xd (fs : List (Str × V))
 | met (f x : Addr)
 | rng (lo hi : Int)
 | frz (o : Obj) (u : HO)
 | tbl (ps : Array Value)
 | ext (φ : Heap -> Prop)
abbrev Hp := Addr -> Option HO
def upd (H : Hp) (a : Addr) (o : HO) : Hp := fun b => if b = a then some o else H b
theorem zAP {H : Hp} {a : Addr} {o : HO} : upd H a o a = some o := by unfold upd; rw [zS3 rfl]
theorem zg {H : Hp} {a b : Addr} {o : HO} (h : b ≠ a) : upd H a o b = H b := by unfold upd; rw [zS6 h]
theorem zGM {H : Hp} {a b : Addr} {o u : HO} (h : H a = some o) (h' : H b = some u) (d : o ≠ u) : a ≠ b := by
 intro e; subst e; rw [h] at h'; exact d (zTo h')
theorem zAM {H : Hp} {a b : Addr} {o : HO} (h : H a = some o) (h' : H b = none) : a ≠ b := by
 intro e; subst e; rw [h] at h'; cases h'
def zCL (h : Heap) (a : Addr) (items : Array Value) : Prop := ∃ o, h.get? a = some o /\ o.cls = .type "tuple" /\ (∃ n, o.data = .seq items n) /\ o.dict = none
theorem zCL.tup {h : Heap} {a : Addr} {items : Array Value} (x : zCL h a items) : IsTup h a items := let ⟨o, e, c, d, _⟩ := x; ⟨o, e, c, d⟩
theorem zCL.lt {h : Heap} {a : Addr} {items : Array Value} (x : zCL h a items) : a < h.objs.size := let ⟨_, e, _⟩ := x; zSz e
theorem zCL.new (h : Heap) (items : Array Value) : zCL (h.push { cls := .type "tuple", data := .seq items }) h.objs.size items := ⟨_, zSy _ rfl, rfl, ⟨_, rfl⟩, rfl⟩
section
variable (P : Program) (w : World)
def zAX (H : Hp) (h : Heap) (a : Addr) : HO -> Prop
 | .lst xs => xs.length <= sizeLine /\ ∃ (its : List Value) (n : Nat), zk xs its /\ h.get? a = some { cls := .type "list", data := .seq its.toArray n }
 | .tup xs => xs.length <= sizeLine /\ ∃ its : List Value, zk xs its /\ zCL h a its.toArray
 | .dK kvs => kvs.length <= sizeLine /\ (a == sysModules) = false /\ ∃ vs, KV kvs vs /\ h.DictOf (zAY P w) a vs
 | .dT kvs => kvs.length <= sizeLine /\ (a == sysModules) = false /\ ∃ xs : List (List Key × Addr × Value),
   Paired (fun (p : List Key × V) (q : List Key × Addr × Value) => p.1 = q.1 /\ H q.2.1 = some (.tup (p.1.map kV)) /\ zy p.2 q.2.2) kvs xs /\
   ∃ o es ep, h.get? a = some o /\ o.ExactDict /\ o.data = .dict es ep /\ es.toList = xs.map (entryOfKey (tupleKind (zAY P w))) /\ (xs.map (·.1)).Nodup
 | .set S n => h.SetOf (intKind P w) a S n
 | .ins C dx fs => H dx = some (.own a) /\ fs.length <= 1000 /\ dx ≠ a /\ h.get? a = some (PySem.W.instObj C dx) /\
   ∃ mA, h.Ns1 dx mA /\ (∀ f, zE1 (fs.lookup f) (mA f)) /\ PySem.Within mA (fs.map (·.1))
 | .own _ => ∃ o, h.get? a = some o
 | .xd fs => ∃ mA, h.Ns1 a mA /\ ∀ f, zE1 (fs.lookup f) (mA f)
 | .rng lo hi => ∃ t u v, h.get? a = some { cls := .type "range", data := .fields #[.int lo t, .int hi u, .int 1 v] }
 | .frz o u => h.get? a = some o /\ zAX H h a u
 | .tbl ps => h.get? a = some { cls := .none, data := .fields ps }
 | .met f x => h.get? a = some (PySem.W.methodObj (.ref f) (.ref x))
 | .ext φ => φ h /\ (∃ o, h.get? a = some o) /\ ∀ h1 h2 : Heap, φ h1 -> (∀ o, h1.get? a = some o -> h2.get? a = some o) -> φ h2
def HOk (H : Hp) (h : Heap) : Prop := ∀ a o, H a = some o -> zAX P w H h a o
end
section
variable {P : Program} {w : World} {H H' : Hp} {h h' : Heap} {a : Addr} {o : HO}
theorem zAX.lt (x : zAX P w H h a o) : a < h.objs.size := by
 cases o with
 | lst xs => obtain ⟨_, _, _, _, e⟩ := x; exact zSz e
 | tup xs => obtain ⟨_, _, _, p⟩ := x; exact p.lt
 | dK kvs => obtain ⟨_, _, _, _, o, _, _, e, _⟩ := x; exact zSz e
 | dT kvs => obtain ⟨_, _, _, _, o, _, _, e, _⟩ := x; exact zSz e
 | set S n => obtain ⟨o, _, _, _, e, _⟩ := x; exact zSz e
 | ins C dx fs => obtain ⟨_, _, _, e, _⟩ := x; exact zSz e
 | own y => obtain ⟨_, e⟩ := x; exact zSz e
 | xd fs => obtain ⟨_, ⟨_, _, _, e, _⟩, _⟩ := x; exact zSz e
 | rng lo hi => obtain ⟨_, _, _, e⟩ := x; exact zSz e
 | frz ob u => obtain ⟨e, _⟩ := x; exact zSz e
 | tbl ps => exact zSz (show h.get? a = some _ from x)
 | met f y => exact zSz (show h.get? a = some _ from x)
 | ext φ => obtain ⟨_, ⟨_, e⟩, _⟩ := x; exact zSz e
theorem Paired.mapP {α β : Type} {F G : α -> β -> Prop} : ∀ {l₁ : List α} {l₂ : List β}, Paired F l₁ l₂ -> (∀ a b, F a b -> G a b) -> Paired G l₁ l₂
 | _, _, .nil, _ => .nil
 | _, _, .cons r t, f => .cons (f _ _ r) (Paired.mapP t f)
theorem zAX.stay (x : zAX P w H h a o) (k : ∀ b u, (b = a \/ H b = some (.own a)) -> h.get? b = some u -> h'.get? b = some u)
  (ho : ∀ b, H b = some (.own a) -> H' b = some (.own a)) (ht : ∀ b xs, H b = some (.tup xs) -> H' b = some (.tup xs)) : zAX P w H' h' a o := by
 induction o with
 | lst xs => obtain ⟨z, its, n, r, e⟩ := x; exact ⟨z, its, n, r, k _ _ (.inl rfl) e⟩
 | tup xs => obtain ⟨z, its, r, ob, e, c⟩ := x; exact ⟨z, its, r, ob, k _ _ (.inl rfl) e, c⟩
 | dK kvs => obtain ⟨z, y, vs, r, ob, es, ep, e, c⟩ := x; exact ⟨z, y, vs, r, ob, es, ep, k _ _ (.inl rfl) e, c⟩
 | dT kvs =>
  obtain ⟨z, y, xs, r, ob, es, ep, e, c⟩ := x;exact ⟨z, y, xs, Paired.mapP r fun p q z => ⟨z.1, ht _ _ z.2.1, z.2.2⟩, ob, es, ep, k _ _ (.inl rfl) e, c⟩
 | set S n => obtain ⟨ob, es, ep, t, e, c⟩ := x; exact ⟨ob, es, ep, t, k _ _ (.inl rfl) e, c⟩
 | ins C dx fs =>
  obtain ⟨d, z, ne, e, mA, ⟨od, es, ep, e2, c⟩, r⟩ := x;exact ⟨ho _ d, z, ne, k _ _ (.inl rfl) e, mA, ⟨od, es, ep, k _ _ (.inr d) e2, c⟩, r⟩
 | own y => obtain ⟨ob, e⟩ := x; exact ⟨ob, k _ _ (.inl rfl) e⟩
 | xd fs => obtain ⟨mA, ⟨od, es, ep, e, c⟩, r⟩ := x; exact ⟨mA, ⟨od, es, ep, k _ _ (.inl rfl) e, c⟩, r⟩
 | rng lo hi => obtain ⟨t, u, v, e⟩ := x; exact ⟨t, u, v, k _ _ (.inl rfl) e⟩
 | frz ob u ih => obtain ⟨e, q⟩ := x; exact ⟨k _ _ (.inl rfl) e, ih q⟩
 | tbl ps =>
  have e : h.get? a = some { cls := .none, data := .fields ps } := x;show h'.get? a = some { cls := .none, data := .fields ps };exact k a _ (.inl rfl) e
 | met f y =>
  have e : h.get? a = some (PySem.W.methodObj (.ref f) (.ref y)) := x;show h'.get? a = some (PySem.W.methodObj (.ref f) (.ref y));exact k a _ (.inl rfl) e
 | ext φ => obtain ⟨p, ⟨o, e⟩, st⟩ := x; exact ⟨st _ _ p fun o q => k _ _ (.inl rfl) q, ⟨o, k _ _ (.inl rfl) e⟩, st⟩
theorem HOk.lt (x : HOk P w H h) (e : H a = some o) : a < h.objs.size := (x a o e).lt
theorem HOk.fresh (x : HOk P w H h) (e : h.objs.size <= a) : H a = none := by
 cases q : H a with
 | none => rfl
 | some u => exact absurd (zTD (x.lt q) e) (zTW _)
theorem HOk.kept (x : HOk P w H h) (k : ∀ b u, h.get? b = some u -> h'.get? b = some u) : HOk P w H h' := fun a o e =>
 (x a o e).stay (fun b u _ q => k b u q) (fun _ q => q) fun _ _ q => q
theorem HOk.laid (x : HOk P w H h) (k : ∀ b u, h.get? b = some u -> h'.get? b = some u) (hp : h.objs.size <= a) (new : zAX P w (upd H a o) h' a o) : HOk P w (upd H a o) h' := fun b u e => by
 have hn := x.fresh hp;by_cases hb : b = a
 ·subst hb; rw [zAP] at e; cases e; exact new
 ·rw [zg hb] at e;exact (x b u e).stay (fun c v _ q => k c v q) (fun c q => by rw [zg (zAM q hn)]; exact q) fun c xs q => by rw [zg (zAM q hn)]; exact q
end
def Rd (H : Hp) (a : Addr) (u : HO) : Prop := H a = some u \/ ∃ o, H a = some (.frz o u)
theorem Rd.ok {P : Program} {w : World} {H : Hp} {h : Heap} {a : Addr} {u : HO} (r : Rd H a u) (x : HOk P w H h) : zAX P w H h a u := by
 rcases r with r | ⟨o, r⟩
 ·exact x a u r
 ·obtain ⟨_, q⟩ := x a _ r;exact q
def Mut : Option HO -> Prop
 | some (.lst _) => True
 | some (.dK _) => True
 | some (.dT _) => True
 | some (.set _ _) => True
 | some (.ins _ _ _) => True
 | some (.ext _) => True
 | _ => False
section
variable {P : Program} {w : World} {H : Hp} {h h' : Heap} {x e : Addr} {o' : HO}
theorem HOk.write (ok : HOk P w H h) (mu : Mut (H x)) (he : e = x \/ H e = some (.own x)) (k : ∀ b u, b ≠ e -> h.get? b = some u -> h'.get? b = some u) (heo : ∃ u, h'.get? e = some u)
  (new : zAX P w (upd H x o') h' x o') : HOk P w (upd H x o') h' := fun b u q => by
 have nown : ∀ c y, H c = some (.own y) -> c ≠ x := fun c y r z => by subst z; rw [r] at mu; exact mu
 have ntup : ∀ c xs, H c = some (.tup xs) -> c ≠ x := fun c xs r z => by subst z; rw [r] at mu; exact mu
 by_cases hb : b = x
 ·subst hb; rw [zAP] at q; cases q; exact new
 ·rw [zg hb] at q;by_cases hbe : b = e
  ·have q' : H b = some (.own x) := by
    rcases he with z | z
    ·exact absurd (hbe.trans z) hb
    ·rw [hbe]; exact z
   rw [q] at q'; cases q';obtain ⟨v, hv⟩ := heo;exact ⟨v, by rw [hbe]; exact hv⟩
  ·refine (ok b u q).stay (fun c v hc r => k c v ?_ r) (fun c r => by rw [zg (nown c b r)]; exact r) fun c xs r => by rw [zg (ntup c xs r)]; exact r
   rcases hc with rfl | hc
   ·exact hbe
   ·rintro rfl;rcases he with z | z
    ·exact nown c b hc z
    ·rw [hc] at z; cases z; exact hb rfl
end
structure Un (fs ex : List Addr) (H H' : Hp) (h h' : Heap) : Prop where
 keep : ∀ b o, h.get? b = some o -> H b = none -> b ∉ fs -> b ∉ ex -> h'.get? b = some o
 slot : ∀ b o, h.get? b = some o -> H b = none -> b ∈ fs -> b ∉ ex -> ∃ sl, h'.get? b = some { o with slots := sl }
 free : ∀ b o, h.get? b = some o -> H b = none -> b ∉ ex -> H' b = none
 there : ∀ b o, h.get? b = some o -> b ∉ ex -> ∃ o', h'.get? b = some o'
 tups : ∀ b xs, H b = some (.tup xs) -> H' b = some (.tup xs)
 frzs : ∀ b o u, H b = some (.frz o u) -> H' b = some (.frz o u)
 tbls : ∀ b ps, H b = some (.tbl ps) -> ∃ more, H' b = some (.tbl (ps ++ more))
section
variable {fs fs' ex ex' : List Addr} {H H1 H2 : Hp} {h h1 h2 h' : Heap} {a x e : Addr} {o : HO}
theorem Un.any (u : Un fs ex H H1 h h1) {b : Addr} {ob : Obj} (q : h.get? b = some ob) (n : H b = none) (hx : b ∉ ex) : ∃ sl, h1.get? b = some { ob with slots := sl } := by
 by_cases hb : b ∈ fs
 ·exact u.slot b ob q n hb hx
 ·exact ⟨ob.slots, u.keep b ob q n hb hx⟩
theorem Un.kept (k : ∀ b u, h.get? b = some u -> h'.get? b = some u) : Un fs ex H H h h' :=
 ⟨fun b ob q _ _ _ => k b ob q, fun b ob q _ _ _ => ⟨ob.slots, k b ob q⟩, fun _ _ _ n _ => n, fun b ob q _ => ⟨ob, k b ob q⟩, fun _ _ q => q, fun _ _ _ q => q, fun _ ps q => ⟨#[], by rw [q]; simp⟩⟩
theorem Un.refl : Un fs ex H H h h := Un.kept fun _ _ q => q
theorem Un.laid (k : ∀ b u, h.get? b = some u -> h'.get? b = some u) (hp : h.objs.size <= a) (hn : H a = none) : Un fs ex H (upd H a o) h h' where
 keep := fun b u q _ _ _ => k b u q;slot := fun b u q _ _ _ => ⟨u.slots, k b u q⟩;free := fun b u q n _ => by rw [zg (zS9 (zTD (zSz q) hp))]; exact n
 there := fun b u q _ => ⟨u, k b u q⟩;tups := fun b xs q => by rw [zg (zAM q hn)]; exact q
 frzs := fun b u xs q => by rw [zg (zAM q hn)]; exact q
 tbls := fun b ps q => ⟨#[], by rw [zg (zAM q hn), q]; simp⟩
theorem Un.write (mu : Mut (H x)) (he : e = x \/ H e = some (.own x)) (k : ∀ b u, b ≠ e -> h.get? b = some u -> h'.get? b = some u) (heo : ∃ u, h'.get? e = some u) : Un fs ex H (upd H x o) h h' := by
 have hx : ∀ b, H b = none -> b ≠ x := fun b n z => by subst z; rw [n] at mu; exact mu
 have hb : ∀ b, H b = none -> b ≠ e := fun b n z => by
  subst z;rcases he with r | r
  ·exact hx b n r
  ·rw [n] at r; cases r
 have hm : ∀ b u, H b = some u -> ¬ Mut (some u) -> b ≠ x := fun b u q nm z => by subst z; rw [q] at mu; exact nm mu
 refine ⟨fun b u q n _ _ => k b u (hb b n) q, fun b u q n _ _ => ⟨u.slots, k b u (hb b n) q⟩, fun b u q n _ => by rw [zg (hx b n)]; exact n, fun b u q _ => ?_,
  fun b xs q => by rw [zg (hm b _ q fun z => z)]; exact q, fun b u xs q => by rw [zg (hm b _ q fun z => z)]; exact q, fun b ps q => ⟨#[], by rw [zg (hm b _ q fun z => z), q]; simp⟩⟩
 by_cases hbe : b = e
 ·subst hbe; exact heo
 ·exact ⟨u, k b u hbe q⟩
end
def trk (h : Heap) (H : Hp) : List Addr := (List.range h.objs.size).filter fun a => (H a).isSome
def zIZ (h : Heap) (H : Hp) : Heap := PySem.W.hideAll h (trk h H)
theorem zMB (h : Heap) (H : Hp) : (zIZ h H).objs.size = h.objs.size := PySem.W.hideAll_size _ _
theorem zNx {h : Heap} {H : Hp} {b : Addr} {o : Obj} (e : h.get? b = some o) (n : H b = none) : (zIZ h H).get? b = some o :=
 PySem.W.hideAll_get _ e fun hm => by
  have q : (H b).isSome = true := (zTz.mp hm).2;rw [n] at q; simp at q
theorem zPW {h : Heap} {H : Hp} {b : Addr} {o : Obj} (e : (zIZ h H).get? b = some o) : h.get? b = some o /\ H b = none := by
 have e' : h.get? b = some o := PySem.W.of_hideAll (trk h H) e;refine ⟨e', ?_⟩;cases q : H b with
 | none => rfl
 | some x =>
  have hm : b ∈ trk h H := zTz.mpr ⟨zTS.mpr (zSz e'), by simp [q]⟩;have z : (zIZ h H).get? b = none := PySem.W.hideAll_none (trk h H) hm;rw [z] at e; cases e
structure Mod (K : PySem.W.Frag) (mg : Str -> Option Value) (base : Heap) : Prop where
 kin : K.In base
 glob : base.Ns mainGlobals mg
 blt : ∃ mb, base.Ns builtinsNs mb /\ ∀ x : Str, x ≠ "__name__" -> mb x = bootBuiltins x
 nolimit : base.NoLimit
structure Cx where
 prog : Program
 w : World
 K : PySem.W.Frag
 mg : Str -> Option Value
 base : Heap
 A : Around
 N : List Str
 s₀ : Shared
 H₀ : Hp
 env : Env
 outer : List Env
 stack : List Env
 ex : List Addr
 fn : Str -> Bool
 calm : Bool
 pn : List (Addr × Obj)
 xe : Value -> Shared -> Prop
def frs (l : List Env) : List Addr := l.filterMap (·.frame)
abbrev Cx.fs (X : Cx) : List Addr := frs X.outer
def Vis (sc : Scope) (x : Str) : Prop := sc.names.lookup x = some .local \/ sc.names.lookup x = some .cell \/ sc.names.lookup x = some .free
def Loc (sc : Scope) (x : Str) : Prop := sc.names.lookup x = some .local \/ sc.names.lookup x = some .cell
def zSi (env : Env) (h : Heap) (m : Str -> Option Value) (x : Str) (u : Value) : Prop :=
 (env.kindOf x = some .local /\ m x = some u) \/ ((env.kindOf x = some .cell \/ env.kindOf x = some .free) /\ ∃ c, env.cells.lookup x = some c /\ h.IsCell c (some u))
structure Cx.Ok (X : Cx) : Prop where
 mod : Mod X.K X.mg X.base
 kind : X.env.scope.kind = .function
 glob : X.env.globals = mainGlobals
 blt : X.env.builtins = builtinsNs
 above : X.s₀.heap.objs.size <= X.env.locals
 inj : ∀ x y c, X.env.cells.lookup x = some c -> X.env.cells.lookup y = some c -> x = y
 has : ∀ x, (X.env.kindOf x = some .cell \/ X.env.kindOf x = some .free) -> ∃ c, X.env.cells.lookup x = some c
 cab : ∀ x c, X.fn x = true -> X.env.cells.lookup x = some c -> X.s₀.heap.objs.size <= c
 hd : X.calm = true -> X.A.handled = none
 frames : X.A.frames = some X.stack
 stk : X.stack = X.outer \/ (X.stack = X.env :: X.outer /\ X.env.frame = some X.env.locals)
 exf : ∀ b ∈ X.ex, b ≠ X.env.locals /\ ∀ x c, X.env.cells.lookup x = some c -> c ≠ b
 bs : ∀ b o, X.base.get? b = some o -> X.s₀.heap.get? b = some o /\ X.H₀ b = none
 bsz : X.base.objs.size <= X.s₀.heap.objs.size
 noex : ∀ b o, X.base.get? b = some o -> b ∉ X.ex
 exfs : ∀ b ∈ X.ex, b ∉ X.fs
 funs : X.s₀.heap.FunFrames X.base X.outer
 frf : ∀ b ∈ X.fs, X.H₀ b = none
structure Inv (X : Cx) (zB : List (Addr × Obj)) (σ : List (Option V)) (H : Hp) (s : Shared) : Prop where
 ok : X.Ok
 os : s.os = X.s₀.os
 bare : AllBare s.gens
 base : Un X.fs X.ex X.H₀ H X.s₀.heap s.heap
 loc : ∃ m, s.heap.Ns X.env.locals m /\ ∀ (i : Nat) (x : Str) (v : V), X.N[i]? = some x -> σ[i]? = some (some v) -> Vis X.env.scope x -> ∃ u, zy v u /\ zSi X.env s.heap m x u
 cell : ∀ x c, X.env.cells.lookup x = some c -> ∃ v, s.heap.IsCell c v
 free : H X.env.locals = none
 freeC : ∀ x c, X.env.cells.lookup x = some c -> H c = none
 pin : ∀ p ∈ X.pn ++ zB, s.heap.get? p.1 = some p.2 /\ H p.1 = none /\ p.1 ≠ X.env.locals /\ p.1 ∉ X.fs /\ ∀ v, p.2.data ≠ .cell v
 hok : HOk X.prog X.w H s.heap
 len : σ.length = X.N.length
section
variable {X : Cx} {zB : List (Addr × Obj)} {σ : List (Option V)} {H H' : Hp} {s : Shared} {h' : Heap}
theorem Cx.Ok.nofr (ok : X.Ok) {b : Addr} {o : Obj} (e : X.base.get? b = some o) : b ∉ X.fs := fun hb => by
 have := (ok.funs.mem hb).1;rw [e] at this; cases this
theorem Inv.bs (I : Inv X zB σ H s) : ∀ b o, X.base.get? b = some o -> s.heap.get? b = some o /\ H b = none := fun b o e =>
 ⟨I.base.keep b o (I.ok.bs b o e).1 (I.ok.bs b o e).2 (I.ok.nofr e) (I.ok.noex b o e), I.base.free b o (I.ok.bs b o e).1 (I.ok.bs b o e).2 (I.ok.noex b o e)⟩
theorem Inv.bk (I : Inv X zB σ H s) : ∀ b o, X.base.get? b = some o -> s.heap.get? b = some o := fun b o e => (I.bs b o e).1
theorem Inv.mod (I : Inv X zB σ H s) : Mod X.K X.mg X.base := I.ok.mod
theorem Inv.kIn (I : Inv X zB σ H s) : X.K.In s.heap := I.ok.mod.kin.keeps I.bk
theorem Inv.lt (I : Inv X zB σ H s) : X.env.locals < s.heap.objs.size := let ⟨_, hn, _⟩ := I.loc; hn.lt
theorem Inv.sz (I : Inv X zB σ H s) : X.s₀.heap.objs.size <= s.heap.objs.size := zTF I.ok.above (Nat.le_of_lt I.lt)
theorem Inv.nofs (I : Inv X zB σ H s) {a : Addr} (h : s.heap.objs.size <= a) : a ∉ X.fs := fun hb => by
 obtain ⟨_, o, ho, _⟩ := I.ok.funs.mem hb;exact absurd (zTD (zSz ho) (zTF I.sz h)) (zTW _)
theorem Inv.cne (I : Inv X zB σ H s) : ∀ x c, X.env.cells.lookup x = some c -> c ≠ X.env.locals := fun x c e z => by
 obtain ⟨v, o, ho, hd⟩ := I.cell x c e;obtain ⟨m, ⟨o', es, ep, ho', hd', _⟩, _⟩ := I.loc;rw [z, ho'] at ho; cases ho; rw [hd'] at hd; cases hd
theorem Inv.funs (I : Inv X zB σ H s) : s.heap.FunFrames X.base X.outer := by
 have all : ∀ (l : List Env), (∀ b ∈ frs l, b ∈ X.fs) -> X.s₀.heap.FunFrames X.base l -> s.heap.FunFrames X.base l := by
  intro l;induction l with
  | nil => intro _ _; trivial
  | cons env r ih =>
   intro hs hl;obtain ⟨hk, ⟨L, o, hf, hn, ho, hd⟩, hr⟩ := hl;have hL : L ∈ X.fs := hs L (by unfold frs; rw [List.filterMap_cons, hf]; exact zS2);obtain ⟨sl, e⟩ := I.base.slot L o ho (I.ok.frf L hL) hL fun z => I.ok.exfs L z hL;exact ⟨hk, ⟨L, _, hf, hn, e, hd⟩, ih (fun b hb => hs b (by unfold frs; rw [List.filterMap_cons, hf]; exact zS1 _ hb)) hr⟩
 exact all X.outer (fun _ hb => hb) I.ok.funs
theorem Inv.stack (I : Inv X zB σ H s) : s.heap.FunFrames X.base X.stack := by
 rcases I.ok.stk with e | ⟨e, hf⟩
 ·rw [e]; exact I.funs
 ·rw [e];obtain ⟨m, hn, _⟩ := I.loc;refine .cons (by rw [I.ok.kind]; decide) hf hn ?_ I.funs;exact Heap.get?_none_of_le (zTF I.ok.bsz I.ok.above)
theorem Inv.stkSub (I : Inv X zB σ H s) : ∀ b ∈ frs X.stack, b ∈ X.env.locals :: X.fs := fun b hb => by
 rcases I.ok.stk with e | ⟨e, hf⟩
 ·rw [e] at hb; exact zS1 _ hb
 ·rw [e] at hb;unfold frs at hb;rw [List.filterMap_cons, hf] at hb;exact hb
theorem Inv.stkFree (I : Inv X zB σ H s) : ∀ b ∈ frs X.stack, H b = none := fun b hb => by
 rcases zS0.mp (I.stkSub b hb) with e | hb
 ·rw [e]; exact I.free
 ·obtain ⟨_, o, ho, _⟩ := I.ok.funs.mem hb;exact I.base.free b o ho (I.ok.frf b hb) fun z => I.ok.exfs b z hb
theorem Inv.step {g' : Array GenState} {t' : Nat} {d' : Drawn} {ch : List Addr} (I : Inv X zB σ H s)
  (hch : ∀ b ∈ ch, (b ∈ X.ex \/ X.s₀.heap.objs.size <= b) /\ b ≠ X.env.locals /\ (∀ x c, X.env.cells.lookup x = some c -> c ≠ b) /\ ∀ p ∈ X.pn ++ zB, p.1 ≠ b)
  (keep : ∀ b o, b ≠ X.env.locals -> b ∉ X.fs -> b ∉ ch -> s.heap.get? b = some o -> H b = none -> h'.get? b = some o)
  (slot : ∀ b o, b ≠ X.env.locals -> b ∈ X.fs -> b ∉ ch -> s.heap.get? b = some o -> H b = none -> ∃ sl, h'.get? b = some { o with slots := sl }) (free : ∀ b o, b ∉ ch -> s.heap.get? b = some o -> H b = none -> H' b = none)
  (there : ∀ b o, b ∉ ch -> s.heap.get? b = some o -> ∃ o', h'.get? b = some o')
  (tups : ∀ b xs, H b = some (.tup xs) -> H' b = some (.tup xs)) (frzs : ∀ b o u, H b = some (.frz o u) -> H' b = some (.frz o u)) (tbls : ∀ b ps, H b = some (.tbl ps) -> ∃ more, H' b = some (.tbl (ps ++ more)))
  (ns : ∀ m, s.heap.Ns X.env.locals m -> h'.Ns X.env.locals m) (hok : HOk X.prog X.w H' h') (hg : AllBare g') :
  Inv X zB σ H' { s with heap := h', gens := g', drawn := d', toks := t' } := by
 have neL : ∀ b o, X.s₀.heap.get? b = some o -> b ≠ X.env.locals := fun b o e => zS9 (zTD (zSz e) I.ok.above);have neC : ∀ b o, X.s₀.heap.get? b = some o -> b ∉ X.ex -> b ∉ ch := fun b o e hx hb => by
  rcases (hch b hb).1 with z | z
  ·exact hx z
  ·exact absurd (zTD (zSz e) z) (zTW _)
 have cellK : ∀ x c, X.env.cells.lookup x = some c -> ∀ v, s.heap.IsCell c v -> h'.IsCell c v := fun x c e v ⟨o, ho, hd⟩ => by
  have nch : c ∉ ch := fun z => (hch c z).2.2.1 x c e rfl;by_cases hc : c ∈ X.fs
  ·obtain ⟨sl, q⟩ := slot c o (I.cne x c e) hc nch ho (I.freeC x c e);exact ⟨_, q, hd⟩
  ·exact ⟨o, keep c o (I.cne x c e) hc nch ho (I.freeC x c e), hd⟩
 refine ⟨I.ok, I.os, hg, ⟨fun b o e n hb hx => ?_, fun b o e n hb hx => ?_, fun b o e n hx => ?_, fun b o e hx => ?_, fun b xs e => tups b xs (I.base.tups b xs e), fun b o xs e => frzs b o xs (I.base.frzs b o xs e), fun b ps e => ?_⟩, ?_, fun x c e => ?_, ?_, fun x c e => ?_, fun p hp => ?_, hok, I.len⟩
 ·exact keep b o (neL b o e) hb (neC b o e hx) (I.base.keep b o e n hb hx) (I.base.free b o e n hx)
 ·obtain ⟨sl, e1⟩ := I.base.slot b o e n hb hx;obtain ⟨sl', e2⟩ := slot b _ (neL b o e) hb (neC b o e hx) e1 (I.base.free b o e n hx);exact ⟨sl', e2⟩
 ·obtain ⟨o', e1⟩ := I.base.there b o e hx;exact free b o' (neC b o e hx) e1 (I.base.free b o e n hx)
 ·obtain ⟨o', e1⟩ := I.base.there b o e hx;exact there b o' (neC b o e hx) e1
 ·obtain ⟨m1, e1⟩ := I.base.tbls b ps e;obtain ⟨m2, e2⟩ := tbls b _ e1;exact ⟨m1 ++ m2, by rw [e2, Array.append_assoc]⟩
 ·obtain ⟨m, hn, hl⟩ := I.loc;refine ⟨m, ns m hn, fun i x v e1 e2 e3 => ?_⟩;obtain ⟨u, r, l⟩ := hl i x v e1 e2 e3;refine ⟨u, r, ?_⟩;rcases l with l | ⟨k, c, e, z⟩
  ·exact .inl l
  ·exact .inr ⟨k, c, e, cellK x c e _ z⟩
 ·obtain ⟨v, z⟩ := I.cell x c e;exact ⟨v, cellK x c e v z⟩
 ·obtain ⟨m, ⟨o, _, _, ho, _⟩, _⟩ := I.loc;exact free _ o (fun z => (hch _ z).2.1 rfl) ho I.free
 ·obtain ⟨v, o, ho, hd⟩ := I.cell x c e;exact free c o (fun z => (hch c z).2.2.1 x c e rfl) ho (I.freeC x c e)
 ·obtain ⟨e, n, ne, nf, d⟩ := I.pin p hp;have nch : p.1 ∉ ch := fun z => (hch p.1 z).2.2.2 p hp rfl;exact ⟨keep p.1 p.2 ne nf nch e n, free p.1 p.2 nch e n, ne, nf, d⟩
theorem Inv.un {t' : Nat} (I : Inv X zB σ H s) (u : Un X.fs [] H H' s.heap h') (hok : HOk X.prog X.w H' h') : Inv X zB σ H' { s with heap := h', toks := t' } := by
 obtain ⟨m, ⟨o, es, ep, ho, r⟩, _⟩ := id I.loc;obtain ⟨sl, hL⟩ := u.any ho I.free (by simp);exact I.step (g' := s.gens) (d' := s.drawn) (ch := []) (fun _ z => nomatch z) (fun b o _ hb _ e n => u.keep b o e n hb (by simp)) (fun b o _ hb _ e n => u.slot b o e n hb (by simp)) (fun b o _ e n => u.free b o e n (by simp)) (fun b o _ e => u.there b o e (by simp)) u.tups u.frzs u.tbls (fun m' hm => by
  obtain ⟨o', es', ep', ho', r'⟩ := hm;rw [ho] at ho'; cases ho';exact ⟨_, es', ep', hL, r'⟩) hok I.bare
theorem Inv.call {g' : Array GenState} {t' : Nat} {d' : Drawn} {ch : List Addr} (I : Inv X zB σ H s) (u : Un (frs X.stack) ch H H' s.heap h') (hok : HOk X.prog X.w H' h') (hg : AllBare g')
  (hch : ∀ b ∈ ch, (b ∈ X.ex \/ X.s₀.heap.objs.size <= b) /\ b ≠ X.env.locals /\ (∀ x c, X.env.cells.lookup x = some c -> c ≠ b) /\ ∀ p ∈ X.pn ++ zB, p.1 ≠ b) :
  Inv X zB σ H' { s with heap := h', gens := g', drawn := d', toks := t' } := by
 obtain ⟨m, ⟨o, es, ep, ho, r⟩, _⟩ := id I.loc;obtain ⟨sl, hL⟩ := u.any ho I.free fun z => (hch _ z).2.1 rfl;exact I.step (ch := ch) hch (fun b o hL hb hc e n => u.keep b o e n (fun z => (zS0.mp (I.stkSub b z)).elim hL hb) hc) (fun b o _ _ hc e n => u.any e n hc) (fun b o hc e n => u.free b o e n hc) (fun b o hc e => u.there b o e hc) u.tups u.frzs u.tbls (fun m' hm => by
  obtain ⟨o', es', ep', ho', r'⟩ := hm;rw [ho] at ho'; cases ho';exact ⟨_, es', ep', hL, r'⟩) hok hg
theorem Inv.turned {t' : Nat} {it : Addr} (I : Inv X zB σ H s) (k : ∀ b o, b ≠ it -> s.heap.get? b = some o -> h'.get? b = some o) (hn : H it = none) (hL : it ≠ X.env.locals)
  (h1 : it ∈ X.ex \/ X.s₀.heap.objs.size <= it) (h2 : ∀ x c, X.env.cells.lookup x = some c -> c ≠ it) (h3 : ∀ p ∈ X.pn ++ zB, p.1 ≠ it) : Inv X zB σ H { s with heap := h', toks := t' } := by
 have nit : ∀ b u, H b = some u -> b ≠ it := fun b u e z => by rw [z, hn] at e; cases e
 refine I.step (g' := s.gens) (d' := s.drawn) (ch := [it]) (fun b hb => ?_) (fun b o _ _ hc e _ => k b o (fun z => hc (by simp [z])) e) (fun b o _ _ hc e _ => ⟨o.slots, k b o (fun z => hc (by simp [z])) e⟩) (fun _ _ _ _ n => n)
  (fun b o hc e => ⟨o, k b o (fun z => hc (by simp [z])) e⟩) (fun _ _ e => e) (fun _ _ _ e => e) (fun b ps e => ⟨#[], by rw [e]; simp⟩) (fun m hm => ?_) (fun b u e => ?_) I.bare
 ·have e : b = it := by simpa using hb
  subst e;exact ⟨h1, hL, h2, h3⟩
 ·obtain ⟨o, es, ep, ho, r⟩ := hm;exact ⟨o, es, ep, k _ o (Ne.symm hL) ho, r⟩
 ·refine (I.hok b u e).stay (fun c v hc q => k c v ?_ q) (fun _ q => q) fun _ _ q => q;rcases hc with z | z
  ·rw [z]; exact nit b u e
  ·exact nit c _ z
theorem Inv.tok (I : Inv X zB σ H s) (t : Nat) : Inv X zB σ H { s with toks := t } := I.un (h' := s.heap) (t' := t) Un.refl I.hok
theorem Inv.kept {t' : Nat} (I : Inv X zB σ H s) (k : ∀ b u, s.heap.get? b = some u -> h'.get? b = some u) : Inv X zB σ H { s with heap := h', toks := t' } := I.un (Un.kept k) (I.hok.kept k)
theorem Inv.laid {a : Addr} {o : HO} {t' : Nat} (I : Inv X zB σ H s) (k : ∀ b u, s.heap.get? b = some u -> h'.get? b = some u) (hp : s.heap.objs.size <= a) (new : zAX X.prog X.w (upd H a o) h' a o) :
  Inv X zB σ (upd H a o) { s with heap := h', toks := t' } := I.un (Un.laid k hp (I.hok.fresh hp)) (I.hok.laid k hp new)
theorem Inv.write {x e : Addr} {o : HO} {t' : Nat} (I : Inv X zB σ H s) (mu : Mut (H x)) (he : e = x \/ H e = some (.own x)) (k : ∀ b u, b ≠ e -> s.heap.get? b = some u -> h'.get? b = some u) (heo : ∃ u, h'.get? e = some u)
  (new : zAX X.prog X.w (upd H x o) h' x o) : Inv X zB σ (upd H x o) { s with heap := h', toks := t' } := I.un (Un.write mu he k heo) (I.hok.write mu he k heo new)
theorem Inv.weak {σ' : List (Option V)} (I : Inv X zB σ H s) (hl : σ'.length = σ.length) (w : ∀ (i : Nat) v, σ'[i]? = some (some v) -> σ[i]? = some (some v)) : Inv X zB σ' H s :=
 ⟨I.ok, I.os, I.bare, I.base, let ⟨m, hn, hl'⟩ := I.loc; ⟨m, hn, fun i x v e1 e2 e3 => hl' i x v e1 (w i v e2) e3⟩, I.cell, I.free, I.freeC, I.pin, I.hok, hl.trans I.len⟩
theorem Inv.pins_of {pins' : List (Addr × Obj)} (I : Inv X zB σ H s) (h : ∀ p ∈ pins', s.heap.get? p.1 = some p.2 /\ H p.1 = none /\ p.1 ≠ X.env.locals /\ p.1 ∉ X.fs /\ ∀ v, p.2.data ≠ .cell v) : Inv X pins' σ H s :=
 ⟨I.ok, I.os, I.bare, I.base, I.loc, I.cell, I.free, I.freeC, fun p hp => (zTE.mp hp).elim (fun z => I.pin p (zT8 _ z)) (h p), I.hok, I.len⟩
theorem zJT {N : List Str} (hN : N.Nodup) {i j : Nat} {x : Str} (a : N[i]? = some x) (b : N[j]? = some x) : i = j := by
 obtain ⟨h1, e1⟩ := zSr.mp a;obtain ⟨h2, e2⟩ := zSr.mp b;exact (List.getElem_inj hN).mp (e1.trans e2.symm)
theorem zLd {M : Model} {A : Around} {E : Value -> Shared -> Prop} {i : Nat} {x : Str} {v : V} {u : Value} {Q : Unit -> Shared -> Prop} (I : Inv X zB σ H s) (hN : X.N.Nodup) (hi : X.N[i]? = some x) (hx : Loc X.env.scope x) (r : zy v u)
  (h : ∀ s', Inv X zB (σ.set i (some v)) H s' -> (∃ a, Heap.SameBut a s.heap s'.heap /\ (a = X.env.locals \/ X.env.cells.lookup x = some a)) -> Q () s') (hf : X.fn x = true \/ X.env.scope.names.lookup x = some .local := by first | exact .inl rfl | exact .inr rfl | assumption) : wpAny M A (storeName X.env x u) Q E s := by
 obtain ⟨m, hn, hl⟩ := id I.loc;have hcls : (X.env.scope.kind == .class || (X.env.scope.kind == .module && X.env.locals != X.env.globals)) = false := by rw [I.ok.kind]; rfl
 have hiσ : i < σ.length := by rw [I.len]; exact (zSr.mp hi).1
 have cne := I.cne;have tracked : ∀ {a : Addr} {h' : Heap}, (∃ o, s.heap.get? a = some o /\ H a = none) -> Heap.SameBut a s.heap h' -> HOk X.prog X.w H h' := fun {a h'} ha hs b ob e => by
  obtain ⟨_, _, hfree⟩ := ha;refine (I.hok b ob e).stay (fun c w' hc q => (hs.2 c ?_).trans q) (fun _ q => q) fun _ _ q => q;rintro rfl;rcases hc with rfl | hc
  ·rw [hfree] at e; cases e
  ·rw [hfree] at hc; cases hc
 rcases hx with hk | hk
 ·refine wpAny_storeName_local hk hn (fun h' hn' hs => ?_) hcls;obtain ⟨oL, _, _, hoL, _⟩ := id hn;refine h _ ⟨I.ok, I.os, I.bare, ⟨fun b o e n hb hx => ?_, fun b o e n hb hx => ?_, I.base.free, fun b o e hx => ?_, I.base.tups, I.base.frzs, I.base.tbls⟩, ⟨_, hn', fun j y v' e1 e2 e3 => ?_⟩, fun y c e => ?_, I.free, I.freeC, fun p hp => ?_, tracked ⟨oL, hoL, I.free⟩ hs, by simpa using I.len⟩ ⟨_, hs, .inl rfl⟩
  ·exact (hs.2 b (zS9 (zTD (zSz e) I.ok.above))).trans (I.base.keep b o e n hb hx)
  ·obtain ⟨sl, e1⟩ := I.base.slot b o e n hb hx;exact ⟨sl, (hs.2 b (zS9 (zTD (zSz e) I.ok.above))).trans e1⟩
  ·obtain ⟨o', e1⟩ := I.base.there b o e hx;exact ⟨o', (hs.2 b (zS9 (zTD (zSz e) I.ok.above))).trans e1⟩
  ·by_cases hj : j = i
   ·subst hj;rw [hi] at e1; cases e1;rw [zTi hiσ] at e2;cases e2;exact ⟨u, r, .inl ⟨hk, by simp⟩⟩
   ·rw [zTI (Ne.symm hj)] at e2;obtain ⟨u', r', q⟩ := hl j y v' e1 e2 e3;refine ⟨u', r', ?_⟩;rcases q with ⟨k, e⟩ | ⟨k, c, e, z⟩
    ·refine .inl ⟨k, ?_⟩;have : y ≠ x := fun e => hj (zJT hN e1 (e ▸ hi));simp [this, e]
    ·exact .inr ⟨k, c, e, z.sameBut hs (cne y c e)⟩
  ·obtain ⟨w', z⟩ := I.cell y c e;exact ⟨w', z.sameBut hs (cne y c e)⟩
  ·obtain ⟨e, n, ne, nf, d⟩ := I.pin p hp;exact ⟨(hs.2 p.1 ne).trans e, n, ne, nf, d⟩
 ·have hfn : X.fn x = true := by
   rcases hf with z | z
   ·exact z
   ·rw [z] at hk; cases hk
  obtain ⟨c, hc⟩ := I.ok.has x (.inl hk);obtain ⟨w', z⟩ := I.cell x c hc;refine wpAny_storeName_cell I.ok.kind hk hc z (fun h' hc' hs => ?_);obtain ⟨oc, hoc, hocd⟩ := id z;refine h { s with heap := h' } ⟨I.ok, I.os, I.bare, ⟨fun b o e n hb hx => ?_, fun b o e n hb hx => ?_, I.base.free, fun b o e hx => ?_, I.base.tups, I.base.frzs, I.base.tbls⟩, ⟨m, hn.sameBut hs (Ne.symm (cne x c hc)), fun j y v' e1 e2 e3 => ?_⟩, fun y c' e => ?_, I.free, I.freeC, fun p hp => ?_, tracked ⟨oc, hoc, I.freeC x c hc⟩ hs, by simpa using I.len⟩ ⟨c, hs, .inr hc⟩
  ·exact (hs.2 b (zS9 (zTD (zSz e) (I.ok.cab x c hfn hc)))).trans (I.base.keep b o e n hb hx)
  ·obtain ⟨sl, e1⟩ := I.base.slot b o e n hb hx;exact ⟨sl, (hs.2 b (zS9 (zTD (zSz e) (I.ok.cab x c hfn hc)))).trans e1⟩
  ·obtain ⟨o', e1⟩ := I.base.there b o e hx;exact ⟨o', (hs.2 b (zS9 (zTD (zSz e) (I.ok.cab x c hfn hc)))).trans e1⟩
  ·by_cases hj : j = i
   ·subst hj;rw [hi] at e1; cases e1;rw [zTi hiσ] at e2;cases e2;exact ⟨u, r, .inr ⟨.inl hk, c, hc, hc'⟩⟩
   ·rw [zTI (Ne.symm hj)] at e2;obtain ⟨u', r', q⟩ := hl j y v' e1 e2 e3;refine ⟨u', r', ?_⟩;rcases q with q | ⟨k, c', e, z'⟩
    ·exact .inl q
    ·refine .inr ⟨k, c', e, z'.sameBut hs ?_⟩;rintro rfl;exact hj (zJT hN e1 (I.ok.inj _ _ _ e hc ▸ hi))
  ·by_cases hcc : c' = c
   ·subst hcc; exact ⟨_, hc'⟩
   ·obtain ⟨w2, z2⟩ := I.cell y c' e;exact ⟨w2, z2.sameBut hs hcc⟩
  ·obtain ⟨e, n, ne, nf, d⟩ := I.pin p hp;refine ⟨(hs.2 p.1 ?_).trans e, n, ne, nf, d⟩;intro q;rw [q, hoc] at e;have q' : oc = p.2 := zTo e;exact d w' (by rw [<- q']; exact hocd)
theorem zIs {M : Model} {A : Around} {E : Value -> Shared -> Prop} {i : Nat} {x : Str} {v : V} {u : Value} {Q : Unit -> Shared -> Prop} (I : Inv X zB σ H s) (hN : X.N.Nodup) (hi : X.N[i]? = some x) (hx : Loc X.env.scope x) (r : zy v u)
  (h : ∀ s', Inv X zB (σ.set i (some v)) H s' -> Q () s') (hf : X.fn x = true \/ X.env.scope.names.lookup x = some .local := by first | exact .inl rfl | exact .inr rfl | assumption) : wpAny M A (storeName X.env x u) Q E s :=
 zLd I hN hi hx r (fun s' I' _ => h s' I') hf
theorem Inv.call' {s' : Shared} {ch : List Addr} (I : Inv X zB σ H s) (ho : s'.os = s.os) (u : Un (frs X.stack) ch H H' s.heap s'.heap) (hok : HOk X.prog X.w H' s'.heap) (hg : AllBare s'.gens)
  (hch : ∀ b ∈ ch, (b ∈ X.ex \/ X.s₀.heap.objs.size <= b) /\ b ≠ X.env.locals /\ (∀ x c, X.env.cells.lookup x = some c -> c ≠ b) /\ ∀ p ∈ X.pn ++ zB, p.1 ≠ b) : Inv X zB σ H' s' := by
 obtain ⟨h', g', d', t', o'⟩ := s';have e : o' = s.os := ho;subst e;exact I.call (g' := g') (t' := t') (d' := d') u hok hg hch
end
abbrev XK := Value -> Option Addr -> Hp -> Prop
abbrev St := List (Option V)
abbrev VK := V -> Hp -> Prop
abbrev TE := St -> Hp -> VK -> Prop
abbrev TT := St -> Hp -> (Bool -> Hp -> Prop) -> Prop
abbrev TA := St -> Hp -> (List V -> Hp -> Prop) -> Prop
structure Ends where
 nx : St -> Hp -> Prop
 rt : VK
 bk : St -> Hp -> Prop := fun _ _ => False
 ct : St -> Hp -> Prop := fun _ _ => False
abbrev TS := Ends -> St -> Hp -> Prop
def EP (X : Cx) (zB : List (Addr × Obj)) (σ : St) (Q : VK) (u : Value) (s' : Shared) : Prop := ∃ v H', Inv X zB σ H' s' /\ zy v u /\ Q v H'
def TP (X : Cx) (zB : List (Addr × Obj)) (σ : St) (Q : Bool -> Hp -> Prop) (b : Bool) (s' : Shared) : Prop := ∃ H', Inv X zB σ H' s' /\ Q b H'
def AP (X : Cx) (zB : List (Addr × Obj)) (σ : St) (Q : List V -> Hp -> Prop) (us : List Value) (s' : Shared) : Prop := ∃ vs H', Inv X zB σ H' s' /\ zk vs us /\ Q vs H'
def SP (X : Cx) (zB : List (Addr × Obj)) (D : Ends) (f : Flow) (s' : Shared) : Prop :=
 match f with
 | .next => ∃ σ' H', Inv X zB σ' H' s' /\ D.nx σ' H'
 | .brk => ∃ σ' H', Inv X zB σ' H' s' /\ D.bk σ' H'
 | .cont => ∃ σ' H', Inv X zB σ' H' s' /\ D.ct σ' H'
 | .ret u => ∃ v σ' H', Inv X zB σ' H' s' /\ zy v u /\ D.rt v H'
def PE (X : Cx) (e : Expr) (t : TE) : Prop :=
 ∀ (zB : List (Addr × Obj)) (s : Shared) (σ : St) (H : Hp) (Q : VK), Inv X zB σ H s -> t σ H Q -> wpAny (model X.prog X.w) X.A (eval e X.env) (EP X zB σ Q) X.xe s
def PT (X : Cx) (e : Expr) (t : TT) : Prop :=
 ∀ (zB : List (Addr × Obj)) (s : Shared) (σ : St) (H : Hp) (Q : Bool -> Hp -> Prop), Inv X zB σ H s -> t σ H Q -> wpAny (model X.prog X.w) X.A (isTrue e X.env (eval e X.env)) (TP X zB σ Q) X.xe s
def PW (X : Cx) (e : Expr) (t : TT) : Prop :=
 ∀ (whole : Sem Value) (zB : List (Addr × Obj)) (s : Shared) (σ : St) (H : Hp) (Q : Bool -> Hp -> Prop), Inv X zB σ H s -> t σ H Q -> wpAny (model X.prog X.w) X.A (isTrue e X.env whole) (TP X zB σ Q) X.xe s
theorem PW.pt {X : Cx} {e : Expr} {t : TT} (h : PW X e t) : PT X e t := h _
def PA (X : Cx) (es : List Expr) (t : TA) : Prop :=
 ∀ (pos : Pos) (zB : List (Addr × Obj)) (s : Shared) (σ : St) (H : Hp) (Q : List V -> Hp -> Prop), Inv X zB σ H s -> t σ H Q -> wpAny (model X.prog X.w) X.A (spliced (backTo pos (starEach es X.env))) (AP X zB σ Q) X.xe s
def PS (X : Cx) (st : Stmt) (t : TS) : Prop :=
 ∀ (zB : List (Addr × Obj)) (s : Shared) (σ : St) (H : Hp) (D : Ends), Inv X zB σ H s -> t D σ H -> wpAny (model X.prog X.w) X.A (exec st X.env) (SP X zB D) X.xe s
def PSs (X : Cx) (st : List Stmt) (t : TS) : Prop :=
 ∀ (zB : List (Addr × Obj)) (s : Shared) (σ : St) (H : Hp) (D : Ends), Inv X zB σ H s -> t D σ H -> wpAny (model X.prog X.w) X.A (execs st X.env) (SP X zB D) X.xe s
theorem thn {α : Type} {t : Sem α} {Q Q' : α -> Shared -> Prop} {M : Model} {A : Around} {E : Value -> Shared -> Prop} {s : Shared} (h : wpAny M A t Q E s) (hQ : ∀ a s, Q a s -> Q' a s) : wpAny M A t Q' E s := zTK h hQ fun _ _ x => x
section
variable {X : Cx}
def zQF (i : Nat) : TE := fun σ H Q => ∃ v, σ[i]? = some (some v) /\ Q v H
def tC (v : V) : TE := fun _ H Q => Q v H
theorem zQd {i : Nat} {x : Str} {pos : Pos} (hN : X.N[i]? = some x) (hv : Vis X.env.scope x) (hd : (x == ("__debug__" : Str)) = false := by decide) (hcd : (x == ("__classdict__" : Str)) = false := by decide) : PE X (.Name x pos) (zQF i) := by
 intro zB s σ H Q I h;obtain ⟨v, e, h⟩ := h;obtain ⟨m, hn, hl⟩ := I.loc;obtain ⟨u, r, l⟩ := hl i x v hN e hv;have fin : EP X zB σ Q u s := ⟨v, H, I, r, h⟩;rcases l with ⟨hk, hm⟩ | ⟨hk, c, hc, hcell⟩
 ·exact wpAny_Name (wpAny_loadName_local I.ok.kind hk hn hm fin) hd
 ·rcases hk with hk | hk
  ·exact wpAny_Name (wpAny_loadName_cell I.ok.kind hk hc hcell fin) hd
  ·exact wpAny_Name (wpAny_loadName_free I.ok.kind hk hc hcell fin hcd) hd
theorem zQB {i j pos} : PE X (.Constant (.int i) j pos) (tC (.int i)) := fun _ _ _ H _ I h => wpAny_Constant_int ⟨.int i, H, I.tok _, ⟨_, rfl⟩, h⟩
theorem zSL {b j pos} : PE X (.Constant (.bool b) j pos) (tC (.bl b)) := fun _ _ _ H _ I h => Constant_bool ⟨.bl b, H, I, rfl, h⟩
theorem zQE {j pos} : PE X (.Constant .none j pos) (tC .non) := fun _ _ _ H _ I h => Constant_none ⟨.non, H, I, rfl, h⟩
def Gl (X : Cx) (x : Str) : Prop := X.env.kindOf x = some .globalImplicit
theorem zPC {E : Value -> Shared -> Prop} {zB : List (Addr × Obj)} {s : Shared} {σ : St} {H : Hp} {x : Str} {u : Value} {pos : Pos} {Q : Value -> Shared -> Prop} (I : Inv X zB σ H s) (hg : Gl X x) (hm : X.mg x = some u) (h : Q u s)
  (hd : (x == ("__debug__" : Str)) = false := by decide) : wpAny (model X.prog X.w) X.A (eval (.Name x pos) X.env) Q E s :=
 Calls.Name_function_global I.ok.kind hg (Calls.loadGlobal_global (by rw [I.ok.glob]; exact I.mod.glob.keeps I.bk) hm h) hd
theorem zEw {E : Value -> Shared -> Prop} {zB : List (Addr × Obj)} {s : Shared} {σ : St} {H : Hp} {x : Str} {u : Value} {pos : Pos} {Q : Value -> Shared -> Prop} (I : Inv X zB σ H s) (hg : Gl X x) (hm : X.mg x = none) (hv : bootBuiltins x = some u) (h : Q u s)
  (hn : x ≠ "__name__" := by decide) (hd : (x == ("__debug__" : Str)) = false := by decide) : wpAny (model X.prog X.w) X.A (eval (.Name x pos) X.env) Q E s := by
 obtain ⟨mb, h1, h2⟩ := I.mod.blt;exact Calls.Name_function_global I.ok.kind hg (Calls.loadGlobal_builtin (by rw [I.ok.glob]; exact I.mod.glob.keeps I.bk) hm (by rw [I.ok.blt]; exact h1.keeps I.bk) ((h2 x hn).trans hv) h) hd
theorem zO5 {x : Str} {v : V} {u : Value} {pos : Pos} (hg : Gl X x) (hm : X.mg x = none) (hv : bootBuiltins x = some u) (r : zy v u) (hn : x ≠ "__name__" := by decide) (hd : (x == ("__debug__" : Str)) = false := by decide) : PE X (.Name x pos) (tC v) :=
 fun _ _ _ H _ I h => zEw I hg hm hv ⟨v, H, I, r, h⟩ hn hd
variable {a b : Expr} {ta tb : TE} {pos : Pos}
def PC (X : Cx) (op : CmpOp) (a b : Expr) (t : TE) : Prop :=
 ∀ (zB : List (Addr × Obj)) (s : Shared) (σ : St) (H : Hp) (Q : VK), Inv X zB σ H s -> t σ H Q ->
  wpAny (model X.prog X.w) X.A (eval a X.env) (fun v s₁ => wpAny (model X.prog X.w) X.A (eval b X.env) (fun u s₂ => wpAny (model X.prog X.w) X.A (compareOp op v u) (EP X zB σ Q) X.xe s₂) X.xe s₁) X.xe s
def tB (t : TE) : TT := fun σ H Q => t σ H fun x H1 => ∃ c, x = .bl c /\ Q c H1
theorem zQN {op : CmpOp} {t : TE} (h : PC X op a b t) (h1 : behindInMarks op b = false := by first | exact nobehind _ (by decide) (by decide) | rfl) : PT X (.Compare a [op] [b] pos) (tB t) := by
 intro zB s σ H Q I hw;refine wpAny_isTrue_Compare1 (thn (h zB s σ H _ I hw) fun v s1 h1 => thn h1 fun u s2 h2 => thn h2 fun c s3 ⟨x, H1, I1, r1, q1⟩ => ?_) h1;obtain ⟨d, rfl, q⟩ := q1;cases r1;exact wpAny_truthy_bool ⟨H1, I1, q⟩
theorem zRG {e : Expr} {t : TE} (h : PE X e t) (he : ∀ whole, isTrue e X.env whole = (do let v <- whole; standAt e.pos; holding [v] (truthy v)) := by intro _; rfl) : PT X e (tB t) := by
 intro zB s σ H Q I hw;refine isTrue_plain (thn (h zB s σ H _ I hw) fun v s1 ⟨x, H1, I1, r1, q1⟩ => ?_) (he _);obtain ⟨d, rfl, q⟩ := q1;cases r1;exact wpAny_truthy_bool ⟨H1, I1, q⟩
variable {tA tB' : TT} {rest : List Expr}
def zSP (t u : TT) : TT := fun σ H Q => t σ H fun c H1 => if c = true then u σ H1 Q else Q false H1
def tOr (t u : TT) : TT := fun σ H Q => t σ H fun c H1 => if c = true then Q true H1 else u σ H1 Q
def zSV (t : TT) : TT := fun σ H Q => t σ H fun c H1 => Q (!c) H1
theorem zPU (ha : PT X a tA) : PW X (.BoolOp .And [a] pos) tA := by
 intro wh zB s σ H Q I h;refine isTrue_and (thn (ha zB s σ H Q I h) fun c s1 e => ?_);cases c with
 | true => exact isTrue_and_nil e
 | false => exact e
theorem zQ4 (ha : PT X a tA) : PW X (.BoolOp .Or [a] pos) tA := by
 intro wh zB s σ H Q I h;refine isTrue_or (thn (ha zB s σ H Q I h) fun c s1 e => ?_);cases c with
 | false => exact isTrue_or_nil e
 | true => exact e
theorem zQJ (ha : PT X a tA) (hb : PW X (.BoolOp .And (b :: rest) pos) tB') : PW X (.BoolOp .And (a :: b :: rest) pos) (zSP tA tB') := by
 intro wh zB s σ H Q I h;refine isTrue_and (thn (ha zB s σ H _ I h) fun c s1 ⟨H1, I1, q1⟩ => ?_);cases c with
 | true => exact hb wh zB s1 σ H1 Q I1 q1
 | false => exact ⟨H1, I1, q1⟩
theorem zRq (ha : PT X a tA) (hb : PW X (.BoolOp .Or (b :: rest) pos) tB') : PW X (.BoolOp .Or (a :: b :: rest) pos) (tOr tA tB') := by
 intro wh zB s σ H Q I h;refine isTrue_or (thn (ha zB s σ H _ I h) fun c s1 ⟨H1, I1, q1⟩ => ?_);cases c with
 | true => exact ⟨H1, I1, q1⟩
 | false => exact hb wh zB s1 σ H1 Q I1 q1
theorem zQW (ha : PT X a tA) : PT X (.UnaryOp .Not a pos) (zSV tA) := by
 intro zB s σ H Q I h;exact isTrue_not (ha zB s σ H (fun c H1 => Q (!c) H1) I h)
def zRT (ta tb : TE) : TE := fun σ H Q => ta σ H fun x H1 => ∃ c, x = .bl c /\ if c = true then tb σ H1 Q else Q (.bl false) H1
def zRm (ta : TE) : TE := fun σ H Q => ta σ H fun x H1 => ∃ c, x = .bl c /\ Q (.bl (!c)) H1
theorem zQz {op} {t : TE} (h : PE X a t) : PE X (.BoolOp op [a] pos) t := fun zB s σ H Q I hw => BoolOp_one (h zB s σ H Q I hw)
theorem zQp (ha : PE X a ta) (hb : PE X (.BoolOp .And (b :: rest) pos) tb) : PE X (.BoolOp .And (a :: b :: rest) pos) (zRT ta tb) := by
 intro zB s σ H Q I h;refine BoolOp_and (thn (ha zB s σ H _ I h) fun v s1 ⟨x, H1, I1, r1, q1⟩ => ?_);obtain ⟨c, rfl, q1⟩ := q1;cases r1;refine wpAny_truthy_bool ?_;cases c with
 | true => exact hb zB s1 σ H1 Q I1 q1
 | false => exact ⟨.bl false, H1, I1, rfl, q1⟩
theorem zQu (ha : PE X a ta) : PE X (.UnaryOp .Not a pos) (zRm ta) := by
 intro zB s σ H Q I h;refine UnaryOp_ (thn (ha zB s σ H _ I h) fun v s1 ⟨x, H1, I1, r1, q1⟩ => ?_);obtain ⟨c, rfl, q1⟩ := q1;cases r1;exact not_of (wpAny_truthy_bool ⟨.bl (!c), H1, I1, rfl, q1⟩)
end
def SqL (K : PySem.W.Frag) (H : Hp) (a : Addr) (xs : List V) : Prop :=
 Rd H a (.lst xs) \/
  ∃ (o : Obj) (its : Array Value) (n : Nat), K.lookup a = some o /\ o.cls = .type "list" /\ o.dict = none /\ o.data = .seq its n /\ its.size <= sizeLine /\ zk xs its.toList
def SqT (K : PySem.W.Frag) (H : Hp) (a : Addr) (xs : List V) : Prop :=
 Rd H a (.tup xs) \/
  ∃ (o : Obj) (its : Array Value) (n : Nat), K.lookup a = some o /\ o.cls = .type "tuple" /\ o.data = .seq its n /\ its.size <= sizeLine /\ zk xs its.toList
def zSX : Value -> Option V
 | .none => some .non
 | .bool b => some (.bl b)
 | .int i _ => some (.int i)
 | .str x _ => some (.str x)
 | .bytes b _ => some (.byt b)
 | .float b _ => some (.flt b)
 | .ref a => some (.ref a)
 | .type n => some (.ty n)
 | _ => none
theorem zy.abs {x : V} {u : Value} (r : zy x u) : zSX u = some x := by
 cases x with
 | non => cases r; rfl
 | bl _ => cases r; rfl
 | int _ => obtain ⟨t, rfl⟩ := r; rfl
 | str _ => obtain ⟨t, rfl⟩ := r; rfl
 | byt _ => obtain ⟨t, rfl⟩ := r; rfl
 | flt _ => obtain ⟨t, rfl⟩ := r; rfl
 | ref _ => cases r; rfl
 | ty _ => cases r; rfl
theorem zy.inj {x y : V} {u : Value} (r : zy x u) (q : zy y u) : x = y := zTo (r.abs.symm.trans q.abs)
theorem zk.inj : ∀ {xs ys : List V} {us : List Value}, zk xs us -> zk ys us -> xs = ys
 | _, _, _, .nil, .nil => rfl
 | _, _, _, .cons r t, .cons r' t' => by rw [r.inj r', zk.inj t t']
section
variable {X : Cx} {zB : List (Addr × Obj)} {σ : St} {H : Hp} {s : Shared} {a : Addr} {xs ys : List V}
theorem SqL.of {K : PySem.W.Frag} (h : H a = some (.lst xs)) : SqL K H a xs := .inl (.inl h)
theorem SqT.of {K : PySem.W.Frag} (h : H a = some (.tup xs)) : SqT K H a xs := .inl (.inl h)
theorem Inv.list (I : Inv X zB σ H s) (h : SqL X.K H a xs) : ∃ its : List Value, zk xs its /\ PlainL s.heap a its.toArray /\ xs.length <= sizeLine := by
 rcases h with h | ⟨o, its, n, hk, hc, hd, hs, hz, r⟩
 ·obtain ⟨z, its, n, r, e⟩ := h.ok I.hok;exact ⟨its, r, ⟨_, n, e, rfl, rfl, rfl⟩, z⟩
 ·refine ⟨its.toList, r, ⟨o, n, I.kIn a o hk, hc, hd, by simpa using hs⟩, ?_⟩;have e := r.length;simp only [zTX] at e;omega
theorem Inv.tuple (I : Inv X zB σ H s) (h : SqT X.K H a xs) : ∃ its : List Value, zk xs its /\ IsTup s.heap a its.toArray /\ xs.length <= sizeLine := by
 rcases h with h | ⟨o, its, n, hk, hc, hs, hz, r⟩
 ·obtain ⟨z, its, r, p⟩ := h.ok I.hok;exact ⟨its, r, p.tup, z⟩
 ·refine ⟨its.toList, r, ⟨o, I.kIn a o hk, hc, n, by simpa using hs⟩, ?_⟩;have e := r.length;simp only [zTX] at e;omega
theorem Inv.list_inj (I : Inv X zB σ H s) (h : SqL X.K H a xs) (h' : SqL X.K H a ys) : xs = ys := by
 obtain ⟨its, r, ⟨o, n, e, _, _, d⟩, _⟩ := I.list h;obtain ⟨its', r', ⟨o', n', e', _, _, d'⟩, _⟩ := I.list h';rw [e] at e'; cases e';rw [d] at d';injection d' with d1 _
 have : its = its' := by simpa using congrArg Array.toList d1
 subst this;exact r.inj r'
theorem Inv.tuple_inj (I : Inv X zB σ H s) (h : SqT X.K H a xs) (h' : SqT X.K H a ys) : xs = ys := by
 obtain ⟨its, r, ⟨o, e, _, n, d⟩, _⟩ := I.tuple h;obtain ⟨its', r', ⟨o', e', _, n', d'⟩, _⟩ := I.tuple h';rw [e] at e'; cases e';rw [d] at d';injection d' with d1 _
 have : its = its' := by simpa using congrArg Array.toList d1
 subst this;exact r.inj r'
end
abbrev Cx.wish (X : Cx) (E : Value -> Shared -> Prop) : Cx := { X with xe := E }
abbrev Cx.nox (X : Cx) : Cx := X.wish fun _ _ => False
theorem Cx.Ok.wish {X : Cx} (ok : X.Ok) (E : Value -> Shared -> Prop) : (X.wish E).Ok :=
 ⟨ok.mod, ok.kind, ok.glob, ok.blt, ok.above, ok.inj, ok.has, ok.cab, ok.hd, ok.frames, ok.stk, ok.exf, ok.bs, ok.bsz, ok.noex, ok.exfs, ok.funs, ok.frf⟩
theorem Cx.Ok.unwish {X : Cx} {E : Value -> Shared -> Prop} (ok : (X.wish E).Ok) : X.Ok :=
 ⟨ok.mod, ok.kind, ok.glob, ok.blt, ok.above, ok.inj, ok.has, ok.cab, ok.hd, ok.frames, ok.stk, ok.exf, ok.bs, ok.bsz, ok.noex, ok.exfs, ok.funs, ok.frf⟩
section
variable {X : Cx} {zB : List (Addr × Obj)} {σ : St} {H : Hp} {s : Shared} {E : Value -> Shared -> Prop}
theorem Inv.wish (I : Inv X zB σ H s) (E : Value -> Shared -> Prop) : Inv (X.wish E) zB σ H s := ⟨I.ok.wish E, I.os, I.bare, I.base, I.loc, I.cell, I.free, I.freeC, I.pin, I.hok, I.len⟩
theorem Inv.unwish (I : Inv (X.wish E) zB σ H s) : Inv X zB σ H s := ⟨I.ok.unwish, I.os, I.bare, I.base, I.loc, I.cell, I.free, I.freeC, I.pin, I.hok, I.len⟩
theorem SP.unwish {D : Ends} {f : Flow} {s' : Shared} (h : SP (X.wish E) zB D f s') : SP X zB D f s' := by
 cases f with
 | next => obtain ⟨σ', H', I, q⟩ := h; exact ⟨σ', H', I.unwish, q⟩
 | brk => obtain ⟨σ', H', I, q⟩ := h; exact ⟨σ', H', I.unwish, q⟩
 | cont => obtain ⟨σ', H', I, q⟩ := h; exact ⟨σ', H', I.unwish, q⟩
 | ret u => obtain ⟨v, σ', H', I, r, q⟩ := h; exact ⟨v, σ', H', I.unwish, r, q⟩
theorem PSs.nox {st : List Stmt} {t : TS} (h : PSs X.nox st t) : PSs X st t := fun zB s σ H D I hw =>
 zTK (h zB s σ H D (I.wish _) hw) (fun _ _ q => q.unwish) fun _ _ z => False.elim z
end
section
variable {X : Cx} {st : Stmt} {rest : List Stmt} {t u : TS} {e : Expr} {te : TE} {pos : Pos}
def zSN : TS := fun D σ H => D.nx σ H
def zSO (t u : TS) : TS := fun D σ H => t { D with nx := u D } σ H
theorem zOY : PSs X [] zSN := fun _ _ σ H _ I h => wpAny_execs_nil ⟨σ, H, I, h⟩
theorem zMz (h1 : PS X st t) (h2 : PSs X rest u) : PSs X (st :: rest) (zSO t u) := by
 intro zB s σ H D I h;refine wpAny_execs_cons (thn (h1 zB s σ H { D with nx := u D } I h) fun f s1 q => ?_);cases f with
 | next =>
  obtain ⟨σ', H', I', q⟩ := q;exact h2 zB s1 σ' H' D I' q
 | ret v => exact q
 | brk => exact q
 | cont => exact q
theorem zPA (h1 : PS X st t) : PSs X [st] t := by
 intro zB s σ H D I h;refine wpAny_execs_cons (thn (h1 zB s σ H D I h) fun f s1 q => ?_);cases f with
 | next => exact wpAny_execs_nil q
 | ret v => exact q
 | brk => exact q
 | cont => exact q
theorem Inv.quiet {zB : List (Addr × Obj)} {σ : St} {H : Hp} {s : Shared} (I : Inv X zB σ H s) : interactive X.env = false := by simp [interactive, I.ok.kind]
def zR5 (te : TE) : TS := fun D σ H => te σ H fun _ H1 => D.nx σ H1
theorem zPo (he : PE X e te) (hs : swapsWith e none pos.line X.env = pure false := by rfl) : PS X (.Expr e pos) (zR5 te) := by
 intro zB s σ H D I h;exact wpAny_Expr_any (thn (he zB s σ H _ I h) fun v s1 ⟨x, H1, I1, r1, q1⟩ => ⟨σ, H1, I1, q1⟩) I.quiet hs
def zSZ (te : TE) : TS := fun D σ H => te σ H D.rt
theorem zQU (he : PE X e te) : PS X (.Return (some e) pos) (zSZ te) := by
 intro zB s σ H D I h;exact wpAny_Return_some (thn (he zB s σ H _ I h) fun v s1 ⟨x, H1, I1, r1, q1⟩ => ⟨x, σ, H1, I1, r1, q1⟩)
def zSS (c : TT) (t u : TS) : TS := fun D σ H => c σ H fun b H1 => if b = true then t D σ H1 else u D σ H1
theorem zSD {c : Expr} {a b : List Stmt} {tc : TT} (hc : PT X c tc) (ha : PSs X a t) (hb : PSs X b u) : PS X (.If c a b pos) (zSS tc t u) := by
 intro zB s σ H D I h;refine wpAny_If (thn (hc zB s σ H _ I h) fun d s1 ⟨H1, I1, q1⟩ => ?_);cases d with
 | true => exact ha zB s1 σ H1 D I1 q1
 | false => exact hb zB s1 σ H1 D I1 q1
end
abbrev TG := V -> St -> Hp -> (St -> Hp -> Prop) -> Prop
abbrev TGs := List V -> St -> Hp -> (St -> Hp -> Prop) -> Prop
def PG (X : Cx) (target : Expr) (t : TG) : Prop :=
 ∀ (zB : List (Addr × Obj)) (s : Shared) (σ : St) (H : Hp) (v : V) (u : Value) (Q : St -> Hp -> Prop), Inv X zB σ H s -> zy v u -> t v σ H Q ->
  wpAny (model X.prog X.w) X.A (assign target X.env u) (fun _ s' => ∃ σ' H', Inv X zB σ' H' s' /\ Q σ' H') X.xe s
def PGs (X : Cx) (ts : List Expr) (t : TGs) : Prop :=
 ∀ (zB : List (Addr × Obj)) (s : Shared) (σ : St) (H : Hp) (vs : List V) (us : List Value) (Q : St -> Hp -> Prop), Inv X zB σ H s -> zk vs us -> t vs σ H Q ->
  wpAny (model X.prog X.w) X.A (assignInOrder ((assignEach ts X.env).map (·.2)) us) (fun _ s' => ∃ σ' H', Inv X zB σ' H' s' /\ Q σ' H') X.xe s
abbrev zQV := V -> V -> V -> Hp -> (Hp -> Prop) -> Prop
def zRp (X : Cx) (t : zQV) : Prop :=
 ∀ (zB : List (Addr × Obj)) (s : Shared) (σ : St) (H : Hp) (o i v : V) (ov iv u : Value) (Q : Hp -> Prop), Inv X zB σ H s -> zy o ov -> zy i iv -> zy v u -> t o i v H Q ->
  wpAny (model X.prog X.w) X.A (setItem ov iv u) (fun _ s' => ∃ H', Inv X zB σ H' s' /\ Q H') X.xe s
section
variable {X : Cx} {pos : Pos}
def zDM (i : Nat) : TG := fun v σ H Q => Q (σ.set i (some v)) H
theorem zIW {i : Nat} {x : Str} (hN : X.N.Nodup) (hi : X.N[i]? = some x) (hx : Loc X.env.scope x) (hf : X.fn x = true \/ X.env.scope.names.lookup x = some .local := by first | exact .inl rfl | exact .inr rfl | assumption) : PG X (.Name x pos) (zDM i) := by
 intro zB s σ H v u Q I r h;exact wpAny_assign_Name (zIs I hN hi hx r (fun s' I' => ⟨_, H, I', h⟩) hf)
def zRk : TGs := fun vs σ H Q => vs = [] /\ Q σ H
def zMf (t : TG) (u : TGs) : TGs := fun vs σ H Q => ∃ v r, vs = v :: r /\ t v σ H fun σ' H' => u r σ' H' Q
theorem zKy : PGs X [] zRk := by
 intro zB s σ H vs us Q I r h;obtain ⟨e, h⟩ := h;subst e;cases r;exact assignInOrder_nil ⟨σ, H, I, h⟩
theorem zEa {e : Expr} {es : List Expr} {t : TG} {u : TGs} (h1 : PG X e t) (h2 : PGs X es u)
  (hs : (assignEach (e :: es) X.env).map (·.2) = assign e X.env :: (assignEach es X.env).map (·.2) := by rfl) : PGs X (e :: es) (zMf t u) := by
 intro zB s σ H vs us Q I r h;obtain ⟨v, vr, e1, h⟩ := h;subst e1;cases r with
 | cons r rr =>
  rw [hs];refine assignInOrder_cons (thn (h1 zB s σ H _ _ _ I r h) fun _ s1 ⟨σ1, H1, I1, q1⟩ => ?_);exact h2 zB s1 σ1 H1 _ _ Q I1 rr q1
def zRR (K : PySem.W.Frag) (n : Nat) (t : TGs) : TG := fun v σ H Q => ∃ a xs, v = .ref a /\ SqT K H a xs /\ xs.length = n /\ t xs σ H Q
theorem zOD {es : List Expr} {k : Nat} {t : TGs} {n : Nat} (hc : X.calm = true) (h : PGs X es t)
  (hn : (assignEach es X.env).length = n := by rfl) (hst : (assignEach es X.env).findIdx? (·.1) = none := by rfl) : PG X (.Tuple es k pos) (zRR X.K n t) := by
 intro zB s σ H v u Q I r hw;obtain ⟨a, xs, e1, hq, hl, hw⟩ := hw;subst e1;cases r;obtain ⟨its, rv, ht, hz⟩ := I.tuple hq;refine assign_Tuple_tuple (I.ok.hd hc) ht (by simp [hn, <- hl, rv.length]) hst fun h' hx => ?_;have I1 : Inv X zB σ H { s with heap := h' } := I.kept (t' := s.toks) fun b o e => hx b o (zS9 (zSz e)) e;exact h zB _ σ H xs _ Q I1 (by simpa using rv) hw
def zSb (to ti : TE) (t : zQV) : TG := fun v σ H Q => to σ H fun o H1 => ti σ H1 fun i H2 => t o i v H2 fun H3 => Q σ H3
theorem zRA {o i : Expr} {to ti : TE} {t : zQV} (ho : PE X o to) (hi : PE X i ti) (hs : zRp X t)
  (ha : ∀ v, assign (.Subscript o i pos) X.env v = (do
   let ov <- holding [v] (eval o X.env);let iv <- holding [v, ov] (eval i X.env);standAt pos;holding [v, ov, iv] (setItem ov iv v);release [v, ov, iv] []) := by intro _; rfl) : PG X (.Subscript o i pos) (zSb to ti t) := by
 intro zB s σ H v u Q I r h;rw [ha];refine zSo (zTh (thn (ho zB s σ H _ I h) fun ov s1 ⟨x, H1, I1, r1, q1⟩ => ?_));refine zSo (zTh (thn (hi zB s1 σ H1 _ I1 q1) fun iv s2 ⟨y, H2, I2, r2, q2⟩ => ?_));refine zSo (zTm (zSo (zTh (thn (hs zB s2 σ H2 x y v ov iv u _ I2 r1 r2 r q2) fun _ s3 ⟨H3, I3, q3⟩ => ?_))));exact wpAny_release ⟨σ, H3, I3, q3⟩
def zMd (te : TE) (g : TG) : TS := fun D σ H => te σ H fun x H1 => g x σ H1 D.nx
theorem zMr {tg e : Expr} {te : TE} {g : TG} (he : PE X e te) (hg : PG X tg g) (hs : swapsWithSole [tg] e pos.line X.env = pure false := by rfl) (hw : swappedStores [tg] e X.env = pure none := by rfl)
  (h1 : (assignEach [tg] X.env).map (·.2) = [assign tg X.env] := by rfl) : PS X (.Assign [tg] e pos) (zMd te g) := by
 intro zB s σ H D I h;refine wpAny_Assign_stores (thn (he zB s σ H _ I h) fun v s1 ⟨x, H1, I1, r1, q1⟩ => ?_) hs hw;rw [h1];exact thn (hg zB s1 σ H1 x v _ I1 r1 q1) fun _ s2 q => q
theorem zQs {i : Nat} {x : Str} {e : Expr} {te : TE} {pos' : Pos} (hN : X.N.Nodup) (hi : X.N[i]? = some x) (hx : Loc X.env.scope x) (he : PE X e te) (hs : swapsWith e (some (.Name x pos')) pos.line X.env = pure false := by rfl) (hf : X.fn x = true \/ X.env.scope.names.lookup x = some .local := by first | exact .inl rfl | exact .inr rfl | assumption) :
  PS X (.Assign [.Name x pos'] e pos) (zMd te (zDM i)) := by
 intro zB s σ H D I h;refine wpAny_Assign_Name (thn (he zB s σ H _ I h) fun v s1 ⟨y, H1, I1, r1, q1⟩ => ?_) hs;exact zIs I1 hN hi hx r1 (fun s2 I2 => ⟨_, H1, I2, q1⟩) hf
def zOE (c : TT) (tb : TS) : TS := fun D σ H => ∃ W : Nat -> St -> Hp -> Prop, (∃ m, W m σ H) /\ ∀ m σ H, W m σ H ->
 c σ H fun b H1 => if b = true then ∃ N : St -> Hp -> Prop, (∀ σ' H', N σ' H' -> ∃ m', m' < m /\ W m' σ' H') /\ tb { D with nx := N, ct := N, bk := D.nx } σ H1 else D.nx σ H1
theorem zN8 {c : Expr} {body : List Stmt} {tc : TT} {tb : TS} (hp : PassesOwn (model X.prog X.w) X.A X.env X.xe) (hc : PT X c tc) (hb : PSs X body tb) : PS X (.While c body [] pos) (zOE tc tb) := by
 intro zB s σ H D I h;obtain ⟨W, ⟨m0, w0⟩, turn⟩ := h;refine wpAny_While (codeAny_whileLoop (fun n s' => ∃ σ' H', Inv X zB σ' H' s' /\ W n σ' H') ?_ m0 ⟨σ, H, I, w0⟩);rintro n s1 ⟨σ1, H1, I1, w1⟩;refine wpAny_passesOwn hp (thn (hc zB s1 σ1 H1 _ I1 (turn n σ1 H1 w1)) fun b s2 ⟨H2, I2, q2⟩ => ?_);cases b with
 | true =>
  obtain ⟨N, hN, q2⟩ := q2;rw [zS3 rfl];refine wpAny_passesOwn hp (thn (hb zB s2 σ1 H2 _ I2 q2) fun f s3 q3 => ?_);cases f with
  | next =>
   obtain ⟨σ3, H3, I3, n3⟩ := q3;obtain ⟨m', hm, w3⟩ := hN σ3 H3 n3;exact ⟨m', hm, σ3, H3, I3, w3⟩
  | cont =>
   obtain ⟨σ3, H3, I3, n3⟩ := q3;obtain ⟨m', hm, w3⟩ := hN σ3 H3 n3;exact ⟨m', hm, σ3, H3, I3, w3⟩
  | brk => exact q3
  | ret v => exact q3
 | false =>
  rw [zS6 zTA];exact wpAny_execs_nil ⟨σ1, H2, I2, q2⟩
end
structure It where
 go : Nat -> Hp -> Prop
 yld : Nat -> Hp -> V -> Hp -> Prop
 stop : Nat -> Hp -> Prop
def zCP (X : Cx) (zB : List (Addr × Obj)) (H : Hp) (b : Addr) : Prop :=
 H b = none /\ b ≠ X.env.locals /\ b ∉ X.fs /\ (b ∈ X.ex \/ X.s₀.heap.objs.size <= b) /\ (∀ x c, X.env.cells.lookup x = some c -> c ≠ b) /\ ∀ p ∈ X.pn ++ zB, p.1 ≠ b
theorem Inv.fpOk {X : Cx} {zB : List (Addr × Obj)} {σ : St} {H H' : Hp} {s : Shared} {b : Addr} (I : Inv X zB σ H s) (hb : s.heap.objs.size <= b) (hn : H' b = none) : zCP X zB H' b := by
 refine ⟨hn, Nat.ne_of_gt (zTD I.lt hb), I.nofs hb, .inr (zTF I.sz hb), fun x c e z => ?_, fun p hp z => ?_⟩
 ·obtain ⟨v, q⟩ := I.cell x c e;exact absurd (zTD q.lt (by rw [z]; exact hb)) (zTW _)
 ·exact absurd (zTD (zSz (I.pin p hp).1) (by rw [z]; exact hb)) (zTW _)
structure Turn (P : Program) (w : World) (K : PySem.W.Frag) (tg : Expr) (J : It) (fp : List Addr) (it : Addr) (tn : Nat -> Heap -> Prop) : Prop where
 mem : it ∈ fp
 obj : ∀ i h, tn i h -> ∀ b ∈ fp, ∃ o, h.get? b = some o /\ ∀ v, o.data ≠ .cell v
 keep : ∀ i h h', tn i h -> (∀ b ∈ fp, ∀ o, h.get? b = some o -> h'.get? b = some o) -> tn i h'
 item : ∀ (X : Cx), X.prog = P -> X.w = w -> X.K = K -> X.calm = true -> ∀ (i : Nat) (zB : List (Addr × Obj)) (s : Shared) (σ : St) (H : Hp) (E : Value -> Shared -> Prop), Inv X zB σ H s -> (∀ b ∈ fp, zCP X zB H b) -> tn i s.heap -> J.go i H ->
  wpAny (model P w) X.A (pyNext (.ref it)) (fun r s1 => ∃ u, r = some u /\
   wpAny (model P w) X.A (letOwnedTupleGo tg (.ref it) u) (fun _ s2 => ∃ x H', Inv X zB σ H' s2 /\ zy x u /\ J.yld i H x H' /\ tn (i + 1) s2.heap /\ ∀ b ∈ fp, H' b = none) E s1) E s
 done : ∀ (X : Cx), X.prog = P -> X.w = w -> X.K = K -> X.calm = true -> ∀ (i : Nat) (zB : List (Addr × Obj)) (s : Shared) (σ : St) (H : Hp) (E : Value -> Shared -> Prop), Inv X zB σ H s -> (∀ b ∈ fp, zCP X zB H b) -> tn i s.heap -> J.stop i H ->
  wpAny (model P w) X.A (pyNext (.ref it)) (fun r s1 => r = none /\ Inv X zB σ H s1) E s
 self : ∀ (A : Around) (i : Nat) (s : Shared) (Q : Value -> Shared -> Prop) (E : Value -> Shared -> Prop), tn i s.heap -> Q (.ref it) s -> wpAny (model P w) A (pyIter (.ref it)) Q E s
abbrev TI := St -> Hp -> (It -> Hp -> Prop) -> Prop
def PIE (X : Cx) (zB : List (Addr × Obj)) (σ : St) (tg : Expr) (R : It -> Hp -> Prop) (itv : Value) (s2 : Shared) : Prop :=
 ∃ (it : Addr) (fp : List Addr) (tn : Nat -> Heap -> Prop) (J : It) (H' : Hp), itv = .ref it /\ Inv X zB σ H' s2 /\ Turn X.prog X.w X.K tg J fp it tn /\ tn 0 s2.heap /\ (∀ b ∈ fp, zCP X zB H' b) /\ R J H'
def PI (X : Cx) (tg iter : Expr) (wi : TI) : Prop :=
  ∀ (zB : List (Addr × Obj)) (s : Shared) (σ : St) (H : Hp) (R : It -> Hp -> Prop), Inv X zB σ H s -> wi σ H R ->
    wpAny (model X.prog X.w) X.A (eval iter X.env) (fun v s1 => wpAny (model X.prog X.w) X.A (pyIter v) (PIE X zB σ tg R) X.xe s1) X.xe s
theorem zNN {M : Model} {A : Around} {E : Value -> Shared -> Prop} {s : Shared} {tg : Expr} {it : Addr} {u : Value} {o : Obj} {n : String} {vs : Array Value} {Q : Unit -> Shared -> Prop} (ho : s.heap.get? it = some o) (hc : o.cls = .type n) (hd : o.data = .fields vs)
    (hn : ["enumerate", "zip", "dict_itemiterator", "dict_reverseitemiterator", "odict_iterator", "itertools.zip_longest", "itertools.pairwise"].contains n = false) (hQ : Q () s) : wpAny M A (letOwnedTupleGo tg (.ref it) u) Q E s := by
  unfold letOwnedTupleGo
  cases tg <;> first
    | exact zSq hQ
    | (cases u <;> first
        | exact zSq hQ
        | (refine zSo (wpAny_load ho ?_)
           rw [hc, hd];show wpAny M A (if (["enumerate", "zip", "dict_itemiterator", "dict_reverseitemiterator", "odict_iterator", "itertools.zip_longest", "itertools.pairwise"].contains n && vs[0]? == some (rawInt _)) = true then _ else _) Q E s;rw [zS6 (by intro h; rw [hn, Bool.false_and] at h; cases h)];exact zSq hQ))
def Itl (K : PySem.W.Frag) (a : Addr) : It :=
 ⟨fun i H => ∃ xs x, SqL K H a xs /\ xs[i]? = some x, fun i H x H' => H' = H /\ ∀ xs, SqL K H a xs -> xs[i]? = some x, fun i H => ∃ xs, SqL K H a xs /\ xs.length <= i⟩
def Itt (K : PySem.W.Frag) (a : Addr) : It :=
 ⟨fun i H => ∃ xs x, SqT K H a xs /\ xs[i]? = some x, fun i H x H' => H' = H /\ ∀ xs, SqT K H a xs -> xs[i]? = some x, fun i H => ∃ xs, SqT K H a xs /\ xs.length <= i⟩
def Itr (lo : Int) (n : Nat) : It := ⟨fun i _ => i < n, fun i H x H' => H' = H /\ x = .int (lo + i), fun i _ => n <= i⟩
theorem zLU {P : Program} {w : World} {K : PySem.W.Frag} {tg : Expr} (a it : Addr) : Turn P w K tg (Itl K a) [it] it (fun i h => h.IsListIter it a i) where
 mem := by simp
 obj := fun i h st b hb => by
  have e : b = it := by simpa using hb
  subst e;obtain ⟨o, e, c, d⟩ := st;exact ⟨o, e, fun v z => by rw [d] at z; cases z⟩
 keep := fun i h h' st k => st.at fun o e => k it (by simp) o e;item := by
  intro X hP hw hK hc i zB s σ H E I hf st hg;subst hP hw hK;obtain ⟨xs, x, hq, hx⟩ := hg;obtain ⟨its, rv, p, hz⟩ := I.list hq;obtain ⟨u, hu, ru⟩ := rv.get hx;obtain ⟨f0, f1, f2, f3, f4, f5⟩ := hf it (by simp);refine wpAny_pyNext_list_item st p.isList (x := u) (by simpa using hu) fun h' st' sb => ?_;have I1 : Inv X zB σ H { s with heap := h' } := I.turned (t' := s.toks) (fun b o hb e => (sb.2 b hb).trans e) f0 f1 f3 f4 f5;obtain ⟨o, e, c, d⟩ := id st';exact ⟨u, rfl, zNN (s := { s with heap := h' }) e c d (by decide) ⟨x, H, I1, ru, ⟨rfl, fun ys hy => by rw [I.list_inj hy hq]; exact hx⟩, st', fun b hb => (hf b hb).1⟩⟩
 done := by
  intro X hP hw hK hc i zB s σ H E I hf st hg;subst hP hw hK;obtain ⟨xs, hq, hx⟩ := hg;obtain ⟨its, rv, p, hz⟩ := I.list hq;obtain ⟨f0, f1, f2, f3, f4, f5⟩ := hf it (by simp);have hl := rv.length;exact wpAny_pyNext_list_end (I.ok.hd hc) st p.isList (by simp; omega) fun h' eb => ⟨rfl, I.turned (t' := s.toks) (fun b o hb e => eb b o hb e) f0 f1 f3 f4 f5⟩
 self := fun _ _ _ _ _ st h => wpAny_pyIter_listiter st h
theorem zJx {P : Program} {w : World} {K : PySem.W.Frag} {tg : Expr} (a it : Addr) : Turn P w K tg (Itt K a) [it] it (fun i h => h.IsTupleIter it a i) where
 mem := by simp
 obj := fun i h st b hb => by
  have e : b = it := by simpa using hb
  subst e;obtain ⟨o, e, c, d⟩ := st;exact ⟨o, e, fun v z => by rw [d] at z; cases z⟩
 keep := fun i h h' st k => st.at fun o e => k it (by simp) o e;item := by
  intro X hP hw hK hc i zB s σ H E I hf st hg;subst hP hw hK;obtain ⟨xs, x, hq, hx⟩ := hg;obtain ⟨its, rv, p, hz⟩ := I.tuple hq;obtain ⟨u, hu, ru⟩ := rv.get hx;obtain ⟨f0, f1, f2, f3, f4, f5⟩ := hf it (by simp);refine wpAny_pyNext_tuple_item st (show s.heap.IsTuple a its.toArray from p) (x := u) (by simpa using hu) fun h' st' sb => ?_;have I1 : Inv X zB σ H { s with heap := h' } := I.turned (t' := s.toks) (fun b o hb e => (sb.2 b hb).trans e) f0 f1 f3 f4 f5;obtain ⟨o, e, c, d⟩ := id st';exact ⟨u, rfl, zNN (s := { s with heap := h' }) e c d (by decide) ⟨x, H, I1, ru, ⟨rfl, fun ys hy => by rw [I.tuple_inj hy hq]; exact hx⟩, st', fun b hb => (hf b hb).1⟩⟩
 done := by
  intro X hP hw hK hc i zB s σ H E I hf st hg;subst hP hw hK;obtain ⟨xs, hq, hx⟩ := hg;obtain ⟨its, rv, p, hz⟩ := I.tuple hq;obtain ⟨f0, f1, f2, f3, f4, f5⟩ := hf it (by simp);have hl := rv.length;exact wpAny_pyNext_tuple_end (I.ok.hd hc) st (show s.heap.IsTuple a its.toArray from p) (by simp; omega) fun h' eb => ⟨rfl, I.turned (t' := s.toks) (fun b o hb e => eb b o hb e) f0 f1 f3 f4 f5⟩
 self := fun _ _ _ _ _ st h => wpAny_pyIter_tupleiter st h
theorem zJi {P : Program} {w : World} {K : PySem.W.Frag} {tg : Expr} (it : Addr) (lo : Int) (n : Nat) : Turn P w K tg (Itr lo n) [it] it (fun i h => IsRangeIter h it (lo + (i : Nat) * 1) ((n : Int) - (i : Nat)) 1) where
 mem := by simp
 obj := fun i h st b hb => by
  have e : b = it := by simpa using hb
  subst e;exact ⟨_, st, fun v z => by
   have z' : Data.fields _ = Data.cell v := z;cases z'⟩
 keep := fun i h h' st k => k it (by simp) _ st;item := by
  intro X hP hw hK hc i zB s σ H E I hf st hg;subst hP hw hK;obtain ⟨f0, f1, f2, f3, f4, f5⟩ := hf it (by simp);have W := Walks.range (prog := X.prog) (w := X.w) (I.ok.hd hc) it lo 1 n;refine W.item i s _ _ hg st fun v h' tk hv st' kk => ?_;obtain ⟨t, rfl⟩ := hv;have I1 : Inv X zB σ H { s with heap := h', toks := tk } := I.turned (fun b o hb e => kk b o (by simpa using hb) e) f0 f1 f3 f4 f5;refine ⟨_, rfl, zNN (s := { s with heap := h', toks := tk }) (n := "range_iterator") st' rfl rfl (by decide) ⟨.int (lo + i), H, I1, ⟨t, ?_⟩, ⟨rfl, rfl⟩, st', fun b hb => (hf b hb).1⟩⟩;rw [Int.mul_one]
 done := by
  intro X hP hw hK hc i zB s σ H E I hf st hg;subst hP hw hK;obtain ⟨f0, f1, f2, f3, f4, f5⟩ := hf it (by simp);exact wpAny_pyNext_range_end (I.ok.hd hc) st (by have : n <= i := hg; omega) fun h' eb => ⟨rfl, I.turned (t' := s.toks) (fun b o hb e => eb b o hb e) f0 f1 f3 f4 f5⟩
 self := fun _ _ _ _ _ st h => wpAny_pyIter_rangeiter st h
section
variable {X : Cx} {tg : Expr}
theorem zNM {zB : List (Addr × Obj)} {σ : St} {H : Hp} {s : Shared} {R : It -> Hp -> Prop} {E : Value -> Shared -> Prop} {lo hi : Int} {t u v : Tok} {tk : Nat} (I : Inv X zB σ H s) (h1 : -(2 ^ 62) <= lo) (h2 : lo < 2 ^ 62) (h3 : -(2 ^ 62) <= hi) (h4 : hi < 2 ^ 62)
  (q : R (Itr lo (hi - lo).toNat) H) : wpAny (model X.prog X.w) X.A (pyIter (.ref s.heap.objs.size)) (PIE X zB σ tg R) E { s with heap := s.heap.push { cls := .type "range", data := .fields #[.int lo t, .int hi u, .int 1 v] }, toks := tk } := by
 refine wpAny_pyIter_range (IsRange.new ..) (small_one h1 h2 h3 h4) ?_;have I1 : Inv X zB σ H { s with heap := s.heap.push { cls := .type "range", data := .fields #[.int lo t, .int hi u, .int 1 v] }, toks := tk } := I.kept fun b o e => zSp _ e
 refine ⟨(s.heap.push { cls := .type "range", data := .fields #[.int lo t, .int hi u, .int 1 v] }).objs.size, [(s.heap.push { cls := .type "range", data := .fields #[.int lo t, .int hi u, .int 1 v] }).objs.size], _, _, H, rfl,
  I1.kept (t' := tk) fun b o e => zSp _ e, zJi _ lo (hi - lo).toNat, ?_, fun b hb => ?_, q⟩
 ·have e1 : lo + ((0 : Nat) : Int) * 1 = lo := by simp
  have e2 : (((hi - lo).toNat : Nat) : Int) - ((0 : Nat) : Int) = Builtin.Range.rangeSize lo hi 1 := by rw [rangeSize_one]; split <;> omega
  show IsRangeIter _ _ (lo + ((0 : Nat) : Int) * 1) ((((hi - lo).toNat : Nat) : Int) - ((0 : Nat) : Int)) 1;rw [e1, e2];exact zSy _ rfl
 ·have e : b = (s.heap.push { cls := .type "range", data := .fields #[.int lo t, .int hi u, .int 1 v] }).objs.size := by simpa using hb
  subst e;exact I1.fpOk (zSu _) (I1.hok.fresh (zSu _))
def zSA (ta : TA) : TI := fun σ H R => ta σ H fun vs H1 => ∃ j : Int, vs = [.int j] /\ -(2 ^ 62) <= j /\ j < 2 ^ 62 /\ R (Itr 0 j.toNat) H1
theorem zMP {a : Expr} {ta : TA} {p pos : Pos} (hg : Gl X "range") (hm : X.mg "range" = none) (ha : PA X [a] ta) (hs : starEach [a] X.env = [(false, eval a X.env)] := by rfl) : PI X tg (.Call (.Name "range" p) [a] [] pos) (zSA ta) := by
 intro zB s σ H R I h;refine Call_ (zEw I hg hm boot_range (PyProof.Rows.callWith_type1 (thn (ha pos zB s σ H _ I h) fun us s1 ⟨vs, H1, I1, r1, q1⟩ => ?_) hs rfl));obtain ⟨j, e, q1, q2, q⟩ := q1;subst e;cases r1 with
 | cons r rr =>
  cases rr;obtain ⟨t, rfl⟩ := r;exact call_range_1 (zNM I1 (by omega) (by omega) q1 q2 (by simpa using q))
def zSI (wi : TI) (g : TG) (tb : TS) : TS := fun D σ H => wi σ H fun J H1 => ∃ W : Nat -> Nat -> St -> Hp -> Prop, (∃ m, W 0 m σ H1) /\ ∀ i m σ H, W i m σ H ->
 (J.stop i H /\ D.nx σ H) \/ (J.go i H /\ ∃ N : St -> Hp -> Prop, (∀ σ' H', N σ' H' -> ∃ m', m' < m /\ W (i + 1) m' σ' H') /\ ∀ x H', J.yld i H x H' -> g x σ H' fun σ2 H2 => tb { D with nx := N, ct := N, bk := D.nx } σ2 H2)
def zCn (fp : List Addr) (h : Heap) : List (Addr × Obj) := fp.filterMap fun b => (h.get? b).map fun o => (b, o)
theorem zAN {fp : List Addr} {h : Heap} {b : Addr} {o : Obj} (hb : b ∈ fp) (e : h.get? b = some o) : (b, o) ∈ zCn fp h := List.mem_filterMap.mpr ⟨b, hb, by rw [e]; rfl⟩
theorem zHc {fp : List Addr} {h : Heap} {p : Addr × Obj} (hp : p ∈ zCn fp h) : p.1 ∈ fp /\ h.get? p.1 = some p.2 := by
 obtain ⟨b, hb, e⟩ := List.mem_filterMap.mp hp;cases q : h.get? b with
 | none => rw [q] at e; cases e
 | some o =>
  rw [q] at e;have e' : (b, o) = p := zTo e;subst e';exact ⟨hb, q⟩
theorem Inv.pinned {zB : List (Addr × Obj)} {σ : St} {H : Hp} {s : Shared} {fp : List Addr} (I : Inv X zB σ H s) (hf : ∀ b ∈ fp, zCP X zB H b) (ho : ∀ b ∈ fp, ∃ o, s.heap.get? b = some o /\ ∀ v, o.data ≠ .cell v) : Inv X (zB ++ zCn fp s.heap) σ H s :=
 I.pins_of fun p hp => (zTE.mp hp).elim (fun z => I.pin p (zS8 _ z)) fun z => by
  obtain ⟨hb, e⟩ := zHc z;obtain ⟨f0, f1, f2, _⟩ := hf p.1 hb;obtain ⟨o, e', d⟩ := ho p.1 hb;rw [e] at e'; cases e';exact ⟨e, f0, f1, f2, d⟩
theorem Inv.unpinned {zB pl : List (Addr × Obj)} {σ : St} {H : Hp} {s : Shared} (I : Inv X (zB ++ pl) σ H s) : Inv X zB σ H s := I.pins_of fun p hp => I.pin p (zS8 _ (zT8 _ hp))
theorem zQR {iter : Expr} {body : List Stmt} {wi : TI} {g : TG} {tb : TS} {pos : Pos} (hp : PassesOwn (model X.prog X.w) X.A X.env X.xe) (hc : X.calm = true) (hi : PI X tg iter wi) (hg : PG X tg g) (hb : PSs X body tb)
  (hs : ∀ x, foldedSetIterable iter X.env x = pure x := by intro _; rfl) : PS X (.For tg iter body [] pos) (zSI wi g tb) := by
 intro zB s σ H D I h;refine wpAny_For (thn (hi zB s σ H _ I h) fun v s1 h1 => thn h1 fun itv s2 h2 => ?_) hs;obtain ⟨it, fp, tn, J, H2, e, I2, T, st2, f2, W, ⟨m0, w0⟩, turn⟩ := h2;subst e;have stat : ∀ {H' : Hp}, (∀ b ∈ fp, H' b = none) -> ∀ b ∈ fp, zCP X zB H' b := fun hn b hb => ⟨hn b hb, (f2 b hb).2⟩;refine codeAny_forLoop_any (fun n s' => ∃ i σ' H', Inv X zB σ' H' s' /\ tn i s'.heap /\ (∀ b ∈ fp, H' b = none) /\ W i n σ' H') ?_ m0 ⟨0, σ, H2, I2, st2, fun b hb => (f2 b hb).1, w0⟩;rintro n s3 ⟨i, σ3, H3, I3, st3, fr3, w3⟩;rcases turn i n σ3 H3 w3 with ⟨stop, qn⟩ | ⟨go, N, hN, step⟩
 ·refine wpAny_passesOwn hp (thn (T.done X rfl rfl rfl hc i zB s3 σ3 H3 X.xe I3 (stat fr3) st3 stop) fun r s4 ⟨hr, I4⟩ => ?_);subst hr;exact wpAny_execs_nil ⟨σ3, H3, I4, qn⟩
 ·refine wpAny_passesOwn hp (thn (T.item X rfl rfl rfl hc i zB s3 σ3 H3 X.xe I3 (stat fr3) st3 go) fun r s4 ⟨u, hr, h4⟩ => ?_);subst hr;refine wpAny_passesOwn hp (thn h4 fun _ s5 ⟨x, H5, I5, r5, y5, st5, fr5⟩ => ?_);have I5' := I5.pinned (stat fr5) (T.obj _ _ st5);refine wpAny_passesOwn hp (thn (hg _ s5 σ3 H5 x u _ I5' r5 (step x H5 y5)) fun _ s6 ⟨σ6, H6, I6, q6⟩ => ?_);refine wpAny_passesOwn hp (thn (hb _ s6 σ6 H6 _ I6 q6) fun f s7 q7 => ?_);have again : ∀ {σ7 : St} {H7 : Hp}, Inv X (zB ++ zCn fp s5.heap) σ7 H7 s7 -> N σ7 H7 -> ∃ m, m < n /\ ∃ i σ' H', Inv X zB σ' H' s7 /\ tn i s7.heap /\ (∀ b ∈ fp, H' b = none) /\ W i m σ' H' := fun {σ7 H7} I7 n7 => by
   obtain ⟨m', hm, w7⟩ := hN σ7 H7 n7;refine ⟨m', hm, i + 1, σ7, H7, I7.unpinned, T.keep _ _ _ st5 fun b hb o e => (I7.pin (b, o) (zS8 _ (zS8 _ (zAN hb e)))).1, fun b hb => ?_, w7⟩;obtain ⟨o, e, d⟩ := T.obj _ _ st5 b hb;exact (I7.pin (b, o) (zS8 _ (zS8 _ (zAN hb e)))).2.1
  cases f with
  | next => obtain ⟨σ7, H7, I7, n7⟩ := q7; exact again I7 n7
  | cont => obtain ⟨σ7, H7, I7, n7⟩ := q7; exact again I7 n7
  | brk => obtain ⟨σ7, H7, I7, q7⟩ := q7; exact ⟨σ7, H7, I7.unpinned, q7⟩
  | ret v => obtain ⟨x7, σ7, H7, I7, r7, q7⟩ := q7; exact ⟨x7, σ7, H7, I7.unpinned, r7, q7⟩
end
abbrev R2 := V -> V -> Hp -> VK -> Prop
def OpR (X : Cx) (f : Value -> Value -> Sem Value) (r : R2) : Prop :=
 ∀ (zB : List (Addr × Obj)) (s : Shared) (σ : St) (H : Hp) (x y : V) (v u : Value) (Q : VK), Inv X zB σ H s -> zy x v -> zy y u -> r x y H Q ->
  wpAny (model X.prog X.w) X.A (f v u) (EP X zB σ Q) X.xe s
def zCJ (X : Cx) (f : Value) (r : List V -> Hp -> VK -> Prop) : Prop :=
 ∀ (zB : List (Addr × Obj)) (s : Shared) (σ : St) (H : Hp) (xs : List V) (us : List Value) (Q : VK), Inv X zB σ H s -> zk xs us -> r xs H Q ->
  wpAny (model X.prog X.w) X.A (call f us) (EP X zB σ Q) X.xe s
def zSQ (X : Cx) (r : V -> Hp -> (Bool -> Hp -> Prop) -> Prop) : Prop :=
 ∀ (zB : List (Addr × Obj)) (s : Shared) (σ : St) (H : Hp) (x : V) (v : Value) (Q : Bool -> Hp -> Prop), Inv X zB σ H s -> zy x v -> r x H Q ->
  wpAny (model X.prog X.w) X.A (truthy v) (TP X zB σ Q) X.xe s
def tOp (r : R2) (ta tb : TE) : TE := fun σ H Q => ta σ H fun x H1 => tb σ H1 fun y H2 => r x y H2 Q
def rI (C : Int -> Int -> Prop) (g : Int -> Int -> V) : R2 := fun x y H Q => ∃ i j, x = .int i /\ y = .int j /\ C i j /\ Q (g i j) H
def rI0 (g : Int -> Int -> V) : R2 := fun x y H Q => ∃ i j, x = .int i /\ y = .int j /\ Q (g i j) H
section
variable {X : Cx} {a b c : Expr} {ta tb tc : TE} {pos : Pos}
theorem zQx (ha : PE X a ta) (hb : PE X b tb) {zB : List (Addr × Obj)} {s : Shared} {σ : St} {H : Hp} {R : V -> V -> Hp -> Prop} (I : Inv X zB σ H s)
  (h : ta σ H fun x H1 => tb σ H1 fun y H2 => R x y H2) {Q : Value -> Shared -> Prop} {f : Value -> Value -> Sem Value}
  (hf : ∀ v u s2 x y H2, Inv X zB σ H2 s2 -> zy x v -> zy y u -> R x y H2 -> wpAny (model X.prog X.w) X.A (f v u) Q X.xe s2) :
  wpAny (model X.prog X.w) X.A (eval a X.env) (fun v s₁ => wpAny (model X.prog X.w) X.A (eval b X.env) (fun u s₂ => wpAny (model X.prog X.w) X.A (f v u) Q X.xe s₂) X.xe s₁) X.xe s := by
 refine thn (ha zB s σ H _ I h) fun v s1 ⟨x, H1, I1, r1, q1⟩ => ?_;refine thn (hb zB s1 σ H1 _ I1 q1) fun u s2 ⟨y, H2, I2, r2, q2⟩ => ?_;exact hf v u s2 x y H2 I2 r1 r2 q2
theorem zRt {op : Operator} {r : R2} (ho : OpR X (binaryOp op) r) (ha : PE X a ta) (hb : PE X b tb) : PE X (.BinOp a op b pos) (tOp r ta tb) := by
 intro zB s σ H Q I h;exact wpAny_BinOp (zQx ha hb I h fun v u s2 x y H2 I2 rx ry q => ho zB s2 σ H2 x y v u Q I2 rx ry q)
theorem opI {f : Value -> Value -> Sem Value} {C : Int -> Int -> Prop} {g : Int -> Int -> Int}
  (rule : ∀ (i j : Int) (t u : Tok) (s : Shared) (Q : Value -> Shared -> Prop) (E : Value -> Shared -> Prop), C i j -> Q (.int (g i j) s.toks) { s with toks := s.toks + 1 } -> wpAny (model X.prog X.w) X.A (f (.int i t) (.int j u)) Q E s) :
  OpR X f (rI C fun i j => .int (g i j)) := by
 intro zB s σ H x y v u Q I rx ry h;obtain ⟨i, j, rfl, rfl, hc, q⟩ := h;obtain ⟨t, rfl⟩ := rx;obtain ⟨t', rfl⟩ := ry;exact rule i j t t' s _ _ hc ⟨.int (g i j), H, I.tok _, ⟨_, rfl⟩, q⟩
theorem zRS {f : Value -> Value -> Sem Value} {g : Int -> Int -> Int}
  (rule : ∀ (i j : Int) (t u : Tok) (s : Shared) (Q : Value -> Shared -> Prop) (E : Value -> Shared -> Prop), Q (.int (g i j) s.toks) { s with toks := s.toks + 1 } -> wpAny (model X.prog X.w) X.A (f (.int i t) (.int j u)) Q E s) :
  OpR X f (rI0 fun i j => .int (g i j)) := by
 intro zB s σ H x y v u Q I rx ry h;obtain ⟨i, j, rfl, rfl, q⟩ := h;obtain ⟨t, rfl⟩ := rx;obtain ⟨t', rfl⟩ := ry;exact rule i j t t' s _ _ ⟨.int (g i j), H, I.tok _, ⟨_, rfl⟩, q⟩
theorem zRe {f : Value -> Value -> Sem Value} {g : Int -> Int -> Bool}
  (rule : ∀ (i j : Int) (t u : Tok) (s : Shared) (Q : Value -> Shared -> Prop) (E : Value -> Shared -> Prop), Q (.bool (g i j)) s -> wpAny (model X.prog X.w) X.A (f (.int i t) (.int j u)) Q E s) :
  OpR X f (rI0 fun i j => .bl (g i j)) := by
 intro zB s σ H x y v u Q I rx ry h;obtain ⟨i, j, rfl, rfl, q⟩ := h;obtain ⟨t, rfl⟩ := rx;obtain ⟨t', rfl⟩ := ry;exact rule i j t t' s _ _ ⟨.bl (g i j), H, I, rfl, q⟩
def zSW (i j : Int) : Prop := 0 < j /\ j < 1073741824
def zSe (i j : Int) : Prop := 0 <= j /\ j <= 1000000 /\ i.natAbs < 2 ^ 64
def zQ8 (i j : Int) : Prop := (-(2 ^ 64) < i /\ i < 2 ^ 64) \/ (-(2 ^ 64) < j /\ j < 2 ^ 64)
theorem zQ8.ok {i j : Int} (h : zQ8 i j) : IntMulOk i j := by
 rcases h with ⟨h1, h2⟩ | ⟨h1, h2⟩
 ·exact .of_left (intBits_le_64 h1 h2)
 ·exact .of_right (intBits_le_64 h1 h2)
theorem zRQ : OpR X (binaryOp .Add) (rI0 fun i j => .int (i + j)) := zRS fun _ _ _ _ _ _ _ q => add_int q
theorem zQI : OpR X (binaryOp .Sub) (rI0 fun i j => .int (i - j)) := zRS fun _ _ _ _ _ _ _ q => sub_int q
theorem zQk : OpR X (binaryOp .Mult) (rI zQ8 fun i j => .int (i * j)) := opI fun _ _ _ _ _ _ _ hc q => mul_int q hc.ok
theorem zO2 : OpR X (binaryOp .FloorDiv) (rI zSW fun i j => .int (i / j)) := opI fun i j _ _ _ _ _ hc q => by
 have h1 : (0 : Int) < j := hc.1;have h2 : j < 1073741824 := hc.2;exact floordiv_int (by omega) (by rw [Int.fdiv_eq_ediv_of_nonneg i (by omega)]; exact q) (.inl (PyProof.noPylong_small (by omega)))
theorem zQK : OpR X (binaryOp .Mod) (rI (fun _ j => 0 < j) fun i j => .int (i % j)) := opI fun i j _ _ _ _ _ hc q => by
 have h1 : (0 : Int) < j := hc;exact mod_int' (by omega) (by rw [Int.fmod_eq_emod_of_nonneg i (by omega)]; exact q)
theorem zQ1 : OpR X (binaryOp .Pow) (rI zSe fun i j => .int (i ^ j.toNat)) := opI fun _ _ _ _ _ _ _ hc q => pow_int_small hc.1 hc.2.1 hc.2.2 q
end
def zOk : V -> V -> Bool
 | .non, .non => true | .non, .int _ => true | .int _, .non => true | .non, .bl _ => true | .bl _, .non => true | .non, .str _ => true | .str _, .non => true
 | .int _, .int _ => true | .bl _, .bl _ => true | .str _, .str _ => true | .byt _, .byt _ => true
 | .int _, .str _ => true | .str _, .int _ => true | .bl _, .str _ => true | .str _, .bl _ => true
 | _, _ => false
def rEq : R2 := fun x y H Q => zOk x y = true /\ Q (.bl (decide (x = y))) H
def rNe : R2 := fun x y H Q => zOk x y = true /\ Q (.bl (!decide (x = y))) H
theorem zKv {i j : Int} : decide (V.int i = V.int j) = (i == j) := by
 rw [Bool.eq_iff_iff];simp
theorem zMy {i j : Bool} : decide (V.bl i = V.bl j) = (i == j) := by
 rw [Bool.eq_iff_iff];simp
theorem zKg {i j : Str} : decide (V.str i = V.str j) = (i == j) := by
 rw [Bool.eq_iff_iff];simp
theorem zKm {i j : Array UInt8} : decide (V.byt i = V.byt j) = (i.toList == j.toList) := by
 rw [Bool.eq_iff_iff];cases i;cases j;simp
section
variable {X : Cx} {a b c : Expr} {ta tb tc : TE} {pos : Pos}
theorem zx {zB : List (Addr × Obj)} {σ : St} {H : Hp} {s : Shared} {Q : VK} {k k' : Bool} (I : Inv X zB σ H s) (q : Q (.bl k) H) (e : k = k') : EP X zB σ Q (.bool k') s := by
 subst e;exact ⟨.bl k, H, I, rfl, q⟩
theorem zPp : OpR X (compareOp .Eq) rEq := by
 intro zB s σ H x y v u Q I rx ry h;obtain ⟨hs, q⟩ := h;cases x with
 | non =>
  cases rx;cases y with
  | non => cases ry; exact PySem.EqNone.eq_none_none (zx I q (by simp))
  | bl j => cases ry; exact PySem.EqNone.eq_none_bool (zx I q (by simp))
  | int j => obtain ⟨t', rfl⟩ := ry; exact PySem.EqNone.eq_none_int (zx I q (by simp))
  | str j => obtain ⟨t', rfl⟩ := ry; exact PySem.EqNone.eq_none_str (zx I q (by simp))
  | _ => exact absurd (show false = true from hs) zTA
 | bl i =>
  cases rx;cases y with
  | non => cases ry; exact PySem.EqNone.eq_bool_none (zx I q (by simp))
  | bl j => cases ry; exact eq_bool (zx I q zMy)
  | str j => obtain ⟨t', rfl⟩ := ry; exact PySem.EqMixed.eq_bool_str (zx I q (by simp))
  | _ => exact absurd (show false = true from hs) zTA
 | int i =>
  obtain ⟨t, rfl⟩ := rx;cases y with
  | non => cases ry; exact PySem.EqNone.eq_int_none (zx I q (by simp))
  | int j => obtain ⟨t', rfl⟩ := ry; exact eq_int (zx I q zKv)
  | str j => obtain ⟨t', rfl⟩ := ry; exact PySem.EqMixed.eq_int_str (zx I q (by simp))
  | _ => exact absurd (show false = true from hs) zTA
 | str i =>
  obtain ⟨t, rfl⟩ := rx;cases y with
  | non => cases ry; exact PySem.EqNone.eq_str_none (zx I q (by simp))
  | bl j => cases ry; exact PySem.EqMixed.eq_str_bool (zx I q (by simp))
  | int j => obtain ⟨t', rfl⟩ := ry; exact PySem.EqMixed.eq_str_int (zx I q (by simp))
  | str j => obtain ⟨t', rfl⟩ := ry; exact eq_str (zx I q zKg)
  | _ => exact absurd (show false = true from hs) zTA
 | byt i =>
  obtain ⟨t, rfl⟩ := rx;cases y with
  | byt j => obtain ⟨t', rfl⟩ := ry; exact PySem.W.eq_bytes (zx I q zKm)
  | _ => exact absurd (show false = true from hs) zTA
 | _ => cases y <;> exact absurd (show false = true from hs) zTA
theorem zRa : OpR X (compareOp .NotEq) rNe := by
 intro zB s σ H x y v u Q I rx ry h;obtain ⟨hs, q⟩ := h;cases x with
 | non =>
  cases rx;cases y with
  | non => cases ry; exact PySem.EqNone.ne_none_none (zx I q (by simp))
  | bl j => cases ry; exact PySem.EqNone.ne_none_bool (zx I q (by simp))
  | int j => obtain ⟨t', rfl⟩ := ry; exact PySem.EqNone.ne_none_int (zx I q (by simp))
  | str j => obtain ⟨t', rfl⟩ := ry; exact PySem.EqNone.ne_none_str (zx I q (by simp))
  | _ => exact absurd (show false = true from hs) zTA
 | bl i =>
  cases rx;cases y with
  | non => cases ry; exact PySem.EqNone.ne_bool_none (zx I q (by simp))
  | bl j => cases ry; exact ne_bool (zx I q (congrArg not zMy))
  | str j => obtain ⟨t', rfl⟩ := ry; exact PySem.EqMixed.ne_bool_str (zx I q (by simp))
  | _ => exact absurd (show false = true from hs) zTA
 | int i =>
  obtain ⟨t, rfl⟩ := rx;cases y with
  | non => cases ry; exact PySem.EqNone.ne_int_none (zx I q (by simp))
  | int j => obtain ⟨t', rfl⟩ := ry; exact ne_int (zx I q (congrArg not zKv))
  | str j => obtain ⟨t', rfl⟩ := ry; exact PySem.EqMixed.ne_int_str (zx I q (by simp))
  | _ => exact absurd (show false = true from hs) zTA
 | str i =>
  obtain ⟨t, rfl⟩ := rx;cases y with
  | non => cases ry; exact PySem.EqNone.ne_str_none (zx I q (by simp))
  | bl j => cases ry; exact PySem.EqMixed.ne_str_bool (zx I q (by simp))
  | int j => obtain ⟨t', rfl⟩ := ry; exact PySem.EqMixed.ne_str_int (zx I q (by simp))
  | str j => obtain ⟨t', rfl⟩ := ry; exact ne_str (zx I q (congrArg not zKg))
  | _ => exact absurd (show false = true from hs) zTA
 | byt i =>
  obtain ⟨t, rfl⟩ := rx;cases y with
  | byt j => obtain ⟨t', rfl⟩ := ry; exact PySem.W.ne_bytes (zx I q (congrArg not zKm))
  | _ => exact absurd (show false = true from hs) zTA
 | _ => cases y <;> exact absurd (show false = true from hs) zTA
theorem zR2 : OpR X (compareOp .Lt) (rI0 fun i j => .bl (decide (i < j))) := zRe fun _ _ _ _ _ _ _ q => lt_int q
theorem zRd : OpR X (compareOp .GtE) (rI0 fun i j => .bl (decide (j <= i))) := zRe fun _ _ _ _ _ _ _ q => ge_int q
theorem OpR.or {f : Value -> Value -> Sem Value} {r r' : R2} (h : OpR X f r) (h' : OpR X f r') : OpR X f (fun x y H Q => r x y H Q \/ r' x y H Q) := by
 intro zB s σ H x y v u Q I rx ry q;rcases q with q | q
 ·exact h zB s σ H x y v u Q I rx ry q
 ·exact h' zB s σ H x y v u Q I rx ry q
theorem zDb (b : Expr) {op : CmpOp} (h : op ≠ .In := by decide) (h2 : op ≠ .NotIn := by decide) : behindInMarks op b = false := by
 have e1 : (op == CmpOp.In) = false := by cases op <;> first | rfl | exact absurd rfl h
 have e2 : (op == CmpOp.NotIn) = false := by cases op <;> first | rfl | exact absurd rfl h2
 cases b <;> simp [behindInMarks, e1, e2]
theorem zOj {op : CmpOp} {r : R2} (ho : OpR X (compareOp op) r) (ha : PE X a ta) (hb : PE X b tb) (hm : behindInMarks op b = false) : PE X (.Compare a [op] [b] pos) (tOp r ta tb) := by
 intro zB s σ H Q I h;exact wpAny_Compare1 (zQx ha hb I h fun v u s2 x y H2 I2 rx ry q => ho zB s2 σ H2 x y v u Q I2 rx ry q) hm
def zKz (t : TE) : TT := fun σ H Q => t σ H fun x H' => ∃ k, x = .bl k /\ Q k H'
theorem zOn {op : CmpOp} {r : R2} (ho : OpR X (compareOp op) r) (ha : PE X a ta) (hb : PE X b tb) (hm : behindInMarks op b = false) : PT X (.Compare a [op] [b] pos) (zKz (tOp r ta tb)) := by
 intro zB s σ H Q I h;refine wpAny_isTrue_Compare1 (thn (ha zB s σ H _ I h) fun v s1 ⟨x, H1, I1, r1, q1⟩ => thn (hb zB s1 σ H1 _ I1 q1) fun u s2 ⟨y, H2, I2, r2, q2⟩ =>
  thn (ho zB s2 σ H2 x y v u _ I2 r1 r2 q2) fun c s3 ⟨z, H3, I3, r3, k, e, q3⟩ => ?_) hm
 subst e;cases r3;exact wpAny_truthy_bool ⟨H3, I3, q3⟩
def zR9 (K : PySem.W.Frag) (x : V) (H : Hp) (k : Bool) : Prop :=
 match x with
 | .non => k = false
 | .bl b => k = b
 | .int i => k = (i != 0)
 | .str y => y.length <= sizeLine /\ k = ((y.length : Int) != 0)
 | .byt y => y.size <= sizeLine /\ k = ((y.size : Int) != 0)
 | .ref p => (∃ xs, SqL K H p xs /\ k = !xs.isEmpty) \/ (∃ xs, SqT K H p xs /\ k = !xs.isEmpty) \/ ∃ kvs, H p = some (.dK kvs) /\ k = !kvs.isEmpty
 | _ => False
theorem zKO {κ : Type} {kvs : List (κ × V)} {vs : List (κ × Value)} (r : KV kvs vs) : (!vs.isEmpty) = !kvs.isEmpty := by
 cases r <;> rfl
theorem zFp {xs : List V} {its : List Value} (r : zk xs its) : (!its.toArray.isEmpty) = !xs.isEmpty := by
 cases r <;> simp
theorem zEv : (sizeLine : Nat) < 2 ^ 63 := by rw [sizeLine_eq]; decide
theorem zQy : zSQ X (fun x H Q => ∃ k, zR9 X.K x H k /\ Q k H) := by
 intro zB s σ H x v Q I rx h;obtain ⟨k, e, q⟩ := h;have hl := zEv;have hs : sizeLine = 16777216 := sizeLine_eq;cases x with
 | non =>
  cases rx;have e' : k = false := e;subst e';exact truthy_none ⟨H, I, q⟩
 | bl b =>
  cases rx;have e' : k = b := e;subst e';exact wpAny_truthy_bool ⟨H, I, q⟩
 | int i =>
  obtain ⟨t, rfl⟩ := rx;have e' : k = (i != 0) := e;subst e';exact PySem.P.truthy_int ⟨H, I, q⟩
 | str y =>
  obtain ⟨t, rfl⟩ := rx;obtain ⟨hy, e'⟩ : y.length <= sizeLine /\ k = ((y.length : Int) != 0) := e;subst e';exact PySem.P.truthy_str (by omega) ⟨H, I.tok _, q⟩
 | byt y =>
  obtain ⟨t, rfl⟩ := rx;obtain ⟨hy, e'⟩ : y.size <= sizeLine /\ k = ((y.size : Int) != 0) := e;subst e';exact PySem.W.truthy_bytes (by omega) ⟨H, I.tok _, q⟩
 | ref p =>
  cases rx;have e' : (∃ xs, SqL X.K H p xs /\ k = !xs.isEmpty) \/ (∃ xs, SqT X.K H p xs /\ k = !xs.isEmpty) \/ ∃ kvs, H p = some (.dK kvs) /\ k = !kvs.isEmpty := e;rcases e' with ⟨xs, hx, e'⟩ | ⟨xs, hx, e'⟩ | ⟨kvs, hx, e'⟩
  ·subst e';obtain ⟨its, r, pl, hz⟩ := I.list hx;have hlen := r.length;exact wpAny_truthy_list pl.isList (by simp only [zSw]; omega) ⟨H, I.tok _, by rw [zFp r]; exact q⟩
  ·subst e';obtain ⟨its, r, pl, hz⟩ := I.tuple hx;have hlen := r.length;exact truthy_tuple pl (by simp only [zSw]; omega) ⟨H, I.tok _, by rw [zFp r]; exact q⟩
  ·subst e';obtain ⟨hz, hS, vs, r, m⟩ : kvs.length <= sizeLine /\ (p == sysModules) = false /\ ∃ vs, KV kvs vs /\ s.heap.DictOf (zAY X.prog X.w) p vs := I.hok p _ hx;have hlen : kvs.length = vs.length := Paired.length r;exact wpAny_truthy_dict hS m (by omega) ⟨H, I.tok _, by rw [zKO r]; exact q⟩
 | _ => exact (show False from e).elim
theorem zNG (ha : PE X a ta) (he : ∀ whole, isTrue a X.env whole = (do let v <- whole; standAt a.pos; holding [v] (truthy v))) :
  PT X a (fun σ H Q => ta σ H fun x H' => ∃ k, zR9 X.K x H' k /\ Q k H') := by
 intro zB s σ H Q I h;exact isTrue_plain (thn (ha zB s σ H _ I h) fun v s1 ⟨x, H1, I1, r1, q1⟩ => zQy zB s1 σ H1 x v Q I1 r1 q1) (he _)
theorem zES {x : V} {us : List Value} (r : zk [x] us) : ∃ u, us = [u] /\ zy x u := by
 cases r with
 | cons r1 r2 => cases r2; exact ⟨_, rfl, r1⟩
theorem zPs {x y : V} {us : List Value} (r : zk [x, y] us) : ∃ u w', us = [u, w'] /\ zy x u /\ zy y w' := by
 cases r with
 | cons r1 r2 =>
  cases r2 with
  | cons r3 r4 => cases r4; exact ⟨_, _, rfl, r1, r3⟩
theorem zMX : zCJ X (.builtin "abs") (fun xs H Q => ∃ i, xs = [.int i] /\ Q (.int (if i < 0 then -i else i)) H) := by
 intro zB s σ H xs us Q I r h;obtain ⟨i, rfl, q⟩ := h;obtain ⟨u, rfl, t, rfl⟩ := zES r;exact call_abs_int fun u tk => ⟨.int (if i < 0 then -i else i), H, I.tok _, ⟨_, rfl⟩, q⟩
theorem zLv (hc : X.calm = true) : zCJ X (.builtin "max") (fun xs H Q => ∃ i j, xs = [.int i, .int j] /\ Q (.int (if j > i then j else i)) H) := by
 intro zB s σ H xs us Q I r h;obtain ⟨i, j, rfl, q⟩ := h;obtain ⟨u, w', rfl, ⟨t, rfl⟩, ⟨t', rfl⟩⟩ := zPs r;refine max_two_ints (I.ok.hd hc) fun h' tk k => ⟨_, H, I.kept k, ?_, q⟩;by_cases hj : j > i
 ·rw [zS3 hj, zS3 hj]; exact ⟨_, rfl⟩
 ·rw [zS6 hj, zS6 hj]; exact ⟨_, rfl⟩
theorem zLm (hc : X.calm = true) : zCJ X (.builtin "min") (fun xs H Q => ∃ i j, xs = [.int i, .int j] /\ Q (.int (if j < i then j else i)) H) := by
 intro zB s σ H xs us Q I r h;obtain ⟨i, j, rfl, q⟩ := h;obtain ⟨u, w', rfl, ⟨t, rfl⟩, ⟨t', rfl⟩⟩ := zPs r;refine min_two_ints (I.ok.hd hc) fun h' tk k => ⟨_, H, I.kept k, ?_, q⟩;by_cases hj : j < i
 ·rw [zS3 hj, zS3 hj]; exact ⟨_, rfl⟩
 ·rw [zS6 hj, zS6 hj]; exact ⟨_, rfl⟩
theorem zMR : zCJ X (.type "int") (fun xs H Q => (∃ i, xs = [.int i] /\ Q (.int i) H) \/ ∃ k, xs = [.bl k] /\ Q (.int (if k then 1 else 0)) H) := by
 intro zB s σ H xs us Q I r h;rcases h with ⟨i, rfl, q⟩ | ⟨k, rfl, q⟩
 ·obtain ⟨u, rfl, t, rfl⟩ := zES r;exact call_int_int ⟨.int i, H, I, ⟨_, rfl⟩, q⟩
 ·obtain ⟨u, rfl, r1⟩ := zES r;cases r1;exact call_int_bool ⟨.int (if k then 1 else 0), H, I.tok _, ⟨_, rfl⟩, q⟩
end
structure ObjM (h : Heap) (x dx C : Addr) (mA : Str -> Option Value) : Prop where
 obj : h.get? x = some (PySem.W.instObj C dx)
 ns : h.Ns1 dx mA
 ne : dx ≠ x
theorem zLI {h : Heap} {dx : Addr} {mA : Str -> Option Value} (n : h.Ns1 dx mA) : ∃ od, h.get? dx = some od /\ ∀ name, PySem.W.lookIn name od = some (mA name) := by
 obtain ⟨o, es, ep, ho, hd, hk, _, hm⟩ := n;refine ⟨o, ho, fun name => ?_⟩;have e := hm name;unfold nsFind findBy at e;rw [<- Array.find?_toList] at e;unfold PySem.W.lookIn;rw [hd];dsimp only;split
 ·rename_i y q;rw [q] at e;exact congrArg some e
 ·rename_i q;rw [q] at e;have a : es.toList.any (·.refKey) = false := by
   rw [List.any_eq_false];intro y hy;obtain ⟨z, t, hkey⟩ := hk y (Array.mem_toList_iff.mp hy);simp [DictEntry.refKey, hkey]
  have a' : ¬ es.toList.any (·.refKey) = true := by rw [a]; exact zTA
  rw [zS6 a'];exact congrArg some e
theorem ObjM.look {h : Heap} {x dx C : Addr} {mA : Str -> Option Value} (I : ObjM h x dx C mA) : ∃ od, PySem.W.InstAt h x (PySem.W.instObj C dx) C (some od) /\ ∀ name, PySem.W.lookIn name od = some (mA name) :=
 let ⟨od, ho, hl⟩ := zLI I.ns
 ⟨od, ⟨I.obj, rfl, rfl, ho⟩, hl⟩
theorem zE1.some_of {v : V} {o : Option Value} (r : zE1 (some v) o) : ∃ u, o = some u /\ zy v u := by
 cases o with
 | none => exact (show False from r).elim
 | some u => exact ⟨u, rfl, r⟩
section
variable {P : Program} {w : World} {H H' : Hp} {h h' : Heap} {a C dx : Addr} {fs fs' : List (Str × V)}
theorem zOs (hok : HOk P w H h) (e : H a = some (.ins C dx fs)) : ∃ mA, ObjM h a dx C mA /\ (∀ f, zE1 (fs.lookup f) (mA f)) /\ PySem.Within mA (fs.map (·.1)) /\ fs.length <= 1000 /\ H dx = some (.own a) := by
 obtain ⟨d, z, ne, ob, mA, n, r, q⟩ := (show zAX P w H h a (.ins C dx fs) from hok a _ e);exact ⟨mA, ⟨ob, n, ne⟩, r, q, z, d⟩
end
structure Cls (K : PySem.W.Frag) (C : Addr) : Prop where
 pg : PySem.W.plainGet K C Str.empty = true
 hd : PySem.W.hasDictIn K C = true
 po : PySem.W.plainOver K C = true
 sa : PySem.W.findIn K (.ref C) "__setattr__" = some (some (.builtin "object.__setattr__"))
theorem Cls.get {K : PySem.W.Frag} {C : Addr} (c : Cls K C) (f : Str) : PySem.W.plainGet K C f = true := c.pg
section
variable {X : Cx} {zB : List (Addr × Obj)} {σ : St} {H : Hp} {s : Shared} {A : Around} {E : Value -> Shared -> Prop} {Q : Value -> Shared -> Prop} {c : Value} {b : Bool}
inductive TyOf (K : PySem.W.Frag) (H : Hp) : V -> Value -> Prop where
 | non : TyOf K H .non (.type "NoneType")
 | bl (x : Bool) : TyOf K H (.bl x) (.type "bool")
 | int (i : Int) : TyOf K H (.int i) (.type "int")
 | str (x : Str) : TyOf K H (.str x) (.type "str")
 | flt (x : UInt64) : TyOf K H (.flt x) (.type "float")
 | lst {a : Addr} {xs : List V} (e : H a = some (.lst xs)) : TyOf K H (.ref a) (.type "list")
 | frz {a : Addr} {o : Obj} {xs : List V} (e : H a = some (.frz o (.lst xs))) : TyOf K H (.ref a) (.type "list")
 | tup {a : Addr} {xs : List V} (e : H a = some (.tup xs)) : TyOf K H (.ref a) (.type "tuple")
 | dK {a : Addr} {kvs : List (Key × V)} (e : H a = some (.dK kvs)) : TyOf K H (.ref a) (.type "dict")
 | dT {a : Addr} {kvs : List (List Key × V)} (e : H a = some (.dT kvs)) : TyOf K H (.ref a) (.type "dict")
 | ins {a C dx : Addr} {fs : List (Str × V)} (e : H a = some (.ins C dx fs)) (cl : Cls K C) (ha : PySem.W.findIn K (.ref C) "__class__" = some (some (.builtin "object.__class__")))
   (hn : PySem.W.specialIn K (.builtin "object.__class__") "__get__" = some (some (.builtin "getset_descriptor.__get__"))) (htk : PySem.W.takesIn K (.builtin "object.__class__") = some true)
   (hm : PySem.W.mroIn K C (.type "object") = some true) : TyOf K H (.ref a) (.ref C)
theorem zLz {x : V} {u t : Value} (I : Inv X zB σ H s) (rx : zy x u) (ty : TyOf X.K H x t) (e : PySem.W.kitOne X.K t c = some b) (h : ∀ tk, Q (.bool b) { s with toks := tk }) :
  wpAny (model X.prog X.w) A (call (.builtin "isinstance") [u, c]) Q E s := by
 cases ty with
 | non => cases (show u = Value.none from rx); exact zUX PySem.W.kitx_none I.kIn True.intro e (fun z => nomatch z) h
 | bl y => cases (show u = Value.bool y from rx); exact zUX PySem.W.kitx_bool I.kIn True.intro e (fun z => nomatch z) h
 | int i => obtain ⟨t, q⟩ := (show ∃ t, u = Value.int i t from rx); cases q; exact zUX PySem.W.kitx_int I.kIn True.intro e (fun z => nomatch z) h
 | str y => obtain ⟨t, q⟩ := (show ∃ t, u = Value.str y t from rx); cases q; exact zUX PySem.W.kitx_str I.kIn True.intro e (fun z => nomatch z) h
 | flt y => obtain ⟨t, q⟩ := (show ∃ t, u = Value.float y t from rx); cases q; exact zUX PySem.W.kitx_float I.kIn True.intro e (fun z => nomatch z) h
 | @lst a xs ea =>
  cases (show u = Value.ref a from rx);obtain ⟨_, _, n, _, h1⟩ := (show zAX X.prog X.w H s.heap a (.lst xs) from I.hok a _ ea);exact zUX PySem.W.kitx_list I.kIn ⟨_, h1, rfl⟩ e (fun z => nomatch z) h
 | @frz a ob xs ea =>
  cases (show u = Value.ref a from rx);obtain ⟨_, _, _, n, _, h1⟩ := (show zAX X.prog X.w H s.heap a (.frz ob (.lst xs)) from I.hok a _ ea);exact zUX PySem.W.kitx_list I.kIn ⟨_, h1, rfl⟩ e (fun z => nomatch z) h
 | @tup a xs ea =>
  cases (show u = Value.ref a from rx);obtain ⟨_, _, _, p⟩ := (show zAX X.prog X.w H s.heap a (.tup xs) from I.hok a _ ea);obtain ⟨o, h1, h2, _⟩ := p;exact zUX PySem.W.kitx_tuple I.kIn ⟨o, h1, h2⟩ e (fun z => nomatch z) h
 | @dK a kvs ea =>
  cases (show u = Value.ref a from rx);obtain ⟨_, _, vs, _, p⟩ := (show zAX X.prog X.w H s.heap a (.dK kvs) from I.hok a _ ea);obtain ⟨o, es, ep, h1, h2, _⟩ := p;exact zUX PySem.W.kitx_dict I.kIn ⟨o, h1, h2.1⟩ e (fun z => nomatch z) h
 | @dT a kvs ea =>
  cases (show u = Value.ref a from rx);obtain ⟨_, _, xs, _, o, es, ep, h1, h2, _⟩ := (show zAX X.prog X.w H s.heap a (.dT kvs) from I.hok a _ ea);exact zUX PySem.W.kitx_dict I.kIn ⟨o, h1, h2.1⟩ e (fun z => nomatch z) h
 | @ins a C dx fs ea cl ha hn htk hm =>
  cases (show u = Value.ref a from rx);obtain ⟨mA, O, _⟩ := zOs I.hok ea;obtain ⟨od, J, _⟩ := O.look;exact zUX (PySem.W.kitx_own (cl.get _) cl.hd ha hn htk hm) I.kIn J e (fun z => nomatch z) h
end
structure Room (k : Nat) (A : Around) : Prop where
 hd : A.handled = none
 dp : A.depth + 3 * k + 5 < recursionLimit
 un : A.units + 16 * k + 200 < cLine
theorem Room.mono {j k : Nat} {A : Around} (r : Room k A) (h : j <= k) : Room j A := ⟨r.hd, by have := r.dp; omega, by have := r.un; omega⟩
theorem Room.deeper {k : Nat} {A : Around} (r : Room (k + 1) A) (env : Env) : Room k (A.deeper env) :=
 ⟨r.hd, by have := r.dp; show A.depth + 1 + 3 * k + 5 < _; omega, by have := r.un; show A.units + 3 + 16 * k + 200 < _; omega⟩
theorem Room.depth {k : Nat} {A : Around} (r : Room k A) : A.depth < recursionLimit := by have := r.dp; omega
theorem Room.units {k : Nat} {A : Around} (r : Room k A) : A.units + 64 < cLine := by have := r.un; omega
theorem Room.units0 {k : Nat} {A : Around} (r : Room k A) : A.units < cLine := by have := r.un; omega
def zSg : TA := fun _ H Q => Q [] H
def zRl (ta : TE) (tr : TA) : TA := fun σ H Q => ta σ H fun x H1 => tr σ H1 fun xs H2 => Q (x :: xs) H2
section
variable {X : Cx} {e : Expr} {es : List Expr} {te : TE} {t : TA} {pos : Pos}
theorem zD9 : PA X [] zSg := fun _ _ _ _ H Q I h => Calls.spliced_nil ⟨[], H, I, .nil, h⟩
theorem zCb (ha : PE X e te) (hr : PA X es t) (hs : starEach (e :: es) X.env = (false, eval e X.env) :: starEach es X.env := by rfl) : PA X (e :: es) (zRl te t) := by
 intro pos zB s σ H Q I h;rw [hs];show wpAny _ _ (spliced ((false, eval e X.env) :: backTo pos (starEach es X.env))) _ _ s;refine Calls.spliced_cons (thn (ha zB s σ H _ I h) fun u s1 ⟨x, H1, I1, r1, q1⟩ => ?_);exact thn (hr pos zB s1 σ H1 _ I1 q1) fun us s2 ⟨xs, H2, I2, r2, q2⟩ => ⟨x :: xs, H2, I2, .cons r1 r2, q2⟩
def zSh (t : TA) : TE := fun σ H Q => t σ H fun xs H1 => xs.length <= sizeLine /\ ∀ p, H1 p = none -> Q (.ref p) (upd H1 p (.tup xs))
def zSm (t : TA) : TE := fun σ H Q => t σ H fun xs H1 => xs.length <= sizeLine /\ ∀ p, H1 p = none -> Q (.ref p) (upd H1 p (.lst xs))
theorem zQG {x1} (h : PA X es t) : PE X (.Tuple es x1 pos) (zSh t) := by
 intro zB s σ H Q I hq;refine wpAny_Tuple_spliced (thn (h pos zB s σ H _ I hq) fun us s1 ⟨xs, H1, I1, r, z, q⟩ => ⟨by rw [<- r.length]; exact z, ?_⟩);have hf : H1 s1.heap.objs.size = none := I1.hok.fresh (zSu _);refine ⟨.ref s1.heap.objs.size, upd H1 s1.heap.objs.size (.tup xs), I1.laid (t' := s1.toks) (fun b u e => zSp _ e) (zSu _) ?_, rfl, q _ hf⟩;exact ⟨z, us, r, ⟨_, zSy _ rfl, rfl, ⟨_, rfl⟩, rfl⟩⟩
theorem zQa (h : PA X es t) : PE X (.List es pos) (zSm t) := by
 intro zB s σ H Q I hq;refine wpAny_List_spliced (thn (h pos zB s σ H _ I hq) fun us s1 ⟨xs, H1, I1, r, z, q⟩ => ⟨by rw [<- r.length]; exact z, ?_⟩);have hf : H1 s1.heap.objs.size = none := I1.hok.fresh (zSu _);refine ⟨.ref s1.heap.objs.size, upd H1 s1.heap.objs.size (.lst xs), I1.laid (t' := s1.toks) (fun b u e => zSp _ e) (zSu _) ?_, rfl, q _ hf⟩;exact ⟨z, us, 0, r, zSy _ rfl⟩
end
abbrev Sp := List V -> Hp -> VK -> XK -> Prop
abbrev CXT := List Env -> Hp -> Shared -> XK -> Value -> Shared -> Prop
structure Env0 (P : Program) (w : World) (K : PySem.W.Frag) (mg : Str -> Option Value) (base : Heap) (A : Around) (outer : List Env) (s : Shared) (H : Hp) : Prop where
 frames : A.frames = some outer
 mod : Mod K mg base
 bs : ∀ b o, base.get? b = some o -> s.heap.get? b = some o /\ H b = none
 bsz : base.objs.size <= s.heap.objs.size
 funs : s.heap.FunFrames base outer
 frf : ∀ b ∈ frs outer, H b = none
 hok : HOk P w H s.heap
 bare : AllBare s.gens
def CE (outer : List Env) (P : Program) (w : World) (H : Hp) (s : Shared) (Q : VK) (u : Value) (s' : Shared) : Prop :=
 ∃ v H', s'.os = s.os /\ AllBare s'.gens /\ Un (frs outer) [] H H' s.heap s'.heap /\ HOk P w H' s'.heap /\ zy v u /\ Q v H'
def CR (CX : CXT) (outer : List Env) (P : Program) (w : World) (H : Hp) (s : Shared) (Q : VK) (E : XK) (r : Result) (s' : Shared) : Prop :=
 match r with
 | .ok (.ret u) => CE outer P w H s Q u s'
 | .ok _ => False
 | .error e => CX outer H s E e s'
structure FnOk (P : Program) (w : World) (K : PySem.W.Frag) (mg : Str -> Option Value) (base : Heap) (CX : CXT) (k : Nat) (f : Addr) (fd : FuncData) (ps : List Str) (sp : Sp) : Prop where
 len : ∀ vs H Q E, sp vs H Q E -> vs.length = ps.length
 run : ∀ (A : Around) (outer : List Env) (s : Shared) (H : Hp) (args : Args) (us : List Value) (vs : List V) (Q : VK) (E : XK), Room k A -> Env0 P w K mg base A outer s H -> BindsTo s fd args (ps.zip us) -> zk vs us -> sp vs H Q E ->
  codeAny (model P w) A (.call (.ref f) args) (CR CX outer P w H s Q E) s
theorem FnOk.imp {P : Program} {w : World} {K : PySem.W.Frag} {mg : Str -> Option Value} {base : Heap} {CX : CXT} {k : Nat} {f : Addr} {fd : FuncData} {ps : List Str} {sp sp' : Sp} (F : FnOk P w K mg base CX k f fd ps sp)
  (h : ∀ vs H Q E, sp' vs H Q E -> sp vs H Q E) : FnOk P w K mg base CX k f fd ps sp' :=
 ⟨fun vs H Q E q => F.len vs H Q E (h _ _ _ _ q), fun A outer s H args us vs Q E hr he hb hv hs => F.run A outer s H args us vs Q E hr he hb hv (h _ _ _ _ hs)⟩
section
variable {X : Cx} {zB : List (Addr × Obj)} {σ : St} {H : Hp} {s s' : Shared}
theorem Inv.env0 (I : Inv X zB σ H s) : Env0 X.prog X.w X.K X.mg X.base X.A X.stack s H :=
 ⟨I.ok.frames, I.ok.mod, I.bs, zTF I.ok.bsz I.sz, I.stack, I.stkFree, I.hok, I.bare⟩
theorem Inv.after {Q : VK} {u : Value} (I : Inv X zB σ H s) (h : CE X.stack X.prog X.w H s Q u s') : EP X zB σ Q u s' := by
 obtain ⟨v, H', os, bare, un, hok, r, q⟩ := h;obtain ⟨hh, g, d, t, os'⟩ := s';obtain rfl : os' = s.os := os;exact ⟨v, H', I.call (h' := hh) (g' := g) (d' := d) (t' := t) (ch := []) un hok bare (fun b z => absurd z (by simp)), r, q⟩
end
def zSE (sp : Sp) (dvs : List V) (E : XK) (t : TA) : TE := fun σ H Q => t σ H fun vs H1 => sp (vs ++ dvs) H1 Q E
def zF6 (K : PySem.W.Frag) (fd : FuncData) (ps : List Str) (ds : List Value) : Prop :=
 ∀ (s : Shared) (us : List Value), K.In s.heap -> (us ++ ds).length = ps.length -> BindsTo s fd ⟨us, []⟩ (ps.zip (us ++ ds))
theorem zF6.all {K : PySem.W.Frag} {fd : FuncData} {ps : List Str} (h : ∀ us : List Value, us.length = ps.length -> bindArgs fd ⟨us, []⟩ = pure (ps.zip us)) : zF6 K fd ps [] := fun s us _ hl => by
 rw [zTY] at hl ⊢;exact .of_eq (h us hl)
def zJt (CX : CXT) (X : Cx) (E : XK) : Prop := ∀ (zB : List (Addr × Obj)) (σ : St) (H : Hp) (s : Shared) (e : Value) (s' : Shared), Inv X zB σ H s -> CX X.stack H s E e s' -> X.xe e s'
section
variable {X : Cx} {CX : CXT} {k : Nat} {f C : Addr} {fd : FuncData} {ps : List Str} {sp : Sp} {dvs : List V} {ds : List Value} {E : XK} {x m : Str} {p pos apos : Pos} {e o : Expr} {es : List Expr} {ta : TE} {t : TA}
theorem zQv {zB : List (Addr × Obj)} {σ : St} {H : Hp} {s : Shared} {Q : VK} {us : List Value} {vs : List V} (F : FnOk X.prog X.w X.K X.mg X.base CX k f fd ps sp) (hr : Room k X.A) (hb : zF6 X.K fd ps ds) (hd : zk dvs ds) (hx : zJt CX X E)
  (I : Inv X zB σ H s) (r : zk vs us) (h : sp (vs ++ dvs) H Q E) : wpAny (model X.prog X.w) X.A (call (.ref f) us) (EP X zB σ Q) X.xe s := by
 have r2 : zk (vs ++ dvs) (us ++ ds) := r.append hd;have hl : (us ++ ds).length = ps.length := by rw [<- r2.length]; exact F.len _ _ _ _ h
 refine wpAny_call (codeAny_mono (F.run X.A X.stack s H ⟨us, []⟩ (us ++ ds) (vs ++ dvs) Q E hr I.env0 (hb s us I.kIn hl) r2 h) fun r s' hq => ?_);cases r with
 | error e => exact hx zB σ H s e s' I hq
 | ok fl =>
  cases fl with
  | ret u => exact I.after hq
  | next => exact False.elim hq
  | brk => exact False.elim hq
  | cont => exact False.elim hq
theorem zO0 (F : FnOk X.prog X.w X.K X.mg X.base CX k f fd ps sp) (hr : Room k X.A) (hg : Gl X x) (hm : X.mg x = some (.ref f)) (hk : PySem.W.keepIn X.K (.ref f) = true) (hb : zF6 X.K fd ps ds) (hd : zk dvs ds) (hx : zJt CX X E)
  (ha : PA X (e :: es) t) (hdb : (x == ("__debug__" : Str)) = false := by decide) (he : starEach (e :: es) X.env = (false, eval e X.env) :: starEach es X.env := by rfl) (hpl : (backTo pos (starEach es X.env)).any (·.1) = false := by rfl) :
  PE X (.Call (.Name x p) (e :: es) [] pos) (zSE sp dvs E t) := by
 intro zB s σ H Q I h;refine wpAny_Call_Name_kw (zPC I hg hm ?_ hdb);refine PySem.W.callWith_K (h₀ := X.base) I.ok.mod.kin hk (thn (ha pos zB s σ H _ I h) fun us s1 ⟨vs, H1, I1, r, q⟩ => ⟨I1.kIn, ?_⟩) he hpl;exact zQv F hr hb hd hx I1 r q
end
structure FnScope (N P : List Str) (sc : Scope) : Prop where
 kind : sc.kind = .function
 co : sc.isCoroutine = false
 gen : sc.isGenerator = false
 nd : N.Nodup
 pre : N.take P.length = P
 par : ∀ x ∈ P, sc.names.lookup x = some .local \/ sc.names.lookup x = some .cell
 nofree : ∀ y ∈ sc.names, y.2 ≠ .free
theorem zHI {kindOf : Str -> Option NameKind} {x : Str} : ∀ {binds : List (Str × Value)} {m : Str -> Option Value}, (∀ v, (x, v) ∉ binds) -> bindL kindOf binds m x = m x
 | [], _, _ => rfl
 | (n, v) :: r, m, h => by
  unfold bindL;rw [zHI fun w hw => h w (zS1 _ hw)];split
  ·have : x ≠ n := by rintro rfl; exact h v zS2
   simp [this]
  ·rfl
theorem zHC {kindOf : Str -> Option NameKind} {x : Str} : ∀ {binds : List (Str × Value)} {m : Str -> Option Value}, (∀ v, (x, v) ∉ binds) -> bindC kindOf binds m x = m x
 | [], _, _ => rfl
 | (n, v) :: r, m, h => by
  unfold bindC;rw [zHC fun w hw => h w (zS1 _ hw)];split
  ·rfl
  ·have : x ≠ n := by rintro rfl; exact h v zS2
   simp [this]
theorem zHL {kindOf : Str -> Option NameKind} {x : Str} {v : Value} : ∀ {P : List Str} {vs : List Value} {i : Nat} {m : Str -> Option Value}, P.Nodup -> P[i]? = some x -> vs[i]? = some v -> kindOf x = some .local ->
  bindL kindOf (P.zip vs) m x = some v
 | [], _, _, _, _, h, _, _ => by simp at h
 | _ :: _, [], _, _, _, _, h, _ => by simp at h
 | p :: P, w :: vs, 0, m, nd, h1, h2, hk => by
  simp at h1 h2; subst h1; subst h2;show bindL kindOf ((p, w) :: P.zip vs) m p = _;unfold bindL;rw [zHI fun v hv => (List.nodup_cons.mp nd).1 (List.of_mem_zip hv).1, zS3 hk];simp
 | p :: P, w :: vs, i + 1, m, nd, h1, h2, hk => by
  show bindL kindOf ((p, w) :: P.zip vs) m x = _;unfold bindL;exact zHL (i := i) (List.nodup_cons.mp nd).2 (by simpa using h1) (by simpa using h2) hk
theorem zHV {kindOf : Str -> Option NameKind} {x : Str} {v : Value} : ∀ {P : List Str} {vs : List Value} {i : Nat} {m : Str -> Option Value}, P.Nodup -> P[i]? = some x -> vs[i]? = some v -> kindOf x ≠ some .local ->
  bindC kindOf (P.zip vs) m x = some v
 | [], _, _, _, _, h, _, _ => by simp at h
 | _ :: _, [], _, _, _, _, h, _ => by simp at h
 | p :: P, w :: vs, 0, m, nd, h1, h2, hk => by
  simp at h1 h2; subst h1; subst h2;show bindC kindOf ((p, w) :: P.zip vs) m p = _;unfold bindC;rw [zHC fun v hv => (List.nodup_cons.mp nd).1 (List.of_mem_zip hv).1, zS6 hk];simp
 | p :: P, w :: vs, i + 1, m, nd, h1, h2, hk => by
  show bindC kindOf ((p, w) :: P.zip vs) m x = _;unfold bindC;exact zHV (i := i) (List.nodup_cons.mp nd).2 (by simpa using h1) (by simpa using h2) hk
def zD7 (N : List Str) (vs : List V) : St := vs.map some ++ List.replicate (N.length - vs.length) none
def zKE (CX : CXT) (P : Program) (w : World) (K : PySem.W.Frag) (mg : Str -> Option Value) (base : Heap) (N : List Str) (qual : Str) (scope : Scope) (f : Addr) (cd : Value) (A : Around) (outer : List Env) (s : Shared) (H : Hp) (E : XK) : Cx where
 prog := P
 w := w
 K := K
 mg := mg
 base := base
 A := A.deeper (envOfC qual scope s.heap.objs.size f cd)
 N := N
 s₀ := s
 H₀ := H
 env := envOfC qual scope s.heap.objs.size f cd
 outer := outer
 stack := envOfC qual scope s.heap.objs.size f cd :: outer
 ex := []
 calm := true
 fn := fun _ => true
 pn := []
 xe := fun e s' => wpAny (model P w) (A.deeper (envOfC qual scope s.heap.objs.size f cd)) (leaving (envOfC qual scope s.heap.objs.size f cd) e) (fun _ s'' => CX outer H s E e s'') (fun e' s'' => CX outer H s E e' s'') s'
theorem zGi {sc : Scope} {n : Nat} {x : Str} (h : sc.names.lookup x = some .cell) : ∃ c, (cellsFrom n sc.names []).lookup x = some c := by
 have q := PySem.W.cellsFrom_some sc.names n [] (.inl h);exact Option.isSome_iff_exists.mp q
theorem zMC {CX : CXT} {P : Program} {w : World} {K : PySem.W.Frag} {mg : Str -> Option Value} {base : Heap} {N ps : List Str} {qual : Str} {scope : Scope} {f : Addr} {cd : Value} {A : Around} {outer : List Env} {s s1 : Shared} {H : Hp} {E : XK} {us : List Value} {vs : List V}
  (S : FnScope N ps scope) (hd : A.handled = none) (e0 : Env0 P w K mg base A outer s H) (hl : vs.length = ps.length) (r : zk vs us)
  (x : InCallC s s.heap.objs.size (bindL (envOfC qual scope s.heap.objs.size f cd).kindOf (ps.zip us) fun _ => none) (cellsFrom (s.heap.objs.size + 1) scope.names []) (bindC (envOfC qual scope s.heap.objs.size f cd).kindOf (ps.zip us) fun _ => none) s1) :
  Inv (zKE CX P w K mg base N qual scope f cd A outer s H E) [] (zD7 N vs) H s1 := by
 have hpl : ps.length <= N.length := by have := congrArg List.length S.pre; rw [zUH] at this; omega
 obtain ⟨h1, tk, rfl, hk⟩ := x.done;have noA : ∀ b : Addr, b ∉ (zKE CX P w K mg base N qual scope f cd A outer s H E).ex := fun b z => absurd (show b ∈ ([] : List Addr) from z) (by simp)
 refine ⟨⟨e0.mod, S.kind, rfl, rfl, zSu _, fun y z c h1 h2 => ?_, fun y hy => ?_, fun y c _ h => ?_, fun _ => hd, Around.frames_deeper e0.frames, .inr ⟨rfl, rfl⟩, fun b z => absurd z (noA b), e0.bs, e0.bsz, fun b _ _ => noA b, fun b z => absurd z (noA b), e0.funs, e0.frf⟩,
  rfl, e0.bare, Un.kept hk, ⟨_, x.toInCall.ns, fun i y v h1 h2 h3 => ?_⟩, fun y c h => ⟨_, x.cell y c h⟩, e0.hok.fresh (zSu _), fun y c h => ?_, fun p hp => absurd (show p ∈ ([] : List (Addr × Obj)) from hp) (by simp), e0.hok.kept hk, ?_⟩
 ·exact name_of_addr x.apart (zTq h1) (zTq h2)
 ·have hy : scope.names.lookup y = some .cell \/ scope.names.lookup y = some .free := hy;rcases hy with hy | hy
  ·exact zGi hy
  ·exact absurd rfl (S.nofree _ (zTq hy))
 ·exact Nat.le_of_lt (x.above y c (zTq h))
 ·have hi : i < vs.length := by
   unfold zD7 at h2;by_cases hi : i < vs.length
   ·exact hi
   ·rw [zTy (by simpa using hi)] at h2;rw [List.getElem?_replicate] at h2;split at h2 <;> cases h2
  have ha : vs[i]? = some v := by
   unfold zD7 at h2;rw [zSv (by simpa using hi), zTB] at h2;cases e : vs[i]? with
   | none => rw [e] at h2; cases h2
   | some a => rw [e] at h2; cases h2; rfl
  obtain ⟨u, hu, rv⟩ := r.get ha;have hp : ps[i]? = some y := by
   rw [<- S.pre, List.getElem?_take_of_lt (by omega)]; exact h1
  have ndP : ps.Nodup := by rw [<- S.pre]; exact S.nd.sublist (List.take_sublist _ _)
  refine ⟨u, rv, ?_⟩;rcases S.par y (List.mem_of_getElem? hp) with k | k
  ·exact .inl ⟨k, zHL ndP hp hu k⟩
  ·obtain ⟨c, e⟩ := zGi (n := s.heap.objs.size + 1) k;refine .inr ⟨.inl k, c, e, ?_⟩;have q := x.cell y c e;rw [zHV ndP hp hu (by show scope.names.lookup y ≠ _; rw [k]; decide)] at q;exact q
 ·exact e0.hok.fresh (Nat.le_of_lt (x.above y c (zTq h)))
 ·unfold zD7;show _ = N.length;rw [zS4, zSx, List.length_replicate];omega
theorem zRy {CX : CXT} {P : Program} {w : World} {K : PySem.W.Frag} {mg : Str -> Option Value} {base : Heap} {k : Nat} {f : Addr} {name qual : Str} {params : Arguments} {body : List Stmt} {scope : Scope} {dV kV doc pm cdv ct oc : Value} {an od : Option Addr}
  {osl : Array (Option Value)} {N ps : List Str} {sp : Sp} (lk : K.lookup f = some ⟨oc, od, .func (PySem.W.fnOf name qual params body scope dV kV doc pm an cdv ct), osl⟩) (hcd : PySem.W.codeIn K cdv qual = true) (S : FnScope N ps scope)
  (len : ∀ vs H Q E, sp vs H Q E -> vs.length = ps.length)
  (hbody : ∀ (A : Around) (outer : List Env) (s : Shared) (H : Hp) (vs : List V) (Q : VK) (E : XK), Room k (A.deeper (envOfC qual scope s.heap.objs.size f cdv)) -> sp vs H Q E ->
   ∃ t, PSs (zKE CX P w K mg base N qual scope f cdv A outer s H E) body t /\ t { nx := fun _ H' => Q .non H', rt := Q } (zD7 N vs) H) :
  FnOk P w K mg base CX (k + 1) f (PySem.W.fnOf name qual params body scope dV kV doc pm an cdv ct) ps sp := by
 refine ⟨len, fun A outer s H args us vs Q E hr e0 hb r hsp => ?_⟩;have hl := len _ _ _ _ hsp;have KX : K.In s.heap := e0.mod.kin.keeps fun b o e => (e0.bs b o e).1;have lim : s.heap.NoLimit := e0.mod.nolimit.keeps fun b o e => (e0.bs b o e).1;have hkind : ∀ y ∈ ps.zip us, scope.names.lookup y.1 = some .local \/ (scope.names.lookup y.1 = some .cell /\ ((cellsFrom (s.heap.objs.size + 1) scope.names []).lookup y.1).isSome = true) := fun ⟨n, v⟩ hy => by
  rcases S.par n (List.of_mem_zip hy).1 with q | q
  ·exact .inl q
  ·exact .inr ⟨q, PySem.W.cellsFrom_some _ _ _ (.inl q)⟩
 refine codeAny_call_function hr.depth (KX _ _ lk) rfl S.co S.gen rfl (PySem.W.codeRec_of KX hcd) (hb _ _ _ _ ?_);refine wpAny_newFunctionEnv_cells S.kind hkind fun env he s1 x => ?_;subst he;refine ⟨lim.keeps x.toInCall.keep, codeAny_func ?_⟩;obtain ⟨t, ht, hq⟩ := hbody A outer s H vs Q E (hr.deeper _) hsp;have I : Inv (zKE CX P w K mg base N qual scope f cdv A outer s H E) [] (zD7 N vs) H s1 := zMC S hr.hd e0 hl r x;refine zTK (ht [] s1 (zD7 N vs) H _ I hq) (fun fl s' hs => ?_) fun e s' hs => hs;have fin : ∀ {σ' : St} {H' : Hp} {v : V} {u : Value}, Inv (zKE CX P w K mg base N qual scope f cdv A outer s H E) [] σ' H' s' -> zy v u -> Q v H' -> CE outer P w H s Q u s' :=
  fun {σ' H' v u} J rv q => ⟨v, H', J.os, J.bare, J.base, J.hok, rv, q⟩
 cases fl with
 | ret u =>
  obtain ⟨v, σ', H', J, rv, q⟩ := hs;exact fin J rv q
 | next =>
  obtain ⟨σ', H', J, q⟩ := hs;exact fin (v := V.non) (u := Value.none) J rfl q
 | brk =>
  obtain ⟨_, _, _, q⟩ := hs;exact False.elim q
 | cont =>
  obtain ⟨_, _, _, q⟩ := hs;exact False.elim q
section
variable {X : Cx} {x : Str} {p pos : Pos} {e : Expr} {es : List Expr} {t : TA} {id T : String} {r : List V -> Hp -> VK -> Prop}
def tCB (r : List V -> Hp -> VK -> Prop) (t : TA) : TE := fun σ H Q => t σ H fun vs H1 => r vs H1 Q
theorem zIu (hc : zCJ X (.builtin id) r) (hg : Gl X x) (hm : X.mg x = none) (hv : bootBuiltins x = some (.builtin id)) (ha : PA X (e :: es) t) (hn : x ≠ "__name__" := by decide) (hdb : (x == ("__debug__" : Str)) = false := by decide)
  (he : starEach (e :: es) X.env = (false, eval e X.env) :: starEach es X.env := by rfl) (hpl : (backTo pos (starEach es X.env)).any (·.1) = false := by rfl) : PE X (.Call (.Name x p) (e :: es) [] pos) (tCB r t) := by
 intro zB s σ H Q I h;refine wpAny_Call_Name_kw (zEw I hg hm hv ?_ hn hdb);exact PyProof.Rows.callWith_builtin1 (thn (ha pos zB s σ H _ I h) fun us s1 ⟨vs, H1, I1, r1, q1⟩ => hc zB s1 σ H1 vs us Q I1 r1 q1) he hpl
theorem zC0 (hc : zCJ X (.type T) r) (hg : Gl X x) (hm : X.mg x = none) (hv : bootBuiltins x = some (.type T)) (ha : PA X (e :: es) t) (hn : x ≠ "__name__" := by decide) (hdb : (x == ("__debug__" : Str)) = false := by decide)
  (he : starEach (e :: es) X.env = (false, eval e X.env) :: starEach es X.env := by rfl) (hpl : (backTo pos (starEach es X.env)).any (·.1) = false := by rfl) : PE X (.Call (.Name x p) (e :: es) [] pos) (tCB r t) := by
 intro zB s σ H Q I h;refine wpAny_Call_Name_kw (zEw I hg hm hv ?_ hn hdb);exact PyProof.Rows.callWith_type1 (thn (ha pos zB s σ H _ I h) fun us s1 ⟨vs, H1, I1, r1, q1⟩ => hc zB s1 σ H1 vs us Q I1 r1 q1) he hpl
end
end L2
namespace HT
open PySem PyProof.Rows
section
variable {prog : Program} {w : World} {A : Around} {E : Value -> Shared -> Prop} {s : Shared}
theorem zOp {t b : Addr} {vs ws : List Value} {Q : Value -> Shared -> Prop} (ht : IsTup s.heap t vs.toArray) (hb : IsTup s.heap b ws.toArray) (hv : vs ≠ [])
  (h1 : ws = [] -> Q (.ref t) s) (h2 : ws ≠ [] -> Q (.ref s.heap.objs.size) { s with heap := s.heap.push { cls := .type "tuple", data := .seq (vs ++ ws).toArray } })
  (hsz : vs.length + ws.length <= sizeLine) : wpAny (model prog w) A (binaryOp .Add (.ref t) (.ref b)) Q E s := by
 obtain ⟨⟨cls, dd, data, sl⟩, ho, hc, n, hd⟩ := id ht;obtain ⟨⟨cls2, dd2, data2, sl2⟩, ho2, hc2, n2, hd2⟩ := id hb;simp only at hc hd hc2 hd2;subst hc hd hc2 hd2;have e : vs.toArray ++ ws.toArray = (vs ++ ws).toArray := by simp
 by_cases hw : ws = []
 ·exact concat_meets ⟨_, ho, rfl⟩ ⟨_, ho2, rfl⟩ noFill_tuple_add seq_tuple_add PySem.F.slot_tuple_add PySem.F.entry_tuple_add (PySem.F.args_tuple_add_2 _ _)
   (tuple_addW1 t b vs.toArray ws.toArray n n2 dd dd2 sl sl2 (by simpa using hv) (by simp [hw])) ⟨ho, ho2, h1 hw⟩
 ·refine concat_meets ⟨_, ho, rfl⟩ ⟨_, ho2, rfl⟩ noFill_tuple_add seq_tuple_add PySem.F.slot_tuple_add PySem.F.entry_tuple_add (PySem.F.args_tuple_add_2 _ _)
   (tuple_addW2 t b vs.toArray ws.toArray n n2 dd dd2 sl sl2 (by simpa using hv) (by simpa using hw) (by rw [zSw, zSw]; exact hsz)) ⟨ho, ho2, ?_⟩
  rw [e];exact h2 hw
def sIx (n d : Nat) : Option Int -> Nat
 | none => d
 | some v => if v < 0 then (v + (n : Int)).toNat else min v.toNat n
theorem zOu (n d k : Nat) : sIx n d (some (k : Int)) = min k n := by
 show (if (k : Int) < 0 then ((k : Int) + (n : Int)).toNat else min (k : Int).toNat n) = min k n;rw [zS6 (by omega), Int.toNat_natCast]
theorem zQo (n d : Nat) (hd : d <= n) (o : Option Int) : sIx n d o <= n := by
 cases o with
 | none => exact hd
 | some v =>
  show (if v < 0 then (v + (n : Int)).toNat else min v.toNat n) <= n;by_cases hv : v < 0
  ·rw [zS3 hv]; omega
  ·rw [zS6 hv]; exact Nat.min_le_right _ _
theorem zLC (v : Int) (n d : Nat) : (if v < 0 then max (v + (n : Int)) 0 else min v (n : Int)) = ((sIx n d (some v) : Nat) : Int) := by
 show (if v < 0 then max (v + (n : Int)) 0 else min v (n : Int)) = (((if v < 0 then (v + (n : Int)).toNat else min v.toNat n) : Nat) : Int);by_cases hv : v < 0
 ·simp only [zS3 hv]; omega
 ·simp only [zS6 hv]; omega
theorem zJ2 (lo hi : Option Int) (n : Nat) : Builtin.Slice.sliceAdjust lo hi 1 (n : Int) = (((sIx n 0 lo : Nat) : Int), ((sIx n n hi : Nat) : Int)) := by
 have h1 : ¬ ((1 : Int) < 0) := by omega
 unfold Builtin.Slice.sliceAdjust;simp only [h1, if_false];refine Prod.ext ?_ ?_
 ·cases lo with
  | none => rfl
  | some v => exact zLC v n 0
 ·cases hi with
  | none => rfl
  | some v => exact zLC v n n
theorem zKX (i j : Nat) : Builtin.Slice.slicePlaces (i : Int) (j : Int) 1 = j - i := by
 unfold Builtin.Slice.slicePlaces;have h1 : (1 : Int) > 0 := by omega
 simp only [h1, if_true, Int.ediv_one];split <;> omega
theorem zGC {v : Value} {o : Option Int} {Q : Option Int -> Shared -> Prop} (p : IsPart v o) (h : Q o s) : wpAny (model prog w) A (Builtin.Slice.slicePartIndex v) Q E s := by
 cases p with
 | none => exact slicePart_none h
 | int i t => exact slicePart_int h
theorem zCr {sl : Addr} {vl vu : Value} {lo hi : Option Int} {n : Nat} {Q : Int × Int × Nat -> Shared -> Prop} (hs : s.heap.IsSliceOf sl vl vu .none) (pl : IsPart vl lo) (pu : IsPart vu hi)
  (h : Q (((sIx n 0 lo : Nat) : Int), 1, sIx n n hi - sIx n 0 lo) s) : wpAny (model prog w) A (Builtin.Slice.sliceApplied (.ref sl) (pure (n : Int))) Q E s := by
 obtain ⟨os, hos, hcs, hds⟩ := id hs;unfold Builtin.Slice.sliceApplied Builtin.Slice.sliceFields;refine zSo (zSo (zTT hos hds (x := vl) rfl (zSo (zTT hos hds (x := vu) rfl (zSo (zTT hos hds (x := .none) rfl (zSq ?_)))))));refine zSo (slicePart_none ?_);show wpAny _ _ (if ((1 : Int) == 0) = true then _ else _) _ _ s;rw [zS6 (by decide)];refine zSo (zGC pl (zSo (zGC pu (zSo (zSq ?_)))));show wpAny _ _ (match Builtin.Slice.sliceAdjust lo hi 1 (n : Int) with | (lo, hi) => pure (lo, (1 : Int), Builtin.Slice.slicePlaces lo hi 1)) _ _ s;rw [zJ2 lo hi n];show wpAny _ _ (pure (((sIx n 0 lo : Nat) : Int), (1 : Int), Builtin.Slice.slicePlaces ((sIx n 0 lo : Nat) : Int) ((sIx n n hi : Nat) : Int) 1)) _ _ s;rw [zKX];exact zSq h
theorem zM4 (xs : Array Value) (i k : Nat) : ((List.range k).filterMap fun (m : Nat) => xs[((i : Int) + (m : Int) * 1).toNat]?).toArray = ((xs.toList.drop i).take k).toArray := by
 have e : (fun (m : Nat) => xs[((i : Int) + (m : Int) * 1).toNat]?) = fun m => xs[i + m]? := by
  funext m;have : ((i : Int) + (m : Int) * 1).toNat = i + m := by omega
  rw [this]
 rw [e];have := pick_run xs i k;rw [List.filterMap_map] at this;have e2 : ((fun x => xs[x]?) ∘ fun x => i + x) = fun m => xs[i + m]? := rfl;rw [e2] at this;rw [this]
theorem zEr {t sl : Addr} {items : Array Value} {vl vu : Value} {lo hi : Option Int} {Q : Value -> Shared -> Prop} (ht : IsTup s.heap t items) (hs : s.heap.IsSliceOf sl vl vu .none) (pl : IsPart vl lo) (pu : IsPart vu hi)
  (hw : ¬ (sIx items.size 0 lo = 0 /\ sIx items.size items.size hi = items.size))
  (h : Q (.ref s.heap.objs.size) { s with heap := s.heap.push { cls := .type "tuple", data := .seq ((items.toList.drop (sIx items.size 0 lo)).take (sIx items.size items.size hi - sIx items.size 0 lo)).toArray } })
  (hsz : items.size <= sizeLine) : wpAny (model prog w) A (getItem (.ref t) (.ref sl)) Q E s := by
 have htake : sizeOk (.seq ((items.toList.drop (sIx items.size 0 lo)).take (sIx items.size items.size hi - sIx items.size 0 lo)).toArray) := by
  show ((items.toList.drop (sIx items.size 0 lo)).take (sIx items.size items.size hi - sIx items.size 0 lo)).toArray.size <= sizeLine;rw [zSw, zUH, zVN, zTX];omega
 have hj : sIx items.size items.size hi <= items.size := zQo _ _ (zSu _) hi;obtain ⟨os, hos, hcs, hds⟩ := id hs;have hTs : s.TypeIs (.ref sl) "slice" := ⟨os, hos, hcs⟩;unfold getItem;try with_reducible refine zTh ?_
 first | refine zSo (zSq ?_) | skip
 refine zSo (wpAny_sequenceKey ht.typeIs (by decide) ?_)
 refine zSo (zTQ (name := Str.ofString "__getitem__") ht.typeIs zUS
  (zTR zUS ht.typeIs entry_tuple_getitem ?_ (args_tuple_getitem _ _)))
 show wpAny _ _ (Builtin.Tuple.tupleItemsOf (.ref t) >>= _) _ _ s;refine zSo (tupleItemsOf_ ht ?_);refine zSo (wpAny_typeOf hTs ?_);rw [zS3 (by decide)];refine zSo (zCr hs pl pu ?_);have hno : ¬ ((((sIx items.size 0 lo : Nat) : Int) == 0 && (1 : Int) == 1 && (sIx items.size items.size hi - sIx items.size 0 lo) == items.size) = true) := by
  intro q;rw [zTO, zTO] at q;have q1 : ((sIx items.size 0 lo : Nat) : Int) = 0 := eq_of_beq q.1.1;have q2 : sIx items.size items.size hi - sIx items.size 0 lo = items.size := eq_of_beq q.2;exact hw ⟨by omega, by omega⟩
 show wpAny _ _ (if (((sIx items.size 0 lo : Nat) : Int) == 0 && (1 : Int) == 1 && (sIx items.size items.size hi - sIx items.size 0 lo) == items.size) = true then _ else _) _ _ s;rw [zS6 hno, zM4]
 first
  | exact zSo (m := Builtin.Tuple.tupleExact _) (zTH (zSq ⟨_, rfl, zSq h⟩) htake)
  | exact zSo (m := Builtin.Tuple.tupleExact _) (zTH (zSo (zSq (zSq ⟨_, rfl, zSq h⟩))) htake)
  | exact zSo (zSo (m := Builtin.Tuple.tupleExact _) (zTH (zSq (zSq ⟨_, rfl, zSq h⟩)) htake))
  | exact zSo (zSo (m := Builtin.Tuple.tupleExact _) (zTH (zSq ⟨_, rfl, zSq h⟩) htake))
end
end HT
namespace L2
open PySem PySem.Spec PyProof.Rows
abbrev TO := St -> Hp -> (Option Int -> Hp -> Prop) -> Prop
def PO (X : Cx) (e : Option Expr) (t : TO) : Prop :=
 ∀ (zB : List (Addr × Obj)) (s : Shared) (σ : St) (H : Hp) (Q : Option Int -> Hp -> Prop), Inv X zB σ H s -> t σ H Q ->
  wpAny (model X.prog X.w) X.A (evalPart e X.env) (fun u s' => ∃ o H', Inv X zB σ H' s' /\ IsPart u o /\ Q o H') X.xe s
def zPR : TO := fun _ H Q => Q none H
def zRV (t : TE) : TO := fun σ H Q => t σ H fun x H1 => ∃ i, x = .int i /\ Q (some i) H1
section
variable {X : Cx} {e : Expr} {te : TE} {lo hi : Option Expr} {tl th : TO} {pos p2 : Pos}
theorem zPO : PO X none zPR := by
 intro zB s σ H Q I h;rw [evalPart_none];exact zSq ⟨none, H, I, .none, h⟩
theorem zPY (h : PE X e te) : PO X (some e) (zRV te) := by
 intro zB s σ H Q I hw;rw [evalPart_some];refine thn (h zB s σ H _ I hw) fun u s1 ⟨x, H1, I1, r1, q1⟩ => ?_;obtain ⟨i, rfl, q⟩ := q1;obtain ⟨t, rfl⟩ := r1;exact ⟨some i, H1, I1, .int i t, q⟩
def SlR (X : Cx) (r : V -> Option Int -> Option Int -> Hp -> VK -> Prop) : Prop :=
 ∀ (zB : List (Addr × Obj)) (s : Shared) (σ : St) (H : Hp) (x : V) (v vl vu : Value) (lo hi : Option Int) (sl : Addr) (Q : VK), Inv X zB σ H s -> zy x v -> s.heap.IsSliceOf sl vl vu .none -> IsPart vl lo -> IsPart vu hi -> r x lo hi H Q ->
  ∃ T id, typeLookup (.type T) "__getitem__" = pure (some (.builtin id)) /\ s.TypeIs v T /\ wpAny (model X.prog X.w) X.A (getItem v (.ref sl)) (EP X zB σ Q) X.xe s
theorem SlR.or {r r' : V -> Option Int -> Option Int -> Hp -> VK -> Prop} (h : SlR X r) (h' : SlR X r') : SlR X (fun x lo hi H Q => r x lo hi H Q \/ r' x lo hi H Q) := by
 intro zB s σ H x v vl vu lo hi sl Q I rx hs pl pu q;rcases q with q | q
 ·exact h zB s σ H x v vl vu lo hi sl Q I rx hs pl pu q
 ·exact h' zB s σ H x v vl vu lo hi sl Q I rx hs pl pu q
def tSl (r : V -> Option Int -> Option Int -> Hp -> VK -> Prop) (te : TE) (tl th : TO) : TE := fun σ H Q => te σ H fun x H1 => tl σ H1 fun l H2 => th σ H2 fun u H3 => r x l u H3 Q
theorem zNQ {r : V -> Option Int -> Option Int -> Hp -> VK -> Prop} (hr : SlR X r) (he : PE X e te) (hl : PO X lo tl) (hu : PO X hi th) : PE X (.Subscript e (.Slice lo hi none p2) pos) (tSl r te tl th) := by
 intro zB s σ H Q I h;refine Subscript_ (thn (he zB s σ H _ I h) fun v s1 ⟨x, H1, I1, r1, q1⟩ => ?_);refine wpAny_Slice (thn (hl zB s1 σ H1 _ I1 q1) fun vl s2 ⟨l, H2, I2, pl, q2⟩ => thn (hu zB s2 σ H2 _ I2 q2) fun vu s3 ⟨u, H3, I3, pu, q3⟩ => ?_);rw [evalPart_none];refine zSq ?_;have I4 : Inv X zB σ H3 { s3 with heap := s3.heap.push { cls := .type "slice", data := .fields #[vl, vu, .none] } } := I3.kept (t' := s3.toks) fun b ob q => zSp _ q;obtain ⟨T, id, hT, ht, hg⟩ := hr zB { s3 with heap := s3.heap.push { cls := .type "slice", data := .fields #[vl, vu, .none] } } σ H3 x v vl vu l u s3.heap.objs.size Q I4 r1 (Heap.IsSliceOf.new ..) pl pu q3;show wpAny (model X.prog X.w) X.A (subscriptTail e (.Slice lo hi none p2) v (.ref s3.heap.objs.size)) (EP X zB σ Q) X.xe { s3 with heap := s3.heap.push { cls := .type "slice", data := .fields #[vl, vu, .none] } };exact tail_any (ops := [.ref s3.heap.objs.size, v]) ht hT hg (by with_unfolding_all rfl)
def zJK (xs : List V) (lo hi : Option Int) : List V := (xs.drop (HT.sIx xs.length 0 lo)).take (HT.sIx xs.length xs.length hi - HT.sIx xs.length 0 lo)
theorem zFL (xs : List V) (lo hi : Option Int) : (zJK xs lo hi).length <= xs.length := by
 unfold zJK;rw [zUH, zVN];omega
def zST (K : PySem.W.Frag) : V -> Option Int -> Option Int -> Hp -> VK -> Prop := fun x lo hi H Q => ∃ a xs, x = .ref a /\ SqT K H a xs /\
 ¬ (HT.sIx xs.length 0 lo = 0 /\ HT.sIx xs.length xs.length hi = xs.length) /\ ∀ p, H p = none -> Q (.ref p) (upd H p (.tup (zJK xs lo hi)))
theorem zQt : SlR X (zST X.K) := by
 intro zB s σ H x v vl vu lo hi sl Q I rx hs pl pu h;obtain ⟨a, xs, rfl, hx, hw, q⟩ := h;cases rx;obtain ⟨its, r, ht, hz⟩ := I.tuple hx;have hlen : its.toArray.size = xs.length := by rw [zSw]; exact r.length.symm
 refine ⟨"tuple", _, zUS.lookup, ht.typeIs, ?_⟩;refine HT.zEr ht hs pl pu (by rw [hlen]; exact hw) ?_ (by rw [hlen]; exact hz);rw [hlen];refine ⟨.ref s.heap.objs.size, _, I.laid (t' := s.toks) (o := .tup (zJK xs lo hi)) (fun b ob q => zSp _ q) (zSu _) ?_, rfl, q _ (I.hok.fresh (zSu _))⟩;exact ⟨zTF (zFL xs lo hi) hz, _, (r.drop (HT.sIx xs.length 0 lo)).take (HT.sIx xs.length xs.length hi - HT.sIx xs.length 0 lo), zCL.new _ _⟩
def zPx (K : PySem.W.Frag) : R2 := fun x y H Q => ∃ a b xs ys, x = .ref a /\ y = .ref b /\ SqT K H a xs /\ SqT K H b ys /\ xs ≠ [] /\ xs.length + ys.length <= sizeLine /\
 (ys = [] -> Q (.ref a) H) /\ (ys ≠ [] -> ∀ p, H p = none -> Q (.ref p) (upd H p (.tup (xs ++ ys))))
theorem zk.nil_iff {xs : List V} {us : List Value} (r : zk xs us) : us = [] ↔ xs = [] := by
 cases r with
 | nil => simp
 | cons _ _ => simp
theorem zOy : OpR X (binaryOp .Add) (zPx X.K) := by
 intro zB s σ H x y v u Q I rx ry h;obtain ⟨a, b, xs, ys, rfl, rfl, ha, hb, hx, hz, q1, q2⟩ := h;cases rx;cases ry;obtain ⟨its, r1, p1, _⟩ := I.tuple ha;obtain ⟨its2, r2, p2, _⟩ := I.tuple hb;refine HT.zOp p1 p2 (fun z => hx (r1.nil_iff.mp z)) (fun z => ⟨.ref a, H, I, rfl, q1 (r2.nil_iff.mp z)⟩) (fun z => ?_) (by rw [<- r1.length, <- r2.length]; exact hz);refine ⟨.ref s.heap.objs.size, _, I.laid (t' := s.toks) (o := .tup (xs ++ ys)) (fun b ob q => zSp _ q) (zSu _) ?_, rfl, q2 (fun w => z (r2.nil_iff.mpr w)) _ (I.hok.fresh (zSu _))⟩;exact ⟨by rw [zS4]; exact hz, _, r1.append r2, zCL.new _ _⟩
end
def ixN (n : Nat) (i : Int) : Option Nat := if 0 <= i then (if i < n then some i.toNat else none) else if -(n : Int) <= i then some (i + n).toNat else none
def atI {α : Type} (xs : List α) (i : Int) : Option α := (ixN xs.length i).bind fun j => xs[j]?
theorem zIO {n : Nat} {i : Int} {j : Nat} (h : ixN n i = some j) : seqIndex? i n = some j /\ j < n /\ -(n : Int) <= i /\ i < n := by
 unfold ixN at h;by_cases h0 : 0 <= i
 ·rw [zS3 h0] at h;by_cases h1 : i < n
  ·rw [zS3 h1] at h;have e : i.toNat = j := zTo h;exact ⟨by rw [seqIndex_of h0 h1, e], by omega, by omega, h1⟩
  ·rw [zS6 h1] at h; cases h
 ·rw [zS6 h0] at h;by_cases h1 : -(n : Int) <= i
  ·rw [zS3 h1] at h;have e : (i + n).toNat = j := zTo h;exact ⟨by rw [seqIndex_neg (by omega) h1, e], by omega, h1, by omega⟩
  ·rw [zS6 h1] at h; cases h
theorem zIA {α : Type} {xs : List α} {i : Int} {v : α} (h : atI xs i = some v) : ∃ j, seqIndex? i xs.length = some j /\ xs[j]? = some v /\ j < xs.length /\ -(xs.length : Int) <= i /\ i < xs.length := by
 unfold atI at h;cases e : ixN xs.length i with
 | none => rw [e] at h; cases h
 | some j =>
  rw [e] at h;obtain ⟨h1, h2, h3, h4⟩ := zIO e;exact ⟨j, h1, h, h2, h3, h4⟩
theorem zLG {α : Type} {xs : List α} {j : Nat} {v : α} (h : xs[j]? = some v) : atI xs (j : Int) = some v := by
 have hj : j < xs.length := (zSr.mp h).1;have e : ixN xs.length (j : Int) = some j := by
  unfold ixN;rw [zS3 (by omega), zS3 (by omega)]; simp
 unfold atI; rw [e]; exact h
def zKt (b : Expr) : Prop := ∀ o i, subscripted b false o i = operate [o, i] (getItem o i)
def IxR (X : Cx) (r : R2) : Prop :=
 ∀ (value slice : Expr) (zB : List (Addr × Obj)) (s : Shared) (σ : St) (H : Hp) (x y : V) (v u : Value) (Q : VK), Inv X zB σ H s -> zy x v -> zy y u -> r x y H Q ->
  subscripted slice false v u = operate [v, u] (getItem v u) -> wpAny (model X.prog X.w) X.A (subscriptTail value slice v u) (EP X zB σ Q) X.xe s
def MtR (X : Cx) (id : String) (r : V -> List V -> Hp -> VK -> Prop) : Prop :=
 ∀ (zB : List (Addr × Obj)) (s : Shared) (σ : St) (H : Hp) (x : V) (xs : List V) (v : Value) (us : List Value) (Q : VK), Inv X zB σ H s -> zy x v -> zk xs us -> r x xs H Q ->
  wpAny (model X.prog X.w) X.A (call (.builtin id) (v :: us)) (EP X zB σ Q) X.xe s
section
variable {X : Cx} {a b : Expr} {ta tb : TE} {pos : Pos}
theorem IxR.or {r r' : R2} (h : IxR X r) (h' : IxR X r') : IxR X (fun x y H Q => r x y H Q \/ r' x y H Q) := by
 intro value slice zB s σ H x y v u Q I rx ry q hs;rcases q with q | q
 ·exact h value slice zB s σ H x y v u Q I rx ry q hs
 ·exact h' value slice zB s σ H x y v u Q I rx ry q hs
theorem zRc {r : R2} (hr : IxR X r) (ha : PE X a ta) (hb : PE X b tb) (hs : zKt b) : PE X (.Subscript a b pos) (tOp r ta tb) := by
 intro zB s σ H Q I h;exact Subscript_ (zQx ha hb I h fun v u s2 x y H2 I2 rx ry q => hr a b zB s2 σ H2 x y v u Q I2 rx ry q (hs _ _))
def zR6 (K : PySem.W.Frag) : R2 := fun x y H Q => ∃ p xs i v, x = .ref p /\ y = .int i /\ SqL K H p xs /\ atI xs i = some v /\ Q v H
def zR3 (K : PySem.W.Frag) : R2 := fun x y H Q => ∃ p xs i v, x = .ref p /\ y = .int i /\ SqT K H p xs /\ atI xs i = some v /\ Q v H
def zRj : R2 := fun x y H Q => ∃ z i c, x = .str z /\ y = .int i /\ z.length <= sizeLine /\ atI z.cps.toList i = some c /\ Q (.str ⟨#[c]⟩) H
theorem zPI : IxR X (zR6 X.K) := by
 intro value slice zB s σ H x y v u Q I rx ry h hs;obtain ⟨p, xs, i, z, rfl, rfl, hq, he, q⟩ := h;cases rx;obtain ⟨t, rfl⟩ := ry;obtain ⟨its, r, pl, hz⟩ := I.list hq;obtain ⟨j, h1, h2, h3, h4, h5⟩ := zIA he;obtain ⟨w, ew, rw'⟩ := r.get h2;have hl := r.length;have hn := zEv;have fin : EP X zB σ Q w s := ⟨z, H, I, rw', q⟩;by_cases h0 : 0 <= i
 ·have hj : i.toNat = j := by
   rw [seqIndex_of h0 h5] at h1;exact zTo h1
  exact item_listR pl.isList h0 (by omega) (by rw [hj]; simpa using ew) fin hs
 ·have hj : (i + (its.toArray.size : Int)).toNat = j := by
   rw [seqIndex_neg (by omega) h4] at h1;rw [zSw, <- hl];exact zTo h1
  exact subscriptTail_builtinR (x := w) pl.isList.typeIs slot_list_getitem.lookup
   (wpAny_getItem_list_neg (Q := fun r s' => r = w /\ EP X zB σ Q r s') pl.isList (by omega) (by rw [zSw] <;> omega) (by omega) (by rw [hj]; simpa using ew) ⟨rfl, fin⟩) hs
theorem zQg : IxR X (zR3 X.K) := by
 intro value slice zB s σ H x y v u Q I rx ry h hs;obtain ⟨p, xs, i, z, rfl, rfl, hq, he, q⟩ := h;cases rx;obtain ⟨t, rfl⟩ := ry;obtain ⟨its, r, pl, hz⟩ := I.tuple hq;obtain ⟨j, h1, h2, h3, h4, h5⟩ := zIA he;obtain ⟨w, ew, rw'⟩ := r.get h2;have hl := r.length;have hn := zEv;have fin : EP X zB σ Q w s := ⟨z, H, I, rw', q⟩
 exact subscriptTail_builtinR (x := w) pl.typeIs slot_tuple_getitem.lookup
  (getItem_tuple (j := j) (Q := fun r s' => r = w /\ EP X zB σ Q r s') pl (by omega) (by omega) (by rw [zSw, <- hl]; exact h1) (by simpa using ew) ⟨rfl, fin⟩) hs
theorem zRE : IxR X zRj := by
 intro value slice zB s σ H x y v u Q I rx ry h hs;obtain ⟨z, i, c, rfl, rfl, hz, he, q⟩ := h;obtain ⟨t, rfl⟩ := rx;obtain ⟨t', rfl⟩ := ry;obtain ⟨j, h1, h2, h3, h4, h5⟩ := zIA he;have hl : z.cps.toList.length = z.length := by simp [Str.length]
 rw [hl] at h1 h4 h5;have hn := zEv;exact tail_any (typeIs_str s z t) slot_str_getitem.lookup (getItem_str (c := c) (by
  have e1 : decide (i < -(2 ^ 63 : Int)) = false := zTN (by omega);have e2 : decide (i ≥ 2 ^ 63) = false := zTN (by omega);rw [e1, e2, Bool.or_false]) (by rw [h1]; simpa using h2) ⟨.str ⟨#[c]⟩, H, I.tok _, ⟨_, rfl⟩, q⟩) hs
def rIx (K : PySem.W.Frag) : R2 := fun x y H Q => zR6 K x y H Q \/ zR3 K x y H Q \/ zRj x y H Q
theorem zQ2 : IxR X (rIx X.K) := zPI.or (zQg.or zRE)
theorem zKd (its : List Value) (n j : Nat) (u : Value) : Obj.mapSeq (·.setIfInBounds j u) { cls := .type "list", data := .seq its.toArray n } = { cls := .type "list", data := .seq (its.set j u).toArray n } := by
 simp [Obj.mapSeq]
theorem Inv.lst {zB : List (Addr × Obj)} {σ : St} {H : Hp} {s : Shared} {p : Addr} {xs : List V} (I : Inv X zB σ H s) (h : H p = some (.lst xs)) :
  ∃ (its : List Value) (n : Nat), zk xs its /\ s.heap.get? p = some { cls := .type "list", data := .seq its.toArray n } /\ xs.length <= sizeLine := by
 obtain ⟨z, its, n, r, e⟩ := I.hok p _ h;exact ⟨its, n, r, e, z⟩
theorem Inv.lstUpd {zB : List (Addr × Obj)} {σ : St} {H : Hp} {s : Shared} {p : Addr} {xs ys : List V} {its its' : List Value} {n n' : Nat} {f : Obj -> Obj} (I : Inv X zB σ H s) (h : H p = some (.lst xs))
  (ho : s.heap.get? p = some { cls := .type "list", data := .seq its.toArray n }) (hf : f { cls := .type "list", data := .seq its.toArray n } = { cls := .type "list", data := .seq its'.toArray n' }) (r : zk ys its') (hz : ys.length <= sizeLine) (t : Nat) :
  Inv X zB σ (upd H p (.lst ys)) { s with heap := s.heap.update p f, toks := t } := by
 have e : (s.heap.update p f).get? p = some { cls := .type "list", data := .seq its'.toArray n' } := by
  rw [zTb f ho (by rw [hf] <;> rfl), hf]
 refine I.write (x := p) (e := p) (by rw [h]; trivial) (.inl rfl) (fun b u hb q => (zTV _ _ (Ne.symm hb)).trans q) ⟨_, e⟩ ?_;exact ⟨hz, its', n', r, e⟩
def zRx : V -> V -> V -> Hp -> (Hp -> Prop) -> Prop := fun o i v H Q => ∃ p xs k j, o = .ref p /\ i = .int k /\ H p = some (.lst xs) /\ ixN xs.length k = some j /\ Q (upd H p (.lst (xs.set j v)))
theorem zNz : zRp X zRx := by
 intro zB s σ H o i v ov iv u Q I ro ri rv h;obtain ⟨p, xs, k, j, rfl, rfl, hp, hj, q⟩ := h;cases ro;obtain ⟨t, rfl⟩ := ri;obtain ⟨its, n, r, ho, hz⟩ := I.lst hp;obtain ⟨h1, h2, h3, h4⟩ := zIO hj;have hl := r.length;have hn := zEv;have I' : Inv X zB σ (upd H p (.lst (xs.set j v))) { s with heap := s.heap.update p (Obj.mapSeq (·.setIfInBounds j u)) } :=
  I.lstUpd hp ho (zKd its n j u) (r.set rv j) (by rw [zVD]; exact hz) s.toks
 by_cases h0 : 0 <= k
 ·have hk : k.toNat = j := by
   rw [seqIndex_of h0 h4] at h1;exact zTo h1
  exact PySem.W.ki_setAt ho h0 (by omega) (by rw [zSw, <- hl]; exact h4) (by rw [hk]; exact ⟨_, I', q⟩)
 ·have hk : (k + (its.toArray.size : Int)).toNat = j := by
   rw [seqIndex_neg (by omega) h3] at h1;rw [zSw, <- hl];exact zTo h1
  exact PySem.W.ki_setBack ho (by omega) (by rw [zSw, <- hl]; exact h3) (by omega) (by rw [hk]; exact ⟨_, I', q⟩)
theorem zHr (lo hi : Option Int) (n : Nat) : (sliceBounds lo hi none n).1 = ((HT.sIx n 0 lo : Nat) : Int) /\ (sliceBounds lo hi none n).2.1 = ((HT.sIx n n hi : Nat) : Int) /\ (sliceBounds lo hi none n).2.2 = 1 := by
 refine ⟨?_, ?_, rfl⟩
 ·cases lo with
  | none => simp [sliceBounds, HT.sIx]
  | some i =>
   simp only [sliceBounds, HT.sIx, Option.getD_none, show (1 : Int) > 0 by decide, if_true];by_cases h : i < 0
   ·simp only [h, if_true] <;> omega
   ·simp only [h, if_false] <;> omega
 ·cases hi with
  | none => simp [sliceBounds, HT.sIx]
  | some i =>
   simp only [sliceBounds, HT.sIx, Option.getD_none, show (1 : Int) > 0 by decide, if_true];by_cases h : i < 0
   ·simp only [h, if_true] <;> omega
   ·simp only [h, if_false] <;> omega
theorem zGp (its : List Value) (lo hi : Option Int) : slicePick its.toArray lo hi none = ((its.drop (HT.sIx its.length 0 lo)).take (HT.sIx its.length its.length hi - HT.sIx its.length 0 lo)).toArray := by
 obtain ⟨h1, h2, h3⟩ := zHr lo hi its.toArray.size;unfold slicePick;rw [h1, h2, h3];simp only [sliceRange_one, pick_run, zSw] <;> rfl
def zSl (K : PySem.W.Frag) : V -> Option Int -> Option Int -> Hp -> VK -> Prop := fun x lo hi H Q => ∃ a xs, x = .ref a /\ SqL K H a xs /\ ∀ p, H p = none -> Q (.ref p) (upd H p (.lst (zJK xs lo hi)))
theorem zPm : SlR X (zSl X.K) := by
 intro zB s σ H x v vl vu lo hi sl Q I rx hs pl pu h;obtain ⟨a, xs, rfl, hx, q⟩ := h;cases rx;obtain ⟨its, r, ht, hz⟩ := I.list hx;have hlen := r.length;refine ⟨"list", _, slot_list_getitem.lookup, ht.isList.typeIs, ?_⟩;refine wpAny_getItem_list_slice ht.isList hs pl pu .none (by simp) ?_ (by rw [zSw] <;> omega);rw [zGp, <- hlen];refine ⟨.ref s.heap.objs.size, _, I.laid (t' := s.toks) (o := .lst (zJK xs lo hi)) (fun b ob q => zSp _ q) (zSu _) ?_, rfl, q _ (I.hok.fresh (zSu _))⟩;exact ⟨zTF (zFL xs lo hi) hz, _, 0, (r.drop (HT.sIx xs.length 0 lo)).take (HT.sIx xs.length xs.length hi - HT.sIx xs.length 0 lo), zSy _ rfl⟩
theorem zIV : zCJ X (.builtin "len") (fun xs H Q => ∃ p ys, xs = [.ref p] /\ (SqL X.K H p ys \/ SqT X.K H p ys) /\ Q (.int ys.length) H) := by
 intro zB s σ H xs us Q I r h;obtain ⟨p, ys, rfl, hq, q⟩ := h;obtain ⟨u, rfl, rx⟩ := zES r;cases rx;have hn := zEv;rcases hq with hq | hq
 ·obtain ⟨its, r', pl, hz⟩ := I.list hq;have hlen := r'.length;exact Calls.call_len_list pl.isList (by simp only [zSw] <;> omega) ⟨.int ys.length, H, I.tok _, ⟨s.toks + 1, by rw [zSw, hlen]⟩, q⟩
 ·obtain ⟨its, r', pl, hz⟩ := I.tuple hq;have hlen := r'.length;exact len_tuple pl (by simp only [zSw] <;> omega) ⟨.int ys.length, H, I.tok _, ⟨s.toks + 1, by rw [zSw, hlen]⟩, q⟩
theorem zGr : zCJ X (.type "tuple") (fun xs H Q => ∃ p ys, xs = [.ref p] /\ ((SqL X.K H p ys /\ ∀ l, H l = none -> Q (.ref l) (upd H l (.tup ys))) \/ (SqT X.K H p ys /\ Q (.ref p) H))) := by
 intro zB s σ H xs us Q I r h;obtain ⟨p, ys, rfl, h⟩ := h;obtain ⟨u, rfl, rx⟩ := zES r;cases rx;rcases h with ⟨hq, q⟩ | ⟨hq, q⟩
 ·obtain ⟨its, r', pl, hz⟩ := I.list hq;have hlen := r'.length;refine call_tuple_list pl.isList (fun h' kp => ?_) (by simp only [zSw] <;> omega);have I1 : Inv X zB σ H { s with heap := h' } := I.kept (t' := s.toks) kp;have I2 : Inv X zB σ (upd H h'.objs.size (.tup ys)) { s with heap := h'.push { cls := .type "tuple", data := .seq its.toArray } } :=
   I1.laid (t' := s.toks) (fun b o e => zSp _ e) (zSu _) (show zAX X.prog X.w _ _ _ (.tup ys) from ⟨hz, its, r', zCL.new _ _⟩)
  exact ⟨.ref h'.objs.size, _, I2, rfl, q _ (I1.hok.fresh (zSu _))⟩
 ·obtain ⟨its, r', pl, hz⟩ := I.tuple hq;exact call_tuple_same pl ⟨.ref p, H, I, rfl, q⟩
def tyV (K : PySem.W.Frag) (T : String) (x : V) (H : Hp) : Prop := match x with
 | .str _ => T = "str"
 | .int _ => T = "int"
 | .ref p => (T = "list" /\ ∃ xs, SqL K H p xs) \/ (T = "tuple" /\ ((∃ o, K.lookup p = some o /\ o.cls = .type "tuple" /\ o.dict = none) \/ ∃ xs, H p = some (.tup xs))) \/
   (T = "dict" /\ ((∃ kvs, H p = some (.dK kvs)) \/ ∃ kvs, H p = some (.dT kvs))) \/ (T = "set" /\ ∃ S n, H p = some (.set S n))
 | _ => False
theorem zNA {zB : List (Addr × Obj)} {σ : St} {H : Hp} {s : Shared} {T : String} {x : V} {v : Value} (I : Inv X zB σ H s) (r : zy x v) (ty : tyV X.K T x H) :
  s.TypeIs v T /\ ∀ a, v = .ref a -> ∃ ob, s.heap.get? a = some ob /\ ob.dict = none := by
 cases x with
 | str z =>
  obtain ⟨t, rfl⟩ := r;cases (show T = "str" from ty);exact ⟨typeIs_str s z t, fun _ e => nomatch e⟩
 | int i =>
  obtain ⟨t, rfl⟩ := r;cases (show T = "int" from ty);exact ⟨typeIs_int s i t, fun _ e => nomatch e⟩
 | ref p =>
  cases r;rcases ty with ⟨rfl, xs, hq⟩ | ⟨rfl, ⟨o, hk, hc, hd⟩ | ⟨xs, hq⟩⟩ | ⟨rfl, hk⟩ | ⟨rfl, S, n, hk⟩
  ·obtain ⟨its, _, pl, _⟩ := I.list hq;refine ⟨pl.isList.typeIs, fun a e => ?_⟩;cases e;obtain ⟨o, n, e, c, hd, _⟩ := pl;exact ⟨o, e, hd⟩
  ·refine ⟨⟨o, I.kIn p o hk, hc⟩, fun a e => ?_⟩;cases e;exact ⟨o, I.kIn _ o hk, hd⟩
  ·obtain ⟨_, its, _, o, e, c, _, hd⟩ := I.hok p _ hq;refine ⟨⟨o, e, c⟩, fun a e2 => ?_⟩;cases e2;exact ⟨o, e, hd⟩
  ·have z : ∃ o, s.heap.get? p = some o /\ o.ExactDict := by
    rcases hk with ⟨kvs, hk⟩ | ⟨kvs, hk⟩
    ·obtain ⟨_, _, _, _, o, _, _, e, ex, _⟩ := I.hok p _ hk;exact ⟨o, e, ex⟩
    ·obtain ⟨_, _, _, _, o, _, _, e, ex, _⟩ := I.hok p _ hk;exact ⟨o, e, ex⟩
   obtain ⟨o, e, ex⟩ := z;refine ⟨⟨o, e, ex.1⟩, fun a e2 => ?_⟩;cases e2;exact ⟨o, e, ex.2.1⟩
  ·obtain ⟨o, _, _, _, e, ex, _⟩ := I.hok p _ hk;refine ⟨⟨o, e, ex.1⟩, fun a e2 => ?_⟩;cases e2;exact ⟨o, e, ex.2.1⟩
 | _ => exact False.elim ty
def zSR (K : PySem.W.Frag) (T : String) (r : V -> List V -> Hp -> VK -> Prop) (to : TE) : TE := fun σ H Q => to σ H fun x H1 => tyV K T x H1 /\ r x [] H1 Q
def tBM (K : PySem.W.Frag) (T : String) (r : V -> List V -> Hp -> VK -> Prop) (to : TE) (t : TA) : TE := fun σ H Q => to σ H fun x H1 => tyV K T x H1 /\ t σ H1 fun xs H2 => r x xs H2 Q
variable {o e : Expr} {es : List Expr} {to : TE} {t : TA} {name : Str} {apos cpos : Pos} {T id : String} {r : V -> List V -> Hp -> VK -> Prop}
theorem zRP (pa : PlainAttrs T) (slot : Slot T name id) (hty : typeOf (.builtin id) = pure (.type "method_descriptor")) (hm : MtR X id r) (ho : PE X o to)
  (hbase : attributeBase o name X.env (eval o X.env) = eval o X.env := by rfl) (hline : (apos.endLine == cpos.line) = true := by rfl) : PE X (.Call (.Attribute o name apos) [] [] cpos) (zSR X.K T r to) := by
 intro zB s σ H Q I h;refine wpAny_Call_method0_late hbase hline (thn (ho zB s σ H _ I h) fun v s1 ⟨x, H1, I1, r1, ty, q1⟩ => ?_);obtain ⟨h1, h2⟩ := zNA I1 r1 ty;exact ⟨T, id, pa, slot, hty, h1, h2, Calls.callWith_builtin rfl (PySem.evalArgs_none (hm zB s1 σ H1 x [] v [] Q I1 r1 .nil q1))⟩
theorem zKu (pa : PlainAttrs T) (slot : Slot T name id) (hty : typeOf (.builtin id) = pure (.type "method_descriptor")) (hm : MtR X id r) (ho : PE X o to) (ha : PA X (e :: es) t)
  (hbase : attributeBase o name X.env (eval o X.env) = eval o X.env := by rfl)
  (hfew : ((backTo cpos (starEach (e :: es) X.env)).all (fun x => !x.1) && (backToKw cpos (keywordEach [] X.env)).all (fun x => x.1.isSome)
   && decide ((e :: es).length + ([] : List Keyword).length + (if ([] : List Keyword).isEmpty then 0 else 1) < 30)) = true := by rfl)
  (hline : (apos.endLine == cpos.line) = true := by rfl) (hs : starEach (e :: es) X.env = (false, eval e X.env) :: starEach es X.env := by rfl) (hplain : (backTo cpos (starEach es X.env)).any (·.1) = false := by rfl) :
  PE X (.Call (.Attribute o name apos) (e :: es) [] cpos) (tBM X.K T r to t) := by
 intro zB s σ H Q I h;refine wpAny_Call_method_late hbase hfew hline rfl (thn (ho zB s σ H _ I h) fun v s1 ⟨x, H1, I1, r1, ty, q1⟩ => ?_);obtain ⟨h1, h2⟩ := zNA I1 r1 ty;refine ⟨T, id, pa, slot, hty, h1, h2, ?_⟩;have hA := ha cpos zB s1 σ H1 _ I1 q1;rw [hs] at hA ⊢;refine Calls.callWith_builtin (by show (false || (backTo cpos (starEach es X.env)).any (·.1)) = false; rw [hplain] <;> rfl) (Calls.evalArgs_plain ?_);exact thn hA fun us s2 ⟨vs, H2, I2, r2, q2⟩ => hm zB s2 σ H2 x vs v us Q I2 r1 r2 q2
end
def MtM (X : Cx) (id : String) (r : V -> List V -> Hp -> VK -> Prop) : Prop :=
 ∀ (zB : List (Addr × Obj)) (s : Shared) (σ : St) (H : Hp) (x : V) (xs : List V) (v : Value) (us : List Value) (Q : VK), Inv X zB σ H s -> zy x v -> zk xs us -> r x xs H Q ->
  wpAny (model X.prog X.w) X.A (call (.builtin id) (v :: us)) (EP X zB σ Q) X.xe s
theorem zk.one : ∀ {x : V} {us : List Value}, zk [x] us -> ∃ u, us = [u] /\ zy x u
 | _, _, .cons r .nil => ⟨_, rfl, r⟩
theorem zk.two : ∀ {x y : V} {us : List Value}, zk [x, y] us -> ∃ u v, us = [u, v] /\ zy x u /\ zy y v
 | _, _, _, .cons r (.cons q .nil) => ⟨_, _, rfl, r, q⟩
theorem zk.zero : ∀ {us : List Value}, zk [] us -> us = []
 | _, .nil => rfl
theorem zk.dropLast {xs : List V} {us : List Value} (h : zk xs us) : zk xs.dropLast us.dropLast := by
 induction h with
 | nil => exact .nil
 | cons r t ih =>
  cases t with
  | nil => exact .nil
  | cons q t' => exact .cons r ih
theorem zk.eraseIdx : ∀ {xs : List V} {us : List Value} (i : Nat), zk xs us -> zk (xs.eraseIdx i) (us.eraseIdx i)
 | _, _, _, .nil => .nil
 | _, _, 0, .cons _ t => t
 | _, _, i + 1, .cons r t => .cons r (zk.eraseIdx i t)
theorem zEE {α : Type} (l : List α) : l.eraseIdx (l.length - 1) = l.dropLast := by
 induction l with
 | nil => rfl
 | cons a r ih =>
  cases r with
  | nil => rfl
  | cons b r =>
   have e : (a :: b :: r).length - 1 = ((b :: r).length - 1) + 1 := by
    have h1 : (a :: b :: r).length = r.length + 2 := rfl;have h2 : (b :: r).length = r.length + 1 := rfl;omega
   rw [e, List.eraseIdx_cons_succ, ih];all_goals rfl
theorem zHU {α : Type} : ∀ (l : List α) (i : Nat), (l.eraseIdx i).length <= l.length
 | [], _ => zSu _
 | _ :: _, 0 => Nat.le_succ _
 | _ :: r, i + 1 => Nat.succ_le_succ (zHU r i)
section
variable {X : Cx} {zB : List (Addr × Obj)} {σ : St} {H : Hp} {s : Shared} {l b : Addr} {xs ys zs : List V}
theorem Inv.lset {its its' : List Value} {n : Nat} {f : Array Value -> Array Value} {t' : Nat} (I : Inv X zB σ H s) (hH : H l = some (.lst xs))
  (e : s.heap.get? l = some { cls := .type "list", data := .seq its.toArray n }) (hf : f its.toArray = its'.toArray) (hv : zk ys its') (hz : ys.length <= sizeLine) :
  Inv X zB σ (upd H l (.lst ys)) { s with heap := s.heap.update l (Obj.mapSeq f), toks := t' } := by
 have q := PySem.IsL.update e f;rw [hf] at q;refine I.write (x := l) (e := l) (by rw [hH]; exact trivial) (.inl rfl) (fun b' u hb hu => (zTV s.heap (Obj.mapSeq f) (Ne.symm hb)).trans hu) ⟨_, q⟩ ?_;exact ⟨hz, its', _, hv, q⟩
theorem Inv.lnew {its : List Value} {t' : Nat} (I : Inv X zB σ H s) (hv : zk ys its) (hz : ys.length <= sizeLine) :
  Inv X zB σ (upd H s.heap.objs.size (.lst ys)) { s with heap := s.heap.push { cls := .type "list", data := .seq its.toArray }, toks := t' } :=
 I.laid (fun _ _ q => zSp _ q) (zSu _) ⟨hz, its, 0, hv, zSy _ rfl⟩
theorem Inv.fresh (I : Inv X zB σ H s) : H s.heap.objs.size = none := I.hok.fresh (zSu _)
theorem Inv.lstM (I : Inv X zB σ H s) (hH : H l = some (.lst xs)) : xs.length <= sizeLine /\ ∃ (its : List Value) (n : Nat), zk xs its /\ xs.length = its.length /\ s.heap.get? l = some { cls := .type "list", data := .seq its.toArray n } := by
 obtain ⟨z, its, n, r, e⟩ := I.hok l _ hH;exact ⟨z, its, n, r, r.length, e⟩
theorem zM2 {n : Nat} (h : n <= sizeLine) : Builtin.List.listTooLong n = false := by
 unfold Builtin.List.listTooLong;exact zTN (by omega)
end
section
variable {X : Cx}
def zKk : V -> List V -> Hp -> VK -> Prop := fun x vs H Q => ∃ l xs y, x = .ref l /\ vs = [y] /\ H l = some (.lst xs) /\ xs.length < sizeLine /\ Q .non (upd H l (.lst (xs ++ [y])))
theorem zMI : MtM X "list.append" zKk := by
 intro zB s σ H x vs v us Q I rx rv h;obtain ⟨l, xs, y, rfl, rfl, hH, hz, q⟩ := h;cases rx;obtain ⟨u, rfl, ru⟩ := rv.one;obtain ⟨z, its, n, r, hl, e⟩ := I.lstM hH;refine call_meets F.slot_list_append ⟨_, e, rfl⟩ F.entry_list_append (F.args_list_append_2 _ _) (PySem.list_append l its.toArray n u (by rw [zSw]; omega)) ⟨e, ?_⟩;refine ⟨.non, _, I.lset (its' := its ++ [u]) hH e (by simp) (r.append (.cons ru .nil)) ?_, rfl, q⟩;rw [zS4, List.length_singleton];omega
def zKl : V -> List V -> Hp -> VK -> Prop := fun x vs H Q => ∃ l b xs zs, x = .ref l /\ vs = [.ref b] /\ H l = some (.lst xs) /\ H b = some (.lst zs) /\ xs.length + zs.length <= sizeLine /\ Q .non (upd H l (.lst (xs ++ zs)))
theorem zLw : MtM X "list.extend" zKl := by
 intro zB s σ H x vs v us Q I rx rv h;obtain ⟨l, b, xs, zs, rfl, rfl, hH, hB, hz, q⟩ := h;cases rx;obtain ⟨u, rfl, ru⟩ := rv.one;cases ru;obtain ⟨z, its, n, r, hl, e⟩ := I.lstM hH;obtain ⟨z2, its2, n2, r2, hl2, e2⟩ := I.lstM hB;have hsz : its.toArray.size + its2.toArray.size <= sizeLine := by rw [zSw, zSw]; omega
 have hlong : ¬ (!its.toArray.isEmpty && Builtin.List.listTooLong (its.toArray.size + its2.toArray.size)) = true := by
  rw [zM2 hsz, Bool.and_false];exact zTA
 refine call_meets F.slot_list_extend ⟨_, e, rfl⟩ F.entry_list_extend (F.args_list_extend_2 _ _)
  (AutoSeq1.list_extend_list_list_0 l its.toArray n b its2.toArray n2 hlong (by rw [zSw]; omega) (by omega)) ⟨e, e2, ?_⟩
 refine ⟨.non, _, I.lset (its' := its ++ its2) hH e (by simp) (r.append r2) ?_, rfl, q⟩;rw [zS4];omega
def zSf : V -> List V -> Hp -> VK -> Prop := fun x vs H Q => ∃ l xs y, x = .ref l /\ vs = [] /\ H l = some (.lst xs) /\ xs[xs.length - 1]? = some y /\ Q y (upd H l (.lst xs.dropLast))
theorem zQb : MtM X "list.pop" zSf := by
 intro zB s σ H x vs v us Q I rx rv h;obtain ⟨l, xs, y, rfl, rfl, hH, hy, q⟩ := h;cases rx;have hus := rv.zero;subst hus;obtain ⟨z, its, n, r, hl, e⟩ := I.lstM hH;obtain ⟨u, hu, ru⟩ := r.get hy;have hy' : its.toArray[its.toArray.size - 1]? = some u := by
  show its.toArray[its.length - 1]? = some u;rw [<- Array.getElem?_toList, <- hl];exact hu
 refine call_meets F.slot_list_pop ⟨_, e, rfl⟩ F.entry_list_pop (F.args_list_pop_1 _) (MeetsSeq.list_pop_last l its.toArray n u hy' (by rw [zSw]; omega)) ⟨e, ?_⟩;refine ⟨y, _, I.lset (its' := its.dropLast) hH e ?_ r.dropLast ?_, ru, q⟩
 ·show its.toArray.eraseIdxIfInBounds (its.toArray.size - 1) = its.dropLast.toArray;rw [zSw, List.eraseIdxIfInBounds_toArray, zEE]
 ·rw [List.length_dropLast];omega
def zOG : V -> List V -> Hp -> VK -> Prop := fun x vs H Q => ∃ l xs i k y, x = .ref l /\ vs = [.int i] /\ H l = some (.lst xs) /\ -(2 ^ 63) <= i /\ i < 2 ^ 63 /\ seqIndex? i xs.length = some k /\ xs[k]? = some y /\ Q y (upd H l (.lst (xs.eraseIdx k)))
theorem zM6 : MtM X "list.pop" zOG := by
 intro zB s σ H x vs v us Q I rx rv h;obtain ⟨l, xs, i, k, y, rfl, rfl, hH, h1, h2, hk, hy, q⟩ := h;cases rx;obtain ⟨u, rfl, ru⟩ := rv.one;obtain ⟨t, rfl⟩ := ru;obtain ⟨z, its, n, r, hl, e⟩ := I.lstM hH;obtain ⟨w, hw, rw'⟩ := r.get hy
 refine call_meets F.slot_list_pop ⟨_, e, rfl⟩ F.entry_list_pop (F.args_list_pop_2 _ _)
  (MeetsSeq.list_pop_at l its.toArray n i t k w (fitsIndex_both h1 h2) (by rw [zSw, <- hl]; exact hk) (by rw [<- Array.getElem?_toList]; exact hw) (by rw [zSw]; omega)) ⟨e, ?_⟩
 refine ⟨y, _, I.lset (its' := its.eraseIdx k) hH e ?_ (r.eraseIdx k) ?_, rw', q⟩
 ·show its.toArray.eraseIdxIfInBounds k = (its.eraseIdx k).toArray;rw [List.eraseIdxIfInBounds_toArray]
 ·have := zHU xs k;omega
def zSF : R2 := fun x y H Q => ∃ l b xs zs, x = .ref l /\ y = .ref b /\ H l = some (.lst xs) /\ H b = some (.lst zs) /\ xs.length + zs.length <= sizeLine /\ ∀ p, H p = none -> Q (.ref p) (upd H p (.lst (xs ++ zs)))
theorem zQA : OpR X (binaryOp .Add) zSF := by
 intro zB s σ H x y v u Q I rx ry h;obtain ⟨l, b, xs, zs, rfl, rfl, hH, hB, hz, q⟩ := h;cases rx;cases ry;obtain ⟨z, its, n, r, hl, e⟩ := I.lstM hH;obtain ⟨z2, its2, n2, r2, hl2, e2⟩ := I.lstM hB;refine PySem.P.add_list e e2 ?_ (by rw [zSw, zSw]; omega);have ea : its.toArray ++ its2.toArray = (its ++ its2).toArray := by simp
 rw [ea];exact ⟨.ref _, _, I.lnew (t' := s.toks) (r.append r2) (by rw [zS4]; omega), rfl, q _ I.fresh⟩
end
end L2
namespace Att
open PySem PySem.W PySem.Calls PyProof.Rows
theorem zFV {P : Params} {h : Heap} : ∀ (ns : List Int) (vs : List Value), WellAll P h vs (ns.map WData.int) -> IntsAre vs ns := by
 intro ns;induction ns with
 | nil =>
  intro vs w;rw [List.map_nil] at w;cases w;exact .nil
 | cons n ns ih =>
  intro vs w;rw [zS7] at w;cases w with
  | cons a b =>
   cases a;exact .cons _ _ (ih _ b)
theorem zLL {l : OpenLaw} {n : Nat} (hn : l.most = some n) {P : Params} {h : Heap} {args : List WData} {vals : List Value}
  (hpre : l.row.toRowW.claim.pre args = true) (hwl : WellAll P h vals args) :
  ∃ a vs ns, vals = [Value.ref a] /\ args = [WData.list (ns.map WData.int)] /\ h.get? a = some { cls := .type "list", data := .seq vs.toArray } /\ IntsAre vs ns /\ ns.length <= n := by
 have hsh : WShape.hasAll [] args [.list .int] = true := (pre_splitW hpre).1;have hc : l.pre.holds [] { args := args } = true := (pre_splitW hpre).2;obtain ⟨d, r, rfl, h1, h2⟩ := hasAllW_cons hsh;obtain rfl := hasAllW_nil h2;obtain ⟨xs, rfl, h3⟩ := hasW_list h1;obtain ⟨ns, rfl⟩ := items_int h3;have hlen : ns.length <= n := by
  unfold OpenLaw.pre at hc;have h4 : (WTm.not (.lt (.lit (.int (n : Int))) (.len (.arg 0)))).holds [] { args := [.list (ns.map .int)] } = true := by
   have h4 := (holds_andW hc).1;rw [hn] at h4;exact h4
  have h5 := condW_of h4 (w_not (w_lt w_lit (w_len_list (w_arg rfl))));rw [zSx] at h5;refine Nat.le_of_not_lt fun q => ?_;have q' : (n : Int) < ((ns.length : Nat) : Int) := by omega
  first
   | (rw [zTw q'] at h5; exact absurd h5 (by decide))
   | (simp at h5; omega)
 cases hwl with
 | cons w1 w2 =>
  cases w2;cases w1 with
  | list ho hall => exact ⟨_, _, ns, rfl, rfl, ho, zFV ns _ hall, hlen⟩
theorem zLr (l : OpenLaw) (args : List WData) : l.row.toRowW.claim.post args (.bool true) args = true :=
 postW_of (r := l.row.toRowW) (X := (true == true))
  (show WShape.has [] (.bool true) .bool = true by first | rfl | decide | simp [WShape.has, WShape.arms, WShape.armsAll])
  (show (WTm.eq .res (.lit (.bool true))).value [] { args := args, res := some (.bool true), after := args } = some (.bool (true == true)) from w_eq_bool (w_res rfl) w_lit) rfl
theorem zJd {l : OpenLaw} {n : Nat} {q : Program} {loose : List Str} {XP : (Str -> Option Value) -> Heap -> Prop} {YP : World -> Heap -> Prop} {d : DefRec}
  (hn : l.most = some n) (hdf : d.params.defaults = [])
  (call : ∀ (w : World) (s₀ s₁ : Shared) (mg mb : Str -> Option Value) (fa : Addr) (o : Obj) (pm cd doc : Value) (a : Addr) (vs : List Value) (ns : List Int),
   Ground q loose [] XP w s₀ mg mb s₁.heap -> YP w s₁.heap ->
   s₁.heap.get? fa = some o -> o.data = .func (docDef d.name d.params d.body d.scope pm cd doc) -> s₁.heap.CodeRec cd d.name -> mg d.name = some (.ref fa) ->
   s₁.heap.get? a = some { cls := .type "list", data := .seq vs.toArray } -> IntsAre vs ns -> ns.length <= n -> s₁.gens = #[] ->
   codeAny (model l.prog w) callerA (.call (.ref fa) ⟨[.ref a], []⟩) (fun r s' => r = .ok (.ret (.bool true)) /\ OldK s₁.heap s'.heap /\ s'.os = s₁.os /\ AllBare s'.gens) s₁) :
  WalkO q loose XP YP l.row.toRowW d [] (fun f vs => PySem.call f vs) := by
 intro w s₀ s₁ mg mb G Y fa o pm cd doc dV kV ho hd hcd hD hmg hg args vals as hpre hlay hrd hwl hlo;obtain rfl : dV = .none := Dflts.none hD hdf;obtain rfl : kV = .none := Dflts.noKw hD;obtain ⟨a, vs, ns, rfl, rfl, hobj, hints, hlen⟩ := zLL hn hpre hwl;refine enter_call (codeAny_mono (call w s₀ s₁ mg mb fa o pm cd doc a vs ns G Y ho (fd_plain hd) hcd hmg hobj hints hlen hg) fun r s' hq => ?_);obtain ⟨rfl, h2, h3, h4⟩ := hq;exact ⟨.inl ⟨.bool true, .bool true, [], rfl, fun _ => rfl, .bool true, zLr l _, fun _ => ⟨List.Pairwise.nil, fun _ hm => (nomatch hm)⟩⟩, h2, h3, h4⟩
end Att
namespace L2
open PySem PySem.Spec PyProof.Rows
theorem zHj : ∀ {vs : List Value} {ns : List Int}, IntsAre vs ns -> zk (ns.map V.int) vs
 | _, _, .nil => .nil
 | _, _, .cons n t h => .cons ⟨t, rfl⟩ (zHj h)
def zO9 (H : Hp) : Prop := ∀ b, H b = none \/ ∃ o xs, H b = some (.frz o (.lst xs))
theorem zNj {P : Program} {w : World} {K : PySem.W.Frag} {mg mb : Str -> Option Value} {CX : CXT} {k : Nat} {fa a : Addr} {fd : FuncData} {x : Str} {sp : Sp} {s₁ : Shared} {vs : List Value} {ns : List Int}
  (KX : K.In s₁.heap) (hns : s₁.heap.Ns mainGlobals mg) (hb : s₁.heap.Ns builtinsNs mb) (hbb : ∀ x : Str, x ≠ "__name__" -> mb x = bootBuiltins x) (hlim : s₁.heap.NoLimit) (hg : s₁.gens = #[])
  (ha : s₁.heap.get? a = some { cls := .type "list", data := .seq vs.toArray }) (hi : IntsAre vs ns) (hl : ns.length <= sizeLine) (hr : Room k callerA)
  (F : ∀ base : Heap, K.In base -> base.Ns mainGlobals mg -> FnOk P w K mg base CX k fa fd [x] sp) (hbind : ∀ (s : Shared) (u : Value), BindsTo s fd ⟨[u], []⟩ [(x, u)])
  (hsp : ∀ H : Hp, zO9 H -> SqL K H a (ns.map V.int) -> sp [.ref a] H (fun v _ => v = .bl true) fun _ _ _ => False)
  (hCX : ∀ H e s', CX [] H s₁ (fun _ _ _ => False) e s' -> False) :
  codeAny (model P w) callerA (.call (.ref fa) ⟨[.ref a], []⟩) (fun r s' => r = .ok (.ret (.bool true)) /\ OldK s₁.heap s'.heap /\ s'.os = s₁.os /\ AllBare s'.gens) s₁ := by
 have rv := zHj hi;have lenV := hi.length
 have core : ∀ H : Hp, zO9 H -> SqL K H a (ns.map V.int) -> HOk P w H s₁.heap -> (∀ b, H b ≠ none -> b = a) -> (H a ≠ none -> K.lookup a = none) ->
   codeAny (model P w) callerA (.call (.ref fa) ⟨[.ref a], []⟩) (fun r s' => r = .ok (.ret (.bool true)) /\ OldK s₁.heap s'.heap /\ s'.os = s₁.os /\ AllBare s'.gens) s₁ := by
  intro H hO hS hok hA hK;have base_of : ∀ {b : Addr} {o : Obj}, s₁.heap.get? b = some o -> H b = none -> (zIZ s₁.heap H).get? b = some o := fun e n => zNx e n;have noA : ∀ {b : Addr} {o : Obj} {es : Array DictEntry} {ep : Nat}, s₁.heap.get? b = some o -> o.data = .dict es ep -> H b = none := fun {b o es ep} e d => by
   cases q : H b with
   | none => rfl
   | some u =>
    have e' : b = a := hA b (by rw [q]; simp);subst e';rw [ha] at e; cases e;have d' : Data.seq vs.toArray _ = Data.dict es ep := d;cases d'
  have nsK : ∀ {b : Addr} {m : Str -> Option Value}, s₁.heap.Ns b m -> (zIZ s₁.heap H).Ns b m := fun {b m} ⟨o, es, ep, e, d, r⟩ => ⟨o, es, ep, base_of e (noA e d), d, r⟩;have hKb : K.In (zIZ s₁.heap H) := fun b o e => base_of (KX b o e) (by
   cases q : H b with
   | none => rfl
   | some u =>
    have e' : b = a := hA b (by rw [q]; simp);subst e';rw [hK (by rw [q]; simp)] at e; cases e)
  have hM : Mod K mg (zIZ s₁.heap H) := ⟨hKb, nsK hns, ⟨mb, nsK hb, hbb⟩, let ⟨mc, h1, h2⟩ := hlim; ⟨mc, nsK h1, h2⟩⟩;have e0 : Env0 P w K mg (zIZ s₁.heap H) callerA [] s₁ H := ⟨rfl, hM, fun b o e => zPW e, Nat.le_of_eq (zMB _ _), trivial, fun b hb => absurd (show b ∈ ([] : List Addr) from hb) (by simp), hok, .of_eq hg⟩;refine codeAny_mono ((F _ hKb (nsK hns)).run callerA [] s₁ H ⟨[.ref a], []⟩ [.ref a] [.ref a] _ _ hr e0 (hbind s₁ (.ref a)) (.cons rfl .nil) (hsp H hO hS)) fun r s' h => ?_;cases r with
  | error e => exact (hCX H e s' h).elim
  | ok fl =>
   cases fl with
   | next => exact False.elim h
   | brk => exact False.elim h
   | cont => exact False.elim h
   | ret u =>
    obtain ⟨v, H', os, bare, un, hok', r', q⟩ := h;have q' : v = .bl true := q;subst q';obtain rfl : u = Value.bool true := r';refine ⟨rfl, OldK.of_keep fun b o e => ?_, os, bare⟩;cases q : H b with
    | none => exact un.keep b o e q (by intro z; exact absurd (show b ∈ ([] : List Addr) from z) (by simp)) (by simp)
    | some u =>
     rcases hO b with z | ⟨ob, xs, z⟩
     ·rw [q] at z; cases z
     ·have z2 := un.frzs b ob _ z;obtain ⟨e1, _⟩ := hok b _ z;obtain ⟨e2, _⟩ := hok' b _ z2;rw [e] at e1; cases e1;exact e2
 cases hk : K.lookup a with
 | some o =>
  have e := KX a o hk;rw [ha] at e;cases e;refine core (fun _ => none) (fun _ => .inl rfl) (.inr ⟨_, vs.toArray, _, hk, rfl, rfl, rfl, by rw [zSw, lenV]; exact hl, by simpa using rv⟩) (fun b u z => by have z' : (none : Option HO) = some u := z; cases z') (fun b z => absurd rfl z) fun z => absurd rfl z
 | none =>
  refine core (fun b => if b = a then some (.frz { cls := .type "list", data := .seq vs.toArray } (.lst (ns.map V.int))) else none) (fun b => ?_) (.inl (.inr ⟨{ cls := .type "list", data := .seq vs.toArray }, zS3 rfl⟩)) (fun b u z => ?_) (fun b z => ?_) fun _ => hk
  ·by_cases hb : b = a
   ·exact .inr ⟨_, _, zS3 hb⟩
   ·exact .inl (zS6 hb)
  ·by_cases hb : b = a
   ·have z' := (zS3 hb).symm.trans z;cases z';subst hb;exact ⟨ha, by rw [zSx]; exact hl, vs, _, rv, ha⟩
   ·have z' := (zS6 hb).symm.trans z;cases z'
  ·by_cases hb : b = a
   ·exact hb
   ·exact absurd (zS6 hb) z
theorem zOZ {l : PySem.W.OpenLaw} {n k : Nat} {q : Program} {loose : List Str} {XP : (Str -> Option Value) -> Heap -> Prop} {YP : World -> Heap -> Prop} {d : DefRec} {K : Params -> PySem.W.Frag} {CX : World -> CXT} {sp : World -> Sp} {x : Str}
  (hn : l.most = some n) (hn2 : n <= sizeLine) (hdf : d.params.defaults = []) (hr : Room k callerA)
  (hY : ∀ (w : World) (h : Heap), YP w h -> (K w.params).In h)
  (F : ∀ (w : World) (mg : Str -> Option Value) (fa : Addr) (h : Heap), (K w.params).In h -> h.Ns mainGlobals mg -> mg d.name = some (.ref fa) ->
   ∃ fd : FuncData, (∀ (s : Shared) (u : Value), BindsTo s fd ⟨[u], []⟩ [(x, u)]) /\
    ∀ base : Heap, (K w.params).In base -> base.Ns mainGlobals mg -> FnOk l.prog w (K w.params) mg base (CX w) k fa fd [x] (sp w))
  (hsp : ∀ (w : World) (H : Hp) (a : Addr) (ns : List Int), ns.length <= n -> zO9 H -> SqL (K w.params) H a (ns.map V.int) -> sp w [.ref a] H (fun v _ => v = .bl true) fun _ _ _ => False)
  (hCX : ∀ (w : World) (H : Hp) (s : Shared) (e : Value) (s' : Shared), CX w [] H s (fun _ _ _ => False) e s' -> False) :
  PySem.W.WalkO q loose XP YP l.row.toRowW d [] (fun f vs => PySem.call f vs) := by
 refine Att.zJd hn hdf fun w s₀ s₁ mg mb fa o pm cd doc a vs ns G Y ho hd hcd hmg hobj hints hlen hg => ?_;have KX := hY w _ Y;obtain ⟨fd, hb, hF⟩ := F w mg fa _ KX G.T.g hmg;exact zNj KX G.T.g G.T.b G.T.builtins G.T.nolimit hg hobj hints (zTF hlen hn2) hr hF hb (fun H hO hS => hsp w H a ns hlen hO hS) fun H e s' => hCX w H s₁ e s'
def zD0 (s : Stmt) : Arguments := match s with
 | .FunctionDef _ a _ _ _ _ _ _ _ _ => a
 | _ => { posonlyargs := [], args := [], vararg := none, kwonlyargs := [], kw_defaults := [], kwarg := none, defaults := [] }
def zCd (s : Stmt) : List Stmt := match s with
 | .FunctionDef _ _ b _ _ _ _ _ _ _ => b
 | _ => []
def zV (s : Stmt) : Scope := match s with
 | .FunctionDef _ _ _ _ _ _ sc _ _ _ => sc
 | _ => { kind := .function, names := [], isGenerator := false, isCoroutine := false }
abbrev CX0 : CXT := fun _ _ _ _ _ _ => False
abbrev E0 : XK := fun _ _ _ => False
theorem zSB {X : Cx} : zJt CX0 X E0 := fun _ _ _ _ _ _ _ h => h.elim
structure Fun (K : PySem.W.Frag) (x qual : Str) (st : Stmt) (f : Addr) (fd : FuncData) : Prop where
 ex : ∃ (oc : Value) (od : Option Addr) (kV doc pm : Value) (an : Option Addr) (cdv ct : Value) (osl : Array (Option Value)),
  fd = PySem.W.fnOf x qual (zD0 st) (zCd st) (zV st) .none kV doc pm an cdv ct /\ K.lookup f = some ⟨oc, od, .func fd, osl⟩ /\ PySem.W.codeIn K cdv qual = true
 kp : PySem.W.keepIn K (.ref f) = true
section
variable {P : Program} {w : World} {K : PySem.W.Frag} {mg : Str -> Option Value} {base : Heap}
theorem Fun.ok {x qual : Str} {st : Stmt} {f : Addr} {fd : FuncData} {N ps : List Str} {k : Nat} {sp : Sp} (F : Fun K x qual st f fd) (S : FnScope N ps (zV st)) (len : ∀ vs H Q E, sp vs H Q E -> vs.length = ps.length)
  (hbody : ∀ (cdv : Value) (A : Around) (outer : List Env) (s : Shared) (H : Hp) (vs : List V) (Q : VK) (E : XK), Room k (A.deeper (envOfC qual (zV st) s.heap.objs.size f cdv)) -> sp vs H Q E ->
   ∃ t, PSs (zKE CX0 P w K mg base N qual (zV st) f cdv A outer s H E).nox (zCd st) t /\ t { nx := fun _ H' => Q .non H', rt := Q } (zD7 N vs) H) : FnOk P w K mg base CX0 (k + 1) f fd ps sp := by
 obtain ⟨oc, od, kV, doc, pm, an, cdv, ct, osl, rfl, lk, hcd⟩ := F.ex;refine zRy lk hcd S len fun A outer s H vs Q E hr hsp => ?_;obtain ⟨t, h, q⟩ := hbody cdv A outer s H vs Q E hr hsp;exact ⟨t, h.nox, q⟩
theorem Fun.binds {x qual : Str} {st : Stmt} {f : Addr} {fd : FuncData} {ps : List Str} (F : Fun K x qual st f fd)
  (h : ∀ (kV doc pm : Value) (an : Option Addr) (cdv ct : Value) (us : List Value), us.length = ps.length -> bindArgs (PySem.W.fnOf x qual (zD0 st) (zCd st) (zV st) .none kV doc pm an cdv ct) ⟨us, []⟩ = pure (ps.zip us)) : zF6 K fd ps [] := by
 obtain ⟨oc, od, kV, doc, pm, an, cdv, ct, osl, rfl, lk, hcd⟩ := F.ex;exact .all (h kV doc pm an cdv ct)
theorem zNf {x qual : Str} {st : Stmt} {f : Addr} {oc : Value} {od an : Option Addr} {osl : Array (Option Value)} {kV doc pm cdv ct : Value} (l : K.lookup f = some ⟨oc, od, .func (PySem.W.fnOf x qual (zD0 st) (zCd st) (zV st) .none kV doc pm an cdv ct), osl⟩)
  (c : PySem.W.codeIn K cdv qual = true) (k : PySem.W.keepIn K (.ref f) = true) : Fun K x qual st f (PySem.W.fnOf x qual (zD0 st) (zCd st) (zV st) .none kV doc pm an cdv ct) := ⟨⟨oc, od, kV, doc, pm, an, cdv, ct, osl, rfl, l, c⟩, k⟩
end
theorem zB5 {A : Around} {k : Nat} (hr : Room k A) : A.units + 1 < cLine := Nat.lt_of_le_of_lt (Nat.add_le_add_left (by decide : 1 <= 64) _) hr.units
section
variable {X : Cx}
theorem pv (i : Nat) {x : Str} {pos : Pos} (hN : X.N[i]? = some x := by rfl) (hv : Vis X.env.scope x := by first | exact Or.inl rfl | exact Or.inr (Or.inl rfl) | exact Or.inr (Or.inr rfl)) (hd : (x == ("__debug__" : Str)) = false := by decide)
  (hcd : (x == ("__classdict__" : Str)) = false := by decide) : PE X (.Name x pos) (zQF i) := zQd hN hv hd hcd
end
theorem zG1 {A B : Prop} (h : B) : if false = true then A else B := by
 rw [zS6 zTA];exact h
theorem zGq {A B : Prop} (h : A) : if true = true then A else B := by
 rw [zS3 rfl];exact h
section
variable {κ : Type} [DecidableEq κ]
def zCV (kvs : List (κ × V)) (k : κ) : Option V := (kvs.find? fun kv => decide (kv.1 = k)).map (·.2)
def zCW (kvs : List (κ × V)) (k : κ) (v : V) : List (κ × V) :=
 if (kvs.any fun kv => decide (kv.1 = k)) = true then kvs.map (fun kv => if kv.1 = k then (kv.1, v) else kv) else kvs ++ [(k, v)]
theorem zET {p : κ × V} {r : List (κ × V)} {k : κ} (e : p.1 = k) : zCV (p :: r) k = some p.2 := by simp [zCV, zUg, e]
theorem zEq {p : κ × V} {r : List (κ × V)} {k : κ} (e : ¬ p.1 = k) : zCV (p :: r) k = zCV r k := by simp [zCV, zUg, e]
theorem zI9 (k : κ) : ∀ kvs : List (κ × V), (kvs.any fun kv => decide (kv.1 = k)) = (zCV kvs k).isSome
 | [] => rfl
 | p :: r => by
  rw [List.any_cons];by_cases e : p.1 = k
  ·simp only [zET e, zTw e, Bool.true_or, Option.isSome_some]
  ·rw [zEq e, zTN e, Bool.false_or]; exact zI9 k r
theorem zB0 (kvs : List (κ × V)) (k : κ) (v : V) : (zCW kvs k v).length <= kvs.length + 1 := by
 unfold zCW;split
 ·rw [zSx]; omega
 ·rw [zS4, zTL, List.length_nil]; omega
theorem zE1.isSome_eq (r : zE1 o u) : o.isSome = u.isSome := by
 cases o with
 | none => cases u with
  | none => rfl
  | some _ => exact (show False from r).elim
 | some _ => cases u with
  | none => exact (show False from r).elim
  | some _ => rfl
theorem zE1.getD (r : zE1 o u) (rd : zy d d') : zy (o.getD d) (u.getD d') := by
 cases o with
 | none => cases u with
  | none => exact rd
  | some _ => exact (show False from r).elim
 | some _ => cases u with
  | none => exact (show False from r).elim
  | some _ => exact r
theorem KV.val {kvs : List (κ × V)} {vs : List (κ × Value)} (r : KV kvs vs) (k : κ) : zE1 (zCV kvs k) (valueAt vs k) := by
 unfold KV at r;induction r with
 | nil => exact True.intro
 | @cons p q ps qs h t ih =>
  obtain ⟨h1, h2⟩ := h;by_cases e : p.1 = k
  ·have e' : q.1 = k := h1.symm.trans e;have b : valueAt (q :: qs) k = some q.2 := by simp [valueAt, zUg, e']
   rw [zET e, b]; exact h2
  ·have e' : ¬ q.1 = k := fun z => e (h1.trans z);have b : valueAt (q :: qs) k = valueAt qs k := by simp [valueAt, zUg, e']
   rw [zEq e, b]; exact ih
theorem KV.any (r : KV kvs vs) (k : κ) : (kvs.any fun kv => decide (kv.1 = k)) = vs.any fun kv => decide (kv.1 = k) := by
 unfold KV at r;induction r with
 | nil => rfl
 | cons h t ih => rw [List.any_cons, List.any_cons, ih, h.1]
theorem KV.repl (r : KV kvs vs) (k : κ) (ry : zy y u) :
  KV (kvs.map fun kv => if kv.1 = k then (kv.1, y) else kv) (vs.map fun kv => if kv.1 = k then (kv.1, u) else kv) := by
 unfold KV at r ⊢;induction r with
 | nil => exact .nil
 | @cons p q ps qs h t ih =>
  rw [zS7, zS7];refine .cons ?_ ih;obtain ⟨h1, h2⟩ := h;by_cases e : p.1 = k
  ·rw [zS3 e, zS3 (h1.symm.trans e)]; exact ⟨h1, ry⟩
  ·rw [zS6 e, zS6 (fun z => e (h1.trans z))]; exact ⟨h1, h2⟩
theorem KV.put (r : KV kvs vs) (k : κ) (ry : zy y u) : KV (zCW kvs k y) (stored vs k u) := by
 unfold zCW stored;rw [r.any k];by_cases e : (vs.any fun kv => decide (kv.1 = k)) = true
 ·rw [zS3 e, zS3 e]; exact r.repl k ry
 ·rw [zS6 e, zS6 e]; exact Paired.snoc r ⟨rfl, ry⟩
theorem KV.length (r : KV kvs vs) : kvs.length = vs.length := Paired.length r
end
theorem zHA (r : zy (kV k) u) : (zAY P w).is k u = true := by
 cases k with
 | inl i => obtain ⟨t, e⟩ := (show ∃ t, u = Value.int i t from r); subst e; exact zJM P w i t
 | inr x => obtain ⟨t, e⟩ := (show ∃ t, u = Value.str x t from r); subst e; exact zI7 P w x t
theorem zHP : ∀ {ks : List Key} {us : List Value}, zk (ks.map kV) us -> ItemsAre (zAY P w) ks us
 | [], _, r => by rw [List.map_nil] at r; cases r; exact .nil
 | k :: ks, _, r => by
  rw [zS7] at r;cases r with
  | cons h t => exact .cons (zHA h) (zHP t)
abbrev KT (H : Hp) : List (List Key × V) -> List (List Key × Addr × Value) -> Prop := Paired fun p q => p.1 = q.1 /\ H q.2.1 = some (.tup (p.1.map kV)) /\ zy p.2 q.2.2
theorem KT.val {H : Hp} {kvs : List (List Key × V)} {xs : List (List Key × Addr × Value)} (r : KT H kvs xs) (k : List Key) : zE1 (zCV kvs k) ((atKey xs k).map (·.2)) := by
 induction r with
 | nil => exact True.intro
 | @cons p q ps qs h t ih =>
  obtain ⟨h1, _, h2⟩ := h;by_cases e : p.1 = k
  ·have e' : q.1 = k := h1.symm.trans e;have b : atKey (q :: qs) k = some q.2 := by simp [atKey, zUg, e']
   rw [zET e, b]; exact h2
  ·have e' : ¬ q.1 = k := fun z => e (h1.trans z);have b : atKey (q :: qs) k = atKey qs k := by simp [atKey, zUg, e']
   rw [zEq e, b]; exact ih
theorem KT.repl (r : KT H kvs xs) (k : List Key) (ry : zy y u) :
  KT H (kvs.map fun kv => if kv.1 = k then (kv.1, y) else kv) (xs.map (putAt k u)) := by
 induction r with
 | nil => exact .nil
 | @cons p q ps qs h t ih =>
  rw [zS7, zS7];refine .cons ?_ ih;obtain ⟨h1, h2, h3⟩ := h;unfold putAt;by_cases e : p.1 = k
  ·rw [zS3 e, zS3 (h1.symm.trans e)]; exact ⟨h1, h2, ry⟩
  ·rw [zS6 e, zS6 (fun z => e (h1.trans z))]; exact ⟨h1, h2, h3⟩
theorem KT.put (r : KT H kvs xs) (k : List Key) (hb : H b = some (.tup (k.map kV))) (ry : zy y u) :
  KT H (zCW kvs k y) (storedH xs k b u) := by
 have e : (kvs.any fun kv => decide (kv.1 = k)) = (atKey xs k).isSome := by
  rw [zI9, (r.val k).isSome_eq, Option.isSome_map]
 unfold zCW storedH;rw [e];by_cases q : (atKey xs k).isSome = true
 ·rw [zS3 q, zS3 q]; exact r.repl k ry
 ·rw [zS6 q, zS6 q]; exact Paired.snoc r ⟨rfl, hb, ry⟩
theorem KT.keeps (r : KT H kvs xs) (ht : ∀ b ys, H b = some (.tup ys) -> H' b = some (.tup ys)) : KT H' kvs xs :=
 Paired.mapP r fun _ _ z => ⟨z.1, ht _ _ z.2.1, z.2.2⟩
section
variable {P : Program} {w : World} {H : Hp} {h : Heap} {a : Addr}
theorem zP2 (ok : HOk P w H h) (e : Rd H a u) : zAX P w H h a u := e.ok ok
theorem zG4 (ok : HOk P w H h) (e : Rd H a (.dK kvs)) : kvs.length <= sizeLine /\ (a == sysModules) = false /\ ∃ vs, KV kvs vs /\ h.DictOf (zAY P w) a vs :=
 show zAX P w H h a (.dK kvs) from zP2 ok e
theorem zP3 (ok : HOk P w H h) (e : H a = some (.dK kvs)) : kvs.length <= sizeLine /\ (a == sysModules) = false /\ ∃ vs, KV kvs vs /\ h.DictOf (zAY P w) a vs := zG4 ok (.inl e)
theorem zEJ (ok : HOk P w H h) (e : H a = some (.tup (ks.map kV))) : (tupleKind (zAY P w)).is h ks a := by
 obtain ⟨_, its, r, o, h1, h2, ⟨n, h3⟩, _⟩ := (show zAX P w H h a (.tup (ks.map kV)) from ok a _ e);exact ⟨o, its.toArray, n, h1, h2, h3, by simpa using zHP r⟩
theorem zG8 (ok : HOk P w H h) (e : Rd H a (.dT kvs)) : kvs.length <= sizeLine /\ (a == sysModules) = false /\
  ∃ xs, KT H kvs xs /\ h.DictOfH (tupleKind (zAY P w)) a xs := by
 obtain ⟨z, y, xs, r, o, es, ep, h1, h2, h3, h4, h5⟩ := (show zAX P w H h a (.dT kvs) from zP2 ok e);refine ⟨z, y, xs, r, o, es, ep, h1, h2, h3, h4, fun x hx => ?_, h5⟩;have all : ∀ {l : List (List Key × V)} {m : List (List Key × Addr × Value)}, KT H l m -> ∀ x ∈ m, (tupleKind (zAY P w)).is h x.1 x.2.1 := by
  intro l m q;induction q with
  | nil => intro x hx; exact nomatch hx
  | @cons p q ps qs hq t ih =>
   intro x hx;rcases zS0.mp hx with e | hx
   ·subst e;exact zEJ ok (by rw [<- hq.1]; exact hq.2.1)
   ·exact ih x hx
 exact all r x hx
theorem zNl (ok : HOk P w H h) (e : H a = some (.dT kvs)) : kvs.length <= sizeLine /\ (a == sysModules) = false /\
  ∃ xs, KT H kvs xs /\ h.DictOfH (tupleKind (zAY P w)) a xs := zG8 ok (.inl e)
end
def zD4 (H : Hp) (a : Addr) (y : V) (r : Option V) : Prop :=
 (∃ kvs k, Rd H a (.dK kvs) /\ y = kV k /\ r = zCV kvs k) \/ ∃ kvs k b, Rd H a (.dT kvs) /\ y = .ref b /\ H b = some (.tup (k.map kV)) /\ r = zCV kvs k
def zFU (H : Hp) (a : Addr) (y v : V) (H' : Hp) : Prop :=
 (∃ kvs k, H a = some (.dK kvs) /\ y = kV k /\ kvs.length < sizeLine /\ H' = upd H a (.dK (zCW kvs k v))) \/
 ∃ kvs k b, H a = some (.dT kvs) /\ y = .ref b /\ H b = some (.tup (k.map kV)) /\ kvs.length < sizeLine /\ H' = upd H a (.dT (zCW kvs k v))
theorem zD4.k {H : Hp} {a : Addr} {kvs : List (Key × V)} {k : Key} (e : H a = some (.dK kvs)) : zD4 H a (kV k) (zCV kvs k) := .inl ⟨kvs, k, .inl e, rfl, rfl⟩
theorem zD4.t {k : List Key} (e : H a = some (.dT kvs)) (eb : H b = some (.tup (k.map kV))) : zD4 H a (.ref b) (zCV kvs k) := .inr ⟨kvs, k, b, .inl e, rfl, eb, rfl⟩
theorem zFU.k {H : Hp} {a : Addr} {kvs : List (Key × V)} {k : Key} {v : V} (e : H a = some (.dK kvs)) (hl : kvs.length < sizeLine) : zFU H a (kV k) v (upd H a (.dK (zCW kvs k v))) := .inl ⟨kvs, k, e, rfl, hl, rfl⟩
theorem zFU.t {kvs : List (List Key × V)} {k : List Key} (e : H a = some (.dT kvs)) (eb : H b = some (.tup (k.map kV))) (hl : kvs.length < sizeLine) :
  zFU H a (.ref b) v (upd H a (.dT (zCW kvs k v))) := .inr ⟨kvs, k, b, e, rfl, eb, hl, rfl⟩
section
variable {X : Cx} {zB : List (Addr × Obj)} {σ : St} {H : Hp} {s : Shared} {a : Addr} {y v : V} {u r : Value} {o : Option V} {A : Around} {E : Value -> Shared -> Prop}
theorem Inv.big (I : Inv X zB σ H s) : sysModules < s.heap.objs.size := by
 have h : mainGlobals < s.heap.objs.size := (I.mod.glob.keeps I.bk).lt;exact Nat.lt_trans (by decide) h
theorem zLZ (hu : A.units + 1 < cLine) (I : Inv X zB σ H s) (g : zD4 H a y (some v)) (ry : zy y u) (h : ∀ w' s', Inv X zB σ H s' -> zy v w' -> Q w' s') :
  wpAny (model X.prog X.w) A (getItem (.ref a) u) Q E s := by
 rcases g with ⟨kvs, k, e, ey, l⟩ | ⟨kvs, k, b, e, ey, eb, l⟩
 ·subst ey;obtain ⟨z, hd, vs, rel, dd⟩ := zG4 I.hok e;obtain ⟨w', hw, rw'⟩ := zE1.some_of (v := v) (o := valueAt vs k) (by rw [l]; exact rel.val k);exact wpAny_getItem_of (zHA ry) dd.mapOf hw (h w' _ (I.tok _) rw')
 ·subst ey;cases (show u = Value.ref b from ry);obtain ⟨z, hd, xs, rel, dd⟩ := zG8 I.hok e;obtain ⟨w', hw, rw'⟩ := zE1.some_of (v := v) (o := (atKey xs k).map (·.2)) (by rw [l]; exact rel.val k);obtain ⟨p, hp, hp2⟩ := Option.map_eq_some_iff.mp hw;refine wpAny_getItem_heap (tupleKind_room_in1 hu) (zEJ I.hok eb) dd hp ?_;rw [hp2];exact h w' _ (I.tok _) rw'
theorem zPl (hu : A.units + 1 < cLine) (I : Inv X zB σ H s) (g : zD4 H a y o) (ry : zy y u) (h : ∀ s', Inv X zB σ H s' -> Q (.bool (!o.isSome)) s') :
  wpAny (model X.prog X.w) A (compareOp .NotIn u (.ref a)) Q E s := by
 rcases g with ⟨kvs, k, e, ey, l⟩ | ⟨kvs, k, b, e, ey, eb, l⟩
 ·subst ey;obtain ⟨z, hd, vs, rel, dd⟩ := zG4 I.hok e;refine wpAny_notIn_of (zHA ry) hd dd.mapOf ?_;rw [<- (rel.val k).isSome_eq, <- l];exact h _ (I.tok _)
 ·subst ey;cases (show u = Value.ref b from ry);obtain ⟨z, hd, xs, rel, dd⟩ := zG8 I.hok e;refine wpAny_notIn_heap (tupleKind_room_in1 hu) (zEJ I.hok eb) hd dd ?_;have q := (rel.val k).isSome_eq;rw [Option.isSome_map] at q;rw [<- q, <- l];exact h _ (I.tok _)
theorem zEO (I : Inv X zB σ H s) (mu : Mut (H a)) (hs : Heap.SameBut a s.heap h') (he : ∃ q, h'.get? a = some q) (new : zAX X.prog X.w (upd H a ob) h' a ob) :
  Inv X zB σ (upd H a ob) { s with heap := h', toks := t' } :=
 I.write (x := a) (e := a) mu (.inl rfl) (fun b q hb z => (hs.2 b hb).trans z) he new
theorem zM5 (z : kvs.length <= sizeLine) (hd : (a == sysModules) = false) (rel : KV kvs vs) (dd : h'.DictOf (zAY P w) a vs) :
  zAX P w H' h' a (.dK kvs) := ⟨z, hd, vs, rel, dd⟩
theorem zLy (hu : A.units + 1 < cLine) (I : Inv X zB σ H s) (g : zFU H a y v H') (ry : zy y u) (rv : zy v r) (h : ∀ s', Inv X zB σ H' s' -> Q () s') :
  wpAny (model X.prog X.w) A (setItem (.ref a) u r) Q E s := by
 rcases g with ⟨kvs, k, e, ey, l, eH⟩ | ⟨kvs, k, b, e, ey, eb, l, eH⟩
 ·subst ey eH;obtain ⟨z, hd, vs, rel, dd⟩ := zP3 I.hok e;have hz : vs.length <= sizeLine := by rw [<- rel.length]; exact z
  have hl : (zCW kvs k v).length <= sizeLine := by have := zB0 kvs k v; omega
  refine wpAny_setItem_pairs (hsz := hz) (zHA ry) dd fun h' dd' hs => h _ ?_;have he : ∃ q, h'.get? a = some q := let ⟨q, _, _, hq, _⟩ := dd'; ⟨q, hq⟩;exact zEO I (by rw [e]; exact True.intro) hs he (zM5 hl hd (rel.put k rv) dd')
 ·subst ey eH;cases (show u = Value.ref b from ry);obtain ⟨z, hd, xs, rel, dd⟩ := zNl I.hok e;have hz : xs.length <= sizeLine := by rw [<- Paired.length rel]; exact z
  have hl : (zCW kvs k v).length <= sizeLine := by have := zB0 kvs k v; omega
  refine wpAny_setItem_heap (hsz := hz) (tupleKind_room_in1 hu) (zEJ I.hok eb) dd fun h' dd' hs => h _ ?_;obtain ⟨q, es, ep, hq, h2, h3, h4, _, h5⟩ := dd';refine zEO I (by rw [e]; exact True.intro) hs ⟨q, hq⟩ ⟨hl, hd, _, (rel.put k eb rv).keeps fun c ys ec => ?_, q, es, ep, hq, h2, h3, h4, h5⟩;rw [zg (zGM ec e (fun z => nomatch z))];exact ec
end
def zQC (i : Expr) : Prop := ∀ ov iv, subscripted i false ov iv = operate [ov, iv] (getItem ov iv)
theorem zPT {prog : Program} {w : World} {A : Around} {E : Value -> Shared -> Prop} {s : Shared} {env : Env} {value slice : Expr} {pos : Pos} {T id : String} {Q : Value -> Shared -> Prop}
  (hl : typeLookup (.type T) "__getitem__" = pure (some (.builtin id))) (hs : zQC slice)
  (h : wpAny (model prog w) A (eval value env) (fun o s₁ => wpAny (model prog w) A (eval slice env) (fun i s₂ => s₂.TypeIs o T /\ wpAny (model prog w) A (getItem o i) Q E s₂) E s₁) E s) :
  wpAny (model prog w) A (eval (.Subscript value slice pos) env) Q E s := by
 refine Subscript_ (zTK h (fun o s₁ h₁ => zTK h₁ (fun i s₂ h₂ => ?_) fun _ _ x => x) fun _ _ x => x);obtain ⟨hT, h₂⟩ := h₂;unfold subscriptTail;refine zSo ?_;rw [getitemInPython_of_ne hT.not_modules];refine zSo (wpAny_specialOf hT hl ?_);have fin : wpAny (model prog w) A (subscripted slice false o i) (fun r s₃ => wpAny (model prog w) A (letTemporaryGo value o r >>= fun _ => pure r) Q E s₃) E s₂ := by
  rw [hs o i];exact wpAny_operating (zTK h₂ (fun r s₃ h₃ => zSo (wpAny_letTemporaryGo (zSq h₃))) fun _ _ x => x)
 first
  | exact zSq (zSo fin)
  | exact zSo (zSq (zSo fin))
  | exact zSo fin
theorem zIv (I : Inv X zB σ H s) (g : zD4 H a y o) : s.TypeIs (.ref a) "dict" := by
 rcases g with ⟨kvs, k, e, _, _⟩ | ⟨kvs, k, b, e, _, _, _⟩
 ·obtain ⟨_, _, vs, _, dd⟩ := zG4 I.hok e;exact dd.typeIs
 ·obtain ⟨_, _, xs, _, dd⟩ := zG8 I.hok e;exact dd.typeIs
def zRW (td ty : TE) : TE := fun σ H Q => td σ H fun x H1 => ty σ H1 fun y H2 => ∃ a v, x = .ref a /\ zD4 H2 a y (some v) /\ Q v H2
def zPB (ty td : TE) : TE := fun σ H Q => ty σ H fun y H1 => td σ H1 fun x H2 => ∃ a o, x = .ref a /\ zD4 H2 a y o /\ Q (.bl (!o.isSome)) H2
def zR8 (td ty tv : TE) : TS := fun D σ H => tv σ H fun v H1 => td σ H1 fun x H2 => ty σ H2 fun y H3 => ∃ a H4, x = .ref a /\ zFU H3 a y v H4 /\ D.nx σ H4
section
variable {X : Cx} {o i e value : Expr} {pos pos' tpos : Pos} {td ty tv : TE}
theorem zOi (hu : X.A.units + 1 < cLine) (ho : PE X o td) (hi : PE X i ty) (hs : zQC i) : PE X (.Subscript o i pos) (zRW td ty) := by
 intro zB s σ H Q I h;refine zPT PySem.F.slot_dict_getitem.lookup hs (thn (ho zB s σ H _ I h) fun u s1 ⟨x, H1, I1, rx, q1⟩ => thn (hi zB s1 σ H1 _ I1 q1) fun iv s2 ⟨y, H2, I2, ry, a, v, ex, g, q2⟩ => ?_);subst ex;obtain rfl : u = Value.ref a := rx;exact ⟨zIv I2 g, zLZ hu I2 g ry fun w' s3 I3 rw' => ⟨v, H2, I3, rw', q2⟩⟩
theorem zMS (hu : X.A.units + 1 < cLine) (hi : PE X i ty) (ho : PE X o td) : PC X .NotIn i o (zPB ty td) := by
 intro zB s σ H Q I h;refine thn (hi zB s σ H _ I h) fun iv s1 ⟨y, H1, I1, ry, q1⟩ => thn (ho zB s1 σ H1 _ I1 q1) fun u s2 ⟨x, H2, I2, rx, a, ov, ex, g, q2⟩ => ?_;subst ex;obtain rfl : u = Value.ref a := rx;exact zPl hu I2 g ry fun s3 I3 => ⟨.bl (!ov.isSome), H2, I3, rfl, q2⟩
theorem zPk (hu : X.A.units + 1 < cLine) (ho : PE X o td) (hi : PE X i ty) (hv : PE X value tv) (hs : swapsWith value (some (.Subscript o i pos')) pos.line X.env = pure false) :
  PS X (.Assign [.Subscript o i pos'] value pos) (zR8 td ty tv) := by
 intro zB s σ H D I h;refine wpAny_Assign_Subscript (thn (hv zB s σ H _ I h) fun r s1 ⟨v, H1, I1, rv, q1⟩ => thn (ho zB s1 σ H1 _ I1 q1) fun u s2 ⟨x, H2, I2, rx, q2⟩ => thn (hi zB s2 σ H2 _ I2 q2) fun iv s3 ⟨y, H3, I3, ry, a, H4, ex, g, q3⟩ => ?_) hs;subst ex;obtain rfl : u = Value.ref a := rx;exact zLy hu I3 g ry rv fun s4 I4 => ⟨σ, H4, I4, q3⟩
end
theorem zMx (h : Heap) (hb : sysModules < h.objs.size) : zAX P w H (h.push { cls := .type "dict", data := .dict #[] }) h.objs.size (.dT []) :=
 ⟨zTa _, beq_eq_false_iff_ne.mpr (Ne.symm (zS9 hb)), [], .nil, _, #[], 0, zSy _ rfl, ⟨rfl, rfl, rfl⟩, rfl, rfl, List.nodup_nil⟩
def zQf : TE := fun _ H Q => ∀ p, H p = none -> Q (.ref p) (upd H p (.dT []))
section
variable {X : Cx} {pos : Pos}
theorem zMW : PE X (.Dict [] [] pos) zQf := fun zB s σ H Q I h =>
 wpAny_Dict_empty ⟨.ref s.heap.objs.size, _, I.laid (a := s.heap.objs.size) (o := .dT []) (t' := s.toks) (fun _ _ q => zSp _ q) (zSu _) (zMx s.heap I.big), rfl, h _ (I.hok.fresh (zSu _))⟩
end
structure M2 (X : Cx) (o : Expr) (m : Str) (apos : Pos) (e f : Expr) (cpos : Pos) : Prop where
 base : attributeBase o m X.env (eval o X.env) = eval o X.env
 few : ((backTo cpos (starEach [e, f] X.env)).all (fun x => !x.1) && (backToKw cpos (keywordEach [] X.env)).all (fun x => x.1.isSome)
  && decide (([e, f] : List Expr).length + ([] : List Keyword).length + (if ([] : List Keyword).isEmpty then 0 else 1) < 30)) = true
 line : (apos.endLine == cpos.line) = true
 trees : backTo cpos (starEach [e, f] X.env) = [(false, eval e X.env), (false, eval f X.env)]
def IsD (H : Hp) (a : Addr) : Prop := (∃ kvs, Rd H a (.dK kvs)) \/ ∃ kvs, Rd H a (.dT kvs)
theorem zNh (I : Inv X zB σ H s) (d : IsD H a) :
  s.TypeIs (.ref a) "dict" /\ (∀ b, Value.ref a = .ref b -> ∃ ob, s.heap.get? b = some ob /\ ob.dict = none) /\ (a == sysModules) = false := by
 rcases d with ⟨kvs, e⟩ | ⟨kvs, e⟩
 ·obtain ⟨_, hd, vs, _, dd⟩ := zG4 I.hok e;refine ⟨dd.typeIs, fun b q => ?_, hd⟩;cases q;obtain ⟨ob, _, _, h1, h2, _⟩ := dd;exact ⟨ob, h1, h2.2.1⟩
 ·obtain ⟨_, hd, xs, _, dd⟩ := zG8 I.hok e;refine ⟨dd.typeIs, fun b q => ?_, hd⟩;cases q;obtain ⟨ob, _, _, h1, h2, _⟩ := dd;exact ⟨ob, h1, h2.2.1⟩
section
variable {X : Cx} {zB : List (Addr × Obj)} {σ : St} {H : Hp} {s : Shared} {a : Addr} {y d : V} {u r : Value} {o : Option V} {A : Around} {E : Value -> Shared -> Prop}
theorem zRK (hu : A.units + 1 < cLine) (I : Inv X zB σ H s) (g : zD4 H a y o) (ry : zy y u) (rd : zy d r) (h : ∀ w' s', Inv X zB σ H s' -> zy (o.getD d) w' -> Q w' s') :
  wpAny (model X.prog X.w) A (call (.builtin "dict.get") [.ref a, u, r]) Q E s := by
 rcases g with ⟨kvs, k, e, ey, l⟩ | ⟨kvs, k, b, e, ey, eb, l⟩
 ·subst ey;obtain ⟨z, hd, vs, rel, dd⟩ := zG4 I.hok e;refine call_meetsIn PySem.F.slot_dict_get dd.typeIs PySem.F.entry_dict_get (PySem.F.args_dict_get_3 _ _ _) (meets_dict_get_default (zAY X.prog X.w) a (zHA ry) hd r) ⟨_, dd.mapOf, h _ _ (I.tok _) ?_⟩;rw [l];exact (rel.val k).getD rd
 ·subst ey;cases (show u = Value.ref b from ry);obtain ⟨z, hd, xs, rel, dd⟩ := zG8 I.hok e;refine call_meetsIn PySem.F.slot_dict_get dd.typeIs PySem.F.entry_dict_get (PySem.F.args_dict_get_3 _ _ _) (meetsH_dict_get_default (tupleKind (zAY X.prog X.w)) a b hd r) ⟨tupleKind_room_in1 hu, k, xs, zEJ I.hok eb, dd, h _ _ (I.tok _) ?_⟩;rw [l];exact (rel.val k).getD rd
end
def zNO (td ty tx : TE) : TE := fun σ H Q => td σ H fun x H1 => ∃ a, x = .ref a /\ IsD H1 a /\ ty σ H1 fun y H2 => tx σ H2 fun z H3 => ∃ o, zD4 H3 a y o /\ Q (o.getD z) H3
section
variable {X : Cx} {o e f : Expr} {apos cpos : Pos} {td ty tx : TE}
theorem zMt (hu : X.A.units + 1 < cLine) (ho : PE X o td) (he : PE X e ty) (hf : PE X f tx) (m : M2 X o "get" apos e f cpos) : PE X (.Call (.Attribute o "get" apos) [e, f] [] cpos) (zNO td ty tx) := by
 intro zB s σ H Q I h;refine wpAny_Call_method m.base m.few m.line PySem.F.plainAttrs_dict PySem.F.slot_dict_get PySem.F.type_dict_get (thn (ho zB s σ H _ I h) fun u s1 ⟨x, H1, I1, rx, a, ex, d, q1⟩ => ?_);subst ex;obtain rfl : u = Value.ref a := rx;obtain ⟨t1, t2, _⟩ := zNh I1 d;refine ⟨t1, t2, ?_⟩;rw [m.trees];refine Calls.callWith_builtin rfl (Calls.evalArgs_plain (Calls.spliced_cons (thn (he zB s1 σ H1 _ I1 q1) fun iv s2 ⟨y, H2, I2, ry, q2⟩ =>
  Calls.spliced_cons (thn (hf zB s2 σ H2 _ I2 q2) fun fv s3 ⟨z, H3, I3, rz, ov, g, q3⟩ => Calls.spliced_nil ?_))))
 exact zRK hu I3 g ry rz fun w' s4 I4 rw' => ⟨_, H3, I4, rw', q3⟩
end
theorem zAh : ∀ (names : List (Str × NameKind)) (n : Nat) (acc : List (Str × Addr)), cellsFrom n names acc = cellsFrom n names [] ++ acc
 | [], _, _ => rfl
 | (name, kind) :: r, n, acc => by
  unfold cellsFrom;split
  ·rw [zAh r (n + 1) ((name, n) :: acc), zAh r (n + 1) [(name, n)], zTu];rfl
  ·exact zAh r n acc
theorem zCN {α : Type} (x : Str) : ∀ (l r : List (Str × α)), (l ++ r).lookup x = (match l.lookup x with | some c => some c | none => r.lookup x)
 | [], r => rfl
 | (k, v) :: l, r => by
  rw [List.cons_append, zUz, zUz];cases hb : x == k with
  | true => rfl
  | false => exact zCN x l r
theorem zEF : ∀ (names : List (Str × NameKind)) (acc : List (Str × Addr)),
  (∀ y ∈ names, y.2 = .free -> ∃ c, env.cells.lookup y.1 = some c) ->
  (∀ x c, acc.lookup x = some c -> env.cells.lookup x = some c) ->
  ∃ cl : List (Str × Addr), (forIn names acc (fun (p : Str × NameKind) (cs : List (Str × Addr)) => (do
    if p.2 == .free then
     let a <- cellOf env p.1;pure (ForInStep.yield ((p.1, a) :: cs))
    else pure (ForInStep.yield cs) : Sem (ForInStep (List (Str × Addr)))))) = pure cl /\
   (∀ x c, cl.lookup x = some c -> env.cells.lookup x = some c) /\
   (∀ x, (acc.lookup x).isSome = true -> (cl.lookup x).isSome = true) /\ ∀ y ∈ names, y.2 = .free -> (cl.lookup y.1).isSome = true
 | [], acc, _, ha => ⟨acc, by rw [List.forIn_nil], ha, fun _ h => h, fun _ h => nomatch h⟩
 | (n, k) :: r, acc, hf, ha => by
  rw [List.forIn_cons];by_cases hk : k = .free
  ·subst hk;obtain ⟨c, hc⟩ := hf (n, .free) zS2 rfl;have hco : cellOf env n = pure c := by unfold cellOf; rw [hc]
   obtain ⟨cl, e, h1, h2, h3⟩ := zEF r ((n, c) :: acc) (fun y hy => hf y (zS1 _ hy)) (fun x d hx => by
    rw [zUz] at hx;cases hb : x == n with
    | true => rw [hb] at hx; cases hx; rw [beq_iff_eq.mp hb]; exact hc
    | false => rw [hb] at hx; exact ha x d hx)
   refine ⟨cl, ?_, h1, fun x hx => h2 x ?_, fun y hy hk => ?_⟩
   ·rw [<- e];simp only [beq_self_eq_true, if_true, hco];rfl
   ·rw [zUz];cases hb : x == n with
    | true => rfl
    | false => exact hx
   ·rcases zS0.mp hy with z | z
    ·subst z;exact h2 n (by rw [zUz]; simp)
    ·exact h3 y z hk
  ·obtain ⟨cl, e, h1, h2, h3⟩ := zEF r acc (fun y hy => hf y (zS1 _ hy)) ha;refine ⟨cl, ?_, h1, h2, fun y hy hk' => ?_⟩
   ·rw [<- e];have : (k == NameKind.free) = false := by simpa using hk
    simp only [this, zTp, if_false];rfl
   ·rcases zS0.mp hy with z | z
    ·subst z; exact absurd hk' hk
    ·exact h3 y z hk'
theorem zGn (hf : ∀ y ∈ scope.names, y.2 = .free -> ∃ c, env.cells.lookup y.1 = some c) :
  ∃ cl, closureFor scope env = pure cl /\ (∀ x c, cl.lookup x = some c -> env.cells.lookup x = some c) /\ ∀ y ∈ scope.names, y.2 = .free -> (cl.lookup y.1).isSome = true := by
 obtain ⟨cl, e, h1, _, h3⟩ := zEF (env := env) scope.names [] hf (fun x c h => nomatch h);refine ⟨cl, ?_, h1, h3⟩;unfold closureFor;rw [show (pure cl : Sem _) = pure cl >>= pure from rfl, <- e]
theorem zCg
  (hQ : Q (newEnv scope s.heap.objs.size globals (cellsFrom (s.heap.objs.size + 1) scope.names cl) qual none .none (some env) builtinsNs)
   { s with heap := pushCells (s.heap.push { cls := .type "dict", data := .dict #[] }) scope.names }) :
  wpAny M A (newFunctionEnv scope globals cl [] qual none .none (some env)) Q E s := by
 simp only [newFunctionEnv, Option.isSome_some, if_true];refine zSo (wpAny_alloc ?_);refine zSo (wpAny_layCells _ (fun name kind cells => by cases hkc : kind == NameKind.cell <;> simp [hkc]) _ _ _ _ ?_);rw [show ({ s with heap := s.heap.push { cls := .type "dict", data := .dict #[] } } : Shared).heap.objs.size = s.heap.objs.size + 1 from zTU ..];exact zSo (zSq (zSq hQ))
def zO (X : Cx) (zB : List (Addr × Obj)) (scope : Scope) (cl : List (Str × Addr)) (s : Shared) (H : Hp) (fp : List Addr) : Cx where
 prog := X.prog
 w := X.w
 K := X.K
 mg := X.mg
 base := X.base
 A := X.A
 N := X.N
 s₀ := s
 H₀ := H
 env := { scope := relabel scope X.env, locals := s.heap.objs.size + 1, globals := X.env.globals, cells := cellsFrom (s.heap.objs.size + 1 + 1) scope.names cl, qual := X.env.qual, func := none, code := X.env.code, frame := X.env.frame, builtins := X.env.builtins }
 outer := X.stack
 stack := X.stack
 ex := fp
 fn := fun x => decide (scope.names.lookup x = some .cell)
 calm := X.calm
 pn := X.pn ++ zB
 xe := fun _ _ => False
theorem zBD {scope : Scope} {env : Env} (x : Str) : ∀ {names : List (Str × NameKind)} {k : NameKind},
  (names.map fun (n, k) => if (k == NameKind.free && env.scope.kind == .function && env.kindOf n == some .cell) then (n, NameKind.cell) else (n, k)).lookup x = some k ->
  names.lookup x = some k \/ (names.lookup x = some .free /\ k = .cell)
 | [], _, h => by simp at h
 | (n, k') :: r, k, h => by
  rw [zS7] at h;by_cases hc : (k' == NameKind.free && env.scope.kind == .function && env.kindOf n == some .cell) = true
  ·simp only [hc, if_true] at h;rw [zUz] at h ⊢;cases hb : x == n with
   | true =>
    rw [hb] at h;simp only [zTO, beq_iff_eq] at hc;exact .inr ⟨by rw [hc.1.1], (zTo h).symm⟩
   | false => rw [hb] at h; exact zBD (scope := scope) x h
  ·simp only [hc, zTp, if_false] at h;rw [zUz] at h ⊢;cases hb : x == n with
   | true => rw [hb] at h; exact .inl h
   | false => rw [hb] at h; exact zBD (scope := scope) x h
theorem zGL : ∀ (names : List (Str × NameKind)) (n : Nat) (acc : List (Str × Addr)) (x : Str) (c : Addr), (x, c) ∈ cellsFrom n names acc -> (x, c) ∉ acc -> (x, NameKind.cell) ∈ names
 | [], _, _, _, _, h, h' => absurd h h'
 | (name, kind) :: r, n, acc, x, c, h, h' => by
  unfold cellsFrom at h;split at h
  ·rename_i hk;by_cases e : (x, c) = (name, n)
   ·cases e;rw [beq_iff_eq] at hk;subst hk;exact zS2
   ·exact zS1 _ (zGL r _ _ x c h fun z => (zS0.mp z).elim e h')
  ·exact zS1 _ (zGL r _ _ x c h h')
structure CompScope (X : Cx) (scope : Scope) : Prop where
 kind : scope.kind = .function
 names : ∀ y ∈ scope.names, y.2 = .local -> scope.names.lookup y.1 = some .local
 cells : ∀ y ∈ scope.names, y.2 = .cell -> scope.names.lookup y.1 = some .cell
 free : ∀ y ∈ scope.names, y.2 = .free -> X.env.kindOf y.1 = some .cell \/ X.env.kindOf y.1 = some .free
section
variable {X : Cx} {zB : List (Addr × Obj)} {σ σc : St} {H : Hp} {s s4 : Shared} {scope : Scope} {cl : List (Str × Addr)} {fp : List Addr}
theorem zEj (S : CompScope X scope) (I : Inv X zB σ H s) (hf : ∀ b ∈ fp, zCP X zB H b) (ho : ∀ b : Nat, b ∈ fp -> b < s.heap.objs.size)
  (c1 : ∀ x c, cl.lookup x = some c -> X.env.cells.lookup x = some c) (c2 : ∀ y ∈ scope.names, y.2 = .free -> (cl.lookup y.1).isSome = true)
  (hl : σc.length = σ.length) (hσ : ∀ (i : Nat) x v, X.N[i]? = some x -> σc[i]? = some (some v) -> (relabel scope X.env).names.lookup x ≠ none -> scope.names.lookup x = some .free /\ σ[i]? = some (some v))
  (lo : Obj) (hlo : ∀ v, lo.data ≠ .cell v) (hfr : lo.isFreed = false)
  (h4 : s4 = { s with heap := pushCells ((s.heap.push lo).push { cls := .type "dict", data := .dict #[] }) scope.names }) :
  Inv (zO X zB scope cl s H fp) [(s.heap.objs.size, lo)] σc H s4 := by
 subst h4;have sz1 : (s.heap.push lo).objs.size = s.heap.objs.size + 1 := zTU ..;have sz2 : ((s.heap.push lo).push { cls := .type "dict", data := .dict #[] }).objs.size = s.heap.objs.size + 1 + 1 := by rw [zTU, sz1]
 have hk : ∀ b o, s.heap.get? b = some o -> (pushCells ((s.heap.push lo).push { cls := .type "dict", data := .dict #[] }) scope.names).get? b = some o := fun b o e =>
  pushCells_keeps _ _ b o (zSp _ (zSp _ e))
 have ok := cellsFrom_ok scope.names ((s.heap.push lo).push { cls := .type "dict", data := .dict #[] }) (s.heap.objs.size + 1 + 1) [] ⟨fun _ _ hm => (nomatch hm), List.Pairwise.nil⟩ (by rw [sz2]; exact zSu _);rw [sz2] at ok;have look : ∀ x c, (cellsFrom (s.heap.objs.size + 1 + 1) scope.names cl).lookup x = some c -> ((cellsFrom (s.heap.objs.size + 1 + 1) scope.names []).lookup x = some c) \/ ((cellsFrom (s.heap.objs.size + 1 + 1) scope.names []).lookup x = none /\ X.env.cells.lookup x = some c) := fun x c e => by
  rw [zAh, zCN] at e;cases q : (cellsFrom (s.heap.objs.size + 1 + 1) scope.names []).lookup x with
  | some d => rw [q] at e; exact .inl e
  | none => rw [q] at e; exact .inr ⟨rfl, c1 x c e⟩
 have old : ∀ x (c : Nat), X.env.cells.lookup x = some c -> c < s.heap.objs.size := fun x c e => let ⟨_, q⟩ := I.cell x c e; q.lt;have new : ∀ x (c : Nat), (cellsFrom (s.heap.objs.size + 1 + 1) scope.names []).lookup x = some c -> s.heap.objs.size + 1 + 1 <= c := fun x c e => (ok.empty x c (zTq e)).2;have own : ∀ x, scope.names.lookup x = some .cell -> ∃ c, (cellsFrom (s.heap.objs.size + 1 + 1) scope.names []).lookup x = some c := fun x e => zGi e;have cne : ∀ x (c : Nat), (cellsFrom (s.heap.objs.size + 1 + 1) scope.names cl).lookup x = some c -> c < s.heap.objs.size \/ s.heap.objs.size + 1 + 1 <= c := fun x c e => by
  rcases look x c e with q | ⟨_, q⟩
  ·exact .inr (new x c q)
  ·exact .inl (old x c q)
 refine ⟨⟨I.ok.mod, S.kind, I.ok.glob, I.ok.blt, Nat.le_succ _, fun x y c h1 h2 => ?_, fun x hx => ?_, fun x c hx h => ?_, I.ok.hd, I.ok.frames, .inl rfl, fun b hb => ⟨?_, fun x c e z => ?_⟩, I.bs, zTF I.ok.bsz I.sz, fun b o e hb => ?_, fun b hb z => ?_, I.stack, I.stkFree⟩,
  rfl, I.bare, Un.kept hk, ⟨fun _ => none, ?_, fun i x v h1 h2 h3 => ?_⟩, fun x c e => ?_, I.hok.fresh (Nat.le_succ _), fun x c e => ?_, fun p hp => ?_, I.hok.kept hk, hl.trans I.len⟩
 ·rcases look x c h1 with a | ⟨_, a⟩ <;> rcases look y c h2 with b | ⟨_, b⟩
  ·exact name_of_addr ok.apart (zTq a) (zTq b)
  ·exact absurd (Nat.lt_of_le_of_lt (new x c a) (old y c b)) (by omega)
  ·exact absurd (Nat.lt_of_le_of_lt (new y c b) (old x c a)) (by omega)
  ·exact I.ok.inj x y c a b
 ·have hx' : (relabel scope X.env).names.lookup x = some .cell \/ (relabel scope X.env).names.lookup x = some .free := hx;have go : scope.names.lookup x = some .cell \/ scope.names.lookup x = some .free := by
   rcases hx' with q | q
   ·rcases zBD (scope := scope) x q with z | z
    ·exact .inl z
    ·exact .inr z.1
   ·rcases zBD (scope := scope) x q with z | z
    ·exact .inr z
    ·exact .inr z.1
  show ∃ c, (cellsFrom (s.heap.objs.size + 1 + 1) scope.names cl).lookup x = some c;rw [zAh, zCN];rcases go with q | q
  ·obtain ⟨c, e⟩ := own x q;exact ⟨c, by rw [e]⟩
  ·cases e : (cellsFrom (s.heap.objs.size + 1 + 1) scope.names []).lookup x with
   | some d => exact ⟨d, rfl⟩
   | none => exact Option.isSome_iff_exists.mp (c2 (x, .free) (zTq q) rfl)
 ·obtain ⟨d, e⟩ := own x (zTk hx);have h' : (cellsFrom (s.heap.objs.size + 1 + 1) scope.names cl).lookup x = some c := h;rw [zAh, zCN, e] at h';cases h';exact zTF (zTF (Nat.le_succ _) (Nat.le_succ _)) (new x _ e)
 ·exact zS9 (zTd (ho b hb))
 ·rcases look x c e with q | ⟨_, q⟩
  ·have a := new x c q;rw [z] at a;exact absurd (Nat.lt_of_le_of_lt a (ho b hb)) (by omega)
  ·exact (hf b hb).2.2.2.2.1 x c q z
 ·rcases (hf b hb).2.2.2.1 with z | z
  ·exact I.ok.noex b o e z
  ·exact absurd (zTD (zSz e) (zTF I.ok.bsz z)) (zTW _)
 ·rcases zS0.mp (I.stkSub b z) with q | q
  ·exact (hf b hb).2.1 q
  ·exact (hf b hb).2.2.1 q
 ·have q : ((s.heap.push lo).push { cls := .type "dict", data := .dict #[] }).Ns (s.heap.push lo).objs.size (fun _ => none) := Heap.Ns.new ..;rw [sz1] at q;exact q.keeps (pushCells_keeps _ _)
 ·have h3' : (relabel scope X.env).names.lookup x ≠ none := by
   rcases h3 with z | z | z <;> (intro q; have z' : (relabel scope X.env).names.lookup x = _ := z; rw [q] at z'; cases z')
  obtain ⟨fr, hv⟩ := hσ i x v h1 h2 h3';obtain ⟨m, hn, hlk⟩ := I.loc;have kx := S.free (x, .free) (zTq fr) rfl;obtain ⟨u, rv, lk⟩ := hlk i x v h1 hv (by rcases kx with z | z; exact .inr (.inl z); exact .inr (.inr z));refine ⟨u, rv, ?_⟩;rcases lk with ⟨z, _⟩ | ⟨_, c, e, ic⟩
  ·rcases kx with k | k <;> (rw [k] at z; cases z)
  ·have kind : (relabel scope X.env).names.lookup x = some .cell \/ (relabel scope X.env).names.lookup x = some .free := by
    cases q : (relabel scope X.env).names.lookup x with
    | none => exact absurd q h3'
    | some k =>
     rcases zBD (scope := scope) x q with z | z
     ·rw [fr] at z; cases z; exact .inr rfl
     ·rw [z.2]; exact .inl rfl
   refine .inr ⟨kind, c, ?_, ic.keeps hk⟩;show (cellsFrom (s.heap.objs.size + 1 + 1) scope.names cl).lookup x = some c;rw [zAh, zCN];obtain ⟨d, hd⟩ := Option.isSome_iff_exists.mp (c2 (x, .free) (zTq fr) rfl);have := c1 x d hd;rw [e] at this; cases this;have nn : (cellsFrom (s.heap.objs.size + 1 + 1) scope.names []).lookup x = none := by
    cases q : (cellsFrom (s.heap.objs.size + 1 + 1) scope.names []).lookup x with
    | none => rfl
    | some d' =>
     have z := S.cells (x, .cell) (zGL scope.names _ [] x d' (zTq q) fun z => nomatch z) rfl;rw [fr] at z; cases z
   rw [nn]; exact hd
 ·rcases look x c e with q | ⟨_, q⟩
  ·exact ⟨none, (ok.empty x c (zTq q)).1⟩
  ·obtain ⟨v, z⟩ := I.cell x c q;exact ⟨v, z.keeps hk⟩
 ·rcases look x c e with q | ⟨_, q⟩
  ·exact I.hok.fresh (by have := new x c q; omega)
  ·exact I.freeC x c q
 ·have hp' : p ∈ X.pn ++ zB \/ p = (s.heap.objs.size, lo) := by
   rcases zTE.mp hp with z | z
   ·exact .inl z
   ·exact .inr (by simpa using z)
  rcases hp' with z | z
  ·obtain ⟨e, n, ne, nf, d⟩ := I.pin p z;have lt : (p.1 : Nat) < s.heap.objs.size := zSz e;refine ⟨hk _ _ e, n, ?_, fun q => ?_, d⟩
   ·exact zS9 (zTd lt)
   ·rcases zS0.mp (I.stkSub _ q) with r | r
    ·exact ne r
    ·exact nf r
  ·subst z;refine ⟨pushCells_keeps _ _ _ _ (zSp _ (zSy _ hfr)), I.hok.fresh (zSu _), ?_, fun q => ?_, hlo⟩
   ·show s.heap.objs.size ≠ s.heap.objs.size + 1;omega
   ·rcases zS0.mp (I.stkSub _ q) with r | r
    ·exact absurd I.lt (by rw [<- r]; exact zTW _)
    ·exact I.nofs (zSu _) r
end
def clr (own : List Nat) (σ : St) : St := own.foldl (fun σ i => σ.set i none) σ
theorem zBS : ∀ (own : List Nat) (σ : St), (clr own σ).length = σ.length
 | [], _ => rfl
 | i :: r, σ => by
  show (clr r (σ.set i none)).length = _;rw [zBS r, zVD]
theorem zCZ : ∀ (own : List Nat) (σ : St) (j : Nat) (v : V), (clr own σ)[j]? = some (some v) -> σ[j]? = some (some v) /\ j ∉ own
 | [], _, _, _, h => ⟨h, fun z => nomatch z⟩
 | i :: r, σ, j, v, h => by
  have h' : (clr r (σ.set i none))[j]? = some (some v) := h;obtain ⟨a, b⟩ := zCZ r _ j v h';rw [zUT] at a;split at a
  ·split at a <;> cases a
  ·rename_i hne;exact ⟨a, fun z => (zS0.mp z).elim (fun e => hne e.symm) b⟩
def Ext (a b : St) : Prop := b.length = a.length /\ ∀ (i : Nat) v, a[i]? = some (some v) -> b[i]? = some (some v)
theorem Ext.refl (a : St) : Ext a a := ⟨rfl, fun _ _ h => h⟩
theorem Ext.set (e : Ext (clr own σ) a) (h : i ∈ own) : Ext (clr own σ) (a.set i (some v)) := by
 refine ⟨by rw [zVD]; exact e.1, fun j u q => ?_⟩;rw [zUT];split
 ·rename_i z;exact absurd (z ▸ h) (zCZ own σ j u q).2
 ·exact e.2 j u q
def zFY (X : Cx) (ifs : List Expr) (t : TT) : Prop :=
 ∀ (zB : List (Addr × Obj)) (s : Shared) (σ : St) (H : Hp) (Q : Bool -> Hp -> Prop), Inv X zB σ H s -> t σ H Q ->
  wpAny (model X.prog X.w) X.A (forIn ifs true fun c r => if r = true then do let ok <- isTrue c X.env (eval c X.env); pure (ForInStep.yield ok) else pure (ForInStep.yield r)) (TP X zB σ Q) X.xe s
def zSj : TT := fun _ H Q => Q true H
theorem zNg : zFY X [] zSj := fun _ _ _ H _ I h => wpAny_tests_nil ⟨H, I, h⟩
theorem zOU (h : PT X c t) : zFY X [c] t := fun zB s σ H Q I hq => wpAny_tests_one (h zB s σ H Q I hq)
section
variable {prog : Program} {w : World} {A : Around} {E : Value -> Shared -> Prop} {R : Result -> Shared -> Prop} {s : Shared}
theorem zIL (I : Nat -> Shared -> Prop)
  (turn : ∀ n s, I n s -> wpAny (model prog w) A (pyNext it) (fun r s₁ => match r with
   | none => R (.ok .next) s₁
   | some v => wpAny (model prog w) A (letOwnedTupleGo target it v) (fun _ s₁' => wpAny (model prog w) A (assign target env v) (fun _ s₂ =>
     wpAny (model prog w) A (forIn ifs true fun c r => if r = true then do let ok <- isTrue c env (eval c env); pure (ForInStep.yield ok) else pure (ForInStep.yield r)) (fun ok s₃ =>
      if ok = true then wpAny (model prog w) A (eval elt env) (fun x s₄ =>
       wpAny (model prog w) A (call (.builtin "list.append") [acc, x]) (fun _ s₅ => ∃ m, m < n /\ I m s₅) (fun _ _ => False) s₄) (fun _ _ => False) s₃
      else ∃ m, m < n /\ I m s₃) (fun _ _ => False) s₂) (fun _ _ => False) s₁') (fun _ _ => False) s₁) (fun _ _ => False) s)
  (n : Nat) (h : I n s) :
  codeAny (model prog w) A (.compLoop (.ListComp elt [⟨target, iter, ifs, 0⟩] scope pos) 0 it acc env) R s := by
 refine codeAny_loop rfl I (fun n s hI => ?_) n h;show wpAny _ A ((compTurn (.ListComp elt [⟨target, iter, ifs, 0⟩] scope pos) 0 it acc env).onRaise (fun x => do noteFrame x env; theTreesLotGoes x)) _ _ s;refine wpAny_noted ?_;rw [compTurn_list];refine zSo (zTm (zSo (zTK (turn n s hI) (fun r s₁ h₁ => ?_) fun _ _ h' => h'.elim)));cases r with
 | none => exact zSq h₁
 | some v =>
  refine zSo (zTK h₁ (fun _ s₁' h₁' => ?_) fun _ _ h' => h'.elim);refine zSo (zTK h₁' (fun _ s₂ h₂ => zSo (zTK h₂ (fun ok s₃ h₃ => ?_) fun _ _ h' => h'.elim)) fun _ _ h' => h'.elim);cases ok with
  | false => exact zSq ⟨rfl, h₃⟩
  | true =>
   exact zSo (zSo (zTK h₃ (fun x s₄ h₄ => zSo (zTK h₄ (fun _ s₅ h₅ => zSq (zSq ⟨rfl, h₅⟩)) fun _ _ h' => h'.elim)) fun _ _ h' => h'.elim))
end
def zNJ (own : List Nat) (wi : TI) (g : TG) (tc : TT) (te : TE) : TE := fun σ H Q => wi σ H fun J H1 => ∃ W : Nat -> Nat -> List V -> Hp -> Prop, (∃ m, W 0 m [] H1) /\ ∀ i m ys H, W i m ys H ->
 (J.stop i H /\ ys.length <= sizeLine /\ ∀ D, H D = none -> Q (.ref D) (upd H D (.lst ys))) \/
 (J.go i H /\ ∀ x H', J.yld i H x H' -> g x (clr own σ) H' fun σ2 H2 => Ext (clr own σ) σ2 /\ tc σ2 H2 fun b H3 =>
  if b = true then te σ2 H3 fun v H4 => ys.length < sizeLine /\ ∃ m', m' < m /\ W (i + 1) m' (ys ++ [v]) H4 else ∃ m', m' < m /\ W (i + 1) m' ys H3)
abbrev zo (its : List Value) (n : Nat) : Obj := { cls := .type "list", data := .seq its.toArray n }
section
variable {X : Cx} {zB : List (Addr × Obj)} {σ : St} {H : Hp} {s : Shared}
theorem Inv.repin (I : Inv X (pl ++ [(D, o)]) σ H s) (hpl : ∀ p ∈ X.pn ++ pl, p.1 ≠ D) (hs : Heap.SameBut D s.heap h') (hD : X.s₀.heap.objs.size <= D) (hc : ∀ x c, X.env.cells.lookup x = some c -> c ≠ D)
  (e : h'.get? D = some o') (hn : ∀ v, o'.data ≠ .cell v) : Inv X (pl ++ [(D, o')]) σ H { s with heap := h' } := by
 obtain ⟨e0, n0, ne0, nf0, d0⟩ := I.pin (D, o) (by simp);have I1 : Inv X pl σ H s := I.pins_of fun p hp => I.pin p (by simp [hp]);have I2 : Inv X pl σ H { s with heap := h' } := I1.turned (t' := s.toks) (it := D) (fun b u hb q => hs.extBut b u hb q) n0 ne0 (.inr hD) hc hpl;exact I2.pins_of fun p hp => by
  rcases zTE.mp hp with z | z
  ·exact I2.pin p (zS8 _ z)
  ·have : p = (D, o') := by simpa using z
   subst this;exact ⟨e, n0, ne0, nf0, hn⟩
end
section
variable {X : Cx} {zB : List (Addr × Obj)} {σ : St} {H : Hp} {s : Shared} {scope : Scope} {cl : List (Str × Addr)} {fp : List Addr} {it : Addr} {tn : Nat -> Heap -> Prop} {J : It} {tg elt iter : Expr} {ifs : List Expr} {pos : Pos}
 {own : List Nat} {g : TG} {tc : TT} {te : TE} {E : Value -> Shared -> Prop}
structure CompIn (X : Cx) (scope : Scope) (own : List Nat) : Prop where
 sc : CompScope X scope
 nm : ∀ (i : Nat) x, X.N[i]? = some x -> i ∈ own \/ scope.names.lookup x = none \/ scope.names.lookup x = some .free
theorem zB9 (x : Str) (h : scope.names.lookup x = none) : (relabel scope env).names.lookup x = none := by
 cases q : (relabel scope env).names.lookup x with
 | none => rfl
 | some k =>
  rcases zBD (scope := scope) x q with z | z
  ·rw [h] at z; cases z
  ·rw [h] at z; cases z.1
theorem zGE (C : CompIn X scope own) (hcalm : X.calm = true) (I : Inv X zB σ H s) (T : Turn X.prog X.w X.K tg J fp it tn) (st : tn 0 s.heap) (hf : ∀ b ∈ fp, zCP X zB H b)
  (c1 : ∀ x c, cl.lookup x = some c -> X.env.cells.lookup x = some c) (c2 : ∀ y ∈ scope.names, y.2 = .free -> (cl.lookup y.1).isSome = true)
  (hg : PG (zO X zB scope cl s H fp) tg g) (hi : zFY (zO X zB scope cl s H fp) ifs tc) (he : PE (zO X zB scope cl s H fp) elt te)
  {RR : Value -> Addr -> Result -> Shared -> Prop} {QQ : List V -> Hp -> Prop} {W : Nat -> Nat -> List V -> Hp -> Prop} {m0 : Nat} (w0 : W 0 m0 [] H)
  (turn : ∀ i m ys H, W i m ys H -> (J.stop i H /\ ys.length <= sizeLine /\ QQ ys H) \/
   (J.go i H /\ ∀ x H', J.yld i H x H' -> g x (clr own σ) H' fun σ2 H2 => Ext (clr own σ) σ2 /\ tc σ2 H2 fun b H3 =>
    if b = true then te σ2 H3 fun v H4 => ys.length < sizeLine /\ ∃ m', m' < m /\ W (i + 1) m' (ys ++ [v]) H4 else ∃ m', m' < m /\ W (i + 1) m' ys H3))
  (fin : ∀ σc H' s' its n ys, Inv (zO X zB scope cl s H fp) [(s.heap.objs.size, zo its n)] σc H' s' -> zk ys its -> ys.length <= sizeLine -> QQ ys H' -> RR (.ref s.heap.objs.size) (s.heap.objs.size + 1) (.ok .next) s') :
  wpAny (model X.prog X.w) X.A (newList []) (fun acc s₃ => wpAny (model X.prog X.w) X.A (newFunctionEnv scope X.env.globals cl [] X.env.qual none .none (some X.env)) (fun cenv s₄ =>
   codeAny (model X.prog X.w) X.A (.compStart (.ListComp elt [⟨tg, iter, ifs, 0⟩] scope pos) 0 (.ref it) acc { cenv with scope := relabel scope X.env }) (RR acc cenv.locals) s₄) E s₃) E s := by
 have ob : ∀ b : Nat, b ∈ fp -> b < s.heap.objs.size := fun b hb => let ⟨_, e, _⟩ := T.obj 0 _ st b hb; zSz e;refine zTH (zCg ?_);have sz1 : (s.heap.push (zo [] 0)).objs.size = s.heap.objs.size + 1 := zTU ..;have I4 := zEj (X := X) (zB := zB) (σ := σ) (σc := clr own σ) (H := H) (s := s) (scope := scope) (cl := cl) (fp := fp) C.sc I hf ob c1 c2 (zBS own σ) (fun i x v h1 h2 h3 => by
  obtain ⟨a, b⟩ := zCZ own σ i v h2;rcases C.nm i x h1 with z | z | z
  ·exact absurd z b
  ·exact absurd (zB9 x z) h3
  ·exact ⟨z, a⟩) (zo [] 0) (by intro v z; cases z) rfl rfl
 have st4 : tn 0 (pushCells ((s.heap.push (zo [] 0)).push { cls := .type "dict", data := .dict #[] }) scope.names) := T.keep 0 _ _ st fun b _ o e => pushCells_keeps _ _ b o (zSp _ (zSp _ e));dsimp only;unfold newEnv;dsimp only;rw [sz1];have hDfp : s.heap.objs.size ∉ fp := fun z => zTW _ (ob _ z);have hcD : ∀ x c, (zO X zB scope cl s H fp).env.cells.lookup x = some c -> c ≠ s.heap.objs.size := fun x c e z => by
  obtain ⟨v, o, ho, hd⟩ := I4.cell x c e;obtain ⟨q, _⟩ := I4.pin (s.heap.objs.size, zo [] 0) (by simp);rw [z, q] at ho;cases ho; cases hd
 have fpk : ∀ {H' : Hp} {pl : List (Addr × Obj)}, (∀ b ∈ fp, H' b = none) -> (∀ p ∈ pl, p.1 = s.heap.objs.size) -> ∀ b ∈ fp, zCP (zO X zB scope cl s H fp) pl H' b := fun {H' pl} hn hp b hb =>
  ⟨hn b hb, (I4.ok.exf b hb).1, I4.ok.exfs b hb, .inl hb, (I4.ok.exf b hb).2, fun p hq => by
   rcases zTE.mp hq with z | z
   ·exact (hf b hb).2.2.2.2.2 p z
   ·intro e;have e2 := hp p z;rw [e] at e2;exact hDfp (e2 ▸ hb)⟩
 have loop : codeAny (model X.prog X.w) X.A (.compLoop (.ListComp elt [⟨tg, iter, ifs, 0⟩] scope pos) 0 (.ref it) (.ref s.heap.objs.size) (zO X zB scope cl s H fp).env) (RR (.ref s.heap.objs.size) (s.heap.objs.size + 1))
   { s with heap := pushCells ((s.heap.push (zo [] 0)).push { cls := .type "dict", data := .dict #[] }) scope.names } := by
  refine zIL (fun n s' => ∃ i H' ys its k, Inv (zO X zB scope cl s H fp) [(s.heap.objs.size, zo its k)] (clr own σ) H' s' /\ zk ys its /\ tn i s'.heap /\ (∀ b ∈ fp, H' b = none) /\ W i n ys H') ?_ m0
   ⟨0, H, [], [], 0, I4, .nil, st4, fun b hb => (hf b hb).1, w0⟩
  rintro n s5 ⟨i, H5, ys, its, k, I5, r5, st5, f5, w5⟩;have pinD : ∀ p ∈ [(s.heap.objs.size, zo its k)], p.1 = s.heap.objs.size := fun p hp => by
   have : p = (s.heap.objs.size, zo its k) := by simpa using hp
   rw [this]
  rcases turn i n ys H5 w5 with ⟨stop, hz, qq⟩ | ⟨go, step⟩
  ·refine thn (T.done (zO X zB scope cl s H fp) rfl rfl rfl hcalm i _ s5 _ H5 _ I5 (fpk f5 pinD) st5 stop) fun r s6 ⟨hr, I6⟩ => ?_;subst hr;exact fin _ H5 s6 its k ys I6 r5 hz qq
  ·refine thn (T.item (zO X zB scope cl s H fp) rfl rfl rfl hcalm i _ s5 _ H5 _ I5 (fpk f5 pinD) st5 go) fun r s6 ⟨u, hr, h6⟩ => ?_;subst hr;refine thn h6 fun _ s7 ⟨x, H7, I7, r7, y7, st7, f7⟩ => ?_;have I7' := I7.pinned (fpk f7 pinD) (T.obj _ _ st7);refine thn (hg _ s7 _ H7 x u _ I7' r7 (step x H7 y7)) fun _ s8 ⟨σ8, H8, I8, x8, q8⟩ => ?_;refine thn (hi _ s8 σ8 H8 _ I8 q8) fun ok s9 ⟨H9, I9, q9⟩ => ?_;have back : ∀ {s' : Shared} {Hx : Hp}, Inv (zO X zB scope cl s H fp) ([(s.heap.objs.size, zo its k)] ++ zCn fp s7.heap) σ8 Hx s' -> tn (i + 1) s'.heap /\ ∀ b ∈ fp, Hx b = none := fun {s' Hx} Ix =>
    ⟨T.keep _ _ _ st7 fun b hb o e => (Ix.pin (b, o) (zS8 _ (zS8 _ (zAN hb e)))).1, fun b hb => by
     obtain ⟨o, e, d⟩ := T.obj _ _ st7 b hb;exact (Ix.pin (b, o) (zS8 _ (zS8 _ (zAN hb e)))).2.1⟩
   cases ok with
   | false =>
    obtain ⟨m', hm, w'⟩ := q9;obtain ⟨b1, b2⟩ := back I9;exact ⟨m', hm, i + 1, H9, ys, its, k, (I9.weak (by rw [x8.1]) x8.2).unpinned, r5, b1, b2, w'⟩
   | true =>
    refine thn (he _ s9 σ8 H9 _ I9 q9) fun v s10 ⟨y, H10, I10, r10, hlt, m', hm, w'⟩ => ?_;obtain ⟨b1, b2⟩ := back I10;have J10 := (I10.weak (by rw [x8.1]) x8.2).unpinned;obtain ⟨e10, n10, ne10, nf10, d10⟩ := J10.pin (s.heap.objs.size, zo its k) (by simp);have hlen : its.toArray.size <= sizeLine := by
     have := r5.length;rw [zSw, <- this];exact Nat.le_of_lt hlt
    refine wpAny_list_append_plain (hsz := hlen) (show s10.heap.PlainList s.heap.objs.size its.toArray from ⟨k, e10⟩) fun h' hl' hs' => ?_;obtain ⟨k', e'⟩ := hl';have e'' : h'.get? s.heap.objs.size = some (zo (its ++ [v]) k') := by rw [e']; simp [zo]
    refine ⟨m', hm, i + 1, H10, ys ++ [y], its ++ [v], k', ?_, r5.append (.cons r10 .nil), T.keep _ _ _ b1 fun b hb o e => hs'.extBut b o (fun z => hDfp (z ▸ hb)) e, b2, w'⟩;refine Inv.repin (pl := []) J10 (fun p hp => ?_) hs' (zSu _) hcD e'' (by intro v z; cases z);rw [zTY] at hp;have hp' : p ∈ X.pn ++ zB := hp;exact zS9 (zSz (I.pin p hp').1)
 exact codeAny_compStart_list loop (T.self _ 0 _ _ _ st4 loop)
end
section
variable {X : Cx} {zB : List (Addr × Obj)} {σ : St} {H : Hp} {s : Shared} {scope : Scope} {cl : List (Str × Addr)} {fp : List Addr}
theorem zF0 (I : Inv X zB σ H s) (hf : ∀ b ∈ fp, zCP X zB H b)
  (Ic : Inv (zO X zB scope cl s H fp) [(s.heap.objs.size, zo its n)] σc H' s') (rv : zk ys its) (hz : ys.length <= sizeLine) (hs : Heap.SameBut (s.heap.objs.size + 1) s'.heap h') :
  Inv X zB σ (upd H' s.heap.objs.size (.lst ys)) { s' with heap := h' } /\ H' s.heap.objs.size = none := by
 obtain ⟨eD, nD, _⟩ := Ic.pin (s.heap.objs.size, zo its n) (by simp);have nC : H' (s.heap.objs.size + 1) = none := Ic.free;have eD' : h'.get? s.heap.objs.size = some (zo its n) := hs.extBut _ _ (zS9 (zTl _)) eD;have lt1 : ∀ {b : Addr} {o : Obj}, s.heap.get? b = some o -> b ≠ s.heap.objs.size + 1 /\ b ≠ s.heap.objs.size := fun e => ⟨zS9 (zTd (zSz e)), zS9 (zSz e)⟩;have tr : ∀ b u, H' b = some u -> b ≠ s.heap.objs.size + 1 /\ b ≠ s.heap.objs.size := fun b u e => ⟨fun z => (by rw [z, nC] at e; cases e), fun z => (by rw [z, nD] at e; cases e)⟩;refine ⟨?_, nD⟩;have B := Ic.base;have un : Un (frs X.stack) fp H (upd H' s.heap.objs.size (.lst ys)) s.heap h' := by
  refine ⟨fun b o e q hb hx => hs.extBut b o (lt1 e).1 (B.keep b o e q hb hx), fun b o e q hb hx => ?_, fun b o e q hx => ?_, fun b o e hx => ?_, fun b xs e => ?_, fun b o xs e => ?_, fun b ps e => ?_⟩
  ·obtain ⟨sl, e1⟩ := B.slot b o e q hb hx;exact ⟨sl, hs.extBut b _ (lt1 e).1 e1⟩
  ·rw [zg (lt1 e).2]; exact B.free b o e q hx
  ·obtain ⟨o', e1⟩ := B.there b o e hx;exact ⟨o', hs.extBut b _ (lt1 e).1 e1⟩
  ·have q := B.tups b xs e;rw [zg (tr b _ q).2]; exact q
  ·have q := B.frzs b o xs e;rw [zg (tr b _ q).2]; exact q
  ·obtain ⟨more, q⟩ := B.tbls b ps e;exact ⟨more, by rw [zg (tr b _ q).2]; exact q⟩
 have hok : HOk X.prog X.w (upd H' s.heap.objs.size (.lst ys)) h' := fun b u e => by
  by_cases hb : b = s.heap.objs.size
  ·subst hb;rw [zAP] at e; cases e;exact ⟨hz, its, n, rv, eD'⟩
  ·rw [zg hb] at e;refine (Ic.hok b u e).stay (fun c v hc q => hs.extBut c v ?_ q) (fun c q => by rw [zg (tr c _ q).2]; exact q) fun c xs q => by rw [zg (tr c _ q).2]; exact q
   rcases hc with z | z
   ·rw [z]; exact (tr b u e).1
   ·exact (tr c _ z).1
 exact I.call' (s' := { s' with heap := h' }) (ch := fp) Ic.os un hok Ic.bare fun b hb => ⟨(hf b hb).2.2.2.1, (hf b hb).2.1, (hf b hb).2.2.2.2.1, (hf b hb).2.2.2.2.2⟩
end
section
variable {X : Cx} {scope : Scope} {tg elt iter : Expr} {ifs : List Expr} {pos : Pos} {own : List Nat} {wi : TI} {g : TG} {tc : TT} {te : TE}
structure CompParts (X : Cx) (scope : Scope) (tg : Expr) (ifs : List Expr) (elt : Expr) (g : TG) (tc : TT) (te : TE) : Prop where
 g : ∀ zB cl s H fp, PG (zO X zB scope cl s H fp) tg g
 c : ∀ zB cl s H fp, zFY (zO X zB scope cl s H fp) ifs tc
 e : ∀ zB cl s H fp, PE (zO X zB scope cl s H fp) elt te
theorem CompScope.closure (S : CompScope X scope) (I : Inv X zB σ H s) :
  ∃ cl, closureFor scope X.env = pure cl /\ (∀ x c, cl.lookup x = some c -> X.env.cells.lookup x = some c) /\ ∀ y ∈ scope.names, y.2 = .free -> (cl.lookup y.1).isSome = true :=
 zGn fun y hy hk => I.ok.has y.1 (S.free y hy hk)
theorem zOc (C : CompIn X scope own) (hcalm : X.calm = true) (hi : PI X tg iter wi) (p : CompParts X scope tg ifs elt g tc te) (hs : ∀ x, foldedSetIterable iter X.env x = pure x := by intro _; rfl) :
  PE X (.ListComp elt [⟨tg, iter, ifs, 0⟩] scope pos) (zNJ own wi g tc te) := by
 intro zB s σ H Q I h;obtain ⟨cl, hcl, c1, c2⟩ := C.sc.closure I;rw [eval_ListComp];refine wpAny_comprehension_free (use := none) rfl hs hcl C.sc.kind C.sc.names (thn (hi zB s σ H _ I h) fun v s1 h1 => thn h1 fun itv s2 h2 => ?_);obtain ⟨it, fp, tn, J, H2, e, I2, T, st2, f2, W, ⟨m0, w0⟩, turn⟩ := h2;subst e;refine zGE C hcalm I2 T st2 f2 c1 c2 (p.g _ _ _ _ _) (p.c _ _ _ _ _) (p.e _ _ _ _ _) (RR := fun acc C r s' => compPost (model X.prog X.w) X.A X.xe none (EP X zB σ Q) acc C r s') (QQ := fun ys H => ∀ D, H D = none -> Q (.ref D) (upd H D (.lst ys))) w0 turn ?_;intro σc H' s' its n ys Ic rv hz qq;obtain ⟨m, hn, _⟩ := Ic.loc;refine ⟨m, hn, fun h' hs' => ?_⟩;obtain ⟨J', nD⟩ := zF0 I2 f2 Ic rv hz hs';exact ⟨.ref s2.heap.objs.size, _, J', rfl, qq _ nD⟩
theorem zKY (hN : X.N.Nodup) (hi' : X.N[i]? = some x) (hx : Loc X.env.scope x) (hfn : X.fn x = true \/ X.env.scope.names.lookup x = some .local)
  (C : CompIn X scope own) (hcalm : X.calm = true) (hi : PI X tg iter wi) (p : CompParts X scope tg ifs elt g tc te)
  (hsw : swapsWith (.ListComp elt [⟨tg, iter, ifs, 0⟩] scope pos) (some (.Name x pos')) pos''.line X.env = pure true) (hs : ∀ x, foldedSetIterable iter X.env x = pure x := by intro _; rfl) :
  PS X (.Assign [.Name x pos'] (.ListComp elt [⟨tg, iter, ifs, 0⟩] scope pos) pos'') (zMd (zNJ own wi g tc te) (zDM i)) := by
 intro zB s σ H D I h;obtain ⟨cl, hcl, c1, c2⟩ := C.sc.closure I;rw [exec_Assign_Name_used _ _ _ _ hsw];refine zSo (zTm (zSo ?_));show wpAny _ X.A (do let _ <- comprehension (.ListComp elt [⟨tg, iter, ifs, 0⟩] scope pos) scope X.env _ (newList []) false (eval iter X.env) (some (assign (.Name x pos') X.env))) _ _ s
 refine zSo (zTK (wpAny_comprehension_free (use := some (assign (.Name x pos') X.env)) (Q := fun _ s' => SP X zB D .next s') rfl hs hcl C.sc.kind C.sc.names
  (thn (hi zB s σ H _ I h) fun v s1 h1 => thn h1 fun itv s2 h2 => ?_)) (fun _ s' hq => zSq (zSq hq)) fun _ _ e => e)
 obtain ⟨it, fp, tn, J, H2, e, I2, T, st2, f2, W, ⟨m0, w0⟩, turn⟩ := h2;subst e
 refine zGE C hcalm I2 T st2 f2 c1 c2 (p.g _ _ _ _ _) (p.c _ _ _ _ _) (p.e _ _ _ _ _) (RR := fun acc C r s' => compPost (model X.prog X.w) X.A X.xe (some (assign (.Name x pos') X.env)) (fun _ s' => SP X zB D .next s') acc C r s')
  (QQ := fun ys H => ∀ E, H E = none -> zDM i (.ref E) σ (upd H E (.lst ys)) D.nx) w0 turn ?_
 intro σc H' s' its n ys Ic rv hz qq;obtain ⟨m, hn, _⟩ := Ic.loc;obtain ⟨J', nD⟩ := zF0 (h' := s'.heap) I2 f2 Ic rv hz (.refl ..);obtain ⟨oC, es, ep, hoC, hdC, r1, r2⟩ := id hn;have nC : upd H' s2.heap.objs.size (.lst ys) (s2.heap.objs.size + 1) = none := by rw [zg (Nat.ne_of_gt (zTl _))]; exact Ic.free
 have K' : Inv X (zB ++ [(s2.heap.objs.size + 1, oC)]) σ (upd H' s2.heap.objs.size (.lst ys)) s' := J'.pins_of fun q hq => by
  rcases zTE.mp hq with z | z
  ·exact J'.pin q (zS8 _ z)
  ·have e : q = (s2.heap.objs.size + 1, oC) := by simpa using z
   subst e;refine ⟨hoC, nC, Nat.ne_of_gt (zTd I2.lt), I2.nofs (Nat.le_succ _), fun v z => ?_⟩;have z' : oC.data = .cell v := z;rw [hdC] at z'; cases z'
 show wpAny _ X.A (assign (.Name x pos') X.env (.ref s2.heap.objs.size)) _ _ _;refine thn (zIW hN hi' hx hfn _ s' σ _ (.ref s2.heap.objs.size) (.ref s2.heap.objs.size) _ K' rfl (qq _ nD)) fun _ s'' ⟨σ'', H'', I'', q''⟩ => ?_;obtain ⟨eC, _⟩ := I''.pin (s2.heap.objs.size + 1, oC) (by simp);refine ⟨m, ⟨oC, es, ep, eC, hdC, r1, r2⟩, fun h' hs' => ⟨σ'', H'', ?_, q''⟩⟩;have I3 : Inv X zB σ'' H'' s'' := I''.unpinned;obtain ⟨_, nC'', neC, _, _⟩ := I''.pin (s2.heap.objs.size + 1, oC) (by simp);refine I3.turned (t' := s''.toks) (it := s2.heap.objs.size + 1) (fun b o hb e => hs'.extBut b o hb e) nC'' neC (.inr (zTF I2.sz (Nat.le_succ _))) (fun x c e z => ?_) (fun q hq z => ?_)
 ·obtain ⟨v, o, ho, hd⟩ := I3.cell x c e;rw [z, eC] at ho; cases ho;rw [hdC] at hd; cases hd
 ·obtain ⟨e, _⟩ := I2.pin q hq;exact zS9 (zTd (zSz e)) z
end
abbrev zBV (elt t1 i1 : Expr) (f1 : List Expr) (t2 i2 : Expr) (f2 : List Expr) (scope : Scope) (pos : Pos) : Expr := .ListComp elt [⟨t1, i1, f1, 0⟩, ⟨t2, i2, f2, 0⟩] scope pos
theorem zGk (elt t1 i1 : Expr) (f1 : List Expr) (t2 i2 : Expr) (f2 : List Expr) (scope : Scope) (pos : Pos) (it acc : Value) (env : Env) :
  compTurn (zBV elt t1 i1 f1 t2 i2 f2 scope pos) 0 it acc env = (do
   standAt i1.pos;match <- pyNext it with
   | none => pure (.done .next)
   | some v =>
    letOwnedTupleGo t1 it v;assign t1 env v;let mut ok := true
    for c in f1 do
     if ok then ok <- isTrue c env (eval c env)
    if ok then
     let x <- eval i2 env;standAt i2.pos;let x <- foldedSetIterable i2 env x;let _ <- runOwn (.compStart (zBV elt t1 i1 f1 t2 i2 f2 scope pos) 1 (<- holding [x] (pyIter x)) acc env) env
    again (.compLoop (zBV elt t1 i1 f1 t2 i2 f2 scope pos) 0 it acc env)) := by rfl
theorem zHz (elt t1 i1 : Expr) (f1 : List Expr) (t2 i2 : Expr) (f2 : List Expr) (scope : Scope) (pos : Pos) (it acc : Value) (env : Env) :
  compTurn (zBV elt t1 i1 f1 t2 i2 f2 scope pos) 1 it acc env = (do
   standAt i2.pos;match <- pyNext it with
   | none => pure (.done .next)
   | some v =>
    letOwnedTupleGo t2 it v;assign t2 env v;let mut ok := true
    for c in f2 do
     if ok then ok <- isTrue c env (eval c env)
    if ok then
     (do let _ <- call (.builtin "list.append") [acc, <- eval elt env])
    again (.compLoop (zBV elt t1 i1 f1 t2 i2 f2 scope pos) 1 it acc env)) := by rfl
section
variable {prog : Program} {w : World} {A : Around} {E : Value -> Shared -> Prop} {R : Result -> Shared -> Prop} {s : Shared}
variable {elt t1 i1 t2 i2 : Expr} {f1 f2 : List Expr} {scope : Scope} {pos : Pos} {it acc : Value} {env : Env}
theorem zIY (I : Nat -> Shared -> Prop)
  (turn : ∀ n s, I n s -> wpAny (model prog w) A (pyNext it) (fun r s₁ => match r with
   | none => R (.ok .next) s₁
   | some v => wpAny (model prog w) A (letOwnedTupleGo t2 it v) (fun _ s₁' => wpAny (model prog w) A (assign t2 env v) (fun _ s₂ =>
     wpAny (model prog w) A (forIn f2 true fun c r => if r = true then do let ok <- isTrue c env (eval c env); pure (ForInStep.yield ok) else pure (ForInStep.yield r)) (fun ok s₃ =>
      if ok = true then wpAny (model prog w) A (eval elt env) (fun x s₄ =>
       wpAny (model prog w) A (call (.builtin "list.append") [acc, x]) (fun _ s₅ => ∃ m, m < n /\ I m s₅) (fun _ _ => False) s₄) (fun _ _ => False) s₃
      else ∃ m, m < n /\ I m s₃) (fun _ _ => False) s₂) (fun _ _ => False) s₁') (fun _ _ => False) s₁) (fun _ _ => False) s)
  (n : Nat) (h : I n s) :
  codeAny (model prog w) A (.compLoop (zBV elt t1 i1 f1 t2 i2 f2 scope pos) 1 it acc env) R s := by
 refine codeAny_loop rfl I (fun n s hI => ?_) n h;show wpAny _ A ((compTurn (zBV elt t1 i1 f1 t2 i2 f2 scope pos) 1 it acc env).onRaise (fun x => do noteFrame x env; theTreesLotGoes x)) _ _ s;refine wpAny_noted ?_;rw [zHz];refine zSo (zTm (zSo (zTK (turn n s hI) (fun r s₁ h₁ => ?_) fun _ _ h' => h'.elim)));cases r with
 | none => exact zSq h₁
 | some v =>
  refine zSo (zTK h₁ (fun _ s₁' h₁' => ?_) fun _ _ h' => h'.elim);refine zSo (zTK h₁' (fun _ s₂ h₂ => zSo (zTK h₂ (fun ok s₃ h₃ => ?_) fun _ _ h' => h'.elim)) fun _ _ h' => h'.elim);cases ok with
  | false => exact zSq ⟨rfl, h₃⟩
  | true =>
   exact zSo (zSo (zTK h₃ (fun x s₄ h₄ => zSo (zTK h₄ (fun _ s₅ h₅ => zSq (zSq ⟨rfl, h₅⟩)) fun _ _ h' => h'.elim)) fun _ _ h' => h'.elim))
theorem zGx
  (h0 : codeAny (model prog w) A (.compLoop (zBV elt t1 i1 f1 t2 i2 f2 scope pos) 1 it acc env) R s)
  (h : wpAny (model prog w) A (pyIter it) (fun it' s' => codeAny (model prog w) A (.compLoop (zBV elt t1 i1 f1 t2 i2 f2 scope pos) 1 it' acc env) R s')
   (notedBy (model prog w) A env fun x s' => R (.error x) s') s) :
  codeAny (model prog w) A (.compStart (zBV elt t1 i1 f1 t2 i2 f2 scope pos) 1 it acc env) R s := by
 refine codeAny_of_tree ?_;show wpAny _ _ ((compStart (zBV elt t1 i1 f1 t2 i2 f2 scope pos) 1 it acc env).onRaise (fun x => do noteFrame x env; standAt theWindowsPlace)) _ _ s;refine wpAny_notedAt ?_;unfold compStart;show wpAny _ _ (ask >>= _) _ _ s;refine zSo (wpAny_askSetting (wpAny_ite ?_));split
 ·first
   | exact zSo (zSq (zSq (And.intro rfl h0)))
   | exact zSq (And.intro rfl h0)
 ·first
   | exact zSo (zUG (zSo (zTm (zSo (zTK h (fun it' s' h' => zSq (And.intro rfl h')) fun _ _ x => x)))))
   | (refine zSo (zUG ?_); show wpAny _ _ (standAt i2.pos >>= _) _ _ s; exact zSo (zTm (zSo (zTK h (fun it' s' h' => zSq (And.intro rfl h')) fun _ _ x => x))))
theorem zG2 (hs2 : ∀ x, foldedSetIterable i2 env x = pure x) (I : Nat -> Shared -> Prop)
  (turn : ∀ n s, I n s -> wpAny (model prog w) A (pyNext it) (fun r s₁ => match r with
   | none => R (.ok .next) s₁
   | some v => wpAny (model prog w) A (letOwnedTupleGo t1 it v) (fun _ s₁' => wpAny (model prog w) A (assign t1 env v) (fun _ s₂ =>
     wpAny (model prog w) A (forIn f1 true fun c r => if r = true then do let ok <- isTrue c env (eval c env); pure (ForInStep.yield ok) else pure (ForInStep.yield r)) (fun ok s₃ =>
      if ok = true then wpAny (model prog w) A (eval i2 env) (fun x s₄ => wpAny (model prog w) A (pyIter x) (fun it2 s₅ =>
       codeAny (model prog w) A (.compStart (zBV elt t1 i1 f1 t2 i2 f2 scope pos) 1 it2 acc env) (fun r s₆ => r = .ok .next /\ ∃ m, m < n /\ I m s₆) s₅) (fun _ _ => False) s₄) (fun _ _ => False) s₃
      else ∃ m, m < n /\ I m s₃) (fun _ _ => False) s₂) (fun _ _ => False) s₁') (fun _ _ => False) s₁) (fun _ _ => False) s)
  (n : Nat) (h : I n s) :
  codeAny (model prog w) A (.compLoop (zBV elt t1 i1 f1 t2 i2 f2 scope pos) 0 it acc env) R s := by
 refine codeAny_loop rfl I (fun n s hI => ?_) n h;show wpAny _ A ((compTurn (zBV elt t1 i1 f1 t2 i2 f2 scope pos) 0 it acc env).onRaise (fun x => do noteFrame x env; theTreesLotGoes x)) _ _ s;refine wpAny_noted ?_;rw [zGk];refine zSo (zTm (zSo (zTK (turn n s hI) (fun r s₁ h₁ => ?_) fun _ _ h' => h'.elim)));cases r with
 | none => exact zSq h₁
 | some v =>
  refine zSo (zTK h₁ (fun _ s₁' h₁' => ?_) fun _ _ h' => h'.elim);refine zSo (zTK h₁' (fun _ s₂ h₂ => zSo (zTK h₂ (fun ok s₃ h₃ => ?_) fun _ _ h' => h'.elim)) fun _ _ h' => h'.elim);cases ok with
  | false => exact zSq ⟨rfl, h₃⟩
  | true =>
   refine zSo (zTK h₃ (fun x s₄ h₄ => zSo (zTm (zSo (wpAny_of_eq (hs2 x) (zSo (zTh (zTK h₄ (fun it2 s₅ h₅ => ?_) fun _ _ h' => h'.elim))))))) fun _ _ h' => h'.elim);refine zSo (wpAny_runOwn (codeAny_mono h₅ fun r s₆ hr => ?_));obtain ⟨rfl, hr⟩ := hr;exact zSq ⟨rfl, hr⟩
end
def tIn (own2 : List Nat) (wi2 : TI) (g2 : TG) (tc2 : TT) (te : TE) (σ2 : St) (H3 : Hp) (ys : List V) (QQ : List V -> Hp -> Prop) : Prop :=
 wi2 σ2 H3 fun J2 H4 => ∃ W2 : Nat -> Nat -> List V -> Hp -> Prop, (∃ m, W2 0 m ys H4) /\ ∀ j m zs H, W2 j m zs H ->
  (J2.stop j H /\ QQ zs H) \/
  (J2.go j H /\ ∀ x H', J2.yld j H x H' -> g2 x (clr own2 σ2) H' fun σ3 H5 => Ext (clr own2 σ2) σ3 /\ tc2 σ3 H5 fun b H6 =>
   if b = true then te σ3 H6 fun v H7 => zs.length < sizeLine /\ ∃ m', m' < m /\ W2 (j + 1) m' (zs ++ [v]) H7 else ∃ m', m' < m /\ W2 (j + 1) m' zs H6)
section
variable {C : Cx} {elt t1 i1 t2 i2 : Expr} {f1 f2 : List Expr} {scope : Scope} {pos : Pos} {pl : List (Addr × Obj)} {σ : St} {H : Hp} {s : Shared} {D : Addr}
 {own2 : List Nat} {wi2 : TI} {g2 : TG} {tc2 : TT} {te : TE} {R : Result -> Shared -> Prop}
theorem zMs (hxe : C.xe = fun _ _ => False) (hcalm : C.calm = true) (hi : PI C t2 i2 wi2) (hg : PG C t2 g2) (hc : zFY C f2 tc2) (he : PE C elt te) (hD : C.s₀.heap.objs.size <= D)
  (hcD : ∀ x c, C.env.cells.lookup x = some c -> c ≠ D) (hpl : ∀ p ∈ C.pn ++ pl, p.1 ≠ D) (I : Inv C (pl ++ [(D, zo its k)]) σ H s) (rv : zk ys its) (h : tIn own2 wi2 g2 tc2 te σ H ys QQ)
  (fin : ∀ s' H' its' k' zs, Inv C (pl ++ [(D, zo its' k')]) (clr own2 σ) H' s' -> zk zs its' -> QQ zs H' -> R (.ok .next) s') :
  wpAny (model C.prog C.w) C.A (eval i2 C.env) (fun x s₄ => wpAny (model C.prog C.w) C.A (pyIter x) (fun it2 s₅ =>
   codeAny (model C.prog C.w) C.A (.compStart (zBV elt t1 i1 f1 t2 i2 f2 scope pos) 1 it2 (.ref D) C.env) R s₅) (fun _ _ => False) s₄) (fun _ _ => False) s := by
 have hpi := hi _ s σ H _ I h;rw [hxe] at hpi;refine thn hpi fun v s1 h1 => thn h1 fun itv s2 h2 => ?_;obtain ⟨it, fp, tn, J, H2, e, I2, T, st2, f2', W, ⟨m0, w0⟩, turn⟩ := h2;subst e;have hDfp : D ∉ fp := fun z => (f2' D z).2.2.2.2.2 (D, zo its k) (by simp) rfl;have loop : ∀ s', (∃ H', Inv C (pl ++ [(D, zo its k)]) (clr own2 σ) H' s' /\ tn 0 s'.heap /\ (∀ b ∈ fp, H' b = none) /\ W 0 m0 ys H') -> codeAny (model C.prog C.w) C.A (.compLoop (zBV elt t1 i1 f1 t2 i2 f2 scope pos) 1 (.ref it) (.ref D) C.env) R s' := by
  rintro s' ⟨H', I', st', hn', w'⟩;have fpk : ∀ {H' : Hp} {its : List Value} {k : Nat}, (∀ b ∈ fp, H' b = none) -> ∀ b ∈ fp, zCP C (pl ++ [(D, zo its k)]) H' b := fun {H' its k} hn b hb => by
   obtain ⟨_, a2, a3, a4, a5, a6⟩ := f2' b hb;refine ⟨hn b hb, a2, a3, a4, a5, fun p hp => ?_⟩;rcases zTE.mp hp with z | z
   ·exact a6 p (zT8 _ z)
   ·rcases zTE.mp z with z | z
    ·exact a6 p (zS8 _ (zT8 _ z))
    ·have : p = (D, zo its k) := by simpa using z
     rw [this];intro q;have q' : D = b := q;exact hDfp (q' ▸ hb)
  refine zIY (fun n s' => ∃ i H' ys its k, Inv C (pl ++ [(D, zo its k)]) (clr own2 σ) H' s' /\ zk ys its /\ tn i s'.heap /\ (∀ b ∈ fp, H' b = none) /\ W i n ys H') ?_ m0 ⟨0, H', ys, its, k, I', rv, st', hn', w'⟩;rintro n s5 ⟨i, H5, ys, its, k, I5, r5, st5, f5, w5⟩;rcases turn i n ys H5 w5 with ⟨stop, qq⟩ | ⟨go, step⟩
  ·refine thn (T.done C rfl rfl rfl hcalm i _ s5 _ H5 _ I5 (fpk f5) st5 stop) fun r s6 ⟨hr, I6⟩ => ?_;subst hr;exact fin s6 H5 its k ys I6 r5 qq
  ·refine thn (T.item C rfl rfl rfl hcalm i _ s5 _ H5 _ I5 (fpk f5) st5 go) fun r s6 ⟨u, hr, h6⟩ => ?_;subst hr;refine thn h6 fun _ s7 ⟨x, H7, I7, r7, y7, st7, f7⟩ => ?_;have I7' := I7.pinned (fpk f7) (T.obj _ _ st7);have hgg := hg _ s7 _ H7 x u _ I7' r7 (step x H7 y7);rw [hxe] at hgg;refine thn hgg fun _ s8 ⟨σ8, H8, I8, x8, q8⟩ => ?_;have hcc := hc _ s8 σ8 H8 _ I8 q8;rw [hxe] at hcc;refine thn hcc fun ok s9 ⟨H9, I9, q9⟩ => ?_;have back : ∀ {s' : Shared} {Hx : Hp}, Inv C ((pl ++ [(D, zo its k)]) ++ zCn fp s7.heap) σ8 Hx s' -> tn (i + 1) s'.heap /\ ∀ b ∈ fp, Hx b = none := fun {s' Hx} Ix =>
    ⟨T.keep _ _ _ st7 fun b hb o e => (Ix.pin (b, o) (zS8 _ (zS8 _ (zAN hb e)))).1, fun b hb => by
     obtain ⟨o, e, d⟩ := T.obj _ _ st7 b hb;exact (Ix.pin (b, o) (zS8 _ (zS8 _ (zAN hb e)))).2.1⟩
   cases ok with
   | false =>
    obtain ⟨m', hm, w'⟩ := q9;obtain ⟨b1, b2⟩ := back I9;exact ⟨m', hm, i + 1, H9, ys, its, k, (I9.weak (by rw [x8.1]) x8.2).unpinned, r5, b1, b2, w'⟩
   | true =>
    have hee := he _ s9 σ8 H9 _ I9 q9;rw [hxe] at hee;refine thn hee fun v s10 ⟨y, H10, I10, r10, hlt, m', hm, w'⟩ => ?_;obtain ⟨b1, b2⟩ := back I10;have J10 := (I10.weak (by rw [x8.1]) x8.2).unpinned;obtain ⟨e10, n10, ne10, nf10, d10⟩ := J10.pin (D, zo its k) (by simp);have hlen : its.toArray.size <= sizeLine := by
     have := r5.length;rw [zSw, <- this];exact Nat.le_of_lt hlt
    refine wpAny_list_append_plain (hsz := hlen) (show s10.heap.PlainList D its.toArray from ⟨k, e10⟩) fun h' hl' hs' => ?_;obtain ⟨k', e'⟩ := hl';have e'' : h'.get? D = some (zo (its ++ [v]) k') := by rw [e']; simp [zo]
    refine ⟨m', hm, i + 1, H10, ys ++ [y], its ++ [v], k', ?_, r5.append (.cons r10 .nil), T.keep _ _ _ b1 fun b hb o e => hs'.extBut b o (fun z => hDfp (z ▸ hb)) e, b2, w'⟩;exact Inv.repin (pl := pl) J10 hpl hs' hD hcD e'' (by intro v z; cases z)
 have l0 := loop s2 ⟨H2, I2.weak (zBS own2 σ) (fun i v h => (zCZ own2 σ i v h).1), st2, fun b hb => (f2' b hb).1, w0⟩;exact zGx l0 (T.self _ 0 _ _ _ st2 l0)
end
section
variable {X : Cx} {zB : List (Addr × Obj)} {σ : St} {H : Hp} {s : Shared} {scope : Scope} {cl : List (Str × Addr)} {fp : List Addr} {it : Addr} {tn : Nat -> Heap -> Prop} {J : It} {elt t1 i1 t2 i2 : Expr} {f1 f2 : List Expr} {pos : Pos}
 {own own2 : List Nat} {g g2 : TG} {tc tc2 : TT} {te : TE} {wi wi2 : TI} {E : Value -> Shared -> Prop}
theorem zJA : ∀ (own : List Nat) (σ : St) (j : Nat), j ∉ own -> (clr own σ)[j]? = σ[j]?
 | [], _, _, _ => rfl
 | i :: r, σ, j, h => by
  show (clr r (σ.set i none))[j]? = _;rw [zJA r _ j (fun z => h (zS1 _ z)), zTI (fun z => h (by rw [z]; exact zS2))]
theorem zIp (hsub : ∀ i ∈ own2, i ∈ own) (C : CompIn X scope own) (hcalm : X.calm = true) (I : Inv X zB σ H s) (T : Turn X.prog X.w X.K t1 J fp it tn) (st : tn 0 s.heap) (hf : ∀ b ∈ fp, zCP X zB H b)
  (c1 : ∀ x c, cl.lookup x = some c -> X.env.cells.lookup x = some c) (c2 : ∀ y ∈ scope.names, y.2 = .free -> (cl.lookup y.1).isSome = true)
  (hg : PG (zO X zB scope cl s H fp) t1 g) (hi : zFY (zO X zB scope cl s H fp) f1 tc)
  (hi2 : PI (zO X zB scope cl s H fp) t2 i2 wi2) (hg2 : PG (zO X zB scope cl s H fp) t2 g2) (hc2 : zFY (zO X zB scope cl s H fp) f2 tc2) (he : PE (zO X zB scope cl s H fp) elt te)
  (hs2 : ∀ x, foldedSetIterable i2 (zO X zB scope cl s H fp).env x = pure x)
  {RR : Value -> Addr -> Result -> Shared -> Prop} {QQ : List V -> Hp -> Prop} {W : Nat -> Nat -> List V -> Hp -> Prop} {m0 : Nat} (w0 : W 0 m0 [] H)
  (turn : ∀ i m ys H, W i m ys H -> (J.stop i H /\ ys.length <= sizeLine /\ QQ ys H) \/
   (J.go i H /\ ∀ x H', J.yld i H x H' -> g x (clr own σ) H' fun σ2 H2 => Ext (clr own σ) σ2 /\ tc σ2 H2 fun b H3 =>
    if b = true then tIn own2 wi2 g2 tc2 te σ2 H3 ys fun zs H4 => ∃ m', m' < m /\ W (i + 1) m' zs H4 else ∃ m', m' < m /\ W (i + 1) m' ys H3))
  (fin : ∀ σc H' s' its n ys, Inv (zO X zB scope cl s H fp) [(s.heap.objs.size, zo its n)] σc H' s' -> zk ys its -> ys.length <= sizeLine -> QQ ys H' -> RR (.ref s.heap.objs.size) (s.heap.objs.size + 1) (.ok .next) s') :
  wpAny (model X.prog X.w) X.A (newList []) (fun acc s₃ => wpAny (model X.prog X.w) X.A (newFunctionEnv scope X.env.globals cl [] X.env.qual none .none (some X.env)) (fun cenv s₄ =>
   codeAny (model X.prog X.w) X.A (.compStart (zBV elt t1 i1 f1 t2 i2 f2 scope pos) 0 (.ref it) acc { cenv with scope := relabel scope X.env }) (RR acc cenv.locals) s₄) E s₃) E s := by
 have ob : ∀ b : Nat, b ∈ fp -> b < s.heap.objs.size := fun b hb => let ⟨_, e, _⟩ := T.obj 0 _ st b hb; zSz e;refine zTH (zCg ?_);have sz1 : (s.heap.push (zo [] 0)).objs.size = s.heap.objs.size + 1 := zTU ..;have I4 := zEj (X := X) (zB := zB) (σ := σ) (σc := clr own σ) (H := H) (s := s) (scope := scope) (cl := cl) (fp := fp) C.sc I hf ob c1 c2 (zBS own σ) (fun i x v h1 h2 h3 => by
  obtain ⟨a, b⟩ := zCZ own σ i v h2;rcases C.nm i x h1 with z | z | z
  ·exact absurd z b
  ·exact absurd (zB9 x z) h3
  ·exact ⟨z, a⟩) (zo [] 0) (by intro v z; cases z) rfl rfl
 have st4 : tn 0 (pushCells ((s.heap.push (zo [] 0)).push { cls := .type "dict", data := .dict #[] }) scope.names) := T.keep 0 _ _ st fun b _ o e => pushCells_keeps _ _ b o (zSp _ (zSp _ e));dsimp only;unfold newEnv;dsimp only;rw [sz1];have hDfp : s.heap.objs.size ∉ fp := fun z => zTW _ (ob _ z);have hcD : ∀ x c, (zO X zB scope cl s H fp).env.cells.lookup x = some c -> c ≠ s.heap.objs.size := fun x c e z => by
  obtain ⟨v, o, ho, hd⟩ := I4.cell x c e;obtain ⟨q, _⟩ := I4.pin (s.heap.objs.size, zo [] 0) (by simp);rw [z, q] at ho;cases ho; cases hd
 have fpk : ∀ {H' : Hp} {pl : List (Addr × Obj)}, (∀ b ∈ fp, H' b = none) -> (∀ p ∈ pl, p.1 = s.heap.objs.size) -> ∀ b ∈ fp, zCP (zO X zB scope cl s H fp) pl H' b := fun {H' pl} hn hp b hb =>
  ⟨hn b hb, (I4.ok.exf b hb).1, I4.ok.exfs b hb, .inl hb, (I4.ok.exf b hb).2, fun p hq => by
   rcases zTE.mp hq with z | z
   ·exact (hf b hb).2.2.2.2.2 p z
   ·intro e;have e2 := hp p z;rw [e] at e2;exact hDfp (e2 ▸ hb)⟩
 have loop : codeAny (model X.prog X.w) X.A (.compLoop (zBV elt t1 i1 f1 t2 i2 f2 scope pos) 0 (.ref it) (.ref s.heap.objs.size) (zO X zB scope cl s H fp).env) (RR (.ref s.heap.objs.size) (s.heap.objs.size + 1))
   { s with heap := pushCells ((s.heap.push (zo [] 0)).push { cls := .type "dict", data := .dict #[] }) scope.names } := by
  refine zG2 hs2 (fun n s' => ∃ i H' ys its k, Inv (zO X zB scope cl s H fp) [(s.heap.objs.size, zo its k)] (clr own σ) H' s' /\ zk ys its /\ tn i s'.heap /\ (∀ b ∈ fp, H' b = none) /\ W i n ys H') ?_ m0
   ⟨0, H, [], [], 0, I4, .nil, st4, fun b hb => (hf b hb).1, w0⟩
  rintro n s5 ⟨i, H5, ys, its, k, I5, r5, st5, f5, w5⟩;have pinD : ∀ p ∈ [(s.heap.objs.size, zo its k)], p.1 = s.heap.objs.size := fun p hp => by
   have : p = (s.heap.objs.size, zo its k) := by simpa using hp
   rw [this]
  rcases turn i n ys H5 w5 with ⟨stop, hz, qq⟩ | ⟨go, step⟩
  ·refine thn (T.done (zO X zB scope cl s H fp) rfl rfl rfl hcalm i _ s5 _ H5 _ I5 (fpk f5 pinD) st5 stop) fun r s6 ⟨hr, I6⟩ => ?_;subst hr;exact fin _ H5 s6 its k ys I6 r5 hz qq
  ·refine thn (T.item (zO X zB scope cl s H fp) rfl rfl rfl hcalm i _ s5 _ H5 _ I5 (fpk f5 pinD) st5 go) fun r s6 ⟨u, hr, h6⟩ => ?_;subst hr;refine thn h6 fun _ s7 ⟨x, H7, I7, r7, y7, st7, f7⟩ => ?_;have I7' := I7.pinned (fpk f7 pinD) (T.obj _ _ st7);refine thn (hg _ s7 _ H7 x u _ I7' r7 (step x H7 y7)) fun _ s8 ⟨σ8, H8, I8, x8, q8⟩ => ?_;refine thn (hi _ s8 σ8 H8 _ I8 q8) fun ok s9 ⟨H9, I9, q9⟩ => ?_;have back : ∀ {σx : St} {s' : Shared} {Hx : Hp} {its : List Value} {k : Nat}, (clr own σ).length = σx.length -> (∀ (i : Nat) v, (clr own σ)[i]? = some (some v) -> σx[i]? = some (some v)) -> Inv (zO X zB scope cl s H fp) (zCn fp s7.heap ++ [(s.heap.objs.size, zo its k)]) σx Hx s' -> Inv (zO X zB scope cl s H fp) [(s.heap.objs.size, zo its k)] (clr own σ) Hx s' /\ tn (i + 1) s'.heap /\ ∀ b ∈ fp, Hx b = none := fun {σx s' Hx its k} hl hk Ix =>
    ⟨(Ix.weak hl hk).pins_of fun p hp => Ix.pin p (zS8 _ (zS8 _ hp)),
     T.keep _ _ _ st7 fun b hb o e => (Ix.pin (b, o) (zS8 _ (zT8 _ (zAN hb e)))).1, fun b hb => by
     obtain ⟨o, e, d⟩ := T.obj _ _ st7 b hb;exact (Ix.pin (b, o) (zS8 _ (zT8 _ (zAN hb e)))).2.1⟩
   have I9' : Inv (zO X zB scope cl s H fp) (zCn fp s7.heap ++ [(s.heap.objs.size, zo its k)]) σ8 H9 s9 := I9.pins_of fun p hp => I9.pin p (zS8 _ (by
    rcases zTE.mp hp with z | z
    ·exact zS8 _ z
    ·exact zT8 _ z))
   cases ok with
   | false =>
    obtain ⟨m', hm, w'⟩ := q9;obtain ⟨b0, b1, b2⟩ := back (by rw [x8.1]) x8.2 I9';exact ⟨m', hm, i + 1, H9, ys, its, k, b0, r5, b1, b2, w'⟩
   | true =>
    refine zMs (C := zO X zB scope cl s H fp) rfl hcalm hi2 hg2 hc2 he (zSu _) hcD (fun p hp => ?_) I9' r5 q9 fun s' H' its' k' zs I' rv' q' => ?_
    ·rcases zTE.mp hp with z | z
     ·exact zS9 (zSz (I.pin p z).1)
     ·obtain ⟨hb, _⟩ := zHc z;exact zS9 (ob _ hb)
    ·obtain ⟨m', hm, w'⟩ := q';obtain ⟨b0, b1, b2⟩ := back (by rw [zBS own2, x8.1]) (fun i v hv => by rw [zJA own2 _ i (fun z => (zCZ own σ i v hv).2 (hsub i z))]; exact x8.2 i v hv) I';exact ⟨rfl, m', hm, i + 1, H', zs, its', k', b0, rv', b1, b2, w'⟩
 exact codeAny_compStart_list loop (T.self _ 0 _ _ _ st4 loop)
def zNr (own own2 : List Nat) (wi : TI) (g : TG) (tc : TT) (wi2 : TI) (g2 : TG) (tc2 : TT) (te : TE) : TE := fun σ H Q => wi σ H fun J H1 => ∃ W : Nat -> Nat -> List V -> Hp -> Prop, (∃ m, W 0 m [] H1) /\ ∀ i m ys H, W i m ys H ->
 (J.stop i H /\ ys.length <= sizeLine /\ ∀ D, H D = none -> Q (.ref D) (upd H D (.lst ys))) \/
 (J.go i H /\ ∀ x H', J.yld i H x H' -> g x (clr own σ) H' fun σ2 H2 => Ext (clr own σ) σ2 /\ tc σ2 H2 fun b H3 =>
  if b = true then tIn own2 wi2 g2 tc2 te σ2 H3 ys fun zs H4 => ∃ m', m' < m /\ W (i + 1) m' zs H4 else ∃ m', m' < m /\ W (i + 1) m' ys H3)
structure CompParts2 (X : Cx) (scope : Scope) (t1 : Expr) (f1 : List Expr) (t2 i2 : Expr) (f2 : List Expr) (elt : Expr) (g : TG) (tc : TT) (wi2 : TI) (g2 : TG) (tc2 : TT) (te : TE) : Prop where
 g : ∀ zB cl s H fp, PG (zO X zB scope cl s H fp) t1 g
 c : ∀ zB cl s H fp, zFY (zO X zB scope cl s H fp) f1 tc
 w2 : ∀ zB cl s H fp, PI (zO X zB scope cl s H fp) t2 i2 wi2
 g2 : ∀ zB cl s H fp, PG (zO X zB scope cl s H fp) t2 g2
 c2 : ∀ zB cl s H fp, zFY (zO X zB scope cl s H fp) f2 tc2
 e : ∀ zB cl s H fp, PE (zO X zB scope cl s H fp) elt te
 s2 : ∀ zB cl s H fp x, foldedSetIterable i2 (zO X zB scope cl s H fp).env x = pure x
theorem zNK (hsub : ∀ i ∈ own2, i ∈ own) (C : CompIn X scope own) (hcalm : X.calm = true) (hi : PI X t1 i1 wi) (p : CompParts2 X scope t1 f1 t2 i2 f2 elt g tc wi2 g2 tc2 te) (hs : ∀ x, foldedSetIterable i1 X.env x = pure x := by intro _; rfl) :
  PE X (zBV elt t1 i1 f1 t2 i2 f2 scope pos) (zNr own own2 wi g tc wi2 g2 tc2 te) := by
 intro zB s σ H Q I h;obtain ⟨cl, hcl, c1, c2⟩ := C.sc.closure I;rw [eval_ListComp];refine wpAny_comprehension_free (use := none) rfl hs hcl C.sc.kind C.sc.names (thn (hi zB s σ H _ I h) fun v s1 h1 => thn h1 fun itv s2 h2 => ?_);obtain ⟨it, fp, tn, J, H2, e, I2, T, st2, f2, W, ⟨m0, w0⟩, turn⟩ := h2;subst e;refine zIp hsub C hcalm I2 T st2 f2 c1 c2 (p.g _ _ _ _ _) (p.c _ _ _ _ _) (p.w2 _ _ _ _ _) (p.g2 _ _ _ _ _) (p.c2 _ _ _ _ _) (p.e _ _ _ _ _) (p.s2 _ _ _ _ _) (RR := fun acc C r s' => compPost (model X.prog X.w) X.A X.xe none (EP X zB σ Q) acc C r s') (QQ := fun ys H => ∀ D, H D = none -> Q (.ref D) (upd H D (.lst ys))) w0 turn ?_;intro σc H' s' its n ys Ic rv hz qq;obtain ⟨m, hn, _⟩ := Ic.loc;refine ⟨m, hn, fun h' hs' => ?_⟩;obtain ⟨J', nD⟩ := zF0 I2 f2 Ic rv hz hs';exact ⟨.ref s2.heap.objs.size, _, J', rfl, qq _ nD⟩
end
end L2
namespace L3
open PySem PySem.Spec PyProof.Rows L2
abbrev Sv := List (Option V)
inductive D where
 | non | bl (b : Bool) | int (i : Int) | str (x : Str) | tup (xs : List D) | ref (n : Nat)
inductive MO where
 | lst (xs : List D) | fro (xs : List D) | dict (kvs : List (D × D)) | dicT (kvs : List (D × D)) | set (xs : List D)
mutual
def Rep (L : List Addr) (H : Hp) : D -> V -> Prop
 | .non, v => v = .non
 | .bl b, v => v = .bl b
 | .int i, v => v = .int i
 | .str x, v => v = .str x
 | .tup ds, v => ∃ a vs, v = .ref a /\ H a = some (.tup vs) /\ zW L H ds vs
 | .ref n, v => ∃ a, v = .ref a /\ L[n]? = some a
def zW (L : List Addr) (H : Hp) : List D -> List V -> Prop
 | [], vs => vs = []
 | d :: ds, vs => ∃ v r, vs = v :: r /\ Rep L H d v /\ zW L H ds r
end
theorem zW.length : ∀ {ds : List D} {vs : List V}, zW L H ds vs -> vs.length = ds.length
 | [], _, h => by unfold zW at h; subst h; rfl
 | d :: ds, _, h => by
  unfold zW at h;obtain ⟨v, r, rfl, _, h2⟩ := h;simp [zW.length h2]
theorem zW.nil : zW L H [] [] := by unfold zW; rfl
theorem zW.cons (h : Rep L H d v) (t : zW L H ds vs) : zW L H (d :: ds) (v :: vs) := by
 unfold zW; exact ⟨v, vs, rfl, h, t⟩
theorem zW.get : ∀ {ds : List D} {vs : List V} {i : Nat} {d : D}, zW L H ds vs -> ds[i]? = some d -> ∃ v, vs[i]? = some v /\ Rep L H d v
 | [], _, _, _, _, e => by simp at e
 | d :: ds, _, 0, d', h, e => by
  unfold zW at h;obtain ⟨v, r, rfl, h1, h2⟩ := h;simp at e; subst e;exact ⟨v, rfl, h1⟩
 | d :: ds, _, i + 1, d', h, e => by
  unfold zW at h;obtain ⟨v, r, rfl, h1, h2⟩ := h;obtain ⟨u, e1, e2⟩ := zW.get (i := i) h2 (by simpa using e);exact ⟨u, by simpa using e1, e2⟩
theorem zW.app : ∀ {ds es : List D} {vs ws : List V}, zW L H ds vs -> zW L H es ws -> zW L H (ds ++ es) (vs ++ ws)
 | [], _, _, _, h, t => by unfold zW at h; subst h; exact t
 | d :: ds, _, _, _, h, t => by
  unfold zW at h;obtain ⟨v, r, rfl, h1, h2⟩ := h;exact .cons h1 (zW.app h2 t)
theorem zW.set (h : Rep L H d v) : ∀ {ds : List D} {vs : List V} (i : Nat), zW L H ds vs -> zW L H (ds.set i d) (vs.set i v)
 | [], _, _, t => by unfold zW at t; subst t; exact .nil
 | _ :: _, _, 0, t => by
  unfold zW at t;obtain ⟨v', r, rfl, h1, h2⟩ := t;exact .cons h h2
 | _ :: _, _, i + 1, t => by
  unfold zW at t;obtain ⟨v', r, rfl, h1, h2⟩ := t;exact .cons h1 (zW.set h i h2)
theorem zW.drop : ∀ {ds : List D} {vs : List V} (n : Nat), zW L H ds vs -> zW L H (ds.drop n) (vs.drop n)
 | _, _, 0, t => t
 | [], _, n + 1, t => by unfold zW at t; subst t; exact .nil
 | _ :: _, _, n + 1, t => by
  unfold zW at t;obtain ⟨v', r, rfl, h1, h2⟩ := t;exact zW.drop n h2
theorem zW.take : ∀ {ds : List D} {vs : List V} (n : Nat), zW L H ds vs -> zW L H (ds.take n) (vs.take n)
 | _, _, 0, t => .nil
 | [], _, n + 1, t => by unfold zW at t; subst t; exact .nil
 | _ :: _, _, n + 1, t => by
  unfold zW at t;obtain ⟨v', r, rfl, h1, h2⟩ := t;exact .cons h1 (zW.take n h2)
theorem zW.eraseIdx : ∀ {ds : List D} {vs : List V} (n : Nat), zW L H ds vs -> zW L H (ds.eraseIdx n) (vs.eraseIdx n)
 | [], _, n, t => by unfold zW at t; subst t; exact .nil
 | _ :: _, _, 0, t => by
  unfold zW at t;obtain ⟨v', r, rfl, h1, h2⟩ := t;exact h2
 | _ :: _, _, n + 1, t => by
  unfold zW at t;obtain ⟨v', r, rfl, h1, h2⟩ := t;exact .cons h1 (zW.eraseIdx n h2)
structure Stp (L : List Addr) (H : Hp) (L' : List Addr) (H' : Hp) : Prop where
 pre : ∃ N, L' = L ++ N
 new : ∀ a ∈ L', a ∈ L \/ H a = none
 old : ∀ a o, H a = some o -> a ∉ L -> H' a = some o
 tup : ∀ a xs, H a = some (.tup xs) -> H' a = some (.tup xs)
 frz : ∀ a o u, H a = some (.frz o u) -> H' a = some (.frz o u)
theorem Stp.refl (L : List Addr) (H : Hp) : Stp L H L H := ⟨⟨[], by simp⟩, fun _ h => .inl h, fun _ _ h _ => h, fun _ _ h => h, fun _ _ _ h => h⟩
theorem Stp.trans (a : Stp L H L1 H1) (b : Stp L1 H1 L2 H2) : Stp L H L2 H2 := by
 obtain ⟨N, rfl⟩ := a.pre;obtain ⟨N', rfl⟩ := b.pre;have back : ∀ c, c ∉ L -> H1 c = none -> H c = none := fun c hc h1 => by
  cases q : H c with
  | none => rfl
  | some o => rw [a.old c o q hc] at h1; cases h1
 refine ⟨⟨N ++ N', by simp⟩, fun c hc => ?_, fun c o e hc => ?_, fun c xs e => b.tup c xs (a.tup c xs e), fun c o u e => b.frz c o u (a.frz c o u e)⟩
 ·by_cases hL : c ∈ L
  ·exact .inl hL
  ·rcases b.new c hc with z | z
   ·exact a.new c z
   ·exact .inr (back c hL z)
 ·refine b.old c o (a.old c o e hc) fun z => ?_;rcases a.new c z with q | q
  ·exact hc q
  ·rw [q] at e; cases e
theorem Stp.grow (h : ∀ a o, H a = some o -> H' a = some o) : Stp L H L H' := ⟨⟨[], by simp⟩, fun _ h => .inl h, fun a o e _ => h a o e, fun a _ e => h a _ e, fun a _ _ e => h a _ e⟩
theorem Stp.upd (h : H p = none) : Stp L H L (upd H p o) := .grow fun a u e => by rw [zg (zAM e h)]; exact e
theorem zCC {L N : List Addr} {n : Nat} {a : Addr} (h : L[n]? = some a) : (L ++ N)[n]? = some a := by
 rw [zSv (zSr.mp h).1]; exact h
mutual
theorem Rep.stp {L L' : List Addr} {H H' : Hp} (s : Stp L H L' H') : ∀ {d : D} {v : V}, Rep L H d v -> Rep L' H' d v
 | .non, _, h => by unfold Rep at h ⊢; exact h
 | .bl _, _, h => by unfold Rep at h ⊢; exact h
 | .int _, _, h => by unfold Rep at h ⊢; exact h
 | .str _, _, h => by unfold Rep at h ⊢; exact h
 | .tup ds, _, h => by
  unfold Rep at h ⊢;obtain ⟨a, vs, rfl, e, r⟩ := h;exact ⟨a, vs, rfl, s.tup a vs e, zW.stp s r⟩
 | .ref n, _, h => by
  unfold Rep at h ⊢;obtain ⟨a, rfl, e⟩ := h;obtain ⟨N, rfl⟩ := s.pre;exact ⟨a, rfl, zCC e⟩
theorem zW.stp (s : Stp L H L' H') : ∀ {ds : List D} {vs : List V}, zW L H ds vs -> zW L' H' ds vs
 | [], _, h => by unfold zW at h ⊢; exact h
 | d :: ds, _, h => by
  unfold zW at h ⊢;obtain ⟨v, r, rfl, h1, h2⟩ := h;exact ⟨v, r, rfl, Rep.stp s h1, zW.stp s h2⟩
end
def zF4 : D -> Option Key
 | .int i => some (.inl i)
 | .str x => some (.inr x)
 | _ => none
def zFo : List D -> Option (List Key)
 | [] => some []
 | d :: r => match zF4 d, zFo r with
  | some k, some ks => some (k :: ks)
  | _, _ => none
def tkD : D -> Option (List Key)
 | .tup ds => zFo ds
 | _ => none
def zBI {κ : Type} (kf : D -> Option κ) (L : List Addr) (H : Hp) : List (D × D) -> List (κ × V) -> Prop
 | [], vs => vs = []
 | p :: r, vs => ∃ k v r', vs = (k, v) :: r' /\ kf p.1 = some k /\ Rep L H p.2 v /\ zBI kf L H r r'
theorem zBI.stp {κ : Type} {kf : D -> Option κ} {L L' : List Addr} {H H' : Hp} (s : Stp L H L' H') : ∀ {ps : List (D × D)} {vs : List (κ × V)}, zBI kf L H ps vs -> zBI kf L' H' ps vs
 | [], _, h => h
 | p :: r, _, h => by
  obtain ⟨k, v, r', rfl, e, h1, h2⟩ := h;exact ⟨k, v, r', rfl, e, h1.stp s, zBI.stp s h2⟩
theorem zBI.length {κ : Type} {kf : D -> Option κ} {L : List Addr} {H : Hp} : ∀ {ps : List (D × D)} {vs : List (κ × V)}, zBI kf L H ps vs -> vs.length = ps.length
 | [], _, h => by unfold zBI at h; subst h; rfl
 | p :: r, _, h => by
  obtain ⟨k, v, r', rfl, e, h1, h2⟩ := h;simp [zBI.length h2]
def zFw (K : PySem.W.Frag) (L : List Addr) (H : Hp) (a : Addr) : MO -> Prop
 | .lst xs => ∃ vs, H a = some (.lst vs) /\ zW L H xs vs
 | .fro xs => ∃ o vs, H a = some (.frz o (.lst vs)) /\ zW L H xs vs
 | .dict ps => ∃ vs, H a = some (.dK vs) /\ zBI zF4 L H ps vs
 | .dicT ps => ∃ vs, H a = some (.dT vs) /\ zBI tkD L H ps vs
 | .set _ => False
theorem zFw.there {K : PySem.W.Frag} {L : List Addr} {H : Hp} {a : Addr} {m : MO} (h : zFw K L H a m) : ∃ o, H a = some o := by
 cases m with
 | lst xs => obtain ⟨vs, e, _⟩ := h; exact ⟨_, e⟩
 | fro xs => obtain ⟨o, vs, e, _⟩ := h; exact ⟨_, e⟩
 | dict ps => obtain ⟨vs, e, _⟩ := h; exact ⟨_, e⟩
 | dicT ps => obtain ⟨vs, e, _⟩ := h; exact ⟨_, e⟩
 | set _ => exact h.elim
theorem zFw.stp {K : PySem.W.Frag} {L L' : List Addr} {H H' : Hp} {a : Addr} {m : MO} (s : Stp L H L' H') (hk : ∀ o, H a = some o -> H' a = some o) (h : zFw K L H a m) : zFw K L' H' a m := by
 cases m with
 | lst xs => obtain ⟨vs, e, r⟩ := h; exact ⟨vs, hk _ e, r.stp s⟩
 | fro xs => obtain ⟨o, vs, e, r⟩ := h; exact ⟨o, vs, hk _ e, r.stp s⟩
 | dict ps => obtain ⟨vs, e, r⟩ := h; exact ⟨vs, hk _ e, r.stp s⟩
 | dicT ps => obtain ⟨vs, e, r⟩ := h; exact ⟨vs, hk _ e, r.stp s⟩
 | set _ => exact h.elim
structure Cor (K : PySem.W.Frag) (L : List Addr) (M : List MO) (H : Hp) : Prop where
 len : L.length = M.length
 nd : L.Nodup
 obj : ∀ (n : Nat) a m, L[n]? = some a -> M[n]? = some m -> zFw K L H a m
def zBW (L : List Addr) (H : Hp) (σ : List (Option D)) (τ : Sv) : Prop := τ.length = σ.length /\ ∀ (i : Nat) d, σ[i]? = some (some d) -> ∃ v, τ[i]? = some (some v) /\ Rep L H d v
theorem zBW.stp (s : Stp L H L' H') (h : zBW L H σ τ) : zBW L' H' σ τ :=
 ⟨h.1, fun i d e => let ⟨v, e1, r⟩ := h.2 i d e; ⟨v, e1, r.stp s⟩⟩
theorem Cor.tracked {K : PySem.W.Frag} {L : List Addr} {M : List MO} {H : Hp} (c : Cor K L M H) {a : Addr} (h : a ∈ L) : ∃ o, H a = some o := by
 obtain ⟨n, hn⟩ := List.getElem?_of_mem h;have hl : n < M.length := by rw [<- c.len]; exact (zSr.mp hn).1
 have m := c.obj n a M[n] hn (zSs hl);exact m.there
theorem Cor.grow {K : PySem.W.Frag} {L : List Addr} {M : List MO} {H H' : Hp} (c : Cor K L M H) (h : ∀ a o, H a = some o -> H' a = some o) : Cor K L M H' := by
 exact ⟨c.len, c.nd, fun n a m e1 e2 => (c.obj n a m e1 e2).stp (.grow h) fun o e => h a o e⟩
theorem Cor.upd {K : PySem.W.Frag} {L : List Addr} {M : List MO} {H : Hp} {p : Addr} {o : HO} (c : Cor K L M H) (h : H p = none) : Cor K L M (upd H p o) := c.grow fun a u e => by rw [zg (zAM e h)]; exact e
theorem Cor.write {K : PySem.W.Frag} {L : List Addr} {M : List MO} {H : Hp} {n : Nat} {p : Addr} {xs xs' : List D} {vs' : List V} (c : Cor K L M H) (h1 : L[n]? = some p) (h2 : M[n]? = some (.lst xs)) (r : zW L H xs' vs') :
  Cor K L (M.set n (.lst xs')) (L2.upd H p (.lst vs')) /\ Stp L H L (L2.upd H p (.lst vs')) := by
 obtain ⟨vs, hp, _⟩ := c.obj n p _ h1 h2;have st : Stp L H L (L2.upd H p (.lst vs')) := by
  refine ⟨⟨[], by simp⟩, fun a ha => .inl ha, fun a o e ha => ?_, fun a o e => ?_, fun a o u e => ?_⟩
  ·rw [zg (show a ≠ p from fun z => ha (by rw [z]; exact List.mem_of_getElem? h1))]; exact e
  ·rw [zg (zGM e hp (by intro z; cases z))]; exact e
  ·rw [zg (zGM e hp (by intro z; cases z))]; exact e
 refine ⟨⟨by simp [c.len], c.nd, fun k a m e1 e2 => ?_⟩, st⟩;rw [zUT] at e2;split at e2
 ·rename_i hk;subst hk;rw [h1] at e1; cases e1;split at e2
  ·cases e2; exact ⟨vs', zAP, r.stp st⟩
  ·cases e2
 ·rename_i hk;have hne : a ≠ p := fun z => hk (by
   subst z;exact (List.getElem?_inj (zSr.mp h1).1 c.nd).mp (h1.trans e1.symm))
  exact (c.obj k a m e1 e2).stp st fun o e => by rw [zg hne]; exact e
inductive EV where
 | dat (d : D) | fl (xs : List D)
def zm (H0 : Hp) (L : List Addr) (H : Hp) : EV -> V -> Prop
 | .dat d, v => Rep L H d v
 | .fl xs, v => ∃ p vs, v = .ref p /\ H0 p = none /\ H p = some (.lst vs) /\ p ∉ L /\ zW L H xs vs
abbrev Sd := List (Option D)
abbrev Mem := List MO
abbrev FE := Sd -> Mem -> Option (EV × Mem)
abbrev FD := Sd -> Mem -> Option (D × Mem)
abbrev FT := Sd -> Mem -> Option (Bool × Mem)
abbrev FA := Sd -> Mem -> Option (List D × Mem)
theorem Stp.out (s : Stp L H L' H') (h : H p = some o) (hp : p ∉ L) : p ∉ L' := fun z => by
 rcases s.new p z with q | q
 ·exact hp q
 ·rw [h] at q; cases q
theorem zm.stp (s : Stp L H L' H') (h : zm H0 L H e v) : zm H0 L' H' e v := by
 cases e with
 | dat d => exact Rep.stp s h
 | fl xs =>
  obtain ⟨p, vs, rfl, e0, e1, e2, r⟩ := h;exact ⟨p, vs, rfl, e0, s.old p _ e1 e2, s.out e1 e2, r.stp s⟩
theorem zm.back {H0 H1 : Hp} {L0 L1 L : List Addr} {H : Hp} (s : Stp L0 H0 L1 H1) {M : List MO} {K : PySem.W.Frag} (c : Cor K L0 M H0) {e : EV} {v : V} (h : zm H1 L H e v) (hL : ∀ a ∈ L1, a ∈ L) : zm H0 L H e v := by
 cases e with
 | dat d => exact h
 | fl xs =>
  obtain ⟨p, vs, rfl, e0, e1, e2, r⟩ := h;refine ⟨p, vs, rfl, ?_, e1, e2, r⟩;cases q : H0 p with
  | none => rfl
  | some o =>
   by_cases hp : p ∈ L0
   ·obtain ⟨N, hN⟩ := s.pre;exact absurd (hL p (by rw [hN]; exact zT8 _ hp)) e2
   ·rw [s.old p o q hp] at e0; cases e0
section
variable (K : PySem.W.Frag)
def trE (f : FE) : TE := fun τ H Q => ∃ L σ M d M', Cor K L M H /\ zBW L H σ τ /\ f σ M = some (d, M') /\ ∀ L' H' v, Stp L H L' H' -> Cor K L' M' H' -> zm H L' H' d v -> Q v H'
def trD (f : FD) : TE := fun τ H Q => ∃ L σ M d M', Cor K L M H /\ zBW L H σ τ /\ f σ M = some (d, M') /\ ∀ L' H' v, Stp L H L' H' -> Cor K L' M' H' -> Rep L' H' d v -> Q v H'
def trT (f : FT) : TT := fun τ H Q => ∃ L σ M d M', Cor K L M H /\ zBW L H σ τ /\ f σ M = some (d, M') /\ ∀ L' H', Stp L H L' H' -> Cor K L' M' H' -> Q d H'
def trA (f : FA) : TA := fun τ H Q => ∃ L σ M ds M', Cor K L M H /\ zBW L H σ τ /\ f σ M = some (ds, M') /\ ∀ L' H' vs, Stp L H L' H' -> Cor K L' M' H' -> zW L' H' ds vs -> Q vs H'
end
section
variable {X : Cx} {e : Expr}
theorem PE.imp (h : PE X e t) (hi : ∀ τ H Q, t' τ H Q -> t τ H Q) : PE X e t' := fun zB s σ H Q I q => h zB s σ H Q I (hi _ _ _ q)
theorem PT.imp (h : PT X e t) (hi : ∀ τ H Q, t' τ H Q -> t τ H Q) : PT X e t' := fun zB s σ H Q I q => h zB s σ H Q I (hi _ _ _ q)
theorem PS.imp {st : Stmt} {t t' : TS} (h : PS X st t) (hi : ∀ D τ H, t' D τ H -> t D τ H) : PS X st t' := fun zB s σ H D I q => h zB s σ H D I (hi _ _ _ q)
theorem PSs.imp {st : List Stmt} {t t' : TS} (h : PSs X st t) (hi : ∀ D τ H, t' D τ H -> t D τ H) : PSs X st t' := fun zB s σ H D I q => h zB s σ H D I (hi _ _ _ q)
structure QE (X : Cx) (e : Expr) (f : FE) : Prop where
 un : PE X e (trE X.K f)
structure QD (X : Cx) (e : Expr) (f : FD) : Prop where
 un : PE X e (trD X.K f)
structure QT (X : Cx) (e : Expr) (f : FT) : Prop where
 un : PT X e (trT X.K f)
structure QA (X : Cx) (es : List Expr) (f : FA) : Prop where
 un : PA X es (trA X.K f)
def toD (f : FE) : FD := fun σ M => match f σ M with
 | some (.dat d, M') => some (d, M')
 | some (.fl xs, M') => some (.ref M'.length, M' ++ [.lst xs])
 | none => none
mutual
theorem Rep.more (N : List Addr) : ∀ {d : D} {v : V}, Rep L H d v -> Rep (L ++ N) H d v
 | .non, _, h => by unfold Rep at h ⊢; exact h
 | .bl _, _, h => by unfold Rep at h ⊢; exact h
 | .int _, _, h => by unfold Rep at h ⊢; exact h
 | .str _, _, h => by unfold Rep at h ⊢; exact h
 | .tup ds, _, h => by
  unfold Rep at h ⊢;obtain ⟨a, vs, rfl, e, r⟩ := h;exact ⟨a, vs, rfl, e, zW.more N r⟩
 | .ref n, _, h => by
  unfold Rep at h ⊢;obtain ⟨a, rfl, e⟩ := h;exact ⟨a, rfl, zCC e⟩
theorem zW.more (N : List Addr) : ∀ {ds : List D} {vs : List V}, zW L H ds vs -> zW (L ++ N) H ds vs
 | [], _, h => by unfold zW at h ⊢; exact h
 | d :: ds, _, h => by
  unfold zW at h ⊢;obtain ⟨v, r, rfl, h1, h2⟩ := h;exact ⟨v, r, rfl, Rep.more N h1, zW.more N h2⟩
end
theorem zBI.more {κ : Type} {kf : D -> Option κ} {L : List Addr} {H : Hp} (N : List Addr) : ∀ {ps : List (D × D)} {vs : List (κ × V)}, zBI kf L H ps vs -> zBI kf (L ++ N) H ps vs
 | [], _, h => h
 | p :: r, _, h => by
  obtain ⟨k, v, r', rfl, e, h1, h2⟩ := h;exact ⟨k, v, r', rfl, e, h1.more N, zBI.more N h2⟩
theorem zFw.more {K : PySem.W.Frag} {L : List Addr} {H : Hp} {a : Addr} {m : MO} (N : List Addr) (h : zFw K L H a m) : zFw K (L ++ N) H a m := by
 cases m with
 | lst xs => obtain ⟨vs, e, r⟩ := h; exact ⟨vs, e, r.more N⟩
 | fro xs => obtain ⟨o, vs, e, r⟩ := h; exact ⟨o, vs, e, r.more N⟩
 | dict ps => obtain ⟨vs, e, r⟩ := h; exact ⟨vs, e, r.more N⟩
 | dicT ps => obtain ⟨vs, e, r⟩ := h; exact ⟨vs, e, r.more N⟩
 | set _ => exact h.elim
theorem zP4 {K : PySem.W.Frag} {L L' : List Addr} {M' : List MO} {H H' : Hp} {p : Addr} {xs : List D} {vs : List V} (s : Stp L H L' H') (c : Cor K L' M' H') (h0 : H p = none) (h1 : H' p = some (.lst vs)) (h2 : p ∉ L') (r : zW L' H' xs vs) :
  Cor K (L' ++ [p]) (M' ++ [.lst xs]) H' /\ Stp L H (L' ++ [p]) H' := by
 refine ⟨⟨by simp [c.len], ?_, fun n a m e1 e2 => ?_⟩, ?_⟩
 ·rw [zT7];exact ⟨c.nd, by simp, fun a ha b hb z => by
   have : b = p := by simpa using hb
   subst this; subst z; exact h2 ha⟩
 ·by_cases hn : n < L'.length
  ·rw [zSv hn] at e1;rw [zSv (by rw [<- c.len]; exact hn)] at e2;exact (c.obj n a m e1 e2).more [p]
  ·have hn' : n = L'.length := by
    have := (zSr.mp e1).1;rw [zS4] at this;simp at this; omega
   subst hn';simp at e1;rw [c.len] at e2;simp at e2;subst e1; subst e2;exact ⟨vs, h1, r.more [p]⟩
 ·obtain ⟨N, hN⟩ := s.pre;refine ⟨⟨N ++ [p], by rw [hN]; simp⟩, fun a ha => ?_, s.old, s.tup, s.frz⟩;rcases zTE.mp ha with z | z
  ·exact s.new a z
  ·have : a = p := by simpa using z
   subst this; exact .inr h0
theorem Rep.last {L : List Addr} {M : List MO} {H : Hp} {K : PySem.W.Frag} {p : Addr} (c : Cor K L M H) : Rep (L ++ [p]) H (.ref M.length) (.ref p) := by
 unfold Rep;exact ⟨p, rfl, by rw [<- c.len]; simp⟩
theorem zN {f : FE} (h : QE X e f) : QD X e (toD f) := .mk <| PE.imp h.un fun τ H Q ⟨L, σ, M, d, M', c, rs, hf, q⟩ => by
 unfold toD at hf;split at hf
 ·rename_i d' M1 e1;cases hf;exact ⟨L, σ, M, _, _, c, rs, e1, fun L' H' v s c' r => q L' H' v s c' r⟩
 ·rename_i xs M1 e1;cases hf;refine ⟨L, σ, M, _, _, c, rs, e1, fun L' H' v s c' r => ?_⟩;obtain ⟨p, vs, rfl, e0, e2, e3, r⟩ := r;obtain ⟨c2, s2⟩ := zP4 s c' e0 e2 e3 r;exact q _ H' _ s2 c2 (Rep.last c')
 ·cases hf
def zD (i : Nat) : FE := fun σ M => match σ[i]? with
 | some (some d) => some (.dat d, M)
 | _ => none
theorem zE (h : PE X (.Name x pos) (zQF i)) : QE X (.Name x pos) (zD i) := .mk <| PE.imp h fun τ H Q ⟨L, σ, M, d, M', c, rs, hf, q⟩ => by
 unfold zD at hf;split at hf
 ·rename_i d' e1;cases hf;obtain ⟨v, e2, r⟩ := rs.2 i d' e1;exact ⟨v, e2, q L H v (.refl L H) c r⟩
 ·cases hf
def fC (d : D) : FE := fun _ M => some (.dat d, M)
theorem zH8 (hd : ∀ L H, Rep L H d v) (h : PE X e (tC v)) : QE X e (fC d) := .mk <| PE.imp h fun τ H Q ⟨L, σ, M, d', M', c, rs, hf, q⟩ => by
 unfold fC at hf;cases hf;exact q L H v (.refl L H) c (hd L H)
theorem zd {i j pos} : QE X (.Constant (.int i) j pos) (fC (.int i)) := zH8 (fun _ _ => by unfold Rep; rfl) zQB
theorem zMT {b j pos} : QE X (.Constant (.bool b) j pos) (fC (.bl b)) := zH8 (fun _ _ => by unfold Rep; rfl) zSL
theorem zPy {j pos} : QE X (.Constant .none j pos) (fC .non) := zH8 (fun _ _ => by unfold Rep; rfl) zQE
def zR : FA := fun _ M => some ([], M)
def zH (f : FD) (g : FA) : FA := fun σ M => match f σ M with
 | some (d, M1) => match g σ M1 with
  | some (ds, M2) => some (d :: ds, M2)
  | none => none
 | none => none
theorem PA.imp (h : PA X es t) (hi : ∀ τ H Q, t' τ H Q -> t τ H Q) : PA X es t' := fun pos zB s σ H Q I q => h pos zB s σ H Q I (hi _ _ _ q)
theorem zS : QA X [] zR := .mk <| PA.imp zD9 fun τ H Q ⟨L, σ, M, d, M', c, rs, hf, q⟩ => by
 unfold zR at hf;cases hf;exact q L H [] (.refl L H) c .nil
theorem zI (h1 : QD X e f) (h2 : QA X es g) (hs : starEach (e :: es) X.env = (false, eval e X.env) :: starEach es X.env := by rfl) : QA X (e :: es) (zH f g) :=
 .mk <| PA.imp (zCb h1.un h2.un hs) fun τ H Q ⟨L, σ, M, d, M', c, rs, hf, q⟩ => by
  unfold zH at hf;split at hf
  ·rename_i d1 M1 e1;split at hf
   ·rename_i ds M2 e2;cases hf;refine ⟨L, σ, M, _, _, c, rs, e1, fun L1 H1 v s1 c1 r1 => ⟨L1, σ, M1, _, _, c1, rs.stp s1, e2, fun L2 H2 vs s2 c2 r2 => ?_⟩⟩;exact q L2 H2 _ (s1.trans s2) c2 (.cons (r1.stp s2) r2)
   ·cases hf
  ·cases hf
def zFA (g : FA) : FE := fun σ M => match g σ M with
 | some (ds, M1) => if ds.length <= sizeLine then some (.dat (.tup ds), M1) else none
 | none => none
def zAZ (g : FA) : FE := fun σ M => match g σ M with
 | some (ds, M1) => if ds.length <= sizeLine then some (.fl ds, M1) else none
 | none => none
theorem Rep.newTup (h : H p = none) (r : zW L H ds vs) : Rep L (upd H p (.tup vs)) (.tup ds) (.ref p) := by
 unfold Rep;exact ⟨p, vs, rfl, zAP, r.stp (.upd h)⟩
theorem zJP {x1 pos} (h : QA X es g) : QE X (.Tuple es x1 pos) (zFA g) := .mk <| PE.imp (zQG h.un) fun τ H Q ⟨L, σ, M, d, M', c, rs, hf, q⟩ => by
 unfold zFA at hf;split at hf
 ·rename_i ds M1 e1;split at hf
  ·rename_i hz;cases hf;refine ⟨L, σ, M, _, _, c, rs, e1, fun L1 H1 vs s1 c1 r1 => ⟨by rw [r1.length]; exact hz, fun p hp => ?_⟩⟩;exact q L1 _ _ (s1.trans (.upd hp)) (c1.upd hp) (Rep.newTup hp r1)
  ·cases hf
 ·cases hf
theorem zLV {L L1 : List Addr} {H H1 : Hp} {K : PySem.W.Frag} {M M1 : List MO} (s : Stp L H L1 H1) (c : Cor K L M H) (c1 : Cor K L1 M1 H1) {p : Addr} (hp : H1 p = none) : H p = none /\ p ∉ L1 := by
 have hp1 : p ∉ L1 := fun z => by obtain ⟨o, e⟩ := c1.tracked z; rw [hp] at e; cases e
 refine ⟨?_, hp1⟩;cases q : H p with
 | none => rfl
 | some o =>
  have : p ∉ L := fun z => hp1 (by obtain ⟨N, hN⟩ := s.pre; rw [hN]; exact zT8 _ z);rw [s.old p o q this] at hp; cases hp
theorem zm.newLst {L L1 : List Addr} {H H1 : Hp} {K : PySem.W.Frag} {M M1 : List MO} {p : Addr} {ds : List D} {vs : List V} (s : Stp L H L1 H1) (c : Cor K L M H) (c1 : Cor K L1 M1 H1) (hp : H1 p = none) (r : zW L1 H1 ds vs) :
  zm H L1 (upd H1 p (.lst vs)) (.fl ds) (.ref p) := by
 obtain ⟨a, b⟩ := zLV s c c1 hp;exact ⟨p, vs, rfl, a, zAP, b, r.stp (.upd hp)⟩
theorem zCe {pos} (h : QA X es g) : QE X (.List es pos) (zAZ g) := .mk <| PE.imp (zQa h.un) fun τ H Q ⟨L, σ, M, d, M', c, rs, hf, q⟩ => by
 unfold zAZ at hf;split at hf
 ·rename_i ds M1 e1;split at hf
  ·rename_i hz;cases hf;refine ⟨L, σ, M, _, _, c, rs, e1, fun L1 H1 vs s1 c1 r1 => ⟨by rw [r1.length]; exact hz, fun p hp => ?_⟩⟩;exact q L1 _ _ (s1.trans (.upd hp)) (c1.upd hp) (zm.newLst s1 c c1 hp r1)
  ·cases hf
 ·cases hf
end
abbrev FAE := Sd -> Mem -> Option (List EV × Mem)
def zCh (H0 : Hp) (L : List Addr) (H : Hp) : List EV -> List V -> Prop
 | [], vs => vs = []
 | e :: es, vs => ∃ v r, vs = v :: r /\ zm H0 L H e v /\ zCh H0 L H es r
theorem Stp.sub (s : Stp L H L' H') : ∀ a ∈ L, a ∈ L' := fun a h => by
 obtain ⟨N, hN⟩ := s.pre;rw [hN]; exact zT8 _ h
theorem zCh.back {H0 H1 : Hp} {L0 L1 L : List Addr} {H : Hp} (s : Stp L0 H0 L1 H1) {M : List MO} {K : PySem.W.Frag} (c : Cor K L0 M H0) (hL : ∀ a ∈ L1, a ∈ L) : ∀ {es : List EV} {vs : List V}, zCh H1 L H es vs -> zCh H0 L H es vs
 | [], _, h => h
 | e :: es, _, h => by
  obtain ⟨v, r, rfl, h1, h2⟩ := h;exact ⟨v, r, rfl, h1.back s c hL, zCh.back s c hL h2⟩
def zSJ (K : PySem.W.Frag) (f : FAE) : TA := fun τ H Q => ∃ L σ M ds M', Cor K L M H /\ zBW L H σ τ /\ f σ M = some (ds, M') /\ ∀ L' H' vs, Stp L H L' H' -> Cor K L' M' H' -> zCh H L' H' ds vs -> Q vs H'
structure QAE (X : Cx) (es : List Expr) (f : FAE) : Prop where
 un : PA X es (zSJ X.K f)
section
variable {X : Cx} {a b e : Expr} {es : List Expr} {pos : Pos}
def zAT : FAE := fun _ M => some ([], M)
def zn (f : FE) (g : FAE) : FAE := fun σ M => match f σ M with
 | some (d, M1) => match g σ M1 with
  | some (ds, M2) => some (d :: ds, M2)
  | none => none
 | none => none
theorem zAI : QAE X [] zAT := .mk <| PA.imp zD9 fun τ H Q ⟨L, σ, M, d, M', c, rs, hf, q⟩ => by
 unfold zAT at hf;cases hf;exact q L H [] (.refl L H) c rfl
theorem zu (h1 : QE X e f) (h2 : QAE X es g) (hs : starEach (e :: es) X.env = (false, eval e X.env) :: starEach es X.env := by rfl) : QAE X (e :: es) (zn f g) :=
 .mk <| PA.imp (zCb h1.un h2.un hs) fun τ H Q ⟨L, σ, M, d, M', c, rs, hf, q⟩ => by
  unfold zn at hf;split at hf
  ·rename_i d1 M1 e1;split at hf
   ·rename_i ds M2 e2;cases hf;refine ⟨L, σ, M, _, _, c, rs, e1, fun L1 H1 v s1 c1 r1 => ⟨L1, σ, M1, _, _, c1, rs.stp s1, e2, fun L2 H2 vs s2 c2 r2 => ?_⟩⟩;exact q L2 H2 _ (s1.trans s2) c2 ⟨v, vs, rfl, r1.stp s2, r2.back s1 c s2.sub⟩
   ·cases hf
  ·cases hf
abbrev K2 := EV -> EV -> Mem -> Option (EV × Mem)
def zDE (K : PySem.W.Frag) (r : R2) (k : K2) : Prop := ∀ {L : List Addr} {M M' : Mem} {H H0 : Hp} {x y d : EV} {v w : V} {Q : VK}, Cor K L M H -> zm H0 L H x v -> zm H0 L H y w -> k x y M = some (d, M') ->
 (∀ L' H' u, Stp L H L' H' -> Cor K L' M' H' -> zm H L' H' d u -> Q u H') -> r v w H Q
def fOp (k : K2) (f g : FE) : FE := fun σ M => match f σ M with
 | some (x, M1) => match g σ M1 with
  | some (y, M2) => k x y M2
  | none => none
 | none => none
theorem zDv {K : PySem.W.Frag} {r : R2} {k : K2} {f g : FE} (hk : zDE K r k) {τ : Sv} {H : Hp} {Q : VK} (h : trE K (fOp k f g) τ H Q) : tOp r (trE K f) (trE K g) τ H Q := by
 obtain ⟨L, σ, M, d, M', c, rs, hf, q⟩ := h;unfold fOp at hf;split at hf
 ·rename_i x M1 e1;split at hf
  ·rename_i y M2 e2;refine ⟨L, σ, M, _, _, c, rs, e1, fun L1 H1 v s1 c1 r1 => ⟨L1, σ, M1, _, _, c1, rs.stp s1, e2, fun L2 H2 w s2 c2 r2 => ?_⟩⟩;refine hk (H0 := H) c2 (r1.stp s2) (r2.back s1 c s2.sub) hf fun L3 H3 u s3 c3 r3 => ?_;exact q L3 H3 u ((s1.trans s2).trans s3) c3 (r3.back (s1.trans s2) c s3.sub)
  ·cases hf
 ·cases hf
theorem zKQ (hk : zDE X.K r k) (ho : OpR X (binaryOp op) r) (h1 : QE X a f) (h2 : QE X b g) : QE X (.BinOp a op b pos) (fOp k f g) := .mk <| PE.imp (zRt ho h1.un h2.un) fun _ _ _ h => zDv hk h
theorem zPz (hk : zDE X.K r k) (ho : OpR X (compareOp op) r) (h1 : QE X a f) (h2 : QE X b g) (hm : behindInMarks op b = false) : QE X (.Compare a [op] [b] pos) (fOp k f g) :=
 .mk <| PE.imp (zOj ho h1.un h2.un hm) fun _ _ _ h => zDv hk h
def tst (f : FE) : FT := fun σ M => match f σ M with
 | some (.dat (.bl c), M') => some (c, M')
 | _ => none
theorem zE8 {K : PySem.W.Frag} {f : FE} {τ : Sv} {H : Hp} {Q : Bool -> Hp -> Prop} (h : trT K (tst f) τ H Q) : zKz (trE K f) τ H Q := by
 obtain ⟨L, σ, M, d, M', c, rs, hf, q⟩ := h;unfold tst at hf;split at hf
 ·rename_i k M1 e1;cases hf;refine ⟨L, σ, M, _, _, c, rs, e1, fun L1 H1 v s1 c1 r1 => ?_⟩;have : v = .bl d := by unfold zm Rep at r1; exact r1
  exact ⟨d, this, q L1 H1 s1 c1⟩
 ·cases hf
theorem zGD (h : ∀ τ H Q, t τ H Q -> t' τ H Q) (q : zKz t τ H Q) : zKz t' τ H Q := h _ _ _ q
theorem zEx {op : CmpOp} {r : R2} {k : K2} {f g : FE} (hk : zDE X.K r k) (ho : OpR X (compareOp op) r) (h1 : QE X a f) (h2 : QE X b g) (hm : behindInMarks op b = false) : QT X (.Compare a [op] [b] pos) (tst (fOp k f g)) :=
 .mk <| PT.imp (zOn ho h1.un h2.un hm) fun _ _ _ h => zGD (fun _ _ _ z => zDv hk z) (zE8 h)
theorem zID (h : QE X e f) (he : ∀ whole, isTrue e X.env whole = (do let v <- whole; standAt e.pos; holding [v] (truthy v)) := by intro _; rfl) : QT X e (tst f) :=
 .mk <| PT.imp (zRG h.un he) fun _ _ _ h => zE8 h
def kI (C : Int -> Int -> Bool) (g : Int -> Int -> D) : K2 := fun x y M => match x, y with
 | .dat (.int i), .dat (.int j) => if C i j then some (.dat (g i j), M) else none
 | _, _ => none
def kI0 (g : Int -> Int -> D) : K2 := kI (fun _ _ => true) g
theorem zIm {K : PySem.W.Frag} {C : Int -> Int -> Bool} {C' : Int -> Int -> Prop} {g : Int -> Int -> D} {g' : Int -> Int -> V} (hC : ∀ i j, C i j = true -> C' i j) (hg : ∀ L H i j, Rep L H (g i j) (g' i j)) : zDE K (rI C' g') (kI C g) := by
 intro L M M' H H0 x y d v w Q c rx ry hk q;unfold kI at hk;split at hk
 ·rename_i i j;split at hk
  ·rename_i hc;cases hk;refine ⟨i, j, by unfold zm Rep at rx; exact rx, by unfold zm Rep at ry; exact ry, hC i j hc, q L H _ (.refl L H) c (hg L H i j)⟩
  ·cases hk
 ·cases hk
theorem zIF {K : PySem.W.Frag} {g : Int -> Int -> D} {g' : Int -> Int -> V} (hg : ∀ L H i j, Rep L H (g i j) (g' i j)) : zDE K (rI0 g') (kI0 g) := by
 intro L M M' H H0 x y d v w Q c rx ry hk q;obtain ⟨i, j, h1, h2, _, h4⟩ := zIm (C := fun _ _ => true) (C' := fun _ _ => True) (fun _ _ _ => trivial) hg c rx ry hk q;exact ⟨i, j, h1, h2, h4⟩
theorem zAs : Rep L H (.int i) (.int i) := by unfold Rep; rfl
theorem zCR : Rep L H (.bl i) (.bl i) := by unfold Rep; rfl
def zMQ (i j : Int) : Bool := (decide (-(2 ^ 64) < i) && decide (i < 2 ^ 64)) || (decide (-(2 ^ 64) < j) && decide (j < 2 ^ 64))
abbrev zSd : K2 := kI0 fun i j => .int (i + j)
abbrev zOb : K2 := kI0 fun i j => .int (i - j)
abbrev zL5 : K2 := kI zMQ fun i j => .int (i * j)
abbrev zEy : K2 := kI (fun _ j => decide (0 < j)) fun i j => .int (i % j)
abbrev zLe : K2 := kI (fun _ j => decide (0 < j) && decide (j < 1073741824)) fun i j => .int (i / j)
abbrev zMb : K2 := kI (fun i j => decide (0 <= j) && decide (j <= 1000000) && decide (i.natAbs < 2 ^ 64)) fun i j => .int (i ^ j.toNat)
abbrev kLt : K2 := kI0 fun i j => .bl (decide (i < j))
abbrev kGe : K2 := kI0 fun i j => .bl (decide (j <= i))
section
variable {f g : FE}
theorem zNX (h1 : QE X a f) (h2 : QE X b g) : QE X (.BinOp a .Sub b pos) (fOp zOb f g) := zKQ (zIF fun _ _ _ _ => zAs) zQI h1 h2
theorem zMu (h1 : QE X a f) (h2 : QE X b g) : QE X (.BinOp a .Mult b pos) (fOp zL5 f g) := zKQ (zIm (fun i j h => by
 unfold zMQ at h;simp only [Bool.or_eq_true, zTO, zT6] at h;exact h) fun _ _ _ _ => zAs) zQk h1 h2
theorem zEX (h1 : QE X a f) (h2 : QE X b g) : QE X (.BinOp a .Mod b pos) (fOp zEy f g) := zKQ (zIm (fun i j h => zTk h) fun _ _ _ _ => zAs) zQK h1 h2
theorem zNo (h1 : QE X a f) (h2 : QE X b g) : QE X (.BinOp a .FloorDiv b pos) (fOp zLe f g) := zKQ (zIm (fun i j h => by
 simp only [zTO, zT6] at h;exact h) fun _ _ _ _ => zAs) zO2 h1 h2
theorem zPr (h1 : QE X a f) (h2 : QE X b g) : QE X (.BinOp a .Pow b pos) (fOp zMb f g) := zKQ (zIm (fun i j h => by
 simp only [zTO, zT6] at h;exact ⟨h.1.1, h.1.2, h.2⟩) fun _ _ _ _ => zAs) zQ1 h1 h2
theorem zPt (h1 : QE X a f) (h2 : QE X b g) : QT X (.Compare a [.Lt] [b] pos) (tst (fOp kLt f g)) := zEx (zIF fun _ _ _ _ => zCR) zR2 h1 h2 (zDb _)
theorem zRi (h1 : QE X a f) (h2 : QE X b g) : QT X (.Compare a [.GtE] [b] pos) (tst (fOp kGe f g)) := zEx (zIF fun _ _ _ _ => zCR) zRd h1 h2 (zDb _)
end
end
def zBj (M : Mem) : EV -> Option (List D)
 | .fl xs => some xs
 | .dat (.ref n) => match M[n]? with
  | some (.lst xs) => some xs
  | some (.fro xs) => some xs
  | _ => none
 | _ => none
def zCO : EV -> Option (List D)
 | .dat (.tup xs) => some xs
 | _ => none
def zBK (M : Mem) (x : EV) : Option (List D) := match zCO x with
 | some xs => some xs
 | none => zBj M x
theorem zBd {K : PySem.W.Frag} {L : List Addr} {M : Mem} {H H0 : Hp} {x : EV} {v : V} {xs : List D} (c : Cor K L M H) (r : zm H0 L H x v) (h : zBj M x = some xs) : ∃ a vs, v = .ref a /\ Rd H a (.lst vs) /\ zW L H xs vs := by
 cases x with
 | fl ys =>
  cases h;obtain ⟨p, vs, rfl, _, e, _, r⟩ := r;exact ⟨p, vs, rfl, .inl e, r⟩
 | dat d =>
  cases d with
  | ref n =>
   unfold zm Rep at r;obtain ⟨a, rfl, e⟩ := r;unfold zBj at h;dsimp only at h;cases q : M[n]? with
   | none => rw [q] at h; cases h
   | some m =>
    rw [q] at h;have z := c.obj n a m e q;cases m with
    | lst ys => cases h; obtain ⟨vs, e1, r1⟩ := z; exact ⟨a, vs, rfl, .inl e1, r1⟩
    | fro ys => cases h; obtain ⟨o, vs, e1, r1⟩ := z; exact ⟨a, vs, rfl, .inr ⟨o, e1⟩, r1⟩
    | dict _ => cases h
    | dicT _ => cases h
    | set _ => cases h
  | _ => cases h
theorem zB8 {L : List Addr} {H H0 : Hp} {x : EV} {v : V} {xs : List D} (r : zm H0 L H x v) (h : zCO x = some xs) : ∃ a vs, v = .ref a /\ H a = some (.tup vs) /\ zW L H xs vs := by
 cases x with
 | fl ys => cases h
 | dat d =>
  cases d with
  | tup ys => cases h; unfold zm Rep at r; exact r
  | _ => cases h
theorem zLE {K : PySem.W.Frag} {L : List Addr} {M : Mem} {H H0 : Hp} {x : EV} {v : V} {xs : List D} (c : Cor K L M H) (r : zm H0 L H x v) (h : zBK M x = some xs) : ∃ a vs, v = .ref a /\ (SqL K H a vs \/ SqT K H a vs) /\ zW L H xs vs := by
 unfold zBK at h;cases q : zCO x with
 | some ys =>
  rw [q] at h; cases h;obtain ⟨a, vs, e, h1, h2⟩ := zB8 r q;exact ⟨a, vs, e, .inr (.of h1), h2⟩
 | none =>
  rw [q] at h;obtain ⟨a, vs, e, h1, h2⟩ := zBd c r h;exact ⟨a, vs, e, .inl (.inl h1), h2⟩
theorem zQr {L : List Addr} {H : Hp} {xs : List D} {vs : List V} {i : Int} {d : D} (r : zW L H xs vs) (h : atI xs i = some d) : ∃ v, atI vs i = some v /\ Rep L H d v := by
 unfold atI at h ⊢;rw [r.length];cases q : ixN xs.length i with
 | none => rw [q] at h; cases h
 | some j => rw [q] at h; exact r.get h
theorem zOf {L : List Addr} {H : Hp} {i : Str} : Rep L H (.str i) (.str i) := by unfold Rep; rfl
def kIx : K2 := fun x y M => match y with
 | .dat (.int i) => match zBK M x with
  | some xs => match atI xs i with
   | some d => some (.dat d, M)
   | none => none
  | none => match x with
   | .dat (.str z) => if z.length <= sizeLine then match atI z.cps.toList i with
     | some c => some (.dat (.str ⟨#[c]⟩), M)
     | none => none
    else none
   | _ => none
 | _ => none
theorem zQm {K : PySem.W.Frag} : zDE K (rIx K) kIx := by
 intro L M M' H H0 x y d v w Q c rx ry hk q;unfold kIx at hk;split at hk
 ·rename_i i;have ew : w = .int i := by unfold zm Rep at ry; exact ry
  split at hk
  ·rename_i xs e1;split at hk
   ·rename_i d' e2;cases hk;obtain ⟨a, vs, rfl, hs, r⟩ := zLE c rx e1;obtain ⟨u, e3, r3⟩ := zQr r e2;rcases hs with hs | hs
    ·exact .inl ⟨a, vs, i, u, rfl, ew, hs, e3, q L H u (.refl L H) c r3⟩
    ·exact .inr (.inl ⟨a, vs, i, u, rfl, ew, hs, e3, q L H u (.refl L H) c r3⟩)
   ·cases hk
  ·split at hk
   ·rename_i z _;split at hk
    ·rename_i hz;split at hk
     ·rename_i ch e2;cases hk;have ev : v = .str z := by unfold zm Rep at rx; exact rx
      exact .inr (.inr ⟨z, i, ch, ev, ew, hz, e2, q L H _ (.refl L H) c (zOf (L := L) (H := H))⟩)
     ·cases hk
    ·cases hk
   ·cases hk
 ·cases hk
section
variable {prog : Program} {w : World} {A : Around} {E : Value -> Shared -> Prop} {s : Shared}
theorem zJ4 {t sl : Addr} {items : Array Value} {vl vu : Value} {lo hi : Option Int} {Q : Value -> Shared -> Prop} (T : IsTup s.heap t items) (S : s.heap.IsSliceOf sl vl vu .none) (pl : IsPart vl lo) (pu : IsPart vu hi)
  (h1 : HT.sIx items.size 0 lo = 0) (h2 : HT.sIx items.size items.size hi = items.size) (h : Q (.ref t) s) : wpAny (model prog w) A (getItem (.ref t) (.ref sl)) Q E s := by
 obtain ⟨o, O, C, G⟩ := id S;have TS : s.TypeIs (.ref sl) "slice" := ⟨o, O, C⟩;unfold getItem;try with_reducible refine zTh ?_
 first | refine zSo (zSq ?_) | skip
 refine zSo (wpAny_sequenceKey T.typeIs (by decide) ?_);refine zSo (zTQ (name := Str.ofString "__getitem__") T.typeIs zUS (zTR zUS T.typeIs entry_tuple_getitem ?_ (args_tuple_getitem _ _)));refine zSo (m := Builtin.Tuple.tupleItemsOf (.ref t)) (tupleItemsOf_ T (zSo (wpAny_typeOf TS ?_)));rw [zS3 (by decide)];refine zSo (HT.zCr S pl pu ?_);rw [h1, h2];show wpAny _ _ (if ((((0 : Nat) : Int) == 0 && (1 : Int) == 1 && (items.size - 0) == items.size)) = true then _ else _) _ _ s;rw [zS3 (by simp)];unfold Builtin.Tuple.tupleIsExact;refine zSo (zSo (wpAny_typeOf T.typeIs (zSq ?_)));rw [zS3 (by decide)];exact zSo (zUG (zSq ⟨_, rfl, zSq h⟩))
end
def zSn (K : PySem.W.Frag) : V -> Option Int -> Option Int -> Hp -> VK -> Prop := fun x lo hi H Q => ∃ a xs, x = .ref a /\ SqT K H a xs /\ (HT.sIx xs.length 0 lo = 0 /\ HT.sIx xs.length xs.length hi = xs.length) /\ Q (.ref a) H
theorem zPF {X : Cx} : SlR X (zSn X.K) := by
 intro zB s σ H x v vl vu lo hi sl Q I rx hs pl pu h;obtain ⟨a, xs, rfl, hx, hw, q⟩ := h;cases rx;obtain ⟨its, r, ht, hz⟩ := I.tuple hx;have hlen : its.toArray.size = xs.length := by rw [zSw]; exact r.length.symm
 exact ⟨"tuple", _, zUS.lookup, ht.typeIs, zJ4 ht hs pl pu (by rw [hlen]; exact hw.1) (by rw [hlen]; exact hw.2) ⟨.ref a, H, I, rfl, q⟩⟩
section
variable {X : Cx} {a b e : Expr} {es : List Expr} {pos : Pos} {f g : FE}
theorem zBC (h1 : QE X a f) (h2 : QE X b g) (hs : zKt b := by intro _ _; rfl) : QE X (.Subscript a b pos) (fOp kIx f g) := .mk <| PE.imp (zRc zQ2 h1.un h2.un hs) fun _ _ _ h => zDv zQm h
abbrev FO := Sd -> Mem -> Option (Option Int × Mem)
def trO (K : PySem.W.Frag) (f : FO) : TO := fun τ H Q => ∃ L σ M d M', Cor K L M H /\ zBW L H σ τ /\ f σ M = some (d, M') /\ ∀ L' H', Stp L H L' H' -> Cor K L' M' H' -> Q d H'
structure QO (X : Cx) (e : Option Expr) (f : FO) : Prop where
 un : PO X e (trO X.K f)
def zD6 : FO := fun _ M => some (none, M)
def zDZ (f : FE) : FO := fun σ M => match f σ M with
 | some (.dat (.int i), M') => some (some i, M')
 | _ => none
theorem PO.imp {e : Option Expr} {t t' : TO} (h : PO X e t) (hi : ∀ τ H Q, t' τ H Q -> t τ H Q) : PO X e t' := fun zB s σ H Q I q => h zB s σ H Q I (hi _ _ _ q)
theorem zFb : QO X none zD6 := .mk <| PO.imp zPO fun τ H Q ⟨L, σ, M, d, M', c, rs, hf, q⟩ => by
 unfold zD6 at hf;cases hf;exact q L H (.refl L H) c
theorem zFc (h : QE X e f) : QO X (some e) (zDZ f) := .mk <| PO.imp (zPY h.un) fun τ H Q ⟨L, σ, M, d, M', c, rs, hf, q⟩ => by
 unfold zDZ at hf;split at hf
 ·rename_i i M1 e1;cases hf;refine ⟨L, σ, M, _, _, c, rs, e1, fun L1 H1 v s1 c1 r1 => ?_⟩;exact ⟨i, by unfold zm Rep at r1; exact r1, q L1 H1 s1 c1⟩
 ·cases hf
def zFT (xs : List D) (lo hi : Option Int) : List D := (xs.drop (HT.sIx xs.length 0 lo)).take (HT.sIx xs.length xs.length hi - HT.sIx xs.length 0 lo)
theorem zKo {L : List Addr} {H : Hp} {xs : List D} {vs : List V} {lo hi : Option Int} (r : zW L H xs vs) : zW L H (zFT xs lo hi) (zJK vs lo hi) := by
 unfold zFT zJK;rw [r.length];exact (r.drop _).take _
def kSl (x : EV) (lo hi : Option Int) (M : Mem) : Option (EV × Mem) := match zCO x with
 | some xs => some (.dat (.tup (zFT xs lo hi)), M)
 | none => match zBj M x with
  | some xs => some (.fl (zFT xs lo hi), M)
  | none => none
def fSl (f : FE) (fl fh : FO) : FE := fun σ M => match f σ M with
 | some (x, M1) => match fl σ M1 with
  | some (lo, M2) => match fh σ M2 with
   | some (hi, M3) => kSl x lo hi M3
   | none => none
  | none => none
 | none => none
theorem zFj {lo hi : Option Expr} {p2 : Pos} {fl fh : FO} (h : QE X e f) (hl : QO X lo fl) (hh : QO X hi fh) : QE X (.Subscript e (.Slice lo hi none p2) pos) (fSl f fl fh) :=
 .mk <| PE.imp (zNQ (SlR.or zPm (SlR.or zQt zPF)) h.un hl.un hh.un) fun τ H Q ⟨L, σ, M, d, M', c, rs, hf, q⟩ => by
  unfold fSl at hf;split at hf
  ·rename_i x M1 e1;split at hf
   ·rename_i l M2 e2;split at hf
    ·rename_i u M3 e3;refine ⟨L, σ, M, _, _, c, rs, e1, fun L1 H1 v s1 c1 r1 => ⟨L1, σ, M1, _, _, c1, rs.stp s1, e2, fun L2 H2 s2 c2 => ⟨L2, σ, M2, _, _, c2, rs.stp (s1.trans s2), e3, fun L3 H3 s3 c3 => ?_⟩⟩⟩;have s := (s1.trans s2).trans s3;have r3 : zm H L3 H3 x v := (r1.stp s2).stp s3;unfold kSl at hf;cases t : zCO x with
     | some xs =>
      rw [t] at hf;dsimp only at hf;cases hf;obtain ⟨a, vs, rfl, e4, r4⟩ := zB8 r3 t;by_cases hw : HT.sIx vs.length 0 l = 0 /\ HT.sIx vs.length vs.length u = vs.length
      ·refine .inr (.inr ⟨a, vs, rfl, .of e4, hw, ?_⟩);have ec : zFT xs l u = xs := by
        unfold zFT;rw [<- r4.length, hw.1, hw.2, r4.length];simp
       rw [ec] at q;refine q L3 H3 _ s c3 ?_;unfold zm Rep;exact ⟨a, vs, rfl, e4, r4⟩
      ·refine .inr (.inl ⟨a, vs, rfl, .of e4, hw, fun p hp => ?_⟩);exact q L3 _ _ (s.trans (.upd hp)) (c3.upd hp) (Rep.newTup hp (zKo r4))
     | none =>
      rw [t] at hf;dsimp only at hf;split at hf
      ·rename_i xs e4;cases hf;obtain ⟨a, vs, rfl, e5, r5⟩ := zBd c3 r3 e4;refine .inl ⟨a, vs, rfl, .inl e5, fun p hp => ?_⟩;exact q L3 _ _ (s.trans (.upd hp)) (c3.upd hp) (zm.newLst s c c3 hp (zKo r5))
      ·cases hf
    ·cases hf
   ·cases hf
  ·cases hf
abbrev KB := List EV -> Mem -> Option (EV × Mem)
def zGm (K : PySem.W.Frag) (r : List V -> Hp -> VK -> Prop) (k : KB) : Prop := ∀ {L : List Addr} {M M' : Mem} {H H0 : Hp} {xs : List EV} {d : EV} {vs : List V} {Q : VK}, Cor K L M H -> zCh H0 L H xs vs -> k xs M = some (d, M') ->
 (∀ L' H' u, Stp L H L' H' -> Cor K L' M' H' -> zm H L' H' d u -> Q u H') -> r vs H Q
def fB (k : KB) (f : FAE) : FE := fun σ M => match f σ M with
 | some (xs, M1) => k xs M1
 | none => none
theorem zNR {K : PySem.W.Frag} {r : List V -> Hp -> VK -> Prop} {k : KB} {f : FAE} (hk : zGm K r k) {τ : Sv} {H : Hp} {Q : VK} (h : trE K (fB k f) τ H Q) : tCB r (zSJ K f) τ H Q := by
 obtain ⟨L, σ, M, d, M', c, rs, hf, q⟩ := h;unfold fB at hf;split at hf
 ·rename_i xs M1 e1;refine ⟨L, σ, M, _, _, c, rs, e1, fun L1 H1 vs s1 c1 r1 => ?_⟩;refine hk c1 r1 hf fun L2 H2 u s2 c2 r2 => ?_;exact q L2 H2 u (s1.trans s2) c2 (r2.back s1 c s2.sub)
 ·cases hf
theorem zCh.one {H0 : Hp} {L : List Addr} {H : Hp} {x : EV} {vs : List V} (h : zCh H0 L H [x] vs) : ∃ v, vs = [v] /\ zm H0 L H x v := by
 obtain ⟨v, r, rfl, h1, h2⟩ := h;unfold zCh at h2;subst h2;exact ⟨v, rfl, h1⟩
def zBp : KB := fun xs M => match xs with
 | [x] => match zBK M x with
  | some ys => some (.dat (.int ys.length), M)
  | none => none
 | _ => none
theorem zPc : zGm X.K (fun xs H Q => ∃ p ys, xs = [.ref p] /\ (SqL X.K H p ys \/ SqT X.K H p ys) /\ Q (.int ys.length) H) zBp := by
 intro L M M' H H0 xs d vs Q c r hk q;unfold zBp at hk;split at hk
 ·rename_i x;split at hk
  ·rename_i ys e1;cases hk;obtain ⟨v, rfl, r1⟩ := r.one;obtain ⟨a, ws, rfl, hs, r2⟩ := zLE c r1 e1;refine ⟨a, ws, rfl, hs, q L H _ (.refl L H) c ?_⟩;rw [r2.length]; exact (zAs (L := L) (H := H))
  ·cases hk
 ·cases hk
theorem zEc {x : Str} {p : Pos} {id : String} {r : List V -> Hp -> VK -> Prop} {k : KB} {f : FAE} (hk : zGm X.K r k) (hc : zCJ X (.builtin id) r) (hv : bootBuiltins x = some (.builtin id)) (hg : Gl X x) (hm : X.mg x = none) (ha : QAE X (e :: es) f) (hn : x ≠ "__name__" := by decide) (hdb : (x == ("__debug__" : Str)) = false := by decide)
  (he : starEach (e :: es) X.env = (false, eval e X.env) :: starEach es X.env := by rfl) (hpl : (backTo pos (starEach es X.env)).any (·.1) = false := by rfl) : QE X (.Call (.Name x p) (e :: es) [] pos) (fB k f) :=
 .mk <| PE.imp (zIu hc hg hm hv ha.un hn hdb he hpl) fun _ _ _ h => zNR hk h
theorem zJg {x : Str} {p : Pos} {T : String} {r : List V -> Hp -> VK -> Prop} {k : KB} {f : FAE} (hk : zGm X.K r k) (hc : zCJ X (.type T) r) (hv : bootBuiltins x = some (.type T)) (hg : Gl X x) (hm : X.mg x = none) (ha : QAE X (e :: es) f) (hn : x ≠ "__name__" := by decide) (hdb : (x == ("__debug__" : Str)) = false := by decide)
  (he : starEach (e :: es) X.env = (false, eval e X.env) :: starEach es X.env := by rfl) (hpl : (backTo pos (starEach es X.env)).any (·.1) = false := by rfl) : QE X (.Call (.Name x p) (e :: es) [] pos) (fB k f) :=
 .mk <| PE.imp (zC0 hc hg hm hv ha.un hn hdb he hpl) fun _ _ _ h => zNR hk h
def zBb : KB := fun xs M => match xs with
 | [x] => match zBK M x with
  | some ys => some (.dat (.tup ys), M)
  | none => none
 | _ => none
theorem zL4 : zGm X.K (fun xs H Q => ∃ p ys, xs = [.ref p] /\ ((SqL X.K H p ys /\ ∀ l, H l = none -> Q (.ref l) (upd H l (.tup ys))) \/ (SqT X.K H p ys /\ Q (.ref p) H))) zBb := by
 intro L M M' H H0 xs d vs Q c r hk q;unfold zBb at hk;split at hk
 ·rename_i x;split at hk
  ·rename_i ys e1;cases hk;obtain ⟨v, rfl, r1⟩ := r.one;unfold zBK at e1;cases t : zCO x with
   | some zs =>
    rw [t] at e1; cases e1;obtain ⟨a, ws, rfl, e2, r2⟩ := zB8 r1 t;refine ⟨a, ws, rfl, .inr ⟨.of e2, q L H _ (.refl L H) c ?_⟩⟩;unfold zm Rep;exact ⟨a, ws, rfl, e2, r2⟩
   | none =>
    rw [t] at e1;obtain ⟨a, ws, rfl, e2, r2⟩ := zBd c r1 e1;refine ⟨a, ws, rfl, .inl ⟨.inl e2, fun p hp => ?_⟩⟩;exact q L _ _ (.upd hp) (c.upd hp) (Rep.newTup hp r2)
  ·cases hk
 ·cases hk
end
inductive Out where
 | nx | ret (d : D) | brk | cnt
abbrev FS := Sd -> Mem -> Option (Out × Sd × Mem)
def zRw (E : Ends) (L : List Addr) (H : Hp) (σ : Sd) : Out -> Prop
 | .nx => ∀ τ, zBW L H σ τ -> E.nx τ H
 | .ret d => ∀ v, Rep L H d v -> E.rt v H
 | .brk => ∀ τ, zBW L H σ τ -> E.bk τ H
 | .cnt => ∀ τ, zBW L H σ τ -> E.ct τ H
def trS (K : PySem.W.Frag) (f : FS) : TS := fun E τ H => ∃ L σ M o σ' M', Cor K L M H /\ zBW L H σ τ /\ f σ M = some (o, σ', M') /\ ∀ L' H', Stp L H L' H' -> Cor K L' M' H' -> zRw E L' H' σ' o
structure QS (X : Cx) (st : Stmt) (f : FS) : Prop where
 un : PS X st (trS X.K f)
structure QSs (X : Cx) (st : List Stmt) (f : FS) : Prop where
 un : PSs X st (trS X.K f)
theorem zBW.set (h : zBW L H σ τ) (r : Rep L H d v) : zBW L H (σ.set i (some d)) (τ.set i (some v)) := by
 refine ⟨by simp [h.1], fun j e q => ?_⟩;rw [zUT] at q ⊢;split at q
 ·rename_i z;subst z;split at q
  ·rename_i hl;cases q;rw [zS3 rfl, zS3 (by rw [h.1]; exact hl)];exact ⟨v, rfl, r⟩
  ·cases q
 ·rename_i z;rw [zS6 z];exact h.2 j e q
theorem zJY {K : PySem.W.Frag} {f : FE} {τ : Sv} {H : Hp} {Q : VK} (h : trD K (toD f) τ H Q) : trE K f τ H Q := by
 obtain ⟨L, σ, M, d, M', c, rs, hf, q⟩ := h;unfold toD at hf;split at hf
 ·rename_i d' M1 e1;cases hf;exact ⟨L, σ, M, _, _, c, rs, e1, fun L' H' v s c' r => q L' H' v s c' r⟩
 ·rename_i xs M1 e1;cases hf;refine ⟨L, σ, M, _, _, c, rs, e1, fun L' H' v s c' r => ?_⟩;obtain ⟨p, vs, rfl, e0, e2, e3, r⟩ := r;obtain ⟨c2, s2⟩ := zP4 s c' e0 e2 e3 r;exact q _ H' _ s2 c2 (Rep.last c')
 ·cases hf
def zBB : FS := fun σ M => some (.nx, σ, M)
def za (f g : FS) : FS := fun σ M => match f σ M with
 | some (.nx, σ1, M1) => g σ1 M1
 | r => r
def sIf (c : FT) (f g : FS) : FS := fun σ M => match c σ M with
 | some (true, M1) => f σ M1
 | some (false, M1) => g σ M1
 | none => none
def zAp (f : FE) : FS := fun σ M => match toD f σ M with
 | some (d, M1) => some (.ret d, σ, M1)
 | none => none
def zAK (i : Nat) (f : FE) : FS := fun σ M => match toD f σ M with
 | some (d, M1) => some (.nx, σ.set i (some d), M1)
 | none => none
def zAi (f : FE) : FS := fun σ M => match f σ M with
 | some (_, M1) => some (.nx, σ, M1)
 | none => none
section
variable {X : Cx} {st : Stmt} {rest : List Stmt} {e c : Expr} {pos : Pos}
theorem zAq : QSs X [] zBB := .mk <| PSs.imp zOY fun E τ H ⟨L, σ, M, o, σ', M', c, rs, hf, q⟩ => by
 unfold zBB at hf;cases hf;exact q L H (.refl L H) c τ rs
theorem zQ (h1 : QS X st f) (h2 : QSs X rest g) : QSs X (st :: rest) (za f g) := .mk <| PSs.imp (zMz h1.un h2.un) fun E τ H ⟨L, σ, M, o, σ', M', c, rs, hf, q⟩ => by
 unfold za at hf;split at hf
 ·rename_i σ1 M1 e1;refine ⟨L, σ, M, _, _, _, c, rs, e1, fun L1 H1 s1 c1 τ1 r1 => ⟨L1, σ1, M1, _, _, _, c1, r1, hf, fun L2 H2 s2 c2 => q L2 H2 (s1.trans s2) c2⟩⟩
 ·rename_i hne;refine ⟨L, σ, M, _, _, _, c, rs, hf, fun L1 H1 s1 c1 => ?_⟩;have z := q L1 H1 s1 c1;cases o with
  | nx => exact absurd hf (hne σ' M')
  | ret d => exact z
  | brk => exact z
  | cnt => exact z
theorem zb (h1 : QS X st f) : QSs X [st] f := .mk <| PSs.imp (zPA h1.un) fun _ _ _ h => h
theorem zCy (hc : QT X c fc) (ha : QSs X a f) (hb : QSs X b g) : QS X (.If c a b pos) (sIf fc f g) := .mk <| PS.imp (zSD hc.un ha.un hb.un) fun E τ H ⟨L, σ, M, o, σ', M', c, rs, hf, q⟩ => by
 unfold sIf at hf;split at hf
 ·rename_i M1 e1;refine ⟨L, σ, M, _, _, c, rs, e1, fun L1 H1 s1 c1 => ?_⟩;exact zGq ⟨L1, σ, M1, _, _, _, c1, rs.stp s1, hf, fun L2 H2 s2 c2 => q L2 H2 (s1.trans s2) c2⟩
 ·rename_i M1 e1;refine ⟨L, σ, M, _, _, c, rs, e1, fun L1 H1 s1 c1 => ?_⟩;exact zG1 ⟨L1, σ, M1, _, _, _, c1, rs.stp s1, hf, fun L2 H2 s2 c2 => q L2 H2 (s1.trans s2) c2⟩
 ·cases hf
theorem zAW (h : QE X e f) : QS X (.Return (some e) pos) (zAp f) := .mk <| PS.imp (zQU (zN h).un) fun E τ H ⟨L, σ, M, o, σ', M', c, rs, hf, q⟩ => by
 unfold zAp at hf;split at hf
 ·rename_i d M1 e1;cases hf;exact ⟨L, σ, M, _, _, c, rs, e1, fun L1 H1 v s1 c1 r1 => q L1 H1 s1 c1 v r1⟩
 ·cases hf
theorem zGX {K : PySem.W.Frag} {i : Nat} {f : FE} {t : TE} (ht : ∀ τ H Q, trE K f τ H Q -> t τ H Q) {E : Ends} {τ : Sv} {H : Hp} (h : trS K (zAK i f) E τ H) : zMd t (zDM i) E τ H := by
 obtain ⟨L, σ, M, o, σ', M', c, rs, hf, q⟩ := h;unfold zAK at hf;split at hf
 ·rename_i d M1 e1;cases hf;exact ht _ _ _ (zJY ⟨L, σ, M, _, _, c, rs, e1, fun L1 H1 v s1 c1 r1 => q L1 H1 s1 c1 _ ((rs.stp s1).set r1)⟩)
 ·cases hf
theorem zRY {i : Nat} {x : Str} {f : FE} {pos' : Pos} (hN : X.N.Nodup) (hi : X.N[i]? = some x) (hx : Loc X.env.scope x) (h : QE X e f) (hs : swapsWith e (some (.Name x pos')) pos.line X.env = pure false := by rfl)
  (hf : X.fn x = true \/ X.env.scope.names.lookup x = some .local := by first | exact .inl rfl | exact .inr rfl | assumption) : QS X (.Assign [.Name x pos'] e pos) (zAK i f) :=
 .mk <| PS.imp (zQs hN hi hx h.un hs hf) fun _ _ _ z => zGX (fun _ _ _ z => z) z
theorem zDd (h : QE X e f) (hs : swapsWith e none pos.line X.env = pure false := by rfl) : QS X (.Expr e pos) (zAi f) := .mk <| PS.imp (zPo h.un hs) fun E τ H ⟨L, σ, M, o, σ', M', c, rs, hf, q⟩ => by
 unfold zAi at hf;split at hf
 ·rename_i d M1 e1;cases hf;exact ⟨L, σ, M, _, _, c, rs, e1, fun L1 H1 v s1 c1 r1 => q L1 H1 s1 c1 τ (rs.stp s1)⟩
 ·cases hf
abbrev FG := D -> Sd -> Option Sd
def GOk (g : TG) (fg : FG) : Prop := ∀ {L : List Addr} {H : Hp} {σ σ' : Sd} {τ : Sv} {d : D} {v : V} {Q : Sv -> Hp -> Prop}, zBW L H σ τ -> Rep L H d v -> fg d σ = some σ' -> (∀ τ', zBW L H σ' τ' -> Q τ' H) -> g v τ H Q
def gN (i : Nat) : FG := fun d σ => some (σ.set i (some d))
theorem zAv : GOk (zDM i) (gN i) := by
 intro L H σ σ' τ d v Q rs r hf q;unfold gN at hf;cases hf;exact q _ (rs.set r)
abbrev FI := Sd -> Mem -> Option (List D × Option (Mem -> Prop) × Mem)
def zA3 (g : Option (Mem -> Prop)) (xs : List D) (M : Mem) : Prop := match g with
 | none => True
 | some p => p M
def zRr (K : PySem.W.Frag) (J : It) (L : List Addr) (H : Hp) (xs : List D) (g : Option (Mem -> Prop)) : Prop := ∀ L' H' M', Stp L H L' H' -> Cor K L' M' H' -> zA3 g xs M' ->
 (∀ (i : Nat) d, xs[i]? = some d -> J.go i H' /\ ∀ v H'', J.yld i H' v H'' -> (∀ a o, H' a = some o -> H'' a = some o) /\ Rep L' H'' d v) /\ J.stop xs.length H'
def trI (K : PySem.W.Frag) (f : FI) : TI := fun τ H R => ∃ L σ M xs g M', Cor K L M H /\ zBW L H σ τ /\ f σ M = some (xs, g, M') /\ ∀ L' H' J, Stp L H L' H' -> Cor K L' M' H' -> zRr K J L' H' xs g -> R J H'
structure QI (X : Cx) (tg e : Expr) (f : FI) : Prop where
 un : PI X tg e (trI X.K f)
theorem PI.imp (h : PI X tg e t) (hi : ∀ τ H R, t' τ H R -> t τ H R) : PI X tg e t' := fun zB s σ H R I q => h zB s σ H R I (hi _ _ _ q)
noncomputable def zCI (g : FG) (b : FS) (all : List D) (gd : Option (Mem -> Prop)) : List D -> Sd -> Mem -> Option (Out × Sd × Mem)
 | [], σ, M => open Classical in if zA3 gd all M then some (.nx, σ, M) else none
 | x :: r, σ, M => open Classical in if zA3 gd all M then match g x σ with
   | some σ1 => match b σ1 M with
    | some (.nx, σ2, M2) => zCI g b all gd r σ2 M2
    | some (.cnt, σ2, M2) => zCI g b all gd r σ2 M2
    | some (.brk, σ2, M2) => some (.nx, σ2, M2)
    | some (.ret d, σ2, M2) => some (.ret d, σ2, M2)
    | none => none
   | none => none
  else none
noncomputable def zB3 (fi : FI) (g : FG) (b : FS) : FS := fun σ M => match fi σ M with
 | some (xs, gd, M1) => zCI g b xs gd xs σ M1
 | none => none
theorem zCF {α : Type} {xs : List α} (h : i < xs.length) : xs.drop i = xs[i] :: xs.drop (i + 1) := List.drop_eq_getElem_cons h
theorem Stp.yld (s : Stp L H L' H') (h : ∀ a o, H' a = some o -> H'' a = some o) : Stp L H L' H'' := s.trans (.grow h)
theorem zNp {K : PySem.W.Frag} {fi : FI} {g : TG} {fg : FG} {b : FS} (hg : GOk g fg) {E : Ends} {τ : Sv} {H : Hp} (h : trS K (zB3 fi fg b) E τ H) : zSI (trI K fi) g (trS K b) E τ H := by
 obtain ⟨L, σ, M, o, σf, Mf, c, rs, hf, q⟩ := h;unfold zB3 at hf;split at hf
 ·rename_i xs gd M1 e1;refine ⟨L, σ, M, _, _, _, c, rs, e1, fun L1 H1 J s1 c1 it => ?_⟩
  refine ⟨fun i m τ' H' => m = xs.length - i /\ i <= xs.length /\ ∃ L' σ' M', Stp L1 H1 L' H' /\ Cor K L' M' H' /\ zBW L' H' σ' τ' /\ zCI fg b xs gd (xs.drop i) σ' M' = some (o, σf, Mf),
   ⟨xs.length, by simp, zTa _, L1, σ, M1, .refl _ _, c1, rs.stp s1, by simpa using hf⟩, ?_⟩
  rintro i m τ' H' ⟨rfl, hi, L', σ', M', s', c', rs', e'⟩;by_cases hlt : i < xs.length
  ·rw [zCF hlt] at e';unfold zCI at e';split at e'
   ·rename_i hgd;obtain ⟨step, _⟩ := it L' H' M' s' c' hgd;obtain ⟨go, yl⟩ := step i xs[i] (zSs hlt);cases eg : fg xs[i] σ' with
    | none => rw [eg] at e'; cases e'
    | some σ1 =>
     rw [eg] at e';dsimp only at e';refine .inr ⟨go, fun τ2 H2 => ∃ L2 σ2 M2, Stp L1 H1 L2 H2 /\ Cor K L2 M2 H2 /\ zBW L2 H2 σ2 τ2 /\ zCI fg b xs gd (xs.drop (i + 1)) σ2 M2 = some (o, σf, Mf), fun τ2 H2 ⟨L2, σ2, M2, a1, a2, a3, a4⟩ => ⟨xs.length - (i + 1), by omega, rfl, hlt, L2, σ2, M2, a1, a2, a3, a4⟩, fun v H2 hy => ?_⟩;obtain ⟨gr, rv⟩ := yl v H2 hy;refine hg (zBW.stp (.grow gr) rs') rv eg fun τ2 r2 => ?_;cases eb : b σ1 M' with
     | none => rw [eb] at e'; cases e'
     | some r =>
      obtain ⟨o2, σ2, M2⟩ := r;rw [eb] at e';refine ⟨L', σ1, M', _, _, _, c'.grow gr, r2, eb, fun L3 H3 s3 c3 => ?_⟩;have s13 : Stp L1 H1 L3 H3 := (s'.yld gr).trans s3;cases o2 with
      | nx => exact fun τ3 r3 => ⟨L3, σ2, M2, s13, c3, r3, e'⟩
      | cnt => exact fun τ3 r3 => ⟨L3, σ2, M2, s13, c3, r3, e'⟩
      | brk => cases e'; exact q L3 H3 (s1.trans s13) c3
      | ret d => cases e'; exact q L3 H3 (s1.trans s13) c3
   ·cases e'
  ·have hi' : i = xs.length := by omega
   subst hi';rw [List.drop_length] at e';unfold zCI at e';split at e'
   ·rename_i hgd;cases e';obtain ⟨_, stop⟩ := it L' H' _ s' c' hgd;exact .inl ⟨stop, q L' H' (s1.trans s') c' τ' rs'⟩
   ·cases e'
 ·cases hf
theorem zDP (hg : GOk g fg) (hp : PassesOwn (model X.prog X.w) X.A X.env X.xe) (hc : X.calm = true) (hi : QI X tg iter fi) (ht : PG X tg g) (hb : QSs X body b)
  (hs : ∀ x, foldedSetIterable iter X.env x = pure x := by intro _; rfl) : QS X (.For tg iter body [] pos) (zB3 fi fg b) := .mk <| PS.imp (zQR hp hc hi.un ht hb.un hs) fun _ _ _ h => zNp hg h
end
section
variable {X : Cx} {e c iter tg elt : Expr} {pos : Pos} {scope : Scope} {ifs : List Expr}
def zBJ (c : FT) (b : FS) : Nat -> Sd -> Mem -> Option (Out × Sd × Mem)
 | 0, _, _ => none
 | n + 1, σ, M => match c σ M with
  | some (true, M1) => match b σ M1 with
   | some (.nx, σ2, M2) => zBJ c b n σ2 M2
   | some (.cnt, σ2, M2) => zBJ c b n σ2 M2
   | some (.brk, σ2, M2) => some (.nx, σ2, M2)
   | some (.ret d, σ2, M2) => some (.ret d, σ2, M2)
   | none => none
  | some (false, M1) => some (.nx, σ, M1)
  | none => none
theorem zJu {K : PySem.W.Frag} {fc : FT} {b : FS} {n : Nat} {E : Ends} {τ : Sv} {H : Hp} (h : trS K (zBJ fc b n) E τ H) : zOE (trT K fc) (trS K b) E τ H := by
 obtain ⟨L, σ, M, o, σf, Mf, c, rs, hf, q⟩ := h;refine ⟨fun m τ' H' => ∃ L' σ' M', Stp L H L' H' /\ Cor K L' M' H' /\ zBW L' H' σ' τ' /\ zBJ fc b m σ' M' = some (o, σf, Mf), ⟨n, L, σ, M, .refl _ _, c, rs, hf⟩, ?_⟩;rintro m τ' H' ⟨L', σ', M', s', c', rs', e'⟩;cases m with
 | zero => unfold zBJ at e'; cases e'
 | succ m =>
  unfold zBJ at e';split at e'
  ·rename_i M1 e1;refine ⟨L', σ', M', _, _, c', rs', e1, fun L1 H1 s1 c1 => zGq ?_⟩;refine ⟨fun τ2 H2 => ∃ L2 σ2 M2, Stp L H L2 H2 /\ Cor K L2 M2 H2 /\ zBW L2 H2 σ2 τ2 /\ zBJ fc b m σ2 M2 = some (o, σf, Mf), fun τ2 H2 h2 => ⟨m, zTl m, h2⟩, ?_⟩;cases eb : b σ' M1 with
   | none => rw [eb] at e'; cases e'
   | some r =>
    obtain ⟨o2, σ2, M2⟩ := r;rw [eb] at e';refine ⟨L1, σ', M1, _, _, _, c1, rs'.stp s1, eb, fun L3 H3 s3 c3 => ?_⟩;have s13 : Stp L H L3 H3 := (s'.trans s1).trans s3;cases o2 with
    | nx => exact fun τ3 r3 => ⟨L3, σ2, M2, s13, c3, r3, e'⟩
    | cnt => exact fun τ3 r3 => ⟨L3, σ2, M2, s13, c3, r3, e'⟩
    | brk => cases e'; exact q L3 H3 s13 c3
    | ret d => cases e'; exact q L3 H3 s13 c3
  ·rename_i M1 e1;cases e';exact ⟨L', _, M', _, _, c', rs', e1, fun L1 H1 s1 c1 => zG1 (q L1 H1 (s'.trans s1) c1 τ' (rs'.stp s1))⟩
  ·cases e'
theorem zIf (n : Nat) (hp : PassesOwn (model X.prog X.w) X.A X.env X.xe) (hc : QT X c fc) (hb : QSs X body b) : QS X (.While c body [] pos) (zBJ fc b n) :=
 .mk <| PS.imp (zN8 hp hc.un hb.un) fun _ _ _ h => zJu h
def zB4 (own : List Nat) (σ : Sd) : Sd := own.foldl (fun σ i => σ.set i none) σ
theorem zDw : ∀ (own : List Nat) {σ : Sd} {τ : Sv}, zBW L H σ τ -> zBW L H (zB4 own σ) (clr own τ)
 | [], _, _, h => h
 | i :: r, σ, τ, h => by
  refine zDw r (σ := σ.set i none) (τ := τ.set i none) ⟨by simp [h.1], fun j d q => ?_⟩;rw [zUT] at q ⊢;split at q
  ·split at q <;> cases q
  ·rename_i z;rw [zS6 z];exact h.2 j d q
noncomputable def zAx (g : FG) (tc : FT) (te : FE) (σ : Sd) (all : List D) (gd : Option (Mem -> Prop)) : List D -> Mem -> Option (List D × Mem)
 | [], M => open Classical in if zA3 gd all M then some ([], M) else none
 | x :: r, M => open Classical in if zA3 gd all M then match g x σ with
   | some σ1 => match tc σ1 M with
    | some (true, M1) => match toD te σ1 M1 with
     | some (d, M2) => match zAx g tc te σ all gd r M2 with
      | some (ds, M3) => some (d :: ds, M3)
      | none => none
     | none => none
    | some (false, M1) => zAx g tc te σ all gd r M1
    | none => none
   | none => none
  else none
noncomputable def zAQ (own : List Nat) (fi : FI) (g : FG) (tc : FT) (te : FE) : FE := fun σ M => match fi σ M with
 | some (xs, gd, M1) => if xs.length <= sizeLine then match zAx g tc te (zB4 own σ) xs gd xs M1 with
   | some (ys, M2) => some (.fl ys, M2)
   | none => none
  else none
 | none => none
def zE0 (own : List Nat) (g : TG) (fg : FG) : Prop := ∀ {L : List Addr} {H : Hp} {σ σ' : Sd} {τ τ0 : Sv} {d : D} {v : V} {Q : Sv -> Hp -> Prop}, zBW L H σ τ -> Ext (clr own τ0) τ -> Rep L H d v -> fg d σ = some σ' -> (∀ τ', zBW L H σ' τ' -> Ext (clr own τ0) τ' -> Q τ' H) -> g v τ H Q
theorem zt (hi : i ∈ own) : zE0 own (zDM i) (gN i) := by
 intro L H σ σ' τ τ0 d v Q rs ex r hf q;unfold gN at hf;cases hf;exact q _ (rs.set r) (ex.set hi)
theorem zHa {K : PySem.W.Frag} {own : List Nat} {fi : FI} {g : TG} {fg : FG} {tc : FT} {te : FE} (hg : zE0 own g fg) {τ : Sv} {H : Hp} {Q : VK} (h : trE K (zAQ own fi fg tc te) τ H Q) : zNJ own (trI K fi) g (trT K tc) (trD K (toD te)) τ H Q := by
 obtain ⟨L, σ, M, d, Mf, c, rs, hf, q⟩ := h;unfold zAQ at hf;split at hf
 ·rename_i xs gd M1 e1;split at hf
  ·rename_i hz;split at hf
   ·rename_i zs M2 e2;cases hf;refine ⟨L, σ, M, _, _, _, c, rs, e1, fun L1 H1 J s1 c1 it => ?_⟩
    refine ⟨fun i m ys H' => m = xs.length - i /\ i <= xs.length /\ ∃ L' M' as bs, Stp L1 H1 L' H' /\ Cor K L' M' H' /\ zW L' H' as ys /\ as.length <= i /\ zAx fg tc te (zB4 own σ) xs gd (xs.drop i) M' = some (bs, Mf) /\ as ++ bs = zs,
     ⟨xs.length, by simp, zTa _, L1, M1, [], zs, .refl _ _, c1, .nil, zSu _, by simpa using e2, rfl⟩, ?_⟩
    rintro i m ys H' ⟨rfl, hi, L', M', as, bs, s', c', r', hl, e', hab⟩;have hys : ys.length <= i := by rw [r'.length]; exact hl
    by_cases hlt : i < xs.length
    ·rw [zCF hlt] at e';unfold zAx at e';split at e'
     ·rename_i hgd;obtain ⟨step, _⟩ := it L' H' M' s' c' hgd;obtain ⟨go, yl⟩ := step i xs[i] (zSs hlt);split at e'
      ·rename_i σ1 eg;refine .inr ⟨go, fun v H2 hy => ?_⟩;obtain ⟨gr, rv⟩ := yl v H2 hy;have s2 : Stp L1 H1 L' H2 := s'.yld gr;refine hg (zDw own ((rs.stp s1).stp s2)) (.refl _) rv eg fun τ2 r2 x2 => ⟨x2, ?_⟩;split at e'
       ·rename_i M3 e3;split at e'
        ·rename_i d M4 e4;split at e'
         ·rename_i ds M5 e5;cases e';refine ⟨L', σ1, M', _, _, c'.grow gr, r2, e3, fun L3 H3 s3 c3 => zGq ?_⟩;refine ⟨L3, σ1, M3, _, _, c3, r2.stp s3, e4, fun L4 H4 w s4 c4 r4 => ?_⟩;have st : Stp L' H' L4 H4 := ((Stp.grow gr).trans s3).trans s4;refine ⟨Nat.lt_of_le_of_lt hys (zTD hlt hz), xs.length - (i + 1), by omega, rfl, hlt, L4, M4, as ++ [d], ds, s'.trans st, c4, (r'.stp st).app (.cons r4 .nil), by simp; omega, e5, by rw [<- hab]; simp⟩
         ·cases e'
        ·cases e'
       ·rename_i M3 e3;refine ⟨L', σ1, M', _, _, c'.grow gr, r2, e3, fun L3 H3 s3 c3 => zG1 ?_⟩;have st : Stp L' H' L3 H3 := (Stp.grow gr).trans s3;exact ⟨xs.length - (i + 1), by omega, rfl, hlt, L3, M3, as, bs, s'.trans st, c3, r'.stp st, by omega, e', hab⟩
       ·cases e'
      ·cases e'
     ·cases e'
    ·have hi' : i = xs.length := by omega
     subst hi';rw [List.drop_length] at e';unfold zAx at e';split at e'
     ·rename_i hgd;cases e';obtain ⟨_, stop⟩ := it L' H' _ s' c' hgd;refine .inl ⟨stop, zTF hys hz, fun p hp => ?_⟩;rw [zTY] at hab;subst hab;exact q L' _ _ ((s1.trans s').trans (.upd hp)) (c'.upd hp) (zm.newLst (s1.trans s') c c' hp r')
     ·cases e'
   ·cases hf
  ·cases hf
 ·cases hf
structure QIfs (X : Cx) (ifs : List Expr) (f : FT) : Prop where
 un : zFY X ifs (trT X.K f)
def zAO : FT := fun _ M => some (true, M)
theorem zA8 : QIfs X [] zAO := .mk fun zB s σ H Q I h => by
 obtain ⟨L, σ', M, d, M', c, rs, hf, q⟩ := h;unfold zAO at hf;cases hf;exact zNg zB s σ H Q I (q L H (.refl L H) c)
theorem zHt (h : QT X c f) : QIfs X [c] f := .mk (zOU h.un)
structure QParts (X : Cx) (scope : Scope) (tg : Expr) (ifs : List Expr) (elt : Expr) (g : TG) (tc : FT) (te : FE) : Prop where
 g : ∀ zB cl s H fp, PG (zO X zB scope cl s H fp) tg g
 c : ∀ zB cl s H fp, QIfs (zO X zB scope cl s H fp) ifs tc
 e : ∀ zB cl s H fp, QE (zO X zB scope cl s H fp) elt te
theorem QParts.parts {g : TG} {tc : FT} {te : FE} (p : QParts X scope tg ifs elt g tc te) : CompParts X scope tg ifs elt g (trT X.K tc) (trD X.K (toD te)) :=
 ⟨p.g, fun zB cl s H fp => (p.c zB cl s H fp).un, fun zB cl s H fp => (zN (p.e zB cl s H fp)).un⟩
theorem zBT (hg : zE0 own g fg) (C : CompIn X scope own) (hcalm : X.calm = true) (hi : QI X tg iter fi) (p : QParts X scope tg ifs elt g tc te) (hs : ∀ x, foldedSetIterable iter X.env x = pure x := by intro _; rfl) :
  QE X (.ListComp elt [⟨tg, iter, ifs, 0⟩] scope pos) (zAQ own fi fg tc te) := .mk <| PE.imp (zOc C hcalm hi.un p.parts hs) fun _ _ _ h => zHa hg h
theorem zHD (hN : X.N.Nodup) (hi' : X.N[i]? = some x) (hx : Loc X.env.scope x) (hfn : X.fn x = true \/ X.env.scope.names.lookup x = some .local)
  (hsw : swapsWith (.ListComp elt [⟨tg, iter, ifs, 0⟩] scope pos) (some (.Name x pos')) pos''.line X.env = pure true)
  (hg : zE0 own g fg) (C : CompIn X scope own) (hcalm : X.calm = true) (hi : QI X tg iter fi) (p : QParts X scope tg ifs elt g tc te) (hs : ∀ x, foldedSetIterable iter X.env x = pure x := by intro _; rfl) :
  QS X (.Assign [.Name x pos'] (.ListComp elt [⟨tg, iter, ifs, 0⟩] scope pos) pos'') (zAK i (zAQ own fi fg tc te)) :=
 .mk <| PS.imp (zKY hN hi' hx hfn C hcalm hi.un p.parts hsw hs) fun _ _ _ z => zGX (fun _ _ _ z => zHa hg z) z
end
abbrev FF := List D -> Mem -> Option (D × Mem)
def spF (K : PySem.W.Frag) (n : Nat) (g : FF) : Sp := fun vs H Q _ => ∃ L ds M d M', Cor K L M H /\ zW L H ds vs /\ ds.length = n /\ g ds M = some (d, M') /\ ∀ L' H' v, Stp L H L' H' -> Cor K L' M' H' -> Rep L' H' d v -> Q v H'
def ze (g : FF) (fa : FA) : FE := fun σ M => match fa σ M with
 | some (ds, M1) => match g ds M1 with
  | some (d, M2) => some (.dat d, M2)
  | none => none
 | none => none
section
variable {X : Cx} {e : Expr} {es : List Expr} {pos p : Pos} {x : Str} {k : Nat} {f : Addr} {fd : FuncData} {ps : List Str}
theorem zQ3 (F : FnOk X.prog X.w X.K X.mg X.base CX0 k f fd ps (spF X.K (e :: es).length g)) (hr : Room k X.A) (hg : Gl X x) (hm : X.mg x = some (.ref f)) (hk : PySem.W.keepIn X.K (.ref f) = true) (hb : zF6 X.K fd ps [])
  (ha : QA X (e :: es) fa) (hl : ∀ σ M ds M1, fa σ M = some (ds, M1) -> ds.length = (e :: es).length) (hdb : (x == ("__debug__" : Str)) = false := by decide) (he : starEach (e :: es) X.env = (false, eval e X.env) :: starEach es X.env := by rfl) (hpl : (backTo pos (starEach es X.env)).any (·.1) = false := by rfl) :
  QE X (.Call (.Name x p) (e :: es) [] pos) (ze g fa) :=
 .mk <| PE.imp (zO0 F hr hg hm hk hb .nil zSB ha.un hdb he hpl) fun τ H Q ⟨L, σ, M, d, M', c, rs, hf, q⟩ => by
  unfold ze at hf;split at hf
  ·rename_i ds M1 e1;split at hf
   ·rename_i d' M2 e2;cases hf;refine ⟨L, σ, M, _, _, c, rs, e1, fun L1 H1 vs s1 c1 r1 => ?_⟩;dsimp only;rw [zTY];exact ⟨L1, ds, M1, d', _, c1, r1, hl _ _ _ _ e1, e2, fun L2 H2 v s2 c2 r2 => q L2 H2 v (s1.trans s2) c2 r2⟩
   ·cases hf
  ·cases hf
def zOh (fa : FA) (n : Nat) : Prop := ∀ σ M ds M1, fa σ M = some (ds, M1) -> ds.length = n
theorem zT : zOh zR 0 := fun σ M ds M1 h => by unfold zR at h; cases h; rfl
theorem zG {f : FD} {g : FA} {n : Nat} (h : zOh g n) : zOh (zH f g) (n + 1) := fun σ M ds M1 q => by
 unfold zH at q;split at q
 ·split at q
  ·rename_i e2;cases q;simp [h _ _ _ _ e2]
  ·cases q
 ·cases q
def zCU (n : Nat) (b : FS) : FF := fun ds M => match b (ds.map some ++ List.replicate (n - ds.length) none) M with
 | some (.ret d, _, M') => some (d, M')
 | some (.nx, _, M') => some (.non, M')
 | _ => none
theorem zHb : ∀ {ds : List D} {vs : List V}, zW L H ds vs -> zBW L H (ds.map some ++ List.replicate (N.length - ds.length) none) (L2.zD7 N vs) := fun {ds vs} r => by
 unfold L2.zD7;have hl := r.length;refine ⟨by simp [hl], fun i d q => ?_⟩;by_cases hi : i < ds.length
 ·rw [zSv (by simpa using hi), zTB] at q;rw [zSv (by simpa [hl] using hi), zTB];cases e1 : ds[i]? with
  | none => rw [e1] at q; cases q
  | some d' =>
   rw [e1] at q; cases q;obtain ⟨v, e2, r2⟩ := r.get e1;exact ⟨v, by rw [e2]; rfl, r2⟩
 ·rw [zTy (by simpa using hi), List.getElem?_replicate] at q;split at q <;> cases q
theorem zA2 {P : Program} {w : World} {K : PySem.W.Frag} {mg : Str -> Option Value} {base : Heap} {qual : Str} {st : Stmt} {N : List Str} {b : FS} {n : Nat} (F : Fun K x qual st f fd) (S : FnScope N ps (zV st)) (hn : ps.length = n)
  (hb : ∀ (cdv : Value) (A : Around) (outer : List Env) (s : Shared) (H : Hp) (E : XK), Room k (A.deeper (envOfC qual (zV st) s.heap.objs.size f cdv)) -> QSs (zKE CX0 P w K mg base N qual (zV st) f cdv A outer s H E).nox (zCd st) b) :
  FnOk P w K mg base CX0 (k + 1) f fd ps (spF K n (zCU N.length b)) := by
 refine F.ok S (fun vs H Q E h => ?_) (fun cdv A outer s H vs Q E hr h => ⟨_, (hb cdv A outer s H E hr).un, ?_⟩)
 ·obtain ⟨L, ds, M, d, M', c, r, hl, _⟩ := h;rw [r.length, hl, hn]
 ·obtain ⟨L, ds, M, d, M', c, r, hl, hf, q⟩ := h;unfold zCU at hf;split at hf
  ·rename_i d' σ' M1 e1;cases hf;exact ⟨L, _, M, _, _, _, c, zHb r, e1, fun L1 H1 s1 c1 v r1 => q L1 H1 v s1 c1 r1⟩
  ·rename_i σ' M1 e1;cases hf;exact ⟨L, _, M, _, _, _, c, zHb r, e1, fun L1 H1 s1 c1 τ' r1 => q L1 H1 .non s1 c1 (by unfold Rep; rfl)⟩
  ·cases hf
mutual
def D.und (n : Nat) : D -> Bool
 | .tup ds => D.unds n ds
 | .ref k => decide (k < n)
 | _ => true
def D.unds (n : Nat) : List D -> Bool
 | [] => true
 | d :: ds => D.und n d && D.unds n ds
end
mutual
theorem Rep.less : ∀ {d : D} {v : V}, D.und L.length d = true -> Rep (L ++ N) H d v -> Rep L H d v
 | .non, _, _, h => by unfold Rep at h ⊢; exact h
 | .bl _, _, _, h => by unfold Rep at h ⊢; exact h
 | .int _, _, _, h => by unfold Rep at h ⊢; exact h
 | .str _, _, _, h => by unfold Rep at h ⊢; exact h
 | .tup ds, _, hb, h => by
  unfold D.und at hb;unfold Rep at h ⊢;obtain ⟨a, vs, rfl, e, r⟩ := h;exact ⟨a, vs, rfl, e, zW.less hb r⟩
 | .ref n, _, hb, h => by
  unfold D.und at hb;unfold Rep at h ⊢;obtain ⟨a, rfl, e⟩ := h;exact ⟨a, rfl, by rwa [zSv (zTk hb)] at e⟩
theorem zW.less : ∀ {ds : List D} {vs : List V}, D.unds L.length ds = true -> zW (L ++ N) H ds vs -> zW L H ds vs
 | [], _, _, h => by unfold zW at h ⊢; exact h
 | d :: ds, _, hb, h => by
  unfold D.unds at hb;rw [zTO] at hb;unfold zW at h ⊢;obtain ⟨v, r, rfl, h1, h2⟩ := h;exact ⟨v, r, rfl, Rep.less hb.1 h1, zW.less hb.2 h2⟩
end
theorem zBI.less {κ : Type} {kf : D -> Option κ} {L N : List Addr} {H : Hp} : ∀ {ps : List (D × D)} {vs : List (κ × V)}, (ps.all fun p => D.und L.length p.1 && D.und L.length p.2) = true -> zBI kf (L ++ N) H ps vs -> zBI kf L H ps vs
 | [], _, _, h => h
 | p :: r, _, hb, h => by
  rw [List.all_cons, zTO, zTO] at hb;obtain ⟨k, v, r', rfl, e, h1, h2⟩ := h;exact ⟨k, v, r', rfl, e, Rep.less hb.1.2 h1, zBI.less hb.2 h2⟩
def MO.und (n : Nat) : MO -> Bool
 | .lst xs => D.unds n xs
 | .fro xs => D.unds n xs
 | .dict kvs => kvs.all fun p => D.und n p.1 && D.und n p.2
 | .dicT kvs => kvs.all fun p => D.und n p.1 && D.und n p.2
 | .set xs => D.unds n xs
def zJc (g : FF) : FF := fun ds M => match g ds M with
 | some (d, M') => if D.und M.length d && (M'.take M.length).all (MO.und M.length) && decide (M.length <= M'.length) then some (d, M'.take M.length) else none
 | none => none
theorem zOz {P : Program} {w : World} {K : PySem.W.Frag} {mg : Str -> Option Value} {base : Heap} {n : Nat} {g : FF} (h : FnOk P w K mg base CX0 k f fd ps (spF K n g)) : FnOk P w K mg base CX0 k f fd ps (spF K n (zJc g)) :=
 h.imp fun vs H Q E ⟨L, ds, M, d, M', c, r, hl, hf, q⟩ => by
  unfold zJc at hf;split at hf
  ·rename_i d' M1 e1;split at hf
   ·rename_i hb;cases hf;simp only [zTO, zT6, zTP] at hb;obtain ⟨⟨hb1, hb2⟩, hb3⟩ := hb;refine ⟨L, ds, M, _, _, c, r, hl, e1, fun L1 H1 v s1 c1 r1 => ?_⟩;obtain ⟨N, rfl⟩ := s1.pre;rw [<- c.len] at hb1 hb2 hb3;refine q L H1 v ⟨⟨[], by simp⟩, fun a ha => .inl ha, s1.old, s1.tup, s1.frz⟩ ⟨?_, ?_, fun i a m e2 e3 => ?_⟩ (Rep.less hb1 r1)
    ·rw [zUH, <- c.len]; omega
    ·exact (zT7.mp c1.nd).1
    ·rw [<- c.len] at e3;have hi : i < L.length := (zSr.mp e2).1;have hm : m ∈ M1.take L.length := List.mem_of_getElem? e3;rw [List.getElem?_take_of_lt hi] at e3;have z := c1.obj i a m (zCC e2) e3;have bl := hb2 m hm;cases m with
     | lst xs => obtain ⟨ws, e4, r4⟩ := z; exact ⟨ws, e4, zW.less bl r4⟩
     | fro xs => obtain ⟨o, ws, e4, r4⟩ := z; exact ⟨o, ws, e4, zW.less bl r4⟩
     | dict ps => obtain ⟨vs, e, r⟩ := z; exact ⟨vs, e, zBI.less bl r⟩
     | dicT ps => obtain ⟨vs, e, r⟩ := z; exact ⟨vs, e, zBI.less bl r⟩
     | set _ => exact z.elim
   ·cases hf
  ·cases hf
def zFJ (g : FF) : FF := fun ds M => if D.unds 0 ds then match g ds [] with
  | some (d, _) => if D.und 0 d then some (d, M) else none
  | none => none
 else none
theorem zFi {P : Program} {w : World} {K : PySem.W.Frag} {mg : Str -> Option Value} {base : Heap} {n : Nat} {g : FF} (h : FnOk P w K mg base CX0 k f fd ps (spF K n g)) : FnOk P w K mg base CX0 k f fd ps (spF K n (zFJ g)) :=
 h.imp fun vs H Q E ⟨L, ds, M, d, M', c, r, hl, hf, q⟩ => by
  unfold zFJ at hf;split at hf
  ·rename_i hb0;split at hf
   ·rename_i d' M1 e1;split at hf
    ·rename_i hb;cases hf;refine ⟨[], ds, [], _, _, ⟨rfl, .nil, fun i a m e => by simp at e⟩, zW.less (L := []) (N := L) hb0 (by simpa using r), hl, e1, fun L1 H1 v s1 c1 r1 => ?_⟩;have gr : ∀ a o, H a = some o -> H1 a = some o := fun a o e => s1.old a o e (by simp);exact q L H1 v (.grow gr) (c.grow gr) ((Rep.less (L := []) (N := L1) hb (by simpa using r1)).more L |> fun z => by simpa using z)
    ·cases hf
   ·cases hf
  ·cases hf
theorem zQL (hl : PE X l tl) : PI X tg l (fun σ H R => tl σ H fun x H1 => ∃ a, x = .ref a /\ ((∃ xs, SqL X.K H1 a xs) /\ R (Itl X.K a) H1 \/ (∃ xs, SqT X.K H1 a xs) /\ R (Itt X.K a) H1)) := by
 intro zB s σ H R I h;refine thn (hl zB s σ H _ I h) fun v s1 ⟨y, H1, I1, r1, a, hy, h1⟩ => ?_;subst hy;cases r1;have fpk : ∀ b ∈ [s1.heap.objs.size], zCP X zB H1 b := fun b hb => by
  have e : b = s1.heap.objs.size := by simpa using hb
  subst e;exact I1.fpOk (zSu _) (I1.hok.fresh (zSu _))
 rcases h1 with ⟨⟨xs, hq⟩, q⟩ | ⟨⟨xs, hq⟩, q⟩
 ·obtain ⟨its, rv, pl, hz⟩ := I1.list hq;exact wpAny_pyIter_list pl.isList ⟨s1.heap.objs.size, [s1.heap.objs.size], _, _, H1, rfl, I1.kept (t' := s1.toks) fun b o e => zSp _ e, zLU a _, ⟨_, zSy _ rfl, rfl, rfl⟩, fpk, q⟩
 ·obtain ⟨its, rv, pl, hz⟩ := I1.tuple hq;exact wpAny_pyIter_tuple (show s1.heap.IsTuple a its.toArray from pl) ⟨s1.heap.objs.size, [s1.heap.objs.size], _, _, H1, rfl, I1.kept (t' := s1.toks) fun b o e => zSp _ e, zJx a _, ⟨_, zSy _ rfl, rfl, rfl⟩, fpk, q⟩
def zEo (x : EV) (xs : List D) : Option (Mem -> Prop) := match x with
 | .dat (.ref n) => some fun M => M[n]? = some (.lst xs) \/ M[n]? = some (.fro xs)
 | _ => none
def zAg (f : FE) : FI := fun σ M => match f σ M with
 | some (x, M1) => match zBK M1 x with
  | some xs => some (xs, zEo x xs, M1)
  | none => none
 | none => none
def zAC (f : FA) : FI := fun σ M => match f σ M with
 | some ([.int j], M1) => if -(2 ^ 62) <= j /\ j < 2 ^ 62 then some ((List.range j.toNat).map fun (k : Nat) => D.int k, none, M1) else none
 | some ([.int i, .int j], M1) => if -(2 ^ 62) <= i /\ i < 2 ^ 62 /\ -(2 ^ 62) <= j /\ j < 2 ^ 62 then some ((List.range (j - i).toNat).map fun (k : Nat) => D.int (i + k), none, M1) else none
 | _ => none
theorem zBG (h : QE X e g) : QI X tg e (zAg g) := .mk <| PI.imp (zQL h.un) fun τ H R ⟨L, σ, M, xs, gd, M', c, rs, hf, q⟩ => by
 unfold zAg at hf;split at hf
 ·rename_i y M1 e1;split at hf
  ·rename_i zs e2;cases hf;refine ⟨L, σ, M, _, _, c, rs, e1, fun L1 H1 v s1 c1 r1 => ?_⟩;unfold zBK at e2;cases t : zCO y with
   | some ws =>
    rw [t] at e2; cases e2;obtain ⟨a, vs, rfl, e3, r3⟩ := zB8 r1 t;refine ⟨a, rfl, .inr ⟨⟨vs, .of e3⟩, q L1 H1 _ s1 c1 fun L2 H2 M2 s2 c2 _ => ?_⟩⟩;have e4 := s2.tup a vs e3;have r4 := r3.stp s2;refine ⟨fun i d hd => ?_, ⟨vs, .of e4, by rw [r4.length]; exact zSu _⟩⟩;obtain ⟨u, hu, ru⟩ := r4.get hd;refine ⟨⟨vs, u, .of e4, hu⟩, fun v H3 ⟨hH, hv⟩ => ?_⟩;subst hH;have := hv vs (.of e4);rw [hu] at this; cases this;exact ⟨fun _ _ z => z, ru⟩
   | none =>
    rw [t] at e2;dsimp only at e2;obtain ⟨a, vs, rfl, e3, r3⟩ := zBd c1 r1 e2;refine ⟨a, rfl, .inl ⟨⟨vs, .inl e3⟩, q L1 H1 _ s1 c1 fun L2 H2 M2 s2 c2 hgd => ?_⟩⟩;have key : ∃ vs', SqL X.K H2 a vs' /\ zW L2 H2 xs vs' := by
     cases y with
     | fl ys =>
      cases e2;obtain ⟨p', vs', hp', _, e5, e6, r6⟩ := r1;cases hp';exact ⟨vs', .of (s2.old _ _ e5 e6), r6.stp s2⟩
     | dat d =>
      cases d with
      | ref n =>
       unfold zm Rep at r1;obtain ⟨a', ha', e5⟩ := r1;cases ha';have e6 : L2[n]? = some a := by obtain ⟨N, hN⟩ := s2.pre; rw [hN]; exact zCC e5
       rcases hgd with z | z
       ·obtain ⟨vs', e7, r7⟩ := c2.obj n a _ e6 z; exact ⟨vs', .of e7, r7⟩
       ·obtain ⟨o, vs', e7, r7⟩ := c2.obj n a _ e6 z; exact ⟨vs', .inl (.inr ⟨o, e7⟩), r7⟩
      | _ => cases e2
    obtain ⟨vs', hq, r7⟩ := key;refine ⟨fun i d hd => ?_, ⟨vs', hq, by rw [r7.length]; exact zSu _⟩⟩;obtain ⟨u, hu, ru⟩ := r7.get hd;refine ⟨⟨vs', u, hq, hu⟩, fun v H3 ⟨hH, hv⟩ => ?_⟩;subst hH;have := hv vs' hq;rw [hu] at this; cases this;exact ⟨fun _ _ z => z, ru⟩
  ·cases hf
 ·cases hf
theorem zHR (h : zW L H [.int j] vs) : vs = [.int j] := by
 unfold zW at h;obtain ⟨v, r, rfl, h1, h2⟩ := h;unfold zW at h2;unfold Rep at h1;subst h1 h2; rfl
theorem zM0 {K : PySem.W.Frag} {L : List Addr} {H : Hp} {lo : Int} {n : Nat} : zRr K (Itr lo n) L H ((List.range n).map fun (k : Nat) => D.int (lo + k)) none := by
 intro L' H' M' s c _;refine ⟨fun i d hd => ?_, by simp [Itr]⟩;rw [zTB] at hd;cases q : (List.range n)[i]? with
 | none => rw [q] at hd; cases hd
 | some k =>
  rw [q] at hd; cases hd;have hi : i < n := by have := (zSr.mp q).1; simpa using this
  rw [List.getElem?_range hi] at q; cases q;refine ⟨hi, fun v H'' ⟨hH, hv⟩ => ?_⟩;subst hH hv;exact ⟨fun _ _ z => z, zAs⟩
theorem zAB {tg a : Expr} {g : FA} (hg : Gl X "range") (hm : X.mg "range" = none) (ha : QA X [a] g) (hl : zOh g 1) (hs : starEach [a] X.env = [(false, eval a X.env)] := by rfl) : QI X tg (.Call (.Name "range" p) [a] [] pos) (zAC g) :=
 .mk <| PI.imp (zMP hg hm ha.un hs) fun τ H R ⟨L, σ, M, xs, gd, M', c, rs, hf, q⟩ => by
  unfold zAC at hf;split at hf
  ·rename_i j M1 e1;split at hf
   ·rename_i hb;cases hf;refine ⟨L, σ, M, _, _, c, rs, e1, fun L1 H1 vs s1 c1 r1 => ⟨j, zHR r1, hb.1, hb.2, q L1 H1 _ s1 c1 ?_⟩⟩;have z := zM0 (K := X.K) (L := L1) (H := H1) (lo := 0) (n := j.toNat);simpa using z
   ·cases hf
  ·rename_i e1;have := hl _ _ _ _ e1;simp at this
  ·cases hf
end
section
variable {X : Cx} {a b c e : Expr} {es rest : List Expr} {pos p apos cpos : Pos}
def zD8 (f g : FT) : FT := fun σ M => match f σ M with
 | some (true, M1) => g σ M1
 | r => r
def zIx (f g : FT) : FT := fun σ M => match f σ M with
 | some (false, M1) => g σ M1
 | r => r
def zFQ (f : FT) : FT := fun σ M => match f σ M with
 | some (k, M1) => some (!k, M1)
 | none => none
structure QW (X : Cx) (e : Expr) (f : FT) : Prop where
 un : PW X e (trT X.K f)
theorem PW.imp (h : PW X e t) (hi : ∀ τ H Q, t' τ H Q -> t τ H Q) : PW X e t' := fun wh zB s σ H Q I q => h wh zB s σ H Q I (hi _ _ _ q)
theorem zHw (h : QT X a f) : QW X (.BoolOp .And [a] pos) f := .mk (zPU h.un)
theorem zNT (h : QT X a f) : QW X (.BoolOp .Or [a] pos) f := .mk (zQ4 h.un)
theorem zJo (h1 : QT X a f) (h2 : QW X (.BoolOp .And (b :: rest) pos) g) : QW X (.BoolOp .And (a :: b :: rest) pos) (zD8 f g) := .mk <| PW.imp (zQJ h1.un h2.un) fun τ H Q ⟨L, σ, M, d, M', c, rs, hf, q⟩ => by
 unfold zD8 at hf;split at hf
 ·rename_i M1 e1;exact ⟨L, σ, M, _, _, c, rs, e1, fun L1 H1 s1 c1 => zGq ⟨L1, σ, M1, _, _, c1, rs.stp s1, hf, fun L2 H2 s2 c2 => q L2 H2 (s1.trans s2) c2⟩⟩
 ·rename_i hne;cases d with
  | true => exact absurd hf (hne M')
  | false => exact ⟨L, σ, M, _, _, c, rs, hf, fun L1 H1 s1 c1 => zG1 (q L1 H1 s1 c1)⟩
theorem zP1 (h1 : QT X a f) (h2 : QW X (.BoolOp .Or (b :: rest) pos) g) : QW X (.BoolOp .Or (a :: b :: rest) pos) (zIx f g) := .mk <| PW.imp (zRq h1.un h2.un) fun τ H Q ⟨L, σ, M, d, M', c, rs, hf, q⟩ => by
 unfold zIx at hf;split at hf
 ·rename_i M1 e1;exact ⟨L, σ, M, _, _, c, rs, e1, fun L1 H1 s1 c1 => zG1 ⟨L1, σ, M1, _, _, c1, rs.stp s1, hf, fun L2 H2 s2 c2 => q L2 H2 (s1.trans s2) c2⟩⟩
 ·rename_i hne;cases d with
  | false => exact absurd hf (hne M')
  | true => exact ⟨L, σ, M, _, _, c, rs, hf, fun L1 H1 s1 c1 => zGq (q L1 H1 s1 c1)⟩
theorem zM8 (h : QW X e f) : QT X e f := .mk (PW.pt h.un)
theorem zMw (h : QT X a f) : QT X (.UnaryOp .Not a pos) (zFQ f) := .mk <| PT.imp (zQW h.un) fun τ H Q ⟨L, σ, M, d, M', c, rs, hf, q⟩ => by
 unfold zFQ at hf;split at hf
 ·rename_i k M1 e1;cases hf;exact ⟨L, σ, M, _, _, c, rs, e1, fun L1 H1 s1 c1 => q L1 H1 s1 c1⟩
 ·cases hf
def zKJ (f g : FE) : FE := fun σ M => match f σ M with
 | some (.dat (.bl true), M1) => g σ M1
 | some (.dat (.bl false), M1) => some (.dat (.bl false), M1)
 | _ => none
def zOK (f : FE) : FE := fun σ M => match f σ M with
 | some (.dat (.bl k), M1) => some (.dat (.bl (!k)), M1)
 | _ => none
theorem zCv (h : zm H0 L H (.dat (.bl k)) v) : v = .bl k := by unfold zm Rep at h; exact h
theorem zNb {op} (h : QE X a f) : QE X (.BoolOp op [a] pos) f := .mk (zQz h.un)
theorem zKV (h1 : QE X a f) (h2 : QE X (.BoolOp .And (b :: rest) pos) g) : QE X (.BoolOp .And (a :: b :: rest) pos) (zKJ f g) := .mk <| PE.imp (zQp h1.un h2.un) fun τ H Q ⟨L, σ, M, d, M', c, rs, hf, q⟩ => by
 unfold zKJ at hf;split at hf
 ·rename_i M1 e1;exact ⟨L, σ, M, _, _, c, rs, e1, fun L1 H1 v s1 c1 r1 => ⟨true, zCv r1, zGq ⟨L1, σ, M1, _, _, c1, rs.stp s1, hf, fun L2 H2 w s2 c2 r2 => q L2 H2 w (s1.trans s2) c2 (r2.back s1 c s2.sub)⟩⟩⟩
 ·rename_i M1 e1;cases hf;exact ⟨L, σ, M, _, _, c, rs, e1, fun L1 H1 v s1 c1 r1 => ⟨false, zCv r1, zG1 (q L1 H1 _ s1 c1 (by have := zCv r1; subst this; exact r1))⟩⟩
 ·cases hf
theorem zQO (h : QE X a f) : QE X (.UnaryOp .Not a pos) (zOK f) := .mk <| PE.imp (zQu h.un) fun τ H Q ⟨L, σ, M, d, M', c, rs, hf, q⟩ => by
 unfold zOK at hf;split at hf
 ·rename_i k M1 e1;cases hf;exact ⟨L, σ, M, _, _, c, rs, e1, fun L1 H1 v s1 c1 r1 => ⟨k, zCv r1, q L1 H1 _ s1 c1 (by unfold zm Rep; rfl)⟩⟩
 ·cases hf
abbrev KM := EV -> List D -> Mem -> Option (D × Mem)
def fM (k : KM) (f : FE) (g : FA) : FE := fun σ M => match f σ M with
 | some (x, M1) => match zBj M1 x with
  | some _ => match g σ M1 with
   | some (ds, M2) => match k x ds M2 with
    | some (d, M3) => some (.dat d, M3)
    | none => none
   | none => none
  | none => none
 | none => none
def zN6 (K : PySem.W.Frag) (r : V -> List V -> Hp -> VK -> Prop) (k : KM) : Prop := ∀ {L : List Addr} {M M' : Mem} {H H0 : Hp} {x : EV} {ds : List D} {d : D} {v : V} {vs : List V} {Q : VK}, Cor K L M H -> zm H0 L H x v -> zW L H ds vs -> k x ds M = some (d, M') ->
 (∀ L' H' u, Stp L H L' H' -> Cor K L' M' H' -> Rep L' H' d u -> Q u H') -> r v vs H Q
theorem zH5 {K : PySem.W.Frag} {r : V -> List V -> Hp -> VK -> Prop} {k : KM} {f : FE} {g : FA} (hk : zN6 K r k) {τ : Sv} {H : Hp} {Q : VK} (h : trE K (fM k f g) τ H Q) : tBM K "list" r (trE K f) (trA K g) τ H Q := by
 obtain ⟨L, σ, M, d, M', c, rs, hf, q⟩ := h;unfold fM at hf;split at hf
 ·rename_i x M1 e1;split at hf
  ·rename_i xs e2;split at hf
   ·rename_i ds M2 e3;split at hf
    ·rename_i d' M3 e4;cases hf;refine ⟨L, σ, M, _, _, c, rs, e1, fun L1 H1 v s1 c1 r1 => ?_⟩;obtain ⟨a, vs, rfl, e5, r5⟩ := zBd c1 r1 e2;refine ⟨.inl ⟨rfl, vs, .inl e5⟩, L1, σ, M1, _, _, c1, rs.stp s1, e3, fun L2 H2 ws s2 c2 r2 => ?_⟩;exact hk c2 (r1.stp s2) r2 e4 fun L3 H3 u s3 c3 r3 => q L3 H3 u ((s1.trans s2).trans s3) c3 r3
    ·cases hf
   ·cases hf
  ·cases hf
 ·cases hf
def z0 : KM := fun x ds M => match x, ds with
 | .dat (.ref n), [d] => match M[n]? with
  | some (.lst xs) => if xs.length < sizeLine then some (.non, M.set n (.lst (xs ++ [d]))) else none
  | _ => none
 | _, _ => none
theorem zW.one (h : zW L H [d] vs) : ∃ v, vs = [v] /\ Rep L H d v := by
 unfold zW at h;obtain ⟨v, r, rfl, h1, h2⟩ := h;unfold zW at h2;subst h2;exact ⟨v, rfl, h1⟩
theorem zJz {K : PySem.W.Frag} : zN6 K zKk z0 := by
 intro L M M' H H0 x ds d v vs Q c rx rd hk q;unfold z0 at hk;split at hk
 ·rename_i n d';split at hk
  ·rename_i xs e1;split at hk
   ·rename_i hz;cases hk;unfold zm Rep at rx;obtain ⟨a, rfl, e2⟩ := rx;obtain ⟨ws, e3, r3⟩ := c.obj n a _ e2 e1;obtain ⟨w, rfl, r4⟩ := rd.one;obtain ⟨c5, s5⟩ := c.write e2 e1 (r3.app (.cons r4 .nil));exact ⟨a, ws, w, rfl, rfl, e3, by rw [r3.length]; exact hz, q L _ _ s5 c5 (by unfold Rep; rfl)⟩
   ·cases hk
  ·cases hk
 ·cases hk
theorem zDX (h : QE X a f) (hg : QA X [e] g) (hbase : attributeBase a "append" X.env (eval a X.env) = eval a X.env := by rfl)
  (hfew : ((backTo cpos (starEach [e] X.env)).all (fun x => !x.1) && (backToKw cpos (keywordEach [] X.env)).all (fun x => x.1.isSome) && decide ([e].length + ([] : List Keyword).length + (if ([] : List Keyword).isEmpty then 0 else 1) < 30)) = true := by rfl)
  (hline : (apos.endLine == cpos.line) = true := by rfl) (hs : starEach [e] X.env = (false, eval e X.env) :: starEach [] X.env := by rfl) (hplain : (backTo cpos (starEach [] X.env)).any (·.1) = false := by rfl) :
  QE X (.Call (.Attribute a "append" apos) [e] [] cpos) (fM z0 f g) :=
 .mk <| PE.imp (zKu PySem.F.plainAttrs_list PySem.F.slot_list_append PySem.F.type_list_append zMI h.un hg.un hbase hfew hline hs hplain) fun _ _ _ z => zH5 zJz z
def zJC : KM := fun x ds M => match x, ds with
 | .dat (.ref n), [.int i] => match M[n]? with
  | some (.lst xs) => match ixN xs.length i with
   | some k => match xs[k]? with
    | some d => if -(2 ^ 63) <= i /\ i < 2 ^ 63 then some (d, M.set n (.lst (xs.eraseIdx k))) else none
    | none => none
   | none => none
  | _ => none
 | _, _ => none
theorem zOg {K : PySem.W.Frag} : zN6 K zOG zJC := by
 intro L M M' H H0 x ds d v vs Q c rx rd hk q;unfold zJC at hk;split at hk
 ·rename_i n i;split at hk
  ·rename_i xs e1;split at hk
   ·rename_i k e2;split at hk
    ·rename_i d' e3;split at hk
     ·rename_i hb;cases hk;unfold zm Rep at rx;obtain ⟨a, rfl, e4⟩ := rx;obtain ⟨ws, e5, r5⟩ := c.obj n a _ e4 e1;obtain ⟨u, e6, r6⟩ := r5.get e3;obtain ⟨c5, s5⟩ := c.write e4 e1 (r5.eraseIdx k);exact ⟨a, ws, i, k, u, rfl, zHR rd, e5, hb.1, hb.2, by rw [r5.length]; exact (zIO e2).1, e6, q L _ _ s5 c5 (r6.stp s5)⟩
     ·cases hk
    ·cases hk
   ·cases hk
  ·cases hk
 ·cases hk
theorem zR0 (h : QE X a f) (hg : QA X [e] g) (hbase : attributeBase a "pop" X.env (eval a X.env) = eval a X.env := by rfl)
  (hfew : ((backTo cpos (starEach [e] X.env)).all (fun x => !x.1) && (backToKw cpos (keywordEach [] X.env)).all (fun x => x.1.isSome) && decide ([e].length + ([] : List Keyword).length + (if ([] : List Keyword).isEmpty then 0 else 1) < 30)) = true := by rfl)
  (hline : (apos.endLine == cpos.line) = true := by rfl) (hs : starEach [e] X.env = (false, eval e X.env) :: starEach [] X.env := by rfl) (hplain : (backTo cpos (starEach [] X.env)).any (·.1) = false := by rfl) :
  QE X (.Call (.Attribute a "pop" apos) [e] [] cpos) (fM zJC f g) :=
 .mk <| PE.imp (zKu PySem.F.plainAttrs_list PySem.F.slot_list_pop PySem.F.type_list_pop zM6 h.un hg.un hbase hfew hline hs hplain) fun _ _ _ z => zH5 zOg z
def zIl (x : EV) (i : D) (d : D) (M : Mem) : Option Mem := match x, i with
 | .dat (.ref n), .int i => match M[n]? with
  | some (.lst xs) => match ixN xs.length i with
   | some j => some (M.set n (.lst (xs.set j d)))
   | none => none
  | _ => none
 | _, _ => none
def zKN (fv fo fi : FE) : FS := fun σ M => match toD fv σ M with
 | some (d, M1) => match fo σ M1 with
  | some (x, M2) => match toD fi σ M2 with
   | some (i, M3) => match zIl x i d M3 with
    | some M4 => some (.nx, σ, M4)
    | none => none
   | none => none
  | none => none
 | none => none
theorem zGT (hv : QE X v fv) (ho : QE X o fo) (hi : QE X i fi)
  (ha : ∀ v, assign (.Subscript o i p) X.env v = (do
   let ov <- holding [v] (eval o X.env);let iv <- holding [v, ov] (eval i X.env);standAt p;holding [v, ov, iv] (setItem ov iv v);release [v, ov, iv] []) := by intro _; rfl)
  (hs : swapsWithSole [.Subscript o i p] v pos.line X.env = pure false := by rfl) (hw : swappedStores [.Subscript o i p] v X.env = pure none := by rfl) (h1 : (assignEach [.Subscript o i p] X.env).map (·.2) = [assign (.Subscript o i p) X.env] := by rfl) :
  QS X (.Assign [.Subscript o i p] v pos) (zKN fv fo fi) := .mk <| PS.imp (zMr (zN hv).un (zRA ho.un (zN hi).un zNz ha) hs hw h1) fun E τ H ⟨L, σ, M, out, σ', M', c, rs, hf, q⟩ => by
 unfold zKN at hf;split at hf
 ·rename_i d M1 e1;split at hf
  ·rename_i x M2 e2;split at hf
   ·rename_i j M3 e3;split at hf
    ·rename_i M4 e4;cases hf;refine ⟨L, σ, M, _, _, c, rs, e1, fun L1 H1 u s1 c1 r1 => ⟨L1, σ, M1, _, _, c1, rs.stp s1, e2, fun L2 H2 w s2 c2 r2 => ⟨L2, σ, M2, _, _, c2, rs.stp (s1.trans s2), e3, fun L3 H3 z s3 c3 r3 => ?_⟩⟩⟩;have st := (s1.trans s2).trans s3;unfold zIl at e4;split at e4
     ·rename_i n k;split at e4
      ·rename_i xs e5;split at e4
       ·rename_i m e6;cases e4;have r2' := r2.stp s3;unfold zm Rep at r2';obtain ⟨a, rfl, e7⟩ := r2';obtain ⟨ws, e8, r8⟩ := c3.obj n a _ e7 e5;obtain ⟨c9, s9⟩ := c3.write e7 e5 (zW.set ((r1.stp s2).stp s3) m r8);exact ⟨a, ws, k, m, rfl, by unfold Rep at r3; exact r3, e8, by rw [r8.length]; exact e6, q L3 _ (st.trans s9) c9 τ ((rs.stp st).stp s9)⟩
       ·cases e4
      ·cases e4
     ·cases e4
    ·cases hf
   ·cases hf
  ·cases hf
 ·cases hf
def zFK : D -> Option V
 | .non => some .non
 | .bl k => some (.bl k)
 | .int i => some (.int i)
 | .str x => some (.str x)
 | _ => none
theorem zEQ (h : Rep L H d v) (e : zFK d = some u) : v = u := by
 cases d with
 | non => cases e; unfold Rep at h; exact h
 | bl _ => cases e; unfold Rep at h; exact h
 | int _ => cases e; unfold Rep at h; exact h
 | str _ => cases e; unfold Rep at h; exact h
 | tup _ => cases e
 | ref _ => cases e
def zKG (neg : Bool) : K2 := fun x y M => match x, y with
 | .dat d, .dat d' => match zFK d, zFK d' with
  | some u, some w => if zOk u w then some (.dat (.bl (if neg then !decide (u = w) else decide (u = w))), M) else none
  | _, _ => none
 | _, _ => none
theorem zHd (h : zKG neg x y M = some (r, M')) : ∃ d d' u w, x = .dat d /\ y = .dat d' /\ zFK d = some u /\ zFK d' = some w /\ zOk u w = true /\ r = .dat (.bl (if neg then !decide (u = w) else decide (u = w))) /\ M' = M := by
 unfold zKG at h;split at h
 ·rename_i d d';split at h
  ·rename_i u w e1 e2;split at h
   ·rename_i hs;cases h;exact ⟨d, d', u, w, rfl, rfl, e1, e2, hs, rfl, rfl⟩
   ·cases h
  ·cases h
 ·cases h
theorem zKs {K : PySem.W.Frag} : zDE K rEq (zKG false) := by
 intro L M M' H H0 x y d v w Q c rx ry hk q;obtain ⟨d1, d2, u, z, rfl, rfl, e1, e2, hs, rfl, rfl⟩ := zHd hk;have a1 := zEQ rx e1;have a2 := zEQ ry e2;subst a1 a2;exact ⟨hs, q L H _ (.refl L H) c (zCR (L := L) (H := H))⟩
theorem zPS {K : PySem.W.Frag} : zDE K rNe (zKG true) := by
 intro L M M' H H0 x y d v w Q c rx ry hk q;obtain ⟨d1, d2, u, z, rfl, rfl, e1, e2, hs, rfl, rfl⟩ := zHd hk;have a1 := zEQ rx e1;have a2 := zEQ ry e2;subst a1 a2;exact ⟨hs, q L H _ (.refl L H) c (zCR (L := L) (H := H))⟩
def zRF (neg : Bool) (K : PySem.W.Frag) : R2 := fun x y H Q => ∃ p q xs, x = .ref p /\ y = .ref q /\ SqL K H p xs /\ SqL K H q [] /\ Q (.bl (if neg then !xs.isEmpty else xs.isEmpty)) H
theorem zH7 (r : zk [] its) : its = [] := by cases r; rfl
theorem zJI (hu : X.A.units < cLine) : OpR X (compareOp .Eq) (zRF false X.K) := by
 intro zB s σ H x y v u Q I rx ry h;obtain ⟨p, q, xs, rfl, rfl, h1, h2, hq⟩ := h;cases rx;cases ry;obtain ⟨its, rv, pl, _⟩ := I.list h1;obtain ⟨its2, rv2, pl2, _⟩ := I.list h2;cases zH7 rv2;cases rv with
 | nil => exact SeqAt.eq_listAt (e := fun _ => true) pl.isList pl2.isList rfl hu (fun j h1 => by simp at h1) ⟨.bl true, H, I, rfl, hq⟩
 | cons _ _ => exact SeqAt.eq_list_lengthsAt pl.isList pl2.isList (by simp) hu ⟨.bl false, H, I, rfl, hq⟩
theorem zN5 (hu : X.A.units < cLine) : OpR X (compareOp .NotEq) (zRF true X.K) := by
 intro zB s σ H x y v u Q I rx ry h;obtain ⟨p, q, xs, rfl, rfl, h1, h2, hq⟩ := h;cases rx;cases ry;obtain ⟨its, rv, pl, _⟩ := I.list h1;obtain ⟨its2, rv2, pl2, _⟩ := I.list h2;cases zH7 rv2;cases rv with
 | nil => exact SeqAt.RcNeAt.lists (e := fun _ => true) pl.isList pl2.isList rfl hu (fun j h1 => by simp at h1) _ _ _ _ ⟨.bl false, H, I, rfl, hq⟩
 | cons _ _ => exact SeqAt.RcNeAt.lists_lengths pl.isList pl2.isList (by simp) hu _ _ _ _ ⟨.bl true, H, I, rfl, hq⟩
def zNS (neg : Bool) : K2 := fun x y M => match zBj M x, zBj M y with
 | some xs, some [] => some (.dat (.bl (if neg then !xs.isEmpty else xs.isEmpty)), M)
 | _, _ => none
theorem zIa {K : PySem.W.Frag} {neg : Bool} : zDE K (zRF neg K) (zNS neg) := by
 intro L M M' H H0 x y d v w Q c rx ry hk q;unfold zNS at hk;split at hk
 ·rename_i xs e1 e2;cases hk;obtain ⟨p1, vs, rfl, h1, r1⟩ := zBd c rx e1;obtain ⟨p2, ws, rfl, h2, r2⟩ := zBd c ry e2;unfold zW at r2;subst r2;refine ⟨p1, p2, vs, rfl, rfl, .inl h1, .inl h2, q L H _ (.refl L H) c ?_⟩;have : vs.isEmpty = xs.isEmpty := by
   have := r1.length;cases vs <;> cases xs <;> simp_all
  rw [this];exact (zCR (L := L) (H := H))
 ·cases hk
def kOr (k1 k2 : K2) : K2 := fun x y M => match k1 x y M with
 | some r => some r
 | none => k2 x y M
theorem zH6 {K : PySem.W.Frag} {r1 r2 : R2} {k1 k2 : K2} (h1 : zDE K r1 k1) (h2 : zDE K r2 k2) : zDE K (fun x y H Q => r1 x y H Q \/ r2 x y H Q) (kOr k1 k2) := by
 intro L M M' H H0 x y d v w Q c rx ry hk q;unfold kOr at hk;split at hk
 ·rename_i r e1;cases hk;exact .inl (h1 c rx ry e1 q)
 ·exact .inr (h2 c rx ry hk q)
abbrev kEq : K2 := kOr (zKG false) (zNS false)
abbrev kNe : K2 := kOr (zKG true) (zNS true)
variable {f g : FE}
theorem zPM (hu : X.A.units < cLine) (h1 : QE X a f) (h2 : QE X b g) : QE X (.Compare a [.Eq] [b] pos) (fOp kEq f g) := zPz (zH6 zKs zIa) (zPp.or (zJI hu)) h1 h2 (zDb _)
theorem zDR (hu : X.A.units < cLine) (h1 : QE X a f) (h2 : QE X b g) : QT X (.Compare a [.Eq] [b] pos) (tst (fOp kEq f g)) := zEx (zH6 zKs zIa) (zPp.or (zJI hu)) h1 h2 (zDb _)
theorem zKh (hu : X.A.units < cLine) (h1 : QE X a f) (h2 : QE X b g) : QT X (.Compare a [.NotEq] [b] pos) (tst (fOp kNe f g)) := zEx (zH6 zPS zIa) (zRa.or (zN5 hu)) h1 h2 (zDb _)
def zLh : KB := fun xs M => match xs with
 | [.dat (.int i)] => some (.dat (.int (if i < 0 then -i else i)), M)
 | _ => none
theorem zPg {K : PySem.W.Frag} : zGm K (fun xs H Q => ∃ i, xs = [.int i] /\ Q (.int (if i < 0 then -i else i)) H) zLh := by
 intro L M M' H H0 xs d vs Q c r hk q;unfold zLh at hk;split at hk
 ·rename_i i;cases hk;obtain ⟨v, rfl, r1⟩ := r.one;have : v = .int i := by unfold zm Rep at r1; exact r1
  subst this;exact ⟨i, rfl, q L H _ (.refl L H) c (zAs (L := L) (H := H))⟩
 ·cases hk
def zJk : KB := fun xs M => match xs with
 | [.dat (.int i)] => some (.dat (.int i), M)
 | [.dat (.bl k)] => some (.dat (.int (if k then 1 else 0)), M)
 | _ => none
theorem zOv {K : PySem.W.Frag} : zGm K (fun xs H Q => (∃ i, xs = [.int i] /\ Q (.int i) H) \/ ∃ k, xs = [.bl k] /\ Q (.int (if k then 1 else 0)) H) zJk := by
 intro L M M' H H0 xs d vs Q c r hk q;unfold zJk at hk;split at hk
 ·rename_i i;cases hk;obtain ⟨v, rfl, r1⟩ := r.one;have : v = .int i := by unfold zm Rep at r1; exact r1
  subst this;exact .inl ⟨i, rfl, q L H _ (.refl L H) c (zAs (L := L) (H := H))⟩
 ·rename_i k;cases hk;obtain ⟨v, rfl, r1⟩ := r.one;have := zCv r1;subst this;exact .inr ⟨k, rfl, q L H _ (.refl L H) c (zAs (L := L) (H := H))⟩
 ·cases hk
end
section
variable {X : Cx} {a b c e : Expr} {es rest : List Expr} {pos p apos cpos : Pos}
theorem zOC {prog : Program} {w : World} {A : Around} {E : Value -> Shared -> Prop} {s : Shared} {t b : Addr} {ws : List Value} {Q : Value -> Shared -> Prop} (ht : IsTup s.heap t #[]) (hb : IsTup s.heap b ws.toArray) (h1 : Q (.ref b) s) :
  wpAny (model prog w) A (binaryOp .Add (.ref t) (.ref b)) Q E s := by
 obtain ⟨⟨cls, dd, data, sl⟩, ho, hc, n, hd⟩ := id ht;obtain ⟨⟨cls2, dd2, data2, sl2⟩, ho2, hc2, n2, hd2⟩ := id hb;simp only at hc hd hc2 hd2;subst hc hd hc2 hd2
 exact concat_meets ⟨_, ho, rfl⟩ ⟨_, ho2, rfl⟩ noFill_tuple_add seq_tuple_add PySem.F.slot_tuple_add PySem.F.entry_tuple_add (PySem.F.args_tuple_add_2 _ _)
   (tuple_addW0 t b #[] ws.toArray n n2 dd dd2 sl sl2 (by simp)) ⟨ho, ho2, h1⟩
def zOL (K : PySem.W.Frag) : R2 := fun x y H Q => ∃ a b ys, x = .ref a /\ y = .ref b /\ SqT K H a [] /\ SqT K H b ys /\ Q (.ref b) H
theorem zNv : OpR X (binaryOp .Add) (zOL X.K) := by
 intro zB s σ H x y v u Q I rx ry h;obtain ⟨a, b, ys, rfl, rfl, ha, hb, q⟩ := h;cases rx;cases ry;obtain ⟨its, r1, p1, _⟩ := I.tuple ha;obtain ⟨its2, r2, p2, _⟩ := I.tuple hb;cases zH7 r1;exact zOC p1 p2 ⟨.ref b, H, I, rfl, q⟩
def zMv : K2 := fun x y M => match zCO x, zCO y with
 | some xs, some ys => if xs.length + ys.length <= sizeLine then some (.dat (.tup (xs ++ ys)), M) else none
 | _, _ => none
theorem zOF {K : PySem.W.Frag} : zDE K (fun x y H Q => zPx K x y H Q \/ zOL K x y H Q) zMv := by
 intro L M M' H H0 x y d v w Q c rx ry hk q;unfold zMv at hk;split at hk
 ·rename_i xs ys e1 e2;split at hk
  ·rename_i hz;cases hk;obtain ⟨p1, vs, rfl, h1, r1⟩ := zB8 rx e1;obtain ⟨p2, ws, rfl, h2, r2⟩ := zB8 ry e2;cases xs with
   | nil =>
    refine .inr ⟨p1, p2, ws, rfl, rfl, .of (by unfold zW at r1; subst r1; exact h1), .of h2, q L H _ (.refl L H) c ?_⟩;unfold zm Rep;exact ⟨p2, ws, rfl, h2, r2⟩
   | cons x0 xr =>
    have hv : vs ≠ [] := fun z => by have := r1.length; rw [z] at this; simp at this
    refine .inl ⟨p1, p2, vs, ws, rfl, rfl, .of h1, .of h2, hv, by rw [r1.length, r2.length]; exact hz, fun z => ?_, fun z pp hp => ?_⟩
    ·have : ys = [] := by
      have := r2.length; rw [z] at this;cases ys with
      | nil => rfl
      | cons _ _ => simp at this
     subst this;refine q L H _ (.refl L H) c ?_;unfold zm Rep;rw [zTY];exact ⟨p1, vs, rfl, h1, r1⟩
    ·exact q L _ _ (.upd hp) (c.upd hp) (Rep.newTup hp (r1.app r2))
  ·cases hk
 ·cases hk
abbrev zAy : K2 := kOr zSd zMv
variable {f g : FE}
theorem zBX (h1 : QE X a f) (h2 : QE X b g) : QE X (.BinOp a .Add b pos) (fOp zAy f g) := zKQ (zH6 (zIF fun _ _ _ _ => zAs) zOF) (zRQ.or (zOy.or zNv)) h1 h2
structure Kinds (K : PySem.W.Frag) : Prop where
 k : ∀ t T, t ∈ ["NoneType", "bool", "int", "str", "list", "tuple", "dict"] -> T ∈ ["int", "bool", "str", "tuple"] -> PySem.W.kitOne K (.type t) (.type T) = some (decide (t = T) || (decide (t = "bool") && decide (T = "int")))
def zJv (M : Mem) : EV -> Option String
 | .dat .non => some "NoneType"
 | .dat (.bl _) => some "bool"
 | .dat (.int _) => some "int"
 | .dat (.str _) => some "str"
 | .dat (.tup _) => some "tuple"
 | .fl _ => some "list"
 | .dat (.ref n) => match M[n]? with
  | some (.lst _) => some "list"
  | some (.fro _) => some "list"
  | some (.dict _) => some "dict"
  | some (.dicT _) => some "dict"
  | _ => none
theorem zQ9 {K : PySem.W.Frag} {L : List Addr} {M : Mem} {H H0 : Hp} {x : EV} {v : V} {t : String} (c : Cor K L M H) (r : zm H0 L H x v) (h : zJv M x = some t) : TyOf K H v (.type t) /\ t ∈ ["NoneType", "bool", "int", "str", "list", "tuple", "dict"] := by
 unfold zJv at h;split at h
 ·cases h; unfold zm Rep at r; subst r; exact ⟨.non, by simp⟩
 ·cases h; unfold zm Rep at r; subst r; exact ⟨.bl _, by simp⟩
 ·cases h; unfold zm Rep at r; subst r; exact ⟨.int _, by simp⟩
 ·cases h; unfold zm Rep at r; subst r; exact ⟨.str _, by simp⟩
 ·cases h; unfold zm Rep at r; obtain ⟨a, vs, rfl, e, _⟩ := r; exact ⟨.tup e, by simp⟩
 ·cases h;obtain ⟨p, vs, rfl, _, e, _⟩ := r;exact ⟨.lst e, by simp⟩
 ·unfold zm Rep at r;obtain ⟨a, rfl, e⟩ := r;split at h
  ·rename_i e1; cases h; obtain ⟨vs, q, _⟩ := c.obj _ a _ e e1; exact ⟨.lst q, by simp⟩
  ·rename_i e1; cases h; obtain ⟨o, vs, q, _⟩ := c.obj _ a _ e e1; exact ⟨.frz q, by simp⟩
  ·rename_i e1; cases h; obtain ⟨vs, q, _⟩ := c.obj _ a _ e e1; exact ⟨.dK q, by simp⟩
  ·rename_i e1; cases h; obtain ⟨vs, q, _⟩ := c.obj _ a _ e e1; exact ⟨.dT q, by simp⟩
  ·cases h
def isT (t T : String) : Bool := decide (t = T) || (decide (t = "bool") && decide (T = "int"))
def zEz (T : String) (f : FE) : FE := fun σ M => match f σ M with
 | some (x, M1) => match zJv M1 x with
  | some t => some (.dat (.bl (isT t T)), M1)
  | none => none
 | none => none
def zRb (K : PySem.W.Frag) (T : String) : List V -> Hp -> VK -> Prop := fun xs H Q => ∃ x t b, xs = [x, .ty T] /\ TyOf K H x t /\ PySem.W.kitOne K t (.type T) = some b /\ Q (.bl b) H
theorem zMl : zCJ X (.builtin "isinstance") (zRb X.K T) := by
 intro zB s σ H xs us Q I r h;obtain ⟨x, t, b, rfl, ty, e, q⟩ := h;cases r with
 | cons r1 r2 =>
  cases r2 with
  | cons r3 r4 =>
   cases r4;cases r3;exact zLz I r1 ty e fun tk => ⟨.bl b, H, I.tok _, rfl, q⟩
theorem zG7 (hK : Kinds X.K) (hT : T ∈ ["int", "bool", "str", "tuple"]) (hg : Gl X "isinstance") (hm : X.mg "isinstance" = none) (hg2 : Gl X y) (hm2 : X.mg y = none) (hv2 : bootBuiltins y = some (.type T)) (hn2 : y ≠ "__name__") (hd2 : (y == ("__debug__" : Str)) = false) (h : QE X e f)
  (he : starEach (e :: [.Name y p2]) X.env = (false, eval e X.env) :: starEach [.Name y p2] X.env := by rfl) (he2 : starEach [.Name y p2] X.env = (false, eval (.Name y p2) X.env) :: starEach [] X.env := by rfl) (hpl : (backTo pos (starEach [.Name y p2] X.env)).any (·.1) = false := by rfl) :
  QE X (.Call (.Name "isinstance" p1) [e, .Name y p2] [] pos) (zEz T f) :=
 .mk <| PE.imp (zIu (r := zRb X.K T) zMl hg hm (by rfl) (zCb h.un (zCb (zO5 (v := .ty T) hg2 hm2 hv2 rfl hn2 hd2) zD9 he2) he) (by decide) (by decide) he hpl) fun τ H Q ⟨L, σ, M, d, M', c, rs, hf, q⟩ => by
  unfold zEz at hf;split at hf
  ·rename_i x M1 e1;split at hf
   ·rename_i t e2;cases hf;refine ⟨L, σ, M, _, _, c, rs, e1, fun L1 H1 v s1 c1 r1 => ?_⟩;obtain ⟨ty, ht⟩ := zQ9 c1 r1 e2;exact ⟨v, _, _, rfl, ty, hK.k t T ht hT, q L1 H1 _ s1 c1 (zCR (L := L1) (H := H1))⟩
   ·cases hf
  ·cases hf
theorem zW.two (h : zW L H [d, d'] vs) : ∃ v v', vs = [v, v'] /\ Rep L H d v /\ Rep L H d' v' := by
 unfold zW at h;obtain ⟨v, r, rfl, h1, h2⟩ := h;obtain ⟨v', rfl, h3⟩ := h2.one;exact ⟨v, v', rfl, h1, h3⟩
section
variable {fa : FAE}
theorem zDO (hg : Gl X "len") (hm : X.mg "len" = none) (ha : QAE X [e] fa) (he : starEach [e] X.env = (false, eval e X.env) :: starEach [] X.env := by rfl) (hpl : (backTo pos (starEach [] X.env)).any (·.1) = false := by rfl) : QE X (.Call (.Name "len" p) [e] [] pos) (fB zBp fa) :=
 zEc zPc zIV PySem.boot_len hg hm ha (by decide) (by decide) he hpl
theorem zC6 (hg : Gl X "tuple") (hm : X.mg "tuple" = none) (ha : QAE X [e] fa) (he : starEach [e] X.env = (false, eval e X.env) :: starEach [] X.env := by rfl) (hpl : (backTo pos (starEach [] X.env)).any (·.1) = false := by rfl) : QE X (.Call (.Name "tuple" p) [e] [] pos) (fB zBb fa) :=
 zJg zL4 zGr (by rfl) hg hm ha (by decide) (by decide) he hpl
theorem zP9 (hg : Gl X "abs") (hm : X.mg "abs" = none) (ha : QAE X [e] fa) (he : starEach [e] X.env = (false, eval e X.env) :: starEach [] X.env := by rfl) (hpl : (backTo pos (starEach [] X.env)).any (·.1) = false := by rfl) : QE X (.Call (.Name "abs" p) [e] [] pos) (fB zLh fa) :=
 zEc zPg zMX (by rfl) hg hm ha (by decide) (by decide) he hpl
theorem zM1 (hg : Gl X "int") (hm : X.mg "int" = none) (ha : QAE X [e] fa) (he : starEach [e] X.env = (false, eval e X.env) :: starEach [] X.env := by rfl) (hpl : (backTo pos (starEach [] X.env)).any (·.1) = false := by rfl) : QE X (.Call (.Name "int" p) [e] [] pos) (fB zJk fa) :=
 zJg zOv zMR (by rfl) hg hm ha (by decide) (by decide) he hpl
end
end
def zIn (sc scope : Scope) : Bool := scope.names.all fun y =>
 (y.2 != .local || scope.names.lookup y.1 == some .local) && (y.2 != .cell || scope.names.lookup y.1 == some .cell) && (y.2 != .free || (sc.names.lookup y.1 == some .cell || sc.names.lookup y.1 == some .free))
def zLF (N : List Str) (scope : Scope) (own : List Nat) : Bool := (List.range N.length).all fun i => match N[i]? with
 | some x => decide (i ∈ own) || (scope.names.lookup x == none) || (scope.names.lookup x == some .free)
 | none => true
theorem zr (hk : scope.kind = .function) (hs : X.env.scope = sc) (hN : X.N = N) (h1 : zIn sc scope = true) (h2 : zLF N scope own = true) : CompIn X scope own := by
 unfold zIn at h1;rw [zTP] at h1;refine ⟨⟨hk, fun y hy e => ?_, fun y hy e => ?_, fun y hy e => ?_⟩, fun i x e => ?_⟩
 ·have := h1 y hy;simp [e] at this;exact this
 ·have := h1 y hy;simp [e] at this;exact this
 ·have := h1 y hy;simp [e] at this;show X.env.scope.names.lookup y.1 = _ \/ X.env.scope.names.lookup y.1 = _;rw [hs];exact this
 ·unfold zLF at h2;rw [zTP] at h2;rw [hN] at e;have hi : i < N.length := (zSr.mp e).1;have := h2 i (by simpa using hi);rw [e] at this;simp only [Bool.or_eq_true, zT6, beq_iff_eq, or_assoc] at this;exact this
def zH4 (K : PySem.W.Frag) : Bool := K.all fun p => match p.2.cls with
 | .type n => n != "list"
 | _ => true
theorem zJG : ∀ {K : PySem.W.Frag}, K.lookup a = some o -> (a, o) ∈ K
 | [], h => by cases h
 | (b, u) :: r, h => by
  have h' : List.lookup a ((b, u) :: r) = some o := h;rw [zUz] at h';cases q : a == b with
  | true => rw [q] at h'; cases h'; rw [beq_iff_eq.mp q]; exact zS2
  | false => rw [q] at h'; exact zS1 _ (zJG h')
theorem zLf {K : PySem.W.Frag} (h : zH4 K = true) {o : Obj} (e : K.lookup a = some o) (hc : o.cls = .type "list") : False := by
 unfold zH4 at h;rw [zTP] at h;have := h (a, o) (zJG e);simp [hc] at this
theorem zHT : ∀ (ns : List Int), zW L H (ns.map D.int) (ns.map V.int)
 | [] => .nil
 | n :: r => .cons (by unfold Rep; rfl) (zHT r)
theorem zMA {K : PySem.W.Frag} {m : FF} {H : Hp} {a : Addr} {ns : List Int} {E : XK} (hL : zH4 K = true) (hO : zO9 H) (hS : SqL K H a (ns.map V.int)) (h : ∃ M', m [.ref 0] [.fro (ns.map D.int)] = some (.bl true, M')) :
  spF K 1 m [.ref a] H (fun v _ => v = .bl true) E := by
 obtain ⟨M', e⟩ := h;have hf : ∃ o, H a = some (.frz o (.lst (ns.map V.int))) := by
  rcases hS with (h1 | h1) | ⟨o, its, n, h1, h2, _⟩
  ·rcases hO a with z | ⟨o, xs, z⟩
   ·rw [h1] at z; cases z
   ·rw [h1] at z; cases z
  ·exact h1
  ·exact (zLf hL h1 h2).elim
 obtain ⟨o, hf⟩ := hf;refine ⟨[a], [.ref 0], [.fro (ns.map D.int)], _, _, ⟨rfl, by simp, fun n b m e1 e2 => ?_⟩, .cons ?_ .nil, rfl, e, fun L' H' v s c r => ?_⟩
 ·cases n with
  | zero => simp at e1 e2; subst e1; subst e2; exact ⟨o, _, hf, zHT ns⟩
  | succ n => simp at e1
 ·unfold Rep; exact ⟨a, rfl, rfl⟩
 ·unfold Rep at r; exact r
def Ok {α : Type} (x : Option (α × Mem)) (P : α -> Mem -> Prop) : Prop := ∃ a M, x = some (a, M) /\ P a M
def OkS (x : Option (Out × Sd × Mem)) (P : Out -> Sd -> Mem -> Prop) : Prop := ∃ o σ M, x = some (o, σ, M) /\ P o σ M
theorem Ok.mono {α : Type} {x : Option (α × Mem)} {P Q : α -> Mem -> Prop} (h : Ok x P) (hq : ∀ a M, P a M -> Q a M) : Ok x Q := let ⟨a, M, e, p⟩ := h; ⟨a, M, e, hq a M p⟩
theorem OkS.mono {x : Option (Out × Sd × Mem)} {P Q : Out -> Sd -> Mem -> Prop} (h : OkS x P) (hq : ∀ o σ M, P o σ M -> Q o σ M) : OkS x Q := let ⟨a, σ, M, e, p⟩ := h; ⟨a, σ, M, e, hq a σ M p⟩
theorem zAA {α : Type} {a : α} {M : Mem} {P : α -> Mem -> Prop} : Ok (some (a, M)) P ↔ P a M := ⟨fun ⟨_, _, e, p⟩ => by cases e; exact p, fun p => ⟨a, M, rfl, p⟩⟩
theorem zFd {α : Type} {P : α -> Mem -> Prop} : Ok (none : Option (α × Mem)) P ↔ False := ⟨(fun ⟨_, _, e, _⟩ => (nomatch e)), fun h => h.elim⟩
theorem zMh {o : Out} {σ : Sd} {M : Mem} {P : Out -> Sd -> Mem -> Prop} : OkS (some (o, σ, M)) P ↔ P o σ M := ⟨fun ⟨_, _, _, e, p⟩ => by cases e; exact p, fun p => ⟨o, σ, M, rfl, p⟩⟩
section
variable {σ : Sd} {M : Mem} {f g : FE} {P : EV -> Mem -> Prop}
theorem zAJ {i : Nat} : Ok (zD i σ M) P ↔ ∃ d, σ[i]? = some (some d) /\ P (.dat d) M := by
 unfold zD;constructor
 ·rintro ⟨a, M1, e, p⟩;split at e
  ·rename_i d e1; cases e; exact ⟨d, e1, p⟩
  ·cases e
 ·rintro ⟨d, e1, p⟩;rw [e1]; exact ⟨_, _, rfl, p⟩
theorem zCX {d : D} : Ok (fC d σ M) P ↔ P (.dat d) M := zAA
theorem zAV {k : K2} : Ok (fOp k f g σ M) P ↔ Ok (f σ M) fun x M1 => Ok (g σ M1) fun y M2 => Ok (k x y M2) P := by
 unfold fOp;constructor
 ·rintro ⟨a, M1, e, p⟩;split at e
  ·rename_i x M2 e1;split at e
   ·rename_i y M3 e2;exact ⟨x, M2, e1, y, M3, e2, a, M1, e, p⟩
   ·cases e
  ·cases e
 ·rintro ⟨x, M2, e1, y, M3, e2, a, M1, e, p⟩;rw [e1]; dsimp only; rw [e2]; exact ⟨a, M1, e, p⟩
def zGe (P : D -> Mem -> Prop) : EV -> Mem -> Prop
 | .dat d, M => P d M
 | .fl xs, M => P (.ref M.length) (M ++ [.lst xs])
theorem zAn {P : D -> Mem -> Prop} : Ok (toD f σ M) P ↔ Ok (f σ M) (zGe P) := by
 unfold toD;constructor
 ·rintro ⟨a, M1, e, p⟩;split at e
  ·rename_i d M2 e1; cases e; exact ⟨_, _, e1, p⟩
  ·rename_i xs M2 e1; cases e; exact ⟨_, _, e1, p⟩
  ·cases e
 ·rintro ⟨x, M2, e1, p⟩;rw [e1];cases x with
  | dat d => exact ⟨d, M2, rfl, p⟩
  | fl xs => exact ⟨_, _, rfl, p⟩
theorem zU {P : D -> Mem -> Prop} {d : D} {M : Mem} : zGe P (.dat d) M ↔ P d M := Iff.rfl
theorem zFa {P : D -> Mem -> Prop} {xs : List D} {M : Mem} : zGe P (.fl xs) M ↔ P (.ref M.length) (M ++ [.lst xs]) := Iff.rfl
section
variable {P : List D -> Mem -> Prop}
theorem zCa : Ok (zR σ M) P ↔ P [] M := zAA
theorem zAw {f : FD} {g : FA} : Ok (zH f g σ M) P ↔ Ok (f σ M) fun d M1 => Ok (g σ M1) fun ds M2 => P (d :: ds) M2 := by
 unfold zH;constructor
 ·rintro ⟨a, M1, e, p⟩;split at e
  ·rename_i x M2 e1;split at e
   ·rename_i y M3 e2;cases e;exact ⟨x, M2, e1, y, _, e2, p⟩
   ·cases e
  ·cases e
 ·rintro ⟨x, M2, e1, y, M3, e2, p⟩;rw [e1]; dsimp only; rw [e2]; exact ⟨_, _, rfl, p⟩
end
section
variable {P : List EV -> Mem -> Prop}
theorem zD2 : Ok (zAT σ M) P ↔ P [] M := zAA
theorem zCq {f : FE} {g : FAE} : Ok (zn f g σ M) P ↔ Ok (f σ M) fun d M1 => Ok (g σ M1) fun ds M2 => P (d :: ds) M2 := by
 unfold zn;constructor
 ·rintro ⟨a, M1, e, p⟩;split at e
  ·rename_i x M2 e1;split at e
   ·rename_i y M3 e2;cases e;exact ⟨x, M2, e1, y, _, e2, p⟩
   ·cases e
  ·cases e
 ·rintro ⟨x, M2, e1, y, M3, e2, p⟩;rw [e1]; dsimp only; rw [e2]; exact ⟨_, _, rfl, p⟩
end
theorem zKT {a : FA} : Ok (zAZ a σ M) P ↔ Ok (a σ M) fun ds M1 => ds.length <= sizeLine /\ P (.fl ds) M1 := by
 unfold zAZ;constructor
 ·rintro ⟨x, M1, e, p⟩;split at e
  ·rename_i ds M2 e1;split at e
   ·rename_i hz; cases e; exact ⟨ds, _, e1, hz, p⟩
   ·cases e
  ·cases e
 ·rintro ⟨ds, M1, e1, hz, p⟩;rw [e1]; dsimp only; rw [zS3 hz]; exact ⟨_, _, rfl, p⟩
theorem zLj {k : KB} {a : FAE} : Ok (fB k a σ M) P ↔ Ok (a σ M) fun xs M1 => Ok (k xs M1) P := by
 unfold fB;constructor
 ·rintro ⟨x, M1, e, p⟩;split at e
  ·rename_i ds M2 e1; exact ⟨ds, _, e1, x, M1, e, p⟩
  ·cases e
 ·rintro ⟨ds, M1, e1, p⟩;rw [e1]; exact p
theorem zCf {m : FF} {a : FA} : Ok (ze m a σ M) P ↔ Ok (a σ M) fun ds M1 => Ok (m ds M1) fun d M2 => P (.dat d) M2 := by
 unfold ze;constructor
 ·rintro ⟨x, M1, e, p⟩;split at e
  ·rename_i ds M2 e1;split at e
   ·rename_i d M3 e2; cases e; exact ⟨ds, _, e1, d, _, e2, p⟩
   ·cases e
  ·cases e
 ·rintro ⟨ds, M1, e1, d, M2, e2, p⟩;rw [e1]; dsimp only; rw [e2]; exact ⟨_, _, rfl, p⟩
theorem zJj {k : KM} {a : FA} : Ok (fM k f a σ M) P ↔ Ok (f σ M) fun x M1 => (∃ xs, zBj M1 x = some xs) /\ Ok (a σ M1) fun ds M2 => Ok (k x ds M2) fun d M3 => P (.dat d) M3 := by
 unfold fM;constructor
 ·rintro ⟨x, M1, e, p⟩;split at e
  ·rename_i y M2 e1;split at e
   ·rename_i xs e2;split at e
    ·rename_i ds M3 e3;split at e
     ·rename_i d M4 e4; cases e; exact ⟨y, _, e1, ⟨xs, e2⟩, ds, _, e3, d, _, e4, p⟩
     ·cases e
    ·cases e
   ·cases e
  ·cases e
 ·rintro ⟨y, M1, e1, ⟨xs, e2⟩, ds, M2, e3, d, M3, e4, p⟩;rw [e1]; dsimp only; rw [e2]; dsimp only; rw [e3]; dsimp only; rw [e4]; exact ⟨_, _, rfl, p⟩
section
variable {P : Option Int -> Mem -> Prop}
theorem zGK : Ok (zD6 σ M) P ↔ P none M := zAA
def zRz (P : Option Int -> Mem -> Prop) : EV -> Mem -> Prop
 | .dat (.int i), M => P (some i) M
 | _, _ => False
theorem zGF {i : Int} {M : Mem} : zRz P (.dat (.int i)) M ↔ P (some i) M := Iff.rfl
theorem zFm : Ok (zDZ f σ M) P ↔ Ok (f σ M) (zRz P) := by
 unfold zDZ;constructor
 ·rintro ⟨x, M1, e, p⟩;split at e
  ·rename_i i M2 e1; cases e; exact ⟨_, _, e1, p⟩
  ·cases e
 ·rintro ⟨x, M1, e1, p⟩;rw [e1];cases x with
  | fl xs => exact p.elim
  | dat d =>
   cases d with
   | int i => exact ⟨_, _, rfl, p⟩
   | _ => exact p.elim
end
theorem zNE {l h : FO} : Ok (fSl f l h σ M) P ↔ Ok (f σ M) fun x M1 => Ok (l σ M1) fun lo M2 => Ok (h σ M2) fun hi M3 => Ok (kSl x lo hi M3) P := by
 unfold fSl;constructor
 ·rintro ⟨x, M1, e, p⟩;split at e
  ·rename_i y M2 e1;split at e
   ·rename_i lo M3 e2;split at e
    ·rename_i hi M4 e3; exact ⟨y, _, e1, lo, _, e2, hi, _, e3, x, M1, e, p⟩
    ·cases e
   ·cases e
  ·cases e
 ·rintro ⟨y, M1, e1, lo, M2, e2, hi, M3, e3, p⟩;rw [e1]; dsimp only; rw [e2]; dsimp only; rw [e3]; exact p
def blP (P : Bool -> Mem -> Prop) : EV -> Mem -> Prop
 | .dat (.bl k), M => P k M
 | _, _ => False
theorem zIS {P : Bool -> Mem -> Prop} {k : Bool} {M : Mem} : blP P (.dat (.bl k)) M ↔ P k M := Iff.rfl
theorem zHu {P : Bool -> Mem -> Prop} : Ok (tst f σ M) P ↔ Ok (f σ M) (blP P) := by
 unfold tst;constructor
 ·rintro ⟨x, M1, e, p⟩;split at e
  ·rename_i i M2 e1; cases e; exact ⟨_, _, e1, p⟩
  ·cases e
 ·rintro ⟨x, M1, e1, p⟩;rw [e1];cases x with
  | fl xs => exact p.elim
  | dat d =>
   cases d with
   | bl i => exact ⟨_, _, rfl, p⟩
   | _ => exact p.elim
section
variable {P : Bool -> Mem -> Prop} {s t : FT}
theorem zGb : Ok (zAO σ M) P ↔ P true M := zAA
theorem zOr : Ok (zD8 s t σ M) P ↔ Ok (s σ M) fun k M1 => if k then Ok (t σ M1) P else P false M1 := by
 unfold zD8;constructor
 ·rintro ⟨x, M1, e, p⟩;split at e
  ·rename_i M2 e1; exact ⟨true, M2, e1, by dsimp only; rw [zS3 rfl]; exact ⟨x, M1, e, p⟩⟩
  ·rename_i hn;cases x with
   | true => exact absurd e (hn M1)
   | false => exact ⟨false, M1, e, by simpa using p⟩
 ·rintro ⟨x, M1, e1, p⟩;rw [e1];cases x with
  | true => simpa using p
  | false => exact ⟨false, M1, rfl, by simpa using p⟩
theorem zRC : Ok (zIx s t σ M) P ↔ Ok (s σ M) fun k M1 => if k then P true M1 else Ok (t σ M1) P := by
 unfold zIx;constructor
 ·rintro ⟨x, M1, e, p⟩;split at e
  ·rename_i M2 e1; exact ⟨false, M2, e1, by simpa using ⟨x, M1, e, p⟩⟩
  ·rename_i hn;cases x with
   | false => exact absurd e (hn M1)
   | true => exact ⟨true, M1, e, by simpa using p⟩
 ·rintro ⟨x, M1, e1, p⟩;rw [e1];cases x with
  | false => simpa using p
  | true => exact ⟨true, M1, rfl, by simpa using p⟩
theorem zOd : Ok (zFQ s σ M) P ↔ Ok (s σ M) fun k M1 => P (!k) M1 := by
 unfold zFQ;constructor
 ·rintro ⟨x, M1, e, p⟩;split at e
  ·rename_i k M2 e1; cases e; exact ⟨k, _, e1, p⟩
  ·cases e
 ·rintro ⟨k, M1, e1, p⟩;rw [e1]; exact ⟨_, _, rfl, p⟩
end
end
section
variable {σ : Sd} {M : Mem} {f g : FS} {P : Out -> Sd -> Mem -> Prop}
def nxP (k : Sd -> Mem -> Prop) (P : Out -> Sd -> Mem -> Prop) : Out -> Sd -> Mem -> Prop
 | .nx, σ, M => k σ M
 | o, σ, M => P o σ M
theorem zc {k : Sd -> Mem -> Prop} : nxP k P .nx σ M ↔ k σ M := Iff.rfl
theorem zC8 {k : Sd -> Mem -> Prop} {d : D} : nxP k P (.ret d) σ M ↔ P (.ret d) σ M := Iff.rfl
theorem zA4 : OkS (zBB σ M) P ↔ P .nx σ M := zMh
theorem zY : OkS (za f g σ M) P ↔ OkS (f σ M) (nxP (fun σ1 M1 => OkS (g σ1 M1) P) P) := by
 unfold za;constructor
 ·rintro ⟨o, σ1, M1, e, p⟩;split at e
  ·rename_i σ2 M2 e1; exact ⟨_, _, _, e1, o, σ1, M1, e, p⟩
  ·rename_i hn;refine ⟨o, σ1, M1, e, ?_⟩;cases o with
   | nx => exact absurd e (hn σ1 M1)
   | _ => exact p
 ·rintro ⟨o, σ1, M1, e1, p⟩;rw [e1];cases o with
  | nx => exact p
  | _ => exact ⟨_, _, _, rfl, p⟩
theorem zBH {c : FT} : OkS (sIf c f g σ M) P ↔ Ok (c σ M) fun k M1 => if k then OkS (f σ M1) P else OkS (g σ M1) P := by
 unfold sIf;constructor
 ·rintro ⟨o, σ1, M1, e, p⟩;split at e
  ·rename_i M2 e1; exact ⟨_, _, e1, by dsimp only; rw [zS3 rfl]; exact ⟨o, σ1, M1, e, p⟩⟩
  ·rename_i M2 e1; exact ⟨_, _, e1, by simpa using ⟨o, σ1, M1, e, p⟩⟩
  ·cases e
 ·rintro ⟨x, M1, e1, p⟩;rw [e1];cases x with
  | true => simpa using p
  | false => simpa using p
theorem zAt {h : FE} : OkS (zAp h σ M) P ↔ Ok (h σ M) (zGe fun d M1 => P (.ret d) σ M1) := by
 rw [<- zAn];unfold zAp;constructor
 ·rintro ⟨o, σ1, M1, e, p⟩;split at e
  ·rename_i d M2 e1; cases e; exact ⟨_, _, e1, p⟩
  ·cases e
 ·rintro ⟨x, M1, e1, p⟩;rw [e1]; exact ⟨_, _, _, rfl, p⟩
theorem zq {i : Nat} {h : FE} : OkS (zAK i h σ M) P ↔ Ok (h σ M) (zGe fun d M1 => P .nx (σ.set i (some d)) M1) := by
 rw [<- zAn];unfold zAK;constructor
 ·rintro ⟨o, σ1, M1, e, p⟩;split at e
  ·rename_i d M2 e1; cases e; exact ⟨_, _, e1, p⟩
  ·cases e
 ·rintro ⟨x, M1, e1, p⟩;rw [e1]; exact ⟨_, _, _, rfl, p⟩
theorem zCQ {h : FE} : OkS (zAi h σ M) P ↔ Ok (h σ M) fun _ M1 => P .nx σ M1 := by
 unfold zAi;constructor
 ·rintro ⟨o, σ1, M1, e, p⟩;split at e
  ·rename_i d M2 e1; cases e; exact ⟨_, _, e1, p⟩
  ·cases e
 ·rintro ⟨x, M1, e1, p⟩;rw [e1]; exact ⟨_, _, _, rfl, p⟩
theorem zH9 {v o i : FE} : OkS (zKN v o i σ M) P ↔ Ok (v σ M) (zGe fun d M1 => Ok (o σ M1) fun x M2 => Ok (i σ M2) (zGe fun j M3 => ∃ M4, zIl x j d M3 = some M4 /\ P .nx σ M4)) := by
 rw [<- zAn];unfold zKN;constructor
 ·rintro ⟨o, σ1, M1, e, p⟩;split at e
  ·rename_i d M2 e1;split at e
   ·rename_i x M3 e2;split at e
    ·rename_i j M4 e3;split at e
     ·rename_i M5 e4;cases e;refine ⟨_, _, e1, _, _, e2, ?_⟩;dsimp only; rw [<- zAn];exact ⟨_, _, e3, _, e4, p⟩
     ·cases e
    ·cases e
   ·cases e
  ·cases e
 ·rintro ⟨d, M1, e1, x, M2, e2, p⟩;rw [<- zAn] at p;obtain ⟨j, M3, e3, M4, e4, p⟩ := p;rw [e1]; dsimp only; rw [e2]; dsimp only; rw [e3]; dsimp only; rw [e4]; exact ⟨_, _, _, rfl, p⟩
theorem zAr {n : Nat} {ds : List D} {Q : D -> Mem -> Prop} : Ok (zCU n f ds M) Q ↔ OkS (f (ds.map some ++ List.replicate (n - ds.length) none) M) fun o _ M1 => match o with | .ret d => Q d M1 | .nx => Q .non M1 | _ => False := by
 unfold zCU;constructor
 ·rintro ⟨o, M1, e, p⟩;split at e
  ·rename_i d σ1 M2 e1; cases e; exact ⟨_, _, _, e1, p⟩
  ·rename_i σ1 M2 e1; cases e; exact ⟨_, _, _, e1, p⟩
  ·cases e
 ·rintro ⟨o, σ1, M1, e1, p⟩;rw [e1];cases o with
  | ret d => exact ⟨_, _, rfl, p⟩
  | nx => exact ⟨_, _, rfl, p⟩
  | brk => exact p.elim
  | cnt => exact p.elim
theorem zCz {c : FT} {b : FS} (I : Nat -> Sd -> Mem -> Prop) (hs : ∀ m σ M, I m σ M -> Ok (c σ M) fun k M1 => if k then OkS (b σ M1) fun o σ2 M2 => match o with | .nx => ∃ m', m' < m /\ I m' σ2 M2 | .cnt => ∃ m', m' < m /\ I m' σ2 M2 | .brk => P .nx σ2 M2 | .ret d => P (.ret d) σ2 M2 else P .nx σ M1) :
  ∀ (n m : Nat) (σ : Sd) (M : Mem), m < n -> I m σ M -> OkS (zBJ c b n σ M) P
 | 0, m, σ, M, h, _ => absurd h (Nat.not_lt_zero _)
 | n + 1, m, σ, M, h, hi => by
  obtain ⟨k, M1, e, q⟩ := hs m σ M hi;unfold zBJ;rw [e];cases k with
  | false => exact ⟨_, _, _, rfl, by simpa using q⟩
  | true =>
   rw [zS3 rfl] at q;obtain ⟨o, σ2, M2, e2, q⟩ := q;dsimp only;rw [e2];cases o with
   | nx => obtain ⟨m', hm, q⟩ := q; exact zCz I hs n m' σ2 M2 (by omega) q
   | cnt => obtain ⟨m', hm, q⟩ := q; exact zCz I hs n m' σ2 M2 (by omega) q
   | brk => exact ⟨_, _, _, rfl, q⟩
   | ret d => exact ⟨_, _, _, rfl, q⟩
theorem zBL {g : FG} {b : FS} {all : List D} {gd : Option (Mem -> Prop)} (I : List D -> Sd -> Mem -> Prop)
  (hs : ∀ x r σ M, I (x :: r) σ M -> zA3 gd all M /\ ∃ σ1, g x σ = some σ1 /\ OkS (b σ1 M) fun o σ2 M2 => match o with | .nx => I r σ2 M2 | .cnt => I r σ2 M2 | .brk => P .nx σ2 M2 | .ret d => P (.ret d) σ2 M2)
  (he : ∀ σ M, I [] σ M -> zA3 gd all M /\ P .nx σ M) : ∀ (xs : List D) (σ : Sd) (M : Mem), I xs σ M -> OkS (zCI g b all gd xs σ M) P
 | [], σ, M, hi => by
  unfold zCI;obtain ⟨h1, h2⟩ := he σ M hi;rw [zS3 h1];exact ⟨_, _, _, rfl, h2⟩
 | x :: r, σ, M, hi => by
  unfold zCI;obtain ⟨h1, σ1, e1, o, σ2, M2, e2, q⟩ := hs x r σ M hi;rw [zS3 h1, e1];dsimp only;rw [e2];cases o with
  | nx => exact zBL I hs he r σ2 M2 q
  | cnt => exact zBL I hs he r σ2 M2 q
  | brk => exact ⟨_, _, _, rfl, q⟩
  | ret d => exact ⟨_, _, _, rfl, q⟩
theorem zBQ {i : FI} {g : FG} {b : FS} : OkS (zB3 i g b σ M) P ↔ ∃ xs gd M1, i σ M = some (xs, gd, M1) /\ OkS (zCI g b xs gd xs σ M1) P := by
 unfold zB3;constructor
 ·rintro ⟨o, σ1, M1, e, p⟩;split at e
  ·rename_i xs gd M2 e1; exact ⟨_, _, _, e1, _, _, _, e, p⟩
  ·cases e
 ·rintro ⟨xs, gd, M1, e1, p⟩;rw [e1]; exact p
theorem zCw {g : FG} {tc : FT} {te : FE} {all : List D} {gd : Option (Mem -> Prop)} (I : List D -> List D -> Mem -> Prop)
  (hs : ∀ x r acc M, I (x :: r) acc M -> zA3 gd all M /\ ∃ σ1, g x σ = some σ1 /\ Ok (tc σ1 M) fun k M1 => if k then Ok (te σ1 M1) (zGe fun d M2 => I r (acc ++ [d]) M2) else I r acc M1)
  {Q : List D -> Mem -> Prop} (he : ∀ acc M, I [] acc M -> zA3 gd all M /\ Q acc M) : ∀ (xs acc : List D) (M : Mem), I xs acc M -> Ok (zAx g tc te σ all gd xs M) fun ys M1 => Q (acc ++ ys) M1
 | [], acc, M, hi => by
  unfold zAx;obtain ⟨h1, h2⟩ := he acc M hi;rw [zS3 h1];exact ⟨_, _, rfl, by simpa using h2⟩
 | x :: r, acc, M, hi => by
  unfold zAx;obtain ⟨h1, σ1, e1, k, M1, e2, q⟩ := hs x r acc M hi;rw [zS3 h1, e1];dsimp only;rw [e2];cases k with
  | false => exact zCw I hs he r acc M1 (by simpa using q)
  | true =>
   rw [zS3 rfl, <- zAn] at q;obtain ⟨d, M2, e3, q⟩ := q;dsimp only;rw [e3];obtain ⟨ys, M3, e4, p⟩ := zCw I hs he r (acc ++ [d]) M2 q;dsimp only;rw [e4];exact ⟨_, _, rfl, by simpa using p⟩
theorem zC5 {own : List Nat} {i : FI} {g : FG} {tc : FT} {te : FE} {Q : EV -> Mem -> Prop} : Ok (zAQ own i g tc te σ M) Q ↔ ∃ xs gd M1, i σ M = some (xs, gd, M1) /\ xs.length <= sizeLine /\ Ok (zAx g tc te (zB4 own σ) xs gd xs M1) fun ys M2 => Q (.fl ys) M2 := by
 unfold zAQ;constructor
 ·rintro ⟨o, M1, e, p⟩;split at e
  ·rename_i xs gd M2 e1;split at e
   ·rename_i hz;split at e
    ·rename_i ys M3 e2; cases e; exact ⟨_, _, _, e1, hz, _, _, e2, p⟩
    ·cases e
   ·cases e
  ·cases e
 ·rintro ⟨xs, gd, M1, e1, hz, ys, M2, e2, p⟩;rw [e1]; dsimp only; rw [zS3 hz, e2]; exact ⟨_, _, rfl, p⟩
theorem zEY {h : FE} {x : EV} {M1 : Mem} {xs : List D} (e : h σ M = some (x, M1)) (e2 : zBK M1 x = some xs) : zAg h σ M = some (xs, zEo x xs, M1) := by
 unfold zAg; rw [e]; dsimp only; rw [e2]
theorem zGY {a : FA} {M1 : Mem} {j : Int} (e : a σ M = some ([.int j], M1)) (h1 : 0 <= j) (h2 : j < 2 ^ 62) : zAC a σ M = some ((List.range j.toNat).map fun (k : Nat) => D.int k, none, M1) := by
 unfold zAC; rw [e]; dsimp only; rw [zS3 ⟨by omega, h2⟩]
end
section
variable {M : Mem} {P : EV -> Mem -> Prop} {i j : Int}
theorem zFC : Ok (zAy (.dat (.int i)) (.dat (.int j)) M) P ↔ P (.dat (.int (i + j))) M := zAA
theorem zNq : Ok (zL5 (.dat (.int i)) (.dat (.int j)) M) P ↔ zMQ i j = true /\ P (.dat (.int (i * j))) M := by
 unfold zL5 kI; dsimp only; split
 ·rename_i h; rw [zAA]; simp [h]
 ·rename_i h; rw [zFd]; simp [h]
theorem zFN : Ok (zEy (.dat (.int i)) (.dat (.int j)) M) P ↔ 0 < j /\ P (.dat (.int (i % j))) M := by
 unfold zEy kI; dsimp only; split
 ·rename_i h; rw [zAA]; simp at h; simp [h]
 ·rename_i h; rw [zFd]; simp at h; simp; intro h'; omega
theorem zNc : Ok (zLe (.dat (.int i)) (.dat (.int j)) M) P ↔ (0 < j /\ j < 1073741824) /\ P (.dat (.int (i / j))) M := by
 unfold zLe kI; dsimp only; split
 ·rename_i h; rw [zAA]; simp at h; simp [h]
 ·rename_i h; rw [zFd]; simp at h; simp; intro h' h2; have := h h'; omega
theorem zP5 : Ok (zMb (.dat (.int i)) (.dat (.int j)) M) P ↔ (0 <= j /\ j <= 1000000 /\ i.natAbs < 2 ^ 64) /\ P (.dat (.int (i ^ j.toNat))) M := by
 unfold zMb kI; dsimp only; split
 ·rename_i h; rw [zAA]; simp only [zTO, zT6] at h; simp [h]
 ·rename_i h; rw [zFd]; simp only [zTO, zT6, not_and] at h; simp only [false_iff, not_and]; intro ⟨a, b, c⟩; exact absurd c (h ⟨a, b⟩)
theorem zRU : Ok (kLt (.dat (.int i)) (.dat (.int j)) M) P ↔ P (.dat (.bl (decide (i < j)))) M := zAA
theorem zSc : Ok (kGe (.dat (.int i)) (.dat (.int j)) M) P ↔ P (.dat (.bl (decide (j <= i)))) M := zAA
theorem zMN : Ok (kEq (.dat (.int i)) (.dat (.int j)) M) P ↔ P (.dat (.bl (decide (i = j)))) M := by
 have : kEq (.dat (.int i)) (.dat (.int j)) M = some (.dat (.bl (decide (V.int i = V.int j))), M) := rfl;rw [this, zAA]; simp
theorem zSY : Ok (kNe (.dat (.int i)) (.dat (.int j)) M) P ↔ P (.dat (.bl (decide (i ≠ j)))) M := by
 have : kNe (.dat (.int i)) (.dat (.int j)) M = some (.dat (.bl (!decide (V.int i = V.int j))), M) := rfl;rw [this, zAA]; simp
theorem zK9 {x : EV} {xs : List D} (h : zBj M x = some xs) (hx : ∀ d, x = .dat d -> zFK d = none) : Ok (kNe x (.fl []) M) P ↔ P (.dat (.bl (!xs.isEmpty))) M := by
 have e1 : zKG true x (.fl []) M = none := by cases x <;> rfl
 have e2 : kNe x (.fl []) M = some (.dat (.bl (!xs.isEmpty)), M) := by
  unfold kNe kOr; rw [e1]; unfold zNS; rw [h]; rfl
 rw [e2, zAA]
theorem zN2 {x : EV} {xs : List D} {d : D} (h : zBK M x = some xs) (hd : atI xs i = some d) (p : P (.dat d) M) : Ok (kIx x (.dat (.int i)) M) P := by
 have : kIx x (.dat (.int i)) M = some (.dat d, M) := by unfold kIx; dsimp only; rw [h]; dsimp only; rw [hd]
 rw [this, zAA]; exact p
theorem zKb {xs : List D} {k : Nat} {d : D} (h : xs[k]? = some d) : atI xs (k : Int) = some d := zLG h
theorem zKW {xs : List D} {i : Int} {d : D} (h0 : 0 <= i) (h : xs[i.toNat]? = some d) : atI xs i = some d := by
 have : i = ((i.toNat : Nat) : Int) := by omega
 rw [this]; exact zLG h
theorem zPv {x : EV} {xs : List D} (h : zBK M x = some xs) : Ok (zBp [x] M) P ↔ P (.dat (.int xs.length)) M := by
 have : zBp [x] M = some (.dat (.int xs.length), M) := by unfold zBp; dsimp only; rw [h]
 rw [this, zAA]
theorem zIP {x : EV} {xs : List D} (h : zBK M x = some xs) : Ok (zBb [x] M) P ↔ P (.dat (.tup xs)) M := by
 have : zBb [x] M = some (.dat (.tup xs), M) := by unfold zBb; dsimp only; rw [h]
 rw [this, zAA]
theorem zP0 : Ok (zLh [.dat (.int i)] M) P ↔ P (.dat (.int (if i < 0 then -i else i))) M := zAA
theorem zKf {x : EV} {xs : List D} {lo hi : Option Int} (h : zBj M x = some xs) (ht : zCO x = none) : Ok (kSl x lo hi M) P ↔ P (.fl (zFT xs lo hi)) M := by
 have : kSl x lo hi M = some (.fl (zFT xs lo hi), M) := by unfold kSl; rw [ht]; dsimp only; rw [h]
 rw [this, zAA]
theorem zAl {xs : List D} : zBK M (.dat (.tup xs)) = some xs := rfl
theorem zDg {xs : List D} : zBK M (.fl xs) = some xs := rfl
theorem zQ6 {xs : List D} : zBj M (.fl xs) = some xs := rfl
theorem zBY {n : Nat} {xs : List D} (h : M[n]? = some (.lst xs)) : zBj M (.dat (.ref n)) = some xs := by unfold zBj; dsimp only; rw [h]
theorem zH3 {n : Nat} {xs : List D} (h : M[n]? = some (.fro xs)) : zBj M (.dat (.ref n)) = some xs := by unfold zBj; dsimp only; rw [h]
theorem zAa {n : Nat} {xs : List D} (h : M[n]? = some (.lst xs)) : zBK M (.dat (.ref n)) = some xs := zBY h
theorem zOq {n : Nat} {xs : List D} (h : M[n]? = some (.fro xs)) : zBK M (.dat (.ref n)) = some xs := zH3 h
theorem zEP {n : Nat} {xs : List D} {d : D} {Q : D -> Mem -> Prop} (h : M[n]? = some (.lst xs)) (hz : xs.length < sizeLine) : Ok (z0 (.dat (.ref n)) [d] M) Q ↔ Q .non (M.set n (.lst (xs ++ [d]))) := by
 have : z0 (.dat (.ref n)) [d] M = some (.non, M.set n (.lst (xs ++ [d]))) := by unfold z0; dsimp only; rw [h]; dsimp only; rw [zS3 hz]
 rw [this, zAA]
theorem zQD {n : Nat} {x : D} {xs : List D} {Q : D -> Mem -> Prop} (h : M[n]? = some (.lst (x :: xs))) : Ok (zJC (.dat (.ref n)) [.int 0] M) Q ↔ Q x (M.set n (.lst xs)) := by
 have : zJC (.dat (.ref n)) [.int 0] M = some (x, M.set n (.lst xs)) := by
  unfold zJC; dsimp only; rw [h]; dsimp only;have e : ixN (x :: xs).length 0 = some 0 := by unfold ixN; rw [zS3 (by omega), zS3 (by simp)]; rfl
  rw [e]; dsimp only [List.getElem?_cons_zero]; rw [zS3 (by decide)]; rfl
 rw [this, zAA]
theorem zFq {n k : Nat} {xs : List D} {d : D} (h : M[n]? = some (.lst xs)) (hk : k < xs.length) : zIl (.dat (.ref n)) (.int k) d M = some (M.set n (.lst (xs.set k d))) := by
 unfold zIl; dsimp only; rw [h]; dsimp only;have e : ixN xs.length (k : Int) = some k := by unfold ixN; rw [zS3 (by omega), zS3 (by omega)]; simp
 rw [e]
end
theorem zPd {m : FF} {ds : List D} {M : Mem} {Q : D -> Mem -> Prop} (h : Ok (m ds M) fun d M1 => (D.und M.length d = true /\ M.length <= M1.length /\ ∀ (j : Nat) u, j < M.length -> M1[j]? = some u -> MO.und M.length u = true) /\ Q d (M1.take M.length)) : Ok (zJc m ds M) Q := by
 obtain ⟨d, M1, e, ⟨h1, h2, h3⟩, q⟩ := h;unfold zJc;rw [e];dsimp only;rw [zS3]
 ·exact ⟨_, _, rfl, q⟩
 ·simp only [zTO, zT6, zTP];refine ⟨⟨h1, fun u hu => ?_⟩, h2⟩;obtain ⟨j, hj⟩ := List.getElem?_of_mem hu;have hlt : j < M.length := by
   have := (zSr.mp hj).1;rw [zUH] at this; omega
  rw [List.getElem?_take_of_lt hlt] at hj;exact h3 j u hlt hj
theorem zFg {m : FF} {ds : List D} {M : Mem} {Q : D -> Mem -> Prop} (h0 : D.unds 0 ds = true) (h : Ok (m ds []) fun d _ => D.und 0 d = true /\ Q d M) : Ok (zFJ m ds M) Q := by
 obtain ⟨d, M1, e, h1, q⟩ := h;unfold zFJ;rw [zS3 h0, e];dsimp only;rw [zS3 h1];exact ⟨_, _, rfl, q⟩
section
variable {prog : Program} {w : World} {A : Around} {E : Value -> Shared -> Prop} {s : Shared}
theorem TIt.but (x : h.IsTupleIter a t i) (hs : Heap.ExtBut b h h') (n : a ≠ b) : h'.IsTupleIter a t i := x.extBut hs n
theorem Tup.but (x : h.IsTuple a its) (hs : Heap.ExtBut b h h') (n : a ≠ b) : h'.IsTuple a its := x.extBut hs n
theorem zED (I : s.heap.IsTupleIter it t i) (T : s.heap.IsTuple t its) (hx : its[i]? = some x)
  (q : ∀ h', h'.IsTupleIter it t (i + 1) -> Heap.SameBut it s.heap h' -> Q x { s with heap := h' }) : wpAny (model prog w) A (Builtin.SmallTypes.nextOf (.ref it)) Q E s := by
 obtain ⟨o, O, C, FD⟩ := id I;obtain ⟨u, U, _, m, G⟩ := T;unfold Builtin.SmallTypes.nextOf;refine zSo (zTQ (name := Str.ofString "__next__") I.typeIs PySem.F.slot_tuple_iterator_next (zTR PySem.F.slot_tuple_iterator_next I.typeIs PySem.F.entry_tuple_iterator_next ?_ (PySem.F.args_tuple_iterator_next_1 _)));refine zSo (m := field (.ref it) 0) (zTT O FD (x := .ref t) rfl ?_);rw [zS6 (show ¬ ((Value.ref t == Value.none) = true) by exact zTA)];refine zSo (m := field (.ref it) 1) (zTT O FD (x := .int i 0) rfl ?_);refine zSo (m := seqItems? (.ref t)) (zTe U G ?_);simp only [hx, Int.toNat_natCast];refine zSo (wpAny_setField O FD (by simp) (zSq ⟨x, rfl, zSq (q _ ⟨_, zTb _ O (Obj.isFreed_of_fields (zUA FD _)), (Obj.cls_mapFields ..).trans C, ?_⟩ (zTr ..))⟩));rw [zUA FD];simp [rawInt]
theorem zG6 (hh : A.handled = none) (I : s.heap.IsTupleIter it t i) (T : s.heap.IsTuple t its) (hx : its[i]? = none)
  (q : ∀ h' e, Heap.ExtBut it s.heap h' -> (∃ o, h'.get? e = some o /\ o.cls = .type "StopIteration") -> E (.ref e) { s with heap := h' }) : wpAny (model prog w) A (Builtin.SmallTypes.nextOf (.ref it)) Q E s := by
 obtain ⟨o, O, C, FD⟩ := id I;obtain ⟨u, U, _, m, G⟩ := T;unfold Builtin.SmallTypes.nextOf;refine zSo (zTQ (name := Str.ofString "__next__") I.typeIs PySem.F.slot_tuple_iterator_next (zTR PySem.F.slot_tuple_iterator_next I.typeIs PySem.F.entry_tuple_iterator_next ?_ (PySem.F.args_tuple_iterator_next_1 _)));refine zSo (m := field (.ref it) 0) (zTT O FD (x := .ref t) rfl ?_);rw [zS6 (show ¬ ((Value.ref t == Value.none) = true) by exact zTA)];refine zSo (m := field (.ref it) 1) (zTT O FD (x := .int i 0) rfl ?_);refine zSo (m := seqItems? (.ref t)) (zTe U G ?_);simp only [hx, Int.toNat_natCast];refine zSo (zUG (zSo (wpAny_setField O FD (by simp) ?_)));refine zSo (m := newExc (.type "StopIteration") []) ?_;simp only [newTuple, newExc];refine zSo (zTH (zSo (m := firstArgMember _ _) (wpAny_of_eq (a := Value.none) (by first | rfl | (simp only [firstArgMember]; rfl)) (zTH ?_ (by size_fits)))) (by size_fits));simp only [raiseNew];refine zSo (wpAny_handled ?_);first | rw [hh] | rw [show A.in1.handled = none from hh]
 exact zSo (zSq (wpAny_throw (q _ _ (((zTr ..).extBut.push _).push _) ⟨_, zSy _ rfl, rfl⟩)))
structure ZipT (h : Heap) (z TI TO i1 i2 t1 t2 : Addr) (f : Value) (k1 k2 : Nat) : Prop where
 z : IsZip h z TI TO f
 ti : IsPair h TI (.ref i1) (.ref i2)
 to : ∃ a b, IsPair h TO a b
 a : h.IsTupleIter i1 t1 k1
 b : h.IsTupleIter i2 t2 k2
theorem zLu {z TI TO i1 i2 t1 t2 : Addr} {k : Nat} {xs ys : Array Value} {x y : Value} {Q : Option Value -> Shared -> Prop} (D : ZipApart z TI TO i1 i2 t1 t2) (Z : ZipT s.heap z TI TO i1 i2 t1 t2 .none k k)
  (T1 : s.heap.IsTuple t1 xs) (T2 : s.heap.IsTuple t2 ys) (hx : xs[k]? = some x) (hy : ys[k]? = some y)
  (q : ∀ h', ZipT h' z TI TO i1 i2 t1 t2 (rawInt s.heap.objs.size) (k + 1) (k + 1) -> IsPair h' s.heap.objs.size x y ->
   (∀ c o, c ∉ [z, TO, i1, i2] -> s.heap.get? c = some o -> h'.get? c = some o) -> Q (some (.ref s.heap.objs.size)) { s with heap := h' }) : wpAny (model prog w) A (pyNext (.ref z)) Q E s := by
 obtain ⟨Z0, P0, ⟨a, b, O0⟩, I1, I2⟩ := Z;have ty : s.TypeIs (.ref z) "zip" := ⟨_, Z0, rfl⟩;unfold pyNext;refine zSo (wpAny_attempt (zTQ (name := Str.ofString "__next__") ty PySem.F.slot_zip_next (zTR PySem.F.slot_zip_next ty PySem.F.entry_zip_next ?_ (PySem.F.args_zip_next_1 _))));refine zSo (m := field (.ref z) 2) (zTT Z0 rfl (x := .bool false) rfl ?_);refine zSo (m := field (.ref z) 3) (zTT Z0 rfl (x := .ref TI) rfl ?_);refine zSo (zTe P0 rfl ?_);refine zSo (m := Builtin.SmallTypes.ownedTupleIsFree (.ref z)) ?_;unfold Builtin.SmallTypes.ownedTupleIsFree;refine zSo (zTT Z0 rfl (x := .none) rfl (zSq ?_));simp only [if_true];refine zSo (zUG (zSo (zTT Z0 rfl (x := .ref TO) rfl (zSo (wpAny_setField_rec Z0 (by simp) fun h1 Z1 e1 => ?_)))));replace Z1 : IsZip h1 z TI TO .ellipsis := Z1;refine zSo ?_;simp only [List.forIn_cons, List.forIn_nil, List.zipIdx_cons, List.zipIdx_nil];refine zSo (zSo (wpAny_onRaise (zSo (m := Builtin.SmallTypes.nextOf (.ref i1)) (zED (TIt.but I1 e1.extBut D.i1z) (Tup.but T1 e1.extBut D.l1z) hx fun h2 J1 e2 => zSq ?_))));have O2 : IsPair h2 TO a b := e2.extBut _ _ D.TOi1 (e1.extBut _ _ D.TOz O0);refine zSo (zTe O2 rfl (zSo (wpAny_updateSeq_pair O2 fun h3 O3 e3 => zSo (wpAny_letGo (zSq ?_)))));replace O3 : IsPair h3 TO x b := O3
 refine zSo (zSo (wpAny_onRaise (zSo (m := Builtin.SmallTypes.nextOf (.ref i2)) (zED (TIt.but (TIt.but (TIt.but I2 e1.extBut D.i2z) e2.extBut D.i12.symm) e3.extBut D.TOi2.symm)
  (Tup.but (Tup.but (Tup.but T2 e1.extBut D.l2z) e2.extBut D.l2i1) e3.extBut D.l2TO) hy fun h4 J2 e4 => zSq ?_))))
 have O4 : IsPair h4 TO x b := e4.extBut _ _ D.TOi2 O3;refine zSo (zTe O4 rfl (zSo (wpAny_updateSeq_pair O4 fun h5 O5 e5 => zSo (wpAny_letGo (zSq (zSq ?_))))));replace O5 : IsPair h5 TO x y := O5;refine zSo (zTe O5 rfl (zSo (wpAny_newTuple ?_)));have sz : h5.objs.size = s.heap.objs.size := by rw [e5.1, e4.1, e3.1, e2.1, e1.1]
 have Z5 : IsZip h5 z TI TO .ellipsis := e5.extBut _ _ D.TOz.symm (e4.extBut _ _ D.i2z.symm (e3.extBut _ _ D.TOz.symm (e2.extBut _ _ D.i1z.symm Z1)));have kp : ∀ c o, c ∉ [z, TO, i1, i2] -> s.heap.get? c = some o -> h5.get? c = some o := fun c o n e => by
  simp only [zS0, zTJ, or_false, not_or] at n;obtain ⟨n1, n2, n3, n4⟩ := n;exact e5.extBut _ _ n2 (e4.extBut _ _ n4 (e3.extBut _ _ n2 (e2.extBut _ _ n3 (e1.extBut _ _ n1 e))))
 have A5 : h5.IsTupleIter i1 t1 (k + 1) := TIt.but (TIt.but (TIt.but J1 e3.extBut D.TOi1.symm) e4.extBut D.i12) e5.extBut D.TOi1.symm;have B5 : h5.IsTupleIter i2 t2 (k + 1) := TIt.but J2 e5.extBut D.TOi2.symm;have zl : z < h5.objs.size := zSz Z5;refine zSo (m := Builtin.SmallTypes.ownedTupleHandOut (.ref z) (.ref h5.objs.size)) ?_;unfold Builtin.SmallTypes.ownedTupleHandOut;have Z6 : IsZip (h5.push { cls := .type "tuple", data := .seq #[x, y] }) z TI TO .ellipsis := zSp _ Z5;refine zSo (wpAny_setField_rec Z6 (by simp) fun h7 Z7 e7 => ?_);replace Z7 : IsZip h7 z TI TO (rawInt h5.objs.size) := Z7;refine wpAny_setField_rec Z7 (by simp) fun h8 Z8 e8 => ?_;replace Z8 : IsZip h8 z TI TO (rawInt h5.objs.size) := Z8;have up : ∀ c o, c ≠ z -> h5.get? c = some o -> h8.get? c = some o := fun c o n e => e8.extBut _ _ n (e7.extBut _ _ n (zSp _ e));have N8 : IsPair h8 h5.objs.size x y := e8.extBut _ _ (Nat.ne_of_gt zl) (e7.extBut _ _ (Nat.ne_of_gt zl) (zSy _ rfl));rw [sz] at Z8 N8;refine zSq ⟨_, rfl, ?_⟩;rw [sz];refine zSq (q h8 ⟨Z8, up _ _ D.TIz (kp _ _ (by simp [D.TIz, D.TITO, D.TIi1, D.TIi2]) P0), ⟨_, _, up _ _ D.TOz O5⟩, ?_, ?_⟩ N8 fun c o n e => up c o (fun m => n (by simp [m])) (kp c o n e))
 ·obtain ⟨o, e, r⟩ := A5; exact ⟨o, up _ _ D.i1z e, r⟩
 ·obtain ⟨o, e, r⟩ := B5; exact ⟨o, up _ _ D.i2z e, r⟩
theorem zNH {z TI TO i1 i2 t1 t2 : Addr} {k : Nat} {xs ys : Array Value} {Q : Option Value -> Shared -> Prop} (hh : A.handled = none) (D : ZipApart z TI TO i1 i2 t1 t2) (Z : ZipT s.heap z TI TO i1 i2 t1 t2 .none k k)
  (T1 : s.heap.IsTuple t1 xs) (T2 : s.heap.IsTuple t2 ys) (he : xs[k]? = none \/ ys[k]? = none)
  (q : ∀ h', (∀ c o, c ∉ [z, TO, i1, i2] -> s.heap.get? c = some o -> h'.get? c = some o) -> Q none { s with heap := h' }) : wpAny (model prog w) A (pyNext (.ref z)) Q E s := by
 obtain ⟨Z0, P0, ⟨a, b, O0⟩, I1, I2⟩ := Z;have ty : s.TypeIs (.ref z) "zip" := ⟨_, Z0, rfl⟩
 have stop : ∀ (e : Addr) (h' : Heap), (∀ c o, c ∉ [z, TO, i1, i2] -> s.heap.get? c = some o -> h'.get? c = some o) -> (∃ o, h'.get? e = some o /\ o.cls = .type "StopIteration") ->
   wpAny (model prog w) A (do if (<- isInstance (.ref e) (.type "StopIteration")) then pure none else throw (.ref e) : Sem (Option Value)) Q E { s with heap := h' } := fun e h' k1 ⟨o, e1, e2⟩ =>
  zSo (wpAny_isInstance (T := "StopIteration") (b := true) ⟨o, e1, e2⟩ isSubtype_stop (zSq (q h' k1)))
 unfold pyNext;refine zSo (wpAny_attempt (zTQ (name := Str.ofString "__next__") ty PySem.F.slot_zip_next (zTR PySem.F.slot_zip_next ty PySem.F.entry_zip_next ?_ (PySem.F.args_zip_next_1 _))));refine zSo (m := field (.ref z) 2) (zTT Z0 rfl (x := .bool false) rfl ?_);refine zSo (m := field (.ref z) 3) (zTT Z0 rfl (x := .ref TI) rfl ?_);refine zSo (zTe P0 rfl ?_);refine zSo (m := Builtin.SmallTypes.ownedTupleIsFree (.ref z)) ?_;unfold Builtin.SmallTypes.ownedTupleIsFree;refine zSo (zTT Z0 rfl (x := .none) rfl (zSq ?_));simp only [if_true];refine zSo (zUG (zSo (zTT Z0 rfl (x := .ref TO) rfl (zSo (wpAny_setField_rec Z0 (by simp) fun h1 Z1 e1 => ?_)))));replace Z1 : IsZip h1 z TI TO .ellipsis := Z1;refine zSo ?_;simp only [List.forIn_cons, List.forIn_nil, List.zipIdx_cons, List.zipIdx_nil];cases hx : xs[k]? with
 | none =>
  refine zSo (zSo (wpAny_onRaise (zSo (m := Builtin.SmallTypes.nextOf (.ref i1)) (zG6 hh (TIt.but I1 e1.extBut D.i1z) (Tup.but T1 e1.extBut D.l1z) hx fun h2 e e2 he => ?_))));obtain ⟨oe, o1, o2⟩ := he;have Z2 : IsZip h2 z TI TO .ellipsis := e2 _ _ D.i1z.symm Z1;have ne : e ≠ z := fun m => by subst m; rw [Z2] at o1; cases o1; simp at o2
  refine wpAny_setField_rec Z2 (by simp) fun h3 _ e3 => stop e h3 (fun c o n x => ?_) ⟨oe, e3.extBut _ _ ne o1, o2⟩;simp only [zS0, zTJ, or_false, not_or] at n;exact e3.extBut _ _ n.1 (e2 _ _ n.2.2.1 (e1.extBut _ _ n.1 x))
 | some x =>
  have hy : ys[k]? = none := by
   rcases he with m | m
   ·rw [hx] at m; cases m
   ·exact m
  refine zSo (zSo (wpAny_onRaise (zSo (m := Builtin.SmallTypes.nextOf (.ref i1)) (zED (TIt.but I1 e1.extBut D.i1z) (Tup.but T1 e1.extBut D.l1z) hx fun h2 J1 e2 => zSq ?_))));have O2 : IsPair h2 TO a b := e2.extBut _ _ D.TOi1 (e1.extBut _ _ D.TOz O0);refine zSo (zTe O2 rfl (zSo (wpAny_updateSeq_pair O2 fun h3 O3 e3 => zSo (wpAny_letGo (zSq ?_)))))
  refine zSo (zSo (wpAny_onRaise (zSo (m := Builtin.SmallTypes.nextOf (.ref i2)) (zG6 hh (TIt.but (TIt.but (TIt.but I2 e1.extBut D.i2z) e2.extBut D.i12.symm) e3.extBut D.TOi2.symm)
   (Tup.but (Tup.but (Tup.but T2 e1.extBut D.l2z) e2.extBut D.l2i1) e3.extBut D.l2TO) hy fun h4 e e4 he => ?_))))
  obtain ⟨oe, o1, o2⟩ := he;have Z4 : IsZip h4 z TI TO .ellipsis := e4 _ _ D.i2z.symm (e3.extBut _ _ D.TOz.symm (e2.extBut _ _ D.i1z.symm Z1));have ne : e ≠ z := fun m => by subst m; rw [Z4] at o1; cases o1; simp at o2
  refine wpAny_setField_rec Z4 (by simp) fun h5 _ e5 => stop e h5 (fun c o n x => ?_) ⟨oe, e5.extBut _ _ ne o1, o2⟩;simp only [zS0, zTJ, or_false, not_or] at n;exact e5.extBut _ _ n.1 (e4 _ _ n.2.2.2 (e3.extBut _ _ n.2.1 (e2.extBut _ _ n.2.2.1 (e1.extBut _ _ n.1 x))))
abbrev zT1 (h : Heap) (a : Addr) : Heap := h.push { cls := .type "tuple_iterator", data := .fields #[.ref a, .int 0 0] }
abbrev zT2 (h : Heap) (a b : Addr) : Heap := zT1 (zT1 h a) b
abbrev zT3 (h : Heap) (a b : Addr) : Heap := (zT2 h a b).push { cls := .type "tuple", data := .seq #[.ref h.objs.size, .ref (zT1 h a).objs.size] }
abbrev zT4 (h : Heap) (a b : Addr) : Heap := (zT3 h a b).push { cls := .type "tuple", data := .seq #[.none, .none] }
abbrev zT5 (h : Heap) (a b : Addr) : Heap := (zT4 h a b).push { cls := .type "zip", data := .fields #[.none, .bool false, .bool false, .ref (zT2 h a b).objs.size, .ref (zT3 h a b).objs.size] }
theorem zJ7 (a b : Addr) (xs ys : Array Value) : Meets (Builtin.«zip.__new__» ⟨[.type "zip", .ref a, .ref b], []⟩) (fun _ R s => s.heap.IsTuple a xs /\ s.heap.IsTuple b ys /\ R (.ok (.ret (.ref (zT4 s.heap a b).objs.size))) { s with heap := zT5 s.heap a b }) :=
 .of_wp fun prog w A R s h => by
  obtain ⟨hp, g, d, tk, os⟩ := s;obtain ⟨Ta, Tb, h⟩ := h;have sz := sub_zip;have U1 : Heap.IsTuple (Shared.heap ⟨hp, g, d, tk, os⟩) a xs := Ta;have U2 : Heap.IsTuple (Shared.heap ⟨hp.push { cls := .type "tuple_iterator", data := .fields #[.ref a, .int 0 0] }, g, d, tk, os⟩) b ys := Heap.IsTuple.push Tb _;wp_walk using wpAny_pyIter_tuple U1, wpAny_pyIter_tuple U2;exact ⟨_, rfl, h⟩
theorem zMk (Ta : s.heap.IsTuple a xs) (Tb : s.heap.IsTuple b ys)
  (h : ∀ h', ZipT h' (s.heap.objs.size + 4) (s.heap.objs.size + 2) (s.heap.objs.size + 3) s.heap.objs.size (s.heap.objs.size + 1) a b .none 0 0 -> (∀ c o, s.heap.get? c = some o -> h'.get? c = some o) -> Q (.ref (s.heap.objs.size + 4)) { s with heap := h' }) :
  wpAny (model prog w) A (call (.type "zip") [.ref a, .ref b]) Q E s := by
 refine callType_new PySem.F.called_zip (by decide) (PySem.F.typeCall_zip_2 _ _) (PySem.F.newCall_zip_2 _ _) (fun obj => PySem.F.args_object_init_3 obj _ _) PySem.F.entry_zip_new (zJ7 a b xs ys) ⟨Ta, Tb, ?_⟩;have q1 : (zT1 s.heap a).objs.size = s.heap.objs.size + 1 := zTU ..;have q2 : (zT2 s.heap a b).objs.size = s.heap.objs.size + 2 := by rw [zTU, q1]
 have q3 : (zT3 s.heap a b).objs.size = s.heap.objs.size + 3 := by rw [zTU, q2]
 have q4 : (zT4 s.heap a b).objs.size = s.heap.objs.size + 4 := by rw [zTU, q3]
 have u : ∀ {h : Heap} {c : Addr} {o p : Obj}, h.get? c = some o -> (h.push p).get? c = some o := fun e => zSp _ e;have p5 : (zT5 s.heap a b).get? (zT4 s.heap a b).objs.size = some _ := zSy _ rfl;have p4 : (zT5 s.heap a b).get? (zT3 s.heap a b).objs.size = some _ := u (zSy _ rfl);have p3 : (zT5 s.heap a b).get? (zT2 s.heap a b).objs.size = some _ := u (u (zSy _ rfl));have p2 : (zT5 s.heap a b).get? (zT1 s.heap a).objs.size = some _ := u (u (u (zSy _ rfl)));have p1 : (zT5 s.heap a b).get? s.heap.objs.size = some _ := u (u (u (u (zSy _ rfl))));show _ /\ _;rw [q2, q3, q4] at p5;rw [q1, q2] at p3;rw [q3] at p4;rw [q1] at p2;rw [q4];exact ⟨⟨_, p5, rfl⟩, h _ ⟨p5, p3, ⟨_, _, p4⟩, ⟨_, p1, rfl, rfl⟩, ⟨_, p2, rfl, rfl⟩⟩ fun c o x => u (u (u (u (u x))))⟩
end
theorem zJQ {X : Cx} {zB : List (Addr × Obj)} {σ : L2.St} {H : Hp} {s : Shared} {h' : Heap} {t' : Nat} {ch : List Addr} {T : Addr} {o : HO} (I : Inv X zB σ H s) (hf : ∀ b ∈ ch, zCP X zB H b)
  (k : ∀ b u, b ∉ ch -> s.heap.get? b = some u -> h'.get? b = some u) (hT : s.heap.objs.size <= T) (new : zAX X.prog X.w (upd H T o) h' T o) : Inv X zB σ (upd H T o) { s with heap := h', toks := t' } := by
 have hn : H T = none := I.hok.fresh hT;have nch : ∀ b u, H b = some u -> b ∉ ch := fun b u e z => by rw [(hf b z).1] at e; cases e
 have un : ∀ b u, H b = some u -> upd H T o b = some u := fun b u e => by rw [zg (zAM e hn)]; exact e
 refine I.step (g' := s.gens) (d' := s.drawn) (ch := ch) (fun b hb => ⟨(hf b hb).2.2.2.1, (hf b hb).2.1, (hf b hb).2.2.2.2.1, (hf b hb).2.2.2.2.2⟩) (fun b u _ _ hc e _ => k b u hc e) (fun b u _ _ hc e _ => ⟨u.slots, k b u hc e⟩)
  (fun b u _ e n => by rw [zg (fun z => by rw [z] at e; exact absurd (zSz e) (Nat.not_lt.mpr hT))]; exact n) (fun b u hc e => ⟨u, k b u hc e⟩) (fun b xs e => un b _ e) (fun b p u e => un b _ e) (fun b ps e => ⟨#[], by rw [un b _ e]; simp⟩) (fun m hm => ?_) (fun b u e => ?_) I.bare
 ·obtain ⟨p, es, ep, ho, r⟩ := hm;exact ⟨p, es, ep, k _ p (fun z => (hf _ z).2.1 rfl) ho, r⟩
 ·by_cases hb : b = T
  ·subst hb; rw [zAP] at e; cases e; exact new
  ·rw [zg hb] at e;refine (I.hok b u e).stay (fun c v hc q => k c v ?_ q) (fun c q => un c _ q) fun c xs q => un c _ q;rcases hc with z | z
   ·rw [z]; exact nch b u e
   ·exact nch c _ z
theorem zLl {X : Cx} {zB : List (Addr × Obj)} {σ : L2.St} {H : Hp} {s : Shared} {h' : Heap} {t' : Nat} {ch : List Addr} (I : Inv X zB σ H s) (hf : ∀ b ∈ ch, zCP X zB H b)
  (k : ∀ b u, b ∉ ch -> s.heap.get? b = some u -> h'.get? b = some u) : Inv X zB σ H { s with heap := h', toks := t' } := by
 have nch : ∀ b u, H b = some u -> b ∉ ch := fun b u e z => by rw [(hf b z).1] at e; cases e
 refine I.step (g' := s.gens) (d' := s.drawn) (ch := ch) (fun b hb => ⟨(hf b hb).2.2.2.1, (hf b hb).2.1, (hf b hb).2.2.2.2.1, (hf b hb).2.2.2.2.2⟩) (fun b u _ _ hc e _ => k b u hc e) (fun b u _ _ hc e _ => ⟨u.slots, k b u hc e⟩)
  (fun b u _ e n => n) (fun b u hc e => ⟨u, k b u hc e⟩) (fun b xs e => e) (fun b p u e => e) (fun b ps e => ⟨#[], by rw [e]; simp⟩) (fun m hm => ?_) (fun b u e => ?_) I.bare
 ·obtain ⟨p, es, ep, ho, r⟩ := hm;exact ⟨p, es, ep, k _ p (fun z => (hf _ z).2.1 rfl) ho, r⟩
 ·refine (I.hok b u e).stay (fun c v hc q => k c v ?_ q) (fun c q => q) fun c xs q => q;rcases hc with z | z
  ·rw [z]; exact nch b u e
  ·exact nch c _ z
def Itz (K : PySem.W.Frag) (a b : Addr) : It :=
 ⟨fun i H => ∃ xs ys x y, SqT K H a xs /\ SqT K H b ys /\ xs[i]? = some x /\ ys[i]? = some y,
  fun i H v H' => ∃ T x y, v = .ref T /\ H T = none /\ H' = upd H T (.tup [x, y]) /\ (∀ xs, SqT K H a xs -> xs[i]? = some x) /\ ∀ ys, SqT K H b ys -> ys[i]? = some y,
  fun i H => ∃ xs ys, SqT K H a xs /\ SqT K H b ys /\ (xs.length <= i \/ ys.length <= i)⟩
theorem zLg {P : Program} {w : World} {K : PySem.W.Frag} {es : List Expr} {ek : Nat} {ep : Pos} {z TI TO i1 i2 a b : Addr} (D : ZipApart z TI TO i1 i2 a b) :
  Turn P w K (.Tuple es ek ep) (Itz K a b) [z, TI, TO, i1, i2] z (fun i h => ZipT h z TI TO i1 i2 a b .none i i) where
 mem := by simp
 obj := fun i h Z c hc => by
  obtain ⟨Z0, P0, ⟨x, y, O0⟩, ⟨o1, e1, _, d1⟩, ⟨o2, e2, _, d2⟩⟩ := Z;simp only [zS0, zTJ, or_false] at hc;rcases hc with rfl | rfl | rfl | rfl | rfl
  ·exact ⟨_, Z0, fun v m => by cases m⟩
  ·exact ⟨_, P0, fun v m => by cases m⟩
  ·exact ⟨_, O0, fun v m => by cases m⟩
  ·exact ⟨_, e1, fun v m => by rw [d1] at m; cases m⟩
  ·exact ⟨_, e2, fun v m => by rw [d2] at m; cases m⟩
 keep := fun i h h' Z k => by
  obtain ⟨Z0, P0, ⟨x, y, O0⟩, ⟨o1, e1, r1⟩, ⟨o2, e2, r2⟩⟩ := Z;exact ⟨k z (by simp) _ Z0, k TI (by simp) _ P0, ⟨x, y, k TO (by simp) _ O0⟩, ⟨o1, k i1 (by simp) _ e1, r1⟩, ⟨o2, k i2 (by simp) _ e2, r2⟩⟩
 item := by
  intro X hP hw hK hc i zB s σ H E I hf Z hg;subst hP hw hK;obtain ⟨xs, ys, x, y, sa, sb, hx, hy⟩ := hg;obtain ⟨its, rv, p1, z1⟩ := I.tuple sa;obtain ⟨its2, rv2, p2, z2⟩ := I.tuple sb;obtain ⟨u, hu, ru⟩ := rv.get hx;obtain ⟨u2, hu2, ru2⟩ := rv2.get hy;refine zLu D Z (show s.heap.IsTuple a its.toArray from p1) (show s.heap.IsTuple b its2.toArray from p2) (x := u) (y := u2) (by simpa using hu) (by simpa using hu2) fun h' Z' N' kp => ⟨_, rfl, ?_⟩;refine wpAny_letOwnedTupleGo_zip Z'.z fun h2 Z2 e2 => ?_;have hch : ∀ c ∈ [z, TO, i1, i2], zCP X zB H c := fun c hm => hf c (by
   simp only [zS0, zTJ, or_false] at hm ⊢;rcases hm with q | q | q | q <;> simp [q])
  have kk : ∀ c o, c ∉ [z, TO, i1, i2] -> s.heap.get? c = some o -> h2.get? c = some o := fun c o n e => e2.extBut _ _ (fun m => n (by simp [m])) (kp c o n e);have zlt : z < s.heap.objs.size := zSz Z.z;have NT : IsPair h2 s.heap.objs.size u u2 := e2.extBut _ _ (Nat.ne_of_gt zlt) N';have hfr : H s.heap.objs.size = none := I.hok.fresh (zSu _);refine ⟨.ref s.heap.objs.size, upd H s.heap.objs.size (.tup [x, y]), zJQ (s := s) (h' := h2) (t' := s.toks) I hch kk (zSu _) ?_, rfl, ⟨_, x, y, rfl, hfr, rfl, fun ws hw => ?_, fun ws hw => ?_⟩, ?_, fun c hm => ?_⟩
  ·exact ⟨by show 2 <= sizeLine; decide, [u, u2], .cons ru (.cons ru2 .nil), ⟨_, NT, rfl, ⟨_, rfl⟩, rfl⟩⟩
  ·rw [I.tuple_inj hw sa]; exact hx
  ·rw [I.tuple_inj hw sb]; exact hy
  ·obtain ⟨_, P1, ⟨q1, q2, O1⟩, ⟨o1, f1, r1⟩, ⟨o2, f2, r2⟩⟩ := Z';exact ⟨Z2, e2.extBut _ _ D.TIz P1, ⟨q1, q2, e2.extBut _ _ D.TOz O1⟩, ⟨o1, e2.extBut _ _ D.i1z f1, r1⟩, ⟨o2, e2.extBut _ _ D.i2z f2, r2⟩⟩
  ·have lt : c < s.heap.objs.size := by
    obtain ⟨Z0, P0, ⟨q1, q2, O0⟩, ⟨o1, f1, _⟩, ⟨o2, f2, _⟩⟩ := Z;simp only [zS0, zTJ, or_false] at hm;rcases hm with rfl | rfl | rfl | rfl | rfl
    ·exact zSz Z0
    ·exact zSz P0
    ·exact zSz O0
    ·exact zSz f1
    ·exact zSz f2
   rw [zg (zS9 lt)];exact (hf c hm).1
 done := by
  intro X hP hw hK hc i zB s σ H E I hf Z hg;subst hP hw hK;obtain ⟨xs, ys, sa, sb, hz⟩ := hg;obtain ⟨its, rv, p1, z1⟩ := I.tuple sa;obtain ⟨its2, rv2, p2, z2⟩ := I.tuple sb;have l1 := rv.length;have l2 := rv2.length;refine zNH (I.ok.hd hc) D Z (show s.heap.IsTuple a its.toArray from p1) (show s.heap.IsTuple b its2.toArray from p2) ?_ fun h' kp => ⟨rfl, zLl (s := s) (h' := h') (t' := s.toks) I (fun c hm => hf c (by
   simp only [zS0, zTJ, or_false] at hm ⊢;rcases hm with q | q | q | q <;> simp [q])) kp⟩
  rcases hz with q | q
  ·exact .inl (by simp; omega)
  ·exact .inr (by simp; omega)
 self := fun _ _ _ _ _ Z h => wpAny_pyIter_zip Z.z h
section
variable {X : Cx} {a b : Expr} {es : List Expr} {ek : Nat} {ep p pos : Pos}
theorem zQ7 {ta : TA} (hg : Gl X "zip") (hm : X.mg "zip" = none) (ha : PA X [a, b] ta) (hs : starEach [a, b] X.env = [(false, eval a X.env), (false, eval b X.env)] := by rfl) (hs2 : starEach [b] X.env = [(false, eval b X.env)] := by rfl) :
  PI X (.Tuple es ek ep) (.Call (.Name "zip" p) [a, b] [] pos) (fun σ H R => ta σ H fun vs H1 => ∃ l1 l2 xs ys, vs = [.ref l1, .ref l2] /\ SqT X.K H1 l1 xs /\ SqT X.K H1 l2 ys /\ R (Itz X.K l1 l2) H1) := by
 intro zB s σ H R I h;refine Call_ (zEw I hg hm (by rfl) (PyProof.Rows.callWith_type1 (thn (ha pos zB s σ H _ I h) fun us s1 ⟨vs, H1, I1, r1, q1⟩ => ?_) (by rw [hs, hs2]) (by rw [hs2]; rfl)));obtain ⟨l1, l2, xs, ys, rfl, s1', s2', q⟩ := q1;cases r1 with
 | cons r rr =>
  cases rr with
  | cons r' rr =>
   cases rr;cases r;cases r';obtain ⟨its, rv, p1, _⟩ := I1.tuple s1';obtain ⟨its2, rv2, p2, _⟩ := I1.tuple s2';have d1 : l1 < s1.heap.objs.size := by obtain ⟨_, e, _⟩ := p1; exact zSz e
   have d2 : l2 < s1.heap.objs.size := by obtain ⟨_, e, _⟩ := p2; exact zSz e
   refine zMk (show s1.heap.IsTuple l1 its.toArray from p1) (show s1.heap.IsTuple l2 its2.toArray from p2) fun h' Z kp => wpAny_pyIter_zip Z.z ?_;refine ⟨s1.heap.objs.size + 4, [s1.heap.objs.size + 4, s1.heap.objs.size + 2, s1.heap.objs.size + 3, s1.heap.objs.size, s1.heap.objs.size + 1], _, _, H1, rfl, I1.kept (t' := s1.toks) kp, zLg (zipApart_new d1 d2), Z, fun c hc => ?_, q⟩;have ge : s1.heap.objs.size <= c := by
    simp only [zS0, zTJ, or_false] at hc;rcases hc with rfl | rfl | rfl | rfl | rfl
    ·exact Nat.le_add_right _ 4
    ·exact Nat.le_add_right _ 2
    ·exact Nat.le_add_right _ 3
    ·exact zSu _
    ·exact Nat.le_add_right _ 1
   exact I1.fpOk ge (I1.hok.fresh ge)
def zRM (g : FA) : FI := fun σ M => match g σ M with
 | some ([.tup xs, .tup ys], M1) => some ((xs.zip ys).map fun q => D.tup [q.1, q.2], none, M1)
 | _ => none
theorem zQY (hg : Gl X "zip") (hm : X.mg "zip" = none) (ha : QA X [a, b] g) (hs : starEach [a, b] X.env = [(false, eval a X.env), (false, eval b X.env)] := by rfl) (hs2 : starEach [b] X.env = [(false, eval b X.env)] := by rfl) :
  QI X (.Tuple es ek ep) (.Call (.Name "zip" p) [a, b] [] pos) (zRM g) := .mk <| PI.imp (zQ7 hg hm ha.un hs hs2) fun τ H R ⟨L, σ, M, xs, gd, M', c, rs, hf, q⟩ => by
 unfold zRM at hf;split at hf
 ·rename_i ds es' M1 e1;cases hf;refine ⟨L, σ, M, _, _, c, rs, e1, fun L1 H1 vs s1 c1 r1 => ?_⟩;obtain ⟨v, v', rfl, r2, r3⟩ := r1.two;unfold Rep at r2 r3;obtain ⟨l1, ws1, rfl, h1, q1⟩ := r2;obtain ⟨l2, ws2, rfl, h2, q2⟩ := r3;refine ⟨l1, l2, ws1, ws2, rfl, .of h1, .of h2, q L1 H1 _ s1 c1 fun L2 H2 M2 s2 c2 _ => ?_⟩;have k1 := s2.tup l1 ws1 h1;have k2 := s2.tup l2 ws2 h2;have p1 := q1.stp s2;have p2 := q2.stp s2;refine ⟨fun i d hd => ?_, ⟨ws1, ws2, .of k1, .of k2, ?_⟩⟩
  ·rw [zTB] at hd;cases e2 : (ds.zip es')[i]? with
   | none => rw [e2] at hd; cases hd
   | some pr =>
    rw [e2] at hd;cases hd;obtain ⟨f1, f2⟩ := List.getElem?_zip_eq_some.mp e2;obtain ⟨u, hu, ru⟩ := p1.get f1;obtain ⟨u2, hu2, ru2⟩ := p2.get f2;refine ⟨⟨ws1, ws2, u, u2, .of k1, .of k2, hu, hu2⟩, fun v H3 hy => ?_⟩;obtain ⟨T, x, y, rfl, hT, rfl, hxx, hyy⟩ := hy;have ex := hxx ws1 (.of k1);have ey := hyy ws2 (.of k2);rw [hu] at ex; cases ex;rw [hu2] at ey; cases ey;exact ⟨fun a o e => by rw [zg (zAM e hT)]; exact e, Rep.newTup hT (.cons ru (.cons ru2 .nil))⟩
  ·rw [zSx, List.length_zip, p1.length, p2.length];omega
 ·cases hf
def zHN (i j : Nat) : FG := fun d σ => match d with
 | .tup [x, y] => some ((σ.set i (some x)).set j (some y))
 | _ => none
abbrev gP2 (K : PySem.W.Frag) (i j : Nat) : TG := zRR K 2 (zMf (zDM i) (zMf (zDM j) zRk))
theorem zMV {K : PySem.W.Frag} {i j : Nat} : GOk (gP2 K i j) (zHN i j) := by
 intro L H σ σ' τ d v Q rs r hf q;unfold zHN at hf;split at hf
 ·rename_i x y;cases hf;unfold Rep at r;obtain ⟨a, vs, rfl, e, r⟩ := r;obtain ⟨v1, v2, rfl, r1, r2⟩ := r.two;exact ⟨a, _, rfl, .of e, rfl, v1, [v2], rfl, v2, [], rfl, rfl, q _ ((rs.set r1).set r2)⟩
 ·cases hf
theorem zLQ {K : PySem.W.Frag} {own : List Nat} {i j : Nat} (hi : i ∈ own) (hj : j ∈ own) : zE0 own (gP2 K i j) (zHN i j) := by
 intro L H σ σ' τ τ0 d v Q rs ex r hf q;unfold zHN at hf;split at hf
 ·rename_i x y;cases hf;unfold Rep at r;obtain ⟨a, vs, rfl, e, r⟩ := r;obtain ⟨v1, v2, rfl, r1, r2⟩ := r.two;exact ⟨a, _, rfl, .of e, rfl, v1, [v2], rfl, v2, [], rfl, rfl, q _ ((rs.set r1).set r2) ((ex.set hi).set hj)⟩
 ·cases hf
end
section
variable {X : Cx} {a b c e : Expr} {es : List Expr} {pos p p2 pos2 : Pos} {f g h : FE}
theorem zKq : ∀ {bs : List Bool} {its : List Value}, zk (bs.map V.bl) its -> ∀ (i : Nat) v, its[i]? = some v -> ∃ k, bs[i]? = some k /\ v = .bool k
 | [], _, .nil, _, _, h => by simp at h
 | k :: bs, _, .cons r t, 0, v, h => by
  simp at h; subst h;exact ⟨k, rfl, r⟩
 | k :: bs, _, .cons r t, i + 1, v, h => by
  obtain ⟨k', e1, e2⟩ := zKq t i v (by simpa using h);exact ⟨k', by simpa using e1, e2⟩
theorem zJ0 (bs : List Bool) : ((List.range bs.length).all fun i => (bs[i]?).getD true) = bs.all id := by
 rw [Bool.eq_iff_iff, zTP, zTP];constructor
 ·intro q k hk;obtain ⟨i, hi, rfl⟩ := zUx hk;have := q i (zTS.mpr hi);rw [zSs hi] at this;exact this
 ·intro q i hi;rw [zSs (zTS.mp hi)];exact q _ (zTM _)
def zR4 (K : PySem.W.Frag) (F : List Bool -> Bool) : List V -> Hp -> VK -> Prop := fun xs H Q => ∃ q bs, xs = [.ref q] /\ SqL K H q (bs.map V.bl) /\ Q (.bl (F bs)) H
theorem zLx (hc : X.calm = true) : zCJ X (.builtin "all") (zR4 X.K fun bs => bs.all id) := by
 intro zB s σ H xs us Q I r h;obtain ⟨l, bs, rfl, hq, q⟩ := h;obtain ⟨u, rfl, rx⟩ := zES r;cases rx;obtain ⟨its, rv, pl, _⟩ := I.list hq;have hlt : l < s.heap.objs.size := by obtain ⟨_, z, _⟩ := pl.isList; exact zSz z
 refine call_all_walk (wpAny_pyIter_list pl.isList ⟨s.heap.objs.size, [s.heap.objs.size, l], [s.heap.objs.size], its.toArray.size, _, _, fun i => (bs[i]?).getD true, rfl, Walks.list (A := X.A.in1) (I.ok.hd hc) _ l (zS9 hlt) its.toArray,
  ⟨⟨_, zSy _ rfl, rfl, rfl⟩, pl.isList.push _⟩, fun i v s' Q' E' hP hQ => ?_, fun h' tk hk => ?_⟩)
 ·obtain ⟨k, z, rfl⟩ := zKq rv i v (by simpa using hP);dsimp only at hQ; rw [z] at hQ;exact wpAny_truthy_bool hQ
 ·have hl := rv.length;rw [zSx] at hl;rw [zSw, <- hl, zJ0];exact ⟨.bl _, H, I.kept (t' := tk) fun b o z => hk b o (fun m => by rw [zTG.mp m] at z; exact zTW _ (zSz z)) (zSp _ z), rfl, q⟩
def zFI : List D -> Option (List Bool)
 | [] => some []
 | .bl k :: r => match zFI r with
  | some bs => some (k :: bs)
  | none => none
 | _ => none
theorem zK6 : ∀ {ds : List D} {bs : List Bool} {vs : List V}, zFI ds = some bs -> zW L H ds vs -> vs = bs.map V.bl
 | [], bs, vs, e, r => by cases e; unfold zW at r; exact r
 | d :: ds, bs, vs, e, r => by
  unfold zW at r;obtain ⟨v, r', rfl, r1, r2⟩ := r;cases d with
  | bl k =>
   unfold zFI at e;cases q : zFI ds with
   | none => rw [q] at e; cases e
   | some bs' =>
    rw [q] at e; cases e;unfold Rep at r1;rw [r1, zK6 q r2]; rfl
  | _ => cases e
def zMD (F : List Bool -> Bool) : KB := fun xs M => match xs with
 | [x] => match zBj M x with
  | some ds => match zFI ds with
   | some bs => some (.dat (.bl (F bs)), M)
   | none => none
  | none => none
 | _ => none
theorem zPi {K : PySem.W.Frag} {F : List Bool -> Bool} : zGm K (zR4 K F) (zMD F) := by
 intro L M M' H H0 xs d vs Q c r hk q;unfold zMD at hk;split at hk
 ·rename_i x;split at hk
  ·rename_i ds e1;split at hk
   ·rename_i bs e2;cases hk;obtain ⟨v, rfl, r1⟩ := r.one;obtain ⟨l, ws, rfl, h1, r2⟩ := zBd c r1 e1;have := zK6 e2 r2;subst this;exact ⟨l, bs, rfl, .inl h1, q L H _ (.refl L H) c (zCR (L := L) (H := H))⟩
   ·cases hk
  ·cases hk
 ·cases hk
abbrev zRo : KB := zMD fun bs => bs.all id
section
variable {fa : FAE}
theorem zSK (hc : X.calm = true) (hg : Gl X "all") (hm : X.mg "all" = none) (ha : QAE X [e] fa) (he : starEach [e] X.env = (false, eval e X.env) :: starEach [] X.env := by rfl) (hpl : (backTo pos (starEach [] X.env)).any (·.1) = false := by rfl) : QE X (.Call (.Name "all" p) [e] [] pos) (fB zRo fa) :=
 zEc zPi (zLx hc) (by rfl) hg hm ha (by decide) (by decide) he hpl
end
theorem zR1 (h : zBj M x = some ds) (hb : zFI ds = some bs) : Ok (zMD F [x] M) P ↔ P (.dat (.bl (F bs))) M := by
 have : zMD F [x] M = some (.dat (.bl (F bs)), M) := by unfold zMD; dsimp only; rw [h]; dsimp only; rw [hb]
 rw [this, zAA]
theorem zG3 : ∀ bs : List Bool, zFI (bs.map D.bl) = some bs
 | [] => rfl
 | k :: bs => by rw [zS7]; unfold zFI; rw [zG3 bs]
def zJh : V -> Bool
 | .non => true
 | .bl _ => true
 | _ => false
theorem zNs : OpR X (compareOp .Is) (fun x y H Q => zJh y = true /\ Q (.bl (decide (x = y))) H) := by
 intro zB s σ H x y v u Q I rx ry h;obtain ⟨hp, q⟩ := h;cases y with
 | non =>
  cases ry;refine wpAny_is_plain (by cases x <;> first | (cases rx; rfl) | (obtain ⟨t, rfl⟩ := rx; rfl)) (zx I q ?_);cases x <;> first | (cases rx; rfl) | (obtain ⟨t, rfl⟩ := rx; rfl)
 | bl k =>
  cases ry;refine wpAny_is_plain (by cases x <;> first | (cases rx; rfl) | (obtain ⟨t, rfl⟩ := rx; rfl)) (zx I q ?_);cases x with
  | bl k' => cases rx; cases k <;> cases k' <;> rfl
  | _ => first | (cases rx; rfl) | (obtain ⟨t, rfl⟩ := rx; rfl)
 | _ => cases hp
def isD : EV -> D -> Option Bool
 | x, .non => match x with
  | .dat .non => some true
  | _ => some false
 | x, .bl k => match x with
  | .dat (.bl k') => some (decide (k' = k))
  | _ => some false
 | _, _ => none
def kIs (neg : Bool) : K2 := fun x y M => match y with
 | .dat d => match isD x d with
  | some k => some (.dat (.bl (if neg then !k else k)), M)
  | none => none
 | _ => none
theorem zPD (rx : zm H0 L H x v) (ry : Rep L H d w) (e : isD x d = some k) : zJh w = true /\ decide (v = w) = k := by
 cases d with
 | non =>
  unfold Rep at ry; subst ry;refine ⟨rfl, ?_⟩;cases x with
  | fl xs => obtain ⟨q, vs, rfl, _⟩ := rx; cases e; rfl
  | dat d' =>
   cases d' with
   | non => unfold zm Rep at rx; subst rx; cases e; rfl
   | bl _ => unfold zm Rep at rx; subst rx; cases e; rfl
   | int _ => unfold zm Rep at rx; subst rx; cases e; rfl
   | str _ => unfold zm Rep at rx; subst rx; cases e; rfl
   | tup _ => unfold zm Rep at rx; obtain ⟨q, vs, rfl, _⟩ := rx; cases e; rfl
   | ref _ => unfold zm Rep at rx; obtain ⟨q, rfl, _⟩ := rx; cases e; rfl
 | bl k' =>
  unfold Rep at ry; subst ry;refine ⟨rfl, ?_⟩;cases x with
  | fl xs => obtain ⟨q, vs, rfl, _⟩ := rx; cases e; rfl
  | dat d' =>
   cases d' with
   | non => unfold zm Rep at rx; subst rx; cases e; rfl
   | bl j => unfold zm Rep at rx; subst rx; cases e; cases j <;> cases k' <;> rfl
   | int _ => unfold zm Rep at rx; subst rx; cases e; rfl
   | str _ => unfold zm Rep at rx; subst rx; cases e; rfl
   | tup _ => unfold zm Rep at rx; obtain ⟨q, vs, rfl, _⟩ := rx; cases e; rfl
   | ref _ => unfold zm Rep at rx; obtain ⟨q, rfl, _⟩ := rx; cases e; rfl
 | _ => cases e
theorem zNZ (h : kIs neg x y M = some (r, M')) : ∃ d k, y = .dat d /\ isD x d = some k /\ r = .dat (.bl (if neg then !k else k)) /\ M' = M := by
 unfold kIs at h;split at h
 ·rename_i d;split at h
  ·rename_i k e1; cases h; exact ⟨d, k, rfl, e1, rfl, rfl⟩
  ·cases h
 ·cases h
theorem zOB {K : PySem.W.Frag} : zDE K (fun x y H Q => zJh y = true /\ Q (.bl (decide (x = y))) H) (kIs false) := by
 intro L M M' H H0 x y d v w Q cc rx ry hk q;obtain ⟨d', k, rfl, e, rfl, rfl⟩ := zNZ hk;obtain ⟨h1, h2⟩ := zPD rx ry e;refine ⟨h1, ?_⟩;rw [h2];exact q L H _ (.refl L H) cc (zCR (L := L) (H := H))
theorem zSk (h1 : QE X a f) (h2 : QE X b g) : QE X (.Compare a [.Is] [b] pos) (fOp (kIs false) f g) := zPz zOB zNs h1 h2 (zDb _)
theorem zRg (h1 : QE X a f) (h2 : QE X b g) : QT X (.Compare a [.Is] [b] pos) (tst (fOp (kIs false) f g)) := zEx zOB zNs h1 h2 (zDb _)
end
open AutoSeq1 (wpAny_loadPart')
section
variable {prog : Program} {w : World} {A : Around} {E : Value -> Shared -> Prop} {s : Shared}
theorem zNu {r : Addr} {lo hi : Int} {t u v : Tok} {n : Nat} {Q : List Value -> Shared -> Prop} (hh : A.handled = none) (R : IsRange s.heap r lo hi 1 t u v) (sm : Builtin.Range.small lo hi 1 = true) (hn : Builtin.Range.rangeSize lo hi 1 = n) (hz : n <= 2 ^ 24)
  (q : ∀ h' tk (acc : Array Value), (∀ b o, s.heap.get? b = some o -> h'.get? b = some o) -> ItemsOf (fun i v => ∃ t, v = .int (lo + i * 1) t) acc n -> Q acc.toList { s with heap := h', toks := tk }) : wpAny (model prog w) A (collect (.ref r)) Q E s := by
 unfold collect;refine zSo (wpAny_runValue (codeAny_builtin PySem.F.entry_proto_collect ?_));rw [Around.under_plainId PySem.F.plain_proto_collect _];refine zSo (m := newList []) (zTH (zSq ⟨plainId_quiet PySem.F.plain_list_iadd _, codeAny_builtin PySem.F.entry_list_iadd ?_⟩));rw [Around.under_plainId PySem.F.plain_list_iadd _];have S0 : (s.heap.push { cls := .type "list", data := .seq ([] : List Value).toArray }).get? s.heap.objs.size = some { cls := .type "list", data := .seq #[] 0 } := zSy _ rfl
 have fin : ∀ (h' : Heap) (tk : Nat) (acc : Array Value) (k : Nat), (∀ b o, b ≠ s.heap.objs.size -> (s.heap.push { cls := .type "list", data := .seq ([] : List Value).toArray }).get? b = some o -> h'.get? b = some o) ->
   h'.get? s.heap.objs.size = some { cls := .type "list", dict := none, data := .seq acc k, slots := #[] } -> ItemsOf (fun i v => ∃ t, v = .int (lo + i * 1) t) acc n ->
   wpAny (model prog w) A (match Value.ref s.heap.objs.size with
    | Value.ref a => do
     match (<- load a).data with
      | Data.seq xs _ => pure xs.toList
      | _ => unsupported "internal:collect"
    | _ => unsupported "internal:collect") Q E { s with heap := h', toks := tk } := fun h' tk acc k kp e it => by
  refine zSo (m := load s.heap.objs.size) (wpAny_load e (zSq (q h' tk acc (fun b o m => kp b o (zS9 (zSz m)) (zSp _ m)) it)))
 refine zTK (wpAny_extend_range (A := A) (s := { s with heap := s.heap.push { cls := .type "list", data := .seq ([] : List Value).toArray } })
  (R := fun r s' => r = .ok (.ret (.ref s.heap.objs.size)) /\ ∃ h' tk acc k, s' = { s with heap := h', toks := tk } /\ (∀ b o, b ≠ s.heap.objs.size -> (s.heap.push { cls := .type "list", data := .seq ([] : List Value).toArray }).get? b = some o -> h'.get? b = some o) /\
   h'.get? s.heap.objs.size = some { cls := .type "list", dict := none, data := .seq acc k, slots := #[] } /\ ItemsOf (fun i v => ∃ t, v = .int (lo + i * 1) t) acc n)
  hh (zSp _ R) sm hn hz s.heap.objs.size (.ref s.heap.objs.size) 0 S0 fun h' tk acc k kp e it => ⟨rfl, h', tk, acc, k, rfl, kp, e, it⟩) (fun f s' z => ?_) (fun e s' z => ?_)
 ·cases f with
  | done f =>
   obtain ⟨e, h', tk, acc, k, rfl, z1, z2, z3⟩ := z;cases e;exact fin h' tk acc k z1 z2 z3
  | again c' => exact ⟨z.1, codeAny_mono z.2 fun r s'' z => by obtain ⟨rfl, h', tk, acc, k, rfl, z1, z2, z3⟩ := z; exact fin h' tk acc k z1 z2 z3⟩
 ·exact absurd z.1 (by simp)
end
theorem zIK (r : Addr) (lo hi : Int) (t u v : Tok) (n : Nat) (sm : Builtin.Range.small lo hi 1 = true) (hn : Builtin.Range.rangeSize lo hi 1 = n) (hz : n <= 2 ^ 24) :
  Meets (Builtin.«tuple.__new__» ⟨[.type "tuple", .ref r], []⟩) (fun A R s => A.handled = none /\ IsRange s.heap r lo hi 1 t u v /\
   ∀ (h' : Heap) (tk : Nat) (acc : Array Value), (∀ b o, s.heap.get? b = some o -> h'.get? b = some o) -> ItemsOf (fun i v => ∃ t, v = .int (lo + i * 1) t) acc n -> R (.ok (.ret (.ref h'.objs.size))) { s with heap := h'.push { cls := .type "tuple", data := .seq acc }, toks := tk }) :=
 .of_wp fun prog w A R s h => by
  obtain ⟨hp, g, d, tk, os⟩ := s;obtain ⟨hh, Ra, h⟩ := h;have h1 := sub_tuple_self;have h2 := init_tuple_lookup;have h3 := madeHere_tuple;have T : Shared.TypeIs ⟨hp, g, d, tk, os⟩ (.ref r) "range" := ⟨_, Ra, rfl⟩;wp_walk using wpAny_loadPart' Ra, wpAny_typeOf T, zNu (show A.in1.handled = none from hh) Ra sm hn hz;intro h' tk' acc kp it;refine zSo (m := Builtin.Tuple.tupleExact acc.toList.toArray) ?_;unfold Builtin.Tuple.tupleExact;have sz : acc.toList.toArray.size <= sizeLine := by rw [zSw, zTX, it.1, sizeLine_eq]; omega
  refine zTH (zSq ⟨_, rfl, ?_⟩) sz;have e : acc.toList.toArray = acc := by simp
  rw [e];exact h h' tk' acc kp it
section
variable {X : Cx} {a e : Expr} {es : List Expr} {pos p p2 pos2 : Pos} {f : FE}
theorem zI3 : zCJ X (.type "range") (fun xs H Q => ∃ j, xs = [.int j] /\ ∀ l, H l = none -> Q (.ref l) (upd H l (.rng 0 j))) := by
 intro zB s σ H xs us Q I r h;obtain ⟨j, rfl, q⟩ := h;obtain ⟨u, rfl, rx⟩ := zES r;obtain ⟨t, rfl⟩ := rx;refine call_range_1 ⟨.ref s.heap.objs.size, _, I.laid (fun b o z => zSp _ z) (zSu _) ?_, rfl, q _ (I.hok.fresh (zSu _))⟩;exact ⟨_, _, _, zSy _ rfl⟩
def upV (n : Nat) : List V := (List.range n).map fun (k : Nat) => V.int k
theorem zJS (h : ItemsOf (fun i v => ∃ t, v = .int ((0 : Int) + i * 1) t) acc n) : zk (upV n) acc.toList := by
 obtain ⟨hz, hi⟩ := h;have : ∀ (xs : List Value) (k : Nat), (∀ j v, xs[j]? = some v -> ∃ t, v = Value.int ((k + j : Nat) : Int) t) -> zk ((List.range' k xs.length).map fun (k : Nat) => V.int k) xs := by
  intro xs;induction xs with
  | nil => intro k _; exact .nil
  | cons x xs ih =>
   intro k hk;rw [zTL, List.range'_succ, zS7];refine .cons ?_ (ih (k + 1) fun j v e => ?_)
   ·obtain ⟨t, e⟩ := hk 0 x rfl;exact ⟨t, by simpa using e⟩
   ·obtain ⟨t, e'⟩ := hk (j + 1) v (by simpa using e);exact ⟨t, by rw [e']; congr 2; omega⟩
 have q := this acc.toList 0 (fun j v e => by
  obtain ⟨t, e'⟩ := hi j v (by simpa using e);exact ⟨t, by rw [e']; congr 1; omega⟩)
 unfold upV;rw [List.range_eq_range'];rw [zTX, hz] at q;exact q
theorem zHM (h0 : 0 <= j) (h1 : j <= 16777216) : Builtin.Range.small 0 j 1 = true /\ Builtin.Range.rangeSize 0 j 1 = (j.toNat : Int) := by
 refine ⟨small_one (by omega) (by omega) (by omega) (by omega), ?_⟩;rw [rangeSize_one]; split <;> omega
def zRn (mk : List V -> HO) : List V -> Hp -> VK -> Prop := fun xs H Q => ∃ r j, xs = [.ref r] /\ H r = some (.rng 0 j) /\ 0 <= j /\ j <= 16777216 /\ ∀ l, H l = none -> Q (.ref l) (upd H l (mk (upV j.toNat)))
theorem zFx (n : Nat) : (upV n).length = n := by unfold upV; simp
theorem zLY (hc : X.calm = true) : zCJ X (.type "tuple") (zRn HO.tup) := by
 intro zB s σ H xs us Q I r h;obtain ⟨l, j, rfl, hr, h0, h1, q⟩ := h;obtain ⟨u, rfl, rx⟩ := zES r;cases rx;obtain ⟨t, u, v, er⟩ := (show zAX X.prog X.w H s.heap l (.rng 0 j) from I.hok l _ hr);obtain ⟨sm, sz⟩ := zHM h0 h1
 refine callType_new PySem.F.called_tuple (by decide) (PySem.F.typeCall_tuple_1 _) (PySem.F.newCall_tuple_1 _) (fun obj => PySem.F.args_object_init_2 obj _) PySem.F.entry_tuple_new (zIK l 0 j t u v j.toNat sm sz (by omega))
  ⟨I.ok.hd hc, er, fun h' tk acc kp it => ⟨⟨_, zSy _ rfl, rfl⟩, ?_⟩⟩
 have I1 : Inv X zB σ H { s with heap := h', toks := tk } := I.kept kp;refine ⟨.ref h'.objs.size, _, I1.laid (t' := tk) (fun b o z => zSp _ z) (zSu _) ?_, rfl, q _ (I1.hok.fresh (zSu _))⟩;exact ⟨by rw [zFx, sizeLine_eq]; omega, acc.toList, zJS it, by simpa using zCL.new h' acc⟩
theorem zMH (hc : X.calm = true) : zCJ X (.type "list") (zRn HO.lst) := by
 intro zB s σ H xs us Q I r h;obtain ⟨l, j, rfl, hr, h0, h1, q⟩ := h;obtain ⟨u, rfl, rx⟩ := zES r;cases rx;obtain ⟨t, u, v, er⟩ := (show zAX X.prog X.w H s.heap l (.rng 0 j) from I.hok l _ hr);obtain ⟨sm, sz⟩ := zHM h0 h1;refine call_list_range (I.ok.hd hc) er sm sz (by omega) fun h' tk acc k kp z it => ?_;refine ⟨.ref s.heap.objs.size, _, I.laid (t' := tk) kp (zSu _) (show zAX X.prog X.w _ h' _ (.lst (upV j.toNat)) from ⟨by rw [zFx, sizeLine_eq]; omega, acc.toList, k, zJS it, by simpa using z⟩), rfl, q _ (I.hok.fresh (zSu _))⟩
def upD (n : Nat) : List D := (List.range n).map fun (k : Nat) => D.int k
theorem zK0 (n : Nat) : zW L H (upD n) (upV n) := by
 have : ∀ xs : List Nat, zW L H (xs.map fun (k : Nat) => D.int k) (xs.map fun (k : Nat) => V.int k) := by
  intro xs;induction xs with
  | nil => exact .nil
  | cons x xs ih => exact .cons zAs ih
 exact this _
def zK7 (f : FE) : FE := fun σ M => match f σ M with
 | some (.dat (.int j), M1) => if 0 <= j /\ j <= 16777216 then some (.dat (.tup (upD j.toNat)), M1) else none
 | _ => none
def zDi (f : FE) : FE := fun σ M => match f σ M with
 | some (.dat (.int j), M1) => if 0 <= j /\ j <= 16777216 then some (.fl (upD j.toNat), M1) else none
 | _ => none
theorem zQn (hc : X.calm = true) (hg : Gl X "tuple") (hm : X.mg "tuple" = none) (hg2 : Gl X "range") (hm2 : X.mg "range" = none) (ha : QE X a f)
  (he : starEach [Expr.Call (.Name "range" p2) [a] [] pos2] X.env = (false, eval (Expr.Call (.Name "range" p2) [a] [] pos2) X.env) :: starEach [] X.env := by rfl) (hpl : (backTo pos (starEach [] X.env)).any (·.1) = false := by rfl)
  (he2 : starEach [a] X.env = (false, eval a X.env) :: starEach [] X.env := by rfl) (hpl2 : (backTo pos2 (starEach [] X.env)).any (·.1) = false := by rfl) :
  QE X (.Call (.Name "tuple" p) [.Call (.Name "range" p2) [a] [] pos2] [] pos) (zK7 f) :=
 .mk <| PE.imp (zC0 (zLY hc) hg hm (by rfl) (zCb (zC0 zI3 hg2 hm2 boot_range (zCb ha.un zD9 he2) (by decide) (by decide) he2 hpl2) zD9 he) (by decide) (by decide) he hpl) fun τ H Q ⟨L, σ, M, d, M', c, rs, hf, q⟩ => by
  unfold zK7 at hf;split at hf
  ·rename_i j M1 e1;split at hf
   ·rename_i hb;cases hf;refine ⟨L, σ, M, _, _, c, rs, e1, fun L1 H1 v s1 c1 r1 => ⟨j, by unfold zm Rep at r1; rw [r1], fun l hl => ⟨l, j, rfl, zAP, hb.1, hb.2, fun k hk => ?_⟩⟩⟩;exact q L1 _ _ ((s1.trans (.upd hl)).trans (.upd hk)) ((c1.upd hl).upd hk) (Rep.newTup hk (zK0 _))
   ·cases hf
  ·cases hf
theorem zNd (hc : X.calm = true) (hg : Gl X "list") (hm : X.mg "list" = none) (hg2 : Gl X "range") (hm2 : X.mg "range" = none) (ha : QE X a f)
  (he : starEach [Expr.Call (.Name "range" p2) [a] [] pos2] X.env = (false, eval (Expr.Call (.Name "range" p2) [a] [] pos2) X.env) :: starEach [] X.env := by rfl) (hpl : (backTo pos (starEach [] X.env)).any (·.1) = false := by rfl)
  (he2 : starEach [a] X.env = (false, eval a X.env) :: starEach [] X.env := by rfl) (hpl2 : (backTo pos2 (starEach [] X.env)).any (·.1) = false := by rfl) :
  QE X (.Call (.Name "list" p) [.Call (.Name "range" p2) [a] [] pos2] [] pos) (zDi f) :=
 .mk <| PE.imp (zC0 (zMH hc) hg hm (by rfl) (zCb (zC0 zI3 hg2 hm2 boot_range (zCb ha.un zD9 he2) (by decide) (by decide) he2 hpl2) zD9 he) (by decide) (by decide) he hpl) fun τ H Q ⟨L, σ, M, d, M', c, rs, hf, q⟩ => by
  unfold zDi at hf;split at hf
  ·rename_i j M1 e1;split at hf
   ·rename_i hb;cases hf;refine ⟨L, σ, M, _, _, c, rs, e1, fun L1 H1 v s1 c1 r1 => ⟨j, by unfold zm Rep at r1; rw [r1], fun l hl => ⟨l, j, rfl, zAP, hb.1, hb.2, fun k hk => ?_⟩⟩⟩;have s2 : Stp L H L1 (upd H1 l (.rng 0 j)) := s1.trans (.upd hl);exact q L1 _ _ (s2.trans (.upd hk)) ((c1.upd hl).upd hk) (zm.newLst s2 c (c1.upd hl) hk (zK0 _))
   ·cases hf
  ·cases hf
section
variable {M : Mem} {σ : Sd} {P : EV -> Mem -> Prop}
theorem zPn (e : f σ M = some (.dat (.int j), M)) (h0 : 0 <= j) (h1 : j <= 16777216) (q : P (.fl (upD j.toNat)) M) : Ok (zDi f σ M) P := by
 refine ⟨_, _, ?_, q⟩;unfold zDi; rw [e]; dsimp only; rw [zS3 ⟨h0, h1⟩]
end
end
theorem zOx {P : Program} {w : World} {K : PySem.W.Frag} {mg : Str -> Option Value} {base : Heap} {k : Nat} {f : Addr} {fd : FuncData} {ps : List Str} {n : Nat} : FnOk P w K mg base CX0 k f fd ps (spF K n fun _ _ => none) := by
 have no : ∀ vs H Q E, ¬ spF K n (fun _ _ => none) vs H Q E := fun vs H Q E ⟨_, _, _, _, _, _, _, _, h, _⟩ => by cases h
 exact ⟨fun vs H Q E h => absurd h (no vs H Q E), fun A outer s H args us vs Q E _ _ _ _ h => absurd h (no vs H Q E)⟩
def zEl : Expr -> Bool
 | .Starred .. => false
 | _ => true
theorem zC (h : zEl e = true) : starEach (e :: es) env = (false, eval e env) :: starEach es env := by
 cases e <;> first | rfl | cases h
theorem zAD (h : zEl e = true) : starEach [e] env = [(false, eval e env)] := zC h
theorem zNt (h : zEl e = true) (h' : zEl e' = true) : starEach [e, e'] env = [(false, eval e env), (false, eval e' env)] := by rw [zC h, zAD h']
theorem zX : ∀ {es : List Expr}, es.all zEl = true -> (backTo pos (starEach es env)).any (·.1) = false
 | [], _ => rfl
 | e :: es, h => by
  rw [List.all_cons, zTO] at h;rw [zC h.1];have := zX (pos := pos) (env := env) h.2;simpa [backTo] using this
theorem Cor.pushO {K : PySem.W.Frag} {L : List Addr} {M : List MO} {H : Hp} {p : Addr} {o : HO} {m : MO} (c : Cor K L M H) (h : H p = none) (new : zFw K (L ++ [p]) (L2.upd H p o) p m) :
  Cor K (L ++ [p]) (M ++ [m]) (L2.upd H p o) /\ Stp L H (L ++ [p]) (L2.upd H p o) := by
 have hp : p ∉ L := fun z => by obtain ⟨o, e⟩ := c.tracked z; rw [h] at e; cases e
 have st : Stp L H (L ++ [p]) (L2.upd H p o) := by
  refine ⟨⟨[p], rfl⟩, fun a ha => ?_, fun a o e _ => ?_, fun a o e => ?_, fun a o u e => ?_⟩
  ·rcases zTE.mp ha with z | z
   ·exact .inl z
   ·have : a = p := by simpa using z
    subst this; exact .inr h
  all_goals (rw [zg (zAM e h)]; exact e)
 refine ⟨⟨by simp [c.len], ?_, fun n a m e1 e2 => ?_⟩, st⟩
 ·rw [zT7];exact ⟨c.nd, by simp, fun a ha b hb z => by
   have : b = p := by simpa using hb
   subst this; subst z; exact hp ha⟩
 ·by_cases hn : n < L.length
  ·rw [zSv hn] at e1;rw [zSv (by rw [<- c.len]; exact hn)] at e2;exact (c.obj n a m e1 e2).stp st fun o e => by rw [zg (zAM e h)]; exact e
  ·have hn' : n = L.length := by
    have := (zSr.mp e1).1;rw [zS4] at this;simp at this; omega
   subst hn';simp at e1;rw [c.len] at e2;simp at e2;subst e1; subst e2;exact new
theorem Cor.put {K : PySem.W.Frag} {L : List Addr} {M : List MO} {H : Hp} {n : Nat} {p : Addr} {o o' : HO} {m : MO} (c : Cor K L M H) (h1 : L[n]? = some p) (ho : H p = some o) (ht : ∀ xs, o ≠ .tup xs) (hf : ∀ a u, o ≠ .frz a u)
  (new : Stp L H L (L2.upd H p o') -> zFw K L (L2.upd H p o') p m) : Cor K L (M.set n m) (L2.upd H p o') /\ Stp L H L (L2.upd H p o') := by
 have st : Stp L H L (L2.upd H p o') := by
  refine ⟨⟨[], by simp⟩, fun a ha => .inl ha, fun a o e ha => ?_, fun a xs e => ?_, fun a b u e => ?_⟩
  ·rw [zg (show a ≠ p from fun z => ha (by rw [z]; exact List.mem_of_getElem? h1))]; exact e
  ·rw [zg (zGM e ho (fun z => ht xs z.symm))]; exact e
  ·rw [zg (zGM e ho (fun z => hf b u z.symm))]; exact e
 refine ⟨⟨by simp [c.len], c.nd, fun k a m' e1 e2 => ?_⟩, st⟩;rw [zUT] at e2;split at e2
 ·rename_i hk;subst hk;rw [h1] at e1; cases e1;split at e2
  ·cases e2; exact new st
  ·cases e2
 ·rename_i hk;have hne : a ≠ p := fun z => hk (by
   subst z;exact (List.getElem?_inj (zSr.mp h1).1 c.nd).mp (h1.trans e1.symm))
  exact (c.obj k a m' e1 e2).stp st fun o e => by rw [zg hne]; exact e
section
variable {X : Cx} {a b e : Expr} {pos : Pos} {f g : FE}
def zGS : FE := fun _ M => some (.dat (.ref M.length), M ++ [.dicT []])
theorem zHk : QE X (.Dict [] [] pos) zGS := .mk <| PE.imp zMW fun τ H Q ⟨L, σ, M, d, M', c, rs, hf, q⟩ p hp => by
 unfold zGS at hf;cases hf;obtain ⟨c2, s2⟩ := c.pushO (m := .dicT []) hp ⟨[], zAP, rfl⟩;refine q _ _ _ s2 c2 ?_;unfold zm Rep;exact ⟨p, rfl, by rw [<- c.len]; simp⟩
theorem zHs (h : Rep L H d v) (e : zF4 d = some k) : v = kV k := by
 cases d with
 | int i => cases e; unfold Rep at h; exact h
 | str x => cases e; unfold Rep at h; exact h
 | _ => cases e
def zKa (M : Mem) : EV -> Option (List D)
 | .fl xs => some xs
 | .dat (.ref n) => match M[n]? with
  | some (.lst xs) => some xs
  | _ => none
 | _ => none
theorem zMa {K : PySem.W.Frag} {L : List Addr} {M : Mem} {H H0 : Hp} {x : EV} {v : V} {xs : List D} (c : Cor K L M H) (r : zm H0 L H x v) (h : zKa M x = some xs) : ∃ a vs, v = .ref a /\ H a = some (.lst vs) /\ zW L H xs vs := by
 cases x with
 | fl ys =>
  cases h;obtain ⟨p, vs, rfl, _, e, _, r⟩ := r;exact ⟨p, vs, rfl, e, r⟩
 | dat d =>
  cases d with
  | ref n =>
   unfold zm Rep at r;obtain ⟨a, rfl, e⟩ := r;unfold zKa at h;dsimp only at h;split at h
   ·rename_i ys q;cases h;obtain ⟨vs, e1, r1⟩ := c.obj n a _ e q;exact ⟨a, vs, rfl, e1, r1⟩
   ·cases h
  | _ => cases h
def zHB : K2 := fun x y M => match zKa M x, zKa M y with
 | some xs, some ys => if xs.length + ys.length <= sizeLine then some (.fl (xs ++ ys), M) else none
 | _, _ => none
theorem zND {K : PySem.W.Frag} : zDE K zSF zHB := by
 intro L M M' H H0 x y d v w Q c rx ry hk q;unfold zHB at hk;split at hk
 ·rename_i xs ys e1 e2;split at hk
  ·rename_i hz;cases hk;obtain ⟨l, vs, rfl, h1, r1⟩ := zMa c rx e1;obtain ⟨l2, ws, rfl, h2, r2⟩ := zMa c ry e2;refine ⟨l, l2, vs, ws, rfl, rfl, h1, h2, by rw [r1.length, r2.length]; exact hz, fun p hp => ?_⟩;exact q L _ _ (.upd hp) (c.upd hp) (zm.newLst (.refl L H) c c hp (r1.app r2))
  ·cases hk
 ·cases hk
theorem zQM (h1 : QE X a f) (h2 : QE X b g) : QE X (.BinOp a .Add b pos) (fOp zHB f g) := zKQ zND zQA h1 h2
theorem zQi (h1 : zKa M x = some xs) (h2 : zKa M y = some ys) (hz : xs.length + ys.length <= 100000) (q : P (.fl (xs ++ ys)) M) : Ok (zHB x y M) P := by
 refine ⟨_, _, ?_, q⟩;unfold zHB; rw [h1, h2]; dsimp only; rw [zS3 (zTF hz (by decide))]
end
end L3
namespace LR
open PySem PySem.Spec PyProof.Rows
open Sem (wp)
open Sem (wp)
open AutoSeq1 (wpAny_loadPart')
open Sem (wp)
open AutoSeq1 (wpAny_loadPart')
end LR
namespace L3
open PySem PySem.Spec PyProof.Rows L2
section
variable {X : Cx} {a b e o : Expr} {pos p apos cpos : Pos} {f g : FE}
def zBi : List D -> Option (List Int)
 | [] => some []
 | .int i :: r => match zBi r with
  | some bs => some (i :: bs)
  | none => none
 | _ => none
theorem zGJ : ∀ xs : List Int, zBi (xs.map D.int) = some xs
 | [] => rfl
 | x :: r => by rw [zS7]; unfold zBi; rw [zGJ r]
end
end L3
namespace L2
open PySem PySem.Spec PyProof.Rows
section
variable {prog : Program} {w : World} {A : Around} {E : Value -> Shared -> Prop} {R : Result -> Shared -> Prop} {s : Shared}
theorem zGz (I : Nat -> Shared -> Prop)
  (turn : ∀ n s, I n s -> wpAny (model prog w) A (pyNext it) (fun r s₁ => match r with
   | none => R (.ok .next) s₁
   | some v => wpAny (model prog w) A (letOwnedTupleGo target it v) (fun _ s₁' => wpAny (model prog w) A (assign target env v) (fun _ s₂ =>
     wpAny (model prog w) A (forIn ifs true fun c r => if r = true then do let ok <- isTrue c env (eval c env); pure (ForInStep.yield ok) else pure (ForInStep.yield r)) (fun ok s₃ =>
      if ok = true then wpAny (model prog w) A (eval kx env) (fun kv s₄ => wpAny (model prog w) A (eval vx env) (fun vv s₅ =>
       wpAny (model prog w) A (dictSet D kv vv) (fun _ s₆ => ∃ m, m < n /\ I m s₆) (fun _ _ => False) s₅) (fun _ _ => False) s₄) (fun _ _ => False) s₃
      else ∃ m, m < n /\ I m s₃) (fun _ _ => False) s₂) (fun _ _ => False) s₁') (fun _ _ => False) s₁) (fun _ _ => False) s)
  (n : Nat) (h : I n s) :
  codeAny (model prog w) A (.compLoop (.DictComp kx vx [⟨target, iter, ifs, 0⟩] scope pos) 0 it (.ref D) env) R s := by
 refine codeAny_loop rfl I (fun n s hI => ?_) n h;show wpAny _ A ((compTurn (.DictComp kx vx [⟨target, iter, ifs, 0⟩] scope pos) 0 it (.ref D) env).onRaise (fun x => do noteFrame x env; theTreesLotGoes x)) _ _ s;refine wpAny_noted ?_;rw [compTurn_dict];refine zSo (zTm (zSo (zTK (turn n s hI) (fun r s₁ h₁ => ?_) fun _ _ h' => h'.elim)));cases r with
 | none => exact zSq h₁
 | some v =>
  refine zSo (zTK h₁ (fun _ s₁' h₁' => ?_) fun _ _ h' => h'.elim);refine zSo (zTK h₁' (fun _ s₂ h₂ => zSo (zTK h₂ (fun ok s₃ h₃ => ?_) fun _ _ h' => h'.elim)) fun _ _ h' => h'.elim);cases ok with
  | false => exact zSq ⟨rfl, h₃⟩
  | true =>
   exact zSo (zSo (zTK h₃ (fun kv s₄ h₄ => zSo (zTh (zTK h₄ (fun vv s₅ h₅ => zSo (zTm (zTh (zTK h₅ (fun _ s₆ h₆ => zSq ⟨rfl, h₆⟩) fun _ _ h' => h'.elim)))) fun _ _ h' => h'.elim))) fun _ _ h' => h'.elim))
theorem zHp (elt target iter : Expr) (ifs : List Expr) (scope : Scope) (pos : Pos) (it acc : Value) (env : Env) :
  compTurn (.SetComp elt [⟨target, iter, ifs, 0⟩] scope pos) 0 it acc env = (do
   standAt iter.pos;match <- pyNext it with
   | none => pure (.done .next)
   | some v =>
    letOwnedTupleGo target it v;assign target env v;let mut ok := true
    for c in ifs do
     if ok then ok <- isTrue c env (eval c env)
    if ok then (do let v <- eval elt env; standAt elt.pos; let _ <- call (.builtin "set.add") [acc, v])
    again (.compLoop (.SetComp elt [⟨target, iter, ifs, 0⟩] scope pos) 0 it acc env)) := by rfl
theorem zIN (I : Nat -> Shared -> Prop)
  (turn : ∀ n s, I n s -> wpAny (model prog w) A (pyNext it) (fun r s₁ => match r with
   | none => R (.ok .next) s₁
   | some v => wpAny (model prog w) A (letOwnedTupleGo target it v) (fun _ s₁' => wpAny (model prog w) A (assign target env v) (fun _ s₂ =>
     wpAny (model prog w) A (forIn ifs true fun c r => if r = true then do let ok <- isTrue c env (eval c env); pure (ForInStep.yield ok) else pure (ForInStep.yield r)) (fun ok s₃ =>
      if ok = true then wpAny (model prog w) A (eval elt env) (fun x s₄ =>
       wpAny (model prog w) A (call (.builtin "set.add") [acc, x]) (fun _ s₅ => ∃ m, m < n /\ I m s₅) (fun _ _ => False) s₄) (fun _ _ => False) s₃
      else ∃ m, m < n /\ I m s₃) (fun _ _ => False) s₂) (fun _ _ => False) s₁') (fun _ _ => False) s₁) (fun _ _ => False) s)
  (n : Nat) (h : I n s) :
  codeAny (model prog w) A (.compLoop (.SetComp elt [⟨target, iter, ifs, 0⟩] scope pos) 0 it acc env) R s := by
 refine codeAny_loop rfl I (fun n s hI => ?_) n h;show wpAny _ A ((compTurn (.SetComp elt [⟨target, iter, ifs, 0⟩] scope pos) 0 it acc env).onRaise (fun x => do noteFrame x env; theTreesLotGoes x)) _ _ s;refine wpAny_noted ?_;rw [zHp];refine zSo (zTm (zSo (zTK (turn n s hI) (fun r s₁ h₁ => ?_) fun _ _ h' => h'.elim)));cases r with
 | none => exact zSq h₁
 | some v =>
  refine zSo (zTK h₁ (fun _ s₁' h₁' => ?_) fun _ _ h' => h'.elim);refine zSo (zTK h₁' (fun _ s₂ h₂ => zSo (zTK h₂ (fun ok s₃ h₃ => ?_) fun _ _ h' => h'.elim)) fun _ _ h' => h'.elim);cases ok with
  | false => exact zSq ⟨rfl, h₃⟩
  | true =>
   exact zSo (zSo (zTK h₃ (fun x s₄ h₄ => zSo (zTm (zSo (zTK h₄ (fun _ s₅ h₅ => zSq (zSq ⟨rfl, h₅⟩)) fun _ _ h' => h'.elim)))) fun _ _ h' => h'.elim))
end
end L2
namespace LR
open PySem PySem.Spec PyProof.Rows
open Sem (wp)
end LR
namespace L3
open PySem PySem.Spec PyProof.Rows L2
end L3
namespace ST
open PySem
abbrev Up (xs : Array Nat) : Prop := xs.toList.Pairwise (· < ·)
theorem Up.get (h : Up xs) (hik : i < k) (hk : k < xs.size) : xs[i]'(by omega) < xs[k] := by
 have := List.pairwise_iff_getElem.mp h i k (by simpa using (show i < xs.size by omega)) (by simpa using hk) hik;simpa using this
theorem zHl (h : Up xs) (j : Nat) : ∀ (fuel lo hi : Nat), lo <= hi -> hi <= xs.size -> hi - lo <= fuel -> (∀ i (hi' : i < xs.size), i < lo -> xs[i] < j) -> (∀ i (hi' : i < xs.size), hi <= i -> j <= xs[i]) ->
  (SetTable.below.go xs j fuel lo hi <= xs.size) /\ (∀ i (hi' : i < xs.size), i < SetTable.below.go xs j fuel lo hi -> xs[i] < j) /\ (∀ i (hi' : i < xs.size), SetTable.below.go xs j fuel lo hi <= i -> j <= xs[i])
 | 0, lo, hi, h1, h2, h3, a, b => by
  have : lo = hi := by omega
  subst this;unfold SetTable.below.go;exact ⟨h2, a, b⟩
 | fuel + 1, lo, hi, h1, h2, h3, a, b => by
  unfold SetTable.below.go;by_cases hl : lo < hi
  ·rw [zS3 hl];dsimp only;have hm : (lo + hi) / 2 < xs.size := by omega
   have eg : xs.getD ((lo + hi) / 2) j = xs[(lo + hi) / 2] := by simp [Array.getD, hm]
   rw [eg];by_cases hc : xs[(lo + hi) / 2] < j
   ·rw [zS3 hc];refine zHl h j fuel _ _ (by omega) h2 (by omega) (fun i hi' hlt => ?_) b;rcases zUF i ((lo + hi) / 2) with z | z
    ·exact Nat.lt_trans (h.get z hm) hc
    ·have : i = (lo + hi) / 2 := by omega
     subst this; exact hc
   ·rw [zS6 hc];refine zHl h j fuel _ _ (by omega) (by omega) (by omega) a (fun i hi' hge => ?_);rcases zUF ((lo + hi) / 2) i with z | z
    ·have := h.get z hi'; omega
    ·have : i = (lo + hi) / 2 := by omega
     subst this; omega
  ·rw [zS6 hl];have : lo = hi := by omega
   subst this;exact ⟨h2, a, b⟩
theorem zC7 (h : Up xs) (j : Nat) : SetTable.below xs j <= xs.size /\ (∀ i (hi' : i < xs.size), i < SetTable.below xs j -> xs[i] < j) /\ (∀ i (hi' : i < xs.size), SetTable.below xs j <= i -> j <= xs[i]) := by
 unfold SetTable.below;exact zHl h j xs.size 0 xs.size (zTa _) (zSu _) (by omega) (fun i _ z => by omega) (fun i hi' z => by omega)
theorem zJ8 (h : Up xs) : SetTable.below xs 0 = 0 := by
 obtain ⟨a, b, c⟩ := zC7 h 0;rcases Nat.eq_zero_or_pos (SetTable.below xs 0) with z | z
 ·exact z
 ·have := b 0 (by omega) z; omega
theorem zJ1 (h : Up xs) (hk : k < xs.size) : SetTable.below xs (xs[k] + 1) = k + 1 := by
 obtain ⟨a, b, c⟩ := zC7 h (xs[k] + 1);rcases Nat.lt_trichotomy (SetTable.below xs (xs[k] + 1)) (k + 1) with z | z | z
 ·have := c k hk (by omega); omega
 ·exact z
 ·have h1 : k + 1 < xs.size := by omega
  have := b (k + 1) h1 z;have := h.get (show k < k + 1 by omega) h1;omega
theorem zFX {α : Type} (xs : Array α) (p : Nat) (x : α) : (SetTable.insertAt xs p x).toList = xs.toList.take p ++ x :: xs.toList.drop p := by
  unfold SetTable.insertAt;simp;have : xs.toList.length <= xs.size := by simp
  rw [List.take_of_length_le (by simp)]
theorem zLa (h : Up xs) (hj : j ∉ xs.toList) : Up (SetTable.insertAt xs (SetTable.below xs j) j) := by
  obtain ⟨a, b, c⟩ := zC7 h j;unfold Up;rw [zFX];rw [List.pairwise_append];have hT : ∀ x ∈ xs.toList.take (SetTable.below xs j), x < j := fun x hx => by
    obtain ⟨i, hi, e⟩ := zUx hx;rw [List.getElem_take] at e;rw [zUH] at hi
    have h1 : i < xs.size := by have : xs.toList.length = xs.size := by simp
                                omega
    have := b i h1 (by omega);rw [<- e]; simpa using this
  have hD : ∀ x ∈ xs.toList.drop (SetTable.below xs j), j < x := fun x hx => by
    obtain ⟨i, hi, e⟩ := zUx hx;rw [List.getElem_drop] at e;rw [zVN] at hi
    have h1 : SetTable.below xs j + i < xs.size := by have : xs.toList.length = xs.size := by simp
                                                      omega
    have h2 := c _ h1 (by omega);have h3 : x ≠ j := fun z => hj (z ▸ List.mem_of_mem_drop hx);have e' : xs[SetTable.below xs j + i] = x := by simpa using e
    omega
  refine ⟨h.sublist (List.take_sublist _ _), List.pairwise_cons.mpr ⟨hD, h.sublist (List.drop_sublist _ _)⟩, fun x hx y hy => ?_⟩;rcases zS0.mp hy with z | z
  · rw [z]; exact hT x hx
  · exact Nat.lt_trans (hT x hx) (hD y z)
theorem zHi (j : Nat) : SetTable.has #[] j = false := by
 unfold SetTable.has; simp
theorem zJ5 {t : SetTable} (h : Up t.place) (he : t.slot j = .empty) : j ∉ t.place.toList := fun hm => by
 obtain ⟨a, b, c⟩ := zC7 h j;obtain ⟨k, hk, e⟩ := zUx hm;have hk' : k < t.place.size := by simpa using hk
 have e' : t.place[k] = j := by simpa using e
 have eb : SetTable.below t.place j = k := by
  rcases Nat.lt_trichotomy (SetTable.below t.place j) k with z | z | z
  ·have h1 : SetTable.below t.place j < t.place.size := by omega
   have := c _ h1 (zSu _);have := h.get z hk';omega
  ·exact z
  ·have := b k hk' z; omega
 unfold SetTable.slot at he;dsimp only at he;rw [eb, zS3 (by simp [hk', e'])] at he;cases he
theorem zJf (hd : t.dummies = #[]) : ∀ (fuel : Nat) (p : SetTable.Probe) {j : Nat} {d : Option Nat}, p.dummy = none -> SetTable.probe.go t hashAt h fuel p = some (.empty j d) -> d = none /\ t.slot j = .empty
 | 0, _, _, _, _, e => by unfold SetTable.probe.go at e; cases e
 | fuel + 1, p, j, d, hp, e => by
  unfold SetTable.probe.go at e;split at e
  ·rename_i hs;cases e;exact ⟨hp, hs⟩
  ·rename_i hs;unfold SetTable.slot at hs;dsimp only at hs;rw [hd, zHi] at hs;split at hs <;> first | cases hs | simp at hs
  ·split at e
   ·cases e
   ·refine zJf hd fuel _ ?_ e;unfold SetTable.advance;split <;> simp [hp]
theorem zLJ {t : SetTable} (hu : Up t.place) (hd : t.dummies = #[]) (e : t.freeSlot h = some (j, b)) : b = false /\ j ∉ t.place.toList := by
 unfold SetTable.freeSlot at e;split at e
 ·rename_i j' d hp;unfold SetTable.probe at hp;obtain ⟨h1, h2⟩ := zJf hd _ _ (by rfl) hp;subst h1;simp at e;obtain ⟨rfl, rfl⟩ := e;exact ⟨rfl, zJ5 hu h2⟩
 ·cases e
structure TabOk (w : World) (t : SetTable) : Prop where
 led : t.led = !w.params.followText "set-order"
 up : Up t.place
 nod : t.dummies = #[]
theorem zOR (n : Nat) : Up (Array.range n) := by
 unfold Up;rw [Array.toList_range];exact List.pairwise_lt_range
theorem TabOk.standIn (h : TabOk w t) (n : Nat) : TabOk w (t.standIn n) := ⟨h.led, zOR n, rfl⟩
theorem TabOk.orStandIn (h : TabOk w t) (n : Nat) : TabOk w (t.orStandIn n) := by
 unfold SetTable.orStandIn;split
 ·exact h
 ·exact h.standIn n
theorem TabOk.put (h : TabOk w t) (hj : j ∉ t.place.toList) : TabOk w (t.put j).1 := by
 unfold SetTable.put;refine ⟨h.led, zLa h.up hj, ?_⟩;show (if SetTable.has t.dummies j = true then _ else t.dummies) = #[];rw [h.nod, zHi]; rfl
theorem TabOk.layNew (h : TabOk w t) (es : Array (Int × Value)) (hh : Int) (x : Value) : TabOk w (layNew t es hh x).2.1 := by
 unfold PySem.layNew;split
 ·rename_i j b e;exact (h.put (zLJ h.up h.nod e).2).orStandIn _
 ·exact h.standIn _
theorem TabOk.relaid (h : TabOk w t) (e : t.relaid hs wanted = some (t', order)) : TabOk w t' := by
 unfold SetTable.relaid SetTable.laid at e;cases q : SetTable.layClean (SetTable.sizeAbove wanted - 1) hs with
 | none => rw [q] at e; cases e
 | some owner =>
  rw [q] at e;simp only [Option.bind_eq_bind, Option.bind_some, Option.pure_def, Option.some.injEq, Prod.mk.injEq] at e;obtain ⟨rfl, _⟩ := e;refine ⟨h.led, ?_, rfl⟩;unfold Up;dsimp only;rw [List.pairwise_map, List.pairwise_filterMap];refine List.pairwise_lt_range.imp fun {a b} hab x hx y hy => ?_;cases o1 : owner.getD a none with
  | none => rw [o1] at hx; cases hx
  | some u =>
   cases o2 : owner.getD b none with
   | none => rw [o2] at hy; cases hy
   | some v =>
    rw [o1] at hx; rw [o2] at hy;cases hx; cases hy;exact hab
theorem TabOk.relayAll (h : TabOk w t) (es : Array (Int × Value)) (wanted : Nat) : TabOk w (relayAll t es wanted).2.1 := by
 unfold PySem.relayAll;split
 ·rename_i t' order e;dsimp only;split
  ·exact h.relaid e
  ·exact h.standIn _
 ·exact h.standIn _
theorem TabOk.plain (h : TabOk w t) (b : Bool) : TabOk w { t with plain := b } := ⟨h.led, h.up, h.nod⟩
theorem TabOk.fresh : TabOk w (SetTable.fresh 0 0 (!w.params.followText "set-order")) := ⟨rfl, List.Pairwise.nil, rfl⟩
open Sem (wp)
inductive F2 {α β : Type} (R : α -> β -> Prop) : List α -> List β -> Prop
 | nil : F2 R [] []
 | cons {x y xs ys} : R x y -> F2 R xs ys -> F2 R (x :: xs) (y :: ys)
section
variable {prog : Program} {w : World} {K : Type} [DecidableEq K]
def zQe (knd : KeyKind prog w K) (e : Int × Value) (k : K) : Prop := (knd.is k e.2 = true /\ e.1 = knd.hash k) /\ e.2.scannable = true
structure SetK (knd : KeyKind prog w K) (o : Obj) (es : Array (Int × Value)) (ep : Nat) (t : SetTable) (ks : List K) : Prop where
 ex : o.ExactSet
 data : o.data = .set es ep t
 tab : TabOk w t
 fits : t.fits es.size = true
 bound : es.size < scanBound
 ent : ∃ ks', ks'.Perm ks /\ F2 (zQe knd) es.toList ks'
def ins (ks : List K) (k : K) : List K := if k ∈ ks then ks else ks ++ [k]
variable {knd : KeyKind prog w K} {o : Obj} {es : Array (Int × Value)} {ep : Nat} {t : SetTable} {ks : List K}
theorem zDj {α β : Type} {R : α -> β -> Prop} : ∀ {xs : List α} {ys : List β}, F2 R xs ys -> xs.length = ys.length
 | _, _, .nil => rfl
 | _, _, .cons _ h => by simp [zDj h]
theorem zDn {α β : Type} {R : α -> β -> Prop} : ∀ {xs : List α} {ys : List β}, F2 R xs ys -> ∀ x ∈ xs, ∃ y ∈ ys, R x y
 | _, _, .nil, x, hx => by cases hx
 | _, _, .cons h r, x, hx => by
  rcases zS0.mp hx with z | z
  ·subst z; exact ⟨_, zS2, h⟩
  ·obtain ⟨y, hy, q⟩ := zDn r x z; exact ⟨y, zS1 _ hy, q⟩
theorem zEm {α β : Type} {R : α -> β -> Prop} : ∀ {xs : List α} {ys : List β}, F2 R xs ys -> ∀ y ∈ ys, ∃ x ∈ xs, R x y
 | _, _, .nil, x, hx => by cases hx
 | _, _, .cons h r, x, hx => by
  rcases zS0.mp hx with z | z
  ·subst z; exact ⟨_, zS2, h⟩
  ·obtain ⟨y, hy, q⟩ := zEm r x z; exact ⟨y, zS1 _ hy, q⟩
theorem zDt {α β : Type} {R : α -> β -> Prop} : ∀ {xs : List α} {ys : List β} {us : List α} {vs : List β}, F2 R xs ys -> F2 R us vs -> F2 R (xs ++ us) (ys ++ vs)
 | _, _, _, _, .nil, h => h
 | _, _, _, _, .cons h r, q => .cons h (zDt r q)
theorem zEU {α β : Type} {R : α -> β -> Prop} {xs xs' : List α} (p : xs'.Perm xs) : ∀ {ys : List β}, F2 R xs ys -> ∃ ys', ys'.Perm ys /\ F2 R xs' ys' := by
 have p' := p.symm;clear p;induction p' with
 | nil => intro ys h; exact ⟨ys, .refl _, h⟩
 | cons x _ ih =>
  intro ys h;cases h with
  | cons h r =>
   obtain ⟨ys', q1, q2⟩ := ih r;exact ⟨_, q1.cons _, .cons h q2⟩
 | swap x y l =>
  intro ys h;cases h with
  | cons h r =>
   cases r with
   | cons h2 r =>
    exact ⟨_, List.Perm.swap _ _ _, .cons h2 (.cons h r)⟩
 | trans _ _ ih1 ih2 =>
  intro ys h;obtain ⟨ys', q1, q2⟩ := ih1 h;obtain ⟨ys'', r1, r2⟩ := ih2 q2;exact ⟨ys'', r1.trans q1, r2⟩
theorem SetK.size (h : SetK knd o es ep t ks) : es.size = ks.length := by
 obtain ⟨ks', p, f⟩ := h.ent;rw [<- p.length_eq, <- zDj f, zTX]
theorem SetK.elems (h : SetK knd o es ep t ks) : ElemsOf knd es.toList := fun e he => by
 obtain ⟨ks', p, f⟩ := h.ent;obtain ⟨k, _, q⟩ := zDn f e he;exact ⟨⟨k, q.1⟩, q.2⟩
theorem SetK.mem (h : SetK knd o es ep t ks) (k : K) : k ∈ ks ↔ ∃ e ∈ es.toList, knd.is k e.2 = true := by
 obtain ⟨ks', p, f⟩ := h.ent;rw [<- p.mem_iff];constructor
 ·intro hk;obtain ⟨e, he, q⟩ := zEm f k hk;exact ⟨e, he, q.1.1⟩
 ·rintro ⟨e, he, q⟩;obtain ⟨k', hk', q'⟩ := zDn f e he;rw [knd.inj e.2 k k' q q'.1.1]; exact hk'
variable {A : Around} {E : Value -> Shared -> Prop} {s : Shared} {a : Addr} {k : K} {x : Value}
theorem SetK.typeIs (h : SetK knd o es ep t ks) (ho : s.heap.get? a = some o) : s.TypeIs (.ref a) "set" := ⟨o, ho, h.ex.1⟩
theorem zHe {h : Heap} (ho : h.get? a = some o) (hd : o.data = .set es ep t) :
  (h.update a (Obj.putSet es' t')).get? a = some { o with data := .set es' (ep + 1) t' } := by
 have := zTb (Obj.putSet es' t') ho (by rw [putSet_of es' t' hd]; rfl);rw [putSet_of es' t' hd] at this; exact this
theorem zFW {Q : Bool -> Shared -> Prop} (hkey : knd.is k x = true) (hsc : x.scannable = true) (ho : s.heap.get? a = some o) (hS : SetK knd o es ep t ks) (hroom : ks.length + 1 < scanBound)
  (h : ∀ h' o' es' ep' t' b, Heap.SameBut a s.heap h' -> h'.get? a = some o' -> SetK knd o' es' ep' t' (ins ks k) -> Q b { s with heap := h' }) :
  wpAny (model prog w) A (setAddHashed a x (knd.hash k)) Q E s := by
 have hd := hS.data;have hf := hS.fits;have hel := hS.elems;have hb := hS.bound;have hb1 : es.size + 1 < scanBound := by rw [hS.size]; exact hroom
 unfold setAddHashed setAddHashedIn;refine zTh (zSo (wpAny_setState_of ho hd hf ?_));dsimp only;rw [byScan_of hsc hb hel];simp only [↓reduceIte];unfold setAddByScan;refine zSo ?_;refine zSo (zUG ?_);refine zSo (wpAny_setScan_of hkey ho hd hf hel ?_);cases hr : List.findIdx? (fun e => knd.is k e.2) es.toList with
 | some j =>
  dsimp only;obtain ⟨hj, hpj, _⟩ := List.findIdx?_eq_some_iff_getElem.mp hr;have hSk : k ∈ ks := (hS.mem k).mpr ⟨es.toList[j], zTM hj, hpj⟩;refine zSq (zSq ?_);have e : s = { s with heap := s.heap } := by cases s; rfl
  rw [e];refine h s.heap o es ep t _ (Heap.SameBut.refl a s.heap) ho ?_;unfold ins;rw [zS3 hSk]; exact hS
 | none =>
  dsimp only;have hSk : k ∉ ks := fun hk => by
   obtain ⟨e, he, hp⟩ := (hS.mem k).mp hk; have := List.findIdx?_eq_none_iff.mp hr e he; rw [hp] at this; exact Bool.noConfusion this
  have hgw : ∀ (b : Bool) {s₁ : Shared} {Q' : Unit -> Shared -> Prop}, Q' () s₁ -> wpAny (model prog w) A (match b with | true => rule "set.scan.the-table-gave-way" | false => pure ()) Q' E s₁ :=
   fun b s₁ Q' hq => by cases b <;> first | exact zSq hq | exact zUG hq
  have hperm := layNew_perm t es (knd.hash k) x;have hfits := layNew_fits t es (knd.hash k) x;have htab := hS.tab.layNew es (knd.hash k) x;generalize hL : layNew t es (knd.hash k) x = L at hperm hfits htab ⊢;obtain ⟨es1, t1, wasDummy, gave⟩ := L;dsimp only at hperm hfits htab ⊢;rw [Array.toList_push] at hperm;have hb1' : es1.size < scanBound := by rw [<- zTX, hperm.length_eq, zS4, zTX]; simpa using hb1
  obtain ⟨ks', p, f⟩ := hS.ent;have f1 : F2 (zQe knd) (es.toList ++ [(knd.hash k, x)]) (ks' ++ [k]) := zDt f (.cons ⟨⟨hkey, rfl⟩, hsc⟩ .nil);obtain ⟨ks1, p1, f2⟩ := zEU hperm f1;have pI : ks1.Perm (ins ks k) := by
   unfold ins;rw [zS6 hSk];exact p1.trans (p.append_right _)
  refine zSo (hgw _ ?_)
  have tail : ∀ t2 : SetTable, TabOk w t2 -> t2.fits es1.size = true -> wpAny (model prog w) A (do
    storeSet a es1 t2
    if (!wasDummy && t2.tooFull) = true then do
      (match (relayAll t2 es1 (SetTable.grown es1.size)).2.2 with | true => rule "set.scan.the-table-gave-way" | false => pure ())
      storeSet a (relayAll t2 es1 (SetTable.grown es1.size)).1 (relayAll t2 es1 (SetTable.grown es1.size)).2.1;pure (some true)
     else pure (some true)) (fun r s' => wpAny (model prog w) A (match r with | some added => pure added | none => setAddHashedIn a x (knd.hash k) 99999) Q E s') E s := by
   intro t2 T2 F2;refine zSo (wpAny_storeSet_of ho hd ?_ (fits_of_scanBound hb1'));have g1 := zHe (es' := es1) (t' := t2) ho hd;have sb1 := zTr s.heap a (Obj.putSet es1 t2);have S1 : SetK knd { o with data := .set es1 (ep + 1) t2 } es1 (ep + 1) t2 (ins ks k) := ⟨hS.ex, rfl, T2, F2, hb1', ks1, pI, f2⟩;split
   ·have hp := relayAll_perm t2 es1 (SetTable.grown es1.size);have hfr := relayAll_fits t2 es1 (SetTable.grown es1.size);have htr := T2.relayAll es1 (SetTable.grown es1.size);generalize hRl : relayAll t2 es1 (SetTable.grown es1.size) = Rl at hp hfr htr ⊢;obtain ⟨es2, t3, gave2⟩ := Rl;dsimp only at hp hfr htr ⊢;have hsz : es2.size = es1.size := by rw [<- zTX, hp.length_eq, zTX]
    have hb2 : es2.size < scanBound := by rw [hsz]; exact hb1'
    obtain ⟨ks2, p2, f3⟩ := zEU hp f2;refine zSo (hgw _ ?_);refine zSo (wpAny_storeSet_of g1 rfl ?_ (fits_of_scanBound hb2));have g2 := zHe (es' := es2) (t' := t3) g1 rfl;exact zSq (zSq (h _ _ _ _ _ _ (sb1.trans (zTr _ a _)) g2 ⟨hS.ex, rfl, htr, hfr, hb2, ks2, p2.trans pI, f3⟩))
   ·exact zSq (zSq (h _ _ _ _ _ _ sb1 g1 S1))
  split
  ·refine zSo ?_;rw [hashByValue_scannable 8 hsc];refine zSq ?_;refine tail _ ?_ ?_
   ·split
    ·exact htab
    ·exact htab.plain _
   ·split
    ·exact hfits
    ·exact SetTable.fits_plain_off hfits
  ·refine zSo (zSq ?_);simp only [↓reduceIte];exact tail _ htab hfits
theorem zNL (hkey : knd.is k x = true) (hsc : x.scannable = true) (ho : s.heap.get? a = some o) (hS : SetK knd o es ep t ks) (hroom : ks.length + 1 < scanBound)
  (h : ∀ h' o' es' ep' t', Heap.SameBut a s.heap h' -> h'.get? a = some o' -> SetK knd o' es' ep' t' (ins ks k) -> Q .none { s with heap := h', toks := s.toks + 1 }) :
  wpAny (model prog w) A (call (.builtin "set.add") [.ref a, x]) Q E s := by
 refine zTR F.slot_set_add (hS.typeIs ho) F.entry_set_add ?_ (F.args_set_add_2 _ _);unfold Builtin.«set.add» Builtin.Frozenset.oneOther;simp only [List.isEmpty_nil, bind_assoc];unfold Builtin.Frozenset.addrOf setAdd;refine zSo (zSq ?_);try dsimp only
 refine zSo (zSq ?_);try dsimp only
 refine zSo ?_;refine zTh ?_;refine zSo (knd.pyHash hkey ?_);refine zFW (s := { s with toks := s.toks + 1 }) hkey hsc ho hS hroom fun h' o' es' ep' t' b hsb ho' hS' => ?_;show wpAny _ _ (ret Value.none) _ _ _;exact zSq ⟨_, rfl, h h' o' es' ep' t' hsb ho' hS'⟩
def zBx (w : World) : Obj := { cls := .type "set", dict := none, data := .set #[] 0 (.fresh 0 0 (!w.params.followText "set-order")) }
theorem SetK.fresh : SetK knd (zBx w) #[] 0 (.fresh 0 0 (!w.params.followText "set-order")) [] := ⟨⟨rfl, rfl, rfl⟩, rfl, .fresh, by rfl, by decide, [], .refl _, .nil⟩
theorem zLn (h : Q (.ref s.heap.objs.size) { s with heap := s.heap.push (zBx w) }) :
  wpAny (model prog w) A (newSet (.type "set")) Q E s := by
 unfold newSet setsByText;refine zSo (zSo (wpAny_askSetting (zSq ?_)));dsimp only;simp only [newObj];exact zSo (wpAny_alloc (zSq h))
end
open PySem.Spec PyProof.Rows
open Sem (wp)
theorem zIr : Manifest.owners.lookup (String.ofList ['r', 'o', 't', 'a', 'r', 'e', 't', 'i', '_', 't', 'e', 's'].reverse) = some Manifest.sig_set_iterator := by kernel_rfl
theorem zAG : Slot "set_iterator" "__next__" "set_iterator.__next__" := .of (owner := "set_iterator") (n := "__next__") (by rw [typeLookup_type, builtinLookup_eq_fast]; kernel_rfl) (by decide +kernel) (by decide +kernel) (by decide +kernel) (by first | exact .inl (by decide +kernel) | exact .inr (by decide +kernel)) (by rw [isSubtype_type]; kernel_rfl)
theorem zER : Slot "set_iterator" "__iter__" "set_iterator.__iter__" := .of (owner := "set_iterator") (n := "__iter__") (by rw [typeLookup_type, builtinLookup_eq_fast]; kernel_rfl) (by decide +kernel) (by decide +kernel) (by decide +kernel) (by first | exact .inl (by decide +kernel) | exact .inr (by decide +kernel)) (by rw [isSubtype_type]; kernel_rfl)
theorem zCA (a : Value) : argsOk "set_iterator.__next__" ⟨[a], []⟩ := by
 unfold argsOk; rw [signature?_of (id := "set_iterator.__next__") (n := ['_', '_', 't', 'x', 'e', 'n', '_', '_']) (o := ['r', 'o', 't', 'a', 'r', 'e', 't', 'i', '_', 't', 'e', 's']) (by kernel_rfl) zIr]; kernel_rfl
theorem zIT (a : Value) : argsOk "set_iterator.__iter__" ⟨[a], []⟩ := by
 unfold argsOk; rw [signature?_of (id := "set_iterator.__iter__") (n := ['_', '_', 'r', 'e', 't', 'i', '_', '_']) (o := ['r', 'o', 't', 'a', 'r', 'e', 't', 'i', '_', 't', 'e', 's']) (by kernel_rfl) zIr]; kernel_rfl
theorem zBt : entryFor table "set_iterator.__next__" = some Builtin.«set_iterator.__next__» := entryFor_of_tree (by kernel_rfl)
theorem zGu : entryFor table "set_iterator.__iter__" = some Builtin.«dict_keyiterator.__iter__» :=
 entryFor_alias (id' := "dict_keyiterator.__iter__") (by kernel_rfl) (by first | rfl | decide +kernel | (unfold String.splitOn; simp +decide [String.splitOnAux])) (by decide +kernel) (by kernel_rfl)
theorem zGB : entryFor table "set.__iter__" = some Builtin.«frozenset.__iter__» :=
 entryFor_alias (id' := "frozenset.__iter__") (by kernel_rfl) rfl (by decide +kernel) (by kernel_rfl)
def zBO (f : Value) (i : Nat) (a : Addr) (n ep : Nat) : Obj := { cls := .type "set_iterator", data := .fields #[f, rawInt i, .ref a, rawInt n, rawInt ep] }
theorem zEI {α : Type} : ∀ {l : List α} {i : Nat} (h : i < l.length), (l[i] :: l.eraseIdx i).Perm l
 | [], i, h => by simp at h
 | x :: l, 0, h => by simp
 | x :: l, i + 1, h => by
  have := zEI (l := l) (i := i) (by simpa using h);rw [List.getElem_cons_succ, List.eraseIdx_cons_succ];exact (List.Perm.swap _ _ _).trans (this.cons x)
theorem zHS {α : Type} {l : List α} (h : i < l.length) (e : n + 1 = l.length) : n = (l.eraseIdx i).length := by
 rw [List.length_eraseIdx, zS3 h]; omega
theorem zHQ {α : Type} (next : Nat -> Nat) : ∀ (fuel k : Nat) (left : List α) (out : Array α), fuel = left.length -> (pickOrder.go next fuel k left out).toList.Perm (out.toList ++ left)
 | 0, k, left, out, h => by
  have : left = [] := List.length_eq_zero_iff.mp h.symm;subst this;unfold pickOrder.go;simp
 | fuel + 1, k, left, out, h => by
  unfold pickOrder.go;have hl : 0 < left.length := by omega
  have hm : next k % left.length < left.length := Nat.mod_lt _ hl
  rw [zSs hm];dsimp only;refine (zHQ next fuel (k + 1) _ _ (zHS hm h)).trans ?_;rw [Array.toList_push, zTu];exact (zEI hm).append_left _
theorem zDk {α : Type} (next : Nat -> Nat) (xs : Array α) : (pickOrder next xs).toList.Perm xs.toList := by
 unfold pickOrder;simpa using zHQ next xs.size 0 xs.toList #[] (by simp)
section
variable {prog : Program} {w : World} {A : Around} {E : Value -> Shared -> Prop} {s : Shared}
theorem zH2 (h0 : n ≠ 0) (h : ∀ r d, r < n -> Q r { s with drawn := d }) : wpAny (model prog w) A (choose src n) Q E s :=
 fun Γ p hΓ => ⟨h0, h _ _ (Nat.mod_lt _ (by omega))⟩
theorem zDS {α : Type} : ∀ (n : Nat) (xs : List α) {s : Shared} {Q : List α -> Shared -> Prop}, n = xs.length -> (∀ ys d, ys.Perm xs -> Q ys { s with drawn := d }) -> wpAny (model prog w) A (drawOrder n xs) Q E s
 | 0, xs, s, Q, h, q => by
  have : xs = [] := List.length_eq_zero_iff.mp h.symm;subst this;have e : s = { s with drawn := s.drawn } := by cases s; rfl
  rw [e];exact zSq (q [] s.drawn (.refl _))
 | n + 1, [], s, Q, h, q => by cases h
 | n + 1, x :: xs, s, Q, h, q => by
  unfold drawOrder;refine zSo (zH2 (by simp) fun r d hr => ?_);rw [zSs hr];dsimp only;refine zSo (zDS n _ (zHS hr h) fun ys d' hp => zSq ?_);exact q _ d' ((hp.cons _).trans (zEI hr))
variable {K : Type} [DecidableEq K] {knd : KeyKind prog w K} {o : Obj} {es : Array (Int × Value)} {ep : Nat} {t : SetTable} {ks : List K} {a I : Addr}
theorem zGU (h : s.heap.get? I = some (zBO f i a n ep)) : s.TypeIs (.ref I) "set_iterator" := ⟨_, h, rfl⟩
theorem zK1 (hI : s.heap.get? I = some (zBO f i a n ep)) (h : Q (.ref I) s) : wpAny (model prog w) A (pyIter (.ref I)) Q E s := by
 refine wpAny_pyIter_slot (zGU hI) zER (zTR zER (zGU hI) zGu ?_ (zIT _));show wpAny _ _ (ret (.ref I)) _ _ s;exact zSq ⟨_, rfl, "set_iterator", _, zGU hI, zAG.lookup, h⟩
structure Nexts (prog : Program) (w : World) (o : Obj) (a : Addr) (ep : Nat) (n : Nat) (at_ : Nat -> Nat) (ord : List Value) : Prop where
 len : ord.length = n
 nx : ∀ (A : Around) (E : Value -> Shared -> Prop) (i : Nat) (s : Shared) (Q : Option (Value × Nat) -> Shared -> Prop), i <= n -> s.heap.get? a = some o -> Q ((ord[i]?).map fun x => (x, at_ (i + 1))) s -> wpAny (model prog w) A (setNext a (at_ i) i ep) Q E s
theorem zMJ (N : Nexts prog w o a ep ks.length at_ ord) (hS : SetK knd o es ep t ks) (hI : s.heap.get? I = some (zBO (rawInt (at_ i)) i a ks.length ep)) (ho : s.heap.get? a = some o)
  (hx : ord[i]? = some x) (hQ : ∀ h', h'.get? I = some (zBO (rawInt (at_ (i + 1))) (i + 1) a ks.length ep) -> Heap.SameBut I s.heap h' -> Q (some x) { s with heap := h' }) : wpAny (model prog w) A (pyNext (.ref I)) Q E s := by
 have hT := zGU hI;have hi : i < ks.length := by have := (zSr.mp hx).1; rw [N.len] at this; exact this
 unfold pyNext;refine zSo (wpAny_attempt (zTQ (name := Str.ofString "__next__") hT zAG (zTR zAG hT zBt ?_ (zCA _))));unfold Builtin.«set_iterator.__next__» slotArgs;simp only [List.isEmpty_nil, Bool.not_true, zTp, ↓reduceIte, List.length_nil, bne_self_eq_false, pure_bind, bind_assoc];refine zSo (wpAny_fieldsOf hI rfl ?_);dsimp only [rawInt];refine zSo (wpAny_setEntries_of ho hS.data hS.fits ?_);rw [zS6 (by rw [hS.size]; simp)];refine zSo (N.nx _ _ i s _ (by omega) ho ?_);rw [hx];dsimp only [Option.map];refine zSo (wpAny_setField hI rfl (by simp) ?_);have e1 := zTb (Obj.mapFields fun vs => vs.set! 0 (rawInt (at_ (i + 1)))) hI (Obj.isFreed_of_fields (zUA rfl _));refine zSo (wpAny_setField e1 (zUA rfl _) (by simp) ?_);have e2 := zTb (Obj.mapFields fun vs => vs.set! 1 (rawInt ((i : Int) + 1))) e1 (Obj.isFreed_of_fields (zUA (zUA rfl _) _));refine zSq ⟨x, rfl, zSq (hQ _ ?_ ((zTr ..).trans (zTr ..)))⟩;refine e2.trans ?_;simp [Obj.mapFields, zBO, rawInt]
end
open Sem (wp)
section
variable {prog : Program} {w : World} {A : Around} {E : Value -> Shared -> Prop} {s : Shared}
variable {K : Type} [DecidableEq K] {knd : KeyKind prog w K} {o : Obj} {es : Array (Int × Value)} {ep : Nat} {t : SetTable} {ks : List K} {a I : Addr}
theorem zMe (hh : A.handled = none) (N : Nexts prog w o a ep ks.length at_ ord) (hS : SetK knd o es ep t ks) (hI : s.heap.get? I = some (zBO (rawInt (at_ ks.length)) ks.length a ks.length ep)) (ho : s.heap.get? a = some o)
  (hQ : ∀ h', Heap.ExtBut I s.heap h' -> Q none { s with heap := h' }) : wpAny (model prog w) A (pyNext (.ref I)) Q E s := by
 have hT := zGU hI;unfold pyNext;refine zSo (wpAny_attempt (zTQ (name := Str.ofString "__next__") hT zAG (zTR zAG hT zBt ?_ (zCA _))));unfold Builtin.«set_iterator.__next__» slotArgs;simp only [List.isEmpty_nil, Bool.not_true, zTp, ↓reduceIte, List.length_nil, bne_self_eq_false, pure_bind, bind_assoc];refine zSo (wpAny_fieldsOf hI rfl ?_);dsimp only [rawInt];refine zSo (wpAny_setEntries_of ho hS.data hS.fits ?_);rw [zS6 (by rw [hS.size]; simp)];refine zSo (N.nx _ _ ks.length s _ (zSu _) ho ?_);rw [List.getElem?_eq_none (by rw [N.len]; exact zSu _)];dsimp only [Option.map];refine zSo (wpAny_setField hI rfl (by simp) ?_);simp only [newExc, newTuple, bind_assoc, pure_bind];refine zSo (zTH (zSo (m := firstArgMember _ _) (wpAny_of_eq (a := Value.none) (by first | rfl | (simp only [firstArgMember]; rfl)) (zSo (zTH ?_ (by size_fits))))) (by size_fits));simp only [raiseNew];refine zSo (wpAny_handled ?_);rw [show A.in1.handled = none from hh];refine zSo (zSq (wpAny_throw ?_));refine zSo (wpAny_isInstance (T := "StopIteration") (b := true) ⟨_, zSy _ rfl, rfl⟩ isSubtype_stop (zSq ?_));exact hQ _ (((zTr ..).extBut.push _).push _)
theorem zJb (hh : A.handled = none) (hne : a ≠ I) (N : Nexts prog w o a ep ks.length at_ ord) (hS : SetK knd o es ep t ks) :
  Walks prog w A I [I, a] [I] ks.length (fun i v => ord[i]? = some v) (fun i h => h.get? I = some (zBO (rawInt (at_ i)) i a ks.length ep) /\ h.get? a = some o) where
 sub := fun b hb => by simp at hb; simp [hb]
 frame := fun _ _ _ st hk => ⟨hk I (by simp) _ st.1, hk a (by simp) _ st.2⟩;item := fun i s Q E hi st hQ => by
  have hx : ord[i]? = some (ord[i]'(by rw [N.len]; exact hi)) := zSs _;refine zMJ N hS st.1 st.2 hx fun h' hI' hs' => ?_;exact hQ _ h' s.toks hx ⟨hI', hs'.extBut a o hne st.2⟩ fun b u hb ee => hs'.extBut b u (fun h => hb (by simp [h])) ee
 done := fun s Q E st hQ => zMe hh N hS st.1 st.2 fun h' he' => hQ h' s.toks fun b u hb ee => he' b u (fun h => hb (by simp [h])) ee;self := fun _ _ _ _ st hQ => zK1 st.1 hQ
theorem zKe {pl : List Nat} (hS : SetK knd o es ep t ks) (hl : pl.length = ks.length) (hI : s.heap.get? I = some (zBO (.ref T) i a ks.length ep)) (ho : s.heap.get? a = some o)
  (hT : IsTup s.heap T (pl.map fun (k : Nat) => rawInt k).toArray)
  (hx : (pl[i]?).bind (fun k => (es[k]?).map (·.2)) = some x) (hQ : ∀ h', h'.get? I = some (zBO (.ref T) (i + 1) a ks.length ep) -> Heap.SameBut I s.heap h' -> Q (some x) { s with heap := h' }) : wpAny (model prog w) A (pyNext (.ref I)) Q E s := by
 have hTy := zGU hI;obtain ⟨oT, hoT, hcT, nT, hdT⟩ := id hT;cases hp : pl[i]? with
 | none => rw [hp] at hx; cases hx
 | some k =>
  rw [hp] at hx;cases he : es[k]? with
  | none => simp only [Option.bind_some] at hx; rw [he] at hx; cases hx
  | some e =>
   simp only [Option.bind_some] at hx;rw [he] at hx;cases hx;unfold pyNext;refine zSo (wpAny_attempt (zTQ (name := Str.ofString "__next__") hTy zAG (zTR zAG hTy zBt ?_ (zCA _))));unfold Builtin.«set_iterator.__next__» slotArgs;simp only [List.isEmpty_nil, Bool.not_true, zTp, ↓reduceIte, List.length_nil, bne_self_eq_false, pure_bind, bind_assoc];refine zSo (wpAny_fieldsOf hI rfl ?_);dsimp only [rawInt];refine zSo (wpAny_setEntries_of ho hS.data hS.fits ?_);rw [zS6 (by rw [hS.size]; simp)];refine zSo (zTe hoT hdT ?_);dsimp only;have e5 : (List.map (fun (k : Nat) => rawInt k) pl).toArray[(i : Int).toNat]? = some (rawInt k) := by simp [hp]
   rw [e5];dsimp only [rawInt];unfold setNextDrawn;simp only [bind_assoc];refine zSo (wpAny_setState_of ho hS.data hS.fits ?_);dsimp only;rw [zS6 (by simp)];have e6 : es[(k : Int).toNat]? = some e := by simpa using he
   rw [e6];obtain ⟨e1, e2⟩ := e;dsimp only;simp only [pure_bind];refine zSo (wpAny_setField hI rfl (by simp) ?_);refine zSq ⟨e2, rfl, zSq (hQ _ ?_ (zTr ..))⟩;refine (zTb _ hI (Obj.isFreed_of_fields (zUA rfl _))).trans ?_;simp [Obj.mapFields, zBO, rawInt]
theorem zMU {pl : List Nat} (hh : A.handled = none) (hS : SetK knd o es ep t ks) (hl : pl.length = ks.length) (hI : s.heap.get? I = some (zBO (.ref T) ks.length a ks.length ep)) (ho : s.heap.get? a = some o)
  (hT : IsTup s.heap T (pl.map fun (k : Nat) => rawInt k).toArray) (hQ : ∀ h', Heap.ExtBut I s.heap h' -> Q none { s with heap := h' }) : wpAny (model prog w) A (pyNext (.ref I)) Q E s := by
 have hTy := zGU hI;obtain ⟨oT, hoT, hcT, nT, hdT⟩ := id hT;unfold pyNext;refine zSo (wpAny_attempt (zTQ (name := Str.ofString "__next__") hTy zAG (zTR zAG hTy zBt ?_ (zCA _))));unfold Builtin.«set_iterator.__next__» slotArgs;simp only [List.isEmpty_nil, Bool.not_true, zTp, ↓reduceIte, List.length_nil, bne_self_eq_false, pure_bind, bind_assoc];refine zSo (wpAny_fieldsOf hI rfl ?_);dsimp only [rawInt];refine zSo (wpAny_setEntries_of ho hS.data hS.fits ?_);rw [zS6 (by rw [hS.size]; simp)];refine zSo (zTe hoT hdT ?_);dsimp only;have e5 : (List.map (fun (k : Nat) => rawInt k) pl).toArray[(ks.length : Int).toNat]? = none := by simp [hl]
 rw [e5];dsimp only [rawInt];refine zSo (wpAny_setField hI rfl (by simp) ?_);have e1 := zTb (Obj.mapFields fun vs => vs.set! 0 (rawInt 0)) hI (Obj.isFreed_of_fields (zUA rfl _));refine zSo (wpAny_setField e1 (zUA rfl _) (by simp) ?_);simp only [newExc, newTuple, bind_assoc, pure_bind];refine zSo (zTH (zSo (m := firstArgMember _ _) (wpAny_of_eq (a := Value.none) (by first | rfl | (simp only [firstArgMember]; rfl)) (zSo (zTH ?_ (by size_fits))))) (by size_fits));simp only [raiseNew];refine zSo (wpAny_handled ?_);rw [show A.in1.handled = none from hh];refine zSo (zSq (wpAny_throw ?_));refine zSo (wpAny_isInstance (T := "StopIteration") (b := true) ⟨_, zSy _ rfl, rfl⟩ isSubtype_stop (zSq ?_));exact hQ _ ((((zTr ..).trans (zTr ..)).extBut.push _).push _)
theorem zIy {pl : List Nat} (hh : A.handled = none) (hne : a ≠ I) (hneT : T ≠ I) (hS : SetK knd o es ep t ks) (hl : pl.length = ks.length) (hb : ∀ k ∈ pl, k < es.size) :
  Walks prog w A I [I, a, T] [I] ks.length (fun i v => (pl[i]?).bind (fun k => (es[k]?).map (·.2)) = some v) (fun i h => h.get? I = some (zBO (.ref T) i a ks.length ep) /\ h.get? a = some o /\ IsTup h T (pl.map fun (k : Nat) => rawInt k).toArray) where
 sub := fun b hb => by simp at hb; simp [hb]
 frame := fun _ _ _ st hk => ⟨hk I (by simp) _ st.1, hk a (by simp) _ st.2.1, let ⟨oT, ho, r⟩ := st.2.2; ⟨oT, hk T (by simp) oT ho, r⟩⟩;item := fun i s Q E hi st hQ => by
  have hi' : i < pl.length := by rw [hl]; exact hi
  have hk : pl[i] < es.size := hb _ (zTM hi');have hx : (pl[i]?).bind (fun k => (es[k]?).map (·.2)) = some (es[pl[i]].2) := by
   rw [zSs hi']; simp [hk]
  refine zKe hS hl st.1 st.2.1 st.2.2 hx fun h' hI' hs' => ?_;exact hQ _ h' s.toks hx ⟨hI', hs'.extBut a o hne st.2.1, st.2.2.extBut hs'.extBut hneT⟩ fun b u hb ee => hs'.extBut b u (fun h => hb (by simp [h])) ee
 done := fun s Q E st hQ => zMU hh hS hl st.1 st.2.1 st.2.2 fun h' he' => hQ h' s.toks fun b u hb ee => he' b u (fun h => hb (by simp [h])) ee;self := fun _ _ _ _ st hQ => zK1 st.1 hQ
end
open Sem (wp)
theorem zMO {prog : Program} {w : World} {A : Around} {I : Addr} {fp wr : List Addr} {n : Nat} {P P' : Nat -> Value -> Prop} {St : Nat -> Heap -> Prop} (W : Walks prog w A I fp wr n P St) (h : ∀ i v, P i v -> P' i v) : Walks prog w A I fp wr n P' St where
 sub := W.sub;frame := W.frame;item := fun i s Q E hi st hQ => W.item i s Q E hi st fun v h' tk hP => hQ v h' tk (h i v hP);done := W.done;self := W.self
section
variable {prog : Program} {w : World} {A : Around} {E : Value -> Shared -> Prop} {s : Shared}
variable {K : Type} [DecidableEq K] {knd : KeyKind prog w K} {o : Obj} {es : Array (Int × Value)} {ep : Nat} {t : SetTable} {ks : List K} {a I : Addr}
theorem zCc (h : Q (w.params.followText "set-order") s) : wpAny (model prog w) A setsByText Q E s := by
 unfold setsByText;exact zSo (wpAny_askSetting (zSq h))
theorem zKD (hS : SetK knd o es ep t ks) (hT : w.params.followText "set-order" = true) : Nexts prog w o a ep ks.length (fun _ => 0) ((pickOrder (w.params.setOrder a ep) es).toList.map (·.2)) where
 len := by rw [zSx, (zDk _ es).length_eq, zTX, hS.size]
 nx := fun A E i s Q hi ho hQ => by
  unfold setNext;refine zSo (wpAny_setState_of ho hS.data hS.fits ?_);dsimp only;refine zSo (zCc ?_);rw [hT, zS3 rfl, zS6 (by simp)];refine zSo ?_;unfold setWalk;refine zSo (wpAny_setState_of ho hS.data hS.fits ?_);dsimp only;refine zSo (zCc ?_);rw [hT, zS3 rfl];refine zSo (wpAny_askSetting (zSq ?_));refine zSq ?_;have e : (Option.map (fun (e : Int × Value) => (e.2, 0)) (pickOrder (w.params.setOrder a ep) es)[i]?) = Option.map (fun x => (x, 0)) ((pickOrder (w.params.setOrder a ep) es).toList.map (·.2))[i]? := by
   rw [zTB, Array.getElem?_toList];cases (pickOrder (w.params.setOrder a ep) es)[i]? <;> rfl
  show Q (Option.map (fun (e : Int × Value) => (e.2, 0)) (pickOrder (w.params.setOrder a ep) es)[i]?) s;rw [e]; exact hQ
def zJ6 (t : SetTable) : Nat -> Nat
 | 0 => 0
 | i + 1 => t.place.getD i 0 + 1
theorem zNn (h : Up t.place) (hi : i <= t.place.size) : SetTable.below t.place (zJ6 t i) = i := by
 cases i with
 | zero => exact zJ8 h
 | succ i =>
  show SetTable.below t.place (t.place.getD i 0 + 1) = i + 1;have hl : i < t.place.size := by omega
  have e : t.place.getD i 0 = t.place[i] := by simp [Array.getD, hl]
  rw [e]; exact zJ1 h hl
theorem zLW (hS : SetK knd o es ep t ks) : t.place.size = es.size := by
 have := hS.fits;simp only [SetTable.fits, zTO, beq_iff_eq] at this;exact this.1
theorem zI6 (hS : SetK knd o es ep t ks) (hT : w.params.followText "set-order" = false) (hd : (!t.plain && decide (es.size > 1)) = false) : Nexts prog w o a ep ks.length (zJ6 t) (es.toList.map (·.2)) where
 len := by rw [zSx, zTX, hS.size]
 nx := fun A E i s Q hi ho hQ => by
  have hz := zLW hS;unfold setNext;refine zSo (wpAny_setState_of ho hS.data hS.fits ?_);dsimp only;refine zSo (zCc ?_);rw [hT, zS6 (by decide)];show wpAny _ _ (if (!t.plain && decide (es.size > 1)) = true then _ else _) _ _ _;rw [zS6 (by rw [hd]; decide)];have hl : t.led = true := by rw [hS.tab.led, hT]; rfl
  refine zSo ?_;show wpAny _ _ (if (!t.led && !es.isEmpty) = true then unsupported "set:maker-not-led" else pure ()) _ _ _;rw [zS6 (by rw [hl]; simp)];refine zSq ?_;rw [zNn hS.tab.up (by rw [hz, hS.size]; exact hi)];refine zSq ?_;rw [zTB, Array.getElem?_toList] at hQ;by_cases q : i < es.size
  ·have q2 : i < t.place.size := by rw [hz]; exact q
   rw [zTZ q, zTZ q2];rw [zTZ q] at hQ;have e : zJ6 t (i + 1) = t.place[i] + 1 := by
    show t.place.getD i 0 + 1 = _;simp [Array.getD, q2]
   simp only [Option.map] at hQ;rw [e] at hQ;exact hQ
  ·have : i = es.size := by rw [hS.size] at q ⊢; omega
   rw [Array.getElem?_eq_none (by omega)] at hQ ⊢;exact hQ
theorem zNW (ho : s.heap.get? a = some o) (hS : SetK knd o es ep t ks)
  (h : ∀ (h' : Heap) (d : Drawn) (I : Addr) (fp : List Addr) (ord : List Value) (St : Nat -> Heap -> Prop), (∀ b u, s.heap.get? b = some u -> h'.get? b = some u) -> s.heap.objs.size <= I -> (∀ b ∈ fp, b < h'.objs.size /\ (b = a \/ s.heap.objs.size <= b)) ->
   (∀ A : Around, A.handled = none -> Walks prog w A I fp [I] ks.length (fun i v => ord[i]? = some v) St) -> St 0 h' -> ord.Perm (es.toList.map (·.2)) -> Q (.ref I) { s with heap := h', drawn := d }) :
  wpAny (model prog w) A (pyIter (.ref a)) Q E s := by
 have hT := hS.typeIs ho;have hal : a < s.heap.objs.size := zSz ho;refine wpAny_pyIter_slot hT F.slot_set_iter (zTR F.slot_set_iter hT zGB ?_ (F.args_set_iter_1 _));unfold Builtin.«frozenset.__iter__» Builtin.Frozenset.slot0 slotArgs Builtin.Frozenset.addrOf Builtin.Frozenset.sizeOf;simp only [List.isEmpty_nil, Bool.not_true, zTp, ↓reduceIte, List.length_nil, bne_self_eq_false, pure_bind, bind_assoc];refine zSo (wpAny_setEntries_of ho hS.data hS.fits ?_);unfold setDrawn;simp only [bind_assoc];refine zSo (wpAny_setState_of ho hS.data hS.fits ?_);dsimp only;refine zSo (zCc ?_);simp only [pure_bind];have hsz := hS.size;have plain : ∀ (at_ : Nat -> Nat) (ord : List Value), at_ 0 = 0 -> Nexts prog w o a ep ks.length at_ ord -> ord.Perm (es.toList.map (·.2)) -> Q (.ref s.heap.objs.size) { s with heap := s.heap.push (zBO (rawInt 0) 0 a ks.length ep) } := by
  intro at_ ord h0 N hp;have e : s.heap.push (zBO (rawInt 0) 0 a ks.length ep) = s.heap.push (zBO (rawInt 0) 0 a ks.length ep) := rfl
  have := h (s.heap.push (zBO (rawInt 0) 0 a ks.length ep)) s.drawn s.heap.objs.size [s.heap.objs.size, a] ord (fun i h => h.get? s.heap.objs.size = some (zBO (rawInt (at_ i)) i a ks.length ep) /\ h.get? a = some o)
   (fun b u e => zSp _ e) (zSu _) (fun b hb => by
    rw [zTU];rcases zS0.mp hb with z | z
    ·rw [z]; exact ⟨zTl _, .inr (zSu _)⟩
    ·rw [zTG.mp z]; exact ⟨zTd hal, .inl rfl⟩)
   (fun A hh => zJb hh (zS9 hal) N hS) ⟨by rw [h0]; exact zSy _ rfl, zSp _ ho⟩ hp
  exact this
 have mk : ∀ (s1 : Shared) (f : Value) (hv : s1.heap.get? a = some o) {Q' : Fin -> Shared -> Prop}, Q' (.done (.ret (.ref s1.heap.objs.size))) { s1 with heap := s1.heap.push (zBO f 0 a ks.length ep) } -> wpAny (model prog w) A.in1 (do
   let e <- setEpoch a;let r <- newFields "set_iterator" [f, rawInt 0, Value.ref a, rawInt es.size, rawInt e];ret r) Q' E s1 := by
  intro s1 f hv Q' hq;refine zSo (wpAny_setEpoch_of hv hS.data hS.fits ?_);unfold newFields;refine zSo (zTH (zSq ?_));rw [hsz]; exact hq
 have ty : ∀ (s1 : Shared) (f : Value), (∃ T' r, Shared.TypeIs { s1 with heap := s1.heap.push (zBO f 0 a ks.length ep) } (.ref s1.heap.objs.size) T' /\ typeLookup (Value.type T') (Str.ofString "__next__") = pure (some r) /\ True) := fun s1 f => ⟨"set_iterator", _, ⟨_, zSy _ rfl, rfl⟩, zAG.lookup, trivial⟩;show wpAny _ _ (if (!w.params.followText "set-order" && (!t.plain && decide (es.size > 1))) = true then _ else _) _ _ _;by_cases hc : (!w.params.followText "set-order" && (!t.plain && decide (es.size > 1))) = true
 ·rw [zS3 hc];refine zSo (zDS _ _ (by simp) fun pl d hp => ?_);refine zSo ?_;unfold newTuple;have hpl : pl.length = ks.length := by rw [hp.length_eq, List.length_range, hsz]
  refine zTH ?_ (by
   show (List.map (fun (i : Nat) => rawInt i) pl).toArray.size <= sizeLine;rw [zSw, zSx, hpl, <- hsz]; exact fits_of_scanBound hS.bound)
  generalize hH : s.heap.push { cls := .type "tuple", data := .seq (List.map (fun (i : Nat) => rawInt i) pl).toArray } = H;have kH : ∀ b u, s.heap.get? b = some u -> H.get? b = some u := fun b u e => by rw [<- hH]; exact zSp _ e
  have hT1 : IsTup H s.heap.objs.size (pl.map fun (k : Nat) => rawInt k).toArray := ⟨_, by rw [<- hH]; exact zSy _ rfl, rfl, 0, rfl⟩;have szH : H.objs.size = s.heap.objs.size + 1 := by rw [<- hH]; exact zTU ..
  have szlt : s.heap.objs.size < H.objs.size := by rw [szH]; exact zTl _
  have alt : a < H.objs.size := Nat.lt_trans hal szlt;refine mk { s with heap := H, drawn := d } (.ref s.heap.objs.size) (kH _ _ ho) ?_;obtain ⟨T', r, e1, e2, _⟩ := ty { s with heap := H, drawn := d } (.ref s.heap.objs.size);refine ⟨_, rfl, T', r, e1, e2, ?_⟩;have kH2 : ∀ b u, s.heap.get? b = some u -> (H.push (zBO (.ref s.heap.objs.size) 0 a ks.length ep)).get? b = some u := fun b u e => zSp _ (kH b u e);refine h _ d H.objs.size [H.objs.size, a, s.heap.objs.size] (pl.map fun k => ((es[k]?).map (·.2)).getD .none) (fun i h => h.get? H.objs.size = some (zBO (.ref s.heap.objs.size) i a ks.length ep) /\ h.get? a = some o /\ IsTup h s.heap.objs.size (pl.map fun (k : Nat) => rawInt k).toArray) kH2 (by rw [szH]; exact Nat.le_succ _) (fun b hb => ?_) (fun A hh => ?_) ⟨zSy _ rfl, kH2 a o ho, ?_⟩ ?_
  ·rw [zTU];simp only [zS0, zTJ, or_false] at hb;rcases hb with z | z | z
   ·rw [z]; exact ⟨zTl _, .inr (Nat.le_of_lt szlt)⟩
   ·rw [z]; exact ⟨zTd alt, .inl rfl⟩
   ·rw [z]; exact ⟨zTd szlt, .inr (zSu _)⟩
  ·have hb : ∀ k ∈ pl, k < es.size := fun k hk => by have := hp.mem_iff.mp hk; simpa using this
   refine zMO (zIy hh (a := a) (I := H.objs.size) (T := s.heap.objs.size) (zS9 alt) (zS9 szlt) hS hpl hb) fun i v hv => ?_;rw [zTB];cases q : pl[i]? with
   | none => rw [q] at hv; cases hv
   | some k =>
    rw [q] at hv;simp only [Option.bind_some] at hv;rw [Option.map_some, hv]; rfl
  ·exact hT1.push _
  ·have e : es.toList.map (·.2) = (List.range es.size).map fun k => ((es[k]?).map (·.2)).getD .none := by
    apply List.ext_getElem?;intro i;rw [zTB, zTB, Array.getElem?_toList];by_cases q : i < es.size
    ·rw [List.getElem?_range q, zTZ q]; simp [q]
    ·rw [Array.getElem?_eq_none (by omega), List.getElem?_eq_none (by simp; omega)]; rfl
   rw [e];exact hp.map _
 ·rw [zS6 hc];refine mk s (rawInt 0) ho ?_;obtain ⟨T', r, e1, e2, _⟩ := ty s (rawInt 0);refine ⟨_, rfl, T', r, e1, e2, ?_⟩;cases hX : w.params.followText "set-order" with
  | true => exact plain _ _ rfl (zKD hS hX) ((zDk _ es).map _)
  | false =>
   rw [hX] at hc;exact plain _ _ rfl (zI6 hS hX (by simpa using hc)) (.refl _)
end
open Sem (wp)
section
variable {prog : Program} {w : World} {A : Around} {E : Value -> Shared -> Prop} {s : Shared}
variable {K : Type} [DecidableEq K] {knd : KeyKind prog w K} {o : Obj} {es : Array (Int × Value)} {ep : Nat} {t : SetTable} {ks : List K} {a I : Addr}
theorem zOO : isSubtype (.type "set") (.type "set") = pure true := sub_set_self
theorem zMM (hT : s.TypeIs (.ref a) "set") (h : Q false s) : wpAny (model prog w) A (Builtin.List.listLengthHint (.ref a)) Q E s := by
 unfold Builtin.List.listLengthHint;refine zSo (wpAny_specialOf hT F.slot_set_len.lookup ?_);have hsp : splitId "set.__len__" = some ("set", "__len__") := by decide +kernel
 dsimp only;rw [hsp];dsimp only;refine zSo (wpAny_isInstance hT zOO ?_);rw [zS6 (by decide), zS3 (by decide +kernel)];refine zSo (wpAny_typeOf hT ?_);exact zSq h
theorem zI2 (hh : A.handled = none) (ho : s.heap.get? a = some o) (hS : SetK knd o es ep t ks)
  (hQ : ∀ (s' : Shared) (acc : List Value), (∀ b u, s.heap.get? b = some u -> s'.heap.get? b = some u) -> s'.os = s.os -> s'.gens = s.gens -> acc.Perm (es.toList.map (·.2)) -> Q acc s') : wpAny (model prog w) A (collect (.ref a)) Q E s := by
 have hal : a < s.heap.objs.size := zSz ho;have hn : ks.length <= sizeLine := by rw [<- hS.size]; exact fits_of_scanBound hS.bound
 unfold collect;refine zSo (wpAny_runValue (codeAny_builtin F.entry_proto_collect ?_));rw [Around.under_plainId F.plain_proto_collect _];show wpAny _ A.in1 (newList [] >>= fun l => again (.builtin "list.__iadd__" ⟨[l, .ref a], []⟩)) _ _ s;refine zSo (zTH (zSq ⟨plainId_quiet F.plain_list_iadd _, codeAny_builtin F.entry_list_iadd ?_⟩));rw [Around.under_plainId F.plain_list_iadd _];generalize hH : s.heap.push { cls := .type "list", data := .seq ([] : List Value).toArray } = H;have kH : ∀ b u, s.heap.get? b = some u -> H.get? b = some u := fun b u e => by rw [<- hH]; exact zSp _ e
 have szH : H.objs.size = s.heap.objs.size + 1 := by rw [<- hH]; exact zTU ..
 have hL1 : H.get? s.heap.objs.size = some { cls := .type "list", data := .seq ([] : List Value).toArray } := by rw [<- hH]; exact zSy _ rfl
 have ho1 := kH a o ho;show wpAny _ A.in1 (Builtin.List.listExtendWith (.ref s.heap.objs.size) (.ref a) (.ref s.heap.objs.size)) _ _ { s with heap := H };unfold Builtin.List.listExtendWith;have hT1 : Shared.TypeIs { s with heap := H } (.ref a) "set" := ⟨o, ho1, hS.ex.1⟩;refine zSo (wpAny_typeOf hT1 ?_);have hneL : s.heap.objs.size ≠ a := Nat.ne_of_gt hal;have h1 : Builtin.List.listSameRef (.ref s.heap.objs.size) (.ref a) = false := by simp [Builtin.List.listSameRef, hneL]
 have h2 : (Value.type "set" == Value.type "list") = false := by decide
 have h3 : (Value.type "set" == Value.type "tuple") = false := by decide
 simp only [h1, h2, h3, Bool.or_false, zTp, if_false];refine zSo (zNW (s := { s with heap := H }) ho1 hS fun h2 d I fp ord St k2 hI2 hfp W st0 hp => ?_);have ho2 := k2 a o ho1;refine zSo (zTh (zMM (s := { s with heap := h2, drawn := d }) ⟨o, ho2, hS.ex.1⟩ ?_));rw [zS3 (by decide +kernel)];refine zSo (zUG (zSo ?_));show wpAny _ A.in1 (updateSeq s.heap.objs.size (·.push .none) >>= fun _ => updateSeq s.heap.objs.size (·.pop)) _ _ _;have hL2 := k2 _ _ hL1;refine zSo (wpAny_updateSeq (s := { s with heap := h2, drawn := d }) hL2 rfl ?_);have hS2 := zTb (Obj.mapSeq (·.push Value.none)) hL2 rfl;refine wpAny_updateSeq hS2 rfl ?_;have hS3 := zTb (Obj.mapSeq (·.pop)) hS2 rfl;generalize hH3 : (h2.update s.heap.objs.size (Obj.mapSeq (·.push Value.none))).update s.heap.objs.size (Obj.mapSeq (·.pop)) = H3 at hS3;have oth : ∀ b u, b ≠ s.heap.objs.size -> h2.get? b = some u -> H3.get? b = some u := fun b u hb e => by
  rw [<- hH3]; exact (zTV _ _ (Ne.symm hb)).trans ((zTV _ _ (Ne.symm hb)).trans e)
 have hSf : s.heap.objs.size ∉ fp := fun hm => by
  rcases (hfp _ hm).2 with z | z
  ·exact hneL z
  ·have z' : H.objs.size <= s.heap.objs.size := z;rw [szH] at z'; exact absurd z' (Nat.not_succ_le_self _)
 have WS := (W A.in1.in1 hh).toS;have st3 : St 0 H3 := (W A.in1.in1 hh).frame 0 _ _ st0 fun b hb u e => oth b u (fun z => hSf (z ▸ hb)) e;have hI3 : I ≠ s.heap.objs.size := fun z => by
  have z' : H.objs.size <= I := hI2;rw [szH, z] at z'; exact absurd z' (Nat.not_succ_le_self _)
 refine zSq ⟨plainId_quiet F.plain_extend_loop _, codeAny_extend_loopS (A := A) (WalksS.of_in1 WS) hn _ hSf _ ks.length 0 { s with heap := H3, drawn := d } _ _ rfl (zTa _) st3 hS3 (ItemsOf.nil _) fun s' acc' c' hm hS' hacc => ?_⟩;show wpAny _ A (load s.heap.objs.size >>= _) _ _ s';refine zSo (wpAny_load hS' (zSq (hQ s' _ (fun b u e => hm.heap b u (fun q => ?_) (oth b u (fun z => zTW _ (z ▸ zSz e)) (k2 b u (kH b u e)))) hm.os hm.gens ?_)))
 ·rcases zS0.mp q with z | z
  ·exact zTW _ (z ▸ zSz e)
  ·have z' : H.objs.size <= I := hI2;rw [<- zTG.mp z, szH] at z';exact zTW _ (Nat.lt_trans (zTD (zTl _) z') (zSz e))
 ·have e : acc'.toList = ord := by
   have hl : ord.length = ks.length := by rw [hp.length_eq, zSx, zTX, hS.size]
   apply List.ext_getElem?;intro i;rw [Array.getElem?_toList];by_cases q : i < ks.length
   ·have q' : i < acc'.size := by rw [hacc.1]; exact q
    rw [zTZ q'];exact (hacc.2 i _ (zTZ q')).symm
   ·rw [Array.getElem?_eq_none (by rw [hacc.1]; omega), List.getElem?_eq_none (by omega)]
  rw [e]; exact hp
end
end ST
namespace L2
open PySem PySem.Spec PyProof.Rows ST
section
variable {prog : Program} {w : World} {A : Around} {R : Result -> Shared -> Prop} {s : Shared}
theorem zDU {elt target iter ifs rest scope pos it acc env}
  (h0 : codeAny (model prog w) A (.compLoop (.SetComp elt (⟨target, iter, ifs, 0⟩ :: rest) scope pos) 0 it acc env) R s)
  (h : wpAny (model prog w) A (pyIter it) (fun it' s' => codeAny (model prog w) A (.compLoop (.SetComp elt (⟨target, iter, ifs, 0⟩ :: rest) scope pos) 0 it' acc env) R s')
   (notedBy (model prog w) A env fun x s' => R (.error x) s') s) :
  codeAny (model prog w) A (.compStart (.SetComp elt (⟨target, iter, ifs, 0⟩ :: rest) scope pos) 0 it acc env) R s := by
 refine codeAny_of_tree ?_;show wpAny _ _ ((compStart (.SetComp elt (⟨target, iter, ifs, 0⟩ :: rest) scope pos) 0 it acc env).onRaise (fun x => do noteFrame x env; standAt theWindowsPlace)) _ _ s;refine wpAny_notedAt ?_;unfold compStart;show wpAny _ _ (ask >>= _) _ _ s;refine zSo (wpAny_askSetting (wpAny_ite ?_));split
 ·first
   | exact zSo (zSq (zSq (And.intro rfl h0)))
   | exact zSq (And.intro rfl h0)
 ·first
   | exact zSo (zUG (zSo (zTm (zSo (zTK h (fun it' s' h' => zSq (And.intro rfl h')) fun _ _ x => x)))))
   | (refine zSo (zUG ?_); show wpAny _ _ (standAt iter.pos >>= _) _ _ s; exact zSo (zTm (zSo (zTK h (fun it' s' h' => zSq (And.intro rfl h')) fun _ _ x => x))))
end
section
variable {X : Cx} {zB : List (Addr × Obj)} {σ : St} {H : Hp} {s : Shared} {scope : Scope} {cl : List (Str × Addr)} {fp : List Addr} {it : Addr} {tn : Nat -> Heap -> Prop} {J : It} {tg elt iter : Expr} {ifs : List Expr} {pos : Pos}
 {own : List Nat} {g : TG} {tc : TT} {te : TE} {E : Value -> Shared -> Prop}
theorem zKR (h : SetK (intKind prog w) o es ep t ks) : ∀ v, o.data ≠ .cell v := fun v z => by rw [h.data] at z; cases z
theorem zGA (C : CompIn X scope own) (hcalm : X.calm = true) (I : Inv X zB σ H s) (T : Turn X.prog X.w X.K tg J fp it tn) (st : tn 0 s.heap) (hf : ∀ b ∈ fp, zCP X zB H b)
  (c1 : ∀ x c, cl.lookup x = some c -> X.env.cells.lookup x = some c) (c2 : ∀ y ∈ scope.names, y.2 = .free -> (cl.lookup y.1).isSome = true)
  (hg : PG (zO X zB scope cl s H fp) tg g) (hi : zFY (zO X zB scope cl s H fp) ifs tc) (he : PE (zO X zB scope cl s H fp) elt te)
  {RR : Value -> Addr -> Result -> Shared -> Prop} {QQ : List Int -> Hp -> Prop} {W : Nat -> Nat -> List Int -> Hp -> Prop} {m0 : Nat} (w0 : W 0 m0 [] H)
  (turn : ∀ i m ys H, W i m ys H -> (J.stop i H /\ QQ ys H) \/
   (J.go i H /\ ∀ x H', J.yld i H x H' -> g x (clr own σ) H' fun σ2 H2 => Ext (clr own σ) σ2 /\ tc σ2 H2 fun b H3 =>
    if b = true then te σ2 H3 fun v H4 => ∃ k, v = .int k /\ ys.length + 1 < scanBound /\ ∃ m', m' < m /\ W (i + 1) m' (ins ys k) H4 else ∃ m', m' < m /\ W (i + 1) m' ys H3))
  (fin : ∀ σc H' s' o es ep t ys, Inv (zO X zB scope cl s H fp) [(s.heap.objs.size, o)] σc H' s' -> SetK (intKind X.prog X.w) o es ep t ys -> QQ ys H' -> RR (.ref s.heap.objs.size) (s.heap.objs.size + 1) (.ok .next) s') :
  wpAny (model X.prog X.w) X.A (newSet (.type "set")) (fun acc s₃ => wpAny (model X.prog X.w) X.A (newFunctionEnv scope X.env.globals cl [] X.env.qual none .none (some X.env)) (fun cenv s₄ =>
   codeAny (model X.prog X.w) X.A (.compStart (.SetComp elt [⟨tg, iter, ifs, 0⟩] scope pos) 0 (.ref it) acc { cenv with scope := relabel scope X.env }) (RR acc cenv.locals) s₄) E s₃) E s := by
 have ob : ∀ b : Nat, b ∈ fp -> b < s.heap.objs.size := fun b hb => let ⟨_, e, _⟩ := T.obj 0 _ st b hb; zSz e;refine zLn (zCg ?_);have sz1 : (s.heap.push (zBx X.w)).objs.size = s.heap.objs.size + 1 := zTU ..;have I4 := zEj (X := X) (zB := zB) (σ := σ) (σc := clr own σ) (H := H) (s := s) (scope := scope) (cl := cl) (fp := fp) C.sc I hf ob c1 c2 (zBS own σ) (fun i x v h1 h2 h3 => by
  obtain ⟨a, b⟩ := zCZ own σ i v h2;rcases C.nm i x h1 with z | z | z
  ·exact absurd z b
  ·exact absurd (zB9 x z) h3
  ·exact ⟨z, a⟩) (zBx X.w) (by intro v z; cases z) rfl rfl
 have st4 : tn 0 (pushCells ((s.heap.push (zBx X.w)).push { cls := .type "dict", data := .dict #[] }) scope.names) := T.keep 0 _ _ st fun b _ o e => pushCells_keeps _ _ b o (zSp _ (zSp _ e));dsimp only;unfold newEnv;dsimp only;rw [sz1];have hDfp : s.heap.objs.size ∉ fp := fun z => zTW _ (ob _ z);have hcD : ∀ x c, (zO X zB scope cl s H fp).env.cells.lookup x = some c -> c ≠ s.heap.objs.size := fun x c e z => by
  obtain ⟨v, o, ho, hd⟩ := I4.cell x c e;obtain ⟨q, _⟩ := I4.pin (s.heap.objs.size, zBx X.w) (by simp);rw [z, q] at ho;cases ho; cases hd
 have fpk : ∀ {H' : Hp} {pl : List (Addr × Obj)}, (∀ b ∈ fp, H' b = none) -> (∀ p ∈ pl, p.1 = s.heap.objs.size) -> ∀ b ∈ fp, zCP (zO X zB scope cl s H fp) pl H' b := fun {H' pl} hn hp b hb =>
  ⟨hn b hb, (I4.ok.exf b hb).1, I4.ok.exfs b hb, .inl hb, (I4.ok.exf b hb).2, fun p hq => by
   rcases zTE.mp hq with z | z
   ·exact (hf b hb).2.2.2.2.2 p z
   ·intro e;have e2 := hp p z;rw [e] at e2;exact hDfp (e2 ▸ hb)⟩
 have loop : codeAny (model X.prog X.w) X.A (.compLoop (.SetComp elt [⟨tg, iter, ifs, 0⟩] scope pos) 0 (.ref it) (.ref s.heap.objs.size) (zO X zB scope cl s H fp).env) (RR (.ref s.heap.objs.size) (s.heap.objs.size + 1))
   { s with heap := pushCells ((s.heap.push (zBx X.w)).push { cls := .type "dict", data := .dict #[] }) scope.names } := by
  refine zIN (fun n s' => ∃ i H' ys o es ep t, Inv (zO X zB scope cl s H fp) [(s.heap.objs.size, o)] (clr own σ) H' s' /\ SetK (intKind X.prog X.w) o es ep t ys /\ tn i s'.heap /\ (∀ b ∈ fp, H' b = none) /\ W i n ys H') ?_ m0
   ⟨0, H, [], zBx X.w, _, _, _, I4, .fresh, st4, fun b hb => (hf b hb).1, w0⟩
  rintro n s5 ⟨i, H5, ys, o, es, ep, t, I5, r5, st5, f5, w5⟩;have pinD : ∀ p ∈ [(s.heap.objs.size, o)], p.1 = s.heap.objs.size := fun p hp => by
   have : p = (s.heap.objs.size, o) := by simpa using hp
   rw [this]
  rcases turn i n ys H5 w5 with ⟨stop, qq⟩ | ⟨go, step⟩
  ·refine thn (T.done (zO X zB scope cl s H fp) rfl rfl rfl hcalm i _ s5 _ H5 _ I5 (fpk f5 pinD) st5 stop) fun r s6 ⟨hr, I6⟩ => ?_;subst hr;exact fin _ H5 s6 o es ep t ys I6 r5 qq
  ·refine thn (T.item (zO X zB scope cl s H fp) rfl rfl rfl hcalm i _ s5 _ H5 _ I5 (fpk f5 pinD) st5 go) fun r s6 ⟨u, hr, h6⟩ => ?_;subst hr;refine thn h6 fun _ s7 ⟨x, H7, I7, r7, y7, st7, f7⟩ => ?_;have I7' := I7.pinned (fpk f7 pinD) (T.obj _ _ st7);refine thn (hg _ s7 _ H7 x u _ I7' r7 (step x H7 y7)) fun _ s8 ⟨σ8, H8, I8, x8, q8⟩ => ?_;refine thn (hi _ s8 σ8 H8 _ I8 q8) fun ok s9 ⟨H9, I9, q9⟩ => ?_;have back : ∀ {s' : Shared} {Hx : Hp}, Inv (zO X zB scope cl s H fp) ([(s.heap.objs.size, o)] ++ zCn fp s7.heap) σ8 Hx s' -> tn (i + 1) s'.heap /\ ∀ b ∈ fp, Hx b = none := fun {s' Hx} Ix =>
    ⟨T.keep _ _ _ st7 fun b hb o e => (Ix.pin (b, o) (zS8 _ (zS8 _ (zAN hb e)))).1, fun b hb => by
     obtain ⟨o, e, d⟩ := T.obj _ _ st7 b hb;exact (Ix.pin (b, o) (zS8 _ (zS8 _ (zAN hb e)))).2.1⟩
   cases ok with
   | false =>
    obtain ⟨m', hm, w'⟩ := q9;obtain ⟨b1, b2⟩ := back I9;exact ⟨m', hm, i + 1, H9, ys, o, es, ep, t, (I9.weak (by rw [x8.1]) x8.2).unpinned, r5, b1, b2, w'⟩
   | true =>
    refine thn (he _ s9 σ8 H9 _ I9 q9) fun v s10 ⟨y, H10, I10, r10, k, hk, hlt, m', hm, w'⟩ => ?_;subst hk;obtain ⟨b1, b2⟩ := back I10;have J10 := (I10.weak (by rw [x8.1]) x8.2).unpinned;obtain ⟨e10, n10, ne10, nf10, d10⟩ := J10.pin (s.heap.objs.size, o) (by simp);obtain ⟨tk, hv⟩ : ∃ tk, v = .int k tk := r10;subst hv;refine zNL (knd := intKind X.prog X.w) (intKind_is _ _ _ _) rfl e10 r5 hlt fun h' o' es' ep' t' hs' e' S' => ?_;refine ⟨m', hm, i + 1, H10, ins ys k, o', es', ep', t', ?_, S', T.keep _ _ _ b1 fun b hb o e => hs'.extBut b o (fun z => hDfp (z ▸ hb)) e, b2, w'⟩;refine (Inv.repin (pl := []) J10 (fun p hp => ?_) hs' (zSu _) hcD e' (zKR S')).tok _;rw [zTY] at hp;have hp' : p ∈ X.pn ++ zB := hp;exact zS9 (zSz (I.pin p hp').1)
 exact zDU loop (T.self _ 0 _ _ _ st4 loop)
theorem zIC (I : Inv X zB σ H s) (hf : ∀ b ∈ fp, zCP X zB H b)
  (Ic : Inv (zO X zB scope cl s H fp) [(s.heap.objs.size, oD)] σc H' s') (hs : Heap.SameBut (s.heap.objs.size + 1) s'.heap h') :
  Inv X zB σ H' { s' with heap := h' } /\ h'.get? s.heap.objs.size = some oD := by
 obtain ⟨eD, nD, _⟩ := Ic.pin (s.heap.objs.size, oD) (by simp);have nC : H' (s.heap.objs.size + 1) = none := Ic.free;have eD' : h'.get? s.heap.objs.size = some oD := hs.extBut _ _ (zS9 (zTl _)) eD;have lt1 : ∀ {b : Addr} {o : Obj}, s.heap.get? b = some o -> b ≠ s.heap.objs.size + 1 := fun e => zS9 (zTd (zSz e));have tr : ∀ b u, H' b = some u -> b ≠ s.heap.objs.size + 1 := fun b u e z => by rw [z, nC] at e; cases e
 refine ⟨?_, eD'⟩;have B := Ic.base;have un : Un (frs X.stack) fp H H' s.heap h' := by
  refine ⟨fun b o e q hb hx => hs.extBut b o (lt1 e) (B.keep b o e q hb hx), fun b o e q hb hx => ?_, fun b o e q hx => B.free b o e q hx, fun b o e hx => ?_, fun b xs e => B.tups b xs e, fun b o xs e => B.frzs b o xs e, fun b ps e => B.tbls b ps e⟩
  ·obtain ⟨sl, e1⟩ := B.slot b o e q hb hx;exact ⟨sl, hs.extBut b _ (lt1 e) e1⟩
  ·obtain ⟨o', e1⟩ := B.there b o e hx;exact ⟨o', hs.extBut b _ (lt1 e) e1⟩
 have hok : HOk X.prog X.w H' h' := fun b u e => by
  refine (Ic.hok b u e).stay (fun c v hc q => hs.extBut c v ?_ q) (fun c q => q) fun c xs q => q;rcases hc with z | z
  ·rw [z]; exact tr b u e
  ·exact tr c _ z
 exact I.call' (s' := { s' with heap := h' }) (ch := fp) Ic.os un hok Ic.bare fun b hb => ⟨(hf b hb).2.2.2.1, (hf b hb).2.1, (hf b hb).2.2.2.2.1, (hf b hb).2.2.2.2.2⟩
end
abbrev TZ := St -> Hp -> (List Int -> Hp -> Prop) -> Prop
def PZ (X : Cx) (e : Expr) (t : TZ) : Prop := ∀ (zB : List (Addr × Obj)) (s : Shared) (σ : St) (H : Hp) (Q : List Int -> Hp -> Prop), Inv X zB σ H s -> t σ H Q ->
 wpAny (model X.prog X.w) X.A (eval e X.env) (fun v s' => ∃ a o es ep tb ks H', v = .ref a /\ s'.heap.get? a = some o /\ SetK (intKind X.prog X.w) o es ep tb ks /\ Inv X zB σ H' s' /\ Q ks H') X.xe s
def zJW (own : List Nat) (wi : TI) (g : TG) (tc : TT) (te : TE) : TZ := fun σ H Q => wi σ H fun J H1 => ∃ W : Nat -> Nat -> List Int -> Hp -> Prop, (∃ m, W 0 m [] H1) /\ ∀ i m ys H, W i m ys H ->
 (J.stop i H /\ Q ys H) \/
 (J.go i H /\ ∀ x H', J.yld i H x H' -> g x (clr own σ) H' fun σ2 H2 => Ext (clr own σ) σ2 /\ tc σ2 H2 fun b H3 =>
  if b = true then te σ2 H3 fun v H4 => ∃ k, v = .int k /\ ys.length + 1 < scanBound /\ ∃ m', m' < m /\ W (i + 1) m' (ins ys k) H4 else ∃ m', m' < m /\ W (i + 1) m' ys H3)
section
variable {X : Cx} {scope : Scope} {tg elt iter : Expr} {ifs : List Expr} {pos : Pos} {own : List Nat} {wi : TI} {g : TG} {tc : TT} {te : TE}
theorem zPj (C : CompIn X scope own) (hcalm : X.calm = true) (hi : PI X tg iter wi) (p : CompParts X scope tg ifs elt g tc te) (hs : ∀ x, foldedSetIterable iter X.env x = pure x := by intro _; rfl) :
  PZ X (.SetComp elt [⟨tg, iter, ifs, 0⟩] scope pos) (zJW own wi g tc te) := by
 intro zB s σ H Q I h;obtain ⟨cl, hcl, c1, c2⟩ := C.sc.closure I;rw [arm_eval_SetComp];refine wpAny_comprehension_free (use := none) rfl hs hcl C.sc.kind C.sc.names (thn (hi zB s σ H _ I h) fun v s1 h1 => thn h1 fun itv s2 h2 => ?_);obtain ⟨it, fp, tn, J, H2, e, I2, T, st2, f2, W, ⟨m0, w0⟩, turn⟩ := h2;subst e;refine zGA C hcalm I2 T st2 f2 c1 c2 (p.g _ _ _ _ _) (p.c _ _ _ _ _) (p.e _ _ _ _ _) (RR := fun acc C r s' => compPost (model X.prog X.w) X.A X.xe none (fun v s' => ∃ a o es ep tb ks H', v = .ref a /\ s'.heap.get? a = some o /\ SetK (intKind X.prog X.w) o es ep tb ks /\ Inv X zB σ H' s' /\ Q ks H') acc C r s') (QQ := Q) w0 turn ?_;intro σc H' s' o es ep t ys Ic rv qq;obtain ⟨m, hn, _⟩ := Ic.loc;refine ⟨m, hn, fun h' hs' => ?_⟩;obtain ⟨J', eD⟩ := zIC I2 f2 Ic hs';exact ⟨_, o, es, ep, t, ys, H', rfl, eD, rv, J', qq⟩
end
end L2
namespace ST
open PySem PySem.Spec PyProof.Rows
open Sem (wp)
section
variable {prog : Program} {w : World} {A : Around} {E : Value -> Shared -> Prop} {s : Shared}
variable {K : Type} [DecidableEq K] {knd : KeyKind prog w K}
def zBF (ks : List K) : List K := ks.foldl ins []
theorem zIj (ks : List K) (k : K) : zBF (ks ++ [k]) = ins (zBF ks) k := by unfold zBF; rw [zUs]; rfl
theorem zOa (ks : List K) (k : K) : (ins ks k).length <= ks.length + 1 := by unfold ins; split <;> simp
theorem zEM (ks : List K) : (zBF ks).length <= ks.length := by
 have : ∀ (l acc : List K), (l.foldl ins acc).length <= acc.length + l.length := by
  intro l;induction l with
  | nil => intro acc; simp
  | cons x r ih => intro acc; have := ih (ins acc x); have := zOa acc x; simp only [List.foldl_cons, zTL]; omega
 simpa [zBF] using this ks []
theorem zO6 (ks : List K) (k x : K) : x ∈ ins ks k ↔ x ∈ ks \/ x = k := by
 unfold ins;split
 ·rename_i h; constructor
  ·exact .inl
  ·rintro (z | z)
   ·exact z
   ·rw [z]; exact h
 ·simp
theorem zKU (ks : List K) (x : K) : x ∈ zBF ks ↔ x ∈ ks := by
  have : ∀ (l acc : List K), x ∈ l.foldl ins acc ↔ x ∈ acc \/ x ∈ l := by
    intro l;induction l with
    | nil => intro acc; simp
    | cons y r ih => intro acc; rw [List.foldl_cons, ih, zO6, zS0]; simp [or_assoc]
  simpa [zBF] using this ks []
theorem zME (h : ks.Nodup) (k : K) : (ins ks k).Nodup := by
  unfold ins;split
  · exact h
  · rename_i q
    rw [zT7]
    exact ⟨h, by simp, fun a ha b hb z => by have : b = k := by simpa using hb
                                             subst this; subst z; exact q ha⟩
theorem zIb (ks : List K) : (zBF ks).Nodup := by
 have : ∀ (l acc : List K), acc.Nodup -> (l.foldl ins acc).Nodup := by
  intro l;induction l with
  | nil => intro acc h; exact h
  | cons y r ih => intro acc h; exact ih _ (zME h y)
 exact this ks [] (by simp)
variable {R : Result -> Shared -> Prop} {I : Addr} {fp wr : List Addr} {G : Array GenState -> Array GenState -> Prop} {n : Nat} {P : Nat -> Value -> Prop} {St : Nat -> Shared -> Prop}
end
def zDN (ks : List Int) : List Int := ks.mergeSort fun a b => decide (a <= b)
theorem zBr (ks : List Int) : (zDN ks).Perm ks := List.mergeSort_perm _ _
theorem zF8 (ks : List Int) : (zDN ks).Pairwise (· <= ·) := by
 have := List.pairwise_mergeSort (le := fun (a b : Int) => decide (a <= b)) (fun a b c h1 h2 => by simp at h1 h2 ⊢; omega) (fun a b => by simp; omega) ks;exact this.imp fun h => by simpa using h
theorem zHE : ∀ {xs ys : List Int}, xs.Perm ys -> xs.Pairwise (· <= ·) -> ys.Pairwise (· <= ·) -> xs = ys
 | [], ys, p, _, _ => by have := p.length_eq; simp at this; rw [List.length_eq_zero_iff.mp this.symm]
 | x :: xs, [], p, _, _ => by have := p.length_eq; simp at this
 | x :: xs, y :: ys, p, h1, h2 => by
  have hx := List.pairwise_cons.mp h1;have hy := List.pairwise_cons.mp h2;have e : x = y := by
   have a : x ∈ y :: ys := p.mem_iff.mp zS2;have b : y ∈ x :: xs := p.mem_iff.mpr zS2;rcases zS0.mp a with z | z
   ·exact z
   ·rcases zS0.mp b with q | q
    ·exact q.symm
    ·exact Int.le_antisymm (hx.1 y q) (hy.1 x z)
  subst e;rw [zHE (p.cons_inv) hx.2 hy.2]
theorem zJH (p : xs.Perm ys) (h : xs.Pairwise (· <= ·)) : xs = zDN ys := zHE (p.trans (zBr ys).symm) h (zF8 ys)
section
variable {prog : Program} {w : World} {A : Around} {E : Value -> Shared -> Prop} {s : Shared}
theorem zJ9
  (hc : wpAny (model prog w) A.in1 (collect v) (fun vs s1 => ∃ ns, IntsAre vs ns /\ vs.length < 64 /\ ∀ (h' : Heap) (out : List Value) (n : Nat), (∀ b u, s1.heap.get? b = some u -> h'.get? b = some u) -> h'.get? s1.heap.objs.size = some (seqObj "list" out.toArray n) -> IntsAre out (zDN ns) -> Q (.ref s1.heap.objs.size) { s1 with heap := h' }) E s) :
  wpAny (model prog w) A (call (.builtin "sorted") [v]) Q E s := by
 refine Calls.call_function_entry kind_sorted plain_sorted entry_sorted (args_sorted1 _) ?_;unfold Builtin.«sorted»;refine zSo (m := checkCount "sorted" 1 1 _) (zSq ?_);refine zSo (zTK hc (fun vs s1 h1 => ?_) fun _ _ h' => h');obtain ⟨ns, hI, h64, h⟩ := h1;refine zSo (wpAny_newList ?_ (by rw [sizeLine_eq]; omega));have hoL : (s1.heap.push (seqObj "list" vs.toArray 0)).get? s1.heap.objs.size = some (seqObj "list" vs.toArray 0) := zSy _ rfl;refine zSo (zTh (zTR slot_list_sort ⟨_, hoL, rfl⟩ entry_list_sort (list_sort_tree (s := { s1 with heap := s1.heap.push (seqObj "list" vs.toArray 0) }) hoL hI h64 fun out ns' a1 a2 a3 => ⟨_, rfl, ?_⟩) (args_list_sort _)));refine zSq ⟨_, rfl, ?_⟩;have g1 := get?_update_seq hoL (fun _ => #[]);have g2 : (((s1.heap.push (seqObj "list" vs.toArray 0)).update s1.heap.objs.size (Obj.mapSeq fun _ => #[])).push (seqObj "tuple" vs.toArray 0)).get? s1.heap.objs.size = _ := zSp _ g1;have g3 := zSp (seqObj "list" #[] 0) g2;have g4 := get?_update_seq g3 (fun _ => out);have eS := zJH a2 a3;subst eS;refine h _ out.toList _ (fun b u e => ?_) (by rw [Array.toArray_toList]; exact g4) a1;have hb : s1.heap.objs.size ≠ b := fun z => zTW _ (z ▸ zSz e);exact (zTV _ _ hb).trans (zSp _ (zSp _ ((zTV _ _ hb).trans (zSp _ e))))
theorem zMK (h : F2 (zQe (intKind prog w)) es ks) : IntsAre (es.map (·.2)) ks := by
 induction h with
 | nil => exact .nil
 | cons h _ ih =>
  obtain ⟨⟨h1, _⟩, _⟩ := h;obtain ⟨t, e⟩ := Value.isInt_shape h1;rw [zS7, e];exact .cons _ _ ih
theorem zL8 (p : us.Perm vs) : ∀ {ks : List Int}, IntsAre vs ks -> ∃ ks', ks'.Perm ks /\ IntsAre us ks' := by
 have p' := p.symm;clear p;induction p' with
 | nil => intro ks h; exact ⟨ks, .refl _, h⟩
 | cons x _ ih =>
  intro ks h;cases h with
  | cons n t r =>
   obtain ⟨ys', q1, q2⟩ := ih r;exact ⟨_, q1.cons _, .cons _ _ q2⟩
 | swap x y l =>
  intro ks h;cases h with
  | cons n t r =>
   cases r with
   | cons n2 t2 r => exact ⟨_, List.Perm.swap _ _ _, .cons _ _ (.cons _ _ r)⟩
 | trans _ _ ih1 ih2 =>
  intro ks h;obtain ⟨ys', q1, q2⟩ := ih1 h;obtain ⟨ys'', r1, r2⟩ := ih2 q2;exact ⟨ys'', r1.trans q1, r2⟩
theorem zIz (p : xs.Perm ys) : zDN xs = zDN ys := zJH ((zBr xs).trans p) (zF8 xs)
theorem zJy (hh : A.handled = none) (ho : s.heap.get? a = some o) (hS : SetK (intKind prog w) o es ep t ks) (h64 : ks.length < 64)
  (h : ∀ (s1 : Shared) (h' : Heap) (out : List Value) (n : Nat), (∀ b u, s.heap.get? b = some u -> s1.heap.get? b = some u) -> s1.os = s.os -> s1.gens = s.gens -> (∀ b u, s1.heap.get? b = some u -> h'.get? b = some u) -> h'.get? s1.heap.objs.size = some (seqObj "list" out.toArray n) -> IntsAre out (zDN ks) -> Q (.ref s1.heap.objs.size) { s1 with heap := h' }) :
  wpAny (model prog w) A (call (.builtin "sorted") [.ref a]) Q E s := by
 refine zJ9 (zI2 (A := A.in1) hh ho hS fun s' acc k1 k2 k3 hp => ?_);obtain ⟨ks', p, f⟩ := hS.ent;obtain ⟨ks2, p2, f2⟩ := zL8 hp (zMK f);refine ⟨ks2, f2, ?_, fun h' out n e1 e2 e3 => ?_⟩
 ·rw [hp.length_eq, zSx, zTX, hS.size]; exact h64
 ·rw [zIz (p2.trans p)] at e3;exact h s' h' out n k1 k2 k3 e1 e2 e3
end
end ST
namespace L2
open PySem PySem.Spec PyProof.Rows ST
section
variable {X : Cx} {e : Expr} {p pos : Pos} {zB : List (Addr × Obj)} {σ : St} {H : Hp} {s : Shared}
theorem Inv.kept' (I : Inv X zB σ H s) (k : ∀ b u, s.heap.get? b = some u -> s1.heap.get? b = some u) (ho : s1.os = s.os) (hg : s1.gens = s.gens) : Inv X zB σ H s1 :=
 I.call' (ch := []) ho (Un.kept k) (I.hok.kept k) (by rw [hg]; exact I.bare) fun b hb => nomatch hb
theorem zFr : ∀ {ns : List Int} {us : List Value}, IntsAre us ns -> zk (ns.map V.int) us
 | _, _, .nil => .nil
 | _, _, .cons n t h => .cons ⟨t, rfl⟩ (zFr h)
theorem zN3 (ks : List Int) : (zDN ks).length = ks.length := (zBr ks).length_eq
theorem zNa (hc : X.calm = true) (hg : Gl X "sorted") (hm : X.mg "sorted" = none) (ha : PZ X e t) (hs : starEach [e] X.env = (false, eval e X.env) :: starEach [] X.env := by rfl) (hpl : (backTo pos (starEach [] X.env)).any (·.1) = false := by rfl) :
  PE X (.Call (.Name "sorted" p) [e] [] pos) (fun σ H Q => t σ H fun ks H1 => ks.length < 64 /\ ∀ q, H1 q = none -> Q (.ref q) (upd H1 q (.lst ((zDN ks).map V.int)))) := by
 intro zB s σ H Q I h;refine wpAny_Call_Name_kw (zEw I hg hm (by rfl) ?_ (by decide) (by decide));refine callWith_builtin1 ?_ hs hpl;rw [hs];show wpAny _ _ (spliced ((false, eval e X.env) :: backTo pos (starEach [] X.env))) _ _ s;refine Calls.spliced_cons (thn (ha zB s σ H _ I h) fun u s1 ⟨a, o, es, ep, tb, ks, H1, hv, ho, hS, I1, h64, q⟩ => Calls.spliced_nil ?_);subst hv;refine zJy (I1.ok.hd hc) ho hS h64 fun s2 h' out n k1 k2 k3 k4 e4 i4 => ?_;have I2 : Inv X zB σ H1 s2 := I1.kept' k1 k2 k3;have hf : H1 s2.heap.objs.size = none := I2.hok.fresh (zSu _);refine ⟨.ref s2.heap.objs.size, upd H1 s2.heap.objs.size (.lst ((zDN ks).map V.int)), I2.laid (t' := s2.toks) k4 (zSu _) ⟨by rw [zSx, zN3, sizeLine_eq]; omega, out, n, zFr i4, e4⟩, rfl, q _ hf⟩
end
end L2
namespace L3
open PySem PySem.Spec PyProof.Rows L2 ST
abbrev FZ := Sd -> Mem -> Option (List Int × Mem)
def trZ (K : PySem.W.Frag) (f : FZ) : TZ := fun τ H Q => ∃ L σ M ks M', Cor K L M H /\ zBW L H σ τ /\ f σ M = some (ks, M') /\ ∀ L' H', Stp L H L' H' -> Cor K L' M' H' -> Q ks H'
structure QZ (X : Cx) (e : Expr) (f : FZ) : Prop where
 un : PZ X e (trZ X.K f)
theorem PZ.imp (h : PZ X e t) (hi : ∀ τ H Q, t' τ H Q -> t τ H Q) : PZ X e t' := fun zB s σ H Q I q => h zB s σ H Q I (hi _ _ _ q)
noncomputable def zHf (own : List Nat) (fi : FI) (g : FG) (tc : FT) (te : FE) : FZ := fun σ M => match zAQ own fi g tc te σ M with
 | some (.fl ys, M2) => match zBi ys with
  | some ks => if ks.length + 1 < scanBound then some (zBF ks, M2) else none
  | none => none
 | _ => none
theorem zFt : ∀ {as bs : List D} {zs : List Int}, zBi (as ++ bs) = some zs -> ∃ xs ys, zBi as = some xs /\ zBi bs = some ys /\ zs = xs ++ ys
 | [], bs, zs, h => ⟨[], zs, rfl, h, rfl⟩
 | a :: as, bs, zs, h => by
  cases a with
  | int i =>
   rw [List.cons_append] at h;unfold zBi at h;split at h
   ·rename_i us e;cases h;obtain ⟨xs, ys, e1, e2, e3⟩ := zFt e;refine ⟨i :: xs, ys, ?_, e2, by rw [e3]; rfl⟩;unfold zBi; rw [e1]
   ·cases h
  | _ => cases h
theorem zJJ (h : zBi as = some xs) : zBi (as ++ [.int i]) = some (xs ++ [i]) := by
 induction as generalizing xs with
 | nil => cases h; rfl
 | cons a as ih =>
  cases a with
  | int j =>
   unfold zBi at h;split at h
   ·rename_i us e; cases h;rw [List.cons_append]; unfold zBi; rw [ih e]; rfl
   ·cases h
  | _ => cases h
theorem zLq {K : PySem.W.Frag} {own : List Nat} {fi : FI} {g : TG} {fg : FG} {tc : FT} {te : FE} (hg : zE0 own g fg) {τ : Sv} {H : Hp} {Q : List Int -> Hp -> Prop} (h : trZ K (zHf own fi fg tc te) τ H Q) : zJW own (trI K fi) g (trT K tc) (trD K (toD te)) τ H Q := by
 obtain ⟨L, σ, M, d, Mf, c, rs, hf, q⟩ := h;unfold zHf zAQ at hf;cases e1 : fi σ M with
 | none => rw [e1] at hf; cases hf
 | some r =>
  obtain ⟨xs, gd, M1⟩ := r;rw [e1] at hf;dsimp only at hf;by_cases hz : xs.length <= sizeLine
  ·rw [zS3 hz] at hf;cases e2 : zAx fg tc te (zB4 own σ) xs gd xs M1 with
   | none => rw [e2] at hf; cases hf
   | some r =>
    obtain ⟨zs, M2⟩ := r;rw [e2] at hf;dsimp only at hf;split at hf
    ·rename_i kz ez;split at hf
     ·rename_i hb;cases hf;refine ⟨L, σ, M, _, _, _, c, rs, e1, fun L1 H1 J s1 c1 it => ?_⟩
      refine ⟨fun i m ys H' => m = xs.length - i /\ i <= xs.length /\ ∃ L' M' as bs ka, Stp L1 H1 L' H' /\ Cor K L' M' H' /\ zBi as = some ka /\ ys = zBF ka /\ zAx fg tc te (zB4 own σ) xs gd (xs.drop i) M' = some (bs, Mf) /\ as ++ bs = zs,
       ⟨xs.length, by simp, zTa _, L1, M1, [], zs, [], .refl _ _, c1, rfl, rfl, by simpa using e2, rfl⟩, ?_⟩
      rintro i m ys H' ⟨rfl, hi, L', M', as, bs, ka, s', c', r', hl, e', hab⟩;by_cases hlt : i < xs.length
      ·rw [zCF hlt] at e';unfold zAx at e';split at e'
       ·rename_i hgd;obtain ⟨step, _⟩ := it L' H' M' s' c' hgd;obtain ⟨go, yl⟩ := step i xs[i] (zSs hlt);split at e'
        ·rename_i σ1 eg;refine .inr ⟨go, fun v H2 hy => ?_⟩;obtain ⟨gr, rv⟩ := yl v H2 hy;have s2 : Stp L1 H1 L' H2 := s'.yld gr;refine hg (zDw own ((rs.stp s1).stp s2)) (.refl _) rv eg fun τ2 r2 x2 => ⟨x2, ?_⟩;split at e'
         ·rename_i M3 e3;split at e'
          ·rename_i d M4 e4;split at e'
           ·rename_i ds M5 e5;cases e';refine ⟨L', σ1, M', _, _, c'.grow gr, r2, e3, fun L3 H3 s3 c3 => zGq ?_⟩;refine ⟨L3, σ1, M3, _, _, c3, r2.stp s3, e4, fun L4 H4 w s4 c4 r4 => ?_⟩;have st : Stp L' H' L4 H4 := ((Stp.grow gr).trans s3).trans s4;have ez' := ez;rw [<- hab] at ez';obtain ⟨x1, y1, g1, g2, g3⟩ := zFt ez';obtain ⟨k, hk⟩ : ∃ k, d = .int k := by
             cases d with
             | int k => exact ⟨k, rfl⟩
             | _ => cases g2
            subst hk;have ew : w = .int k := by unfold Rep at r4; exact r4
            have hka : ka.length <= kz.length := by
             rw [r'] at g1; cases g1;rw [g3, zS4]; omega
            refine ⟨k, ew, ?_, xs.length - (i + 1), by omega, rfl, hlt, L4, M4, as ++ [.int k], ds, ka ++ [k], s'.trans st, c4, zJJ r', by rw [hl, zIj], e5, by rw [<- hab]; simp⟩;rw [hl];have := zEM ka;omega
           ·cases e'
          ·cases e'
         ·rename_i M3 e3;refine ⟨L', σ1, M', _, _, c'.grow gr, r2, e3, fun L3 H3 s3 c3 => zG1 ?_⟩;have st : Stp L' H' L3 H3 := (Stp.grow gr).trans s3;exact ⟨xs.length - (i + 1), by omega, rfl, hlt, L3, M3, as, bs, ka, s'.trans st, c3, r', hl, e', hab⟩
         ·cases e'
        ·cases e'
       ·cases e'
      ·have hi' : i = xs.length := by omega
       subst hi';rw [List.drop_length] at e';unfold zAx at e';split at e'
       ·rename_i hgd;cases e';obtain ⟨_, stop⟩ := it L' H' _ s' c' hgd;rw [zTY] at hab;subst hab;rw [r'] at ez; cases ez;refine .inl ⟨stop, ?_⟩;rw [hl];exact q L' H' (s1.trans s') c'
       ·cases e'
     ·cases hf
    ·cases hf
  ·rw [zS6 hz] at hf; cases hf
section
variable {X : Cx} {scope : Scope} {tg elt iter : Expr} {ifs : List Expr} {pos p : Pos} {own : List Nat} {e : Expr} {f : FE}
theorem zQh (hg : zE0 own g fg) (C : CompIn X scope own) (hcalm : X.calm = true) (hi : QI X tg iter fi) (p : QParts X scope tg ifs elt g tc te) (hs : ∀ x, foldedSetIterable iter X.env x = pure x := by intro _; rfl) :
  QZ X (.SetComp elt [⟨tg, iter, ifs, 0⟩] scope pos) (zHf own fi fg tc te) :=
 .mk <| PZ.imp (zPj C hcalm hi.un p.parts hs) fun _ _ _ h => zLq hg h
def zGa (f : FZ) : FE := fun σ M => match f σ M with
 | some (ks, M1) => if ks.length < 64 then some (.fl ((zDN ks).map D.int), M1) else none
 | none => none
theorem zHJ : ∀ (ns : List Int), zW L H (ns.map D.int) (ns.map V.int)
 | [] => .nil
 | n :: ns => .cons zAs (zHJ ns)
theorem zO7 (hc : X.calm = true) (hg : Gl X "sorted") (hm : X.mg "sorted" = none) (h : QZ X e fz) (hs : starEach [e] X.env = (false, eval e X.env) :: starEach [] X.env := by rfl) (hpl : (backTo pos (starEach [] X.env)).any (·.1) = false := by rfl) :
  QE X (.Call (.Name "sorted" p) [e] [] pos) (zGa fz) := .mk <| PE.imp (zNa hc hg hm h.un hs hpl) fun τ H Q ⟨L, σ, M, d, M', c, rs, hf, q⟩ => by
 unfold zGa at hf;split at hf
 ·rename_i ks M1 e1;split at hf
  ·rename_i hb;cases hf;refine ⟨L, σ, M, _, _, c, rs, e1, fun L1 H1 s1 c1 => ⟨hb, fun p hp => ?_⟩⟩;exact q L1 _ _ (s1.trans (.upd hp)) (c1.upd hp) (zm.newLst s1 c c1 hp (zHJ _))
  ·cases hf
 ·cases hf
end
open AutoSeq1 (wpAny_loadPart')
section
variable {κ : Type} [DecidableEq κ]
def zDY (kf : D -> Option κ) (kvs : List (D × D)) (k : κ) : Option D := (kvs.find? fun p => decide (kf p.1 = some k)).map (·.2)
def zGo (kf : D -> Option κ) (kvs : List (D × D)) (k : κ) (kd v : D) : List (D × D) :=
 if (kvs.any fun p => decide (kf p.1 = some k)) = true then kvs.map fun p => if kf p.1 = some k then (p.1, v) else p else kvs ++ [(kd, v)]
theorem zDr (k : κ) : ∀ {kvs : List (D × D)} {vs : List (κ × V)}, zBI kf L H kvs vs -> (zDY kf kvs k = none /\ zCV vs k = none) \/ ∃ d v, zDY kf kvs k = some d /\ zCV vs k = some v /\ Rep L H d v
 | [], vs, h => by unfold zBI at h; subst h; exact .inl ⟨rfl, rfl⟩
 | p :: r, vs, h => by
  obtain ⟨k', v, r', rfl, e, h1, h2⟩ := h;by_cases q : k' = k
  ·subst q;exact .inr ⟨p.2, v, by unfold zDY; rw [zUg, e]; simp, by rw [zET rfl], h1⟩
  ·have e1 : zDY kf (p :: r) k = zDY kf r k := by unfold zDY; rw [zUg, e]; simp [q]
   rw [e1, zEq q];exact zDr k h2
theorem zJZ (k : κ) : ∀ {kvs : List (D × D)} {vs : List (κ × V)}, zBI kf L H kvs vs -> (kvs.any fun p => decide (kf p.1 = some k)) = (vs.any fun kv => decide (kv.1 = k))
 | [], vs, h => by unfold zBI at h; subst h; rfl
 | p :: r, vs, h => by
  obtain ⟨k', v, r', rfl, e, h1, h2⟩ := h;rw [List.any_cons, List.any_cons, zJZ k h2, e];simp
theorem zGV (k : κ) (hd : Rep L H d u) : ∀ {kvs : List (D × D)} {vs : List (κ × V)}, zBI kf L H kvs vs -> zBI kf L H (kvs.map fun p => if kf p.1 = some k then (p.1, d) else p) (vs.map fun kv => if kv.1 = k then (kv.1, u) else kv)
 | [], vs, h => by unfold zBI at h; subst h; rfl
 | p :: r, vs, h => by
  obtain ⟨k', v, r', rfl, e, h1, h2⟩ := h;rw [zS7, zS7];by_cases q : k' = k
  ·subst q;rw [zS3 e, zS3 rfl];exact ⟨k', u, _, rfl, e, hd, zGV k' hd h2⟩
  ·rw [zS6 (by rw [e]; simpa using q), zS6 q];exact ⟨k', v, _, rfl, e, h1, zGV k hd h2⟩
theorem zG5 (hk : kf kd = some k) (hd : Rep L H d u) : ∀ {kvs : List (D × D)} {vs : List (κ × V)}, zBI kf L H kvs vs -> zBI kf L H (kvs ++ [(kd, d)]) (vs ++ [(k, u)])
 | [], vs, h => by unfold zBI at h; subst h; exact ⟨k, u, [], rfl, hk, hd, rfl⟩
 | p :: r, vs, h => by
  obtain ⟨k', v, r', rfl, e, h1, h2⟩ := h;exact ⟨k', v, _, rfl, e, h1, zG5 hk hd h2⟩
theorem zIR {kf : D -> Option κ} {L : List Addr} {H : Hp} {k : κ} {kd d : D} {u : V} (hk : kf kd = some k) (hd : Rep L H d u) {kvs : List (D × D)} {vs : List (κ × V)} (h : zBI kf L H kvs vs) : zBI kf L H (zGo kf kvs k kd d) (zCW vs k u) := by
 unfold zGo zCW;rw [zJZ k h];split
 ·exact zGV k hd h
 ·exact zG5 hk hd h
end
theorem zJe : ∀ {ds : List D} {vs : List V} {ks : List Key}, zW L H ds vs -> zFo ds = some ks -> vs = ks.map kV
 | [], vs, ks, h, e => by cases e; unfold zW at h; exact h
 | d :: ds, vs, ks, h, e => by
  unfold zW at h;obtain ⟨v, r, rfl, h1, h2⟩ := h;unfold zFo at e;cases e1 : zF4 d with
  | none => rw [e1] at e; cases e
  | some k =>
   cases e2 : zFo ds with
   | none => rw [e1, e2] at e; cases e
   | some ks' =>
    rw [e1, e2] at e; cases e;rw [zHs h1 e1, zJe h2 e2]; rfl
theorem zJp (h : Rep L H d v) (e : tkD d = some ks) : ∃ b, v = .ref b /\ H b = some (.tup (ks.map kV)) := by
 cases d with
 | tup ds =>
  unfold Rep at h;obtain ⟨a, vs, rfl, e1, r⟩ := h;exact ⟨a, rfl, by rw [e1, zJe r e]⟩
 | _ => cases e
def zFO (M : Mem) (x : EV) (k : D) : Option (Option D) := match x with
 | .dat (.ref n) => match M[n]? with
  | some (.dict kvs) => match zF4 k with
   | some kk => some (zDY zF4 kvs kk)
   | none => none
  | some (.dicT kvs) => match tkD k with
   | some kk => some (zDY tkD kvs kk)
   | none => none
  | _ => none
 | _ => none
def zR7 (L : List Addr) (H : Hp) : Option D -> Option V -> Prop
 | none, o => o = none
 | some d, o => ∃ v, o = some v /\ Rep L H d v
theorem zFv {K : PySem.W.Frag} {L : List Addr} {M : Mem} {H H0 : Hp} {x : EV} {v w : V} {k : D} {o : Option D} (c : Cor K L M H) (rx : zm H0 L H x v) (rk : Rep L H k w) (e : zFO M x k = some o) : ∃ a ov, v = .ref a /\ zD4 H a w ov /\ zR7 L H o ov := by
 cases x with
 | fl xs => cases e
 | dat d =>
  cases d with
  | ref n =>
   unfold zm Rep at rx;obtain ⟨a, rfl, ea⟩ := rx;unfold zFO at e;dsimp only at e;cases q : M[n]? with
   | none => rw [q] at e; cases e
   | some m =>
    rw [q] at e;have z := c.obj n a m ea q;cases m with
    | dict kvs =>
     dsimp only at e;cases e2 : zF4 k with
     | none => rw [e2] at e; cases e
     | some kk =>
      rw [e2] at e;cases e;obtain ⟨vs, e3, r⟩ := z;refine ⟨a, zCV vs kk, rfl, ?_, ?_⟩
      ·rw [zHs rk e2]; exact zD4.k e3
      ·rcases zDr kk r with ⟨h1, h2⟩ | ⟨d, v, h1, h2, h3⟩
       ·rw [h1, h2]; rfl
       ·rw [h1, h2]; exact ⟨v, rfl, h3⟩
    | dicT kvs =>
     dsimp only at e;cases e2 : tkD k with
     | none => rw [e2] at e; cases e
     | some kk =>
      rw [e2] at e;cases e;obtain ⟨vs, e3, r⟩ := z;obtain ⟨b, rfl, eb⟩ := zJp rk e2;refine ⟨a, zCV vs kk, rfl, zD4.t e3 eb, ?_⟩;rcases zDr kk r with ⟨h1, h2⟩ | ⟨d, v, h1, h2, h3⟩
      ·rw [h1, h2]; rfl
      ·rw [h1, h2]; exact ⟨v, rfl, h3⟩
    | _ => cases e
  | _ => cases e
def zFH (M : Mem) (n : Nat) (k v : D) : Option Mem := match M[n]? with
 | some (.dict kvs) => match zF4 k with
  | some kk => if kvs.length < sizeLine then some (M.set n (.dict (zGo zF4 kvs kk k v))) else none
  | none => none
 | some (.dicT kvs) => match tkD k with
  | some kk => if kvs.length < sizeLine then some (M.set n (.dicT (zGo tkD kvs kk k v))) else none
  | none => none
 | _ => none
theorem zI0 {K : PySem.W.Frag} {L : List Addr} {M M' : Mem} {H : Hp} {n : Nat} {a : Addr} {k v : D} {w u : V} (c : Cor K L M H) (ea : L[n]? = some a) (rk : Rep L H k w) (rv : Rep L H v u) (e : zFH M n k v = some M') : ∃ H', zFU H a w u H' /\ Cor K L M' H' /\ Stp L H L H' := by
 unfold zFH at e;cases q : M[n]? with
 | none => rw [q] at e; cases e
 | some m =>
  rw [q] at e;have z := c.obj n a m ea q;cases m with
  | dict kvs =>
   dsimp only at e;cases e2 : zF4 k with
   | none => rw [e2] at e; cases e
   | some kk =>
    rw [e2] at e;dsimp only at e;split at e
    ·rename_i hl;cases e;obtain ⟨vs, e3, r⟩ := z;obtain ⟨c3, s3⟩ := c.put (m := .dict (zGo zF4 kvs kk k v)) (o' := .dK (zCW vs kk u)) ea e3 (fun _ z => by cases z) (fun _ _ z => by cases z) fun s3 => ⟨_, zAP, (zIR e2 rv r).stp s3⟩;refine ⟨_, ?_, c3, s3⟩;rw [zHs rk e2]; exact zFU.k e3 (by rw [r.length]; exact hl)
    ·cases e
  | dicT kvs =>
   dsimp only at e;cases e2 : tkD k with
   | none => rw [e2] at e; cases e
   | some kk =>
    rw [e2] at e;dsimp only at e;split at e
    ·rename_i hl;cases e;obtain ⟨vs, e3, r⟩ := z;obtain ⟨b, rfl, eb⟩ := zJp rk e2;obtain ⟨c3, s3⟩ := c.put (m := .dicT (zGo tkD kvs kk k v)) (o' := .dT (zCW vs kk u)) ea e3 (fun _ z => by cases z) (fun _ _ z => by cases z) fun s3 => ⟨_, zAP, (zIR e2 rv r).stp s3⟩;exact ⟨_, zFU.t e3 eb (by rw [r.length]; exact hl), c3, s3⟩
    ·cases e
  | _ => cases e
section
variable {X : Cx} {a b e o i value : Expr} {pos pos' apos cpos : Pos} {f g h : FE}
def zCK : K2 := fun x y M => match y with
 | .dat k => match zFO M x k with
  | some (some d) => some (.dat d, M)
  | _ => none
 | _ => none
theorem zOM {K : PySem.W.Frag} : zDE K (fun x y H Q => ∃ a v, x = .ref a /\ zD4 H a y (some v) /\ Q v H) zCK := by
 intro L M M' H H0 x y d v w Q c rx ry hk q;unfold zCK at hk;split at hk
 ·rename_i k;split at hk
  ·rename_i d' e1;cases hk;obtain ⟨a, ov, rfl, h1, h2⟩ := zFv c rx ry e1;obtain ⟨u, rfl, r⟩ := h2;exact ⟨a, u, rfl, h1, q L H u (.refl L H) c r⟩
  ·cases hk
 ·cases hk
theorem zNy (hu : X.A.units + 1 < cLine) (h1 : QE X o f) (h2 : QE X i g) (hs : zQC i := by intro _ _; rfl) : QE X (.Subscript o i pos) (fOp zCK f g) := .mk <| PE.imp (zOi hu h1.un h2.un hs) fun _ _ _ h => zDv zOM h
def zCD (neg : Bool) : K2 := fun x y M => match x with
  | .dat k => match zFO M y k with
    | some o => some (.dat (.bl (if neg then !o.isSome else o.isSome)), M)
    | none => none
  | _ => none
theorem zNB {o : Option D} {ov : Option V} (h : zR7 L H o ov) : ov.isSome = o.isSome := by
  cases o with
  | none => have h' : ov = none := h
            rw [h']; rfl
  | some d => obtain ⟨v, rfl, _⟩ := h; rfl
theorem zJm {K : PySem.W.Frag} : zDE K (fun y x H Q => ∃ a o, x = .ref a /\ zD4 H a y o /\ Q (.bl (!o.isSome)) H) (zCD true) := by
 intro L M M' H H0 x y d v w Q c rx ry hk q;unfold zCD at hk;split at hk
 ·rename_i k;split at hk
  ·rename_i o e1;cases hk;obtain ⟨a, ov, rfl, h1, h2⟩ := zFv c ry rx e1;refine ⟨a, ov, rfl, h1, ?_⟩;rw [zNB h2];exact q L H _ (.refl L H) c (zCR (L := L) (H := H))
  ·cases hk
 ·cases hk
theorem zCE (hu : X.A.units + 1 < cLine) (h1 : QE X a f) (h2 : QE X b g) (hm : behindInMarks .NotIn b = false := by rfl) : QT X (.Compare a [.NotIn] [b] pos) (tst (fOp (zCD true) f g)) := .mk <| PT.imp (zQN (zMS hu h1.un h2.un) hm) fun _ _ _ h => zGD (fun _ _ _ z => zDv zJm z) (zE8 h)
def zBc (fv fo fi : FE) : FS := fun σ M => match toD fv σ M with
 | some (v, M1) => match toD fo σ M1 with
  | some (.ref n, M2) => match toD fi σ M2 with
   | some (k, M3) => match zFH M3 n k v with
    | some M4 => some (.nx, σ, M4)
    | none => none
   | none => none
  | _ => none
 | none => none
theorem zIG (hu : X.A.units + 1 < cLine) (hv : QE X value f) (ho : QE X o g) (hi : QE X i h) (hs : swapsWith value (some (.Subscript o i pos')) pos.line X.env = pure false := by rfl) : QS X (.Assign [.Subscript o i pos'] value pos) (zBc f g h) :=
 .mk <| PS.imp (zPk hu (zN ho).un (zN hi).un (zN hv).un hs) fun E τ H ⟨L, σ, M, out, σ', M', c, rs, hf, q⟩ => by
  unfold zBc at hf;split at hf
  ·rename_i v M1 e1;split at hf
   ·rename_i n M2 e2;split at hf
    ·rename_i k M3 e3;split at hf
     ·rename_i M4 e4;cases hf;refine ⟨L, σ, M, _, _, c, rs, e1, fun L1 H1 u s1 c1 r1 => ⟨L1, σ, M1, _, _, c1, rs.stp s1, e2, fun L2 H2 y s2 c2 r2 => ⟨L2, σ, M2, _, _, c2, (rs.stp s1).stp s2, e3, fun L3 H3 z s3 c3 r3 => ?_⟩⟩⟩;unfold Rep at r2;obtain ⟨a, rfl, ea⟩ := r2;have ea3 : L3[n]? = some a := by obtain ⟨N, hN⟩ := s3.pre; rw [hN]; exact zCC ea
      obtain ⟨H4, h1, h2, h3⟩ := zI0 c3 ea3 r3 ((r1.stp s2).stp s3) e4;exact ⟨a, H4, rfl, h1, q L3 H4 (((s1.trans s2).trans s3).trans h3) h2 τ ((((rs.stp s1).stp s2).stp s3).stp h3)⟩
     ·cases hf
    ·cases hf
   ·cases hf
  ·cases hf
def zBq (fo fi fx : FE) : FE := fun σ M => match toD fo σ M with
 | some (.ref n, M1) => match M1[n]? with
  | some (.dict _) | some (.dicT _) => match toD fi σ M1 with
   | some (k, M2) => match toD fx σ M2 with
    | some (x, M3) => match zFO M3 (.dat (.ref n)) k with
     | some o => some (.dat (o.getD x), M3)
     | none => none
    | none => none
   | none => none
  | _ => none
 | _ => none
theorem zKx (hu : X.A.units + 1 < cLine) (ho : QE X o f) (hi : QE X i g) (hx : QE X e h) (m : M2 X o "get" apos i e cpos) : QE X (.Call (.Attribute o "get" apos) [i, e] [] cpos) (zBq f g h) :=
 .mk <| PE.imp (zMt hu (zN ho).un (zN hi).un (zN hx).un m) fun τ H Q ⟨L, σ, M, d, M', c, rs, hf, q⟩ => by
  have key : ∀ n M1, toD f σ M = some (.ref n, M1) -> (∃ kvs, M1[n]? = some (.dict kvs) \/ M1[n]? = some (.dicT kvs)) -> (match toD g σ M1 with
   | some (k, M2) => match toD h σ M2 with
    | some (x, M3) => match zFO M3 (.dat (.ref n)) k with
     | some o => some (EV.dat (o.getD x), M3)
     | none => none
    | none => none
   | none => none) = some (d, M') -> zNO (trD X.K (toD f)) (trD X.K (toD g)) (trD X.K (toD h)) τ H Q := by
   intro n M1 e1 hd hf;split at hf
   ·rename_i k M2 e2;split at hf
    ·rename_i x M3 e3;split at hf
     ·rename_i ov e4;cases hf;refine ⟨L, σ, M, _, _, c, rs, e1, fun L1 H1 u s1 c1 r1 => ?_⟩;unfold Rep at r1;obtain ⟨a, rfl, ea⟩ := r1;refine ⟨a, rfl, ?_, L1, σ, M1, _, _, c1, rs.stp s1, e2, fun L2 H2 y s2 c2 r2 => ⟨L2, σ, M2, _, _, c2, (rs.stp s1).stp s2, e3, fun L3 H3 z s3 c3 r3 => ?_⟩⟩
      ·obtain ⟨kvs, hk | hk⟩ := hd
       ·obtain ⟨vs, e5, _⟩ := c1.obj n a _ ea hk; exact .inl ⟨vs, .inl e5⟩
       ·obtain ⟨vs, e5, _⟩ := c1.obj n a _ ea hk; exact .inr ⟨vs, .inl e5⟩
      ·have ra : zm H L3 H3 (.dat (.ref n)) (.ref a) := by
        unfold zm Rep;exact ⟨a, rfl, by obtain ⟨N, hN⟩ := (s2.trans s3).pre; rw [hN]; exact zCC ea⟩
       obtain ⟨a', o', e6, h1, h2⟩ := zFv c3 ra (r2.stp s3) e4;cases e6;refine ⟨o', h1, ?_⟩;cases ov with
       | none =>
        have h' : o' = none := h2;subst h';exact q L3 H3 _ ((s1.trans s2).trans s3) c3 r3
       | some dd =>
        obtain ⟨v, rfl, rv⟩ := h2;exact q L3 H3 _ ((s1.trans s2).trans s3) c3 rv
     ·cases hf
    ·cases hf
   ·cases hf
  unfold zBq at hf;split at hf
  ·rename_i n M1 e1;split at hf
   ·rename_i kvs e5; exact key n M1 e1 ⟨kvs, .inl e5⟩ hf
   ·rename_i kvs e5; exact key n M1 e1 ⟨kvs, .inr e5⟩ hf
   ·cases hf
  ·cases hf
end
end L3
namespace L2
open PySem PySem.Spec PyProof.Rows
section
variable {prog : Program} {w : World} {A : Around} {R : Result -> Shared -> Prop} {s : Shared}
theorem zC1 {kx vx target iter ifs rest scope pos it acc env}
  (h0 : codeAny (model prog w) A (.compLoop (.DictComp kx vx (⟨target, iter, ifs, 0⟩ :: rest) scope pos) 0 it acc env) R s)
  (h : wpAny (model prog w) A (pyIter it) (fun it' s' => codeAny (model prog w) A (.compLoop (.DictComp kx vx (⟨target, iter, ifs, 0⟩ :: rest) scope pos) 0 it' acc env) R s')
   (notedBy (model prog w) A env fun x s' => R (.error x) s') s) :
  codeAny (model prog w) A (.compStart (.DictComp kx vx (⟨target, iter, ifs, 0⟩ :: rest) scope pos) 0 it acc env) R s := by
 refine codeAny_of_tree ?_;show wpAny _ _ ((compStart (.DictComp kx vx (⟨target, iter, ifs, 0⟩ :: rest) scope pos) 0 it acc env).onRaise (fun x => do noteFrame x env; standAt theWindowsPlace)) _ _ s;refine wpAny_notedAt ?_;unfold compStart;show wpAny _ _ (ask >>= _) _ _ s;refine zSo (wpAny_askSetting (wpAny_ite ?_));split
 ·first
   | exact zSo (zSq (zSq (And.intro rfl h0)))
   | exact zSq (And.intro rfl h0)
 ·first
   | exact zSo (zUG (zSo (zTm (zSo (zTK h (fun it' s' h' => zSq (And.intro rfl h')) fun _ _ x => x)))))
   | (refine zSo (zUG ?_); show wpAny _ _ (standAt iter.pos >>= _) _ _ s; exact zSo (zTm (zSo (zTK h (fun it' s' h' => zSq (And.intro rfl h')) fun _ _ x => x))))
end
section
variable {X : Cx} {zB : List (Addr × Obj)} {σ : St} {H : Hp} {s : Shared}
theorem Inv.trackAt (I : Inv X zB σ H s) (ho : s.heap.get? D = some o) (hn : H D = none) (h0 : X.s₀.heap.objs.size <= D) (hL : D ≠ X.env.locals) (hc : ∀ x c, X.env.cells.lookup x = some c -> c ≠ D) (hp : ∀ p ∈ X.pn ++ zB, p.1 ≠ D)
  (new : zAX X.prog X.w (upd H D u) s.heap D u) : Inv X zB σ (upd H D u) s := by
 have un : ∀ b v, H b = some v -> upd H D u b = some v := fun b v e => by rw [zg (zAM e hn)]; exact e
 have e0 : s = { s with heap := s.heap, gens := s.gens, drawn := s.drawn, toks := s.toks } := by cases s; rfl
 rw [e0];refine I.step (g' := s.gens) (d' := s.drawn) (ch := [D]) (fun b hb => ?_) (fun b v _ _ _ e _ => e) (fun b v _ _ _ e _ => ⟨v.slots, e⟩) (fun b v hb e n => ?_) (fun b v _ e => ⟨v, e⟩) (fun b xs e => un b _ e) (fun b p v e => un b _ e) (fun b ps e => ⟨#[], by rw [un b _ e]; simp⟩) (fun m hm => hm) (fun b v e => ?_) I.bare
 ·have : b = D := by simpa using hb
  subst this;exact ⟨.inr h0, hL, hc, hp⟩
 ·rw [zg (fun z => hb (by simp [z]))]; exact n
 ·by_cases hb : b = D
  ·subst hb; rw [zAP] at e; cases e; exact new
  ·rw [zg hb] at e;exact (I.hok b v e).stay (fun c v hc q => q) (fun c q => un c _ q) fun c xs q => un c _ q
theorem zL2 (hu : A.units + 1 < cLine) (I : Inv X zB σ H s) (g : zFU H a y v H') (ry : zy y u) (rv : zy v r) (h : ∀ s', Inv X zB σ H' s' -> Heap.SameBut a s.heap s'.heap -> Q () s') :
  wpAny (model X.prog X.w) A (dictSet a u r) Q E s := by
 rcases g with ⟨kvs, k, e, ey, l, eH⟩ | ⟨kvs, k, b, e, ey, eb, l, eH⟩
 ·subst ey eH;obtain ⟨z, hd, vs, rel, dd⟩ := zP3 I.hok e;have hz : vs.length <= sizeLine := by rw [<- rel.length]; exact z
  have hl : (zCW kvs k v).length <= sizeLine := by have := zB0 kvs k v; omega
  refine wpAny_dictSet_pairs (hsz := hz) (zHA ry) dd fun h' dd' hs => h _ ?_ hs;have he : ∃ q, h'.get? a = some q := let ⟨q, _, _, hq, _⟩ := dd'; ⟨q, hq⟩;exact zEO I (by rw [e]; exact True.intro) hs he (zM5 hl hd (rel.put k rv) dd')
 ·subst ey eH;cases (show u = Value.ref b from ry);obtain ⟨z, hd, xs, rel, dd⟩ := zNl I.hok e;have hz : xs.length <= sizeLine := by rw [<- Paired.length rel]; exact z
  have hl : (zCW kvs k v).length <= sizeLine := by have := zB0 kvs k v; omega
  refine wpAny_dictSet_heap (hsz := hz) (show (tupleKind (zAY X.prog X.w)).room A from Nat.lt_of_succ_lt hu) (zEJ I.hok eb) dd fun h' dd' hs => h _ ?_ hs;obtain ⟨q, es, ep, hq, h2, h3, h4, _, h5⟩ := dd';refine zEO I (by rw [e]; exact True.intro) hs ⟨q, hq⟩ ⟨hl, hd, _, (rel.put k eb rv).keeps fun c ys ec => ?_, q, es, ep, hq, h2, h3, h4, h5⟩;rw [zg (zGM ec e (fun z => nomatch z))];exact ec
end
def zEC (isT : Bool) : HO := if isT then .dT [] else .dK []
abbrev zB6 : Obj := { cls := .type "dict", data := .dict #[] }
section
variable {X : Cx} {zB : List (Addr × Obj)} {σ : St} {H : Hp} {s : Shared} {scope : Scope} {cl : List (Str × Addr)} {fp : List Addr} {it : Addr} {tn : Nat -> Heap -> Prop} {J : It} {tg kx vx iter : Expr} {ifs : List Expr} {pos : Pos}
 {own : List Nat} {g : TG} {tc : TT} {tk tv : TE} {E : Value -> Shared -> Prop} {isT : Bool}
theorem zFZ (hu : X.A.units + 1 < cLine) (C : CompIn X scope own) (hcalm : X.calm = true) (I : Inv X zB σ H s) (T : Turn X.prog X.w X.K tg J fp it tn) (st : tn 0 s.heap) (hf : ∀ b ∈ fp, zCP X zB H b)
  (c1 : ∀ x c, cl.lookup x = some c -> X.env.cells.lookup x = some c) (c2 : ∀ y ∈ scope.names, y.2 = .free -> (cl.lookup y.1).isSome = true)
  (hg : PG (zO X zB scope cl s H fp) tg g) (hi : zFY (zO X zB scope cl s H fp) ifs tc) (hk : PE (zO X zB scope cl s H fp) kx tk) (hv : PE (zO X zB scope cl s H fp) vx tv)
  {RR : Value -> Addr -> Result -> Shared -> Prop} {QQ : Hp -> Prop} {W : Nat -> Nat -> Hp -> Prop} {m0 : Nat} (w0 : W 0 m0 (upd H s.heap.objs.size (zEC isT)))
  (turn : ∀ i m H, W i m H -> (J.stop i H /\ QQ H) \/
   (J.go i H /\ ∀ x H', J.yld i H x H' -> g x (clr own σ) H' fun σ2 H2 => Ext (clr own σ) σ2 /\ tc σ2 H2 fun b H3 =>
    if b = true then tk σ2 H3 fun k H4 => tv σ2 H4 fun v H5 => ∃ H6 m', zFU H5 s.heap.objs.size k v H6 /\ m' < m /\ W (i + 1) m' H6 else ∃ m', m' < m /\ W (i + 1) m' H3))
  (fin : ∀ σc H' s', Inv (zO X zB scope cl s H fp) [] σc H' s' -> QQ H' -> RR (.ref s.heap.objs.size) (s.heap.objs.size + 1) (.ok .next) s') :
  wpAny (model X.prog X.w) X.A newDict (fun acc s₃ => wpAny (model X.prog X.w) X.A (newFunctionEnv scope X.env.globals cl [] X.env.qual none .none (some X.env)) (fun cenv s₄ =>
   codeAny (model X.prog X.w) X.A (.compStart (.DictComp kx vx [⟨tg, iter, ifs, 0⟩] scope pos) 0 (.ref it) acc { cenv with scope := relabel scope X.env }) (RR acc cenv.locals) s₄) E s₃) E s := by
 have ob : ∀ b : Nat, b ∈ fp -> b < s.heap.objs.size := fun b hb => let ⟨_, e, _⟩ := T.obj 0 _ st b hb; zSz e;show wpAny _ _ (newObj (.type "dict") (.dict #[])) _ _ _;refine zTH (zCg ?_);have sz1 : (s.heap.push zB6).objs.size = s.heap.objs.size + 1 := zTU ..;have I4 := zEj (X := X) (zB := zB) (σ := σ) (σc := clr own σ) (H := H) (s := s) (scope := scope) (cl := cl) (fp := fp) C.sc I hf ob c1 c2 (zBS own σ) (fun i x v h1 h2 h3 => by
  obtain ⟨a, b⟩ := zCZ own σ i v h2;rcases C.nm i x h1 with z | z | z
  ·exact absurd z b
  ·exact absurd (zB9 x z) h3
  ·exact ⟨z, a⟩) zB6 (by intro v z; cases z) rfl rfl
 have st4 : tn 0 (pushCells ((s.heap.push zB6).push { cls := .type "dict", data := .dict #[] }) scope.names) := T.keep 0 _ _ st fun b _ o e => pushCells_keeps _ _ b o (zSp _ (zSp _ e));dsimp only;unfold newEnv;dsimp only;rw [sz1];have hDfp : s.heap.objs.size ∉ fp := fun z => zTW _ (ob _ z);obtain ⟨pD, nD, neD, nfD, dD⟩ := I4.pin (s.heap.objs.size, zB6) (by simp);have hcD : ∀ x c, (zO X zB scope cl s H fp).env.cells.lookup x = some c -> c ≠ s.heap.objs.size := fun x c e z => by
  obtain ⟨v, o, ho, hd⟩ := I4.cell x c e;rw [z, pD] at ho;cases ho; cases hd
 have hpn : ∀ p ∈ (zO X zB scope cl s H fp).pn ++ [], p.1 ≠ s.heap.objs.size := fun p hp => by
  rw [zTY] at hp;have hp' : p ∈ X.pn ++ zB := hp;exact zS9 (zSz (I.pin p hp').1)
 have big : sysModules < s.heap.objs.size := I.big;have hsm : (s.heap.objs.size == sysModules) = false := by rw [beq_eq_false_iff_ne]; exact Nat.ne_of_gt big
 have I5 : Inv (zO X zB scope cl s H fp) [] (clr own σ) (upd H s.heap.objs.size (zEC isT)) { s with heap := pushCells ((s.heap.push zB6).push { cls := .type "dict", data := .dict #[] }) scope.names } := by
  have I4' : Inv (zO X zB scope cl s H fp) [] (clr own σ) H { s with heap := pushCells ((s.heap.push zB6).push { cls := .type "dict", data := .dict #[] }) scope.names } := I4.pins_of fun p hp => nomatch hp;refine I4'.trackAt pD nD (zSu _) neD hcD hpn ?_;cases isT with
  | false => exact ⟨zTa _, hsm, [], .nil, zB6, #[], 0, pD, ⟨rfl, rfl, rfl⟩, rfl, fun _ he => by simp at he, .nil, List.nodup_nil⟩
  | true => exact ⟨zTa _, hsm, [], .nil, zB6, #[], 0, pD, ⟨rfl, rfl, rfl⟩, rfl, rfl, List.nodup_nil⟩
 have fpk : ∀ {H' : Hp}, (∀ b ∈ fp, H' b = none) -> ∀ b ∈ fp, zCP (zO X zB scope cl s H fp) [] H' b := fun {H'} hn b hb =>
  ⟨hn b hb, (I4.ok.exf b hb).1, I4.ok.exfs b hb, .inl hb, (I4.ok.exf b hb).2, fun p hq => by
   rw [zTY] at hq;exact (hf b hb).2.2.2.2.2 p hq⟩
 have loop : codeAny (model X.prog X.w) X.A (.compLoop (.DictComp kx vx [⟨tg, iter, ifs, 0⟩] scope pos) 0 (.ref it) (.ref s.heap.objs.size) (zO X zB scope cl s H fp).env) (RR (.ref s.heap.objs.size) (s.heap.objs.size + 1))
   { s with heap := pushCells ((s.heap.push zB6).push { cls := .type "dict", data := .dict #[] }) scope.names } := by
  refine zGz (fun n s' => ∃ i H', Inv (zO X zB scope cl s H fp) [] (clr own σ) H' s' /\ tn i s'.heap /\ (∀ b ∈ fp, H' b = none) /\ W i n H') ?_ m0
   ⟨0, _, I5, st4, fun b hb => by rw [zg (show b ≠ s.heap.objs.size from fun z => hDfp (by rw [<- z]; exact hb))]; exact (hf b hb).1, w0⟩
  rintro n s5 ⟨i, H5, J5, st5, f5, w5⟩;rcases turn i n H5 w5 with ⟨stop, qq⟩ | ⟨go, step⟩
  ·refine thn (T.done (zO X zB scope cl s H fp) rfl rfl rfl hcalm i _ s5 _ H5 _ J5 (fpk f5) st5 stop) fun r s6 ⟨hr, I6⟩ => ?_;subst hr;exact fin _ H5 s6 I6 qq
  ·refine thn (T.item (zO X zB scope cl s H fp) rfl rfl rfl hcalm i _ s5 _ H5 _ J5 (fpk f5) st5 go) fun r s6 ⟨u, hr, h6⟩ => ?_;subst hr;refine thn h6 fun _ s7 ⟨x, H7, I7, r7, y7, st7, f7⟩ => ?_;have I7' := I7.pinned (fpk f7) (T.obj _ _ st7);refine thn (hg _ s7 _ H7 x u _ I7' r7 (step x H7 y7)) fun _ s8 ⟨σ8, H8, I8, x8, q8⟩ => ?_;refine thn (hi _ s8 σ8 H8 _ I8 q8) fun ok s9 ⟨H9, I9, q9⟩ => ?_;have back : ∀ {s' : Shared} {Hx : Hp}, Inv (zO X zB scope cl s H fp) ([] ++ zCn fp s7.heap) σ8 Hx s' -> tn (i + 1) s'.heap /\ ∀ b ∈ fp, Hx b = none := fun {s' Hx} Ix =>
    ⟨T.keep _ _ _ st7 fun b hb o e => (Ix.pin (b, o) (zS8 _ (zS8 _ (zAN hb e)))).1, fun b hb => by
     obtain ⟨o, e, d⟩ := T.obj _ _ st7 b hb;exact (Ix.pin (b, o) (zS8 _ (zS8 _ (zAN hb e)))).2.1⟩
   cases ok with
   | false =>
    obtain ⟨m', hm, w'⟩ := q9;obtain ⟨b1, b2⟩ := back I9;exact ⟨m', hm, i + 1, H9, (I9.weak (by rw [x8.1]) x8.2).unpinned, b1, b2, w'⟩
   | true =>
    refine thn (hk _ s9 σ8 H9 _ I9 q9) fun kv s10 ⟨y, H10, I10, r10, q10⟩ => ?_;refine thn (hv _ s10 σ8 H10 _ I10 q10) fun vv s11 ⟨z, H11, I11, r11, H12, m', hp, hm, w'⟩ => ?_;refine zL2 (X := zO X zB scope cl s H fp) hu I11 hp r10 r11 fun s12 I12 hs => ?_;obtain ⟨b1, b2⟩ := back I12;exact ⟨m', hm, i + 1, H12, (I12.weak (by rw [x8.1]) x8.2).unpinned, b1, b2, w'⟩
 exact zC1 loop (T.self _ 0 _ _ _ st4 loop)
theorem zGt (I : Inv X zB σ H s) (hf : ∀ b ∈ fp, zCP X zB H b)
  (Ic : Inv (zO X zB scope cl s H fp) [] σc H' s') (hs : Heap.SameBut (s.heap.objs.size + 1) s'.heap h') : Inv X zB σ H' { s' with heap := h' } := by
 have nC : H' (s.heap.objs.size + 1) = none := Ic.free;have lt1 : ∀ {b : Addr} {o : Obj}, s.heap.get? b = some o -> b ≠ s.heap.objs.size + 1 := fun e => zS9 (zTd (zSz e));have tr : ∀ b u, H' b = some u -> b ≠ s.heap.objs.size + 1 := fun b u e z => by rw [z, nC] at e; cases e
 have B := Ic.base;have un : Un (frs X.stack) fp H H' s.heap h' := by
  refine ⟨fun b o e q hb hx => hs.extBut b o (lt1 e) (B.keep b o e q hb hx), fun b o e q hb hx => ?_, fun b o e q hx => B.free b o e q hx, fun b o e hx => ?_, fun b xs e => B.tups b xs e, fun b o xs e => B.frzs b o xs e, fun b ps e => B.tbls b ps e⟩
  ·obtain ⟨sl, e1⟩ := B.slot b o e q hb hx;exact ⟨sl, hs.extBut b _ (lt1 e) e1⟩
  ·obtain ⟨o', e1⟩ := B.there b o e hx;exact ⟨o', hs.extBut b _ (lt1 e) e1⟩
 have hok : HOk X.prog X.w H' h' := fun b u e => by
  refine (Ic.hok b u e).stay (fun c v hc q => hs.extBut c v ?_ q) (fun c q => q) fun c xs q => q;rcases hc with z | z
  ·rw [z]; exact tr b u e
  ·exact tr c _ z
 exact I.call' (s' := { s' with heap := h' }) (ch := fp) Ic.os un hok Ic.bare fun b hb => ⟨(hf b hb).2.2.2.1, (hf b hb).2.1, (hf b hb).2.2.2.2.1, (hf b hb).2.2.2.2.2⟩
end
def zHh (isT : Bool) (own : List Nat) (wi : TI) (g : TG) (tc : TT) (tk tv : TE) : TE := fun σ H Q => wi σ H fun J H1 => ∀ D, H1 D = none -> ∃ W : Nat -> Nat -> Hp -> Prop, (∃ m, W 0 m (upd H1 D (zEC isT))) /\ ∀ i m H, W i m H ->
 (J.stop i H /\ Q (.ref D) H) \/
 (J.go i H /\ ∀ x H', J.yld i H x H' -> g x (clr own σ) H' fun σ2 H2 => Ext (clr own σ) σ2 /\ tc σ2 H2 fun b H3 =>
  if b = true then tk σ2 H3 fun k H4 => tv σ2 H4 fun v H5 => ∃ H6 m', zFU H5 D k v H6 /\ m' < m /\ W (i + 1) m' H6 else ∃ m', m' < m /\ W (i + 1) m' H3)
end L2
namespace L3
open PySem PySem.Spec PyProof.Rows L2
def zKS (isT : Bool) : MO := if isT then .dicT [] else .dict []
noncomputable def zDQ (g : FG) (tc : FT) (tk tv : FE) (σ : Sd) (n : Nat) (all : List D) (gd : Option (Mem -> Prop)) : List D -> Mem -> Option Mem
 | [], M => open Classical in if zA3 gd all M then some M else none
 | x :: r, M => open Classical in if zA3 gd all M then match g x σ with
   | some σ1 => match tc σ1 M with
    | some (true, M1) => match toD tk σ1 M1 with
     | some (k, M2) => match toD tv σ1 M2 with
      | some (v, M3) => match zFH M3 n k v with
       | some M4 => zDQ g tc tk tv σ n all gd r M4
       | none => none
      | none => none
     | none => none
    | some (false, M1) => zDQ g tc tk tv σ n all gd r M1
    | none => none
   | none => none
  else none
noncomputable def zFB (isT : Bool) (own : List Nat) (fi : FI) (g : FG) (tc : FT) (tk tv : FE) : FE := fun σ M => match fi σ M with
 | some (xs, gd, M1) => match zDQ g tc tk tv (zB4 own σ) M1.length xs gd xs (M1 ++ [zKS isT]) with
  | some M2 => some (.dat (.ref M1.length), M2)
  | none => none
 | none => none
theorem zKB {K : PySem.W.Frag} {isT : Bool} {own : List Nat} {fi : FI} {g : TG} {fg : FG} {tc : FT} {tk tv : FE} (hg : zE0 own g fg) {τ : Sv} {H : Hp} {Q : VK} (h : trE K (zFB isT own fi fg tc tk tv) τ H Q) : zHh isT own (trI K fi) g (trT K tc) (trD K (toD tk)) (trD K (toD tv)) τ H Q := by
 obtain ⟨L, σ, M, d, Mf, c, rs, hf, q⟩ := h;unfold zFB at hf;split at hf
 ·rename_i xs gd M1 e1;split at hf
  ·rename_i M2 e2;cases hf;refine ⟨L, σ, M, _, _, _, c, rs, e1, fun L1 H1 J s1 c1 it p hp => ?_⟩;obtain ⟨c0, s0⟩ : Cor K (L1 ++ [p]) (M1 ++ [zKS isT]) (upd H1 p (zEC isT)) /\ Stp L1 H1 (L1 ++ [p]) (upd H1 p (zEC isT)) := by
    cases isT with
    | true => exact c1.pushO (m := .dicT []) hp ⟨[], zAP, rfl⟩
    | false => exact c1.pushO (m := .dict []) hp ⟨[], zAP, rfl⟩
   have lp0 : (L1 ++ [p])[M1.length]? = some p := by rw [<- c1.len]; simp
   refine ⟨fun i m H' => m = xs.length - i /\ i <= xs.length /\ ∃ L' M', Stp (L1 ++ [p]) (upd H1 p (zEC isT)) L' H' /\ Cor K L' M' H' /\ zDQ fg tc tk tv (zB4 own σ) M1.length xs gd (xs.drop i) M' = some Mf,
    ⟨xs.length, by simp, zTa _, _, _, .refl _ _, c0, by simpa using e2⟩, ?_⟩
   rintro i m H' ⟨rfl, hi, L', M', s', c', e'⟩;have lp : L'[M1.length]? = some p := by obtain ⟨N, hN⟩ := s'.pre; rw [hN]; exact zCC lp0
   by_cases hlt : i < xs.length
   ·rw [zCF hlt] at e';unfold zDQ at e';split at e'
    ·rename_i hgd;obtain ⟨step, _⟩ := it L' H' M' (s0.trans s') c' hgd;obtain ⟨go, yl⟩ := step i xs[i] (zSs hlt);split at e'
     ·rename_i σ1 eg;refine .inr ⟨go, fun v H2 hy => ?_⟩;obtain ⟨gr, rv⟩ := yl v H2 hy;have s2 : Stp (L1 ++ [p]) (upd H1 p (zEC isT)) L' H2 := s'.yld gr;refine hg (zDw own (((rs.stp s1).stp s0).stp s2)) (.refl _) rv eg fun τ2 r2 x2 => ⟨x2, ?_⟩;split at e'
      ·rename_i M3 e3;split at e'
       ·rename_i kd M4 e4;split at e'
        ·rename_i vd M5 e5;split at e'
         ·rename_i M6 e6;refine ⟨L', σ1, M', _, _, c'.grow gr, r2, e3, fun L3 H3 s3 c3 => zGq ?_⟩;refine ⟨L3, σ1, M3, _, _, c3, r2.stp s3, e4, fun L4 H4 w s4 c4 r4 => ?_⟩;refine ⟨L4, σ1, M4, _, _, c4, (r2.stp s3).stp s4, e5, fun L5 H5 u s5 c5 r5 => ?_⟩;have st : Stp L' H' L5 H5 := (((Stp.grow gr).trans s3).trans s4).trans s5;have lp5 : L5[M1.length]? = some p := by obtain ⟨N, hN⟩ := st.pre; rw [hN]; exact zCC lp
          obtain ⟨H6, h1, h2, h3⟩ := zI0 c5 lp5 (r4.stp s5) r5 e6;exact ⟨H6, xs.length - (i + 1), h1, by omega, rfl, hlt, L5, M6, (s'.trans st).trans h3, h2, e'⟩
         ·cases e'
        ·cases e'
       ·cases e'
      ·rename_i M3 e3;refine ⟨L', σ1, M', _, _, c'.grow gr, r2, e3, fun L3 H3 s3 c3 => zG1 ?_⟩;have st : Stp L' H' L3 H3 := (Stp.grow gr).trans s3;exact ⟨xs.length - (i + 1), by omega, rfl, hlt, L3, M3, s'.trans st, c3, e'⟩
      ·cases e'
     ·cases e'
    ·cases e'
   ·have hi' : i = xs.length := by omega
    subst hi';rw [List.drop_length] at e';unfold zDQ at e';split at e'
    ·rename_i hgd;cases e';obtain ⟨_, stop⟩ := it L' H' _ (s0.trans s') c' hgd;refine .inl ⟨stop, ?_⟩;refine q L' _ _ ((s1.trans s0).trans s') c' ?_;unfold zm Rep;exact ⟨p, rfl, lp⟩
    ·cases e'
  ·cases hf
 ·cases hf
def zAm : Nat -> D -> Bool
 | 0, .int _ => true
 | n + 1, .tup ds => ds.all (zAm n)
 | _, _ => false
def zBz : Nat -> D -> D -> Bool
 | 0, .int i, .int j => decide (i = j)
 | n + 1, .tup xs, .tup ys => xs.length == ys.length && (xs.zip ys).all fun q => zBz n q.1 q.2
 | _, _, _ => false
theorem zHF : ∀ (n : Nat) (x : D), zAm n x = true -> zBz n x x = true
 | 0, .int i, _ => by simp [zBz]
 | n + 1, .tup xs, h => by
  unfold zAm at h;unfold zBz;rw [zTP] at h;simp only [beq_self_eq_true, Bool.true_and];rw [zTP];intro q hq;have : q.1 = q.2 := by
   obtain ⟨i, hi, e⟩ := zUx hq;rw [List.getElem_zip] at e;rw [<- e]
  rw [<- this];exact zHF n _ (h q.1 (List.of_mem_zip hq).1)
 | 0, .non, h => by cases h
 | 0, .bl _, h => by cases h
 | 0, .str _, h => by cases h
 | 0, .tup _, h => by cases h
 | 0, .ref _, h => by cases h
 | n + 1, .non, h => by cases h
 | n + 1, .bl _, h => by cases h
 | n + 1, .int _, h => by cases h
 | n + 1, .str _, h => by cases h
 | n + 1, .ref _, h => by cases h
theorem zN7 : ∀ (n : Nat) (x y : D) (v : V), zAm n x = true -> zAm n y = true -> Rep L H x v -> Rep L H y v -> x = y := by
 intro n;induction n with
 | zero =>
  intro x y v hx hy rx ry;cases x <;> first | cases hx | skip
  cases y <;> first | cases hy | skip
  unfold Rep at rx ry;rw [rx] at ry;cases ry; rfl
 | succ n ih =>
  intro x y v hx hy rx ry;cases x <;> first | cases hx | skip
  cases y <;> first | cases hy | skip
  rename_i xs ys;unfold zAm at hx hy;rw [zTP] at hx hy;unfold Rep at rx ry;obtain ⟨a, vs, rfl, e, r⟩ := rx;obtain ⟨a', vs', e1, e2, r'⟩ := ry;cases e1;rw [e] at e2; cases e2;congr 1;have hl : xs.length = ys.length := by rw [<- r.length, r'.length]
  apply List.ext_getElem hl;intro i h1 h2;obtain ⟨u, hu, ru⟩ := r.get (zSs h1);obtain ⟨u', hu', ru'⟩ := r'.get (zSs h2);rw [hu] at hu'; cases hu';exact ih _ _ u (hx _ (zTM h1)) (hy _ (zTM h2)) ru ru'
section
variable {X : Cx} {zB : List (Addr × Obj)} {σ : L2.St} {H : Hp} {s : Shared} {L : List Addr}
theorem zK4 {xs ys : List D} (f : D -> D -> Bool) (h : xs.length = ys.length) : ((List.range xs.length).all fun j => f (xs.getD j .non) (ys.getD j .non)) = (xs.zip ys).all fun q => f q.1 q.2 := by
  rw [Bool.eq_iff_iff, zTP, zTP];constructor
  · intro hh q hq
    obtain ⟨i, hi, e⟩ := zUx hq;rw [List.getElem_zip] at e;rw [List.length_zip] at hi;have := hh i (by simp; omega);rw [<- e];simpa [zSt, show i < xs.length by omega, show i < ys.length by omega] using this
  · intro hh i hi
    have h1 : i < xs.length := by simpa using hi
    have h2 : i < ys.length := by omega
    have hz : i < (xs.zip ys).length := by rw [List.length_zip]; omega
    have := hh (xs.zip ys)[i] (zTM hz);rw [List.getElem_zip] at this;simpa [zSt, h1, h2] using this
theorem zLT (I : Inv X zB σ H s) : ∀ (n : Nat) (A : Around) (x y : D) (v w : V) (u u' : Value), A.units + n < cLine -> zAm n x = true -> zAm n y = true -> Rep L H x v -> Rep L H y w -> zy v u -> zy w u' -> SeqAt.EqAt A s u u' (zBz n x y) := by
  intro n;induction n with
  | zero =>
    intro A x y v w u u' hu hx hy rx ry ru ru';cases x <;> first | cases hx | skip
    cases y <;> first | cases hy | skip
    unfold Rep at rx ry;subst rx; subst ry;obtain ⟨t, rfl⟩ := ru;obtain ⟨t', rfl⟩ := ru';have := SeqAt.EqAt.int_int (A := A) (s := s) ‹Int› t ‹Int› t';unfold zBz;rename_i i j;have h := SeqAt.EqAt.int_int (A := A) (s := s) i t j t';have e : (i == j) = decide (i = j) := by by_cases q : i = j <;> simp [q]
    rw [e] at h;exact h
  | succ n ih =>
    intro A x y v w u u' hu hx hy rx ry ru ru';cases x <;> first | cases hx | skip
    cases y <;> first | cases hy | skip
    rename_i xs ys;have hx' := hx;have hy' := hy;have rx' := rx;have ry' := ry;unfold zAm at hx hy;rw [zTP] at hx hy;unfold Rep at rx ry;obtain ⟨a, vs, rfl, e, r⟩ := rx;obtain ⟨b, ws, rfl, e2, r2⟩ := ry;cases ru;cases ru';by_cases hab : a = b
    · subst hab
      have := zN7 (n + 1) _ _ _ hx' hy' rx' ry';rw [this, zHF (n + 1) _ hy'];exact SeqAt.EqAt.same _
    · refine SeqAt.EqAt.of_refs hab ?_
      obtain ⟨its, rv, p1, _⟩ := I.tuple (.of e);obtain ⟨its2, rv2, p2, _⟩ := I.tuple (.of e2);have l1 : its.toArray.size = xs.length := by rw [zSw, <- rv.length, r.length]
      have l2 : its2.toArray.size = ys.length := by rw [zSw, <- rv2.length, r2.length]
      have key := SeqAt.RcAt.tuples (A := A) (s := s) (l := a) (b := b) (items := its.toArray) (items2 := its2.toArray) (e := fun j => zBz n (xs.getD j .non) (ys.getD j .non)) p1 p2 (by omega) (fun j h1 h2 => by
        have j1 : j < xs.length := by omega
        have j2 : j < ys.length := by omega
        obtain ⟨q1, g1, t1⟩ := r.get (zSs j1);obtain ⟨q2, g2, t2⟩ := r2.get (zSs j2);obtain ⟨o1, k1, m1⟩ := rv.get g1;obtain ⟨o2, k2, m2⟩ := rv2.get g2
        have z1 : its.toArray[j] = o1 := by have : its.toArray[j]? = some o1 := by simpa using k1
                                            rw [zTZ h1] at this; exact zTo this
        have z2 : its2.toArray[j] = o2 := by have : its2.toArray[j]? = some o2 := by simpa using k2
                                             rw [zTZ h2] at this; exact zTo this
        rw [z1, z2];have w1 : xs.getD j .non = xs[j] := by simp [zSt, j1]
        have w2 : ys.getD j .non = ys[j] := by simp [zSt, j2]
        show SeqAt.EqAt A.in1 s o1 o2 (zBz n (xs.getD j .non) (ys.getD j .non));rw [w1, w2];exact ih A.in1 _ _ _ _ _ _ (by show A.units + 1 + n < cLine; omega) (hx _ (zTM j1)) (hy _ (zTM j2)) t1 t2 m1 m2)
      have fin : ((List.range (min its.toArray.size its2.toArray.size)).all (fun j => zBz n (xs.getD j .non) (ys.getD j .non)) && its.toArray.size == its2.toArray.size) = zBz (n + 1) (.tup xs) (.tup ys) := by
        rw [l1, l2];show _ = (xs.length == ys.length && (xs.zip ys).all fun q => zBz n q.1 q.2);by_cases hl : xs.length = ys.length
        · rw [hl, Nat.min_self, <- hl, zK4 (zBz n) hl, Bool.and_comm]
        · have : (xs.length == ys.length) = false := by simpa using hl
          rw [this]; simp
      rw [fin] at key;exact key
end
def nb (neg b : Bool) : Bool := if neg then !b else b
def rTr (neg : Bool) (K : PySem.W.Frag) (n : Nat) : R2 := fun x y H Q => ∃ (L : List Addr) (xs ys : List D), (xs.all (zAm n) = true /\ ys.all (zAm n) = true) /\
 ((Rep L H (.tup xs) x /\ Rep L H (.tup ys) y) \/ ∃ a b vs ws, x = .ref a /\ y = .ref b /\ SqL K H a vs /\ SqL K H b ws /\ zW L H xs vs /\ zW L H ys ws) /\ Q (.bl (nb neg (zBz (n + 1) (.tup xs) (.tup ys)))) H
section
variable {X : Cx}
theorem zGf (I : Inv X zB σ H s) (hu : A.units + n < cLine) (hx : xs.all (zAm n) = true) (hy : ys.all (zAm n) = true) (r : zW L H xs vs) (r2 : zW L H ys ws) (rv : zk vs its) (rv2 : zk ws its2) (j : Nat) (h1 : j < its.toArray.size) (h2 : j < its2.toArray.size) :
  SeqAt.EqAt A s its.toArray[j] its2.toArray[j] (zBz n (xs.getD j .non) (ys.getD j .non)) := by
 rw [zTP] at hx hy;have l1 : its.toArray.size = xs.length := by rw [zSw, <- rv.length, r.length]
 have l2 : its2.toArray.size = ys.length := by rw [zSw, <- rv2.length, r2.length]
 have j1 : j < xs.length := by omega
 have j2 : j < ys.length := by omega
 obtain ⟨q1, g1, t1⟩ := r.get (zSs j1);obtain ⟨q2, g2, t2⟩ := r2.get (zSs j2);obtain ⟨o1, k1, m1⟩ := rv.get g1;obtain ⟨o2, k2, m2⟩ := rv2.get g2;have z1 : its.toArray[j] = o1 := by
  have : its.toArray[j]? = some o1 := by simpa using k1
  rw [zTZ h1] at this; exact zTo this
 have z2 : its2.toArray[j] = o2 := by
  have : its2.toArray[j]? = some o2 := by simpa using k2
  rw [zTZ h2] at this; exact zTo this
 have w1 : xs.getD j .non = xs[j] := by simp [zSt, j1]
 have w2 : ys.getD j .non = ys[j] := by simp [zSt, j2]
 rw [z1, z2, w1, w2];exact zLT I n A _ _ _ _ _ _ hu (hx _ (zTM j1)) (hy _ (zTM j2)) t1 t2 m1 m2
theorem zMZ (l1 : a = xs.length) (l2 : b = ys.length) : ((List.range (min a b)).all (fun j => zBz n (xs.getD j .non) (ys.getD j .non)) && a == b) = zBz (n + 1) (.tup xs) (.tup ys) := by
 subst l1 l2;show _ = (xs.length == ys.length && (xs.zip ys).all fun q => zBz n q.1 q.2);by_cases hl : xs.length = ys.length
 ·rw [hl, Nat.min_self, <- hl, zK4 (zBz n) hl, Bool.and_comm]
 ·have : (xs.length == ys.length) = false := by simpa using hl
  rw [this]; simp
theorem zQj (hl : xs.length = ys.length) : ((List.range xs.length).all fun j => zBz n (xs.getD j .non) (ys.getD j .non)) = zBz (n + 1) (.tup xs) (.tup ys) := by
 rw [<- zMZ (n := n) rfl rfl, hl, Nat.min_self]; simp
theorem zRO (hl : xs.length ≠ ys.length) : zBz (n + 1) (.tup xs) (.tup ys) = false := by
 show (xs.length == ys.length && _) = false;rw [show (xs.length == ys.length) = false by simpa using hl]; rfl
theorem zO4 (n : Nat) (hu : X.A.units + 1 + n < cLine) : OpR X (compareOp .NotEq) (rTr true X.K n) := by
 intro zB s σ H x y v u Q I rx ry h;obtain ⟨L, xs, ys, ⟨hx, hy⟩, hc, q⟩ := h;have hu1 : X.A.in1.units + n < cLine := hu;rcases hc with ⟨p1, p2⟩ | ⟨a, b, vs, ws, rfl, rfl, s1, s2, r1, r2⟩
 ·unfold Rep at p1 p2;obtain ⟨a, vs, rfl, e1, r1⟩ := p1;obtain ⟨b, ws, rfl, e2, r2⟩ := p2;cases rx;cases ry;obtain ⟨its, rv, t1, _⟩ := I.tuple (.of e1);obtain ⟨its2, rv2, t2, _⟩ := I.tuple (.of e2);refine SeqAt.RcNeAt.tuples (e := fun j => zBz n (xs.getD j .non) (ys.getD j .non)) t1 t2 (by omega) (fun j h1 h2 => zGf I hu1 hx hy r1 r2 rv rv2 j h1 h2) _ _ _ _ ?_;rw [zMZ (by rw [zSw, <- rv.length, r1.length]) (by rw [zSw, <- rv2.length, r2.length])];exact ⟨.bl _, H, I, rfl, q⟩
 ·cases rx;cases ry;obtain ⟨its, rv, t1, _⟩ := I.list s1;obtain ⟨its2, rv2, t2, _⟩ := I.list s2;have l1 : its.toArray.size = xs.length := by rw [zSw, <- rv.length, r1.length]
  have l2 : its2.toArray.size = ys.length := by rw [zSw, <- rv2.length, r2.length]
  by_cases hl : xs.length = ys.length
  ·refine SeqAt.RcNeAt.lists (e := fun j => zBz n (xs.getD j .non) (ys.getD j .non)) t1.isList t2.isList (by omega) (by omega) (fun j h1 h2 => zGf I hu1 hx hy r1 r2 rv rv2 j h1 h2) _ _ _ _ ?_;rw [l1, zQj hl];exact ⟨.bl _, H, I, rfl, q⟩
  ·refine SeqAt.RcNeAt.lists_lengths t1.isList t2.isList (by rw [l1, l2]; simpa using hl) (by omega) _ _ _ _ ?_;rw [zRO hl] at q;exact ⟨.bl true, H, I, rfl, q⟩
end
section
variable {X : Cx} {a b e o : Expr} {pos apos cpos : Pos} {f g : FE}
def kTr (neg : Bool) (n : Nat) : K2 := fun x y M => match zCO x, zCO y with
 | some xs, some ys => if xs.all (zAm n) && ys.all (zAm n) then some (.dat (.bl (nb neg (zBz (n + 1) (.tup xs) (.tup ys)))), M) else none
 | _, _ => match zBj M x, zBj M y with
  | some xs, some ys => if xs.all (zAm n) && ys.all (zAm n) then some (.dat (.bl (nb neg (zBz (n + 1) (.tup xs) (.tup ys)))), M) else none
  | _, _ => none
theorem zQw {K : PySem.W.Frag} {neg : Bool} {n : Nat} : zDE K (rTr neg K n) (kTr neg n) := by
 intro L M M' H H0 x y d v w Q c rx ry hk q;unfold kTr at hk;split at hk
 ·rename_i xs ys e1 e2;split at hk
  ·rename_i hb;cases hk;rw [zTO] at hb;obtain ⟨p, vs, rfl, h1, r1⟩ := zB8 rx e1;obtain ⟨p', ws, rfl, h2, r2⟩ := zB8 ry e2;refine ⟨L, xs, ys, hb, .inl ⟨?_, ?_⟩, q L H _ (.refl L H) c (zCR (L := L) (H := H))⟩
   ·unfold Rep; exact ⟨p, vs, rfl, h1, r1⟩
   ·unfold Rep; exact ⟨p', ws, rfl, h2, r2⟩
  ·cases hk
 ·split at hk
  ·rename_i xs ys e1 e2;split at hk
   ·rename_i hb;cases hk;rw [zTO] at hb;obtain ⟨p, vs, rfl, h1, r1⟩ := zBd c rx e1;obtain ⟨p', ws, rfl, h2, r2⟩ := zBd c ry e2;exact ⟨L, xs, ys, hb, .inr ⟨p, p', vs, ws, rfl, rfl, .inl h1, .inl h2, r1, r2⟩, q L H _ (.refl L H) c (zCR (L := L) (H := H))⟩
   ·cases hk
  ·cases hk
theorem zPP (n : Nat) (hu : X.A.units + 1 + n < cLine) (h1 : QE X a f) (h2 : QE X b g) : QT X (.Compare a [.NotEq] [b] pos) (tst (fOp (kTr true n) f g)) := zEx zQw (zO4 n hu) h1 h2 (zDb _)
theorem zSC (n : Nat) (hn : n <= 8) (hr : Room k A) : A.units + 1 + n < cLine := by
 have := hr.units;omega
end
open Builtin
section
variable {X : Cx} {a b o e e2 : Expr} {pos p apos cpos : Pos} {f g : FE}
def zI1 : KB := fun xs M => match xs with
 | [.dat (.int i), .dat (.int j)] => some (.dat (.int (if j > i then j else i)), M)
 | _ => none
def zJF : KB := fun xs M => match xs with
 | [.dat (.int i), .dat (.int j)] => some (.dat (.int (if j < i then j else i)), M)
 | _ => none
theorem zFG (r : zCh H0 L H [.dat (.int i), .dat (.int j)] vs) : vs = [.int i, .int j] := by
 unfold zCh at r;obtain ⟨v, r1, rfl, a1, a2⟩ := r;unfold zCh at a2;obtain ⟨v2, r2, rfl, b1, b2⟩ := a2;unfold zCh at b2;subst b2;unfold zm Rep at a1 b1;subst a1 b1;rfl
theorem zMq {K : PySem.W.Frag} : zGm K (fun xs H Q => ∃ i j, xs = [.int i, .int j] /\ Q (.int (if j > i then j else i)) H) zI1 := by
 intro L M M' H H0 xs d vs Q c r hk q;unfold zI1 at hk;split at hk
 ·rename_i i j;cases hk;exact ⟨i, j, zFG r, q L H _ (.refl L H) c (zAs (L := L) (H := H))⟩
 ·cases hk
theorem zOH {K : PySem.W.Frag} : zGm K (fun xs H Q => ∃ i j, xs = [.int i, .int j] /\ Q (.int (if j < i then j else i)) H) zJF := by
 intro L M M' H H0 xs d vs Q c r hk q;unfold zJF at hk;split at hk
 ·rename_i i j;cases hk;exact ⟨i, j, zFG r, q L H _ (.refl L H) c (zAs (L := L) (H := H))⟩
 ·cases hk
theorem zQZ (hcalm : X.calm = true) (hg : Gl X "max") (hm : X.mg "max" = none) (ha : QAE X [e, e2] fa) (he : starEach [e, e2] X.env = (false, eval e X.env) :: starEach [e2] X.env := by rfl) (hpl : (backTo pos (starEach [e2] X.env)).any (·.1) = false := by rfl) : QE X (.Call (.Name "max" p) [e, e2] [] pos) (fB zI1 fa) :=
 zEc zMq (zLv hcalm) (by rfl) hg hm ha (by decide) (by decide) he hpl
theorem zQQ (hcalm : X.calm = true) (hg : Gl X "min") (hm : X.mg "min" = none) (ha : QAE X [e, e2] fa) (he : starEach [e, e2] X.env = (false, eval e X.env) :: starEach [e2] X.env := by rfl) (hpl : (backTo pos (starEach [e2] X.env)).any (·.1) = false := by rfl) : QE X (.Call (.Name "min" p) [e, e2] [] pos) (fB zJF fa) :=
 zEc zOH (zLm hcalm) (by rfl) hg hm ha (by decide) (by decide) he hpl
def zDu : KM := fun x ds M => match x, ds with
 | .dat (.ref n), [.ref m] => match M[n]?, M[m]? with
  | some (.lst xs), some (.lst ys) => if xs.length + ys.length <= sizeLine then some (.non, M.set n (.lst (xs ++ ys))) else none
  | _, _ => none
 | _, _ => none
theorem zKZ {K : PySem.W.Frag} : zN6 K zKl zDu := by
 intro L M M' H H0 x ds d v vs Q c rx rd hk q;unfold zDu at hk;split at hk
 ·rename_i n m;split at hk
  ·rename_i xs ys e1 e1';split at hk
   ·rename_i hz;cases hk;unfold zm Rep at rx;obtain ⟨a, rfl, e2⟩ := rx;obtain ⟨ws, e3, r3⟩ := c.obj n a _ e2 e1;obtain ⟨w, rfl, r4⟩ := rd.one;unfold Rep at r4;obtain ⟨b, rfl, e4⟩ := r4;obtain ⟨zs, e5, r5⟩ := c.obj m b _ e4 e1';obtain ⟨c5, s5⟩ := c.write e2 e1 (r3.app r5);exact ⟨a, b, ws, zs, rfl, rfl, e3, e5, by rw [r3.length, r5.length]; exact hz, q L _ _ s5 c5 (by unfold Rep; rfl)⟩
   ·cases hk
  ·cases hk
 ·cases hk
theorem zOA (h : QE X a f) (hg : QA X [e] fg) (hbase : attributeBase a "extend" X.env (eval a X.env) = eval a X.env := by rfl)
  (hfew : ((backTo cpos (starEach [e] X.env)).all (fun x => !x.1) && (backToKw cpos (keywordEach [] X.env)).all (fun x => x.1.isSome) && decide ([e].length + ([] : List Keyword).length + (if ([] : List Keyword).isEmpty then 0 else 1) < 30)) = true := by rfl)
  (hline : (apos.endLine == cpos.line) = true := by rfl) (hs : starEach [e] X.env = (false, eval e X.env) :: starEach [] X.env := by rfl) (hplain : (backTo cpos (starEach [] X.env)).any (·.1) = false := by rfl) :
  QE X (.Call (.Attribute a "extend" apos) [e] [] cpos) (fM zDu f fg) :=
 .mk <| PE.imp (zKu PySem.F.plainAttrs_list PySem.F.slot_list_extend PySem.F.type_list_extend zLw h.un hg.un hbase hfew hline hs hplain) fun _ _ _ z => zH5 zKZ z
end
end L3
namespace HT
open PySem PySem.Spec PyProof.Rows
end HT
namespace L3
open PySem PySem.Spec PyProof.Rows L2
section
variable {X : Cx} {e tg : Expr} {pos : Pos}
def zOT (fg : FG) (f : FE) : FS := fun σ M => match toD f σ M with
 | some (d, M1) => match fg d σ with
  | some σ1 => some (.nx, σ1, M1)
  | none => none
 | none => none
theorem zRv (hk : GOk g fg) (h : QE X e f) (hg : PG X tg g) (hs : swapsWithSole [tg] e pos.line X.env = pure false := by rfl) (hw : swappedStores [tg] e X.env = pure none := by rfl)
  (h1 : (assignEach [tg] X.env).map (·.2) = [assign tg X.env] := by rfl) : QS X (.Assign [tg] e pos) (zOT fg f) :=
 .mk <| PS.imp (zMr h.un hg hs hw h1) fun E τ H ⟨L, σ, M, o, σ', M', c, rs, hf, q⟩ => by
  unfold zOT at hf;split at hf
  ·rename_i d M1 e1;split at hf
   ·rename_i σ1 e2;cases hf;refine zJY ⟨L, σ, M, _, _, c, rs, e1, fun L1 H1 v s1 c1 r1 => ?_⟩;exact hk (rs.stp s1) r1 e2 fun τ' rs' => q L1 H1 s1 c1 τ' rs'
   ·cases hf
  ·cases hf
variable {σ : Sd} {M : Mem} {P : Out -> Sd -> Mem -> Prop} {fg : FG} {f : FE}
theorem zPe : OkS (zOT fg f σ M) P ↔ Ok (f σ M) (zGe fun d M1 => ∃ σ1, fg d σ = some σ1 /\ P .nx σ1 M1) := by
 rw [<- zAn];unfold zOT;constructor
 ·rintro ⟨o, σ', M', e, p⟩;split at e
  ·rename_i d M1 e1;split at e
   ·rename_i σ1 e2;cases e;exact ⟨d, _, e1, _, e2, p⟩
   ·cases e
  ·cases e
 ·rintro ⟨d, M1, e1, σ1, e2, p⟩;refine ⟨.nx, σ1, M1, ?_, p⟩;rw [e1]; dsimp only; rw [e2]
end
section
variable {X : Cx} {a e e2 o : Expr} {pos p apos cpos : Pos} {f : FE}
def zLR (f : FE) : FT := fun σ M => match f σ M with
 | some (x, M1) => match zBK M1 x with
  | some xs => some (!xs.isEmpty, M1)
  | none => none
 | none => none
theorem zPJ (h : QE X a f) (he : ∀ whole, isTrue a X.env whole = (do let v <- whole; standAt a.pos; holding [v] (truthy v)) := by intro _; rfl) : QT X a (zLR f) :=
 .mk <| PT.imp (zNG h.un he) fun τ H Q ⟨L, σ, M, d, M', c, rs, hf, q⟩ => by
  unfold zLR at hf;split at hf
  ·rename_i x M1 e1;split at hf
   ·rename_i xs e2;cases hf;refine ⟨L, σ, M, _, _, c, rs, e1, fun L1 H1 v s1 c1 r1 => ⟨!xs.isEmpty, ?_, q L1 H1 s1 c1⟩⟩;unfold zBK at e2;have emp : ∀ {vs : List V}, zW L1 H1 xs vs -> (!xs.isEmpty) = !vs.isEmpty := fun {vs} r => by
     have := r.length;cases xs <;> cases vs <;> first | rfl | simp at this
    cases t : zCO x with
    | some ws =>
     rw [t] at e2; cases e2;obtain ⟨l, vs, rfl, e3, r3⟩ := zB8 r1 t;exact .inr (.inl ⟨vs, .of e3, emp r3⟩)
    | none =>
     rw [t] at e2;dsimp only at e2;obtain ⟨l, vs, rfl, e3, r3⟩ := zBd c1 r1 e2;exact .inl ⟨vs, .inl e3, emp r3⟩
   ·cases hf
  ·cases hf
def zEh (f : FE) : FE := fun σ M => match f σ M with
 | some (.dat (.ref n), M1) => match M1[n]? with
  | some (.lst xs) => match xs[xs.length - 1]? with
   | some d => some (.dat d, M1.set n (.lst xs.dropLast))
   | none => none
  | _ => none
 | _ => none
theorem zGy (h : zW L H ds vs) : zW L H ds.dropLast vs.dropLast := by
 have := h.eraseIdx (ds.length - 1);rw [zEE] at this;have hl := h.length;rw [<- hl, zEE] at this;exact this
theorem zRH (h : QE X o f) (hbase : attributeBase o "pop" X.env (eval o X.env) = eval o X.env := by rfl) (hline : (apos.endLine == cpos.line) = true := by rfl) : QE X (.Call (.Attribute o "pop" apos) [] [] cpos) (zEh f) :=
 .mk <| PE.imp (zRP PySem.F.plainAttrs_list PySem.F.slot_list_pop PySem.F.type_list_pop zQb h.un hbase hline) fun τ H Q ⟨L, σ, M, d, M', c, rs, hf, q⟩ => by
  unfold zEh at hf;split at hf
  ·rename_i n M1 e1;split at hf
   ·rename_i xs e2;split at hf
    ·rename_i d' e3;cases hf;refine ⟨L, σ, M, _, _, c, rs, e1, fun L1 H1 v s1 c1 r1 => ?_⟩;unfold zm Rep at r1;obtain ⟨l, rfl, e4⟩ := r1;obtain ⟨ws, e5, r5⟩ := c1.obj n l _ e4 e2;obtain ⟨u, e6, r6⟩ := r5.get e3;obtain ⟨c5, s5⟩ := c1.write e4 e2 (zGy r5);refine ⟨.inl ⟨rfl, ⟨ws, .of e5⟩⟩, l, ws, u, rfl, rfl, e5, by rw [r5.length]; exact e6, q L1 _ _ (s1.trans s5) c5 (r6.stp s5)⟩
    ·cases hf
   ·cases hf
  ·cases hf
end
section
variable {prog : Program} {w : World} {A : Around} {E : Value -> Shared -> Prop} {s : Shared}
theorem zMc {its : List Value} {i : Int} (e : s.heap.get? l = some { cls := .type "list", data := .seq its.toArray n }) (hfit : ¬ (!Builtin.List.listFitsIndex i) = true) (h0 : ¬ (i < 0)) (hz : its.toArray.size <= sizeLine)
  (h : ∀ g : Array Value -> Array Value, g its.toArray = (its.take (min i.toNat its.length) ++ [u2] ++ its.drop (min i.toNat its.length)).toArray -> Q .none { s with heap := s.heap.update l (Obj.mapSeq g), toks := s.toks }) :
  wpAny (model prog w) A (call (.builtin "list.insert") [.ref l, .int i t, u2]) Q E s := by
 have hm := @AutoSeq1.list_insert_list_int_val_1 l its.toArray n i t u2 hfit hz;have h1 : s.TypeIs (.ref l) "list" := ⟨_, e, rfl⟩;refine call_meets (B := Builtin.«list.insert») (self := .ref l) (rest := [.int i t, u2]) F.slot_list_insert h1 F.entry_list_insert (F.args_list_insert_3 _ _ _) hm ⟨e, ?_⟩;refine h _ ?_;simp only [h0, if_false, zSw];simp;exact List.take_of_length_le (by simp)
end
section
variable {X : Cx} {a o x1 x2 : Expr} {pos p apos cpos : Pos} {f : FE}
def zKi : V -> List V -> Hp -> VK -> Prop := fun x vs H Q => ∃ (l : Addr) (i : Int) (y : V) (xs : List V), x = .ref l /\ vs = [.int i, y] /\ H l = some (.lst xs) /\ 0 <= i /\ i.toNat <= xs.length /\ xs.length < sizeLine /\ Q .non (upd H l (.lst (xs.take i.toNat ++ [y] ++ xs.drop i.toNat)))
theorem zML : MtM X "list.insert" zKi := by
 intro zB s σ H x vs v us Q I rx rv h;obtain ⟨l, i, y, xs, rfl, rfl, hH, h0, hi, hz, q⟩ := h;cases rx;obtain ⟨u, u2, rfl, ⟨t, rfl⟩, ru2⟩ := rv.two;obtain ⟨z, its, n, r, hl, e⟩ := I.lstM hH;have hs : (sizeLine : Nat) < 2 ^ 62 := by decide
 have hi1 : -(2 ^ 63) <= i := by omega
 have hi2 : i < 2 ^ 63 := by omega
 refine zMc (its := its) e (by rw [fitsIndex_both hi1 hi2]; exact zTA) (by omega) (by rw [zSw, <- hl]; exact Nat.le_of_lt hz) fun g hg => ?_;rw [Nat.min_eq_left (by omega)] at hg;exact ⟨.non, _, I.lset (its' := its.take i.toNat ++ [u2] ++ its.drop i.toNat) (ys := xs.take i.toNat ++ [y] ++ xs.drop i.toNat) hH e hg (((r.take i.toNat).append (.cons ru2 .nil)).append (r.drop i.toNat)) (by simp; omega), rfl, q⟩
def zDx : KM := fun x ds M => match x, ds with
 | .dat (.ref n), [.int i, d] => match M[n]? with
  | some (.lst xs) => if 0 <= i /\ i.toNat <= xs.length /\ xs.length < sizeLine then some (.non, M.set n (.lst (xs.take i.toNat ++ [d] ++ xs.drop i.toNat))) else none
  | _ => none
 | _, _ => none
theorem zHZ : ∀ (k : Nat) {ds : List D} {vs : List V}, zW L H ds vs -> zW L H (ds.take k) (vs.take k)
 | 0, _, _, _ => .nil
 | k + 1, [], vs, h => by unfold zW at h; subst h; exact .nil
 | k + 1, d :: ds, vs, h => by
  unfold zW at h;obtain ⟨v, r, rfl, h1, h2⟩ := h;exact .cons h1 (zHZ k h2)
theorem zHg : ∀ (k : Nat) {ds : List D} {vs : List V}, zW L H ds vs -> zW L H (ds.drop k) (vs.drop k)
 | 0, _, _, h => h
 | k + 1, [], vs, h => by unfold zW at h; subst h; exact .nil
 | k + 1, d :: ds, vs, h => by
  unfold zW at h;obtain ⟨v, r, rfl, h1, h2⟩ := h;exact zHg k h2
theorem zJ3 {K : PySem.W.Frag} : zN6 K zKi zDx := by
 intro L M M' H H0 x ds d v vs Q c rx rd hk q;unfold zDx at hk;split at hk
 ·rename_i n i d';split at hk
  ·rename_i xs e1;split at hk
   ·rename_i hz;cases hk;unfold zm Rep at rx;obtain ⟨a, rfl, e2⟩ := rx;obtain ⟨ws, e3, r3⟩ := c.obj n a _ e2 e1;obtain ⟨w1, w2, rfl, r4, r5⟩ := rd.two;have hw : w1 = .int i := by unfold Rep at r4; exact r4
    subst hw;obtain ⟨c5, s5⟩ := c.write e2 e1 (((zHZ i.toNat r3).app (.cons r5 .nil)).app (zHg i.toNat r3));exact ⟨a, i, w2, ws, rfl, rfl, e3, hz.1, by rw [r3.length]; exact hz.2.1, by rw [r3.length]; exact hz.2.2, q L _ _ s5 c5 (by unfold Rep; rfl)⟩
   ·cases hk
  ·cases hk
 ·cases hk
theorem zN1 (h : QE X a f) (hg : QA X [x1, x2] fg) (hbase : attributeBase a "insert" X.env (eval a X.env) = eval a X.env := by rfl)
  (hfew : ((backTo cpos (starEach [x1, x2] X.env)).all (fun x => !x.1) && (backToKw cpos (keywordEach [] X.env)).all (fun x => x.1.isSome) && decide ([x1, x2].length + ([] : List Keyword).length + (if ([] : List Keyword).isEmpty then 0 else 1) < 30)) = true := by rfl)
  (hline : (apos.endLine == cpos.line) = true := by rfl) (hs : starEach [x1, x2] X.env = (false, eval x1 X.env) :: starEach [x2] X.env := by rfl) (hplain : (backTo cpos (starEach [x2] X.env)).any (·.1) = false := by rfl) :
  QE X (.Call (.Attribute a "insert" apos) [x1, x2] [] cpos) (fM zDx f fg) :=
 .mk <| PE.imp (zKu PySem.F.plainAttrs_list PySem.F.slot_list_insert PySem.F.type_list_insert zML h.un hg.un hbase hfew hline hs hplain) fun _ _ _ z => zH5 zJ3 z
end
noncomputable def zIU (fg : FG) (tc : FT) (fi2 : FI) (own2 : List Nat) (fg2 : FG) (tc2 : FT) (te : FE) (σ : Sd) (all : List D) (gd : Option (Mem -> Prop)) : List D -> List D -> Mem -> Option (List D × Mem)
 | [], acc, M => open Classical in if zA3 gd all M then some (acc, M) else none
 | x :: r, acc, M => open Classical in if zA3 gd all M then match fg x σ with
   | some σ1 => match tc σ1 M with
    | some (true, M1) => match fi2 σ1 M1 with
     | some (ys, gd2, M2) => if acc.length + ys.length <= sizeLine then match zAx fg2 tc2 te (zB4 own2 σ1) ys gd2 ys M2 with
       | some (ds, M3) => zIU fg tc fi2 own2 fg2 tc2 te σ all gd r (acc ++ ds) M3
       | none => none
      else none
     | none => none
    | some (false, M1) => zIU fg tc fi2 own2 fg2 tc2 te σ all gd r acc M1
    | none => none
   | none => none
  else none
noncomputable def zE4 (own own2 : List Nat) (fi : FI) (fg : FG) (tc : FT) (fi2 : FI) (fg2 : FG) (tc2 : FT) (te : FE) : FE := fun σ M => match fi σ M with
 | some (xs, gd, M1) => match zIU fg tc fi2 own2 fg2 tc2 te (zB4 own σ) xs gd xs [] M1 with
  | some (ys, M2) => some (.fl ys, M2)
  | none => none
 | none => none
theorem zKI {K : PySem.W.Frag} {own own2 : List Nat} {fi fi2 : FI} {g g2 : TG} {fg fg2 : FG} {tc tc2 : FT} {te : FE} (hg : zE0 own g fg) (hg2 : zE0 own2 g2 fg2) {τ : Sv} {H : Hp} {Q : VK} (h : trE K (zE4 own own2 fi fg tc fi2 fg2 tc2 te) τ H Q) :
  zNr own own2 (trI K fi) g (trT K tc) (trI K fi2) g2 (trT K tc2) (trD K (toD te)) τ H Q := by
 obtain ⟨L, σ, M, d, Mf, c, rs, hf, q⟩ := h;unfold zE4 at hf;split at hf
 ·rename_i xs gd M1 e1;split at hf
  ·rename_i zs M2 e2;cases hf;refine ⟨L, σ, M, _, _, _, c, rs, e1, fun L1 H1 J s1 c1 it => ?_⟩
   refine ⟨fun i m ys H' => m = xs.length - i /\ i <= xs.length /\ ∃ L' M' as, Stp L1 H1 L' H' /\ Cor K L' M' H' /\ zW L' H' as ys /\ as.length <= sizeLine /\ zIU fg tc fi2 own2 fg2 tc2 te (zB4 own σ) xs gd (xs.drop i) as M' = some (zs, Mf),
    ⟨xs.length, by simp, zTa _, L1, M1, [], .refl _ _, c1, .nil, zTa _, by simpa using e2⟩, ?_⟩
   rintro i m ys H' ⟨rfl, hi, L', M', as, s', c', r', hl, e'⟩;by_cases hlt : i < xs.length
   ·rw [zCF hlt] at e';unfold zIU at e';split at e'
    ·rename_i hgd;obtain ⟨step, _⟩ := it L' H' M' s' c' hgd;obtain ⟨go, yl⟩ := step i xs[i] (zSs hlt);split at e'
     ·rename_i σ1 eg;refine .inr ⟨go, fun v H2 hy => ?_⟩;obtain ⟨gr, rv⟩ := yl v H2 hy;have s2 : Stp L1 H1 L' H2 := s'.yld gr;refine hg (zDw own ((rs.stp s1).stp s2)) (.refl _) rv eg fun τ2 r2 x2 => ⟨x2, ?_⟩;split at e'
      ·rename_i M3 e3;split at e'
       ·rename_i ys2 gd2 M4 e4;split at e'
        ·rename_i hz2;split at e'
         ·rename_i ds M5 e5;refine ⟨L', σ1, M', _, _, c'.grow gr, r2, e3, fun L3 H3 s3 c3 => zGq ?_⟩;have st3 : Stp L' H' L3 H3 := (Stp.grow gr).trans s3;refine ⟨L3, σ1, M3, _, _, _, c3, r2.stp s3, e4, fun L4 H4 J2 s4 c4 it2 => ?_⟩
          refine ⟨fun j m2 ws H5 => m2 = ys2.length - j /\ j <= ys2.length /\ ∃ L5 M6 bs cs, Stp L4 H4 L5 H5 /\ Cor K L5 M6 H5 /\ zW L5 H5 (as ++ bs) ws /\ bs.length <= j /\ zAx fg2 tc2 te (zB4 own2 σ1) ys2 gd2 (ys2.drop j) M6 = some (cs, M5) /\ bs ++ cs = ds,
           ⟨ys2.length, by simp, zTa _, L4, M4, [], ds, .refl _ _, c4, by simpa using (r'.stp st3).stp s4, zSu _, by simpa using e5, rfl⟩, ?_⟩
          rintro j m2 ws H5 ⟨rfl, hj, L5, M6, bs, cs, s5, c5, r5, hbl, e6, hbc⟩;have hws : ws.length <= as.length + j := by rw [r5.length, zS4]; omega
          by_cases hlt2 : j < ys2.length
          ·rw [zCF hlt2] at e6;unfold zAx at e6;split at e6
           ·rename_i hgd2;obtain ⟨step2, _⟩ := it2 L5 H5 M6 s5 c5 hgd2;obtain ⟨go2, yl2⟩ := step2 j ys2[j] (zSs hlt2);split at e6
            ·rename_i σ2 eg2;refine .inr ⟨go2, fun v2 H6 hy2 => ?_⟩;obtain ⟨gr2, rv2⟩ := yl2 v2 H6 hy2;have s6 : Stp L4 H4 L5 H6 := s5.yld gr2;refine hg2 (zDw own2 (((r2.stp s3).stp s4).stp s6)) (.refl _) rv2 eg2 fun τ3 r3 x3 => ⟨x3, ?_⟩;split at e6
             ·rename_i M7 e7;split at e6
              ·rename_i d M8 e8;split at e6
               ·rename_i ds' M9 e9;cases e6;refine ⟨L5, σ2, M6, _, _, c5.grow gr2, r3, e7, fun L7 H7 s7 c7 => zGq ?_⟩;refine ⟨L7, σ2, M7, _, _, c7, r3.stp s7, e8, fun L8 H8 w s8 c8 r8 => ?_⟩;have st : Stp L5 H5 L8 H8 := ((Stp.grow gr2).trans s7).trans s8;refine ⟨by omega, ys2.length - (j + 1), by omega, rfl, hlt2, L8, M8, bs ++ [d], ds', s5.trans st, c8, ?_, by simp; omega, e9, by rw [<- hbc]; simp⟩;have := (r5.stp st).app (.cons r8 .nil);simpa using this
               ·cases e6
              ·cases e6
             ·rename_i M7 e7;refine ⟨L5, σ2, M6, _, _, c5.grow gr2, r3, e7, fun L7 H7 s7 c7 => zG1 ?_⟩;have st : Stp L5 H5 L7 H7 := (Stp.grow gr2).trans s7;exact ⟨ys2.length - (j + 1), by omega, rfl, hlt2, L7, M7, bs, cs, s5.trans st, c7, r5.stp st, by omega, e6, hbc⟩
             ·cases e6
            ·cases e6
           ·cases e6
          ·have hj' : j = ys2.length := by omega
           subst hj';rw [List.drop_length] at e6;unfold zAx at e6;split at e6
           ·rename_i hgd2;cases e6;obtain ⟨_, stop2⟩ := it2 L5 H5 _ s5 c5 hgd2;rw [zTY] at hbc;subst hbc;refine .inl ⟨stop2, xs.length - (i + 1), by omega, rfl, hlt, L5, M5, as ++ bs, s'.trans ((st3.trans s4).trans s5), c5, r5, by rw [zS4]; omega, e'⟩
           ·cases e6
         ·cases e'
        ·cases e'
       ·cases e'
      ·rename_i M3 e3;refine ⟨L', σ1, M', _, _, c'.grow gr, r2, e3, fun L3 H3 s3 c3 => zG1 ?_⟩;have st : Stp L' H' L3 H3 := (Stp.grow gr).trans s3;exact ⟨xs.length - (i + 1), by omega, rfl, hlt, L3, M3, as, s'.trans st, c3, r'.stp st, hl, e'⟩
      ·cases e'
     ·cases e'
    ·cases e'
   ·have hi' : i = xs.length := by omega
    subst hi';rw [List.drop_length] at e';unfold zIU at e';split at e'
    ·rename_i hgd;cases e';obtain ⟨_, stop⟩ := it L' H' _ s' c' hgd;refine .inl ⟨stop, by rw [r'.length]; exact hl, fun p hp => ?_⟩;exact q L' _ _ ((s1.trans s').trans (.upd hp)) (c'.upd hp) (zm.newLst (s1.trans s') c c' hp r')
    ·cases e'
  ·cases hf
 ·cases hf
section
variable {X : Cx} {scope : Scope} {elt t1 i1 t2 i2 : Expr} {f1 f2 : List Expr} {pos : Pos}
structure QParts2 (X : Cx) (scope : Scope) (t1 : Expr) (f1 : List Expr) (t2 i2 : Expr) (f2 : List Expr) (elt : Expr) (g : TG) (tc : FT) (fi2 : FI) (g2 : TG) (tc2 : FT) (te : FE) : Prop where
 g : ∀ zB cl s H fp, PG (zO X zB scope cl s H fp) t1 g
 c : ∀ zB cl s H fp, QIfs (zO X zB scope cl s H fp) f1 tc
 w2 : ∀ zB cl s H fp, QI (zO X zB scope cl s H fp) t2 i2 fi2
 g2 : ∀ zB cl s H fp, PG (zO X zB scope cl s H fp) t2 g2
 c2 : ∀ zB cl s H fp, QIfs (zO X zB scope cl s H fp) f2 tc2
 e : ∀ zB cl s H fp, QE (zO X zB scope cl s H fp) elt te
 s2 : ∀ zB cl s H fp x, foldedSetIterable i2 (zO X zB scope cl s H fp).env x = pure x
theorem zPK {own own2 : List Nat} {fi fi2 : FI} {g g2 : TG} {fg fg2 : FG} {tc tc2 : FT} {te : FE} (hsub : ∀ i ∈ own2, i ∈ own) (hg : zE0 own g fg) (hg2 : zE0 own2 g2 fg2) (C : CompIn X scope own) (hcalm : X.calm = true) (hi : QI X t1 i1 fi) (p : QParts2 X scope t1 f1 t2 i2 f2 elt g tc fi2 g2 tc2 te) (hs : ∀ x, foldedSetIterable i1 X.env x = pure x := by intro _; rfl) :
  QE X (zBV elt t1 i1 f1 t2 i2 f2 scope pos) (zE4 own own2 fi fg tc fi2 fg2 tc2 te) :=
 .mk <| PE.imp (zNK hsub C hcalm hi.un ⟨p.g, fun zB cl s H fp => (p.c zB cl s H fp).un, fun zB cl s H fp => (p.w2 zB cl s H fp).un, p.g2, fun zB cl s H fp => (p.c2 zB cl s H fp).un, fun zB cl s H fp => (zN (p.e zB cl s H fp)).un, p.s2⟩ hs) fun _ _ _ h => zKI hg hg2 h
end
end L3
namespace L2
open PySem PySem.Spec PyProof.Rows
section
variable {X : Cx} {scope : Scope} {tg kx vx iter : Expr} {ifs : List Expr} {pos : Pos} {own : List Nat} {isT : Bool} {wi : TI} {g : TG} {tc : TT} {tk tv : TE}
theorem zF7 (hN : X.N.Nodup) (hi' : X.N[i]? = some x) (hx : Loc X.env.scope x) (hfn : X.fn x = true \/ X.env.scope.names.lookup x = some .local)
  (hsw : swapsWith (.DictComp kx vx [⟨tg, iter, ifs, 0⟩] scope pos) (some (.Name x pos')) pos''.line X.env = pure true)
  (hu : X.A.units + 1 < cLine) (C : CompIn X scope own) (hcalm : X.calm = true) (hi : PI X tg iter wi) (p : CompParts X scope tg ifs kx g tc tk) (p2 : ∀ zB cl s H fp, PE (zO X zB scope cl s H fp) vx tv) (hs : ∀ x, foldedSetIterable iter X.env x = pure x := by intro _; rfl) :
  PS X (.Assign [.Name x pos'] (.DictComp kx vx [⟨tg, iter, ifs, 0⟩] scope pos) pos'') (zMd (zHh isT own wi g tc tk tv) (zDM i)) := by
 intro zB s σ H D I h;obtain ⟨cl, hcl, c1, c2⟩ := C.sc.closure I;rw [exec_Assign_Name_used _ _ _ _ hsw];refine zSo (zTm (zSo ?_));show wpAny _ X.A (do let _ <- comprehension (.DictComp kx vx [⟨tg, iter, ifs, 0⟩] scope pos) scope X.env _ newDict false (eval iter X.env) (some (assign (.Name x pos') X.env))) _ _ s
 refine zSo (zTK (wpAny_comprehension_free (use := some (assign (.Name x pos') X.env)) (Q := fun _ s' => SP X zB D .next s') rfl hs hcl C.sc.kind C.sc.names
  (thn (hi zB s σ H _ I h) fun v s1 h1 => thn h1 fun itv s2 h2 => ?_)) (fun _ s' hq => zSq (zSq hq)) fun _ _ e => e)
 obtain ⟨it, fp, tn, J, H2, e, I2, T, st2, f2, hD⟩ := h2;subst e;obtain ⟨W, ⟨m0, w0⟩, turn⟩ := hD s2.heap.objs.size (I2.hok.fresh (zSu _))
 refine zFZ hu C hcalm I2 T st2 f2 c1 c2 (p.g _ _ _ _ _) (p.c _ _ _ _ _) (p.e _ _ _ _ _) (p2 _ _ _ _ _) (RR := fun acc C r s' => compPost (model X.prog X.w) X.A X.xe (some (assign (.Name x pos') X.env)) (fun _ s' => SP X zB D .next s') acc C r s')
  (QQ := fun H => zDM i (.ref s2.heap.objs.size) σ H D.nx) w0 turn ?_
 intro σc H' s' Ic qq;obtain ⟨m, hn, _⟩ := Ic.loc;have J' := zGt (h' := s'.heap) I2 f2 Ic (.refl ..);obtain ⟨oC, es, ep, hoC, hdC, r1, r2⟩ := id hn;have nC : H' (s2.heap.objs.size + 1) = none := Ic.free;have K' : Inv X (zB ++ [(s2.heap.objs.size + 1, oC)]) σ H' s' := J'.pins_of fun q hq => by
  rcases zTE.mp hq with z | z
  ·exact J'.pin q (zS8 _ z)
  ·have e : q = (s2.heap.objs.size + 1, oC) := by simpa using z
   subst e;refine ⟨hoC, nC, Nat.ne_of_gt (zTd I2.lt), I2.nofs (Nat.le_succ _), fun v z => ?_⟩;have z' : oC.data = .cell v := z;rw [hdC] at z'; cases z'
 show wpAny _ X.A (assign (.Name x pos') X.env (.ref s2.heap.objs.size)) _ _ _;refine thn (zIW hN hi' hx hfn _ s' σ _ (.ref s2.heap.objs.size) (.ref s2.heap.objs.size) _ K' rfl qq) fun _ s'' ⟨σ'', H'', I'', q''⟩ => ?_;obtain ⟨eC, _⟩ := I''.pin (s2.heap.objs.size + 1, oC) (by simp);refine ⟨m, ⟨oC, es, ep, eC, hdC, r1, r2⟩, fun h' hs' => ⟨σ'', H'', ?_, q''⟩⟩;have I3 : Inv X zB σ'' H'' s'' := I''.unpinned;obtain ⟨_, nC'', neC, _, _⟩ := I''.pin (s2.heap.objs.size + 1, oC) (by simp);refine I3.turned (t' := s''.toks) (it := s2.heap.objs.size + 1) (fun b o hb e => hs'.extBut b o hb e) nC'' neC (.inr (zTF I2.sz (Nat.le_succ _))) (fun x c e z => ?_) (fun q hq z => ?_)
 ·obtain ⟨v, o, ho, hd⟩ := I3.cell x c e;rw [z, eC] at ho; cases ho;rw [hdC] at hd; cases hd
 ·obtain ⟨e, _⟩ := I2.pin q hq;exact zS9 (zTd (zSz e)) z
end
end L2
namespace L3
open PySem PySem.Spec PyProof.Rows L2
section
variable {X : Cx} {scope : Scope} {tg kx vx iter : Expr} {ifs : List Expr} {pos : Pos} {own : List Nat} {isT : Bool}
theorem zKc (hN : X.N.Nodup) (hi' : X.N[i]? = some x) (hx : Loc X.env.scope x) (hfn : X.fn x = true \/ X.env.scope.names.lookup x = some .local)
  (hsw : swapsWith (.DictComp kx vx [⟨tg, iter, ifs, 0⟩] scope pos) (some (.Name x pos')) pos''.line X.env = pure true)
  (hu : X.A.units + 1 < cLine) (hg : zE0 own g fg) (C : CompIn X scope own) (hcalm : X.calm = true) (hi : QI X tg iter fi) (p : QParts X scope tg ifs kx g tc tk) (p2 : ∀ zB cl s H fp, QE (zO X zB scope cl s H fp) vx tv) (hs : ∀ x, foldedSetIterable iter X.env x = pure x := by intro _; rfl) :
  QS X (.Assign [.Name x pos'] (.DictComp kx vx [⟨tg, iter, ifs, 0⟩] scope pos) pos'') (zAK i (zFB isT own fi fg tc tk tv)) :=
 .mk <| PS.imp (zF7 (isT := isT) hN hi' hx hfn hsw hu C hcalm hi.un p.parts (fun _ _ _ _ _ => (zN (p2 _ _ _ _ _)).un) hs) fun _ _ _ z => zGX (fun _ _ _ z => zKB hg z) z
end
end L3
namespace L2
open PySem PySem.Spec PyProof.Rows
end L2
namespace L3
open PySem PySem.Spec PyProof.Rows L2
open SeqAt
structure Df (K : PySem.W.Frag) (mg : Str -> Option Value) (x : Str) (st : Stmt) (ps : List Str) where
 f : Addr
 fd : FuncData
 F : Fun K x x st f fd
 b : zF6 K fd ps []
 m : mg x = some (.ref f)
structure Dg (K : PySem.W.Frag) (x : Str) (st : Stmt) where
 f : Addr
 {od an : Option Addr}
 {sl : Array (Option Value)}
 {oc kV dc pm cd ct : Value}
 a : PySem.W.nsIn K mainGlobals x = some (some (.ref f))
 l : K.lookup f = some ⟨oc, od, .func (PySem.W.fnOf x x (zD0 st) (zCd st) (zV st) .none kV dc pm an cd ct), sl⟩
 c : PySem.W.codeIn K cd x = true
 k : PySem.W.keepIn K (.ref f) = true
abbrev Dg.df {K : PySem.W.Frag} {x : Str} {st : Stmt} {ps : List Str} {h : Heap} {mg : Str -> Option Value} (g : Dg K x st) (X : K.In h) (G : h.Ns mainGlobals mg)
  (hb : ∀ (kV doc pm : Value) (an : Option Addr) (cdv ct : Value) (us : List Value), us.length = ps.length -> bindArgs (PySem.W.fnOf x x (zD0 st) (zCd st) (zV st) .none kV doc pm an cdv ct) ⟨us, []⟩ = pure (ps.zip us)) : Df K mg x st ps :=
 ⟨g.f, _, zNf g.l g.c g.k, (zNf g.l g.c g.k).binds hb, PySem.W.mg_of X G g.a⟩
abbrev Od (P : Program) (w : World) (base : Heap) (k : Nat) {K : PySem.W.Frag} {mg : Str -> Option Value} {x : Str} {st : Stmt} {ps : List Str} (d : Df K mg x st ps) (m : FF) : Prop := FnOk P w K mg base CX0 k d.f d.fd ps (spF K ps.length m)
abbrev Zn (K : PySem.W.Frag) (x : Str) : Prop := PySem.W.nsIn K mainGlobals x = some none
abbrev Ki (K : PySem.W.Frag) (t T : String) (b : Bool) : Prop := PySem.W.kitOne K (.type t) (.type T) = some b
section
variable {X : Cx} {e : Expr} {es : List Expr} {pos p : Pos} {x : Str} {k : Nat} {st : Stmt} {ps : List Str}
theorem zA7 {d : Df X.K X.mg x st ps} (F : FnOk X.prog X.w X.K X.mg X.base CX0 k d.f d.fd ps (spF X.K (e :: es).length g)) (hr : Room k X.A) (hg : Gl X x)
  (ha : QA X (e :: es) fa) (hl : ∀ σ M ds M1, fa σ M = some (ds, M1) -> ds.length = (e :: es).length) (hdb : (x == ("__debug__" : Str)) = false) (he : starEach (e :: es) X.env = (false, eval e X.env) :: starEach es X.env) (hpl : (backTo pos (starEach es X.env)).any (·.1) = false) :
  QE X (.Call (.Name x p) (e :: es) [] pos) (ze g fa) := zQ3 F hr hg d.m d.F.kp d.b ha hl hdb he hpl
theorem zBN (hN : X.N.Nodup) (hi : X.N[i]? = some x) (h : QE X e f) (hx : Loc X.env.scope x := by first | exact Or.inl rfl | exact Or.inr rfl) (hs : swapsWith e (some (.Name x pos')) pos.line X.env = pure false := by rfl)
  (hf : X.fn x = true \/ X.env.scope.names.lookup x = some .local := by first | exact .inl rfl | exact .inr rfl | assumption) : QS X (.Assign [.Name x pos'] e pos) (zAK i f) := zRY hN hi hx h hs hf
theorem zAE (hN : X.N.Nodup) (hi : X.N[i]? = some x) (hx : Loc X.env.scope x := by first | exact Or.inl rfl | exact Or.inr rfl) (hf : X.fn x = true \/ X.env.scope.names.lookup x = some .local := by first | exact .inl rfl | exact .inr rfl | assumption) : PG X (.Name x pos) (zDM i) := zIW hN hi hx hf
end
section
variable {prog : Program} {w : World} {K : Type} [DecidableEq K] {knd : HeapKind prog w K} {A : Around} {E : Value -> Shared -> Prop} {s : Shared}
theorem zJD (hu : knd.room A) (hkey : knd.is s.heap k a) (hm : s.heap.DictOfH knd d xs) (hz : xs.length <= sizeLine)
  (h1 : ∀ u, (atKey xs k).map (·.2) = some u -> Q u { s with toks := s.toks + knd.draws k })
  (h2 : (atKey xs k).map (·.2) = none -> ∀ h', h'.DictOfH knd d (storedH xs k a v) -> Heap.SameBut d s.heap h' -> Q v { s with heap := h', toks := s.toks + knd.draws k }) :
  wpAny (model prog w) A (dictSetDefault d (.ref a) v) Q E s := by
 obtain ⟨o, es, ep, ho, hc, hd, he, his, hn⟩ := hm;unfold dictSetDefault;try with_reducible refine zTh ?_
 refine zSo (knd.pyHash hu hkey (zSo (wpAny_dictFind_heap (s := { s with toks := s.toks + knd.draws k }) hu hkey ho hd he his hn (fun hno => ?_) fun j p hj => ?_)))
 ·have ha := atKey_none_of_get hno;have hnot : k ∉ xs.map (·.1) := not_mem_keys_of_get hno;refine zSo (zUG (zSo (wpAny_updateDictKeys (hz := by have e := size_of_entries he; omega) (s := { s with toks := s.toks + knd.draws k }) ho hd (zSq (h2 (by rw [ha]; rfl) _ ⟨_, _, ep + 1, zTb _ ho (Obj.isFreed_of_dict (Obj.data_mapDictKeys hd _)), hc.mapDictKeys _, Obj.data_mapDictKeys hd _, ?_, ?_, ?_⟩ (zTr ..))))));all_goals rw [storedH_new ha]
  ·simp [he, entryOfKey]
  ·intro x hx;rcases zTE.mp hx with q | q
   ·exact knd.keeps (his x q) ho hd (zTr ..)
   ·simp only [zTG] at q;subst q;exact knd.keeps hkey ho hd (zTr ..)
  ·rw [zTg, zT7];refine ⟨hn, by simp, fun x hx y hy => ?_⟩;simp only [zS7, List.map_nil, zTG] at hy;subst hy;exact fun e => hnot (e ▸ hx)
 ·have ha := atKey_of_get hn hj;refine zSo (wpAny_dictEntries (s := { s with toks := s.toks + knd.draws k }) ho hd ?_);rw [entry_at he j, hj];exact zSo (zUG (zSq (h1 p.2 (by rw [ha]; rfl))))
theorem zGl (hd : (d == sysModules) = false) (v : Value) :
  MeetsIn prog w (Builtin.«dict.setdefault» ⟨[.ref d, .ref a, v], []⟩) (fun A R s => knd.room A.in1 /\ ∃ k xs, knd.is s.heap k a /\ s.heap.DictOfH knd d xs /\ xs.length <= sizeLine /\
   (∀ u, (atKey xs k).map (·.2) = some u -> R (.ok (.ret u)) { s with toks := s.toks + knd.draws k }) /\
   ((atKey xs k).map (·.2) = none -> ∀ h', h'.DictOfH knd d (storedH xs k a v) -> Heap.SameBut d s.heap h' -> R (.ok (.ret v)) { s with heap := h', toks := s.toks + knd.draws k })) :=
 .of_wp fun A R s ⟨hu, k, xs, hkey, hm, hz, h1, h2⟩ => by
  unfold Builtin.«dict.setdefault»;refine zSo ?_;unfold Builtin.Dict.keyAndDefault;refine zSo (wpAny_notOrdered_dict hm.typeIs ?_);show wpAny _ _ (pure (d, Value.ref a, some v)) _ _ s;refine zSq ?_;show wpAny _ _ (if (d == sysModules) = true then _ else (dictSetDefault d (.ref a) v >>= _)) _ _ s;rw [zS6 (by rw [hd]; decide)];exact zSo (zJD hu hkey hm hz (fun u hv => zSq ⟨u, rfl, h1 u hv⟩) fun hn h' hm' hs' => zSq ⟨v, rfl, h2 hn h' hm' hs'⟩)
end
section
variable {X : Cx} {zB : List (Addr × Obj)} {σ : L2.St} {H : Hp} {s : Shared} {a : Addr} {y v : V} {u r : Value} {A : Around} {E : Value -> Shared -> Prop}
theorem zNV (hu : A.units + 1 < cLine) (I : Inv X zB σ H s) (e : H a = some (.dT kvs)) (eb : H b = some (.tup (k.map kV))) (hl : kvs.length < sizeLine) (rv : zy v r)
  (h1 : ∀ x, zCV kvs k = some x -> ∀ w' s', Inv X zB σ H s' -> zy x w' -> Q w' s') (h2 : zCV kvs k = none -> ∀ s', Inv X zB σ (upd H a (.dT (zCW kvs k v))) s' -> Q r s') :
  wpAny (model X.prog X.w) A (call (.builtin "dict.setdefault") [.ref a, .ref b, r]) Q E s := by
 obtain ⟨z, hd, xs, rel, dd⟩ := zNl I.hok e;have hz : xs.length <= sizeLine := by rw [<- Paired.length rel]; exact z
 refine call_meetsIn PySem.F.slot_dict_setdefault dd.typeIs PySem.F.entry_dict_setdefault (PySem.F.args_dict_setdefault_3 _ _ _) (zGl (knd := tupleKind (zAY X.prog X.w)) hd r) ⟨tupleKind_room_in1 hu, k, xs, zEJ I.hok eb, dd, hz, fun u' hu' => ?_, fun hn h' dd' hs => ?_⟩
 ·have rl := rel.val k;rw [hu'] at rl;cases hv : zCV kvs k with
  | none => rw [hv] at rl; cases rl
  | some x =>
   rw [hv] at rl;exact h1 x hv _ _ (I.tok _) rl
 ·have rl := rel.val k;rw [hn] at rl;cases hv : zCV kvs k with
  | some x => rw [hv] at rl; cases rl
  | none =>
   refine h2 hv _ ?_;have hl' : (zCW kvs k v).length <= sizeLine := by have := zB0 kvs k v; omega
   obtain ⟨q, es, ep, hq, q2, q3, q4, _, q5⟩ := dd';refine zEO I (by rw [e]; exact True.intro) hs ⟨q, hq⟩ ⟨hl', hd, _, (rel.put k eb rv).keeps fun c ys ec => ?_, q, es, ep, hq, q2, q3, q4, q5⟩;rw [zg (zGM ec e (fun z => nomatch z))];exact ec
end
def zOm (td ty tx : TE) : TE := fun σ H Q => td σ H fun x H1 => ∃ a, x = .ref a /\ IsD H1 a /\ ty σ H1 fun y H2 => tx σ H2 fun z H3 => ∃ kvs k b, H3 a = some (.dT kvs) /\ y = .ref b /\ H3 b = some (.tup (k.map kV)) /\ kvs.length < sizeLine /\ (∀ v, zCV kvs k = some v -> Q v H3) /\ (zCV kvs k = none -> Q z (upd H3 a (.dT (zCW kvs k z))))
section
variable {X : Cx} {e o i : Expr} {apos cpos : Pos} {td ty tx : TE} {f g h : FE}
theorem zLN (hu : X.A.units + 1 < cLine) (ho : PE X o td) (he : PE X i ty) (hf : PE X e tx) (m : M2 X o "setdefault" apos i e cpos) : PE X (.Call (.Attribute o "setdefault" apos) [i, e] [] cpos) (zOm td ty tx) := by
 intro zB s σ H Q I q;refine wpAny_Call_method m.base m.few m.line PySem.F.plainAttrs_dict PySem.F.slot_dict_setdefault PySem.F.type_dict_setdefault (thn (ho zB s σ H _ I q) fun u s1 ⟨x, H1, I1, rx, a, ex, d, q1⟩ => ?_);subst ex;obtain rfl : u = Value.ref a := rx;obtain ⟨t1, t2, _⟩ := zNh I1 d;refine ⟨t1, t2, ?_⟩;rw [m.trees];refine Calls.callWith_builtin rfl (Calls.evalArgs_plain (Calls.spliced_cons (thn (he zB s1 σ H1 _ I1 q1) fun iv s2 ⟨y, H2, I2, ry, q2⟩ => Calls.spliced_cons (thn (hf zB s2 σ H2 _ I2 q2) fun fv s3 ⟨z, H3, I3, rz, kvs, k, b, e3, ey, eb, hl, qa, qb⟩ => Calls.spliced_nil ?_))));subst ey;cases (show iv = Value.ref b from ry);exact zNV hu I3 e3 eb hl rz (fun v hv w' s4 I4 rw' => ⟨v, H3, I4, rw', qa v hv⟩) fun hn s4 I4 => ⟨z, _, I4, rz, qb hn⟩
def zBw (fo fi fx : FE) : FE := fun σ M => match toD fo σ M with
 | some (.ref n, M1) => match M1[n]? with
  | some (.dicT _) => match toD fi σ M1 with
   | some (k, M2) => match toD fx σ M2 with
    | some (x, M3) => match M3[n]?, tkD k with
     | some (.dicT kvs), some kk => if kvs.length < sizeLine then match zDY tkD kvs kk with
       | some v => some (.dat v, M3)
       | none => some (.dat x, M3.set n (.dicT (zGo tkD kvs kk k x))) else none
     | _, _ => none
    | none => none
   | none => none
  | _ => none
 | _ => none
theorem zNC (hu : X.A.units + 1 < cLine) (ho : QE X o f) (hi : QE X i g) (hx : QE X e h) (m : M2 X o "setdefault" apos i e cpos) : QE X (.Call (.Attribute o "setdefault" apos) [i, e] [] cpos) (zBw f g h) :=
 .mk <| PE.imp (zLN hu (zN ho).un (zN hi).un (zN hx).un m) fun τ H Q ⟨L, σ, M, d, M', c, rs, hf, q⟩ => by
  unfold zBw at hf;split at hf
  ·rename_i n M1 e1;split at hf
   ·rename_i kvs0 e0;split at hf
    ·rename_i k M2 e2;split at hf
     ·rename_i x M3 e3;split at hf
      ·rename_i kvs kk e4 e5;split at hf
       ·rename_i hl;refine ⟨L, σ, M, _, _, c, rs, e1, fun L1 H1 u s1 c1 r1 => ?_⟩;unfold Rep at r1;obtain ⟨a, rfl, ea⟩ := r1;refine ⟨a, rfl, ?_, L1, σ, M1, _, _, c1, rs.stp s1, e2, fun L2 H2 y s2 c2 r2 => ⟨L2, σ, M2, _, _, c2, (rs.stp s1).stp s2, e3, fun L3 H3 z s3 c3 r3 => ?_⟩⟩
        ·obtain ⟨vs, q5, _⟩ := c1.obj n a _ ea e0; exact .inr ⟨vs, .inl q5⟩
        have ea3 : L3[n]? = some a := by obtain ⟨N, hN⟩ := (s2.trans s3).pre; rw [hN]; exact zCC ea
        obtain ⟨vs, q5, r⟩ := c3.obj n a _ ea3 e4;obtain ⟨b, rfl, eb⟩ := zJp (r2.stp s3) e5;refine ⟨vs, kk, b, q5, rfl, eb, by rw [r.length]; exact hl, fun v hv => ?_, fun hv => ?_⟩
        ·rcases zDr kk r with ⟨h1, h2⟩ | ⟨d', v', h1, h2, h3⟩
         ·rw [h2] at hv; cases hv
         ·rw [h1] at hf;rw [h2] at hv;cases hf; cases hv;exact q L3 H3 _ ((s1.trans s2).trans s3) c3 h3
        ·rcases zDr kk r with ⟨h1, h2⟩ | ⟨d', v', h1, h2, h3⟩
         ·rw [h1] at hf;cases hf;obtain ⟨c4, s4⟩ := c3.put (m := .dicT (zGo tkD kvs kk k x)) (o' := .dT (zCW vs kk z)) ea3 q5 (fun _ z => by cases z) (fun _ _ z => by cases z) fun s4 => ⟨_, zAP, (zIR e5 r3 r).stp s4⟩;exact q L3 _ _ (((s1.trans s2).trans s3).trans s4) c4 (r3.stp s4)
         ·rw [h2] at hv; cases hv
       ·cases hf
      ·cases hf
     ·cases hf
    ·cases hf
   ·cases hf
  ·cases hf
end
end L3
namespace Law
open PySem PySem.Spec PyProof.Rows L2 L3
noncomputable def zDe : FS := (za (zAK 1 (fOp zAy (fB zBp (zn (zD 0) zAT)) (fC (.int 3))))
  (za (zB3 (zAg (fSl (zD 0) zD6 (zDZ (fC (.int 63))))) (gN 2) (zAK 1 (fOp zEy (fOp zAy (fOp zAy (fOp zL5 (zD 1) (fC (.int 6364136223846793))) (fOp zEy (zD 2) (fOp zMb (fC (.int 10)) (fC (.int 30))))) (fC (.int 1442695040888963))) (fC (.int 2305843009213693951)))))
  (zAp (zAZ (zH (toD (zAQ [2] (zAg (fSl (zD 0) zD6 (zDZ (fC (.int 63))))) (gN 2) (tst (fOp kGe (fB zLh (zn (zD 2) zAT)) (fOp zMb (fC (.int 10)) (fC (.int 18))))) (fB zLh (zn (zD 2) zAT)))) (zH (toD (zD 1)) zR))))))
noncomputable def zBU : FF := zCU 3 zDe
noncomputable def zEG : FS := (za (zBJ (zD8 (tst (fOp kNe (fOp kIx (zD 0) (fC (.int 0))) (zAZ zR))) (tst (fOp kEq (fOp kIx (fOp kIx (zD 0) (fC (.int 0))) (fC (.int 0))) (fC (.int 0))))) (zAi (fM zJC (fOp kIx (zD 0) (fC (.int 0))) (zH (toD (fC (.int 0))) zR))) 100)
  (za (sIf (tst (fOp kNe (fOp kIx (zD 0) (fC (.int 0))) (zAZ zR))) (za (zAK 2 (fOp zEy (fOp kIx (fOp kIx (zD 0) (fC (.int 0))) (fC (.int 0))) (zD 1)))
  (za (zKN (fOp zLe (fOp kIx (fOp kIx (zD 0) (fC (.int 0))) (fC (.int 0))) (zD 1)) (fOp kIx (zD 0) (fC (.int 0))) (fC (.int 0)))
  (zAp (zD 2)))) zBB)
  (za (zKN (fOp zEy (fOp zAy (fOp zL5 (fOp kIx (zD 0) (fC (.int 1))) (fC (.int 6364136223846793))) (fC (.int 1442695040888963))) (fC (.int 2305843009213693951))) (zD 0) (fC (.int 1)))
  (zAp (fOp zEy (fOp zLe (fOp zEy (fOp zL5 (fOp kIx (zD 0) (fC (.int 1))) (fOp kIx (zD 0) (fC (.int 1)))) (fC (.int 2305843009213693921))) (fC (.int 65537))) (zD 1))))))
noncomputable def zf : FF := zCU 3 zEG
structure Gen (M : Mem) (n k : Nat) : Prop where
 ex : ∃ (c : List Int) (s : Int), M[n]? = some (.lst [.ref k, .int s]) /\ M[k]? = some (.lst (c.map D.int)) /\ (∀ x ∈ c, 0 <= x) /\ c.length <= 63 /\ 0 <= s /\ s < 2305843009213693951
 ne : n ≠ k
 wf : ∀ (j : Nat) u, M[j]? = some u -> MO.und M.length u = true
structure Nx (M M' : Mem) (n k : Nat) : Prop where
 gen : Gen M' n k
 len : M'.length = M.length
 fr : ∀ j, j ≠ n -> j ≠ k -> M'[j]? = M[j]?
theorem Nx.refl (h : Gen M n k) : Nx M M n k := ⟨h, rfl, fun _ _ _ => rfl⟩
theorem Nx.trans {M M1 M2 : Mem} {n k : Nat} (a : Nx M M1 n k) (b : Nx M1 M2 n k) : Nx M M2 n k := ⟨b.gen, b.len.trans a.len, fun j h1 h2 => (b.fr j h1 h2).trans (a.fr j h1 h2)⟩
theorem zw (n : Nat) : ∀ c : List Int, D.unds n (c.map D.int) = true
 | [] => rfl
 | x :: r => by
  show (D.und n (D.int x) && D.unds n (r.map D.int)) = true;rw [zw n r]; rfl
theorem Gen.lt (h : Gen M n k) : n < M.length /\ k < M.length := by
 obtain ⟨c, s, e1, e2, _⟩ := h.ex;exact ⟨(zSr.mp e1).1, (zSr.mp e2).1⟩
theorem Gen.put {M : Mem} (h : Gen M n k) {c : List Int} (hc : ∀ x ∈ c, 0 <= x) (hl : c.length <= 63) (h0 : 0 <= s) (h1 : s < 2305843009213693951) :
  Nx M ((M.set k (.lst (c.map D.int))).set n (.lst [.ref k, .int s])) n k := by
 obtain ⟨hn, hk⟩ := h.lt;refine ⟨⟨⟨c, s, ?_, ?_, hc, hl, h0, h1⟩, h.ne, fun j u e => ?_⟩, by simp, fun j h1 h2 => ?_⟩
 ·rw [zTi (by simpa using hn)]
 ·rw [zTI h.ne, zTi hk]
 ·rw [zVD, zVD];rw [zUT] at e;split at e
  ·split at e
   ·cases e;show D.unds _ _ = true;unfold D.unds D.unds D.unds D.und;simp [hk]
   ·cases e
  ·rw [zUT] at e;split at e
   ·rename_i z;subst z;cases e; exact zw _ _
   ·exact h.wf j u e
 ·rw [zTI (Ne.symm h1), zTI (Ne.symm h2)]
theorem zF2 {M : Mem} (h : M[k]? = some u) : M.set k u = M := by
 apply List.ext_getElem?;intro i;rw [zUT];split
 ·rename_i e; subst e;rw [zS3 (zSr.mp h).1]; exact h.symm
 ·rfl
theorem zJU : ∀ {a b : List Int}, a.map D.int = b.map D.int -> a = b
 | [], [], _ => rfl
 | [], _ :: _, h => by cases h
 | _ :: _, [], h => by cases h
 | x :: a, y :: b, h => by
  rw [zS7, zS7] at h;have h1 := (zTs h).1;have h2 := zJU (zTs h).2;cases h1; rw [h2]
theorem at0 {x : D} {xs : List D} : atI (x :: xs) 0 = some x := zKb (k := 0) rfl
theorem at1 {x y : D} {xs : List D} : atI (x :: y :: xs) 1 = some y := zKb (k := 1) rfl
theorem zPQ (h : Gen M n k) (h0 : 0 < m) (h1 : m < 1073741824) :
  Ok (zf [.ref n, .int m] M) fun d M' => (∃ i, d = .int i /\ 0 <= i /\ i < m) /\ Nx M M' n k := by
 unfold zf;rw [zAr];unfold zEG;show OkS (za _ _ [some (.ref n), some (.int m), none] M) _;rw [zY];have st : ∀ {M : Mem} {c : List Int} {s : Int} {σ : Sd} {P : EV -> Mem -> Prop}, σ[0]? = some (some (.ref n)) -> M[n]? = some (.lst [.ref k, .int s]) -> P (.dat (.ref k)) M -> Ok (fOp kIx (zD 0) (fC (.int 0)) σ M) P := fun hσ hM p =>
  zAV.mpr (zAJ.mpr ⟨_, hσ, zCX.mpr (zN2 (zAa hM) at0 p)⟩)
 have sd : ∀ {M : Mem} {s : Int} {σ : Sd} {P : EV -> Mem -> Prop}, σ[0]? = some (some (.ref n)) -> M[n]? = some (.lst [.ref k, .int s]) -> P (.dat (.int s)) M -> Ok (fOp kIx (zD 0) (fC (.int 1)) σ M) P := fun hσ hM p =>
  zAV.mpr (zAJ.mpr ⟨_, hσ, zCX.mpr (zN2 (zAa hM) at1 p)⟩)
 have hd : ∀ {M : Mem} {c : List Int} {x s : Int} {σ : Sd} {P : EV -> Mem -> Prop}, σ[0]? = some (some (.ref n)) -> M[n]? = some (.lst [.ref k, .int s]) -> M[k]? = some (.lst ((x :: c).map D.int)) -> P (.dat (.int x)) M -> Ok (fOp kIx (fOp kIx (zD 0) (fC (.int 0))) (fC (.int 0)) σ M) P := fun {M c x s σ P} hσ hM hK p =>
  zAV.mpr (st (c := c) hσ hM (zCX.mpr (zN2 (zAa hK) at0 p)))
 have ne : ∀ {M : Mem} {c : List Int} {s : Int} {σ : Sd} {P : Bool -> Mem -> Prop}, σ[0]? = some (some (.ref n)) -> M[n]? = some (.lst [.ref k, .int s]) -> M[k]? = some (.lst (c.map D.int)) -> P (!c.isEmpty) M -> Ok (tst (fOp kNe (fOp kIx (zD 0) (fC (.int 0))) (zAZ zR)) σ M) P := fun {M c s σ P} hσ hM hK p => by
  refine zHu.mpr (zAV.mpr (st (c := c) hσ hM (zKT.mpr (zCa.mpr ⟨zTa _, ?_⟩))));rw [zK9 (zBY hK) (by intro d e; cases e; rfl)];rw [zIS];simpa using p
 have W : ∀ (fuel m' : Nat) (σ : Sd) (M' : Mem), m' < fuel -> ((σ = [some (.ref n), some (.int m), none] /\ Nx M M' n k) /\ ∃ (c : List Int) (s : Int), M'[n]? = some (.lst [.ref k, .int s]) /\ M'[k]? = some (.lst (c.map D.int)) /\ c.length = m') ->
   OkS (zBJ (zD8 (tst (fOp kNe (fOp kIx (zD 0) (fC (.int 0))) (zAZ zR))) (tst (fOp kEq (fOp kIx (fOp kIx (zD 0) (fC (.int 0))) (fC (.int 0))) (fC (.int 0))))) (zAi (fM zJC (fOp kIx (zD 0) (fC (.int 0))) (zH (toD (fC (.int 0))) zR))) fuel σ M')
    (fun o σ1 M1 => o = .nx /\ σ1 = [some (.ref n), some (.int m), none] /\ Nx M M1 n k) := by
  intro fuel m' σ M' hlt hI;refine zCz (I := fun m' σ M' => (σ = [some (.ref n), some (.int m), none] /\ Nx M M' n k) /\ ∃ (c : List Int) (s : Int), M'[n]? = some (.lst [.ref k, .int s]) /\ M'[k]? = some (.lst (c.map D.int)) /\ c.length = m') ?_ fuel m' σ M' hlt hI;rintro m' σ M' ⟨⟨rfl, nx⟩, c, s, e1, e2, hl⟩;refine zOr.mpr (ne rfl e1 e2 ?_);cases c with
  | nil => simp; exact nx
  | cons x c =>
   simp only [List.isEmpty_cons, Bool.not_false, if_true];refine zHu.mpr (zAV.mpr (hd rfl e1 e2 (zCX.mpr (zMN.mpr (zIS.mpr ?_)))));by_cases hx : x = 0
   ·rw [zS3 (by simpa using hx)];refine zCQ.mpr (zJj.mpr (st (c := c) rfl e1 ⟨⟨_, zBY e2⟩, zAw.mpr (zAn.mpr (zCX.mpr (zU.mpr (zCa.mpr ?_))))⟩));rw [zS7] at e2;rw [zQD e2];refine ⟨c.length, by rw [<- hl]; simp, ?_⟩;obtain ⟨c', s', z1, z2, z3, z4, z5, z6⟩ := nx.gen.ex;rw [e1] at z1; cases z1;rw [e2] at z2;have hcc : c' = x :: c := by
     have : (x :: c).map D.int = c'.map D.int := by have := z2; simp only [Option.some.injEq, MO.lst.injEq] at this; simpa using this
     exact (zJU this).symm
    subst hcc;have P := nx.gen.put (c := c) (s := s) (fun y hy => z3 y (zS1 _ hy)) (by simp at z4; omega) z5 z6;have q : ((M'.set k (.lst (c.map D.int))).set n (.lst [.ref k, .int s])) = M'.set k (.lst (c.map D.int)) := zF2 (by rw [zTI (Ne.symm nx.gen.ne)]; exact e1);rw [q] at P;have hk := nx.gen.lt.2;refine ⟨⟨rfl, nx.trans P⟩, c, s, ?_, ?_, rfl⟩
    ·rw [zTI (Ne.symm nx.gen.ne)]; exact e1
    ·rw [zTi hk]
   ·rw [zS6 (by simpa using hx)];first | exact ⟨rfl, rfl, nx⟩ | exact ⟨trivial, trivial, nx⟩ | simpa using nx
 obtain ⟨c, s, e1, e2, e3, e4, _⟩ := h.ex;refine OkS.mono (W 100 c.length _ M (by omega) ⟨⟨rfl, .refl h⟩, c, s, e1, e2, rfl⟩) ?_;rintro o σ M1 ⟨rfl, rfl, nx⟩;rw [zc, zY, zBH];obtain ⟨c, s, e1, e2, e3, e4, e5, e6⟩ := nx.gen.ex;refine ne rfl e1 e2 ?_;cases c with
 | nil =>
  simp only [List.isEmpty_nil, Bool.not_true, zTp, if_false];rw [zA4, zc, zY, zH9];refine zAV.mpr (zAV.mpr (zAV.mpr (sd rfl e1 (zCX.mpr (zNq.mpr ⟨by simp [zMQ] <;> omega, zCX.mpr (zFC.mpr (zCX.mpr (zFN.mpr ⟨by decide, ?_⟩)))⟩)))));rw [zU];refine zAJ.mpr ⟨_, rfl, zCX.mpr ?_⟩;rw [zU];have hs0 : 0 <= (s * 6364136223846793 + 1442695040888963) % 2305843009213693951 := Int.emod_nonneg _ (by decide);have hs1 : (s * 6364136223846793 + 1442695040888963) % 2305843009213693951 < 2305843009213693951 := Int.emod_lt_of_pos _ (by decide);generalize (s * 6364136223846793 + 1442695040888963) % 2305843009213693951 = s' at hs0 hs1;have P := nx.gen.put (c := []) (s := s') (fun _ h => by cases h) (by simp) hs0 hs1;rw [zF2 (show M1[k]? = some (.lst (([] : List Int).map D.int)) from e2)] at P;refine ⟨_, zFq (k := 1) e1 (by simp), ?_⟩;rw [zc, zAt];have e1' : (M1.set n (.lst [.ref k, .int s']))[n]? = some (.lst [.ref k, .int s']) := zTi nx.gen.lt.1;refine zAV.mpr (zAV.mpr (zAV.mpr (zAV.mpr (sd rfl e1' (sd rfl e1' (zNq.mpr ⟨by simp [zMQ] <;> omega, zCX.mpr (zFN.mpr ⟨by decide, zCX.mpr (zNc.mpr ⟨by decide, zAJ.mpr ⟨_, rfl, zFN.mpr ⟨h0, ?_⟩⟩⟩)⟩)⟩))))));rw [zU];exact ⟨⟨_, rfl, Int.emod_nonneg _ (by omega), Int.emod_lt_of_pos _ h0⟩, nx.trans P⟩
 | cons x c =>
  simp only [List.isEmpty_cons, Bool.not_false, if_true];rw [zY, zq];refine zAV.mpr (hd rfl e1 e2 (zAJ.mpr ⟨_, rfl, zFN.mpr ⟨h0, ?_⟩⟩));rw [zU, zc, zY, zH9];refine zAV.mpr (hd rfl e1 e2 (zAJ.mpr ⟨_, rfl, zNc.mpr ⟨⟨h0, h1⟩, ?_⟩⟩));rw [zU];refine st (c := c) rfl e1 (zCX.mpr ?_);rw [zU];refine ⟨_, zFq (k := 0) e2 (by simp), ?_⟩;rw [zc, zAt];refine zAJ.mpr ⟨_, rfl, ?_⟩;rw [zU, zC8];have hx := e3 x zS2;have P := nx.gen.put (c := (x / m) :: c) (s := s) (fun y hy => by
   rcases zS0.mp hy with z | z
   ·subst z; exact Int.ediv_nonneg hx (by omega)
   ·exact e3 y (zS1 _ z)) (by simpa using e4) e5 e6
  rw [zF2 (k := n) (by rw [zTI (Ne.symm nx.gen.ne)]; exact e1)] at P;exact ⟨⟨_, rfl, Int.emod_nonneg _ (by omega), Int.emod_lt_of_pos _ h0⟩, nx.trans P⟩
theorem zIt (ns : List Int) (lo hi : Option Int) : ∃ c : List Int, L3.zFT (ns.map D.int) lo hi = c.map D.int /\ c.length <= ns.length := by
 refine ⟨(ns.drop (HT.sIx ns.length 0 lo)).take (HT.sIx ns.length ns.length hi - HT.sIx ns.length 0 lo), ?_, ?_⟩
 ·unfold L3.zFT;rw [zSx, List.map_take, List.map_drop]
 ·rw [zUH, zVN]; omega
theorem zCo (h : x :: r = c.map D.int) : ∃ y c', c = y :: c' /\ x = .int y /\ r = c'.map D.int := by
 cases c with
 | nil => cases h
 | cons y c' => rw [zS7] at h; exact ⟨y, c', rfl, (zTs h).1, (zTs h).2⟩
theorem zAz : zA3 none xs M := trivial
theorem zz (h : n <= 100000) : n <= sizeLine := zTF h (by decide)
theorem zOJ {ns : List Int} (h : ns.length <= 63) : Ok (zBU [.ref 0] [.fro (ns.map D.int)]) fun d M' => d = .ref 2 /\ Gen M' 2 1 /\ M'[0]? = some (.fro (ns.map D.int)) /\ M'.length = 3 := by
 unfold zBU;rw [zAr];unfold zDe;show OkS (za _ _ [some (.ref 0), none, none] _) _;have e0 : ([.fro (ns.map D.int)] : Mem)[0]? = some (.fro (ns.map D.int)) := rfl;obtain ⟨cut, ec, lc⟩ := zIt ns none (some 63);have sl : ∀ {σ : Sd} {P : EV -> Mem -> Prop}, σ[0]? = some (some (.ref 0)) -> P (.fl (cut.map D.int)) [.fro (ns.map D.int)] -> Ok (fSl (zD 0) zD6 (zDZ (fC (.int 63))) σ [.fro (ns.map D.int)]) P := fun hσ p => by
  refine zNE.mpr (zAJ.mpr ⟨_, hσ, zGK.mpr (zFm.mpr (zCX.mpr (zGF.mpr ?_)))⟩);rw [zKf (zH3 e0) rfl, ec]; exact p
 rw [zY, zq];refine zAV.mpr (zLj.mpr (zCq.mpr (zAJ.mpr ⟨_, rfl, zD2.mpr ((zPv (zOq e0)).mpr (zCX.mpr (zFC.mpr ?_)))⟩)));rw [zU, zc, zY, zBQ];obtain ⟨x, M1, ex, px⟩ := sl (σ := [some (.ref 0), some (.int (((ns.map D.int).length : Int) + 3)), none]) (P := fun x M => x = .fl (cut.map D.int) /\ M = [.fro (ns.map D.int)]) rfl ⟨rfl, rfl⟩;obtain ⟨rfl, rfl⟩ := px;refine ⟨_, _, _, zEY ex zDg, ?_⟩;refine zBL (I := fun r σ M => M = [.fro (ns.map D.int)] /\ (∃ c : List Int, r = c.map D.int) /\ ∃ s y, σ = [some (.ref 0), some (.int s), y] /\ 0 <= s /\ s < 2305843009213693951) ?_ ?_ _ _ _ ⟨rfl, ⟨cut, rfl⟩, _, none, rfl, by simp; omega, by simp; omega⟩
 ·rintro x r σ M ⟨rfl, ⟨c, hc⟩, s, y, rfl, h0, h1⟩;obtain ⟨z, c', rfl, rfl, rfl⟩ := zCo hc;refine ⟨zAz, _, rfl, ?_⟩;rw [zq];refine zAV.mpr (zAV.mpr (zAV.mpr (zAV.mpr (zAJ.mpr ⟨_, rfl, zCX.mpr (zNq.mpr ⟨by simp [zMQ], ?_⟩)⟩))));refine zAV.mpr (zAJ.mpr ⟨_, rfl, zAV.mpr (zCX.mpr (zCX.mpr (zP5.mpr ⟨by decide, zFN.mpr ⟨by decide, zFC.mpr (zCX.mpr (zFC.mpr (zCX.mpr (zFN.mpr ⟨by decide, ?_⟩))))⟩⟩)))⟩);rw [zU];exact ⟨rfl, ⟨c', rfl⟩, _, _, rfl, Int.emod_nonneg _ (by decide), Int.emod_lt_of_pos _ (by decide)⟩
 ·rintro σ M ⟨rfl, _, s, y, rfl, h0, h1⟩;refine ⟨zAz, ?_⟩;rw [zc, zAt, zKT, zAw, zAn, zC5];obtain ⟨x, M1, ex, px⟩ := sl (σ := [some (.ref 0), some (.int s), y]) (P := fun x M => x = .fl (cut.map D.int) /\ M = [.fro (ns.map D.int)]) rfl ⟨rfl, rfl⟩;obtain ⟨rfl, rfl⟩ := px;refine ⟨_, _, _, zEY ex zDg, by rw [zSx]; exact zz (by omega), ?_⟩;refine Ok.mono (zCw (I := fun r acc M => M = [.fro (ns.map D.int)] /\ (∃ c : List Int, r = c.map D.int) /\ r.length + acc.length <= 63 /\ ∃ b : List Int, acc = b.map D.int /\ ∀ x ∈ b, 0 <= x) (Q := fun acc M => M = [.fro (ns.map D.int)] /\ acc.length <= 63 /\ ∃ b : List Int, acc = b.map D.int /\ ∀ x ∈ b, 0 <= x) ?_ ?_ _ [] _ ⟨rfl, ⟨cut, rfl⟩, by simp; omega, [], rfl, fun _ h => by cases h⟩) ?_
  ·rintro x r acc M ⟨rfl, ⟨c, hc⟩, hl, b, rfl, hb⟩;obtain ⟨z, c', rfl, rfl, rfl⟩ := zCo hc;refine ⟨zAz, _, rfl, ?_⟩;refine zHu.mpr (zAV.mpr (zLj.mpr (zCq.mpr (zAJ.mpr ⟨_, rfl, zD2.mpr (zP0.mpr (zAV.mpr (zCX.mpr (zCX.mpr (zP5.mpr ⟨by decide, zSc.mpr (zIS.mpr ?_)⟩)))))⟩))));by_cases hz : (10 : Int) ^ (18 : Int).toNat <= (if z < 0 then -z else z)
   ·rw [zS3 (by simpa using hz)];refine zLj.mpr (zCq.mpr (zAJ.mpr ⟨_, rfl, zD2.mpr (zP0.mpr (zU.mpr ⟨rfl, ⟨c', rfl⟩, ?_, b ++ [if z < 0 then -z else z], by simp, ?_⟩))⟩))
    ·simp at hl ⊢; omega
    ·intro y hy;rcases zTE.mp hy with q | q
     ·exact hb y q
     ·have : y = if z < 0 then -z else z := by simpa using q
      rw [this]; split <;> omega
   ·rw [zS6 (by simpa using hz)];exact ⟨rfl, ⟨c', rfl⟩, by simp at hl ⊢; omega, b, rfl, hb⟩
  ·rintro acc M ⟨rfl, _, hl, hb⟩;exact ⟨zAz, rfl, by simpa using hl, hb⟩
  ·rintro ys M ⟨rfl, hl, b, hb, hp⟩;rw [List.nil_append] at hb hl;subst hb;rw [zFa, zAw, zAn, zAJ];refine ⟨_, rfl, ?_⟩;rw [zU, zCa];refine ⟨zz (by simp), ?_⟩;rw [zFa];refine ⟨rfl, ⟨⟨b, s, rfl, rfl, hp, by simpa using hl, h0, h1⟩, by decide, ?_⟩, rfl, rfl⟩;intro j u e;match j, e with
   | 0, e => cases e; exact zw _ _
   | 1, e => cases e; exact zw _ _
   | 2, e => cases e; rfl
   | j + 3, e => simp at e
mutual
theorem zDl (h : a <= b) : ∀ {d : D}, D.und a d = true -> D.und b d = true
 | .non, _ => by unfold D.und; rfl
 | .bl _, _ => by unfold D.und; rfl
 | .int _, _ => by unfold D.und; rfl
 | .str _, _ => by unfold D.und; rfl
 | .tup ds, e => by unfold D.und at e ⊢; exact zCH h e
 | .ref k, e => by unfold D.und at e ⊢; simp at e ⊢; omega
theorem zCH (h : a <= b) : ∀ {ds : List D}, D.unds a ds = true -> D.unds b ds = true
 | [], _ => by unfold D.unds; rfl
 | d :: ds, e => by
  unfold D.unds at e ⊢;rw [zTO] at e ⊢;exact ⟨zDl h e.1, zCH h e.2⟩
end
theorem zD1 (h : a <= b) (e : MO.und a u = true) : MO.und b u = true := by
 cases u with
 | lst xs => exact zCH h e
 | fro xs => exact zCH h e
 | set xs => exact zCH h e
 | dict kvs =>
  unfold MO.und at e ⊢;rw [zTP] at e ⊢;intro p hp;have := e p hp;rw [zTO] at this ⊢;exact ⟨zDl h this.1, zDl h this.2⟩
 | dicT kvs =>
  unfold MO.und at e ⊢;rw [zTP] at e ⊢;intro p hp;have := e p hp;rw [zTO] at this ⊢;exact ⟨zDl h this.1, zDl h this.2⟩
theorem zF9 : ∀ {xs ys : List D}, D.unds n (xs ++ ys) = (D.unds n xs && D.unds n ys)
 | [], ys => by simp [D.unds]
 | x :: xs, ys => by
  show (D.und n x && D.unds n (xs ++ ys)) = ((D.und n x && D.unds n xs) && D.unds n ys);rw [zF9, Bool.and_assoc]
theorem zGN : ∀ {xs : List D}, (∀ x ∈ xs, D.und n x = true) -> D.unds n xs = true
 | [], _ => rfl
 | x :: xs, h => by
  show (D.und n x && D.unds n xs) = true;rw [h x zS2, zGN fun y hy => h y (zS1 _ hy)]; rfl
theorem zBk (c : List Int) : D.und n (.tup (c.map D.int)) = true := by unfold D.und; exact zw n c
theorem Gen.app (h : Gen A n k) (hu : ∀ u ∈ us, MO.und (A.length + us.length) u = true) : Gen (A ++ us) n k := by
 obtain ⟨c, s, e1, e2, r⟩ := h.ex;obtain ⟨hn, hk⟩ := h.lt;refine ⟨⟨c, s, by rw [zSv hn]; exact e1, by rw [zSv hk]; exact e2, r⟩, h.ne, fun j u e => ?_⟩;rw [zS4];by_cases hj : j < A.length
 ·rw [zSv hj] at e;exact zD1 (by omega) (h.wf j u e)
 ·rw [zTy (by omega)] at e;exact hu u (List.mem_of_getElem? e)
theorem zAL (h : Gen M n k) (ha : fa σ M = some (.dat (.ref n), M)) (hb : fb σ M = some (.dat (.int m), M)) (h0 : 0 < m) (h1 : m < 1073741824)
  (q : ∀ i M', 0 <= i -> i < m -> Nx M M' n k -> P (.dat (.int i)) M') : Ok (ze zf (zH (toD fa) (zH (toD fb) zR)) σ M) P := by
 rw [zCf, zAw, zAn];refine ⟨_, _, ha, ?_⟩;rw [zU, zAw, zAn];refine ⟨_, _, hb, ?_⟩;rw [zU, zCa];refine Ok.mono (zPQ h h0 h1) ?_;rintro d M' ⟨⟨i, rfl, i0, i1⟩, nx⟩;exact q i M' i0 i1 nx
def zCS (i : Nat) : Nat -> List D
 | 0 => []
 | n + 1 => .int i :: zCS (i + 1) n
theorem zIc (n : Nat) : ∀ i, ((List.range' i n).map fun (k : Nat) => D.int k) = zCS i n := by
 induction n with
 | zero => intro i; rfl
 | succ n ih => intro i; rw [List.range'_succ, zS7, ih]; rfl
theorem zEk (n : Nat) : ((List.range n).map fun (k : Nat) => D.int k) = zCS 0 n := by rw [List.range_eq_range', zIc]
theorem zBu : ∀ (n i : Nat), (zCS i n).length = n
 | 0, _ => rfl
 | n + 1, i => by show (zCS (i + 1) n).length + 1 = _; rw [zBu n]
theorem zGZ (n : Nat) (I : Nat -> Sd -> Mem -> Prop)
  (hs : ∀ i σ M, i < n -> I i σ M -> ∃ σ1, g (.int i) σ = some σ1 /\ OkS (b σ1 M) fun o σ2 M2 => match o with | .nx => I (i + 1) σ2 M2 | .cnt => I (i + 1) σ2 M2 | .brk => P .nx σ2 M2 | .ret d => P (.ret d) σ2 M2)
  (he : ∀ σ M, I n σ M -> P .nx σ M) (σ : Sd) (M : Mem) (h0 : I 0 σ M) : OkS (zCI g b all none (zCS 0 n) σ M) P := by
 refine zBL (I := fun r σ M => ∃ i, i <= n /\ r = zCS i (n - i) /\ I i σ M) ?_ ?_ _ _ _ ⟨0, zTa _, by simp, h0⟩
 ·rintro x r σ M ⟨i, hi, e, hI⟩;have hlt : i < n := by
   rcases zUF i n with z | z
   ·exact z
   ·rw [show n - i = 0 by omega] at e; cases e
  rw [show n - i = (n - (i + 1)) + 1 by omega] at e;obtain ⟨rfl, rfl⟩ := zTs e;obtain ⟨σ1, e1, q⟩ := hs i σ M hlt hI;refine ⟨zAz, σ1, e1, OkS.mono q ?_⟩;intro o σ2 M2 z;cases o with
  | nx => exact ⟨i + 1, hlt, rfl, z⟩
  | cnt => exact ⟨i + 1, hlt, rfl, z⟩
  | brk => exact z
  | ret d => exact z
 ·rintro σ M ⟨i, hi, e, hI⟩;have : i = n := by
   rcases zUF i n with z | z
   ·rw [show n - i = (n - (i + 1)) + 1 by omega] at e; cases e
   ·omega
  subst this;exact ⟨zAz, he σ M hI⟩
theorem zKC (n : Nat) (I : Nat -> List D -> Mem -> Prop)
  (hs : ∀ i acc M, i < n -> I i acc M -> ∃ σ1, g (.int i) σ = some σ1 /\ Ok (te σ1 M) (zGe fun d M2 => I (i + 1) (acc ++ [d]) M2)) (h0 : I 0 [] M) :
  Ok (zAx g zAO te σ all none (zCS 0 n) M) fun ys M1 => I n ys M1 := by
 refine Ok.mono (zCw (I := fun r acc M => ∃ i, i <= n /\ r = zCS i (n - i) /\ I i acc M) (Q := fun acc M => I n acc M) ?_ ?_ _ [] _ ⟨0, zTa _, by simp, h0⟩) fun ys M1 q => by simpa using q
 ·rintro x r acc M ⟨i, hi, e, hI⟩;have hlt : i < n := by
   rcases zUF i n with z | z
   ·exact z
   ·rw [show n - i = 0 by omega] at e; cases e
  rw [show n - i = (n - (i + 1)) + 1 by omega] at e;obtain ⟨rfl, rfl⟩ := zTs e;obtain ⟨σ1, e1, q⟩ := hs i acc M hlt hI;refine ⟨zAz, σ1, e1, zGb.mpr ?_⟩;rw [zS3 rfl];refine Ok.mono q ?_;intro x M2 z;cases x with
  | dat d => exact ⟨i + 1, hlt, rfl, z⟩
  | fl xs => exact ⟨i + 1, hlt, rfl, z⟩
 ·rintro acc M ⟨i, hi, e, hI⟩;have : i = n := by
   rcases zUF i n with z | z
   ·rw [show n - i = (n - (i + 1)) + 1 by omega] at e; cases e
   ·omega
  subst this;exact ⟨zAz, hI⟩
theorem zBZ (e : f σ M = some (.dat (.int j), M)) (h1 : 0 <= j) (h2 : j < 2 ^ 62) : zAC (zH (toD f) zR) σ M = some (zCS 0 j.toNat, none, M) := by
 have e' : (zH (toD f) zR) σ M = some ([.int j], M) := by unfold zH toD zR; rw [e]
 rw [zGY e' h1 h2, zEk]
def mD (zA : List (List Int)) : D := .tup (zA.map fun r => .tup (r.map D.int))
structure IsM (zA : List (List Int)) (l : Nat) : Prop where
 r0 : 0 < zA.length
 l0 : 0 < l
 row : ∀ r ∈ zA, r.length = l /\ ∀ g ∈ r, 0 <= g /\ g < zA.length
theorem zGQ (zA : List (List Int)) : D.und n (mD zA) = true := by
 unfold mD D.und;refine zGN fun x hx => ?_;obtain ⟨r, _, rfl⟩ := zS5.mp hx;exact zBk r
theorem zj {α : Type} {x : Option (α × Mem)} {a : α} {M : Mem} (h : Ok x fun b M' => b = a /\ M' = M) : x = some (a, M) := by
 obtain ⟨b, M', e, rfl, rfl⟩ := h; exact e
theorem zK {α : Type} {x : Option (α × Mem)} {a : α} {M : Mem} {P : α -> Mem -> Prop} (h : x = some (a, M)) (p : P a M) : Ok x P := ⟨a, M, h, p⟩
theorem zCY {c : FT} {a g : FS} {σ : Sd} {M : Mem} {P : Out -> Sd -> Mem -> Prop} (hc : c σ M = some (false, M)) (h : OkS (g σ M) P) : OkS (za (sIf c a zBB) g σ M) P := by
 rw [zY, zBH];refine zK hc ?_;rw [zS6 (by decide), zA4];exact h
theorem zOQ {c : FT} {a : FS} {σ : Sd} {M : Mem} {P : Out -> Sd -> Mem -> Prop} (hc : c σ M = some (false, M)) (h : P .nx σ M) : OkS (sIf c a zBB σ M) P := by
 rw [zBH];refine zK hc ?_;rw [zS6 (by decide), zA4];exact h
theorem zQP {f : FE} {σ : Sd} {M M' : Mem} {k : Bool} (h : f σ M = some (.dat (.bl k), M')) : zFQ (tst f) σ M = some (!k, M') := by
 unfold zFQ tst; rw [h]
theorem zAk {f : FE} {σ : Sd} {M : Mem} {d : D} (h : f σ M = some (.dat d, M)) : zH (toD f) zR σ M = some ([d], M) := by
 unfold zH toD zR; rw [h]
theorem zBm {f : FE} {g : FA} {σ : Sd} {M : Mem} {d : D} {ds : List D} (h : f σ M = some (.dat d, M)) (hg : g σ M = some (ds, M)) : zH (toD f) g σ M = some (d :: ds, M) := by
 unfold zH toD; rw [h]; dsimp only; rw [hg]
theorem zBv {m : FF} {a : FA} {σ : Sd} {M M' : Mem} {ds : List D} {d : D} (h : a σ M = some (ds, M)) (hm : m ds M = some (d, M')) : ze m a σ M = some (.dat d, M') := by
 unfold ze; rw [h]; dsimp only; rw [hm]
theorem zi {k : K2} {f g : FE} {σ : Sd} {M : Mem} {x y : EV} {r : Option (EV × Mem)} (hf : f σ M = some (x, M)) (hg : g σ M = some (y, M)) (hk : k x y M = r) : fOp k f g σ M = r := by
 unfold fOp; rw [hf]; dsimp only; rw [hg]; exact hk
theorem zD5 {x : EV} {xs : List D} {i : Int} {d : D} {M : Mem} (h : zBK M x = some xs) (hd : atI xs i = some d) : kIx x (.dat (.int i)) M = some (.dat d, M) := zj (zN2 h hd ⟨rfl, rfl⟩)
theorem zEA {f : FE} {x : EV} {xs : List D} {σ : Sd} {M : Mem} (hf : f σ M = some (x, M)) (h : zBK M x = some xs) : fB zBp (zn f zAT) σ M = some (.dat (.int xs.length), M) := by
 unfold fB zn zAT; rw [hf]; exact zj ((zPv h).mpr ⟨rfl, rfl⟩)
noncomputable def zN9 : FS := (za (zAK 3 (zD 1))
  (za (zB3 (zAg (zD 2)) (gN 4) (zAK 3 (fOp kIx (fOp kIx (zD 0) (zD 3)) (zD 4))))
  (zAp (zD 3))))
noncomputable def zHH : FF := zFJ (zCU 5 zN9)
def zBE (zA : List (List Int)) (h g : Int) : Int := (zA.getD h.toNat []).getD g.toNat 0
def zFD (zA : List (List Int)) (room : Int) (word : List Int) : Int := word.foldl (zBE zA) room
theorem zMo {zA : List (List Int)} {h : Int} (h0 : 0 <= h) (h1 : h < zA.length) : atI (zA.map fun r => D.tup (r.map D.int)) h = some (.tup ((zA.getD h.toNat []).map D.int)) := by
 refine zKW h0 ?_;rw [zTB, zSt, zSs (by omega)];rfl
theorem zKK {r : List Int} {g : Int} (h0 : 0 <= g) (h1 : g < r.length) : atI (r.map D.int) g = some (.int (r.getD g.toNat 0)) := by
 refine zKW h0 ?_;rw [zTB, zSt, zSs (by omega)];rfl
theorem IsM.get {zA : List (List Int)} {l : Nat} (m : IsM zA l) {h : Int} (h0 : 0 <= h) (h1 : h < zA.length) : (zA.getD h.toNat []).length = l /\ ∀ g ∈ zA.getD h.toNat [], 0 <= g /\ g < zA.length := by
 refine m.row _ ?_;rw [zSt, zSs (by omega)];exact zTM _
theorem IsM.step {zA : List (List Int)} {l : Nat} (m : IsM zA l) {h g : Int} (h0 : 0 <= h) (h1 : h < zA.length) (g0 : 0 <= g) (g1 : g < l) : 0 <= zBE zA h g /\ zBE zA h g < zA.length := by
 obtain ⟨q1, q2⟩ := m.get h0 h1;refine q2 _ ?_;unfold zBE;rw [zSt (l := zA.getD h.toNat []), zSs (by omega)];exact zTM _
theorem IsM.ix {zA : List (List Int)} {l : Nat} (m : IsM zA l) {h g : Int} (h0 : 0 <= h) (h1 : h < zA.length) (g0 : 0 <= g) (g1 : g < l) {f1 f2 f3 : FE} {σ : Sd} {M : Mem} (e1 : f1 σ M = some (.dat (mD zA), M)) (e2 : f2 σ M = some (.dat (.int h), M)) (e3 : f3 σ M = some (.dat (.int g), M)) :
  fOp kIx (fOp kIx f1 f2) f3 σ M = some (.dat (.int (zBE zA h g)), M) := by
 obtain ⟨q1, _⟩ := m.get h0 h1;exact zi (zi e1 e2 (zD5 zAl (zMo h0 h1))) e3 (zD5 zAl (zKK g0 (by omega)))
theorem zOI {zA : List (List Int)} {l : Nat} (m : IsM zA l) {room : Int} {word : List Int} {M : Mem} (h0 : 0 <= room) (h1 : room < zA.length) (hw : ∀ g ∈ word, 0 <= g /\ g < l) : zHH [mD zA, .int room, .tup (word.map D.int)] M = some (.int (zFD zA room word), M) := by
 refine zj ?_;unfold zHH;refine zFg (by unfold D.unds D.unds D.unds D.unds; rw [zGQ]; simp [zBk, D.und, zw]) ?_;rw [zAr];unfold zN9;show OkS (za _ _ [some (mD zA), some (.int room), some (.tup (word.map D.int)), none, none] []) _;rw [zY, zq];refine zAJ.mpr ⟨_, rfl, ?_⟩;rw [zU, zc, zY, zBQ];refine ⟨_, _, _, zEY rfl zAl, ?_⟩;refine zBL (I := fun r σ M' => M' = [] /\ ∃ (h : Int) (y : Option D) (c : List Int), σ = [some (mD zA), some (.int room), some (.tup (word.map D.int)), some (.int h), y] /\ r = c.map D.int /\ (∀ g ∈ c, 0 <= g /\ g < (l : Int)) /\ 0 <= h /\ h < zA.length /\ zFD zA h c = zFD zA room word) ?_ ?_ _ _ _ ⟨rfl, room, none, word, rfl, rfl, hw, h0, h1, rfl⟩
 ·rintro x r σ M' ⟨rfl, h, y, c, rfl, hc, hg, h0, h1, e⟩;obtain ⟨z, c', rfl, rfl, rfl⟩ := zCo hc;refine ⟨zAz, _, rfl, ?_⟩;rw [zq];obtain ⟨g0, g1⟩ := hg z zS2;refine zK (m.ix h0 h1 g0 g1 rfl rfl rfl) ?_;rw [zU];obtain ⟨s0, s1⟩ := m.step h0 h1 g0 g1;exact ⟨rfl, _, _, c', rfl, rfl, fun g hg' => hg g (zS1 _ hg'), s0, s1, e⟩
 ·rintro σ M' ⟨rfl, h, y, c, rfl, hc, hg, h0, h1, e⟩;refine ⟨zAz, ?_⟩;rw [zc, zAt];refine zAJ.mpr ⟨_, rfl, ?_⟩;rw [zU];have : c = [] := by cases c with | nil => rfl | cons _ _ => cases hc
  subst this;refine ⟨rfl, ?_, rfl⟩;rw [<- e]; rfl
theorem zQl {σ : Sd} {M : Mem} {ns : List Int} {j : Nat} {i : Int} (hσ : σ[i.toNat]? = σ[i.toNat]?) (hi : zD j σ M = some (.dat (.ref 0), M)) (h0 : M[0]? = some (.fro (ns.map D.int))) : ∃ c : List Int, fSl (zD j) zD6 (zDZ (fC (.int i))) σ M = some (.fl (c.map D.int), M) /\ c.length <= ns.length := by
 obtain ⟨c, ec, lc⟩ := zIt ns none (some i);refine ⟨c, zj (zNE.mpr (zK hi (zGK.mpr (zFm.mpr (zCX.mpr (zGF.mpr ?_)))))), lc⟩;rw [zKf (zH3 h0) rfl, ec]; exact ⟨rfl, rfl⟩
theorem zKH (hf : f σ M = some (x, M)) (ht : zJv M x = some t) : zEz T f σ M = some (.dat (.bl (isT t T)), M) := by
 unfold zEz; rw [hf]; dsimp only; rw [ht]
theorem zA6 (h : f σ M = some (.dat (.bl k), M')) : tst f σ M = some (k, M') := by unfold tst; rw [h]
theorem isV (hf : f σ M = some (x, M)) (ht : zJv M x = some t) (h : isT t T = k) : zEz T f σ M = some (.dat (.bl k), M) := by
 rw [zKH hf ht, h]
theorem isF (hf : f σ M = some (x, M)) (ht : zJv M x = some t) (h : isT t T = false) : tst (zEz T f) σ M = some (false, M) := by
 rw [zA6 (zKH hf ht), h]
theorem zQ5 (hf : f σ M = some (x, M)) (ht : zJv M x = some t) (h : isT t T = true) : tst (zEz T f) σ M = some (true, M) := by
 rw [zA6 (zKH hf ht), h]
theorem zIH (hc : c σ M = some (true, M)) (h : OkS (a σ M) (nxP (fun σ1 M1 => OkS (g σ1 M1) P) P)) : OkS (za (sIf c a b) g σ M) P := by
 rw [zY, zBH];refine zK hc ?_;rw [zS3 rfl];exact h
theorem zBR (hf : f σ M = some (.dat d, M)) (h : P (.ret d) σ M) : OkS (zAp f σ M) P := by
 rw [zAt]; exact zK hf h
theorem zNI (h : (zFK d).isSome = true) : kEq (.dat d) (.dat d) M = some (.dat (.bl true), M) := by
 cases d with
 | tup _ => cases h
 | ref _ => cases h
 | non => rfl
 | bl k => cases k <;> rfl
 | int i => show some (EV.dat (.bl (decide (V.int i = V.int i))), M) = _; simp
 | str x => show some (EV.dat (.bl (decide (V.str x = V.str x))), M) = _; simp
theorem zE9 (hf : f σ M = some (.dat (.bl true), M)) (hg : g σ M = some (.dat (.bl true), M)) : zKJ f g σ M = some (.dat (.bl true), M) := by
 unfold zKJ; rw [hf]; exact hg
theorem zKM (hf : f σ M = some (.dat (.bl false), M)) : zOK f σ M = some (.dat (.bl true), M) := by
 unfold zOK; rw [hf]; rfl
theorem zDa {α : Type} (as : List α) (enc out : α -> D) (hi : fi σ M = some (as.map enc, gd, M)) (hgd : zA3 gd (as.map enc) M) (hz : as.length <= 100000)
  (he : ∀ a ∈ as, ∃ σ1, g (enc a) (zB4 own σ) = some σ1 /\ te σ1 M = some (.dat (out a), M)) : zAQ own fi g zAO te σ M = some (.fl (as.map out), M) := by
 refine zj (zC5.mpr ⟨_, _, _, hi, by rw [zSx]; exact zz hz, ?_⟩);refine Ok.mono (zCw (I := fun r acc M' => M' = M /\ ∃ ra rb : List α, as = rb ++ ra /\ r = ra.map enc /\ acc = rb.map out) (Q := fun acc M' => M' = M /\ acc = as.map out) ?_ ?_ _ [] _ ⟨rfl, as, [], rfl, rfl, rfl⟩) ?_
 ·rintro x r acc M' ⟨rfl, ra, rb, hab, hr, rfl⟩;cases ra with
  | nil => cases hr
  | cons a ra =>
   rw [zS7] at hr;obtain ⟨rfl, rfl⟩ := zTs hr;obtain ⟨σ1, e1, e2⟩ := he a (by rw [hab]; simp);refine ⟨hgd, σ1, e1, zGb.mpr ?_⟩;rw [zS3 rfl];refine zK e2 ?_;rw [zU];exact ⟨rfl, ra, rb ++ [a], by rw [hab]; simp, rfl, by simp⟩
 ·rintro acc M' ⟨rfl, ra, rb, hab, hr, rfl⟩;cases ra with
  | nil => rw [zTY] at hab; subst hab; exact ⟨hgd, rfl, rfl⟩
  | cons a ra => cases hr
 ·rintro ys M' ⟨rfl, h⟩;rw [List.nil_append] at h;subst h;exact ⟨rfl, rfl⟩
theorem zEi (hf : f σ M = some (x, M)) (h : zBK M x = some xs) : fB zBb (zn f zAT) σ M = some (.dat (.tup xs), M) := by
 unfold fB zn zAT; rw [hf]; exact zj ((zIP h).mpr ⟨rfl, rfl⟩)
theorem zII (hf : f σ M = some (.dat (.tup xs), M)) : zAg f σ M = some (xs, none, M) := zEY hf zAl
theorem zJn (n : Nat) : zCS 0 n = (List.range n).map fun (k : Nat) => D.int k := (zEk n).symm
theorem zMF (e : f σ M = some (.dat (.int j), M)) (h1 : 0 <= j) (h2 : j < 2 ^ 62) : zAC (zH (toD f) zR) σ M = some ((List.range j.toNat).map (fun (k : Nat) => D.int k), none, M) := by
 rw [zBZ e h1 h2, zJn]
theorem zEN (hf : f σ M = some (.dat d, M)) (h : OkS (g (σ.set i (some d)) M) P) : OkS (za (zAK i f) g σ M) P := by
 rw [zY, zq]; exact zK hf h
theorem zRh (h : f σ M = some (.dat d, M')) : zH (toD f) zR σ M = some ([d], M') := by
 unfold zH toD zR; rw [h]
theorem zGd {α β : Type} (f : α -> β) (d : α) : ∀ xs : List α, (List.range xs.length).map (fun i => f (xs.getD i d)) = xs.map f
 | [] => rfl
 | x :: xs => by
  rw [zTL, List.range_succ_eq_map, zS7, zTC, zS7, <- zGd f d xs];rfl
open ST
def ris (xs : List Int) : List Int := zDN (zBF xs)
theorem zCk (xs : List Int) (x : Int) : x ∈ ris xs ↔ x ∈ xs := by
 unfold ris; rw [(zBr _).mem_iff, zKU]
theorem zHy (xs : List Int) : (ris xs).Pairwise (· < ·) := by
 have h1 := zF8 (zBF xs);have h2 : (ris xs).Nodup := (zBr _).nodup_iff.mpr (zIb xs);unfold ris at h2 ⊢;exact (h1.and h2).imp fun {a b} h => by have := h.1; have := h.2; omega
theorem zE6 : ∀ {xs ys : List Int}, xs.Pairwise (· < ·) -> ys.Pairwise (· < ·) -> (∀ x, x ∈ xs ↔ x ∈ ys) -> xs = ys
 | [], [], _, _, _ => rfl
 | [], y :: ys, _, _, h => by have := (h y).mpr zS2; cases this
 | x :: xs, [], _, _, h => by have := (h x).mp zS2; cases this
 | x :: xs, y :: ys, h1, h2, h => by
  have hx := List.pairwise_cons.mp h1;have hy := List.pairwise_cons.mp h2;have e : x = y := by
   have a := (h x).mp zS2;have b := (h y).mpr zS2;rcases zS0.mp a with z | z
   ·exact z
   ·rcases zS0.mp b with q | q
    ·exact q.symm
    ·have := hx.1 y q; have := hy.1 x z; omega
  subst e;rw [zE6 hx.2 hy.2 fun z => ?_];constructor
  ·intro hz;rcases zS0.mp ((h z).mp (zS1 _ hz)) with q | q
   ·subst q; have := hx.1 _ hz; omega
   ·exact q
  ·intro hz;rcases zS0.mp ((h z).mpr (zS1 _ hz)) with q | q
   ·subst q; have := hy.1 _ hz; omega
   ·exact q
theorem zEg (h : ∀ x, x ∈ xs ↔ x ∈ ys) : ris xs = ris ys := zE6 (zHy xs) (zHy ys) fun x => by rw [zCk, zCk]; exact h x
theorem zIg (h : xs.Pairwise (· < ·)) : ris xs = xs := zE6 (zHy xs) h fun x => zCk xs x
theorem zKn (xs : List Int) : (ris xs).length <= xs.length := by
 unfold ris; rw [(zBr _).length_eq]; exact zEM xs
theorem zQX (h : 0 < xs.length) : 0 < (ris xs).length := by
 cases xs with
 | nil => cases h
 | cons x r => exact List.length_pos_of_mem ((zCk (x :: r) x).mpr zS2)
theorem zPb (f : Int -> Int) (xs : List Int) : ris ((ris xs).map f) = ris (xs.map f) := zEg fun x => by simp [zCk]
theorem zOo (h : zAQ own fi g tc te σ M = some (.fl (ks.map D.int), M)) (hz : ks.length <= 4000) : zHf own fi g tc te σ M = some (zBF ks, M) := by
 unfold zHf; rw [h]; dsimp only; rw [zGJ]; dsimp only; rw [zS3 (by unfold scanBound; omega)]
theorem zMp (h : fz σ M = some (zBF ks, M)) (hz : (zBF ks).length < 64) : zGa fz σ M = some (.fl ((ris ks).map D.int), M) := by
 unfold zGa; rw [h]; dsimp only; rw [zS3 hz]; rfl
noncomputable def zE7 : FS := (zAp (fB zBb (zn (zGa (zHf [3] (zAg (zD 1)) (gN 3) zAO (fOp kIx (fOp kIx (zD 0) (zD 3)) (zD 2)))) zAT)))
noncomputable def zCG : FF := zFJ (zCU 4 zE7)
def setR (zA : List (List Int)) (S : List Int) (g : Int) : List Int := ris (S.map fun h => zBE zA h g)
def zJX (zA : List (List Int)) (S word : List Int) : List Int := word.foldl (setR zA) S
structure IsS (zA : List (List Int)) (S : List Int) : Prop where
 pw : S.Pairwise (· < ·)
 n0 : 0 < S.length
 mem : ∀ x ∈ S, 0 <= x /\ x < (zA.length : Int)
theorem zNF : ∀ {S : List Int} {a : Int} {n : Nat}, S.Pairwise (· < ·) -> (∀ x ∈ S, a <= x /\ x < a + (n : Int)) -> S.length <= n
 | [], _, _, _, _ => zTa _
 | x :: S, a, n, h, hm => by
  have hx := List.pairwise_cons.mp h;obtain ⟨m0, m1⟩ := hm x zS2;have hn : 0 < n := by omega
  have := zNF (S := S) (a := x + 1) (n := (a + n - (x + 1)).toNat) hx.2 fun y hy => by
   have := hx.1 y hy;have := (hm y (zS1 _ hy)).2;omega
  simp only [zTL]; omega
theorem IsS.len (h : IsS zA S) : S.length <= zA.length := zNF h.pw (a := 0) fun x hx => by have := h.mem x hx; omega
theorem IsM.setR {zA : List (List Int)} {l : Nat} (m : IsM zA l) {S : List Int} (s : IsS zA S) {g : Int} (g0 : 0 <= g) (g1 : g < l) : IsS zA (setR zA S g) := by
 refine ⟨zHy _, zQX (by rw [zSx]; exact s.n0), fun x hx => ?_⟩;obtain ⟨y, hy, rfl⟩ := zS5.mp ((zCk _ _).mp hx);obtain ⟨y0, y1⟩ := s.mem y hy;exact m.step y0 y1 g0 g1
theorem zK8 (zA : List (List Int)) : ∀ (word : List Int) (S : List Int), zJX zA (ris S) word = ris (S.map fun r => zFD zA r word)
 | [], S => by show ris S = ris (S.map fun r => r); rw [List.map_id']
 | g :: w, S => by
  show zJX zA (setR zA (ris S) g) w = _;unfold setR;rw [zPb];rw [zK8 zA w];rw [zTC]; rfl
theorem zMY (h : S.Pairwise (· < ·)) (word : List Int) : zJX zA S word = ris (S.map fun r => zFD zA r word) := by
 have := zK8 zA word S;rw [zIg h] at this; exact this
def tI (xs : List Int) : D := .tup (xs.map D.int)
theorem zOw {zA : List (List Int)} {l : Nat} (m : IsM zA l) (hR : zA.length < 64) {S : List Int} (s : IsS zA S) {g : Int} (g0 : 0 <= g) (g1 : g < l) {M : Mem} : zCG [mD zA, tI S, .int g] M = some (tI (setR zA S g), M) := by
 refine zj ?_;unfold zCG;refine zFg (by unfold D.unds D.unds D.unds D.unds; rw [zGQ]; simp [tI, zBk, D.und, zw]) ?_;rw [zAr];unfold zE7;have hl := s.len;have hz : (zBF (S.map fun h => zBE zA h g)).length < 64 := by have := zEM (S.map fun h => zBE zA h g); rw [zSx] at this; omega
 refine zBR (d := tI (setR zA S g)) ?_ ⟨by unfold tI; exact zBk _, rfl, rfl⟩;refine zEi (zMp (ks := S.map fun h => zBE zA h g) (zOo ?_ (by rw [zSx]; omega)) hz) zDg;refine (zDa S D.int (fun h => .int (zBE zA h g)) (zII rfl) trivial (by omega) fun h hh => ⟨_, rfl, ?_⟩).trans ?_
 ·obtain ⟨h0, h1⟩ := s.mem h hh;exact m.ix h0 h1 g0 g1 rfl rfl rfl
 ·rw [zTC]; rfl
end Law
namespace Law
open PySem PySem.Spec PyProof.Rows L2 L3 ST
theorem zKA (hgd : zA3 gd all M) (hg : g x σ = some σ1) (hk : tk σ1 M = some (.dat k, M)) (hv : tv σ1 M = some (.dat v, M)) (hp : zFH M n k v = some M') : zDQ g zAO tk tv σ n all gd (x :: r) M = zDQ g zAO tk tv σ n all gd r M' := by
 rw [zDQ];rw [zS3 hgd, hg];have et : zAO σ1 M = some (true, M) := rfl;have e1 : toD tk σ1 M = some (k, M) := by unfold toD; rw [hk]
 have e2 : toD tv σ1 M = some (v, M) := by unfold toD; rw [hv]
 dsimp only;rw [et]; dsimp only;rw [e1]; dsimp only;rw [e2]; dsimp only;rw [hp]
theorem zL0 (hgd : zA3 gd all M) : zDQ g tc tk tv σ n all gd [] M = some M := by
 rw [zDQ, zS3 hgd]
theorem zGh (e : f σ M = some (.dat (mD zA), M)) : fB zBp (zn f zAT) σ M = some (.dat (.int zA.length), M) := by
 have := zEA e zAl;rw [zSx] at this; exact this
theorem zHx (m : IsM zA l) (e : f σ M = some (.dat (mD zA), M)) : fB zBp (zn (fOp kIx f (fC (.int 0))) zAT) σ M = some (.dat (.int l), M) := by
 have r0 := m.r0;have := zEA (zi (g := fC (.int 0)) e rfl (zD5 zAl (zMo (h := 0) (by omega) (by omega)))) zAl;rw [zSx, (m.get (h := 0) (by omega) (by omega)).1] at this; exact this
end Law
namespace Law
open PySem PySem.Spec PyProof.Rows L2 L3 ST
abbrev gL (k : Nat) (s : Int) : MO := .lst [.ref k, .int s]
theorem zQS (hk : k < N) : MO.und N (gL k s) = true := by
 show D.unds _ _ = true;unfold D.unds D.unds D.unds D.und;simp [hk]
structure Nw (M M' : Mem) (n k : Nat) : Prop where
 gen : Gen M' n k
 len : M.length <= M'.length
 fr : ∀ j, j < M.length -> j ≠ n -> j ≠ k -> M'[j]? = M[j]?
theorem Nw.trans {M M1 M2 : Mem} {n k : Nat} (a : Nw M M1 n k) (b : Nw M1 M2 n k) : Nw M M2 n k :=
 ⟨b.gen, zTF a.len b.len, fun j h h1 h2 => (b.fr j (zTD h a.len) h1 h2).trans (a.fr j h h1 h2)⟩
theorem Nx.nw (x : Nx M M' n k) : Nw M M' n k := ⟨x.gen, by rw [x.len]; exact zSu _, fun j _ h1 h2 => x.fr j h1 h2⟩
theorem Gen.lst (h : Gen A n k) (xs : List D) (hx : D.unds A.length xs = true) : Nw A (A ++ [.lst xs]) n k := ⟨h.app fun u hu => by
 have : u = .lst xs := by simpa using hu
 subst this; exact zCH (by simp) hx, by simp, fun j hj _ _ => zSv hj⟩
theorem Nw.setB (h : Nw M A n k) (g : Gen M n k) (hj : M.length <= j) (hu : MO.und A.length u = true) : Nw M (A.set j u) n k := by
 obtain ⟨hn, hk⟩ := g.lt;obtain ⟨c, s, e1, e2, r⟩ := h.gen.ex;refine ⟨⟨⟨c, s, by rw [zTI (by omega)]; exact e1, by rw [zTI (by omega)]; exact e2, r⟩, g.ne, fun i v e => ?_⟩, by rw [zVD]; exact h.len, fun i hi h1 h2 => by rw [zTI (by omega)]; exact h.fr i hi h1 h2⟩;rw [zVD];rw [zUT] at e;split at e
 ·split at e
  ·cases e; exact hu
  ·cases e
 ·exact h.gen.wf i v e
theorem Nw.wf0 (h : Nw M M' n k) (g : Gen M n k) : ∀ (j : Nat) u, j < M.length -> M'[j]? = some u -> MO.und M.length u = true := fun j u hj e => by
 obtain ⟨hn, hk⟩ := g.lt;obtain ⟨c, s, e1, e2, r⟩ := h.gen.ex;by_cases q1 : j = n
 ·subst q1; rw [e1] at e; cases e; exact zQS hk
 ·by_cases q2 : j = k
  ·subst q2; rw [e2] at e; cases e; exact zw _ _
  ·rw [h.fr j hj q1 q2] at e; exact g.wf j u e
theorem Nw.trim (h : Nw M M' n k) (g : Gen M n k) : Nw M (M'.take M.length) n k := by
 obtain ⟨hn, hk⟩ := g.lt;have tk : ∀ j, j < M.length -> (M'.take M.length)[j]? = M'[j]? := fun j hj => List.getElem?_take_of_lt hj;have tl : (M'.take M.length).length = M.length := by have := h.len; rw [zUH]; omega
 obtain ⟨c, s, e1, e2, r⟩ := h.gen.ex;refine ⟨⟨⟨c, s, (tk n hn).trans e1, (tk k hk).trans e2, r⟩, g.ne, fun j u e => ?_⟩, by omega, fun j hj h1 h2 => (tk j hj).trans (h.fr j hj h1 h2)⟩;have hj : j < M.length := by have := (zSr.mp e).1; omega
 rw [tk j hj] at e;rw [tl];exact h.wf0 g j u hj e
theorem Nw.get (h : Nw M M' n k) (e : M[j]? = some u) (h1 : j ≠ n) (h2 : j ≠ k) : M'[j]? = some u :=
 (h.fr j (zSr.mp e).1 h1 h2).trans e
end Law
namespace Lac
open PySem PySem.Spec PyProof.Rows L2 L3 ST Law
noncomputable def zDq : FS := (za (zAK 2 (zAZ zR))
  (za (zB3 (zAC (zH (toD (zD 1)) zR)) (gN 3) (zAi (fM zDx (zD 2) (zH (toD (ze zf (zH (toD (zD 0)) (zH (toD (fOp zAy (zD 3) (fC (.int 1)))) zR)))) (zH (toD (zD 3)) zR)))))
  (zAp (zD 2))))
noncomputable def zB1 : FF := zCU 4 zDq
noncomputable def zDA : FS := (za (sIf (tst (fOp kEq (zD 1) (fC (.int 0)))) (zAp (zAQ [4] (zAC (zH (toD (zD 2)) zR)) (gN 4) zAO (ze zf (zH (toD (zD 0)) (zH (toD (zD 2)) zR))))) zBB)
  (za (sIf (tst (fOp kEq (zD 1) (fC (.int 1)))) (zAp (zAQ [4] (zAC (zH (toD (zD 2)) zR)) (gN 4) zAO (fOp zEy (fOp zAy (zD 4) (ze zf (zH (toD (zD 0)) (zH (toD (fC (.int 3))) zR)))) (zD 2)))) zBB)
  (za (sIf (tst (fOp kEq (zD 1) (fC (.int 2)))) (za (zAK 5 (fOp zLe (fOp zAy (zD 2) (fC (.int 1))) (fC (.int 2))))
  (za (zAK 6 (zAQ [4] (zAC (zH (toD (zD 5)) zR)) (gN 4) zAO (ze zf (zH (toD (zD 0)) (zH (toD (zD 5)) zR)))))
  (zAp (fOp zHB (zD 6) (zAQ [4] (zAC (zH (toD (fOp zOb (zD 2) (zD 5))) zR)) (gN 4) zAO (fOp zAy (zD 5) (ze zf (zH (toD (zD 0)) (zH (toD (fOp zOb (zD 2) (zD 5))) zR))))))))) zBB)
  (za (sIf (zD8 (tst (fOp kEq (zD 1) (fC (.int 3)))) (tst (fOp kEq (zD 3) (fC (.int 0))))) (zAp (zAQ [4] (zAC (zH (toD (zD 2)) zR)) (gN 4) zAO (fOp zEy (fOp zAy (zD 4) (fC (.int 1))) (zD 2)))) zBB)
  (za (sIf (tst (fOp kEq (zD 1) (fC (.int 3)))) (zAp (zAQ [4] (zAC (zH (toD (zD 2)) zR)) (gN 4) zAO (fOp kIx (zAZ (zH (toD (zD 4)) (zH (toD (fC (.int 0))) zR))) (fB zJk (zn (fOp kEq (zD 4) (fOp zOb (zD 2) (fC (.int 1)))) zAT))))) zBB)
  (za (sIf (zIx (tst (fOp kEq (zD 1) (fC (.int 4)))) (tst (fOp kEq (zD 1) (fC (.int 7))))) (za (zAK 7 (ze zf (zH (toD (zD 0)) (zH (toD (zD 2)) zR))))
  (zAp (zAQ [4] (zAC (zH (toD (zD 2)) zR)) (gN 4) zAO (fOp kIx (zAZ (zH (toD (fOp zEy (fOp zAy (zD 4) (zD 7)) (zD 2))) (zH (toD (zD 7)) zR))) (fB zJk (zn (fOp kEq (zD 1) (fC (.int 7))) zAT)))))) zBB)
  (za (zAK 8 (ze zB1 (zH (toD (zD 0)) (zH (toD (zD 2)) zR))))
  (za (sIf (zD8 (tst (fOp kEq (zD 1) (fC (.int 6)))) (tst (fOp kEq (zD 3) (fC (.int 0))))) (za (zAK 9 (fOp kIx (zD 8) (ze zf (zH (toD (zD 0)) (zH (toD (zD 2)) zR)))))
  (zKN (zD 9) (zD 8) (ze zf (zH (toD (zD 0)) (zH (toD (zD 2)) zR))))) zBB)
  (zAp (zD 8))))))))))
noncomputable def zBg : FF := zCU 10 zDA
noncomputable def zCl : FS := (za (zAK 3 (ze zf (zH (toD (zD 0)) (zH (toD (fC (.int 8))) zR))))
  (za (zAK 4 (zAQ [5] (zAC (zH (toD (zD 2)) zR)) (gN 5) zAO (ze zBg (zH (toD (zD 0)) (zH (toD (zD 3)) (zH (toD (zD 1)) (zH (toD (zD 5)) zR)))))))
  (zAp (fB zBb (zn (zAQ [7] (zAC (zH (toD (zD 1)) zR)) (gN 7) zAO (fB zBb (zn (zAQ [6] (zAg (zD 4)) (gN 6) zAO (fOp kIx (zD 6) (zD 7))) zAT))) zAT)))))
noncomputable def zA0 : FF := zJc (zCU 8 zCl)
def Col (many : Int) (c : List Int) : Prop := (c.length : Int) = many /\ ∀ x ∈ c, 0 <= x /\ x < many
theorem zAb (h : P (.ref M.length) (M ++ [.lst xs])) : zGe P (.fl xs) M := h
theorem zAU (A : Mem) (u : MO) : (A ++ [u])[A.length]? = some u := by simp
theorem zRs (h : 0 < b) : zEy (.dat (.int a)) (.dat (.int b)) M = some (.dat (.int (a % b)), M) := zj (zFN.mpr ⟨h, rfl, rfl⟩)
theorem zF5 {M : Mem} {n k : Nat} (h : Gen M n k) {own : List Nat} {i : Nat} {f te : FE} {σ : Sd} {cnt lo hi : Int} (c0 : 0 <= cnt) (c1 : cnt <= 90000) (hf : f σ M = some (.dat (.int cnt), M))
  (ht : ∀ (r : Nat) (M' : Mem), (r : Int) < cnt -> Gen M' n k -> Ok (te ((zB4 own σ).set i (some (.int r))) M') fun x M'' => ∃ v : Int, x = .dat (.int v) /\ lo <= v /\ v < hi /\ Nx M' M'' n k) :
  Ok (zAQ own (zAC (zH (toD f) zR)) (gN i) zAO te σ M) fun x M' => (∃ c : List Int, x = .fl (c.map D.int) /\ (c.length : Int) = cnt /\ ∀ y ∈ c, lo <= y /\ y < hi) /\ Nx M M' n k := by
 refine zC5.mpr ⟨_, _, _, zBZ hf c0 (by omega), by rw [zBu]; exact zz (by omega), ?_⟩;refine Ok.mono (zKC (n := cnt.toNat) (I := fun j acc M2 => (∃ c : List Int, acc = c.map D.int /\ c.length = j /\ ∀ y ∈ c, lo <= y /\ y < hi) /\ Nx M M2 n k) ?_ ⟨⟨[], rfl, rfl, fun _ h => by cases h⟩, Nx.refl h⟩) ?_
 ·rintro j acc M2 hj ⟨⟨c, rfl, hcl, hc⟩, nx⟩;refine ⟨_, rfl, ?_⟩;refine Ok.mono (ht j M2 (by omega) nx.gen) ?_;rintro x M3 ⟨v, rfl, v0, v1, nx3⟩;rw [zU];refine ⟨⟨c ++ [v], by simp, by simp [hcl], fun z hz => ?_⟩, nx.trans nx3⟩;rcases zTE.mp hz with q | q
  ·exact hc z q
  ·have : z = v := by simpa using q
   subst this; exact ⟨v0, v1⟩
 ·rintro ys M2 ⟨⟨c, rfl, hcl, hc⟩, nx⟩;exact ⟨⟨c, rfl, by omega, hc⟩, nx⟩
theorem zRX (ha : a σ M = some (.dat x, M)) (hb : b σ M = some (.dat y, M)) : zAZ (zH (toD a) (zH (toD b) zR)) σ M = some (.fl [x, y], M) := by
 unfold zAZ; rw [zBm ha (zAk hb)]; dsimp only; rw [zS3 (zz (by simp))]
theorem zPu (hl : l σ M = some (.fl [x, y], M)) (ht : t σ M = some (.dat (.bl b), M)) : fOp kIx l (fB zJk (zn t zAT)) σ M = some (.dat (if b then y else x), M) := by
 have e : fB zJk (zn t zAT) σ M = some (.dat (.int (if b then 1 else 0)), M) := by unfold fB zn zAT; rw [ht]; rfl
 cases b with
 | true => exact zi hl e rfl
 | false => exact zi hl e rfl
theorem zLb (h : M[n]? = some (.lst xs)) (h0 : 0 <= i) (h1 : i.toNat <= xs.length) (hz : xs.length < 90000) : zDx (.dat (.ref n)) [.int i, d] M = some (.non, M.set n (.lst (xs.take i.toNat ++ [d] ++ xs.drop i.toNat))) := by
 unfold zDx; dsimp only; rw [h]; dsimp only; rw [zS3 ⟨h0, h1, zTD hz (zz (by omega))⟩]
theorem zOW (h : Gen M n k) (m0 : 0 < many) (m1 : many <= 1000) : Ok (zB1 [.ref n, .int many] M) fun d M' => ∃ j c, d = .ref j /\ M'[j]? = some (.lst (c.map D.int)) /\ Col many c /\ M.length <= j /\ Nw M M' n k /\ c.Perm ((List.range many.toNat).map fun (x : Nat) => (x : Int)) := by
 obtain ⟨hn, hk⟩ := h.lt;unfold zB1;rw [zAr];unfold zDq;show OkS (za _ _ [some (.ref n), some (.int many), none, none] M) _;rw [zY, zq];refine zKT.mpr (zCa.mpr ⟨zz (by simp), zAb ?_⟩);rw [zc, zY, zBQ];have nw1 := h.lst [] rfl;have e1 : (M ++ [MO.lst ([] : List D)])[M.length]? = some (.lst []) := zAU _ _;generalize M ++ [MO.lst ([] : List D)] = M1 at nw1 e1;show ∃ xs gd M2, zAC _ [some (.ref n), some (.int many), some (.ref M.length), none] M1 = some (xs, gd, M2) /\ _;refine ⟨_, _, _, zBZ rfl (by omega) (by omega), ?_⟩;refine zGZ (n := many.toNat) (I := fun i σ M' => (∃ y, σ = [some (.ref n), some (.int many), some (.ref M.length), y]) /\ ∃ c : List Int, M'[M.length]? = some (.lst (c.map D.int)) /\ c.length = i /\ (∀ x ∈ c, 0 <= x /\ x < many) /\ Nw M M' n k /\ c.Perm ((List.range i).map fun (x : Nat) => (x : Int))) ?_ ?_ _ _ ⟨⟨_, rfl⟩, [], e1, rfl, (fun _ h => by cases h), nw1, .refl _⟩
 ·rintro i σ M' hi ⟨⟨y, rfl⟩, c, ec, hcl, hc, nw, pm⟩;refine ⟨_, rfl, ?_⟩;show OkS (zAi _ [some (.ref n), some (.int many), some (.ref M.length), some (.int (i : Nat))] M') _;rw [zCQ];refine zJj.mpr (zAJ.mpr ⟨_, rfl, ⟨_, zBY ec⟩, zAw.mpr (zAn.mpr ?_)⟩);refine zAL nw.gen rfl (zi (x := .dat (.int (i : Nat))) rfl rfl rfl) (by omega) (by omega) fun q M2 q0 q1 nx => ?_;have ec2 := nx.nw.get ec (by omega) (by omega);rw [zU];refine zK (zAk (d := .int (i : Nat)) rfl) ?_;refine zK (zLb ec2 q0 (by rw [zSx]; omega) (by rw [zSx]; omega)) ?_;have hl : M.length < M2.length := (zSr.mp ec2).1;refine ⟨⟨_, rfl⟩, c.take q.toNat ++ [(i : Int)] ++ c.drop q.toNat, ?_, by simp; omega, fun x hx => ?_, ?_, ?_⟩
  ·rw [zTi hl];simp
  ·simp only [zTE, zTG] at hx;rcases hx with (w | w) | w
   ·exact hc x (List.mem_of_mem_take w)
   ·omega
   ·exact hc x (List.mem_of_mem_drop w)
  ·refine (nw.trans nx.nw).setB h (zSu _) ?_;show D.unds _ _ = true;rw [<- List.map_take, <- List.map_drop, zF9, zF9, zw, zw]; rfl
  ·rw [List.range_succ, zTg];refine List.Perm.trans ?_ (List.Perm.append_right _ pm);rw [zTu];refine List.Perm.trans (List.Perm.append_left _ List.perm_append_comm) ?_;rw [<- zTu, List.take_append_drop];exact .refl _
 ·rintro σ M' ⟨⟨y, rfl⟩, c, ec, hcl, hc, nw, pm⟩;rw [zc];exact zBR rfl ⟨M.length, c, rfl, ec, ⟨by omega, hc⟩, zSu _, nw, pm⟩
theorem zPX (h : Col many c) (hj : j < c.length) : 0 <= c.getD j 0 /\ c.getD j 0 < many := by
 rw [zSt, zSs hj]; exact h.2 _ (zTM hj)
theorem zOP (h : Col many c) (hj : j < c.length) : Col many (c.set i (c.getD j 0)) := by
 refine ⟨by rw [zVD]; exact h.1, fun x hx => ?_⟩;rcases List.mem_or_eq_of_mem_set hx with q | q
 ·exact h.2 x q
 ·rw [q, zSt, zSs hj]; exact h.2 _ (zTM hj)
theorem zL3 {M : Mem} {n k : Nat} (h : Gen M n k) {fam many let_ : Int} (m0 : 0 < many) (m1 : many <= 1000) :
  Ok (zBg [.ref n, .int fam, .int many, .int let_] M) fun d M' => ∃ j c, d = .ref j /\ M'[j]? = some (.lst (c.map D.int)) /\ Col many c /\ M.length <= j /\ Nw M M' n k := by
 obtain ⟨hn, hk⟩ := h.lt;unfold zBg;rw [zAr];unfold zDA;show OkS (za _ _ [some (.ref n), some (.int fam), some (.int many), some (.int let_), none, none, none, none, none, none] M) _;have isf : ∀ (j : Int) (σ : Sd) (M : Mem), σ[1]? = some (some (.int fam)) -> tst (fOp kEq (zD 1) (fC (.int j))) σ M = some (decide (fam = j), M) := fun j σ M e => by
  have v4 : zD 1 σ M = some (.dat (.int fam), M) := by unfold zD; rw [e]
  exact zA6 (zi v4 rfl (zj (zMN.mpr ⟨rfl, rfl⟩)))
 have isl : ∀ (σ : Sd) (M : Mem), σ[3]? = some (some (.int let_)) -> tst (fOp kEq (zD 3) (fC (.int 0))) σ M = some (decide (let_ = 0), M) := fun σ M e => by
  have v4 : zD 3 σ M = some (.dat (.int let_), M) := by unfold zD; rw [e]
  exact zA6 (zi v4 rfl (zj (zMN.mpr ⟨rfl, rfl⟩)))
 have andE : ∀ {a b : FT} {σ : Sd} {M : Mem} {x y : Bool}, a σ M = some (x, M) -> b σ M = some (y, M) -> zD8 a b σ M = some (x && y, M) := fun {a b σ M x y} ha hb => by
  unfold zD8; rw [ha]; cases x <;> first | exact hb | rfl
 have orE : ∀ {a b : FT} {σ : Sd} {M : Mem} {x y : Bool}, a σ M = some (x, M) -> b σ M = some (y, M) -> zIx a b σ M = some (x || y, M) := fun {a b σ M x y} ha hb => by
  unfold zIx; rw [ha]; cases x <;> first | exact hb | rfl
 have new : ∀ (A : Mem) (c' : List Int), Nw M A n k -> Col many c' -> ∃ j c, D.ref A.length = D.ref j /\ (A ++ [MO.lst (c'.map D.int)])[j]? = some (.lst (c.map D.int)) /\ Col many c /\ M.length <= j /\ Nw M (A ++ [MO.lst (c'.map D.int)]) n k := fun A c' nw hc' =>
  ⟨A.length, c', rfl, zAU _ _, hc', nw.len, nw.trans (nw.gen.lst _ (zw _ _))⟩
 rw [zY, zBH];refine zK (isf 0 _ _ rfl) ?_;by_cases w0 : fam = 0
 ·rw [zS3 (by simpa using w0), zAt];refine Ok.mono (zF5 h (cnt := many) (lo := 0) (hi := many) (by omega) (by omega) rfl fun r M' hr g => zAL g rfl rfl m0 (by omega) fun i M2 i0 i1 nx => ⟨i, rfl, i0, i1, nx⟩) ?_;rintro x M1 ⟨⟨c, rfl, hcl, hc⟩, nx⟩;refine zAb ?_;rw [zC8];exact new _ _ nx.nw ⟨hcl, hc⟩
 rw [zS6 (by simpa using w0), zA4, zc, zY, zBH];refine zK (isf 1 _ _ rfl) ?_;by_cases w1 : fam = 1
 ·rw [zS3 (by simpa using w1), zAt];refine Ok.mono (zF5 h (cnt := many) (lo := 0) (hi := many) (by omega) (by omega) rfl fun r M' hr g => ?_) ?_
  ·refine zAV.mpr (zAV.mpr (zAJ.mpr ⟨_, rfl, zAL g rfl rfl (by decide) (by decide) fun i M2 i0 i1 nx => zFC.mpr (zAJ.mpr ⟨_, rfl, zFN.mpr ⟨m0, _, rfl, Int.emod_nonneg _ (by omega), Int.emod_lt_of_pos _ m0, nx⟩⟩)⟩))
  rintro x M1 ⟨⟨c, rfl, hcl, hc⟩, nx⟩;refine zAb ?_;rw [zC8];exact new _ _ nx.nw ⟨hcl, hc⟩
 rw [zS6 (by simpa using w1), zA4, zc, zY, zBH];refine zK (isf 2 _ _ rfl) ?_;by_cases w2 : fam = 2
 ·rw [zS3 (by simpa using w2)];refine zEN (d := .int ((many + 1) / 2)) (zi (x := .dat (.int (many + 1))) (zi rfl rfl rfl) rfl (zj (zNc.mpr ⟨⟨by decide, by decide⟩, rfl, rfl⟩))) ?_;obtain ⟨h0, h1⟩ : 0 < (many + 1) / 2 /\ (many + 1) / 2 <= many := by omega
  generalize (many + 1) / 2 = half at h0 h1;rw [zY, zq];refine Ok.mono (zF5 h (cnt := half) (lo := 0) (hi := half) (by omega) (by omega) rfl fun r M' hr g => zAL g rfl rfl h0 (by omega) fun i M2 i0 i1 nx => ⟨i, rfl, i0, i1, nx⟩) ?_;rintro x M1 ⟨⟨c, rfl, hcl, hc⟩, nx⟩;refine zAb ?_;rw [zc, zAt];have nw2 := nx.nw.trans (nx.gen.lst (c.map D.int) (zw _ _));have e6 : (M1 ++ [MO.lst (c.map D.int)])[M1.length]? = some (.lst (c.map D.int)) := zAU _ _;have hj : M.length <= M1.length := nx.nw.len;generalize M1 ++ [MO.lst (c.map D.int)] = M2 at nw2 e6;generalize M1.length = j6 at e6 hj;show Ok (fOp _ _ _ [some (.ref n), some (.int fam), some (.int many), some (.int let_), none, some (.int half), some (.ref j6), none, none, none] M2) _;refine zAV.mpr (zAJ.mpr ⟨_, rfl, ?_⟩);refine Ok.mono (zF5 nw2.gen (cnt := many - half) (lo := half) (hi := many) (by omega) (by omega) (zi rfl rfl rfl) fun r M' hr g => ?_) ?_
  ·refine zAV.mpr (zAJ.mpr ⟨_, rfl, zAL g rfl (zi (x := .dat (.int many)) (y := .dat (.int half)) rfl rfl rfl) (by omega) (by omega) fun i M3 i0 i1 nx3 => zFC.mpr ⟨_, rfl, by omega, by omega, nx3⟩⟩)
  rintro x M3 ⟨⟨c3, rfl, hcl3, hc3⟩, nx3⟩;have e6' := nx3.nw.get e6 (by omega) (by omega);refine zQi (xs := c.map D.int) (ys := c3.map D.int) ?_ rfl (by simp; omega) (zAb ?_)
  ·unfold zKa; dsimp only; rw [e6']
  rw [zC8, <- zTg];refine new _ _ (nw2.trans nx3.nw) ⟨by simp; omega, fun x hx => ?_⟩;rcases zTE.mp hx with q | q
  ·have := hc x q; omega
  ·have := hc3 x q; omega
 rw [zS6 (by simpa using w2), zA4, zc, zY, zBH];refine zK (andE (isf 3 _ _ rfl) (isl _ _ rfl)) ?_;by_cases w3 : (decide (fam = 3) && decide (let_ = 0)) = true
 ·rw [zS3 w3, zAt];refine Ok.mono (zF5 h (cnt := many) (lo := 0) (hi := many) (by omega) (by omega) rfl fun r M' hr g => ?_) ?_
  ·exact zK (zi (x := .dat (.int ((r : Int) + 1))) (y := .dat (.int many)) (zi rfl rfl rfl) rfl (zRs m0)) ⟨_, rfl, Int.emod_nonneg _ (by omega), Int.emod_lt_of_pos _ m0, Nx.refl g⟩
  rintro x M1 ⟨⟨c, rfl, hcl, hc⟩, nx⟩;refine zAb ?_;rw [zC8];exact new _ _ nx.nw ⟨hcl, hc⟩
 rw [zS6 w3, zA4, zc, zY, zBH];refine zK (isf 3 _ _ rfl) ?_;by_cases w3' : fam = 3
 ·rw [zS3 (by simpa using w3'), zAt];refine Ok.mono (zF5 h (cnt := many) (lo := 0) (hi := many) (by omega) (by omega) rfl fun r M' hr g => ?_) ?_
  ·refine zK (zPu (b := decide ((r : Int) = many - 1)) (zRX (x := .int r) (y := .int 0) rfl rfl) (zi (x := .dat (.int r)) (y := .dat (.int (many - 1))) rfl (zi rfl rfl rfl) (zj (zMN.mpr ⟨rfl, rfl⟩)))) ?_;by_cases q : (r : Int) = many - 1
   ·rw [zTw q, zS3 rfl]; exact ⟨0, rfl, by omega, by omega, Nx.refl g⟩
   ·rw [zTN q, zS6 (by decide)]; exact ⟨r, rfl, by omega, by omega, Nx.refl g⟩
  rintro x M1 ⟨⟨c, rfl, hcl, hc⟩, nx⟩;refine zAb ?_;rw [zC8];exact new _ _ nx.nw ⟨hcl, hc⟩
 rw [zS6 (by simpa using w3'), zA4, zc, zY, zBH];refine zK (orE (isf 4 _ _ rfl) (isf 7 _ _ rfl)) ?_;by_cases w4 : (decide (fam = 4) || decide (fam = 7)) = true
 ·rw [zS3 w4, zY, zq];refine zAL h rfl rfl m0 (by omega) fun far M1 a0 a1 nx1 => ?_;rw [zU, zc, zAt];show Ok (zAQ _ _ _ _ _ [some (.ref n), some (.int fam), some (.int many), some (.int let_), none, none, none, some (.int far), none, none] M1) _;refine Ok.mono (zF5 nx1.gen (cnt := many) (lo := 0) (hi := many) (by omega) (by omega) rfl fun r M' hr g => ?_) ?_
  ·refine zK (zPu (b := decide (fam = 7)) (zRX (x := .int (((r : Int) + far) % many)) (y := .int far) (zi (x := .dat (.int ((r : Int) + far))) (y := .dat (.int many)) (zi rfl rfl rfl) rfl (zRs m0)) rfl) (zi (x := .dat (.int fam)) (y := .dat (.int 7)) rfl rfl (zj (zMN.mpr ⟨rfl, rfl⟩)))) ?_;by_cases q : fam = 7
   ·rw [zTw q, zS3 rfl]; exact ⟨far, rfl, a0, a1, Nx.refl g⟩
   ·rw [zTN q, zS6 (by decide)]; exact ⟨_, rfl, Int.emod_nonneg _ (by omega), Int.emod_lt_of_pos _ m0, Nx.refl g⟩
  rintro x M2 ⟨⟨c, rfl, hcl, hc⟩, nx⟩;refine zAb ?_;rw [zC8];exact new _ _ (nx1.trans nx).nw ⟨hcl, hc⟩
 rw [zS6 w4, zA4, zc, zY, zq];refine zCf.mpr (zK (zBm rfl (zAk rfl)) ?_);refine Ok.mono (zOW h m0 m1) ?_;rintro d M1 ⟨j, c, rfl, ej, cc, hj, nw1, _⟩;have cl := cc.1;rw [zU, zc, zY, zBH];refine zK (andE (isf 6 _ _ rfl) (isl _ _ rfl)) ?_;by_cases w6 : (decide (fam = 6) && decide (let_ = 0)) = true
 ·rw [zS3 w6, zY, zq];refine zAV.mpr (zAJ.mpr ⟨_, rfl, zAL nw1.gen rfl rfl m0 (by omega) fun p M2 p0 p1 nx2 => ?_⟩);have ej2 := nx2.nw.get ej (by omega) (by omega);refine zN2 (zAa ej2) (zKK p0 (by omega)) ?_;rw [zU, zc, zH9];refine zAJ.mpr ⟨_, rfl, ?_⟩;rw [zU];refine zAJ.mpr ⟨_, rfl, zAL nx2.gen rfl rfl m0 (by omega) fun q M3 q0 q1 nx3 => ?_⟩;have ej3 := nx3.nw.get ej2 (by omega) (by omega);rw [zU];have eq' : q = ((q.toNat : Nat) : Int) := by omega
  refine ⟨M3.set j (.lst ((c.map D.int).set q.toNat (.int (c.getD p.toNat 0)))), ?_, ?_⟩
  ·have := zFq (k := q.toNat) (d := .int (c.getD p.toNat 0)) ej3 (by rw [zSx]; omega);rw [<- eq'] at this; exact this
  rw [zc];refine zBR rfl ⟨j, c.set q.toNat (c.getD p.toNat 0), rfl, ?_, zOP cc (by omega), hj, ?_⟩
  ·rw [zTi (zSr.mp ej3).1, List.map_set]
  ·refine ((nw1.trans nx2.nw).trans nx3.nw).setB h hj ?_;show D.unds _ _ = true;rw [<- List.map_set]; exact zw _ _
 ·rw [zS6 w6, zA4, zc];exact zBR rfl ⟨j, c, rfl, ej, cc, hj, nw1⟩
def zDG (many : Int) (cs : List (List Int)) : List (List Int) := (List.range many.toNat).map fun r => cs.map fun c => c.getD r 0
theorem zLi (h0 : 0 < many) (hc : ∀ c ∈ cs, Col many c) (hl : 0 < cs.length) : IsM (zDG many cs) cs.length := by
 have hlen : (zDG many cs).length = many.toNat := by unfold zDG; simp
 refine ⟨by omega, hl, fun r hr => ?_⟩;rw [hlen];unfold zDG at hr;obtain ⟨k, hk, rfl⟩ := zS5.mp hr;refine ⟨by simp, fun g hg => ?_⟩;obtain ⟨c, hcm, rfl⟩ := zS5.mp hg;have := hc c hcm;have h1 := this.1;have := zPX this (j := k) (by have := zTS.mp hk; omega);omega
def zNi (M : Mem) (lo : Nat) (many : Int) (js : List Nat) (cs : List (List Int)) : Prop := js.length = cs.length /\ ∀ (i : Nat) j c, js[i]? = some j -> cs[i]? = some c -> lo <= j /\ M[j]? = some (.lst (c.map D.int)) /\ Col many c
theorem zKL (h : Gen M n k) (hm : 0 < many) (hm1 : many <= 900) (hl : 0 < lm) (hl1 : lm <= 900) :
  Ok (zA0 [.ref n, .int many, .int lm] M) fun d M' => (∃ zA l, d = mD zA /\ IsM zA l /\ (zA.length : Int) = many /\ (l : Int) = lm) /\ Nw M M' n k := by
 obtain ⟨hn, hk⟩ := h.lt;unfold zA0;refine zPd ?_;rw [zAr];unfold zCl;show OkS (za _ _ [some (.ref n), some (.int many), some (.int lm), none, none, none, none, none] M) _;rw [zY, zq];refine zAL h rfl rfl (by decide) (by decide) fun fam M1 f0 f1 nx1 => ?_;rw [zU, zc, zY, zq];show Ok (zAQ _ _ _ _ _ [some (.ref n), some (.int many), some (.int lm), some (.int fam), none, none, none, none] M1) _;refine zC5.mpr ⟨_, _, _, zBZ (j := lm) rfl (by omega) (by omega), by rw [zBu]; exact zz (by omega), ?_⟩;refine Ok.mono (zKC (n := lm.toNat) (I := fun i acc M' => ∃ (js : List Nat) (cs : List (List Int)), acc = js.map D.ref /\ zNi M' M.length many js cs /\ cs.length = i /\ Nw M M' n k) ?_ ⟨[], [], rfl, ⟨rfl, fun i j c h => by simp at h⟩, rfl, nx1.nw⟩) ?_
 ·rintro i acc M' hi ⟨js, cs, rfl, hcs, hcl, nw⟩;refine ⟨_, rfl, ?_⟩;refine zCf.mpr (zK (zBm (d := .ref n) rfl (zBm (d := .int fam) rfl (zBm (d := .int many) rfl (zAk (d := .int (i : Nat)) rfl)))) ?_);refine Ok.mono (zL3 nw.gen hm (by omega)) ?_;rintro d M2 ⟨j, c, rfl, ec, cc, hj, nw2⟩;have hle := nw.len;rw [zU];refine ⟨js ++ [j], cs ++ [c], by simp, ⟨by simp [hcs.1], fun a b c' h1 h2 => ?_⟩, by simp [hcl], nw.trans nw2⟩;by_cases ha : a < js.length
  ·rw [zSv ha] at h1;rw [zSv (by rw [<- hcs.1]; exact ha)] at h2;obtain ⟨q1, q2, q3⟩ := hcs.2 a b c' h1 h2;exact ⟨q1, nw2.get q2 (by omega) (by omega), q3⟩
  ·have ha' : a = js.length := by
    have := (zSr.mp h1).1;simp at this; omega
   subst ha';rw [zTy (zSu _)] at h1;rw [zTy (by rw [hcs.1]; exact zSu _)] at h2;simp at h1;rw [hcs.1] at h2;simp at h2;subst h1 h2;exact ⟨by omega, ec, cc⟩
 ·rintro ys M2 ⟨js, cs, rfl, hcs, hcl, nw⟩;refine zAb ?_;rw [zc];have hju : D.unds M2.length (js.map D.ref) = true := zGN fun z hz => by
   obtain ⟨b, hb, rfl⟩ := zS5.mp hz;obtain ⟨i, hi, rfl⟩ := List.mem_iff_getElem.mp hb;have hi' : i < cs.length := by rw [<- hcs.1]; exact hi
   obtain ⟨_, q2, _⟩ := hcs.2 i js[i] cs[i] (zSs hi) (zSs hi');simp [D.und, (zSr.mp q2).1]
  have nwA := nw.trans (nw.gen.lst (js.map D.ref) hju);have eA : (M2 ++ [MO.lst (js.map D.ref)])[M2.length]? = some (.lst (js.map D.ref)) := zAU _ _;have hA : zNi (M2 ++ [MO.lst (js.map D.ref)]) M.length many js cs := ⟨hcs.1, fun i j c h1 h2 => by
   obtain ⟨q1, q2, q3⟩ := hcs.2 i j c h1 h2;exact ⟨q1, by rw [zSv (zSr.mp q2).1]; exact q2, q3⟩⟩
  generalize M2 ++ [MO.lst (js.map D.ref)] = A at nwA eA hA;generalize M2.length = j at eA;show OkS (zAp _ [some (.ref n), some (.int many), some (.int lm), some (.int fam), some (.ref j), none, none, none] A) _;have hcol : ∀ c ∈ cs, Col many c := fun c hc => by
   obtain ⟨i, hi, rfl⟩ := List.mem_iff_getElem.mp hc;exact (hA.2 i (js[i]'(by rw [hA.1]; exact hi)) cs[i] (zSs _) (zSs _)).2.2
  have hlen : (zDG many cs).length = many.toNat := by unfold zDG; simp
  refine zBR (d := mD (zDG many cs)) ?_ ⟨⟨zGQ _, nwA.len, nwA.wf0 h⟩, ⟨zDG many cs, cs.length, rfl, zLi hm hcol (by omega), by omega, by omega⟩, nwA.trim h⟩;refine (zEi (zDa (List.range many.toNat) (fun k => D.int k) (fun k => .tup ((cs.map fun c => c.getD k 0).map D.int)) (zMF (f := zD 1) rfl (by omega) (by omega)) trivial (by simp; omega) fun r hr => ⟨_, rfl, ?_⟩) zDg).trans ?_
  ·have hr' := zTS.mp hr;refine (zEi (zDa (gd := zEo (.dat (.ref j)) (js.map D.ref)) (List.range js.length) (fun i => D.ref (js.getD i 0)) (fun i => .int ((cs.getD i []).getD r 0)) ?_ ?_ (by rw [List.length_range, hA.1, hcl]; omega) fun i hi => ⟨_, rfl, ?_⟩) zDg).trans ?_
   ·rw [show ((List.range js.length).map fun i => D.ref (js.getD i 0)) = js.map D.ref by
     apply List.ext_getElem
     ·simp
     ·intro i h1 h2;simp at h1;simp [h1]]
    exact zEY (x := .dat (.ref j)) rfl (zAa eA)
   ·exact .inl eA
   ·have hi' := zTS.mp hi;have hc' : i < cs.length := by rw [<- hA.1]; exact hi'
    have ej' : js[i]? = some (js.getD i 0) := by rw [zSt, zSs hi']; rfl
    have ec' : cs[i]? = some (cs.getD i []) := by rw [zSt, zSs hc']; rfl
    obtain ⟨_, q2, q3⟩ := hA.2 i _ _ ej' ec';have hz := q3.1;exact zi (x := .dat (.ref (js.getD i 0))) (y := .dat (.int (r : Nat))) rfl rfl (zD5 (zAa q2) (zKK (by omega) (by omega)))
   ·congr 3;rw [zTC];refine congrArg D.tup ?_;apply List.ext_getElem
    ·simp [hA.1]
    ·intro i h1 h2;simp at h1 h2;have h2' : i < cs.length := h2;simp [h2']
  ·unfold mD zDG; rw [zTC]; rfl
noncomputable def zDc : FS := (zAp (zK7 (fB zBp (zn (zD 0) zAT))))
noncomputable def zBA : FF := zCU 1 zDc
noncomputable def zEH : FS := (zAp (zE4 [1, 2] [2] (zAg (zD 0)) (gN 1) zAO (zAg (zD 0)) (gN 2) (tst (fOp kLt (zD 1) (zD 2))) (zFA (zH (toD (zD 1)) (zH (toD (zD 2)) zR)))))
noncomputable def zA9 : FF := zCU 3 zEH
theorem zIo {α : Type} (enc out : α -> D) (keep : α -> Bool) : ∀ (as : List α), (∀ a ∈ as, ∃ σ1, g (enc a) σ = some σ1 /\ tc σ1 M = some (keep a, M) /\ (keep a = true -> te σ1 M = some (.dat (out a), M))) -> zAx g tc te σ all none (as.map enc) M = some ((as.filter keep).map out, M)
 | [], _ => by
  rw [List.map_nil];unfold zAx;rw [zS3 (show zA3 none all M from trivial)]; rfl
 | a :: r, h => by
  obtain ⟨σ1, e1, e2, e3⟩ := h a zS2;have ih := zIo (all := all) (σ := σ) enc out keep r fun b hb => h b (zS1 _ hb);rw [zS7];unfold zAx;rw [zS3 (show zA3 none all M from trivial), e1];dsimp only;rw [e2];cases hk : keep a with
  | false =>
   dsimp only;rw [ih, List.filter_cons_of_neg (by simp [hk])]
  | true =>
   dsimp only;rw [show toD te σ1 M = some (out a, M) by unfold toD; rw [e3 hk]];dsimp only;rw [ih, List.filter_cons_of_pos hk];rfl
theorem zON {α β : Type} (as : List α) (enc : α -> D) (bs : α -> List β) (enc2 : β -> D) (keep : α -> β -> Bool) (out : α -> β -> D) (B : Nat)
  (hi : fi σ M = some (as.map enc, none, M)) (hB : ∀ a ∈ as, (bs a).length <= B) (hz : as.length * B <= 90000)
  (he : ∀ a ∈ as, ∃ σ1, fg (enc a) (zB4 own σ) = some σ1 /\ fi2 σ1 M = some ((bs a).map enc2, none, M) /\ ∀ b ∈ bs a, ∃ σ2, fg2 (enc2 b) (zB4 own2 σ1) = some σ2 /\ tc2 σ2 M = some (keep a b, M) /\ (keep a b = true -> te σ2 M = some (.dat (out a b), M))) :
  zE4 own own2 fi fg zAO fi2 fg2 tc2 te σ M = some (.fl (as.flatMap fun a => ((bs a).filter (keep a)).map (out a)), M) := by
 have key : ∀ (r : List α) (acc : List D), (∀ a ∈ r, a ∈ as) -> acc.length + r.length * B <= 90000 -> zIU fg zAO fi2 own2 fg2 tc2 te (zB4 own σ) (as.map enc) none (r.map enc) acc M = some (acc ++ r.flatMap fun a => ((bs a).filter (keep a)).map (out a), M) := by
  intro r;induction r with
  | nil =>
   intro acc _ _;rw [List.map_nil];unfold zIU;rw [zS3 (show zA3 none (as.map enc) M from trivial)]; simp
  | cons a r ih =>
   intro acc hs hl;have ha := hs a zS2;obtain ⟨σ1, e1, e2, e3⟩ := he a ha;have hb := hB a ha;have hlen : (((bs a).filter (keep a)).map (out a)).length <= (bs a).length := by rw [zSx]; exact zVE _ _
   rw [zTL, Nat.add_mul] at hl;rw [zS7];unfold zIU;rw [zS3 (show zA3 none (as.map enc) M from trivial), e1];dsimp only;rw [show zAO σ1 M = some (true, M) from rfl];dsimp only;rw [e2];dsimp only;rw [zS3 (zz (by rw [zSx]; omega)), zIo enc2 (out a) (keep a) (bs a) e3];dsimp only;rw [ih _ (fun b hb => hs b (zS1 _ hb)) (by rw [zS4]; omega)];rw [List.flatMap_cons, zTu]
 unfold zE4;rw [hi];dsimp only;rw [key as [] (fun _ h => h) (by simpa using hz)];simp
def zZ (xs : List Int) : List (List Int) := xs.flatMap fun a => (xs.filter fun b => decide (a < b)).map fun b => [a, b]
theorem zJO (hz : xs.length <= 200) : zA9 [tI xs] M = some (.ref M.length, M ++ [.lst ((zZ xs).map tI)]) := by
 suffices h : Ok (zA9 [tI xs] M) fun d M' => d = .ref M.length /\ M' = M ++ [.lst ((zZ xs).map tI)] by
  obtain ⟨d, M', e, rfl, rfl⟩ := h; exact e
 unfold zA9;rw [zAr];unfold zEH;rw [zAt];have hq : xs.length * xs.length <= 90000 := zTF (zUW hz hz) (by decide);refine zK (zON xs D.int (fun _ => xs) D.int (fun a b => decide (a < b)) (fun a b => tI [a, b]) xs.length (zII rfl) (fun _ _ => zSu _) hq fun a ha => ⟨_, rfl, zII rfl, fun b hb => ⟨_, rfl, ?_, fun _ => ?_⟩⟩) (zAb ⟨rfl, ?_⟩)
 ·exact zA6 (zi (x := .dat (.int a)) (y := .dat (.int b)) rfl rfl (zj (zRU.mpr ⟨rfl, rfl⟩)))
 ·unfold zFA;rw [zBm (d := .int a) rfl (zAk (d := .int b) rfl)];dsimp only;rw [zS3 (zz (by simp))]; rfl
 ·congr 3;unfold zZ;rw [List.map_flatMap];congr 1;funext a;rw [zTC]; rfl
theorem zAo : p ∈ zZ xs ↔ ∃ a b, p = [a, b] /\ a ∈ xs /\ b ∈ xs /\ a < b := by
 unfold zZ;rw [List.mem_flatMap];constructor
 ·rintro ⟨a, ha, h⟩;obtain ⟨b, hb, rfl⟩ := zS5.mp h;obtain ⟨h1, h2⟩ := zTz.mp hb;exact ⟨a, b, rfl, ha, h1, zTk h2⟩
 ·rintro ⟨a, b, rfl, ha, hb, hlt⟩;exact ⟨a, ha, zS5.mpr ⟨b, zTz.mpr ⟨hb, zTw hlt⟩, rfl⟩⟩
theorem zIq (hz : zA.length <= 1000) : zBA [mD zA] M = some (tI ((List.range zA.length).map fun (k : Nat) => (k : Int)), M) := by
 refine zj ?_;unfold zBA;rw [zAr];unfold zDc;refine zBR (d := tI ((List.range zA.length).map fun (k : Nat) => (k : Int))) ?_ ⟨rfl, rfl⟩;unfold zK7;rw [show fB zBp (zn (zD 0) zAT) ([mD zA].map some ++ List.replicate (1 - [mD zA].length) none) M = some (.dat (.int zA.length), M) from zGh rfl];dsimp only;rw [zS3 ⟨by omega, by omega⟩];unfold upD tI;rw [zTC, show (zA.length : Int).toNat = zA.length by omega]; rfl
def zIJ (g : List Int) : List Key := g.map Sum.inl
theorem zJE : ∀ {a b : List Int}, zIJ a = zIJ b -> a = b
 | [], [], _ => rfl
 | [], _ :: _, h => by cases h
 | _ :: _, [], h => by cases h
 | x :: a, y :: b, h => by
  have h1 := (zTs h).1;have h2 := zJE (zTs h).2;cases h1; rw [h2]
theorem zFu : ∀ g : List Int, zFo (g.map D.int) = some (zIJ g)
 | [] => rfl
 | x :: r => by
  rw [zS7];unfold zFo;rw [zFu r];rfl
theorem zEp (g : List Int) : tkD (tI g) = some (zIJ g) := zFu g
abbrev zCx (T : List (List Int × D)) : List (D × D) := T.map fun q => (tI q.1, q.2)
abbrev dT (T : List (List Int × D)) : MO := .dicT (zCx T)
def zL : List (List Int × D) -> List Int -> Option D
 | [], _ => none
 | q :: r, g => if q.1 = g then some q.2 else zL r g
def zB2 (T : List (List Int × D)) (g : List Int) (v : D) : List (List Int × D) := match zL T g with
 | some _ => T.map fun q => if q.1 = g then (q.1, v) else q
 | none => T ++ [(g, v)]
theorem zHv (a g : List Int) : decide (tkD (tI a) = some (zIJ g)) = decide (a = g) := by
 rw [zEp];by_cases h : a = g
 ·subst h; simp
 ·rw [zTN h, zTN];intro e;exact h (zJE (zTo e))
theorem zJr (g : List Int) : ∀ T : List (List Int × D), zDY tkD (zCx T) (zIJ g) = zL T g
 | [] => rfl
 | q :: r => by
  have ih := zJr g r;unfold zDY at ih ⊢;unfold zCx at ih ⊢;rw [zS7, zUg];dsimp only;rw [zHv];unfold zL;by_cases h : q.1 = g
  ·rw [zTw h, zS3 h]; rfl
  ·rw [zTN h, zS6 h]; exact ih
theorem zP7 (g : List Int) : ∀ T : List (List Int × D), ((zCx T).any fun p => decide (tkD p.1 = some (zIJ g))) = (zL T g).isSome
 | [] => rfl
 | q :: r => by
  have ih := zP7 g r;unfold zCx at ih ⊢;rw [zS7, List.any_cons, zHv];unfold zL;by_cases h : q.1 = g
  ·rw [zTw h, zS3 h]; rfl
  ·rw [zTN h, zS6 h, Bool.false_or]; exact ih
theorem zP6 (T : List (List Int × D)) (g : List Int) (v : D) : zGo tkD (zCx T) (zIJ g) (tI g) v = zCx (zB2 T g v) := by
 unfold zGo zB2;rw [zP7];cases h : zL T g with
 | none =>
  rw [zS6 (by simp)];unfold zCx; rw [zTg]; rfl
 | some d =>
  rw [zS3 (by simp)];unfold zCx;dsimp only;rw [zTC, zTC];apply List.map_congr_left;intro q _;show (if tkD (tI q.1) = some (zIJ g) then (tI q.1, v) else (tI q.1, q.2)) = (tI (if q.1 = g then (q.1, v) else q).1, (if q.1 = g then (q.1, v) else q).2);have hd := zHv q.1 g;by_cases hq : q.1 = g
  ·rw [zTw hq] at hd;rw [zS3 (zTk hd), zS3 hq]
  ·rw [zTN hq] at hd;rw [zS6 (of_decide_eq_false hd), zS6 hq]
theorem zCp (T : List (List Int × D)) (g h : List Int) (v : D) : zL (zB2 T g v) h = if g = h then some v else zL T h := by
 have app : ∀ (T : List (List Int × D)), zL T g = none -> zL (T ++ [(g, v)]) h = if g = h then some v else zL T h := by
  intro T;induction T with
  | nil => intro _; rfl
  | cons q r ih =>
   intro e;unfold zL at e;by_cases hq : q.1 = g
   ·rw [zS3 hq] at e; cases e
   ·rw [zS6 hq] at e;show (if q.1 = h then some q.2 else zL (r ++ [(g, v)]) h) = if g = h then some v else if q.1 = h then some q.2 else zL r h
    rw [ih e];by_cases h1 : q.1 = h
    ·rw [zS3 h1, zS3 h1, zS6 (fun z => hq (h1.trans z.symm))]
    ·rw [zS6 h1, zS6 h1]
 have mp : ∀ (T : List (List Int × D)), (zL T g).isSome = true -> zL (T.map fun q => if q.1 = g then (q.1, v) else q) h = if g = h then some v else zL T h := by
  intro T;by_cases hgh : g = h
  ·subst hgh;induction T with
   | nil => intro e; cases e
   | cons q r ih =>
    intro e;rw [zS7];unfold zL;by_cases hq : q.1 = g
    ·rw [zS3 hq]; simp [hq]
    ·rw [zS6 hq, zS6 hq];unfold zL at e;rw [zS6 hq] at e;rw [ih e, zS3 rfl, zS3 rfl]
  ·intro hx;clear hx;rw [zS6 hgh];clear app;induction T with
   | nil => rfl
   | cons q r ih =>
    rw [zS7];unfold zL;by_cases hq : q.1 = g
    ·have : ¬ q.1 = h := fun z => hgh (hq.symm.trans z);rw [zS3 hq];show (if q.1 = h then some v else _) = _;rw [zS6 this, zS6 this]; exact ih
    ·rw [zS6 hq];by_cases h1 : q.1 = h
     ·rw [zS3 h1, zS3 h1]
     ·rw [zS6 h1, zS6 h1]; exact ih
 unfold zB2;cases e : zL T g with
 | none => exact app T e
 | some d => exact mp T (by rw [e]; rfl)
theorem zF1 (T : List (List Int × D)) (g : List Int) (v : D) : (zB2 T g v).length <= T.length + 1 := by
 unfold zB2;cases zL T g with
 | none => simp
 | some d => simp
section
variable {M : Mem} {n : Nat} {T : List (List Int × D)} {g : List Int}
theorem dgT (h : M[n]? = some (dT T)) : zFO M (.dat (.ref n)) (tI g) = some (zL T g) := by
 unfold zFO; dsimp only; rw [h]; dsimp only; rw [zEp]; dsimp only; rw [zJr]
theorem zNm (h : M[n]? = some (dT T)) : zCD neg (.dat (tI g)) (.dat (.ref n)) M = some (.dat (.bl (if neg then !(zL T g).isSome else (zL T g).isSome)), M) := by
 unfold zCD; dsimp only; rw [dgT h]
theorem zP8 (h : M[n]? = some (dT T)) (hd : zL T g = some d) : zCK (.dat (.ref n)) (.dat (tI g)) M = some (.dat d, M) := by
 unfold zCK; dsimp only; rw [dgT h, hd]
theorem zLD (h : M[n]? = some (dT T)) (hz : T.length < 90000) : zFH M n (tI g) v = some (M.set n (dT (zB2 T g v))) := by
 unfold zFH; rw [h]; dsimp only; rw [zEp]; dsimp only; rw [zS3 (by rw [zSx]; exact zTD hz (zz (by omega))), zP6]
end
noncomputable def zDV : FS := (za (zAK 1 zGS)
  (za (zB3 (zAg (ze zA9 (zH (toD (ze zBA (zH (toD (zD 0)) zR))) zR))) (gN 2) (zB3 (zAC (zH (toD (fB zBp (zn (fOp kIx (zD 0) (fC (.int 0))) zAT))) zR)) (gN 3) (za (zAK 4 (ze zCG (zH (toD (zD 0)) (zH (toD (zD 2)) (zH (toD (zD 3)) zR)))))
  (za (sIf (tst (fOp (zCD true) (zD 4) (zD 1))) (zBc (zAZ zR) (zD 1) (zD 4)) zBB)
  (zAi (fM z0 (fOp zCK (zD 1) (zD 4)) (zH (toD (zD 2)) zR)))))))
  (zAp (zD 1))))
noncomputable def zBy : FF := zCU 5 zDV
def zAd (zA : List (List Int)) (ps : List (List Int × Int)) (g : List Int) : List (List Int) := (ps.filter fun q => decide (setR zA q.1 q.2 = g)).map (·.1)
theorem zDI (zA : List (List Int)) (ps : List (List Int × Int)) (p : List Int) (x : Int) (g : List Int) : zAd zA (ps ++ [(p, x)]) g = zAd zA ps g ++ (if setR zA p x = g then [p] else []) := by
 unfold zAd;rw [List.filter_append, zTg];congr 1;by_cases h : setR zA p x = g
 ·rw [zS3 h, List.filter_cons_of_pos (by simpa using h)]; rfl
 ·rw [zS6 h, List.filter_cons_of_neg (by simpa using h)]; rfl
structure Sr (zA : List (List Int)) (M : Mem) (jd lo : Nat) (ps : List (List Int × Int)) : Prop where
 ex : ∃ T : List (List Int × D), M[jd]? = some (dT T) /\ T.length <= ps.length /\ (∀ g d, zL T g = some d -> ∃ j, d = .ref j /\ lo < j /\ M[j]? = some (.lst ((zAd zA ps g).map tI))) /\ (∀ g, zL T g = none -> zAd zA ps g = []) /\ ∀ g g' j, zL T g = some (.ref j) -> zL T g' = some (.ref j) -> g = g'
theorem zLs {zA : List (List Int)} {l : Nat} (m : IsM zA l) (hR : zA.length < 64) {M : Mem} {jd lo : Nat} {ps : List (List Int × Int)} (hps : ps.length < 50000) (hlo : jd < lo) (hlo2 : lo < M.length) (sr : Sr zA M jd lo ps) {p : List Int} (hp : IsS zA p) {x : Int} (x0 : 0 <= x) (x1 : x < l) {y4 : Option D} :
  OkS (za (zAK 4 (ze zCG (zH (toD (zD 0)) (zH (toD (zD 2)) (zH (toD (zD 3)) zR))))) (za (sIf (tst (fOp (zCD true) (zD 4) (zD 1))) (zBc (zAZ zR) (zD 1) (zD 4)) zBB) (zAi (fM z0 (fOp zCK (zD 1) (zD 4)) (zH (toD (zD 2)) zR)))) [some (mD zA), some (.ref jd), some (tI p), some (.int x), y4] M)
   fun o σ' M' => o = .nx /\ (∃ y, σ' = [some (mD zA), some (.ref jd), some (tI p), some (.int x), y]) /\ Sr zA M' jd lo (ps ++ [(p, x)]) /\ M.length <= M'.length /\ ∀ j, j <= lo -> j ≠ jd -> M'[j]? = M[j]? := by
 obtain ⟨T, ed, hT, h1, h2, h3⟩ := sr.ex;refine zEN (zBv (zBm rfl (zBm rfl (zAk rfl))) (zOw m hR hp x0 x1)) ?_;generalize hg : setR zA p x = goal;show OkS (za _ _ [some (mD zA), some (.ref jd), some (tI p), some (.int x), some (tI goal)] M) _;rw [zY, zBH];refine zK (M := M) (a := !(zL T goal).isSome) (zA6 (zi (x := .dat (tI goal)) (y := .dat (.ref jd)) rfl rfl (zNm ed))) ?_
 have last : ∀ (A : Mem) (T' : List (List Int × D)) (j : Nat), A[jd]? = some (dT T') -> zL T' goal = some (.ref j) -> lo < j -> A[j]? = some (.lst ((zAd zA ps goal).map tI)) -> T'.length <= ps.length + 1 -> M.length <= A.length -> (∀ j, j <= lo -> j ≠ jd -> A[j]? = M[j]?) ->
   (∀ g d, zL T' g = some d -> ∃ j, d = .ref j /\ lo < j /\ A[j]? = some (.lst ((zAd zA ps g).map tI))) -> (∀ g, zL T' g = none -> zAd zA ps g = []) -> (∀ g g' j, zL T' g = some (.ref j) -> zL T' g' = some (.ref j) -> g = g') ->
   OkS (zAi (fM z0 (fOp zCK (zD 1) (zD 4)) (zH (toD (zD 2)) zR)) [some (mD zA), some (.ref jd), some (tI p), some (.int x), some (tI goal)] A)
    fun o σ' M' => o = .nx /\ (∃ y, σ' = [some (mD zA), some (.ref jd), some (tI p), some (.int x), y]) /\ Sr zA M' jd lo (ps ++ [(p, x)]) /\ M.length <= M'.length /\ ∀ j, j <= lo -> j ≠ jd -> M'[j]? = M[j]? := by
  intro A T' j ea el hj ej hz hle hfr k1 k2 k3;rw [zCQ];have hfl : (zAd zA ps goal).length <= ps.length := by unfold zAd; rw [zSx]; exact zVE _ _
  have jl : j < A.length := (zSr.mp ej).1;refine zJj.mpr (zK (zi (x := .dat (.ref jd)) (y := .dat (tI goal)) rfl rfl (zP8 ea el)) ⟨⟨_, zBY ej⟩, zK (zAk (d := tI p) rfl) ?_⟩);rw [zEP ej (by rw [zSx]; exact zTD (m := 95000) (by omega) (zz (by omega)))];refine ⟨rfl, ⟨_, rfl⟩, ⟨T', by rw [zTI (by omega)]; exact ea, by simpa using hz, fun g d hd => ?_, fun g hd => ?_, k3⟩, by simpa using hle, fun i hi hn => by rw [zTI (by omega)]; exact hfr i hi hn⟩
  ·obtain ⟨j', rfl, hj', ej'⟩ := k1 g d hd;refine ⟨j', rfl, hj', ?_⟩;rw [zDI, hg];by_cases hgg : goal = g
   ·subst hgg;rw [el] at hd;cases hd;rw [zTi jl, zS3 rfl, zTg]; rfl
   ·rw [zS6 hgg, zTY];have : j ≠ j' := fun z => hgg (k3 goal g j el (by rw [z]; exact hd));rw [zTI this]; exact ej'
  ·rw [zDI, hg, zS6 (fun z => by rw [<- z, el] at hd; cases hd), zTY];exact k2 g hd
 cases hl : zL T goal with
 | some d =>
  obtain ⟨j, rfl, hj, ej⟩ := h1 goal d hl;rw [zS6 (by simp), zA4, zc];exact last M T j ed hl hj ej (by omega) (zSu _) (fun _ _ _ => rfl) h1 h2 h3
 | none =>
  rw [zS3 (by simp)];have e0 := h2 goal hl;have jdl : jd < M.length := (zSr.mp ed).1;have ed' : (M ++ [MO.lst ([] : List D)])[jd]? = some (dT T) := by rw [zSv jdl]; exact ed
  refine ⟨.nx, [some (mD zA), some (.ref jd), some (tI p), some (.int x), some (tI goal)], (M ++ [MO.lst ([] : List D)]).set jd (dT (zB2 T goal (.ref M.length))), ?_, ?_⟩
  ·unfold zBc;rw [show toD (zAZ zR) [some (mD zA), some (.ref jd), some (tI p), some (.int x), some (tI goal)] M = some (.ref M.length, M ++ [.lst []]) by
    unfold toD zAZ zR; dsimp only; rw [zS3 (zz (by simp))]]
   dsimp only;rw [show toD (zD 1) [some (mD zA), some (.ref jd), some (tI p), some (.int x), some (tI goal)] (M ++ [.lst []]) = some (.ref jd, M ++ [.lst []]) from rfl];dsimp only;rw [show toD (zD 4) [some (mD zA), some (.ref jd), some (tI p), some (.int x), some (tI goal)] (M ++ [.lst []]) = some (tI goal, M ++ [.lst []]) from rfl];dsimp only;rw [zLD ed' (by omega)]
  rw [zc];have hput := fun g => zCp T goal g (.ref M.length);refine last _ (zB2 T goal (.ref M.length)) M.length (zTi (by simp; omega)) (by rw [hput, zS3 rfl]) hlo2 ?_ (by have := zF1 T goal (.ref M.length); omega) (by simp) (fun i hi hn => ?_) (fun g d hd => ?_) (fun g hd => ?_) (fun g g' j hd hd' => ?_)
  ·rw [zTI (by omega), e0]; simp
  ·rw [zTI (Ne.symm hn), zSv (by omega)]
  ·rw [hput] at hd;by_cases hgg : goal = g
   ·subst hgg;rw [zS3 rfl] at hd;cases hd;exact ⟨M.length, rfl, hlo2, by rw [zTI (by omega), e0]; simp⟩
   ·rw [zS6 hgg] at hd;obtain ⟨j, rfl, hj, ej⟩ := h1 g d hd;exact ⟨j, rfl, hj, by rw [zTI (by omega), zSv (zSr.mp ej).1]; exact ej⟩
  ·rw [hput] at hd;by_cases hgg : goal = g
   ·rw [zS3 hgg] at hd; cases hd
   ·rw [zS6 hgg] at hd; exact h2 g hd
  ·rw [hput] at hd hd';by_cases a : goal = g
   ·by_cases b : goal = g'
    ·rw [<- a, <- b]
    ·rw [zS3 a] at hd;rw [zS6 b] at hd';cases hd;obtain ⟨j, e, _, ej⟩ := h1 g' _ hd';cases e;exact absurd (zSr.mp ej).1 (zTW _)
   ·rw [zS6 a] at hd;by_cases b : goal = g'
    ·rw [zS3 b] at hd';cases hd';obtain ⟨j, e, _, ej⟩ := h1 g _ hd;cases e;exact absurd (zSr.mp ej).1 (zTW _)
    ·rw [zS6 b] at hd';exact h3 g g' j hd hd'
def zM (zA : List (List Int)) : List Int := (List.range zA.length).map fun (k : Nat) => (k : Int)
def zh (l : Nat) (ps : List (List Int)) : List (List Int × Int) := ps.flatMap fun p => (List.range l).map fun (x : Nat) => (p, (x : Int))
theorem zEK (l : Nat) (ps : List (List Int)) : (zh l ps).length = ps.length * l := by
 unfold zh;induction ps with
 | nil => simp
 | cons p r ih => rw [List.flatMap_cons, zS4, ih, zSx, List.length_range, zTL, Nat.add_mul]; omega
theorem zDJ (xs : List Int) : (zZ xs).length <= xs.length * xs.length := by
 unfold zZ;have : ∀ (r : List Int), (r.flatMap fun a => (xs.filter fun b => decide (a < b)).map fun b => [a, b]).length <= r.length * xs.length := by
  intro r;induction r with
  | nil => simp
  | cons a r ih =>
   rw [List.flatMap_cons, zS4, zSx, zTL, Nat.add_mul];have := zVE (fun b => decide (a < b)) xs;omega
 exact this xs
theorem zK5 (h : p ∈ zZ (zM zA)) : IsS zA p := by
 obtain ⟨a, b, rfl, ha, hb, hlt⟩ := zAo.mp h;obtain ⟨i, hi, rfl⟩ := zS5.mp ha;obtain ⟨j, hj, rfl⟩ := zS5.mp hb;have := zTS.mp hi;have := zTS.mp hj;refine ⟨by simp; omega, by simp, fun x hx => ?_⟩;simp only [zS0, zTJ, or_false] at hx;omega
theorem zKr {M M1 : Mem} (ha : a σ M = some (ds, M)) (hg : g ds M = some (.ref j, M1)) (hj : M1[j]? = some (.lst xs)) : zAg (ze g a) σ M = some (xs, zEo (.dat (.ref j)) xs, M1) := by
 have : ze g a σ M = some (.dat (.ref j), M1) := by unfold ze; rw [ha]; dsimp only; rw [hg]
 unfold zAg; rw [this]; dsimp only; rw [zAa hj]
theorem zOt {zA : List (List Int)} {l : Nat} (m : IsM zA l) (hR : zA.length < 64) (hl : l <= 12) {M : Mem} : Ok (zBy [mD zA] M) fun d M' => d = .ref M.length /\ Sr zA M' M.length (M.length + 1) (zh l (zZ (zM zA))) /\ M.length + 1 < M'.length /\ ∀ j, j < M.length -> M'[j]? = M[j]? := by
 unfold zBy;rw [zAr];unfold zDV;show OkS (za _ _ [some (mD zA), none, none, none, none] M) _;rw [zY, zq];refine zK (M := M ++ [.dicT []]) (a := .dat (.ref M.length)) rfl ?_;rw [zU, zc, zY, zBQ];show ∃ xs gd M1, zAg _ [some (mD zA), some (.ref M.length), none, none, none] (M ++ [.dicT []]) = some (xs, gd, M1) /\ _;have hrl : (zM zA).length = zA.length := by unfold zM; simp
 have epr := zJO (xs := zM zA) (by omega) (M := M ++ [.dicT []]);refine ⟨_, _, _, zKr (zAk (d := tI (zM zA)) (zBv (zAk (d := mD zA) rfl) (zIq (by omega)))) epr (zAU _ _), ?_⟩;rw [show (M ++ [MO.dicT []]).length = M.length + 1 by simp];generalize hP : zZ (zM zA) = P;have hPl : P.length <= 3969 := by
  rw [<- hP];have h1 := zDJ (zM zA);rw [hrl] at h1;exact zTF h1 (zUW (show zA.length <= 63 by omega) (show zA.length <= 63 by omega))
 have e1 : (M ++ [MO.dicT []] ++ [MO.lst (P.map tI)])[M.length + 1]? = some (.lst (P.map tI)) := by
  rw [zTu, zTy (by omega)]; simp
 have e0 : (M ++ [MO.dicT []] ++ [MO.lst (P.map tI)])[M.length]? = some (dT []) := by
  rw [zTu, zTy (by omega)]; simp
 have ef : ∀ j, j < M.length -> (M ++ [MO.dicT []] ++ [MO.lst (P.map tI)])[j]? = M[j]? := fun j hj => by rw [zTu, zSv hj]
 have el : (M ++ [MO.dicT []] ++ [MO.lst (P.map tI)]).length = M.length + 2 := by simp
 generalize M ++ [MO.dicT []] ++ [MO.lst (P.map tI)] = M1 at e1 e0 ef el;refine zBL (I := fun r σ M' => (∃ y2 y3 y4, σ = [some (mD zA), some (.ref M.length), y2, y3, y4]) /\ ∃ us vs : List (List Int), P = us ++ vs /\ r = vs.map tI /\ Sr zA M' M.length (M.length + 1) (zh l us) /\ M'[M.length + 1]? = some (.lst (P.map tI)) /\ M.length + 1 < M'.length /\ ∀ j, j < M.length -> M'[j]? = M[j]?) ?_ ?_ _ _ _ ⟨⟨_, _, _, rfl⟩, [], P, rfl, rfl, ⟨[], e0, by simp, (fun g d h => by cases h), (fun _ _ => rfl), (fun g g' j h => by cases h)⟩, e1, by omega, ef⟩
 ·rintro x r σ M' ⟨⟨y2, y3, y4, rfl⟩, us, vs, hab, hr, sr, ep, hlen, hfr⟩;cases vs with
  | nil => cases hr
  | cons p vs =>
   rw [zS7] at hr;obtain ⟨rfl, rfl⟩ := zTs hr;have hpm : p ∈ zZ (zM zA) := by rw [hP, hab]; simp
   have hul : us.length < 3969 := by have := congrArg List.length hab; simp at this; omega
   refine ⟨.inl ep, _, rfl, ?_⟩;show OkS (zB3 _ _ _ [some (mD zA), some (.ref M.length), some (tI p), y3, y4] M') _;rw [zBQ];refine ⟨_, _, _, zBZ (zHx m rfl) (by omega) (by omega), ?_⟩;rw [show (l : Int).toNat = l by omega];refine zGZ (n := l) (I := fun i σ M'' => (∃ y3 y4, σ = [some (mD zA), some (.ref M.length), some (tI p), y3, y4]) /\ Sr zA M'' M.length (M.length + 1) (zh l us ++ (List.range i).map fun (x : Nat) => (p, (x : Int))) /\ M''[M.length + 1]? = some (.lst (P.map tI)) /\ M.length + 1 < M''.length /\ ∀ j, j < M.length -> M''[j]? = M[j]?) ?_ ?_ _ _ ⟨⟨_, _, rfl⟩, by simpa using sr, ep, hlen, hfr⟩
   ·rintro i σ M2 hi ⟨⟨y3, y4, rfl⟩, sr2, ep2, hlen2, hfr2⟩;refine ⟨_, rfl, ?_⟩;have hcount : (zh l us ++ (List.range i).map fun (x : Nat) => (p, (x : Int))).length < 50000 := by
     rw [zS4, zEK, zSx, List.length_range];have := zUW (show us.length <= 3968 by omega) hl;omega
    refine OkS.mono (zLs m hR hcount (zTl _) hlen2 sr2 (zK5 hpm) (x := (i : Int)) (by omega) (by omega)) ?_;rintro o σ' M3 ⟨rfl, ⟨y, rfl⟩, sr3, hl3, hf3⟩;refine ⟨⟨_, _, rfl⟩, ?_, by rw [hf3 _ (zSu _) (by omega)]; exact ep2, by omega, fun j hj => by rw [hf3 j (by omega) (by omega)]; exact hfr2 j hj⟩;rw [List.range_succ, zTg, <- zTu];exact sr3
   ·rintro σ M2 ⟨⟨y3, y4, rfl⟩, sr2, ep2, hlen2, hfr2⟩;refine ⟨⟨_, _, _, rfl⟩, us ++ [p], vs, by rw [hab]; simp, rfl, ?_, ep2, hlen2, hfr2⟩;have : zh l (us ++ [p]) = zh l us ++ (List.range l).map fun (x : Nat) => (p, (x : Int)) := by
     unfold zh; rw [List.flatMap_append]; simp
    rw [this]; exact sr2
 ·rintro σ M' ⟨⟨y2, y3, y4, rfl⟩, us, vs, hab, hr, sr, ep, hlen, hfr⟩;have : vs = [] := by cases vs with | nil => rfl | cons _ _ => cases hr
  subst this;rw [zTY] at hab;subst hab;refine ⟨.inl ep, ?_⟩;rw [zc];exact zBR rfl ⟨rfl, sr, hlen, hfr⟩
noncomputable def zDF : FS := (za (zAK 2 (ze zBy (zH (toD (zD 0)) zR)))
  (za (zAK 3 (zD 1))
  (za (zAK 4 (zFB true [5] (zAg (zD 1)) (gN 5) zAO (zD 5) (fC (.int 0))))
  (za (zBJ (zLR (zD 3)) (za (zAK 6 (zAZ zR))
  (za (zB3 (zAg (zD 3)) (gN 5) (zB3 (zAg (zBq (zD 2) (zD 5) (zAZ zR))) (gN 7) (sIf (tst (fOp (zCD true) (zD 7) (zD 4))) (za (zBc (fOp zAy (fOp zCK (zD 4) (zD 5)) (fC (.int 1))) (zD 4) (zD 7))
  (zAi (fM z0 (zD 6) (zH (toD (zD 7)) zR)))) zBB)))
  (zAK 3 (zD 6)))) 1000)
  (zAp (zD 4))))))
noncomputable def zBh : FF := zCU 8 zDF
abbrev Fd := List (List Int × D) × List (List Int)
def zA5 (k : Int) (st : Fd) (p : List Int) : Fd := if (zL st.1 p).isSome then st else (zB2 st.1 p (.int k), st.2 ++ [p])
structure Lv (M0 M : Mem) (jf jb : Nat) (st : Fd) : Prop where
 f : M[jf]? = some (dT st.1)
 b : M[jb]? = some (.lst (st.2.map tI))
 len : M0.length <= M.length
 fr : ∀ j, j < M0.length -> j ≠ jf -> j ≠ jb -> M[j]? = M0[j]?
theorem zOS (k : Int) (st : Fd) (p : List Int) : (zA5 k st p).1.length <= st.1.length + 1 /\ (zA5 k st p).2.length <= st.2.length + 1 := by
 unfold zA5;split
 ·exact ⟨by omega, by omega⟩
 ·exact ⟨zF1 _ _ _, by simp⟩
theorem zPV {M0 : Mem} {jf jb js jd jl : Nat} {zA : List (List Int)} {x1 x3 y7 : Option D} {goal : List Int} {k : Int} {ps : List (List Int)} (hne : jf ≠ jb) (h1 : jf < M0.length) (h2 : jb < M0.length) :
  ∀ (M : Mem) (st : Fd), Lv M0 M jf jb st -> M[js]? = some (.lst (ps.map tI)) -> js ≠ jf -> js ≠ jb -> zL st.1 goal = some (.int k) -> st.1.length + ps.length <= 80000 -> st.2.length + ps.length <= 80000 ->
  OkS (zCI (gN 7) (sIf (tst (fOp (zCD true) (zD 7) (zD 4))) (za (zBc (fOp zAy (fOp zCK (zD 4) (zD 5)) (fC (.int 1))) (zD 4) (zD 7)) (zAi (fM z0 (zD 6) (zH (toD (zD 7)) zR)))) zBB) (ps.map tI) (zEo (.dat (.ref js)) (ps.map tI)) (ps.map tI) [some (mD zA), x1, some (.ref jd), x3, some (.ref jf), some (tI goal), some (.ref jb), y7] M)
   fun o σ' M' => o = .nx /\ (∃ y, σ' = [some (mD zA), x1, some (.ref jd), x3, some (.ref jf), some (tI goal), some (.ref jb), y]) /\ Lv M0 M' jf jb (ps.foldl (zA5 (k + 1)) st) /\ M'.length = M.length /\ ∀ j, j ≠ jf -> j ≠ jb -> M'[j]? = M[j]? := by
 intro M st lv ejs n1 n2 hgl z1 z2;refine zBL (I := fun r σ M' => (∃ y, σ = [some (mD zA), x1, some (.ref jd), x3, some (.ref jf), some (tI goal), some (.ref jb), y]) /\ ∃ us vs : List (List Int), ps = us ++ vs /\ r = vs.map tI /\ Lv M0 M' jf jb (us.foldl (zA5 (k + 1)) st) /\ zL (us.foldl (zA5 (k + 1)) st).1 goal = some (.int k) /\ (us.foldl (zA5 (k + 1)) st).1.length <= st.1.length + us.length /\ (us.foldl (zA5 (k + 1)) st).2.length <= st.2.length + us.length /\ M'.length = M.length /\ ∀ j, j ≠ jf -> j ≠ jb -> M'[j]? = M[j]?) ?_ ?_ _ _ _ ⟨⟨_, rfl⟩, [], ps, rfl, rfl, lv, hgl, by simp, by simp, rfl, fun _ _ _ => rfl⟩
 ·rintro x r σ M' ⟨⟨y, rfl⟩, us, vs, hab, hr, lv', hg', l1, l2, hl, hfr⟩;cases vs with
  | nil => cases hr
  | cons p vs =>
   rw [zS7] at hr;obtain ⟨rfl, rfl⟩ := zTs hr;have hul : us.length < ps.length := by rw [hab]; simp
   refine ⟨.inl (by rw [hfr js n1 n2]; exact ejs), _, rfl, ?_⟩;show OkS (sIf _ _ _ [some (mD zA), x1, some (.ref jd), x3, some (.ref jf), some (tI goal), some (.ref jb), some (tI p)] M') _;have hfold : (us ++ [p]).foldl (zA5 (k + 1)) st = zA5 (k + 1) (us.foldl (zA5 (k + 1)) st) p := by rw [zUs]; rfl
   generalize us.foldl (zA5 (k + 1)) st = st' at lv' hg' l1 l2 hfold;have al := zOS (k + 1) st' p;rw [zBH];refine zK (M := M') (a := !(zL st'.1 p).isSome) (zA6 (zi (x := .dat (tI p)) (y := .dat (.ref jf)) rfl rfl (zNm lv'.f))) ?_;cases hlk : zL st'.1 p with
   | some d =>
    have ea : zA5 (k + 1) st' p = st' := by unfold zA5; rw [hlk]; rfl
    rw [zS6 (by simp), zA4];refine ⟨⟨_, rfl⟩, us ++ [p], vs, by rw [hab]; simp, rfl, ?_⟩;rw [hfold, ea];exact ⟨lv', hg', by simp; omega, by simp; omega, hl, hfr⟩
   | none =>
    have ea : zA5 (k + 1) st' p = (zB2 st'.1 p (.int (k + 1)), st'.2 ++ [p]) := by unfold zA5; rw [hlk]; rfl
    have hgp : p ≠ goal := fun z => by rw [z, hg'] at hlk; cases hlk
    rw [zS3 (by simp), zY];have ev : fOp zAy (fOp zCK (zD 4) (zD 5)) (fC (.int 1)) [some (mD zA), x1, some (.ref jd), x3, some (.ref jf), some (tI goal), some (.ref jb), some (tI p)] M' = some (.dat (.int (k + 1)), M') := zi (x := .dat (.int k)) (zi (x := .dat (.ref jf)) (y := .dat (tI goal)) rfl rfl (zP8 lv'.f hg')) rfl rfl;have hd : OkS (zBc (fOp zAy (fOp zCK (zD 4) (zD 5)) (fC (.int 1))) (zD 4) (zD 7) [some (mD zA), x1, some (.ref jd), x3, some (.ref jf), some (tI goal), some (.ref jb), some (tI p)] M') fun o σ' M2 => o = .nx /\ σ' = [some (mD zA), x1, some (.ref jd), x3, some (.ref jf), some (tI goal), some (.ref jb), some (tI p)] /\ M2 = M'.set jf (dT (zB2 st'.1 p (.int (k + 1)))) := by
     refine ⟨.nx, _, _, ?_, rfl, rfl, rfl⟩;unfold zBc;rw [show toD (fOp zAy (fOp zCK (zD 4) (zD 5)) (fC (.int 1))) [some (mD zA), x1, some (.ref jd), x3, some (.ref jf), some (tI goal), some (.ref jb), some (tI p)] M' = some (.int (k + 1), M') by unfold toD; rw [ev]];dsimp only;rw [show toD (zD 4) [some (mD zA), x1, some (.ref jd), x3, some (.ref jf), some (tI goal), some (.ref jb), some (tI p)] M' = some (.ref jf, M') from rfl];dsimp only;rw [show toD (zD 7) [some (mD zA), x1, some (.ref jd), x3, some (.ref jf), some (tI goal), some (.ref jb), some (tI p)] M' = some (tI p, M') from rfl];dsimp only;rw [zLD lv'.f (by omega)]
    refine OkS.mono hd ?_;rintro o σ' M2 ⟨rfl, rfl, rfl⟩;rw [zc, zCQ];have eb : (M'.set jf (dT (zB2 st'.1 p (.int (k + 1)))))[jb]? = some (.lst (st'.2.map tI)) := by rw [zTI hne]; exact lv'.b
    refine zJj.mpr (zAJ.mpr ⟨_, rfl, ⟨_, zBY eb⟩, zK (zAk (d := tI p) rfl) ?_⟩);rw [zEP eb (by rw [zSx]; exact zTD (m := 95000) (by omega) (zz (by omega)))];have jfl : jf < M'.length := zTD h1 lv'.len;have jbl : jb < M'.length := zTD h2 lv'.len;refine ⟨⟨_, rfl⟩, us ++ [p], vs, by rw [hab]; simp, rfl, ?_⟩;rw [hfold];refine ⟨?_, ?_, by simp; omega, by simp; omega, by simp [hl], fun j q1 q2 => by rw [zTI (Ne.symm q2), zTI (Ne.symm q1)]; exact hfr j q1 q2⟩
    ·rw [ea];refine ⟨by rw [zTI (Ne.symm hne), zTi jfl], by rw [zTi (by simpa using jbl), zTg]; rfl, by simpa using lv'.len, fun j q0 q1 q2 => by rw [zTI (Ne.symm q2), zTI (Ne.symm q1)]; exact lv'.fr j q0 q1 q2⟩
    ·rw [ea];show zL (zB2 st'.1 p (.int (k + 1))) goal = _;rw [zCp, zS6 hgp]; exact hg'
 ·rintro σ M' ⟨⟨y, rfl⟩, us, vs, hab, hr, lv', hg', l1, l2, hl, hfr⟩;have : vs = [] := by cases vs with | nil => rfl | cons _ _ => cases hr
  subst this;rw [zTY] at hab;subst hab;exact ⟨.inl (by rw [hfr js n1 n2]; exact ejs), rfl, ⟨_, rfl⟩, lv', hl, hfr⟩
theorem zRf {f g : FE} {σ : Sd} {M : Mem} {n : Nat} {T : List (List Int × D)} {k : List Int} (hf : f σ M = some (.dat (.ref n), M)) (hn : M[n]? = some (dT T)) (hg : g σ M = some (.dat (tI k), M)) : zBq f g (zAZ zR) σ M = some (.dat ((zL T k).getD (.ref M.length)), M ++ [.lst []]) := by
 have nl : n < M.length := (zSr.mp hn).1;unfold zBq;rw [show toD f σ M = some (.ref n, M) by unfold toD; rw [hf]];dsimp only;rw [hn];dsimp only;rw [show toD g σ M = some (tI k, M) by unfold toD; rw [hg]];dsimp only;rw [show toD (zAZ zR) σ M = some (.ref M.length, M ++ [.lst []]) by
  unfold toD zAZ zR; dsimp only; rw [zS3 (zz (by simp))]]
 dsimp only;rw [dgT (g := k) (show (M ++ [MO.lst ([] : List D)])[n]? = some (dT T) by rw [zSv nl]; exact hn)]
def zBl (src : List Int -> List (List Int)) (k : Int) (gs : List (List Int)) (st : Fd) : Fd := gs.foldl (fun st g => (src g).foldl (zA5 (k + 1)) st) st
theorem zLc {k : Int} {st : Fd} {p g : List Int} {d : D} (h : zL st.1 g = some d) : zL (zA5 k st p).1 g = some d := by
 unfold zA5;split
 ·exact h
 ·rename_i q;show zL (zB2 st.1 p (.int k)) g = some d;rw [zCp, zS6 (fun z => q (by rw [z, h]; rfl))]; exact h
theorem zF3 {k : Int} {g : List Int} {d : D} : ∀ (ps : List (List Int)) {st : Fd}, zL st.1 g = some d -> zL (ps.foldl (zA5 k) st).1 g = some d
 | [], _, h => h
 | p :: r, _, h => zF3 r (zLc h)
def zSM (M : Mem) (Ts : List (List Int × D)) (jf jb : Nat) (src : List Int -> List (List Int)) : Prop := ∀ g, (∃ j, zL Ts g = some (.ref j) /\ j ≠ jf /\ j ≠ jb /\ M[j]? = some (.lst ((src g).map tI))) \/ (zL Ts g = none /\ src g = [])
theorem zO1 {M0 : Mem} {jf jb jd jl : Nat} {zA : List (List Int)} {x1 y5 y7 : Option D} {k : Int} {gs : List (List Int)} {src : List Int -> List (List Int)} {Ts : List (List Int × D)} (hne : jf ≠ jb) (h1 : jf < M0.length) (h2 : jb < M0.length) (hd : M0[jd]? = some (dT Ts)) (d1 : jd ≠ jf) (d2 : jd ≠ jb) (hl : M0[jl]? = some (.lst (gs.map tI))) (l1 : jl ≠ jf) (l2 : jl ≠ jb) (hs : zSM M0 Ts jf jb src) (B : Nat) (hB : ∀ g ∈ gs, (src g).length <= B)
  {st : Fd} (hg : ∀ g ∈ gs, zL st.1 g = some (.int k)) (Z : Nat) (hZB : Z + B <= 80000) (hZ : ∀ us vs, gs = us ++ vs -> (zBl src k us st).1.length <= Z /\ (zBl src k us st).2.length <= Z) (lv : Lv M0 M0 jf jb st) :
  OkS (zCI (gN 5) (zB3 (zAg (zBq (zD 2) (zD 5) (zAZ zR))) (gN 7) (sIf (tst (fOp (zCD true) (zD 7) (zD 4))) (za (zBc (fOp zAy (fOp zCK (zD 4) (zD 5)) (fC (.int 1))) (zD 4) (zD 7)) (zAi (fM z0 (zD 6) (zH (toD (zD 7)) zR)))) zBB)) (gs.map tI) (zEo (.dat (.ref jl)) (gs.map tI)) (gs.map tI) [some (mD zA), x1, some (.ref jd), some (.ref jl), some (.ref jf), y5, some (.ref jb), y7] M0)
   fun o σ' M' => o = .nx /\ (∃ y5 y7, σ' = [some (mD zA), x1, some (.ref jd), some (.ref jl), some (.ref jf), y5, some (.ref jb), y7]) /\ Lv M0 M' jf jb (zBl src k gs st) := by
 refine zBL (I := fun r σ M' => (∃ y5 y7, σ = [some (mD zA), x1, some (.ref jd), some (.ref jl), some (.ref jf), y5, some (.ref jb), y7]) /\ ∃ us vs : List (List Int), gs = us ++ vs /\ r = vs.map tI /\ Lv M0 M' jf jb (zBl src k us st) /\ (∀ g ∈ gs, zL (zBl src k us st).1 g = some (.int k))) ?_ ?_ _ _ _ ⟨⟨_, _, rfl⟩, [], gs, rfl, rfl, lv, hg⟩
 ·rintro x r σ M' ⟨⟨y5, y7, rfl⟩, us, vs, hab, hr, lv', hg'⟩;cases vs with
  | nil => cases hr
  | cons g vs =>
   rw [zS7] at hr;obtain ⟨rfl, rfl⟩ := zTs hr;have hgm : g ∈ gs := by rw [hab]; simp
   have hsb := hB g hgm;obtain ⟨b1, b2⟩ := hZ us (g :: vs) hab;have keep : ∀ {j : Nat} {u : MO}, M0[j]? = some u -> j ≠ jf -> j ≠ jb -> M'[j]? = some u := fun {j u} e q1 q2 => (lv'.fr j (zSr.mp e).1 q1 q2).trans e;refine ⟨.inl (keep hl l1 l2), _, rfl, ?_⟩;show OkS (zB3 _ _ _ [some (mD zA), x1, some (.ref jd), some (.ref jl), some (.ref jf), some (tI g), some (.ref jb), y7] M') _;have hfold : zBl src k (us ++ [g]) st = (src g).foldl (zA5 (k + 1)) (zBl src k us st) := by unfold zBl; rw [zUs]; rfl
   generalize zBl src k us st = st' at lv' hg' b1 b2 hfold;have e2 := zRf (f := zD 2) (g := zD 5) (σ := [some (mD zA), x1, some (.ref jd), some (.ref jl), some (.ref jf), some (tI g), some (.ref jb), y7]) (M := M') (k := g) rfl (keep hd d1 d2) rfl;have lvA : Lv M0 (M' ++ [.lst []]) jf jb st' := by
    have f1 := (zSr.mp lv'.f).1;have f2 := (zSr.mp lv'.b).1;have f3 := lv'.len;exact ⟨by rw [zSv f1]; exact lv'.f, by rw [zSv f2]; exact lv'.b, by simp; omega, fun j q0 q1 q2 => by rw [zSv (by omega)]; exact lv'.fr j q0 q1 q2⟩
   obtain ⟨js, ejs, n1, n2, el⟩ : ∃ js, (zL Ts g).getD (.ref M'.length) = .ref js /\ js ≠ jf /\ js ≠ jb /\ (M' ++ [MO.lst ([] : List D)])[js]? = some (.lst ((src g).map tI)) := by
    rcases hs g with ⟨j, e, q1, q2, q3⟩ | ⟨e, q⟩
    ·have := keep q3 q1 q2;exact ⟨j, by rw [e]; rfl, q1, q2, by rw [zSv (zSr.mp this).1]; exact this⟩
    ·have := lv'.len;exact ⟨M'.length, by rw [e]; rfl, by omega, by omega, by rw [q]; simp⟩
   rw [ejs] at e2;rw [zBQ];refine ⟨_, _, _, (show zAg (zBq (zD 2) (zD 5) (zAZ zR)) [some (mD zA), x1, some (.ref jd), some (.ref jl), some (.ref jf), some (tI g), some (.ref jb), y7] M' = some ((src g).map tI, zEo (.dat (.ref js)) ((src g).map tI), M' ++ [.lst []]) by unfold zAg; rw [e2]; dsimp only; rw [zAa el]), ?_⟩;refine OkS.mono (zPV (jl := jl) (k := k) hne h1 h2 _ st' lvA el n1 n2 (hg' g hgm) (by omega) (by omega)) ?_;rintro o σ' M2 ⟨rfl, ⟨y, rfl⟩, lv2, _, _⟩;refine ⟨⟨_, _, rfl⟩, us ++ [g], vs, by rw [hab]; simp, rfl, ?_⟩;rw [hfold];exact ⟨lv2, fun g' hg'' => zF3 _ (hg' g' hg'')⟩
 ·rintro σ M' ⟨⟨y5, y7, rfl⟩, us, vs, hab, hr, lv', hg'⟩;have : vs = [] := by cases vs with | nil => rfl | cons _ _ => cases hr
  subst this;rw [zTY] at hab;subst hab;have keep : ∀ {j : Nat} {u : MO}, M0[j]? = some u -> j ≠ jf -> j ≠ jb -> M'[j]? = some u := fun {j u} e q1 q2 => (lv'.fr j (zSr.mp e).1 q1 q2).trans e;exact ⟨.inl (keep hl l1 l2), rfl, ⟨_, _, rfl⟩, lv'⟩
theorem zLH (k : Int) (st : Fd) (p t : List Int) : zL (zA5 k st p).1 t = (if (zL st.1 t).isSome then zL st.1 t else if t = p then some (.int k) else none) /\ (t ∈ (zA5 k st p).2 ↔ t ∈ st.2 \/ (zL st.1 t = none /\ t = p)) := by
 unfold zA5;by_cases h : (zL st.1 p).isSome = true
 ·rw [zS3 h];constructor
  ·by_cases ht : (zL st.1 t).isSome = true
   ·rw [zS3 ht]
   ·rw [zS6 ht, zS6 (fun z => ht (by rw [z]; exact h))];cases e : zL st.1 t with
    | none => rfl
    | some d => rw [e] at ht; simp at ht
  ·constructor
   ·exact .inl
   ·rintro (q | ⟨q, rfl⟩)
    ·exact q
    ·rw [q] at h; cases h
 ·rw [zS6 h];have hn : zL st.1 p = none := by
   cases e : zL st.1 p with
   | none => rfl
   | some d => rw [e] at h; simp at h
  constructor
  ·show zL (zB2 st.1 p (.int k)) t = _;rw [zCp];by_cases ht : p = t
   ·subst ht;rw [zS3 rfl, zS6 h, zS3 rfl]
   ·rw [zS6 ht];by_cases hs : (zL st.1 t).isSome = true
    ·rw [zS3 hs]
    ·rw [zS6 hs, zS6 (fun z => ht z.symm)];cases e : zL st.1 t with
     | none => rfl
     | some d => rw [e] at hs; simp at hs
  ·show t ∈ st.2 ++ [p] ↔ _;rw [zTE, zTG];constructor
   ·rintro (q | rfl)
    ·exact .inl q
    ·exact .inr ⟨hn, rfl⟩
   ·rintro (q | ⟨_, q⟩)
    ·exact .inl q
    ·exact .inr q
theorem zGg (k : Int) : ∀ (ps : List (List Int)) (st : Fd) (t : List Int), zL (ps.foldl (zA5 k) st).1 t = (if (zL st.1 t).isSome then zL st.1 t else if t ∈ ps then some (.int k) else none) /\ (t ∈ (ps.foldl (zA5 k) st).2 ↔ t ∈ st.2 \/ (zL st.1 t = none /\ t ∈ ps))
 | [], st, t => by
  constructor
  ·by_cases h : (zL st.1 t).isSome = true
   ·rw [zS3 h]; rfl
   ·rw [zS6 h, zS6 (by simp)];cases e : zL st.1 t with
    | none => exact e
    | some d => rw [e] at h; simp at h
  ·simp
 | p :: r, st, t => by
  obtain ⟨a1, a2⟩ := zLH k st p t;obtain ⟨b1, b2⟩ := zGg k r (zA5 k st p) t;rw [List.foldl_cons, b1, b2, a2, a1];by_cases h : (zL st.1 t).isSome = true
  ·rw [zS3 h, zS3 h, zS3 h];refine ⟨rfl, ?_⟩;have hn : ¬ zL st.1 t = none := fun z => by rw [z] at h; cases h
   simp [hn]
  ·have hn : zL st.1 t = none := by
    cases e : zL st.1 t with
    | none => rfl
    | some d => rw [e] at h; simp at h
   rw [zS6 h, zS6 h];by_cases hp : t = p
   ·rw [zS3 hp];refine ⟨?_, ?_⟩
    ·rw [zS3 (show (some (D.int k)).isSome = true from rfl), zS3 (by rw [hp]; exact zS2)]
    ·simp [hn, hp]
   ·rw [zS6 hp];refine ⟨?_, ?_⟩
    ·rw [zS6 (by simp)];by_cases hr : t ∈ r
     ·rw [zS3 hr, zS3 (zS1 _ hr)]
     ·rw [zS6 hr, zS6 (by simp [hp, hr])]
    ·simp [hn, hp]
theorem zHW (src : List Int -> List (List Int)) (k : Int) (gs : List (List Int)) (st : Fd) (t : List Int) : zL (zBl src k gs st).1 t = (if (zL st.1 t).isSome then zL st.1 t else if t ∈ gs.flatMap src then some (.int (k + 1)) else none) /\ (t ∈ (zBl src k gs st).2 ↔ t ∈ st.2 \/ (zL st.1 t = none /\ t ∈ gs.flatMap src)) := by
 have : ∀ (gs : List (List Int)) (st : Fd), zBl src k gs st = (gs.flatMap src).foldl (zA5 (k + 1)) st := by
  intro gs;induction gs with
  | nil => intro st; rfl
  | cons g r ih =>
   intro st;show zBl src k r ((src g).foldl (zA5 (k + 1)) st) = _;rw [ih, List.flatMap_cons, zUs]
 rw [this gs st];exact zGg (k + 1) (gs.flatMap src) st t
def Rch (zA : List (List Int)) (l : Nat) (G : List Int -> Prop) (t : List Int) (n : Nat) : Prop := ∃ w : List Int, w.length = n /\ (∀ x ∈ w, 0 <= x /\ x < (l : Int)) /\ G (zJX zA t w)
def Dst (zA : List (List Int)) (l : Nat) (G : List Int -> Prop) (t : List Int) (n : Nat) : Prop := Rch zA l G t n /\ ∀ m, m < n -> ¬ Rch zA l G t m
theorem zEV : Rch zA l G t (n + 1) ↔ ∃ x : Int, (0 <= x /\ x < (l : Int)) /\ Rch zA l G (setR zA t x) n := by
 constructor
 ·rintro ⟨w, hw, hb, hl⟩;cases w with
  | nil => cases hw
  | cons x w => exact ⟨x, hb x zS2, w, by simpa using hw, fun y hy => hb y (zS1 _ hy), hl⟩
 ·rintro ⟨x, hx, w, hw, hb, hl⟩;exact ⟨x :: w, by simp [hw], fun y hy => by rcases zS0.mp hy with rfl | q; exact hx; exact hb y q, hl⟩
theorem zFz : Rch zA l G t 0 ↔ G t := by
 constructor
 ·rintro ⟨w, hw, _, hl⟩;have : w = [] := List.length_eq_zero_iff.mp hw;subst this; exact hl
 ·intro h; exact ⟨[], rfl, (fun _ h => by cases h), h⟩
theorem zCM : Dst zA l G t 0 ↔ G t := by
 unfold Dst;rw [zFz];exact ⟨fun h => h.1, fun h => ⟨h, fun m hm => by omega⟩⟩
theorem zCu : Dst zA l G t (n + 1) ↔ (∀ m, m <= n -> ¬ Rch zA l G t m) /\ ∃ x : Int, (0 <= x /\ x < (l : Int)) /\ Dst zA l G (setR zA t x) n := by
 constructor
 ·rintro ⟨h1, h2⟩;obtain ⟨x, hx, hr⟩ := zEV.mp h1;exact ⟨fun m hm => h2 m (by omega), x, hx, hr, fun m hm hq => h2 (m + 1) (by omega) (zEV.mpr ⟨x, hx, hq⟩)⟩
 ·rintro ⟨h1, x, hx, hr, _⟩;exact ⟨zEV.mpr ⟨x, hx, hr⟩, fun m hm => h1 m (by omega)⟩
theorem zEL : ∀ n, Rch zA l G t n -> ∃ m, m <= n /\ Dst zA l G t m := by
 intro n;induction n using Nat.strongRecOn with
 | ind n ih =>
  intro h;by_cases q : ∃ m, m < n /\ Rch zA l G t m
  ·obtain ⟨m, hm, hr⟩ := q;obtain ⟨m', h1, h2⟩ := ih m hm hr;exact ⟨m', by omega, h2⟩
  ·exact ⟨n, zSu _, h, fun m hm hr => q ⟨m, hm, hr⟩⟩
theorem zC2 (h1 : Dst zA l G t a) (h2 : Dst zA l G t b) : a = b := by
 rcases Nat.lt_trichotomy a b with q | q | q
 ·exact absurd h1.1 (h2.2 a q)
 ·exact q
 ·exact absurd h2.1 (h1.2 b q)
def zGP (zA : List (List Int)) (l : Nat) (G : List Int -> Prop) (U : List Int -> Prop) (k : Nat) (fd : List (List Int × D)) (lev : List (List Int)) : Prop := (∀ t d, zL fd t = some d ↔ U t /\ ∃ n : Nat, n <= k /\ Dst zA l G t n /\ d = .int (n : Int)) /\ ∀ t, t ∈ lev ↔ U t /\ Dst zA l G t k
theorem zE5 (h : zGP zA l G U k fd lev) (u : U t) : zL fd t = none ↔ ∀ m, m <= k -> ¬ Rch zA l G t m := by
 constructor
 ·intro e m hm hr;obtain ⟨n, hn, hd⟩ := zEL m hr;rw [(h.1 t (.int (n : Int))).mpr ⟨u, n, by omega, hd, rfl⟩] at e;cases e
 ·intro q;cases e : zL fd t with
  | none => rfl
  | some d =>
   obtain ⟨_, n, hn, hd, _⟩ := (h.1 t d).mp e;exact absurd hd.1 (q n hn)
theorem zLP {zA : List (List Int)} {l : Nat} {U P : List Int -> Prop} {src : List Int -> List (List Int)} (hs : ∀ g t, t ∈ src g ↔ P t /\ ∃ x : Int, (0 <= x /\ x < (l : Int)) /\ setR zA t x = g) (hP : ∀ t, P t -> U t) (hU : ∀ t n, U t -> ¬ G t -> Rch zA l G t n -> P t) (hc : ∀ t (x : Int), U t -> 0 <= x /\ x < (l : Int) -> U (setR zA t x))
  {k : Nat} {fd : List (List Int × D)} {lev : List (List Int)} (h : zGP zA l G U k fd lev) : zGP zA l G U (k + 1) (zBl src (k : Int) lev (fd, [])).1 (zBl src (k : Int) lev (fd, [])).2 := by
 have key : ∀ t, (zL fd t = none /\ t ∈ lev.flatMap src) ↔ U t /\ Dst zA l G t (k + 1) := by
  intro t;constructor
  ·rintro ⟨e, hm⟩;obtain ⟨g, hg, ht⟩ := List.mem_flatMap.mp hm;obtain ⟨p, x, hx, hq⟩ := (hs g t).mp ht;have u := hP t p;refine ⟨u, zCu.mpr ⟨(zE5 h u).mp e, x, hx, ?_⟩⟩;rw [hq]; exact ((h.2 g).mp hg).2
  ·rintro ⟨u, hd⟩;obtain ⟨q, x, hx, hr⟩ := zCu.mp hd;refine ⟨(zE5 h u).mpr q, List.mem_flatMap.mpr ⟨setR zA t x, (h.2 _).mpr ⟨hc t x u hx, hr⟩, (hs _ t).mpr ⟨hU t _ u ?_ hd.1, x, hx, rfl⟩⟩⟩;intro h1;exact q 0 (zTa _) (zFz.mpr h1)
 constructor
 ·intro t d;rw [(zHW src (k : Int) lev (fd, []) t).1];show (if (zL fd t).isSome then zL fd t else if t ∈ lev.flatMap src then some (.int ((k : Int) + 1)) else none) = some d ↔ _;cases e : zL fd t with
  | some d' =>
   rw [zS3 (show (some d').isSome = true from rfl)];obtain ⟨u, n, hn, hd, rfl⟩ := (h.1 t d').mp e;constructor
   ·intro z; cases z;exact ⟨u, n, by omega, hd, rfl⟩
   ·rintro ⟨_, m, _, hm, rfl⟩;rw [zC2 hm hd]
  | none =>
   rw [zS6 (by simp)];by_cases hm : t ∈ lev.flatMap src
   ·rw [zS3 hm];obtain ⟨u, hd⟩ := (key t).mp ⟨e, hm⟩;constructor
    ·intro z; cases z;exact ⟨u, k + 1, zSu _, hd, by simp⟩
    ·rintro ⟨_, m, _, hm', rfl⟩;rw [zC2 hm' hd]; simp
   ·rw [zS6 hm];constructor
    ·intro z; cases z
    ·rintro ⟨u, m, hk, hd, rfl⟩;exfalso;by_cases hmk : m <= k
     ·exact (zE5 h u).mp e m hmk hd.1
     ·have : m = k + 1 := by omega
      subst this;exact hm ((key t).mpr ⟨u, hd⟩).2
 ·intro t;rw [(zHW src (k : Int) lev (fd, []) t).2];show t ∈ ([] : List (List Int)) \/ (zL fd t = none /\ t ∈ lev.flatMap src) ↔ _;rw [key t];simp
theorem zNP {zA : List (List Int)} {l : Nat} {G : List Int -> Prop} {U : List Int -> Prop} (hc : ∀ t (x : Int), U t -> 0 <= x /\ x < (l : Int) -> U (setR zA t x)) {k : Nat} {fd : List (List Int × D)} (h : zGP zA l G U k fd []) (t : List Int) (d : D) : zL fd t = some d ↔ U t /\ ∃ n : Nat, Dst zA l G t n /\ d = .int (n : Int) := by
 have far : ∀ n t, U t -> ¬ Dst zA l G t (k + n) := by
  intro n;induction n with
  | zero => intro t u hd; exact absurd ((h.2 t).mpr ⟨u, hd⟩) (by simp)
  | succ n ih =>
   intro t u hd;obtain ⟨_, x, hx, hr⟩ := zCu.mp (show Dst zA l G t ((k + n) + 1) from hd);exact ih _ (hc t x u hx) hr
 rw [h.1 t d];constructor
 ·rintro ⟨u, n, _, a, b⟩; exact ⟨u, n, a, b⟩
 ·rintro ⟨u, n, a, b⟩;refine ⟨u, n, ?_, a, b⟩;by_cases q : n <= k
  ·exact q
  ·exfalso;have e : n = k + (n - k) := by omega
   rw [e] at a;exact far _ t u a
def Th (zA : List (List Int)) (t : List Int) : Prop := IsS zA t /\ t.length <= 2
def zDT (zA : List (List Int)) (l : Nat) (g : List Int) : List (List Int) := zAd zA (zh l (zZ (zM zA))) g
theorem zPZ (g t : List Int) : t ∈ zDT zA l g ↔ t ∈ zZ (zM zA) /\ ∃ x : Int, (0 <= x /\ x < (l : Int)) /\ setR zA t x = g := by
 unfold zDT zAd zh;simp only [zS5, zTz, List.mem_flatMap, zTS, zT6];constructor
 ·rintro ⟨q, ⟨⟨p, hp, k, hk, rfl⟩, hq⟩, rfl⟩;exact ⟨hp, (k : Int), ⟨by omega, by omega⟩, hq⟩
 ·rintro ⟨hp, x, ⟨x0, x1⟩, hq⟩;refine ⟨(t, x), ⟨⟨t, hp, x.toNat, by omega, ?_⟩, hq⟩, rfl⟩;rw [show ((x.toNat : Nat) : Int) = x by omega]
theorem zA1 : x ∈ zM zA ↔ 0 <= x /\ x < (zA.length : Int) := by
 unfold zM;simp only [zS5, zTS];constructor
 ·rintro ⟨k, hk, rfl⟩; omega
 ·rintro ⟨h0, h1⟩; exact ⟨x.toNat, by omega, by omega⟩
theorem zFf (t : List Int) (h : t ∈ zZ (zM zA)) : Th zA t := by
 refine ⟨zK5 h, ?_⟩;obtain ⟨a, b, rfl, _⟩ := zAo.mp h;exact zSu _
theorem zIM (t : List Int) (h : Th zA t) (h1 : t.length ≠ 1) : t ∈ zZ (zM zA) := by
 obtain ⟨⟨pw, n0, hm⟩, h2⟩ := h;match t, pw, n0, hm, h1, h2 with
 | [a, b], pw, _, hm, _, _ =>
  exact zAo.mpr ⟨a, b, rfl, zA1.mpr (hm a (by simp)), zA1.mpr (hm b (by simp)), by simpa using pw⟩
 | [a], _, _, _, h1, _ => exact absurd rfl h1
 | [], _, n0, _, _, _ => cases n0
 | _ :: _ :: _ :: _, _, _, _, _, h2 => simp at h2
theorem zFn (m : IsM zA l) (t : List Int) (x : Int) (h : Th zA t) (hx : 0 <= x /\ x < (l : Int)) : Th zA (setR zA t x) := by
 refine ⟨m.setR h.1 hx.1 hx.2, ?_⟩;have := zKn (t.map fun h => zBE zA h x);rw [zSx] at this;exact zTF this h.2
def zGc (zA : List (List Int)) (G : List Int -> Prop) : Prop := (∀ t, Th zA t -> t.length = 1 -> G t) \/ ∀ t, t.length = 1 -> ¬ G t
theorem zHO (m : IsM zA l) : ∀ (w t : List Int), Th zA t -> t.length = 1 -> (∀ x ∈ w, 0 <= x /\ x < (l : Int)) -> (zJX zA t w).length = 1
 | [], _, _, h, _ => h
 | x :: w, t, u, h, hw => by
  have hx := hw x zS2;have u' := zFn m t x u hx;refine zHO m w (setR zA t x) u' ?_ fun y hy => hw y (zS1 _ hy);have h1 := zKn (t.map fun h => zBE zA h x);rw [zSx, h] at h1;have h2 := u'.1.n0;have h3 : (setR zA t x).length <= 1 := h1;omega
theorem zLS (m : IsM zA l) (o : zGc zA G) (t : List Int) (n : Nat) (u : Th zA t) (g : ¬ G t) (r : Rch zA l G t n) : t ∈ zZ (zM zA) := by
 refine zIM t u fun h1 => ?_;rcases o with o | o
 ·exact g (o t u h1)
 ·obtain ⟨w, _, hw, hg⟩ := r;exact o _ (zHO m w t u h1 hw) hg
theorem zJB (m : IsM zA l) (o : zGc zA G) (h : zGP zA l G (Th zA) k fd lev) : zGP zA l G (Th zA) (k + 1) (zBl (zDT zA l) (k : Int) lev (fd, [])).1 (zBl (zDT zA l) (k : Int) lev (fd, [])).2 :=
 zLP (P := fun t => t ∈ zZ (zM zA)) zPZ zFf (zLS m o) (zFn m) h
theorem zLt (hts : ∀ t, t ∈ ts ↔ Th zA t /\ G t) (h : ∀ t d, zL fd t = some d ↔ t ∈ ts /\ d = .int 0) : zGP zA l G (Th zA) 0 fd ts := by
 have key : ∀ t, t ∈ ts ↔ Th zA t /\ Dst zA l G t 0 := fun t => by rw [zCM, hts]
 refine ⟨fun t d => ?_, key⟩;rw [h t d, key t];constructor
 ·rintro ⟨⟨a, b⟩, rfl⟩; exact ⟨a, 0, zSu _, b, by simp⟩
 ·rintro ⟨a, n, hn, b, rfl⟩;have : n = 0 := by omega
  subst this;exact ⟨⟨a, b⟩, by simp⟩
abbrev One (t : List Int) : Prop := t.length = 1
theorem zN0 (t : List Int) : t ∈ (zM zA).map (fun r => [r]) ↔ Th zA t /\ One t := by
 rw [zS5];constructor
 ·rintro ⟨r, hr, rfl⟩;have := zA1.mp hr;refine ⟨⟨⟨by simp, by simp, fun x hx => ?_⟩, by simp⟩, rfl⟩;rw [zTG] at hx;subst hx; exact this
 ·rintro ⟨⟨s, _⟩, h1⟩;obtain ⟨r, rfl⟩ := List.length_eq_one_iff.mp h1;exact ⟨r, zA1.mpr (s.mem r (by simp)), rfl⟩
theorem zPL : zGc zA One := .inl fun _ _ h => h
theorem whole (m : IsM zA l) (h : zGP zA l G (Th zA) k fd []) (t : List Int) (d : D) : zL fd t = some d ↔ Th zA t /\ ∃ n : Nat, Dst zA l G t n /\ d = .int (n : Int) := zNP (zFn m) h t d
theorem zCs {α : Type} [DecidableEq α] : ∀ (xs ys : List α), xs.Nodup -> (∀ x ∈ xs, x ∈ ys) -> xs.length <= ys.length
 | [], _, _, _ => zTa _
 | x :: r, ys, h, hm => by
  obtain ⟨h1, h2⟩ := List.nodup_cons.mp h;have hx : x ∈ ys := hm x zS2;have := zCs r (ys.erase x) h2 fun y hy => (List.mem_erase_of_ne (fun z => h1 (by rw [<- z]; exact hy))).mpr (hm y (zS1 _ hy));rw [List.length_erase_of_mem hx] at this;have := List.length_pos_of_mem hx;simp only [zTL]; omega
theorem zCT : ∀ {T : List (List Int × D)} {g : List Int}, (zL T g).isSome = true ↔ g ∈ T.map (·.1)
 | [], g => by simp [zL]
 | q :: r, g => by
  unfold zL;by_cases h : q.1 = g
  ·simp [h]
  ·rw [zS6 h, zCT (T := r)];simp only [zS7, zS0];constructor
   ·exact .inr
   ·rintro (z | z)
    ·exact absurd z.symm h
    ·exact z
structure Sz (n : Nat) (st : Fd) : Prop where
 ks : (st.1.map (·.1)).Nodup
 nd : st.2.Nodup
 sub : ∀ t ∈ st.2, t ∈ st.1.map (·.1)
 len : st.1.length = n + st.2.length
theorem zPa {n : Nat} {st : Fd} (k : Int) (p : List Int) (h : Sz n st) : Sz n (zA5 k st p) := by
 unfold zA5;by_cases q : (zL st.1 p).isSome = true
 ·rw [zS3 q]; exact h
 ·rw [zS6 q];have hn : zL st.1 p = none := by
   cases e : zL st.1 p with
   | none => rfl
   | some d => rw [e] at q; simp at q
  have hk : p ∉ st.1.map (·.1) := fun z => q (zCT.mpr z);have e : zB2 st.1 p (.int k) = st.1 ++ [(p, .int k)] := by unfold zB2; rw [hn]
  rw [e];refine ⟨?_, ?_, ?_, ?_⟩
  ·show ((st.1 ++ [(p, D.int k)]).map (·.1)).Nodup;rw [zTg, zT7];refine ⟨h.ks, by simp, fun a ha b hb => ?_⟩;simp at hb;subst hb;intro z; subst z; exact hk ha
  ·show (st.2 ++ [p]).Nodup;rw [zT7];refine ⟨h.nd, by simp, fun a ha b hb => ?_⟩;simp at hb;subst hb;intro z; subst z; exact hk (h.sub _ ha)
  ·intro t ht;show t ∈ (st.1 ++ [(p, D.int k)]).map (·.1);rw [zTg, zTE];rcases zTE.mp (show t ∈ st.2 ++ [p] from ht) with z | z
   ·exact .inl (h.sub t z)
   ·right; simpa using z
  ·show (st.1 ++ [(p, D.int k)]).length = n + (st.2 ++ [p]).length;rw [zS4, zS4, h.len];simp; omega
theorem zFe (src : List Int -> List (List Int)) (k : Int) : ∀ (gs : List (List Int)) {st : Fd}, Sz n st -> Sz n (zBl src k gs st)
 | [], st, h => h
 | g :: r, st, h => by
  show Sz n (zBl src k r ((src g).foldl (zA5 (k + 1)) st));refine zFe src k r ?_;have : ∀ (ps : List (List Int)) {st : Fd}, Sz n st -> Sz n (ps.foldl (zA5 (k + 1)) st) := by
   intro ps;induction ps with
   | nil => intro st h; exact h
   | cons p ps ih => intro st h; exact ih (zPa (k + 1) p h)
  exact this _ h
theorem zLo (k : Int) (st : Fd) (p : List Int) : st.1.length <= (zA5 k st p).1.length := by
 unfold zA5;split
 ·exact zSu _
 ·show st.1.length <= (zB2 st.1 p _).length;unfold zB2;cases zL st.1 p <;> simp
theorem zHY (src : List Int -> List (List Int)) (k : Int) : ∀ (gs : List (List Int)) (st : Fd), st.1.length <= (zBl src k gs st).1.length
 | [], st => zSu _
 | g :: r, st => by
  have h1 : ∀ (ps : List (List Int)) (st : Fd), st.1.length <= (ps.foldl (zA5 (k + 1)) st).1.length := by
   intro ps;induction ps with
   | nil => intro st; exact zSu _
   | cons p ps ih => intro st; exact zTF (zLo (k + 1) st p) (ih _)
  exact zTF (h1 (src g) st) (zHY src k r _)
theorem zE2 (h : zGP zA l G (Th zA) k fd lev) (hk : (fd.map (·.1)).Nodup) : fd.length <= zA.length + zA.length * zA.length := by
 have hr : (zM zA).length = zA.length := by unfold zM; simp
 have h1 := zCs (fd.map (·.1)) ((zM zA).map (fun r => [r]) ++ zZ (zM zA)) hk fun t ht => by
  have hs := zCT.mpr ht;cases e : zL fd t with
  | none => rw [e] at hs; cases hs
  | some d =>
   obtain ⟨u, _⟩ := (h.1 t d).mp e;rw [zTE];by_cases h1 : t.length = 1
   ·obtain ⟨r, rfl⟩ := List.length_eq_one_iff.mp h1;exact .inl (zS5.mpr ⟨r, zA1.mpr (u.1.mem r (by simp)), rfl⟩)
   ·exact .inr (zIM t u h1)
 have h2 := zDJ (zM zA);rw [zSx, zS4, zSx, hr] at h1;rw [hr] at h2;omega
theorem zQH (h : f σ M = some (.dat (.ref j), M)) (hj : M[j]? = some (.lst xs)) : zLR f σ M = some (!xs.isEmpty, M) := by
 unfold zLR; rw [h]; dsimp only; rw [zAa hj]
theorem zPN (zA : List (List Int)) (l : Nat) (g : List Int) : (zDT zA l g).length <= zA.length * zA.length * l := by
 unfold zDT zAd;rw [zSx];refine zTF (zVE _ _) ?_;rw [zEK];have := zDJ (zM zA);have hr : (zM zA).length = zA.length := by unfold zM; simp
 rw [hr] at this;exact Nat.mul_le_mul_right l this
theorem zNw (m : IsM zA l) (oa : zGc zA G) (hR : zA.length <= 26) (hl : l <= 12) (h1 : jf < M0.length) (hd : M0[jd]? = some (dT Ts)) (d1 : jd ≠ jf) (hs : ∀ g, (∃ j, zL Ts g = some (.ref j) /\ j ≠ jf /\ M0[j]? = some (.lst ((zDT zA l g).map tI))) \/ (zL Ts g = none /\ zDT zA l g = [])) (hf : M0[jf]? = some (dT fd)) (hv : M0[jl]? = some (.lst (lev.map tI))) (l1 : jl ≠ jf) (inv : zGP zA l G (Th zA) 0 fd lev) (nk : (fd.map (·.1)).Nodup) (nl : lev.length <= fd.length) :
  OkS (zBJ (zLR (zD 3)) (za (zAK 6 (zAZ zR)) (za (zB3 (zAg (zD 3)) (gN 5) (zB3 (zAg (zBq (zD 2) (zD 5) (zAZ zR))) (gN 7) (sIf (tst (fOp (zCD true) (zD 7) (zD 4))) (za (zBc (fOp zAy (fOp zCK (zD 4) (zD 5)) (fC (.int 1))) (zD 4) (zD 7)) (zAi (fM z0 (zD 6) (zH (toD (zD 7)) zR)))) zBB))) (zAK 3 (zD 6)))) 1000 [some (mD zA), x1, some (.ref jd), some (.ref jl), some (.ref jf), y5, y6, y7] M0)
   fun o σ' M' => o = .nx /\ (∃ y3 y5 y6 y7, σ' = [some (mD zA), x1, some (.ref jd), y3, some (.ref jf), y5, y6, y7]) /\ (∃ fd', M'[jf]? = some (dT fd') /\ fd'.length <= 702 /\ ∀ t d, zL fd' t = some d ↔ Th zA t /\ ∃ n : Nat, Dst zA l G t n /\ d = .int (n : Int)) /\ M0.length <= M'.length /\ ∀ j, j < M0.length -> j ≠ jf -> M'[j]? = M0[j]? := by
 have hN : zA.length + zA.length * zA.length <= 702 := by
  have := zUW hR hR;omega
 have hB : zA.length * zA.length * l <= 8112 := zUW (zUW hR hR) hl;refine zCz (I := fun z σ M => ∃ (jl : Nat) (y5 y6 y7 : Option D) (k : Nat) (fd : List (List Int × D)) (lev : List (List Int)), σ = [some (mD zA), x1, some (.ref jd), some (.ref jl), some (.ref jf), y5, y6, y7] /\ M[jf]? = some (dT fd) /\ M[jl]? = some (.lst (lev.map tI)) /\ jl ≠ jf /\ zGP zA l G (Th zA) k fd lev /\ (fd.map (·.1)).Nodup /\ lev.length <= fd.length /\ M0.length <= M.length /\ (∀ j, j < M0.length -> j ≠ jf -> M[j]? = M0[j]?) /\ z = (702 - fd.length) + (if lev.isEmpty then 0 else 1)) ?_ 1000 ((702 - fd.length) + (if lev.isEmpty then 0 else 1)) _ _ (by split <;> omega) ⟨jl, y5, y6, y7, 0, fd, lev, rfl, hf, hv, l1, inv, nk, nl, zSu _, fun _ _ _ => rfl, rfl⟩;rintro z σ M ⟨jl, y5, y6, y7, k, fd, lev, rfl, hf, hv, l1, inv, nk, nl, hlen, fr, rfl⟩;have hfl := zTF (zE2 inv nk) hN;refine zK (M := M) (a := !(lev.map tI).isEmpty) (zQH rfl hv) ?_;cases lev with
 | nil =>
  exact ⟨rfl, ⟨_, _, _, _, rfl⟩, ⟨fd, hf, hfl, whole m inv⟩, hlen, fr⟩
 | cons g0 lev0 =>
  show OkS (za _ _ [some (mD zA), x1, some (.ref jd), some (.ref jl), some (.ref jf), y5, y6, y7] M) _;generalize hlv : g0 :: lev0 = lev at *;have hne0 : lev.isEmpty = false := by rw [<- hlv]; rfl
  rw [zY, zq];refine zK (M := M) (a := .fl []) (by unfold zAZ zR; dsimp only; rw [zS3 (zz (by simp))]) ?_;rw [zFa, zc, zY, zBQ];have fl := (zSr.mp hf).1;have vl := (zSr.mp hv).1;have up : ∀ {j : Nat}, j < M.length -> (M ++ [MO.lst ([] : List D)])[j]? = M[j]? := fun h => zSv h;have dl := (zSr.mp hd).1;refine ⟨_, _, _, (show zAg (zD 3) [some (mD zA), x1, some (.ref jd), some (.ref jl), some (.ref jf), y5, some (.ref M.length), y7] (M ++ [.lst []]) = some (lev.map tI, zEo (.dat (.ref jl)) (lev.map tI), M ++ [.lst []]) by
   unfold zAg;rw [show zD 3 [some (mD zA), x1, some (.ref jd), some (.ref jl), some (.ref jf), y5, some (.ref M.length), y7] (M ++ [.lst []]) = some (.dat (.ref jl), M ++ [.lst []]) from rfl];dsimp only; rw [zAa ((up vl).trans hv)]), ?_⟩
  have sz0 : Sz fd.length (fd, ([] : List (List Int))) := ⟨nk, by simp, (fun t h => by cases h), by simp⟩;have szw : Sz fd.length (zBl (zDT zA l) (k : Int) lev (fd, [])) := zFe _ _ lev sz0;have hflw := zTF (zE2 (zJB m oa inv) szw.ks) hN;refine OkS.mono (zO1 (k := (k : Int)) (src := zDT zA l) (st := (fd, [])) (Ts := Ts) (by omega) (by simp; omega) (by simp) ((up (by omega)).trans ((fr _ dl d1).trans hd)) d1 (by omega) ((up vl).trans hv) l1 (by omega) ?_ 8112 (fun g _ => zTF (zPN zA l g) hB) ?_ 702 (by omega) (fun us vs e => ?_) ⟨(up fl).trans hf, by simp, zSu _, fun _ _ _ _ => rfl⟩) ?_
  ·intro g;rcases hs g with ⟨j, e, q1, q2⟩ | q
   ·have jl' := (zSr.mp q2).1;exact .inl ⟨j, e, q1, by omega, (up (by omega)).trans ((fr _ jl' q1).trans q2)⟩
   ·exact .inr q
  ·intro g hg;obtain ⟨u, hd'⟩ := (inv.2 g).mp hg;exact (inv.1 g _).mpr ⟨u, k, zSu _, hd', rfl⟩
  ·have h3 := zHY (zDT zA l) (k : Int) vs (zBl (zDT zA l) (k : Int) us (fd, []));have h4 : zBl (zDT zA l) (k : Int) vs (zBl (zDT zA l) (k : Int) us (fd, [])) = zBl (zDT zA l) (k : Int) lev (fd, []) := by rw [e]; unfold zBl; rw [zUs]
   rw [h4] at h3;have h5 := (zFe (zDT zA l) (k : Int) us sz0).len;omega
  ·rintro o σ' M' ⟨rfl, ⟨y5, y7, rfl⟩, lv⟩;rw [zc, zq];refine zK (M := M') (a := .dat (.ref M.length)) rfl ?_;rw [zU];have sz : Sz fd.length (zBl (zDT zA l) (k : Int) lev (fd, [])) := zFe _ _ lev ⟨nk, by simp, (fun t h => by cases h), by simp⟩;have inv' := zJB m oa inv;generalize zBl (zDT zA l) (k : Int) lev (fd, []) = st at lv sz inv';have hfl' := zTF (zE2 inv' sz.ks) hN;have hsl := sz.len;refine ⟨(702 - st.1.length) + (if st.2.isEmpty then 0 else 1), ?_, M.length, y5, _, y7, k + 1, st.1, st.2, rfl, lv.f, lv.b, by omega, inv', sz.ks, by omega, ?_, ?_, rfl⟩
   ·rw [hne0];cases e : st.2 with
    | nil => simp; omega
    | cons a r => rw [e] at hsl; simp at hsl ⊢; omega
   ·have := lv.len; simp at this; omega
   ·intro j hj hjf;rw [lv.fr j (by simp; omega) hjf (by omega), up (by omega)];exact fr j hj hjf
theorem zLM {M : Mem} {ts : List (List Int)} (hf : f σ M = some (.dat (.ref jl), M)) (hj : M[jl]? = some (.lst (ts.map tI))) (nd : ts.Nodup) (hz : ts.length <= 80000) (hg : ∀ a, gN i a (zB4 own σ) = some ((zB4 own σ).set i (some a))) (hs : ∀ (a : D) M', zD i ((zB4 own σ).set i (some a)) M' = some (.dat a, M')) :
  zFB true own (zAg f) (gN i) zAO (zD i) (fC (.int 0)) σ M = some (.dat (.ref M.length), M ++ [dT (ts.map fun t => (t, .int 0))]) := by
 have hjl := (zSr.mp hj).1;unfold zFB zAg;rw [hf]; dsimp only;rw [zAa hj]; dsimp only;have loop : ∀ (r q : List (List Int)), q ++ r = ts -> zDQ (gN i) zAO (zD i) (fC (.int 0)) (zB4 own σ) M.length (ts.map tI) (zEo (.dat (.ref jl)) (ts.map tI)) (r.map tI) (M ++ [dT (q.map fun t => (t, .int 0))]) = some (M ++ [dT (ts.map fun t => (t, .int 0))]) := by
  intro r;induction r with
  | nil => intro q e; rw [zTY] at e; subst e; exact zL0 (.inl (by rw [zSv hjl]; exact hj))
  | cons x r ih =>
   intro q e;have hx : x ∉ q := fun z => by
    rw [<- e, zT7] at nd;exact nd.2.2 x z x zS2 rfl
   have hl : q.length < 90000 := by have := congrArg List.length e; simp at this; omega
   have hk : zL (q.map fun t => (t, D.int 0)) x = none := by
    cases e2 : zL (q.map fun t => (t, D.int 0)) x with
    | none => rfl
    | some d =>
     have := zCT.mp (show (zL (q.map fun t => (t, D.int 0)) x).isSome = true by rw [e2]; rfl);rw [zTC] at this;obtain ⟨y, hy, rfl⟩ := zS5.mp this;exact absurd hy hx
   have hgd : zA3 (zEo (.dat (.ref jl)) (ts.map tI)) (ts.map tI) (M ++ [dT (q.map fun t => (t, .int 0))]) := .inl (by rw [zSv hjl]; exact hj);rw [zS7, zKA (σ1 := (zB4 own σ).set i (some (tI x))) (k := tI x) (v := .int 0) (M' := M ++ [dT ((q ++ [x]).map fun t => (t, .int 0))]) hgd (hg _) (hs _ _) rfl]
   ·exact ih (q ++ [x]) (by rw [<- e]; simp)
   ·rw [zLD (T := q.map fun t => (t, .int 0)) (by simp) (by rw [zSx]; exact hl)];unfold zB2;rw [hk];simp
 have := loop ts [] rfl;rw [show zKS true = dT [] from rfl];rw [show (([] : List (List Int)).map fun t => (t, D.int 0)) = [] from rfl] at this;rw [this]
theorem zGs {zA : List (List Int)} (m : IsM zA l) (oa : zGc zA G) (hR : zA.length <= 26) (hl : l <= 12) {M : Mem} {ts : List (List Int)} (hj : M[jg]? = some (.lst (ts.map tI))) (nd : ts.Nodup) (hts : ∀ t, t ∈ ts ↔ Th zA t /\ G t) (hz : ts.length <= 80000) : Ok (zBh [mD zA, .ref jg] M) fun d M' => ∃ jf, d = .ref jf /\ M.length <= jf /\ (∃ fd, M'[jf]? = some (dT fd) /\ fd.length <= 702 /\ ∀ t d, zL fd t = some d ↔ Th zA t /\ ∃ n : Nat, Dst zA l G t n /\ d = .int (n : Int)) /\ M.length <= M'.length /\ ∀ j, j < M.length -> M'[j]? = M[j]? := by
 have hjl := (zSr.mp hj).1;unfold zBh;rw [zAr];unfold zDF;show OkS (za _ _ [some (mD zA), some (.ref jg), none, none, none, none, none, none] M) _;rw [zY, zq];refine zCf.mpr (zK (zAk rfl) (Ok.mono (zOt m (by omega) hl) ?_));rintro d M1 ⟨rfl, sr, h1, fr⟩;rw [zU, zc];refine zEN (d := .ref jg) rfl ?_;show OkS (za _ _ [some (mD zA), some (.ref jg), some (.ref M.length), some (.ref jg), none, none, none, none] M1) _;have hj1 := (fr _ hjl).trans hj;rw [zY, zq];refine zK (zLM (jl := jg) (ts := ts) rfl hj1 nd hz (fun _ => rfl) (fun _ _ => rfl)) ?_;rw [zU, zc];show OkS (za _ _ [some (mD zA), some (.ref jg), some (.ref M.length), some (.ref jg), some (.ref M1.length), none, none, none] _) _;obtain ⟨T, ed, hT, a1, a2, a3⟩ := sr.ex;have up : ∀ {j : Nat} {u : MO}, M1[j]? = some u -> (M1 ++ [dT (ts.map fun t => (t, D.int 0))])[j]? = some u := fun {j u} h => by rw [zSv (zSr.mp h).1]; exact h
 have ed' := (zSr.mp ed).1;rw [zY];refine OkS.mono (zNw (jf := M1.length) (jd := M.length) (jl := jg) (Ts := T) (lev := ts) (fd := ts.map fun t => (t, D.int 0)) m oa hR hl (by simp) (up ed) (by omega) ?_ (by simp) (up hj1) (by omega) (zLt hts ?_) ?_ (by simp)) ?_
 ·intro g;cases e : zL T g with
  | none => exact .inr ⟨rfl, a2 g e⟩
  | some d =>
   obtain ⟨j, rfl, q1, q2⟩ := a1 g d e;have := (zSr.mp q2).1;exact .inl ⟨j, rfl, by omega, up q2⟩
 ·intro t d;have gen : ∀ (ts : List (List Int)), zL (ts.map fun t => (t, D.int 0)) t = some d ↔ t ∈ ts /\ d = .int 0 := by
   intro ts;induction ts with
   | nil => simp [zL]
   | cons x r ih =>
    rw [zS7, zL];by_cases q : x = t
    ·subst q; simp [eq_comm]
    ·rw [zS6 q, ih, zS0];constructor
     ·rintro ⟨z1, z2⟩; exact ⟨.inr z1, z2⟩
     ·rintro ⟨z1 | z1, z2⟩
      ·exact absurd z1.symm q
      ·exact ⟨z1, z2⟩
  exact gen _
 ·rw [zTC];rw [show ((fun (x : List Int × D) => x.1) ∘ fun (t : List Int) => (t, D.int 0)) = id from rfl, List.map_id];exact nd
 ·rintro o σ' M' ⟨rfl, ⟨y3, y5, y6, y7, rfl⟩, ⟨fd, e1, e2, e3⟩, hlen, fr'⟩;rw [zc];rw [zS4] at hlen fr';refine zBR (d := .ref M1.length) rfl ⟨M1.length, rfl, by omega, ⟨fd, e1, e2, e3⟩, by omega, fun j hj => ?_⟩;rw [fr' j (by omega) (by omega), zSv (by omega)];exact fr j hj
noncomputable def zEu : FS := (zAp (ze zBh (zH (toD (zD 0)) (zH (toD (zAQ [1] (zAC (zH (toD (fB zBp (zn (zD 0) zAT))) zR)) (gN 1) zAO (zFA (zH (toD (zD 1)) zR)))) zR))))
noncomputable def zCt : FF := zCU 2 zEu
theorem zJq (m : IsM zA l) (hR : zA.length <= 26) (hl : l <= 12) : Ok (zCt [mD zA] M) fun d M' => ∃ jf, d = .ref jf /\ M.length <= jf /\ (∃ fd, M'[jf]? = some (dT fd) /\ fd.length <= 702 /\ ∀ t d, zL fd t = some d ↔ Th zA t /\ ∃ n : Nat, Dst zA l One t n /\ d = .int (n : Int)) /\ M.length <= M'.length /\ ∀ j, j < M.length -> M'[j]? = M[j]? := by
 unfold zCt;rw [zAr];unfold zEu;show OkS (zAp _ [some (mD zA), none] M) _;have er : zAC (zH (toD (fB zBp (zn (zD 0) zAT))) zR) [some (mD zA), none] M = some ((List.range zA.length).map (fun (k : Nat) => D.int k), none, M) := by
  rw [zBZ (j := (zA.length : Int)) (zGh rfl) (by omega) (by omega), zEk];rw [show (zA.length : Int).toNat = zA.length by omega]
 have ec : zAQ [1] (zAC (zH (toD (fB zBp (zn (zD 0) zAT))) zR)) (gN 1) zAO (zFA (zH (toD (zD 1)) zR)) [some (mD zA), none] M = some (.fl ((List.range zA.length).map fun (k : Nat) => tI [(k : Int)]), M) :=
  zDa (List.range zA.length) (fun (k : Nat) => D.int k) (fun (k : Nat) => tI [(k : Int)]) er trivial (by rw [List.length_range]; omega) fun k _ => ⟨_, rfl, rfl⟩
 have el : ((List.range zA.length).map fun (k : Nat) => tI [(k : Int)]) = ((zM zA).map fun r => [r]).map tI := by
  unfold zM; rw [zTC, zTC]; rfl
 rw [el] at ec;rw [zAt];refine zCf.mpr (zAw.mpr (zAn.mpr (zAJ.mpr ⟨_, rfl, ?_⟩)));rw [zU];refine zAw.mpr (zAn.mpr (zK ec ?_));rw [zFa, zCa];refine Ok.mono (zGs m zPL hR hl (jg := M.length) (ts := (zM zA).map fun r => [r]) (by simp) ?_ zN0 ?_) ?_
 ·unfold zM;rw [zTC];exact List.pairwise_map.mpr (List.Pairwise.imp (fun {a b} h z => h (by simp at z; omega)) List.nodup_range)
 ·unfold zM; simp; omega
 rintro d M' ⟨jf, rfl, h1, h2, h3, h4⟩;rw [zU];rw [zS4] at h1 h3 h4;refine ⟨jf, rfl, by omega, h2, by omega, fun j hj => ?_⟩;rw [h4 j (by omega), zSv hj]
end Lac
namespace Lac
open PySem PySem.Spec PyProof.Rows L2 L3 ST Law
theorem aC' {f : FE} {g : FA} {σ : Sd} {M M1 M2 : Mem} {d : D} {ds : List D} (h : toD f σ M = some (d, M1)) (hg : g σ M1 = some (ds, M2)) : zH (toD f) g σ M = some (d :: ds, M2) := by
 unfold zH; rw [h]; dsimp only; rw [hg]
theorem zPw (h : f σ M = some (.dat d, M)) : toD f σ M = some (d, M) := by unfold toD; rw [h]
theorem zK2 {M M1 : Mem} (h : f σ M = some (.fl xs, M1)) : toD f σ M = some (.ref M1.length, M1 ++ [.lst xs]) := by unfold toD; rw [h]
theorem zNY {g : FA} {σ : Sd} {M M1 : Mem} {ds : List D} (h : g σ M = some (ds, M1)) (hz : ds.length <= 100000) : zAZ g σ M = some (.fl ds, M1) := by
 unfold zAZ; rw [h]; dsimp only; rw [zS3 (zz hz)]
theorem zRD {g : FA} {σ : Sd} {M M1 : Mem} {ds : List D} (h : g σ M = some (ds, M1)) (hz : ds.length <= 100000) : zFA g σ M = some (.dat (.tup ds), M1) := by
 unfold zFA; rw [h]; dsimp only; rw [zS3 (zz hz)]
theorem zPf (hf : f σ M = some (.dat (.int i), M)) (hg : g σ M = some (.dat (.int j), M)) : fB zJF (zn f (zn g zAT)) σ M = some (.dat (.int (if j < i then j else i)), M) := by
 unfold fB zn zAT; rw [hf]; dsimp only; rw [hg]; rfl
theorem zOe {f : FE} {σ : Sd} {M M1 : Mem} {xs : List D} (h : f σ M = some (.fl xs, M1)) : zAg f σ M = some (xs, none, M1) := by
 unfold zAg; rw [h]; rfl
theorem zL1 (h1 : M[n]? = some (.lst xs)) (h2 : M[m]? = some (.lst ys)) (hz : xs.length + ys.length <= 90000) : zDu (.dat (.ref n)) [.ref m] M = some (.non, M.set n (.lst (xs ++ ys))) := by
 unfold zDu; dsimp only; rw [h1, h2]; dsimp only; rw [zS3 (zz (by omega))]
theorem zPh (hf : f σ M = some (.dat (.int i), M)) (hg : g σ M = some (.dat (.int j), M)) : fB zI1 (zn f (zn g zAT)) σ M = some (.dat (.int (if j > i then j else i)), M) := by
 unfold fB zn zAT; rw [hf]; dsimp only; rw [hg]; rfl
theorem zKw {m : FF} {a : FA} {σ : Sd} {M M1 M' : Mem} {ds : List D} {d : D} (h : a σ M = some (ds, M1)) (hm : m ds M1 = some (d, M')) : ze m a σ M = some (.dat d, M') := by
 unfold ze; rw [h]; dsimp only; rw [hm]
theorem zHG {α : Type} (hgd : zA3 gd all M) (enc out : α -> D) (keep : α -> Bool) : ∀ (as : List α), (∀ a ∈ as, ∃ σ1, g (enc a) σ = some σ1 /\ tc σ1 M = some (keep a, M) /\ (keep a = true -> te σ1 M = some (.dat (out a), M))) -> zAx g tc te σ all gd (as.map enc) M = some ((as.filter keep).map out, M)
 | [], _ => by
  rw [List.map_nil];unfold zAx;rw [zS3 hgd]; rfl
 | a :: r, h => by
  obtain ⟨σ1, e1, e2, e3⟩ := h a zS2;have ih := zHG (σ := σ) hgd enc out keep r fun b hb => h b (zS1 _ hb);rw [zS7];unfold zAx;rw [zS3 hgd, e1];dsimp only;rw [e2];cases hk : keep a with
  | false =>
   dsimp only;rw [ih, List.filter_cons_of_neg (by simp [hk])]
  | true =>
   dsimp only;rw [show toD te σ1 M = some (out a, M) by unfold toD; rw [e3 hk]];dsimp only;rw [ih, List.filter_cons_of_pos hk];rfl
theorem zFP {α : Type} {own : List Nat} {fi : FI} {g : FG} {tc : FT} {te : FE} {σ : Sd} {M M1 : Mem} {gd : Option (Mem -> Prop)} (as : List α) (enc out : α -> D) (keep : α -> Bool) (hi : fi σ M = some (as.map enc, gd, M1)) (hgd : zA3 gd (as.map enc) M1) (hz : as.length <= 100000)
  (he : ∀ a ∈ as, ∃ σ1, g (enc a) (zB4 own σ) = some σ1 /\ tc σ1 M1 = some (keep a, M1) /\ (keep a = true -> te σ1 M1 = some (.dat (out a), M1))) : zAQ own fi g tc te σ M = some (.fl ((as.filter keep).map out), M1) :=
 zj (zC5.mpr ⟨_, _, _, hi, by rw [zSx]; exact zz hz, zK (zHG hgd enc out keep as he) ⟨rfl, rfl⟩⟩)
theorem eqE : kEq (.dat (.int a)) (.dat (.int b)) M = some (.dat (.bl (decide (a = b))), M) := zj (zMN.mpr ⟨rfl, rfl⟩)
open Classical in
noncomputable def zH0 (zA : List (List Int)) (l : Nat) (G : List Int -> Prop) (t : List Int) : Nat := if h : ∃ n, Dst zA l G t n then Classical.choose h else 0
theorem zKj (h : Dst zA l G t n) : zH0 zA l G t = n := by
 unfold zH0;have hx : ∃ n, Dst zA l G t n := ⟨n, h⟩;rw [dif_pos hx];exact zC2 (Classical.choose_spec hx) h
theorem zNk (h : 0 < zH0 zA l G t) : Dst zA l G t (zH0 zA l G t) := by
 by_cases hx : ∃ n, Dst zA l G t n
 ·obtain ⟨n, hn⟩ := hx;rw [zKj hn]; exact hn
 ·unfold zH0 at h;rw [dif_neg hx] at h;omega
noncomputable def zPq (zA : List (List Int)) (l : Nat) (G : List Int -> Prop) (t : List Int) : Bool := decide (0 < zH0 zA l G t)
noncomputable def zDp (zA : List (List Int)) (l : Nat) (G : List Int -> Prop) : List (List Int) := (zZ (zM zA)).filter (zPq zA l G)
theorem zPG (h : g ∉ T.map (·.1)) : zB2 T g v = T ++ [(g, v)] := by
 unfold zB2;cases e : zL T g with
 | none => rfl
 | some d => exact absurd (zCT.mp (show (zL T g).isSome = true by rw [e]; rfl)) h
theorem zE3 : t ∈ zDp zA l G ↔ t ∈ zZ (zM zA) /\ ∃ n, Dst zA l G t (n + 1) := by
 unfold zDp zPq;rw [zTz];constructor
 ·rintro ⟨a, b⟩;have := zNk (zTk b);exact ⟨a, zH0 zA l G t - 1, by rw [show zH0 zA l G t - 1 + 1 = zH0 zA l G t by have := zTk b; omega]; exact this⟩
 ·rintro ⟨a, n, h⟩;exact ⟨a, zTw (by rw [zKj h]; omega)⟩
theorem zDz (hR : zA.length <= 26) : (zZ (zM zA)).length <= 676 := by
 have h1 := zDJ (zM zA);have hrl : (zM zA).length = zA.length := by unfold zM; simp
 rw [hrl] at h1;exact zTF h1 (zUW hR hR)
def zBM (a b : Int) : List Int := [if b < a then b else a, if b > a then b else a]
theorem zO8 : (ris [a, b]).length = 1 ↔ a = b := by
 constructor
 ·intro h;obtain ⟨r, e⟩ := List.length_eq_one_iff.mp h;have ha : a ∈ ris [a, b] := (zCk _ _).mpr (by simp);have hb : b ∈ ris [a, b] := (zCk _ _).mpr (by simp);rw [e, zTG] at ha hb;rw [ha, hb]
 ·rintro rfl;rw [show ris [a, a] = ris [a] from zEg (by simp), zIg (by simp)];rfl
theorem zIh (h : a ≠ b) : (zBM a b).Pairwise (· < ·) := by
 unfold zBM;simp only [List.pairwise_cons, zTG, forall_eq, zTJ, false_implies, implies_true, List.Pairwise.nil, and_true];split <;> split <;> omega
theorem zMg (h : a ≠ b) (w : List Int) : zJX zA (zBM a b) w = ris [zFD zA a w, zFD zA b w] := by
 rw [zMY (zIh h)];apply zEg;intro x;unfold zBM;by_cases q : b < a
 ·rw [zS3 q, zS6 (by omega)]; simp [or_comm]
 ·rw [zS6 q, zS3 (by omega)]; simp
theorem zPE (h : a ≠ b) (w : List Int) : One (zJX zA (zBM a b) w) ↔ zFD zA a w = zFD zA b w := by
 unfold One; rw [zMg h]; exact zO8
theorem zMn (h1 : fv σ M = some (.dat v, M)) (h2 : fo σ M = some (.dat (.ref n), M)) (h3 : fi σ M = some (.dat k, M)) (h4 : zFH M n k v = some M4) (q : P .nx σ M4) : OkS (zBc fv fo fi σ M) P := by
 refine ⟨.nx, σ, M4, ?_, q⟩;unfold zBc toD;rw [h1]; dsimp only; rw [h2]; dsimp only; rw [h3]; dsimp only; rw [h4]
noncomputable def zDK (g_rec : FF) : FS := (za (sIf (tst (zEz "tuple" (zD 1))) (za (sIf (zIx (zFQ (tst (zEz "tuple" (zD 0)))) (tst (fOp kNe (fB zBp (zn (zD 0) zAT)) (fB zBp (zn (zD 1) zAT))))) (zAp (fC (.bl false))) zBB)
  (zAp (fB zRo (zn (zAQ [2, 3] (zRM (zH (toD (zD 0)) (zH (toD (zD 1)) zR))) (zHN 2 3) zAO (ze g_rec (zH (toD (zD 2)) (zH (toD (zD 3)) zR)))) zAT)))) zBB)
  (za (sIf (tst (fOp (kIs false) (zD 1) (fC .non))) (zAp (fOp (kIs false) (zD 0) (fC .non))) zBB)
  (za (sIf (tst (zEz "bool" (zD 1))) (zAp (zKJ (zEz "bool" (zD 0)) (fOp kEq (zD 0) (zD 1)))) zBB)
  (zAp (zKJ (zEz "int" (zD 0)) (zKJ (zOK (zEz "bool" (zD 0))) (fOp kEq (zD 0) (zD 1))))))))
noncomputable def zAf : Nat -> FF
 | 0 => fun _ _ => none
 | n + 1 => zCU 4 (zDK (zAf n))
noncomputable def zC9 : FF := zAf 5
def zFl : D -> Bool
 | .non | .bl _ | .int _ => true
 | _ => false
theorem zJN (h : zFl d = true) : (zFK d).isSome = true := by cases d <;> first | rfl | cases h
theorem zI4 (h : zFl d = true) : kEq (.dat d) (.dat d) M = some (.dat (.bl true), M) := zNI (zJN h)
def Pn : Nat -> D -> Prop
 | 0, d => zFl d = true
 | n + 1, d => zFl d = true \/ ∃ ds, d = .tup ds /\ ds.length <= sizeLine /\ ∀ x ∈ ds, Pn n x
theorem Pn.int (n : Nat) (i : Int) : Pn n (.int i) := by cases n; exact rfl; exact .inl rfl
theorem Pn.tup (hz : ds.length <= 100000) (h : ∀ x ∈ ds, Pn n x) : Pn (n + 1) (.tup ds) := .inr ⟨ds, rfl, zz hz, h⟩
theorem Pn.ints (hz : c.length <= 100000) : Pn 1 (tI c) := Pn.tup (by simpa using hz) fun x hx => by obtain ⟨i, _, rfl⟩ := zS5.mp hx; exact Pn.int 0 i
theorem zMG : ∀ (n : Nat) (d : D) (M : Mem), Pn n d -> zAf (n + 1) [d, d] M = some (.bl true, M) := by
  intro n;have sc : ∀ (n : Nat) (d : D) (M : Mem), zFl d = true -> zAf (n + 1) [d, d] M = some (.bl true, M) := by
    intro n d M hs;refine zj ?_;unfold zAf;rw [zAr];unfold zDK;show OkS (za _ _ [some d, some d, none, none] M) _;cases d with
    | tup _ => cases hs
    | ref _ => cases hs
    | non =>
      refine zCY (isF rfl rfl (by decide)) ?_;refine zIH (zA6 (zi rfl rfl rfl)) (zBR (zi rfl rfl rfl) ⟨rfl, rfl⟩)
    | bl k =>
      refine zCY (isF rfl rfl (by decide)) (zCY (zA6 (zi rfl rfl rfl)) ?_);refine zIH (zQ5 rfl rfl (by decide)) (zBR (zE9 (isV rfl rfl (by decide)) (zi rfl rfl (zI4 rfl))) ⟨rfl, rfl⟩)
    | str x => cases hs
    | int i =>
      refine zCY (isF rfl rfl (by decide)) (zCY (zA6 (zi rfl rfl rfl)) (zCY (isF rfl rfl (by decide)) ?_));exact zBR (zE9 (isV rfl rfl (by decide)) (zE9 (zKM (isV rfl rfl (by decide))) (zi rfl rfl (zI4 rfl)))) ⟨rfl, rfl⟩
  induction n with
  | zero => exact fun d M h => sc 0 d M h
  | succ n ih =>
    intro d M h;rcases h with h | ⟨ds, rfl, hz, h⟩
    · exact sc (n + 1) d M h
    refine zj ?_;unfold zAf;rw [zAr];unfold zDK;show OkS (za _ _ [some (.tup ds), some (.tup ds), none, none] M) _;refine zIH (zQ5 rfl rfl (by decide)) (zCY ?_ ?_)
    · refine zj (zRC.mpr (zOd.mpr (zK (zQ5 rfl rfl (by decide)) ?_)))
      rw [zS6 (by decide)];refine zHu.mpr (zK (zi (zEA rfl zAl) (zEA rfl zAl) (zj (zSY.mpr ⟨rfl, rfl⟩))) ?_);rw [zIS]; simp
    · rw [zAt]
      refine zLj.mpr (zCq.mpr (zC5.mpr ⟨(ds.zip ds).map fun q => D.tup [q.1, q.2], none, M, rfl, ?_, ?_⟩))
      · rw [zSx, List.length_zip]; omega
      · refine Ok.mono (zCw (I := fun r acc M' => M' = M /\ (∃ rest : List D, r = (rest.zip rest).map (fun q => D.tup [q.1, q.2]) /\ ∀ x ∈ rest, Pn n x) /\ ∃ k : Nat, acc = (List.replicate k true).map D.bl) (Q := fun acc M' => M' = M /\ ∃ k : Nat, acc = (List.replicate k true).map D.bl) ?_ ?_ _ [] _ ⟨rfl, ⟨ds, rfl, h⟩, 0, rfl⟩) ?_
        · rintro x r acc M' ⟨rfl, ⟨rest, hr, hp⟩, k, rfl⟩
          cases rest with
          | nil => cases hr
          | cons y rest =>
            rw [List.zip_cons_cons, zS7] at hr;obtain ⟨rfl, rfl⟩ := zTs hr;refine ⟨zAz, _, rfl, zGb.mpr ?_⟩;rw [zS3 rfl];refine zK (zBv (zBm rfl (zAk rfl)) (ih y M' (hp y zS2))) ?_;rw [zU];exact ⟨rfl, ⟨rest, rfl, fun z hz => hp z (zS1 _ hz)⟩, k + 1, by rw [List.replicate_succ', zTg]; rfl⟩
        · rintro acc M' ⟨rfl, _, hk⟩
          exact ⟨zAz, rfl, hk⟩
        · rintro ys M' ⟨rfl, k, hk⟩
          rw [List.nil_append] at hk;subst hk;refine zD2.mpr ((zR1 zQ6 (zG3 _)).mpr ?_);rw [zU];refine ⟨?_, rfl⟩;simp
theorem zLp (n : Nat) (hn : n < 5) (hp : Pn n d) (e1 : f1 σ M = some (.dat d, M)) (e2 : f2 σ M = some (.dat d, M)) : ze zC9 (zH (toD f1) (zH (toD f2) zR)) σ M = some (.dat (.bl true), M) := by
  refine zBv (zBm e1 (zAk e2)) ?_;unfold zC9;have up : ∀ (m n : Nat) (d : D), n <= m -> Pn n d -> Pn m d := by
    intro m;induction m with
    | zero => intro n d h p; have : n = 0 := by omega
              subst this; exact p
    | succ m ih =>
      intro n d h p;cases n with
      | zero => exact .inl p
      | succ n =>
        rcases p with p | ⟨ds, e, hz, p⟩
        · exact .inl p
        · exact .inr ⟨ds, e, hz, fun x hx => ih n x (by omega) (p x hx)⟩
  exact zMG 4 d M (up 4 n d (by omega) hp)
theorem zMm {c r : Int} (c0 : 1 <= c) (r0 : 0 < r) (cr : c + r <= 28) {rest : FS} {τ : Sd} {P : Out -> Sd -> Mem -> Prop} {ns : List Int} (h : ns.length <= 63)
  (q : ∀ zA l M, IsM zA l -> c <= (zA.length : Int) -> (zA.length : Int) < c + r -> zA.length <= 27 -> l <= 6 -> Gen M 2 1 -> M[0]? = some (.fro (ns.map D.int)) -> OkS (rest (some (.ref 0) :: some (.ref 2) :: some (.int (zA.length : Int)) :: some (mD zA) :: τ) M) P) :
  OkS (za (zAK 1 (ze zBU (zH (toD (zD 0)) zR))) (za (zAK 2 (fOp zAy (fC (.int c)) (ze zf (zH (toD (zD 1)) (zH (toD (fC (.int r))) zR))))) (za (zAK 3 (ze zA0 (zH (toD (zD 1)) (zH (toD (zD 2)) (zH (toD (fOp zAy (fC (.int 1)) (ze zf (zH (toD (zD 1)) (zH (toD (fC (.int 6))) zR))))) zR))))) rest)) (some (.ref 0) :: none :: none :: none :: τ) [.fro (ns.map D.int)]) P := by
 rw [zY, zq];refine zCf.mpr (zK (zAk rfl) ?_);refine Ok.mono (zOJ h) ?_;rintro d M1 ⟨rfl, g1, e0, _⟩;rw [zU, zc, zY, zq];show Ok (fOp _ _ _ (some (.ref 0) :: some (.ref 2) :: none :: none :: τ) M1) _;refine zAV.mpr (zK rfl (zAL g1 rfl rfl r0 (by omega) fun i M2 i0 i1 nx2 => zK (a := .dat (.int (c + i))) rfl ?_));rw [zU, zc, zY, zq];show Ok (ze _ _ (some (.ref 0) :: some (.ref 2) :: some (.int (c + i)) :: none :: τ) M2) _;refine zCf.mpr (zAw.mpr (zAn.mpr (zK (a := .dat (.ref 2)) rfl ?_)));rw [zU];refine zAw.mpr (zAn.mpr (zK (a := .dat (.int (c + i))) rfl ?_));rw [zU];refine zAw.mpr (zAn.mpr (zAV.mpr (zK rfl (zAL nx2.gen rfl rfl (by decide) (by decide) fun j M3 j0 j1 nx3 => zK (a := .dat (.int (1 + j))) rfl ?_))));rw [zU, zCa];refine Ok.mono (zKL nx3.gen (by omega) (by omega) (by omega) (by omega)) ?_;rintro d M4 ⟨⟨zA, l, rfl, m, hR, hL⟩, nx4⟩;rw [zU, zc];have l3 : 0 < M3.length := by rw [nx3.len, nx2.len]; exact (zSr.mp e0).1
 have e4 : M4[0]? = some (.fro (ns.map D.int)) := (nx4.fr 0 l3 (by decide) (by decide)).trans ((nx3.fr 0 (by decide) (by decide)).trans ((nx2.fr 0 (by decide) (by decide)).trans e0));have := q zA l M4 m (by omega) (by omega) (by omega) (by omega) nx4.gen e4;rw [hR] at this;exact this
noncomputable def zDW : FS := (za (zAK 1 (zAZ zR))
  (za (zB3 (zAC (zH (toD (fB zBp (zn (zD 0) zAT))) zR)) (gN 2) (zAi (fM zDu (zD 1) (zH (toD (zAQ [3] (zAg (fSl (zD 0) (zDZ (fOp zAy (zD 2) (fC (.int 1)))) zD6)) (gN 3) zAO (zFA (zH (toD (fOp kIx (zD 0) (zD 2))) (zH (toD (zD 3)) zR))))) zR))))
  (zAp (zD 1))))
noncomputable def zAR : FF := zCU 4 zDW
noncomputable def zDC : FS := (za (zAK 3 (fOp kIx (fOp kIx (zD 0) (fOp kIx (zD 1) (fC (.int 0)))) (zD 2)))
  (za (zAK 4 (fOp kIx (fOp kIx (zD 0) (fOp kIx (zD 1) (fC (.int 1)))) (zD 2)))
  (zAp (zFA (zH (toD (fB zJF (zn (zD 3) (zn (zD 4) zAT)))) (zH (toD (fB zI1 (zn (zD 3) (zn (zD 4) zAT)))) zR))))))
noncomputable def zAu : FF := zFJ (zCU 5 zDC)
noncomputable def zDD : FS := (za (zAK 1 zGS)
  (za (zAK 2 (zAZ zR))
  (za (zAK 3 zGS)
  (za (zB3 (zAg (ze zAR (zH (toD (zDi (fB zBp (zn (zD 0) zAT)))) zR))) (gN 4) (zB3 (zAC (zH (toD (fB zBp (zn (fOp kIx (zD 0) (fC (.int 0))) zAT))) zR)) (gN 5) (za (zAK 6 (ze zAu (zH (toD (zD 0)) (zH (toD (zD 4)) (zH (toD (zD 5)) zR)))))
  (sIf (tst (fOp kLt (fOp kIx (zD 6) (fC (.int 0))) (fOp kIx (zD 6) (fC (.int 1))))) (zAi (fM z0 (zBw (zD 1) (zD 6) (zAZ zR)) (zH (toD (zD 4)) zR))) (sIf (tst (fOp (zCD true) (zD 4) (zD 3))) (za (zBc (fC (.bl true)) (zD 3) (zD 4))
  (zAi (fM z0 (zD 2) (zH (toD (zD 4)) zR)))) zBB)))))
  (za (zBJ (tst (fOp kNe (zD 2) (zAZ zR))) (zB3 (zAg (zBq (zD 1) (zEh (zD 2)) (zAZ zR))) (gN 4) (sIf (tst (fOp (zCD true) (zD 4) (zD 3))) (za (zBc (fC (.bl true)) (zD 3) (zD 4))
  (zAi (fM z0 (zD 2) (zH (toD (zD 4)) zR)))) zBB)) 1000)
  (zAp (zD 3)))))))
noncomputable def zBa : FF := zCU 7 zDD
theorem zJV {xs : List Int} (h : xs.Pairwise (· < ·)) (hi : i < xs.length) : xs.filter (fun b => decide (xs[i] < b)) = xs.drop (i + 1) := by
 have hg := List.pairwise_iff_getElem.mp h;have h1 : (xs.take (i + 1)).filter (fun b => decide (xs[i] < b)) = [] := by
  rw [List.filter_eq_nil_iff];intro b hb;obtain ⟨j, hj, rfl⟩ := zUx hb;rw [zUH] at hj;rw [List.getElem_take, zT6];rcases zUF j i with q | q
  ·have := hg j i (by omega) hi q; omega
  ·have : j = i := by omega
   subst this; omega
 have h2 : (xs.drop (i + 1)).filter (fun b => decide (xs[i] < b)) = xs.drop (i + 1) := by
  rw [List.filter_eq_self];intro b hb;obtain ⟨j, hj, rfl⟩ := zUx hb;rw [zVN] at hj;rw [List.getElem_drop, zT6];exact hg i (i + 1 + j) hi (by omega) (by omega)
 have key : ∀ f : Int -> Bool, (xs.take (i + 1)).filter f = [] -> (xs.drop (i + 1)).filter f = xs.drop (i + 1) -> xs.filter f = xs.drop (i + 1) := fun f a b => by
  have := List.filter_append (p := f) (xs.take (i + 1)) (xs.drop (i + 1));rw [List.take_append_drop, a, b] at this;simpa using this
 exact key _ h1 h2
def zEf (xs : List Int) (k : Nat) : List (List Int) := (List.range k).flatMap fun i => (xs.drop (i + 1)).map fun b => [xs.getD i 0, b]
theorem zL9 {xs : List Int} (h : xs.Pairwise (· < ·)) : zEf xs xs.length = zZ xs := by
 have e : zZ xs = (List.range xs.length).flatMap fun i => (xs.filter fun b => decide (xs.getD i 0 < b)).map fun b => [xs.getD i 0, b] := by
  unfold zZ;have : xs = (List.range xs.length).map fun i => xs.getD i 0 := by
   have := zGd (fun x : Int => x) 0 xs;simpa using this.symm
  conv => lhs; arg 2; rw [this]
  rw [List.flatMap_map]
 rw [e];unfold zEf;have : ∀ i ∈ List.range xs.length, (xs.drop (i + 1)).map (fun b => [xs.getD i 0, b]) = (xs.filter fun b => decide (xs.getD i 0 < b)).map fun b => [xs.getD i 0, b] := fun i hi => by
  have hi' := zTS.mp hi;rw [<- zJV h hi'];congr 2;funext b;rw [zSt, zSs hi'];rfl
 rw [List.flatMap_def, List.flatMap_def, List.map_congr_left this]
theorem zPH (xs : List Int) : ∀ k, (zEf xs k).length <= k * xs.length := by
 intro k;induction k with
 | zero => simp [zEf]
 | succ k ih =>
  unfold zEf at ih ⊢;rw [List.range_succ, List.flatMap_append, zS4];simp only [List.flatMap_cons, List.flatMap_nil, zTY, zSx, zVN];rw [Nat.add_mul]; omega
theorem zM9 {xs : List D} (hk : k <= xs.length) : L3.zFT xs (some (k : Int)) none = xs.drop k := by
 have ha : HT.sIx xs.length 0 (some (k : Int)) = k := by rw [HT.zOu]; omega
 unfold L3.zFT;rw [ha, show HT.sIx xs.length xs.length none = xs.length from rfl];exact List.take_of_length_le (by simp)
theorem zIE (n : Nat) (ps : List (List Int)) : D.unds n (ps.map tI) = true := by
 induction ps with
 | nil => rfl
 | cons p r ih => rw [zS7]; unfold D.unds; rw [ih, show D.und n (tI p) = true from zBk p]; rfl
theorem zEe (hj : M[j]? = some (.lst (xs.map D.int))) (hx : xs.Pairwise (· < ·)) (hz : xs.length <= 100) :
  Ok (zAR [.ref j] M) fun d M' => d = .ref M.length /\ ∃ us : Mem, M' = M ++ .lst ((zZ xs).map tI) :: us /\ ∀ u ∈ us, MO.und 0 u = true := by
 have hjl := (zSr.mp hj).1;unfold zAR;rw [zAr];unfold zDW;show OkS (za _ _ [some (.ref j), none, none, none] M) _;rw [zY, zq];refine zK (M := M) (a := .fl []) (zNY rfl (by simp)) (zAb ?_);rw [zc];show OkS (za _ _ [some (.ref j), some (.ref M.length), none, none] (M ++ [.lst []])) _;have up : ∀ us : Mem, (M ++ us)[j]? = some (.lst (xs.map D.int)) := fun us => by rw [zSv hjl]; exact hj
 rw [zY, zBQ];have el := zEA (f := zD 0) (σ := [some (.ref j), some (.ref M.length), none, none]) (M := M ++ [.lst []]) (x := .dat (.ref j)) rfl (zAa (up _));rw [zSx] at el;refine ⟨_, _, _, zBZ el (by omega) (by omega), ?_⟩;rw [show ((xs.length : Int)).toNat = xs.length by omega];refine zGZ (n := xs.length) (I := fun k σ M' => (∃ y2 y3, σ = [some (.ref j), some (.ref M.length), y2, y3]) /\ ∃ us : Mem, M' = M ++ .lst ((zEf xs k).map tI) :: us /\ ∀ u ∈ us, MO.und 0 u = true) ?_ ?_ _ _ ⟨⟨_, _, rfl⟩, [], by simp [zEf], (fun _ h => by cases h)⟩
 ·rintro k σ M' hk ⟨⟨y2, y3, rfl⟩, us, rfl, hu⟩;refine ⟨_, rfl, ?_⟩;show OkS (zAi _ [some (.ref j), some (.ref M.length), some (.int (k : Int)), y3] (M ++ .lst ((zEf xs k).map tI) :: us)) _;generalize hA : M ++ MO.lst ((zEf xs k).map tI) :: us = A;have a0 : A[j]? = some (.lst (xs.map D.int)) := by rw [<- hA]; exact up _
  have a1 : A[M.length]? = some (.lst ((zEf xs k).map tI)) := by rw [<- hA]; simp
  have al : M.length < A.length := (zSr.mp a1).1;rw [zCQ];have esl : fSl (zD 0) (zDZ (fOp zAy (zD 2) (fC (.int 1)))) zD6 [some (.ref j), some (.ref M.length), some (.int (k : Int)), y3] A = some (.fl ((xs.drop (k + 1)).map D.int), A) := by
   refine zj (zNE.mpr (zK (a := .dat (.ref j)) (M := A) rfl (zFm.mpr (zK (a := .dat (.int ((k + 1 : Nat) : Int))) (M := A) rfl (zGF.mpr (zGK.mpr ?_))))));rw [zKf (zBY a0) rfl, zM9 (by rw [zSx]; omega), List.map_drop];exact ⟨rfl, rfl⟩
  have ec := zDa (own := [3]) (g := gN 3) (te := zFA (zH (toD (fOp kIx (zD 0) (zD 2))) (zH (toD (zD 3)) zR))) (σ := [some (.ref j), some (.ref M.length), some (.int (k : Int)), y3]) (M := A) (xs.drop (k + 1)) D.int (fun b => tI [xs.getD k 0, b]) (zOe esl) trivial (by rw [zVN]; omega) fun b _ => ⟨_, rfl, zRD (zBm (zi (x := .dat (.ref j)) (y := .dat (.int (k : Int))) rfl rfl (zD5 (zAa a0) (zKb (by rw [zTB, zSs hk, zSt, zSs hk]; rfl)))) (zAk (d := .int b) rfl)) (by simp)⟩;have htl := zPH xs k;have hmul : k * xs.length <= 100 * 100 := zUW (by omega) hz;refine zJj.mpr (zK (a := .dat (.ref M.length)) (M := A) rfl ⟨⟨_, zBY a1⟩, zAw.mpr (zAn.mpr (zK ec (zAb ?_)))⟩);rw [zCa];refine zK (zL1 (n := M.length) (m := A.length) (xs := (zEf xs k).map tI) (ys := (xs.drop (k + 1)).map fun b => tI [xs.getD k 0, b]) (by rw [zSv al]; exact a1) (zAU _ _) (by rw [zSx, zSx, zVN]; omega)) ?_;refine ⟨⟨_, _, rfl⟩, us ++ [.lst ((xs.drop (k + 1)).map fun b => tI [xs.getD k 0, b])], ?_, fun u hu' => ?_⟩
  ·rw [<- hA, zTu, List.set_append_right _ _ (zSu _)];have : (zEf xs (k + 1)).map tI = (zEf xs k).map tI ++ (xs.drop (k + 1)).map fun b => tI [xs.getD k 0, b] := by
    unfold zEf;rw [List.range_succ, List.flatMap_append, zTg];simp [zTC, Function.comp_def]
   rw [this];simp
  ·rcases zTE.mp hu' with q | q
   ·exact hu u q
   ·rw [zTG] at q; subst q;show D.unds 0 _ = true;rw [show (xs.drop (k + 1)).map (fun b => tI [xs.getD k 0, b]) = ((xs.drop (k + 1)).map fun b => [xs.getD k 0, b]).map tI by rw [zTC]; rfl];exact zIE 0 _
 ·rintro σ M' ⟨⟨y2, y3, rfl⟩, us, rfl, hu⟩;rw [zc];exact zBR (d := .ref M.length) rfl ⟨rfl, us, by rw [zL9 hx], hu⟩
theorem zLK {zA : List (List Int)} {l : Nat} (m : IsM zA l) {a b x : Int} (a0 : 0 <= a) (a1 : a < zA.length) (b0 : 0 <= b) (b1 : b < zA.length) (x0 : 0 <= x) (x1 : x < l) {M : Mem} : zAu [mD zA, tI [a, b], .int x] M = some (tI (zBM (zBE zA a x) (zBE zA b x)), M) := by
 refine zj ?_;unfold zAu;refine zFg ?_ ?_
 ·unfold D.unds D.unds D.unds D.unds;rw [zGQ, show D.und 0 (tI [a, b]) = true from zBk _]; rfl
 rw [zAr];unfold zDC;show OkS (za _ _ [some (mD zA), some (tI [a, b]), some (.int x), none, none] []) _;refine zEN (m.ix a0 a1 x0 x1 (f1 := zD 0) (f2 := fOp kIx (zD 1) (fC (.int 0))) (f3 := zD 2) rfl (zi (x := .dat (tI [a, b])) (y := .dat (.int 0)) rfl rfl (zD5 zAl rfl)) rfl) ?_;refine zEN (m.ix b0 b1 x0 x1 (f1 := zD 0) (f2 := fOp kIx (zD 1) (fC (.int 1))) (f3 := zD 2) rfl (zi (x := .dat (tI [a, b])) (y := .dat (.int 1)) rfl rfl (zD5 zAl rfl)) rfl) ?_;exact zBR (d := tI (zBM (zBE zA a x) (zBE zA b x))) (zRD (zBm (zPf (i := zBE zA a x) (j := zBE zA b x) rfl rfl) (zAk (zPh (i := zBE zA a x) (j := zBE zA b x) rfl rfl))) (by simp [zBM])) ⟨zBk _, rfl, rfl⟩
theorem zL7 (h : p ≠ q) : zBM p q = ris [p, q] := by
 refine (zIg (zIh h)).symm.trans (zEg fun x => ?_);unfold zBM;by_cases z : q < p
 ·rw [zS3 z, zS6 (by omega)]; simp [or_comm]
 ·rw [zS6 z, zS3 (by omega)]
theorem zN4 : (zBM p q).getD 0 0 < (zBM p q).getD 1 0 ↔ p ≠ q := by
 unfold zBM;show (if q < p then q else p) < (if q > p then q else p) ↔ _;constructor
 ·intro h e; subst e; simp at h
 ·intro h; split <;> split <;> omega
theorem Sr.frame {zA : List (List Int)} {M M' : Mem} {jd lo : Nat} {ps : List (List Int × Int)} (sr : Sr zA M jd lo ps) (h : ∀ j, j = jd \/ lo < j -> M'[j]? = M[j]?) : Sr zA M' jd lo ps := by
 obtain ⟨T, ed, hT, h1, h2, h3⟩ := sr.ex;refine ⟨T, (h jd (.inl rfl)).trans ed, hT, fun g d hd => ?_, h2, h3⟩;obtain ⟨j, rfl, hj, ej⟩ := h1 g d hd;exact ⟨j, rfl, hj, (h j (.inr hj)).trans ej⟩
theorem zJR {zA : List (List Int)} {M : Mem} {jd lo : Nat} {ps : List (List Int × Int)} (hps : ps.length < 50000) (hlo : jd < lo) (hlo2 : lo < M.length) (sr : Sr zA M jd lo ps) (hAd : ∀ T, M[jd]? = some (dT T) -> ∀ q ∈ T, ∃ j, q.2 = .ref j /\ j < M.length) {p goal : List Int} {x : Int} (hg : setR zA p x = goal) {σ : Sd} {i1 i6 i4 : Nat}
  (v1 : ∀ M, zD i1 σ M = some (.dat (.ref jd), M)) (v6 : ∀ M, zD i6 σ M = some (.dat (tI goal), M)) (v4 : ∀ M, zD i4 σ M = some (.dat (tI p), M)) :
  OkS (zAi (fM z0 (zBw (zD i1) (zD i6) (zAZ zR)) (zH (toD (zD i4)) zR)) σ M) fun o σ' M' => o = .nx /\ σ' = σ /\ Sr zA M' jd lo (ps ++ [(p, x)]) /\ (∀ T, M'[jd]? = some (dT T) -> ∀ q ∈ T, ∃ j, q.2 = .ref j /\ j < M'.length) /\ M.length <= M'.length /\ (∀ j, j <= lo -> j ≠ jd -> M'[j]? = M[j]?) /\ ∀ (j : Nat) u, lo < j -> M'[j]? = some u -> (∃ ts : List (List Int), u = .lst (ts.map tI)) \/ M[j]? = some u := by
 obtain ⟨T, ed, hT, h1, h2, h3⟩ := sr.ex;have jdl : jd < M.length := (zSr.mp ed).1;have ed' : (M ++ [MO.lst ([] : List D)])[jd]? = some (dT T) := by rw [zSv jdl]; exact ed
 have last : ∀ (A : Mem) (T' : List (List Int × D)) (j : Nat), zBw (zD i1) (zD i6) (zAZ zR) σ M = some (.dat (.ref j), A) -> A[jd]? = some (dT T') -> zL T' goal = some (.ref j) -> lo < j -> A[j]? = some (.lst ((zAd zA ps goal).map tI)) -> T'.length <= ps.length + 1 -> (∀ q ∈ T', ∃ j, q.2 = .ref j /\ j < A.length) -> M.length <= A.length -> (∀ j, j <= lo -> j ≠ jd -> A[j]? = M[j]?) ->
   (∀ (j : Nat) u, lo < j -> A[j]? = some u -> (∃ ts : List (List Int), u = .lst (ts.map tI)) \/ M[j]? = some u) ->
   (∀ g d, zL T' g = some d -> ∃ j, d = .ref j /\ lo < j /\ A[j]? = some (.lst ((zAd zA ps g).map tI))) -> (∀ g, zL T' g = none -> zAd zA ps g = []) -> (∀ g g' j, zL T' g = some (.ref j) -> zL T' g' = some (.ref j) -> g = g') ->
   OkS (zAi (fM z0 (zBw (zD i1) (zD i6) (zAZ zR)) (zH (toD (zD i4)) zR)) σ M) fun o σ' M' => o = .nx /\ σ' = σ /\ Sr zA M' jd lo (ps ++ [(p, x)]) /\ (∀ T, M'[jd]? = some (dT T) -> ∀ q ∈ T, ∃ j, q.2 = .ref j /\ j < M'.length) /\ M.length <= M'.length /\ (∀ j, j <= lo -> j ≠ jd -> M'[j]? = M[j]?) /\ ∀ (j : Nat) u, lo < j -> M'[j]? = some u -> (∃ ts : List (List Int), u = .lst (ts.map tI)) \/ M[j]? = some u := by
  intro A T' j hsd ea el hj ej hz hAt hle hfr hkd k1 k2 k3;rw [zCQ];have hfl : (zAd zA ps goal).length <= ps.length := by unfold zAd; rw [zSx]; exact zVE _ _
  have jl : j < A.length := (zSr.mp ej).1;refine zJj.mpr (zK hsd ⟨⟨_, zBY ej⟩, zK (zAk (v4 A)) ?_⟩);rw [zEP ej (by rw [zSx]; exact zTD (m := 95000) (by omega) (zz (by omega)))];refine ⟨rfl, rfl, ⟨T', by rw [zTI (by omega)]; exact ea, by simpa using hz, fun g d hd => ?_, fun g hd => ?_, k3⟩, fun T2 e2 => ?_, by simpa using hle, fun i hi hn => by rw [zTI (by omega)]; exact hfr i hi hn, fun i u hi hu => ?_⟩
  ·obtain ⟨j', rfl, hj', ej'⟩ := k1 g d hd;refine ⟨j', rfl, hj', ?_⟩;rw [zDI, hg];by_cases hgg : goal = g
   ·subst hgg;rw [el] at hd;cases hd;rw [zTi jl, zS3 rfl, zTg]; rfl
   ·rw [zS6 hgg, zTY];have : j ≠ j' := fun z => hgg (k3 goal g j el (by rw [z]; exact hd));rw [zTI this]; exact ej'
  ·rw [zDI, hg, zS6 (fun z => by rw [<- z, el] at hd; cases hd), zTY];exact k2 g hd
  ·rw [zTI (by omega), ea] at e2;have eT : zCx T' = zCx T2 := MO.dicT.inj (zTo e2);intro q hq;have hm : (tI q.1, q.2) ∈ zCx T2 := zS5.mpr ⟨q, hq, rfl⟩;rw [<- eT] at hm;obtain ⟨q', hq', e'⟩ := zS5.mp hm;obtain ⟨j', h1', h2'⟩ := hAt q' hq';refine ⟨j', ?_, by rw [zVD]; exact h2'⟩;rw [<- h1']; exact (congrArg Prod.snd e').symm
  ·by_cases q : j = i
   ·subst q;rw [zTi jl] at hu;cases hu;exact .inl ⟨zAd zA ps goal ++ [p], by simp⟩
   ·rw [zTI q] at hu;exact hkd i u hi hu
 have esd : zBw (zD i1) (zD i6) (zAZ zR) σ M = match zL T goal with
   | some v => some (EV.dat v, M ++ [MO.lst ([] : List D)])
   | none => some (EV.dat (.ref M.length), (M ++ [MO.lst ([] : List D)]).set jd (dT (zB2 T goal (.ref M.length)))) := by
  unfold zBw;rw [zPw (v1 M)];dsimp only;rw [ed];dsimp only;rw [zPw (v6 M)];dsimp only;rw [zK2 (zNY (rfl : zR σ M = some ([], M)) (by simp))];dsimp only;rw [ed', zEp];dsimp only;rw [zS3 (by rw [zSx]; exact zTD (m := 95000) (by omega) (zz (by omega))), zJr, zP6];all_goals (cases zL T goal <;> rfl)
 cases hl : zL T goal with
 | some d =>
  obtain ⟨j, rfl, hj, ej⟩ := h1 goal d hl;rw [hl] at esd;have jl := (zSr.mp ej).1;refine last (M ++ [.lst []]) T j esd ed' hl hj (by rw [zSv jl]; exact ej) (by omega) (fun q hq => by obtain ⟨j', a, b⟩ := hAd T ed q hq; exact ⟨j', a, by simp; omega⟩) (by simp) (fun i hi _ => zSv (by omega)) (fun i u hi hu => ?_) (fun g d hd => ?_) h2 h3
  ·rcases zUF i M.length with q | q
   ·rw [zSv q] at hu; exact .inr hu
   ·have := (zSr.mp hu).1;rw [zS4, List.length_singleton] at this;have : i = M.length := by omega
    subst this;rw [zAU] at hu;cases hu;exact .inl ⟨[], rfl⟩
  ·obtain ⟨j', rfl, hj', ej'⟩ := h1 g d hd;exact ⟨j', rfl, hj', by rw [zSv (zSr.mp ej').1]; exact ej'⟩
 | none =>
  rw [hl] at esd;have e0 := h2 goal hl;have hput := fun g => zCp T goal g (.ref M.length);refine last _ (zB2 T goal (.ref M.length)) M.length esd (zTi (by simp; omega)) (by rw [hput, zS3 rfl]) hlo2 ?_ (by have := zF1 T goal (.ref M.length); omega) (fun q hq => ?_) (by simp) (fun i hi hn => ?_) (fun i u hi hu => ?_) (fun g d hd => ?_) (fun g hd => ?_) (fun g g' j hd hd' => ?_)
  ·rw [zTI (by omega), e0]; simp
  ·unfold zB2 at hq;rw [hl] at hq;rcases zTE.mp hq with z | z
   ·obtain ⟨j', a, b⟩ := hAd T ed q z;exact ⟨j', a, by simp; omega⟩
   ·rw [zTG] at z; subst z;exact ⟨M.length, rfl, by simp⟩
  ·rw [zTI (Ne.symm hn), zSv (by omega)]
  ·rw [zTI (by omega)] at hu;rcases zUF i M.length with q | q
   ·rw [zSv q] at hu; exact .inr hu
   ·have := (zSr.mp hu).1;rw [zS4, List.length_singleton] at this;have : i = M.length := by omega
    subst this;rw [zAU] at hu;cases hu;exact .inl ⟨[], rfl⟩
  ·rw [hput] at hd;by_cases hgg : goal = g
   ·subst hgg;rw [zS3 rfl] at hd;cases hd;exact ⟨M.length, rfl, hlo2, by rw [zTI (by omega), e0]; simp⟩
   ·rw [zS6 hgg] at hd;obtain ⟨j, rfl, hj, ej⟩ := h1 g d hd;exact ⟨j, rfl, hj, by rw [zTI (by omega), zSv (zSr.mp ej).1]; exact ej⟩
  ·rw [hput] at hd;by_cases hgg : goal = g
   ·rw [zS3 hgg] at hd; cases hd
   ·rw [zS6 hgg] at hd; exact h2 g hd
  ·rw [hput] at hd hd';by_cases a : goal = g
   ·by_cases b : goal = g'
    ·rw [<- a, <- b]
    ·rw [zS3 a] at hd;rw [zS6 b] at hd';cases hd;obtain ⟨j, e, _, ej⟩ := h1 g' _ hd';cases e;exact absurd (zSr.mp ej).1 (zTW _)
   ·rw [zS6 a] at hd;by_cases b : goal = g'
    ·rw [zS3 b] at hd';cases hd';obtain ⟨j, e, _, ej⟩ := h1 g _ hd;cases e;exact absurd (zSr.mp ej).1 (zTW _)
    ·rw [zS6 b] at hd';exact h3 g g' j hd hd'
abbrev jnT (J : List (List Int)) : List (List Int × D) := J.map fun p => (p, D.bl true)
theorem zEZ : (zL (jnT J) p).isSome = true ↔ p ∈ J := by
 rw [zCT, zTC];show p ∈ J.map (fun p => p) ↔ _;rw [List.map_id']
structure Jn (zA : List (List Int)) (B M : Mem) (jA jF jJ : Nat) (ps : List (List Int × Int)) (F J : List (List Int)) : Prop where
 a : Sr zA M jA (B.length - 1) ps
 ad : ∀ T, M[jA]? = some (dT T) -> ∀ q ∈ T, ∃ j, q.2 = .ref j /\ j < M.length
 f : M[jF]? = some (.lst (F.map tI))
 j : M[jJ]? = some (dT (jnT J))
 len : B.length <= M.length
 fr : ∀ i, i < B.length -> i ≠ jA -> i ≠ jF -> i ≠ jJ -> M[i]? = B[i]?
 wf : ∀ (i : Nat) u, B.length <= i -> M[i]? = some u -> ∃ ts : List (List Int), u = .lst (ts.map tI)
def zEt (st : List (List Int) × List (List Int)) (p : List Int) : List (List Int) × List (List Int) := if p ∈ st.2 then st else (st.1 ++ [p], st.2 ++ [p])
theorem zK3 {zA : List (List Int)} {B M : Mem} {jA jF jJ : Nat} {ps : List (List Int × Int)} {F J : List (List Int)} (h : Jn zA B M jA jF jJ ps F J) (dA : jA < B.length - 1) (dF : jF < B.length - 1) (dJ : jJ < B.length - 1) (n1 : jA ≠ jF) (n2 : jA ≠ jJ) (n3 : jF ≠ jJ) (zF : F.length < 5000) (zJ : J.length < 5000)
  {σ : Sd} {i4 i3 i2 : Nat} {p : List Int} (v4 : ∀ M, zD i4 σ M = some (.dat (tI p), M)) (v3 : ∀ M, zD i3 σ M = some (.dat (.ref jJ), M)) (v2 : ∀ M, zD i2 σ M = some (.dat (.ref jF), M)) :
  OkS (sIf (tst (fOp (zCD true) (zD i4) (zD i3))) (za (zBc (fC (.bl true)) (zD i3) (zD i4)) (zAi (fM z0 (zD i2) (zH (toD (zD i4)) zR)))) zBB σ M) fun o σ' M' => o = .nx /\ σ' = σ /\ Jn zA B M' jA jF jJ ps (zEt (F, J) p).1 (zEt (F, J) p).2 /\ M'.length = M.length /\ ∀ i, i ≠ jF -> i ≠ jJ -> M'[i]? = M[i]? := by
 have e1 := zi (k := zCD true) (v4 M) (v3 M) (zNm h.j);rw [zS3 rfl] at e1;rw [zBH];refine zK (zA6 e1) ?_;unfold zEt;by_cases hp : p ∈ J
 ·rw [zEZ.mpr hp, zS3 hp];show OkS (zBB σ M) _;rw [zA4];exact ⟨rfl, rfl, h, rfl, fun _ _ _ => rfl⟩
 ·have hn : (zL (jnT J) p).isSome = false := by
   cases e : (zL (jnT J) p).isSome with
   | false => rfl
   | true => exact absurd (zEZ.mp e) hp
  rw [hn, zS6 hp];show OkS (za _ _ σ M) _;rw [zY];have hF := h.f;have hJl := (zSr.mp h.j).1;have hFl := (zSr.mp h.f).1;refine zMn (v := .bl true) rfl (v3 _) (v4 _) (zLD h.j (by rw [zSx]; omega)) ?_;have hnk : p ∉ (jnT J).map (·.1) := fun z => hp (zEZ.mp (zCT.mpr z));rw [zPG hnk, zc, zCQ];have hF2 : (M.set jJ (dT (jnT J ++ [(p, .bl true)])))[jF]? = some (.lst (F.map tI)) := by rw [zTI (Ne.symm n3)]; exact h.f
  refine zJj.mpr (zK (v2 _) ⟨⟨_, zBY hF2⟩, zK (zAk (v4 _)) ((zEP hF2 (by rw [zSx]; exact zTD (m := 5000) zF (zz (by omega)))).mpr ?_)⟩);have fr : ∀ i, i ≠ jF -> i ≠ jJ -> ((M.set jJ (dT (jnT J ++ [(p, .bl true)]))).set jF (.lst (F.map tI ++ [tI p])))[i]? = M[i]? := fun i q1 q2 => by
   rw [zTI (Ne.symm q1), zTI (Ne.symm q2)]
  refine ⟨rfl, rfl, ⟨h.a.frame fun i hi => fr i (by omega) (by omega), fun T e q hq => by rw [zVD, zVD]; exact h.ad T ((fr jA n1 n2).symm.trans e) q hq, ?_, ?_, by simp; exact h.len, fun i hi q1 q2 q3 => (fr i q2 q3).trans (h.fr i hi q1 q2 q3), fun i u hi hu => h.wf i u hi ((fr i (by omega) (by omega)).symm.trans hu)⟩, by simp, fr⟩
  ·rw [zTi (by rw [zVD]; exact hFl)]; simp
  ·rw [zTI n3, zTi hJl]; simp
theorem zBn : ∀ (qs : List (List Int)) (F J : List (List Int)), ∃ new : List (List Int), qs.foldl zEt (F, J) = (F ++ new, J ++ new) /\ new.Nodup /\ (∀ p ∈ new, p ∈ qs /\ p ∉ J) /\ ∀ p ∈ qs, p ∈ J ++ new
 | [], F, J => ⟨[], by simp, by simp, (fun _ h => by cases h), (fun _ h => by cases h)⟩
 | q :: qs, F, J => by
  by_cases h : q ∈ J
  ·obtain ⟨new, e, nd, h1, h2⟩ := zBn qs F J;refine ⟨new, ?_, nd, fun p hp => ⟨zS1 _ (h1 p hp).1, (h1 p hp).2⟩, fun p hp => ?_⟩
   ·rw [List.foldl_cons, show zEt (F, J) q = (F, J) from zS3 h]; exact e
   ·rcases zS0.mp hp with rfl | z
    ·exact zT8 _ h
    ·exact h2 p z
  ·obtain ⟨new, e, nd, h1, h2⟩ := zBn qs (F ++ [q]) (J ++ [q]);refine ⟨q :: new, ?_, List.nodup_cons.mpr ⟨fun z => (h1 q z).2 (by simp), nd⟩, fun p hp => ?_, fun p hp => ?_⟩
   ·rw [List.foldl_cons, show zEt (F, J) q = (F ++ [q], J ++ [q]) from zS6 h, e]; simp
   ·rcases zS0.mp hp with rfl | z
    ·exact ⟨zS2, h⟩
    ·exact ⟨zS1 _ (h1 p z).1, fun y => (h1 p z).2 (zT8 _ y)⟩
   ·rcases zS0.mp hp with rfl | z
    ·simp
    ·have := h2 p z;simpa using this
def isP (zA : List (List Int)) (q : List Int × Int) : Bool := decide ((setR zA q.1 q.2).length = 2)
def psP (zA : List (List Int)) (ps : List (List Int × Int)) : List (List Int × Int) := ps.filter (isP zA)
def jf (zA : List (List Int)) (ps : List (List Int × Int)) : List (List Int) × List (List Int) := ((ps.filter fun q => !isP zA q).map (·.1)).foldl zEt ([], [])
theorem zJa (zA : List (List Int)) (ps : List (List Int × Int)) (q : List Int × Int) : psP zA (ps ++ [q]) = psP zA ps ++ (if isP zA q then [q] else []) := by
 unfold psP;rw [List.filter_append];congr 1;cases h : isP zA q with
 | true => rw [List.filter_cons_of_pos h]; rfl
 | false => rw [List.filter_cons_of_neg (by simp [h])]; rfl
theorem zKp (zA : List (List Int)) (ps : List (List Int × Int)) (q : List Int × Int) : jf zA (ps ++ [q]) = if isP zA q then jf zA ps else zEt (jf zA ps) q.1 := by
 unfold jf;rw [List.filter_append, zTg, zUs];cases h : isP zA q with
 | true => rw [List.filter_cons_of_neg (by simp [h])]; rfl
 | false => rw [List.filter_cons_of_pos (by simp [h])]; rfl
theorem zHm (zA : List (List Int)) (ps : List (List Int × Int)) : (jf zA ps).1 = (jf zA ps).2 /\ (jf zA ps).2.Nodup /\ ∀ p, p ∈ (jf zA ps).2 ↔ ∃ x, (p, x) ∈ ps /\ isP zA (p, x) = false := by
 obtain ⟨new, e, nd, h1, h2⟩ := zBn ((ps.filter fun q => !isP zA q).map (·.1)) [] [];have e' : jf zA ps = ([] ++ new, [] ++ new) := e;rw [e'];refine ⟨rfl, by simpa using nd, fun p => ?_⟩;have mem : p ∈ (ps.filter fun q => !isP zA q).map (·.1) ↔ ∃ x, (p, x) ∈ ps /\ isP zA (p, x) = false := by
  rw [zS5];constructor
  ·rintro ⟨⟨p', x⟩, hq, rfl⟩;obtain ⟨a, b⟩ := zTz.mp hq;exact ⟨x, a, by simpa using b⟩
  ·rintro ⟨x, a, b⟩;exact ⟨(p, x), zTz.mpr ⟨a, by simpa using b⟩, rfl⟩
 rw [<- mem];constructor
 ·intro h; exact (h1 p (by simpa using h)).1
 ·intro h; exact h2 p h
theorem zRL (zA : List (List Int)) {P : List (List Int)} (h : ∀ q ∈ ps, q.1 ∈ P) : (jf zA ps).2.length <= P.length := by
 obtain ⟨_, nd, mem⟩ := zHm zA ps;exact zCs _ _ nd fun p hp => by obtain ⟨x, hx, _⟩ := (mem p).mp hp; exact h _ hx
theorem zRu {zA : List (List Int)} {l : Nat} (m : IsM zA l) {B M : Mem} {jA jF jJ : Nat} {ps : List (List Int × Int)} (h : Jn zA B M jA jF jJ (psP zA ps) (jf zA ps).1 (jf zA ps).2) (dA : jA < B.length - 1) (dF : jF < B.length - 1) (dJ : jJ < B.length - 1) (n1 : jA ≠ jF) (n2 : jA ≠ jJ) (n3 : jF ≠ jJ) (zP : ps.length < 50000) (zJ : (jf zA ps).2.length < 5000)
  {p : List Int} (hp : p ∈ zZ (zM zA)) {x : Int} (x0 : 0 <= x) (x1 : x < l) {y6 : Option D} :
  OkS (za (zAK 6 (ze zAu (zH (toD (zD 0)) (zH (toD (zD 4)) (zH (toD (zD 5)) zR))))) (sIf (tst (fOp kLt (fOp kIx (zD 6) (fC (.int 0))) (fOp kIx (zD 6) (fC (.int 1))))) (zAi (fM z0 (zBw (zD 1) (zD 6) (zAZ zR)) (zH (toD (zD 4)) zR))) (sIf (tst (fOp (zCD true) (zD 4) (zD 3))) (za (zBc (fC (.bl true)) (zD 3) (zD 4)) (zAi (fM z0 (zD 2) (zH (toD (zD 4)) zR)))) zBB)) [some (mD zA), some (.ref jA), some (.ref jF), some (.ref jJ), some (tI p), some (.int x), y6] M)
   fun o σ' M' => o = .nx /\ (∃ y, σ' = [some (mD zA), some (.ref jA), some (.ref jF), some (.ref jJ), some (tI p), some (.int x), y]) /\ Jn zA B M' jA jF jJ (psP zA (ps ++ [(p, x)])) (jf zA (ps ++ [(p, x)])).1 (jf zA (ps ++ [(p, x)])).2 := by
 obtain ⟨a, b, rfl, ha, hb, hlt⟩ := zAo.mp hp;have ha' := zA1.mp ha;have hb' := zA1.mp hb;refine zEN (zBv (zBm (d := mD zA) rfl (zBm (d := tI [a, b]) rfl (zAk (d := .int x) rfl))) (zLK m ha'.1 ha'.2 hb'.1 hb'.2 x0 x1)) ?_;generalize hu : zBE zA a x = u;generalize hv : zBE zA b x = v;have hs : setR zA [a, b] x = ris [u, v] := by rw [<- hu, <- hv]; rfl
 show OkS (sIf _ _ _ [some (mD zA), some (.ref jA), some (.ref jF), some (.ref jJ), some (tI [a, b]), some (.int x), some (tI (zBM u v))] M) _;generalize hσ : [some (mD zA), some (D.ref jA), some (.ref jF), some (.ref jJ), some (tI [a, b]), some (.int x), some (tI (zBM u v))] = σ;have v6 : ∀ M, zD 6 σ M = some (.dat (tI (zBM u v)), M) := fun M => by rw [<- hσ]; rfl
 have v4 : ∀ M, zD 4 σ M = some (.dat (tI [a, b]), M) := fun M => by rw [<- hσ]; rfl
 have v3 : ∀ M, zD 3 σ M = some (.dat (.ref jJ), M) := fun M => by rw [<- hσ]; rfl
 have v2 : ∀ M, zD 2 σ M = some (.dat (.ref jF), M) := fun M => by rw [<- hσ]; rfl
 have v1 : ∀ M, zD 1 σ M = some (.dat (.ref jA), M) := fun M => by rw [<- hσ]; rfl
 have et : tst (fOp kLt (fOp kIx (zD 6) (fC (.int 0))) (fOp kIx (zD 6) (fC (.int 1)))) σ M = some (decide (u ≠ v), M) := by
  refine zA6 ((zi (x := .dat (.int ((zBM u v).getD 0 0))) (y := .dat (.int ((zBM u v).getD 1 0))) (zi (y := .dat (.int 0)) (v6 M) rfl (zD5 zAl rfl)) (zi (y := .dat (.int 1)) (v6 M) rfl (zD5 zAl rfl)) (zj (zRU.mpr ⟨rfl, rfl⟩))).trans ?_);rw [decide_eq_decide.mpr zN4]
 rw [zBH];refine zK et ?_;by_cases huv : u = v
 ·rw [zTN (by simpa using huv), zS6 (by decide)];have hp1 : isP zA ([a, b], x) = false := by
   unfold isP;rw [hs, zTN];rw [huv, show ris [v, v] = ris [v] from zEg (by simp), zIg (by simp)];simp
  rw [zJa, zKp, hp1];have hj1 := (zHm zA ps).1;refine OkS.mono (zK3 h dA dF dJ n1 n2 n3 (by rw [hj1]; exact zJ) zJ v4 v3 v2) ?_;rintro o σ' M' ⟨rfl, rfl, hj, _, _⟩;refine ⟨rfl, ⟨_, hσ.symm⟩, ?_⟩;simpa using hj
 ·rw [zTw (by simpa using huv), zS3 rfl];have hgo : setR zA [a, b] x = zBM u v := by rw [hs, zL7 huv]
  have hp1 : isP zA ([a, b], x) = true := by
   unfold isP;rw [hgo];exact zTw rfl
  rw [zJa, zKp, hp1];have hlen := h.len;have hpl : (psP zA ps).length <= ps.length := zVE _ _;refine OkS.mono (zJR (by omega) (by omega) (by omega) h.a h.ad hgo v1 v6 v4) ?_;rintro o σ' M' ⟨rfl, rfl, sr, had, hl', fr, wf⟩;refine ⟨rfl, ⟨_, hσ.symm⟩, ⟨by simpa using sr, had, (fr jF (by omega) (Ne.symm n1)).trans h.f, (fr jJ (by omega) (Ne.symm n2)).trans h.j, by omega, fun i hi q1 q2 q3 => (fr i (by omega) q1).trans (h.fr i hi q1 q2 q3), fun i u hi hu => ?_⟩⟩;rcases wf i u (by omega) hu with z | z
  ·exact z
  ·exact h.wf i u hi z
theorem zSH (m : IsM zA l) (hR : zA.length <= 26) (hl : l <= 12) (h0 : Jn zA B B jA jF jJ [] [] []) (dA : jA < B.length - 1) (dF : jF < B.length - 1) (dJ : jJ < B.length - 1) (n1 : jA ≠ jF) (n2 : jA ≠ jJ) (n3 : jF ≠ jJ)
  (hP : B[jP]? = some (.lst ((zZ (zM zA)).map tI))) (p1 : jP ≠ jA) (p2 : jP ≠ jF) (p3 : jP ≠ jJ) :
  OkS (zCI (gN 4) (zB3 (zAC (zH (toD (fB zBp (zn (fOp kIx (zD 0) (fC (.int 0))) zAT))) zR)) (gN 5) (za (zAK 6 (ze zAu (zH (toD (zD 0)) (zH (toD (zD 4)) (zH (toD (zD 5)) zR))))) (sIf (tst (fOp kLt (fOp kIx (zD 6) (fC (.int 0))) (fOp kIx (zD 6) (fC (.int 1))))) (zAi (fM z0 (zBw (zD 1) (zD 6) (zAZ zR)) (zH (toD (zD 4)) zR))) (sIf (tst (fOp (zCD true) (zD 4) (zD 3))) (za (zBc (fC (.bl true)) (zD 3) (zD 4)) (zAi (fM z0 (zD 2) (zH (toD (zD 4)) zR)))) zBB)))) ((zZ (zM zA)).map tI) (zEo (.dat (.ref jP)) ((zZ (zM zA)).map tI)) ((zZ (zM zA)).map tI) [some (mD zA), some (.ref jA), some (.ref jF), some (.ref jJ), y4, y5, y6] B)
   fun o σ' M' => o = .nx /\ (∃ y4 y5 y6, σ' = [some (mD zA), some (.ref jA), some (.ref jF), some (.ref jJ), y4, y5, y6]) /\ Jn zA B M' jA jF jJ (psP zA (zh l (zZ (zM zA)))) (jf zA (zh l (zZ (zM zA)))).1 (jf zA (zh l (zZ (zM zA)))).2 := by
 have hPl := zDz hR;have hpl := (zSr.mp hP).1;generalize hQ : zZ (zM zA) = P at hP hPl ⊢;have mem1 : ∀ (us : List (List Int)), (∀ p ∈ us, p ∈ P) -> ∀ q ∈ zh l us, q.1 ∈ P := fun us hu q hq => by
  unfold zh at hq;obtain ⟨p, hp, hq⟩ := List.mem_flatMap.mp hq;obtain ⟨x, _, rfl⟩ := zS5.mp hq;exact hu p hp
 refine zBL (I := fun r σ M' => (∃ y4 y5 y6, σ = [some (mD zA), some (.ref jA), some (.ref jF), some (.ref jJ), y4, y5, y6]) /\ ∃ us vs : List (List Int), P = us ++ vs /\ r = vs.map tI /\ Jn zA B M' jA jF jJ (psP zA (zh l us)) (jf zA (zh l us)).1 (jf zA (zh l us)).2) ?_ ?_ _ _ _ ⟨⟨_, _, _, rfl⟩, [], P, rfl, rfl, h0⟩
 ·rintro x r σ M' ⟨⟨y4, y5, y6, rfl⟩, us, vs, hab, hr, jn⟩;cases vs with
  | nil => cases hr
  | cons p vs =>
   rw [zS7] at hr;obtain ⟨rfl, rfl⟩ := zTs hr;have hpm : p ∈ P := by rw [hab]; simp
   have hul : us.length < P.length := by have := congrArg List.length hab; simp at this; omega
   refine ⟨.inl ((jn.fr jP hpl p1 p2 p3).trans hP), _, rfl, ?_⟩;show OkS (zB3 _ _ _ [some (mD zA), some (.ref jA), some (.ref jF), some (.ref jJ), some (tI p), y5, y6] M') _;rw [zBQ];refine ⟨_, _, _, zBZ (zHx m rfl) (by omega) (by omega), ?_⟩;rw [show (l : Int).toNat = l by omega];have husP : ∀ q ∈ us, q ∈ P := fun q hq => by rw [hab]; simp [hq]
   refine zGZ (n := l) (I := fun i σ M'' => (∃ y5 y6, σ = [some (mD zA), some (.ref jA), some (.ref jF), some (.ref jJ), some (tI p), y5, y6]) /\ Jn zA B M'' jA jF jJ (psP zA (zh l us ++ (List.range i).map fun (x : Nat) => (p, (x : Int)))) (jf zA (zh l us ++ (List.range i).map fun (x : Nat) => (p, (x : Int)))).1 (jf zA (zh l us ++ (List.range i).map fun (x : Nat) => (p, (x : Int)))).2) ?_ ?_ _ _ ⟨⟨_, _, rfl⟩, by simpa using jn⟩
   ·rintro i σ M2 hi ⟨⟨y5, y6, rfl⟩, jn2⟩;refine ⟨_, rfl, ?_⟩;have hcount : (zh l us ++ (List.range i).map fun (x : Nat) => (p, (x : Int))).length < 50000 := by
     rw [zS4, zEK, zSx, List.length_range];have := zUW (show us.length <= 676 by omega) hl;omega
    have hjl := zRL zA (ps := zh l us ++ (List.range i).map fun (x : Nat) => (p, (x : Int))) (P := P) fun q hq => by
     rcases zTE.mp hq with z | z
     ·exact mem1 us husP q z
     ·obtain ⟨y, _, rfl⟩ := zS5.mp z;exact hpm
    refine OkS.mono (zRu m jn2 dA dF dJ n1 n2 n3 hcount (by omega) (by rw [hQ]; exact hpm) (x := (i : Int)) (by omega) (by omega)) ?_;rintro o σ' M3 ⟨rfl, ⟨y, rfl⟩, jn3⟩;refine ⟨⟨_, _, rfl⟩, ?_⟩;rw [List.range_succ, zTg, <- zTu];exact jn3
   ·rintro σ M2 ⟨⟨y5, y6, rfl⟩, jn2⟩;refine ⟨⟨_, _, _, rfl⟩, us ++ [p], vs, by rw [hab]; simp, rfl, ?_⟩;have : zh l (us ++ [p]) = zh l us ++ (List.range l).map fun (x : Nat) => (p, (x : Int)) := by
     unfold zh; rw [List.flatMap_append]; simp
    rw [this]; exact jn2
 ·rintro σ M' ⟨⟨y4, y5, y6, rfl⟩, us, vs, hab, hr, jn⟩;have : vs = [] := by cases vs with | nil => rfl | cons _ _ => cases hr
  subst this;rw [zTY] at hab;subst hab;exact ⟨.inl ((jn.fr jP hpl p1 p2 p3).trans hP), rfl, ⟨_, _, _, rfl⟩, jn⟩
structure Cl (zA : List (List Int)) (l : Nat) (F J : List (List Int)) : Prop where
 nf : F.Nodup
 nj : J.Nodup
 sub : ∀ p ∈ F, p ∈ J
 real : ∀ p ∈ J, p ∈ zZ (zM zA) /\ ∃ n, Dst zA l One p (n + 1)
 base : ∀ p ∈ zZ (zM zA), ∀ x : Int, 0 <= x -> x < (l : Int) -> One (setR zA p x) -> p ∈ J
 clo : ∀ q ∈ J, q ∉ F -> ∀ p ∈ zAd zA (psP zA (zh l (zZ (zM zA)))) q, p ∈ J
theorem zLA : p ∈ zAd zA (psP zA (zh l (zZ (zM zA)))) q ↔ p ∈ zZ (zM zA) /\ q.length = 2 /\ ∃ x : Int, (0 <= x /\ x < (l : Int)) /\ setR zA p x = q := by
 unfold zAd psP zh isP;simp only [zS5, zTz, List.mem_flatMap, zTS, zT6];constructor
 ·rintro ⟨s, ⟨⟨⟨p', hp, k, hk, rfl⟩, h2⟩, hq⟩, rfl⟩;exact ⟨hp, by rw [<- hq]; exact h2, (k : Int), ⟨by omega, by omega⟩, hq⟩
 ·rintro ⟨hp, h2, x, ⟨x0, x1⟩, hq⟩;refine ⟨(p, x), ⟨⟨⟨p, hp, x.toNat, by omega, ?_⟩, by rw [hq]; exact h2⟩, hq⟩, rfl⟩;rw [show ((x.toNat : Nat) : Int) = x by omega]
theorem zGO (u : Th zA t) : t.length = 1 \/ t.length = 2 := by
 have := u.1.n0;have := u.2;omega
theorem zM7 (m : IsM zA l) : Cl zA l (jf zA (zh l (zZ (zM zA)))).1 (jf zA (zh l (zZ (zM zA)))).2 := by
 obtain ⟨e, nd, mem⟩ := zHm zA (zh l (zZ (zM zA)));have ms : ∀ {p : List Int} {x : Int}, (p, x) ∈ zh l (zZ (zM zA)) ↔ p ∈ zZ (zM zA) /\ 0 <= x /\ x < (l : Int) := by
  intro p x;unfold zh;simp only [List.mem_flatMap, zS5, zTS, Prod.mk.injEq];constructor
  ·rintro ⟨p', hp, k, hk, rfl, rfl⟩; exact ⟨hp, by omega, by omega⟩
  ·rintro ⟨hp, h0, h1⟩; exact ⟨p, hp, x.toNat, by omega, rfl, by omega⟩
 rw [e];refine ⟨nd, nd, fun p h => h, fun p hp => ?_, fun p hp x x0 x1 h1 => ?_, fun q hq hn => absurd hq hn⟩
 ·obtain ⟨x, hx, hi⟩ := (mem p).mp hp;obtain ⟨hpp, x0, x1⟩ := ms.mp hx;have u := zFn m p x (zFf p hpp) ⟨x0, x1⟩;have h2 : ¬ (setR zA p x).length = 2 := of_decide_eq_false hi;have h1 : One (setR zA p x) := (zGO u).elim id fun z => absurd z h2;refine ⟨hpp, 0, zCu.mpr ⟨fun k hk hr => ?_, x, ⟨x0, x1⟩, zCM.mpr h1⟩⟩;have : k = 0 := by omega
  subst this;have := zFz.mp hr;obtain ⟨a, b, rfl, _⟩ := zAo.mp hpp;exact absurd this (by simp [One])
 ·refine (mem p).mpr ⟨x, ms.mpr ⟨hp, x0, x1⟩, zTN ?_⟩;rw [show (setR zA p x).length = 1 from h1]; decide
theorem zOl (m : IsM zA l) (c : Cl zA l (F ++ [q]) J) : Cl zA l ((zAd zA (psP zA (zh l (zZ (zM zA)))) q).foldl zEt (F, J)).1 ((zAd zA (psP zA (zh l (zZ (zM zA)))) q).foldl zEt (F, J)).2 := by
 obtain ⟨new, e, nd, h1, h2⟩ := zBn (zAd zA (psP zA (zh l (zZ (zM zA)))) q) F J;rw [e];have nf := c.nf;rw [zT7] at nf;obtain ⟨nF, _, hFq⟩ := nf;have hqF : q ∉ F := fun z => hFq q z q (by simp) rfl;have hqJ : q ∈ J := c.sub q (by simp);refine ⟨?_, ?_, fun p hp => ?_, fun p hp => ?_, fun p hp x x0 x1 h => zT8 _ (c.base p hp x x0 x1 h), fun q2 hq2 hn p hp => ?_⟩
 ·rw [zT7];exact ⟨nF, nd, fun a ha b hb z => (h1 b hb).2 (z ▸ c.sub a (by simp [ha]))⟩
 ·rw [zT7];exact ⟨c.nj, nd, fun a ha b hb z => (h1 b hb).2 (z ▸ ha)⟩
 ·rcases zTE.mp hp with z | z
  ·exact zT8 _ (c.sub p (by simp [z]))
  ·exact zS8 _ z
 ·rcases zTE.mp hp with z | z
  ·exact c.real p z
  ·obtain ⟨hpp, _, x, hx, hs⟩ := zLA.mp (h1 p z).1;obtain ⟨_, n, hn⟩ := c.real q hqJ;have hr : Rch zA l One p (n + 2) := zEV.mpr ⟨x, hx, by rw [hs]; exact hn.1⟩;obtain ⟨k, _, hk⟩ := zEL _ hr;cases k with
   | zero =>
    have := zCM.mp hk;obtain ⟨a, b, rfl, _⟩ := zAo.mp hpp;exact absurd this (by simp [One])
   | succ k => exact ⟨hpp, k, hk⟩
 ·have hqJ2 : q2 ∈ J := (zTE.mp hq2).elim id fun z => absurd (zS8 _ z) hn;by_cases hqq : q2 = q
  ·rw [hqq] at hp;exact h2 p hp
  ·refine zT8 _ (c.clo q2 hqJ2 (fun z => ?_) p hp);rcases zTE.mp z with y | y
   ·exact hn (zT8 _ y)
   ·exact hqq (by simpa using y)
theorem zRJ (m : IsM zA l) (c : Cl zA l [] J) (p : List Int) : p ∈ J ↔ p ∈ zDp zA l One := by
 rw [zE3];constructor
 ·exact c.real p
 ·rintro ⟨hp, n, hn⟩;induction n generalizing p with
  | zero =>
   obtain ⟨_, x, hx, hd⟩ := zCu.mp hn;exact c.base p hp x hx.1 hx.2 (zCM.mp hd)
  | succ n ih =>
   obtain ⟨_, x, hx, hd⟩ := zCu.mp hn;have u := zFn m p x (zFf p hp) hx;have h1 : ¬ One (setR zA p x) := fun z => by have := zC2 (zCM.mpr z) hd; omega
   have hq := zIM _ u h1;have hin := ih (setR zA p x) hq hd;exact c.clo _ hin (by simp) p (zLA.mpr ⟨hp, (zGO u).elim (fun z => absurd z h1) id, x, hx, rfl⟩)
theorem Sr.frame' {zA : List (List Int)} {M M' : Mem} {jd lo : Nat} {ps : List (List Int × Int)} (sr : Sr zA M jd lo ps) (h : ∀ j u, j = jd \/ lo < j -> M[j]? = some u -> M'[j]? = some u) : Sr zA M' jd lo ps := by
 obtain ⟨T, ed, hT, h1, h2, h3⟩ := sr.ex;refine ⟨T, h jd _ (.inl rfl) ed, hT, fun g d hd => ?_, h2, h3⟩;obtain ⟨j, rfl, hj, ej⟩ := h1 g d hd;exact ⟨j, rfl, hj, h j _ (.inr hj) ej⟩
theorem Jn.pop {zA : List (List Int)} {B M : Mem} {jA jF jJ : Nat} {ps : List (List Int × Int)} {F J : List (List Int)} {q : List Int} (h : Jn zA B M jA jF jJ ps (F ++ [q]) J) (dF : jF < B.length - 1) (n1 : jA ≠ jF) (n3 : jF ≠ jJ) : Jn zA B (M.set jF (.lst (F.map tI)) ++ [.lst []]) jA jF jJ ps F J := by
 have hFl := (zSr.mp h.f).1;have hlen := h.len;have get : ∀ {i : Nat} {u : MO}, i ≠ jF -> M[i]? = some u -> (M.set jF (.lst (F.map tI)) ++ [MO.lst []])[i]? = some u := fun {i u} hi e => by
  rw [zSv (by rw [zVD]; exact (zSr.mp e).1), zTI (Ne.symm hi)]; exact e
 obtain ⟨T0, ed, _⟩ := h.a.ex;refine ⟨h.a.frame' fun i u hi e => get (by omega) e, fun T e q' hq => ?_, ?_, get (Ne.symm n3) h.j, by simp; omega, fun i hi q1 q2 q3 => ?_, fun i u hi hu => ?_⟩
 ·have eA := get n1 ed;rw [e] at eA;have eT : zCx T = zCx T0 := MO.dicT.inj (zTo eA);have hm : (tI q'.1, q'.2) ∈ zCx T := zS5.mpr ⟨q', hq, rfl⟩;rw [eT] at hm;obtain ⟨q2, hq2, e2⟩ := zS5.mp hm;obtain ⟨j, h1, h2⟩ := h.ad T0 ed q2 hq2;exact ⟨j, by rw [<- h1]; exact (congrArg Prod.snd e2).symm, by simp; omega⟩
 ·rw [zSv (by rw [zVD]; exact hFl), zTi hFl]
 ·rw [zSv (by rw [zVD]; omega), zTI (Ne.symm q2)];exact h.fr i hi q1 q2 q3
 ·rcases zUF i M.length with z | z
  ·rw [zSv (by rw [zVD]; exact z), zTI (by omega)] at hu;exact h.wf i u hi hu
  ·have := (zSr.mp hu).1;rw [zS4, zVD, List.length_singleton] at this;have : i = (M.set jF (MO.lst (F.map tI))).length := by rw [zVD]; omega
   subst this;rw [zAU] at hu;cases hu;exact ⟨[], rfl⟩
theorem zJw (hR : zA.length <= 26) (c : Cl zA l F J) : J.length <= 676 /\ F.length <= J.length :=
 ⟨zTF (zCs _ _ c.nj fun p hp => (c.real p hp).1) (zDz hR), zCs _ _ c.nf c.sub⟩
theorem zSG (m : IsM zA l) (hR : zA.length <= 26) (dA : jA < B.length - 1) (dF : jF < B.length - 1) (dJ : jJ < B.length - 1) (n1 : jA ≠ jF) (n2 : jA ≠ jJ) (n3 : jF ≠ jJ) (h : Jn zA B M jA jF jJ (psP zA (zh l (zZ (zM zA)))) F J) (c : Cl zA l F J) :
  OkS (zBJ (tst (fOp kNe (zD 2) (zAZ zR))) (zB3 (zAg (zBq (zD 1) (zEh (zD 2)) (zAZ zR))) (gN 4) (sIf (tst (fOp (zCD true) (zD 4) (zD 3))) (za (zBc (fC (.bl true)) (zD 3) (zD 4)) (zAi (fM z0 (zD 2) (zH (toD (zD 4)) zR)))) zBB)) 1000 [some (mD zA), some (.ref jA), some (.ref jF), some (.ref jJ), y4, y5, y6] M)
   fun o σ' M' => o = .nx /\ (∃ y4 y5 y6, σ' = [some (mD zA), some (.ref jA), some (.ref jF), some (.ref jJ), y4, y5, y6]) /\ ∃ J', Jn zA B M' jA jF jJ (psP zA (zh l (zZ (zM zA)))) [] J' /\ Cl zA l [] J' := by
 have hl0 := zJw hR c;refine zCz (I := fun z σ M' => ∃ (F J : List (List Int)) (y4 y5 y6 : Option D), σ = [some (mD zA), some (.ref jA), some (.ref jF), some (.ref jJ), y4, y5, y6] /\ Jn zA B M' jA jF jJ (psP zA (zh l (zZ (zM zA)))) F J /\ Cl zA l F J /\ z = F.length + (676 - J.length)) ?_ 1000 (F.length + (676 - J.length)) _ _ (by omega) ⟨F, J, y4, y5, y6, rfl, h, c, rfl⟩;rintro z σ M' ⟨F, J, y4, y5, y6, rfl, h, c, rfl⟩;have hlc := zJw hR c;have et : tst (fOp kNe (zD 2) (zAZ zR)) [some (mD zA), some (.ref jA), some (.ref jF), some (.ref jJ), y4, y5, y6] M' = some (!(F.map tI).isEmpty, M') := by
  refine zA6 (zi (x := .dat (.ref jF)) (y := .fl []) rfl (zNY rfl (by simp)) (zj ((zK9 (zBY h.f) (fun d e => by cases e; rfl)).mpr ⟨rfl, rfl⟩)))
 refine zK et ?_;rcases List.eq_nil_or_concat F with hF | ⟨F', q, hF⟩
 ·subst hF;exact ⟨rfl, ⟨_, _, _, rfl⟩, J, h, c⟩
 ·rw [List.concat_eq_append] at hF;subst hF;have hne : (!((F' ++ [q]).map tI).isEmpty) = true := by simp
  rw [hne];show OkS (zB3 _ _ _ [some (mD zA), some (.ref jA), some (.ref jF), some (.ref jJ), y4, y5, y6] M') _;obtain ⟨T, ed, hT, h1, h2, h3⟩ := h.a.ex;have hFl := (zSr.mp h.f).1;have hAl := (zSr.mp ed).1;have jp := h.pop dF n1 n3;have ePop : toD (zEh (zD 2)) [some (mD zA), some (.ref jA), some (.ref jF), some (.ref jJ), y4, y5, y6] M' = some (tI q, M'.set jF (.lst (F'.map tI))) := by
   refine (show toD (zEh (zD 2)) [some (mD zA), some (.ref jA), some (.ref jF), some (.ref jJ), y4, y5, y6] M' = _ from ?_);unfold toD zEh;rw [show zD 2 [some (mD zA), some (.ref jA), some (.ref jF), some (.ref jJ), y4, y5, y6] M' = some (.dat (.ref jF), M') from rfl];dsimp only;rw [h.f];dsimp only;rw [show ((F' ++ [q]).map tI)[((F' ++ [q]).map tI).length - 1]? = some (tI q) by simp, show ((F' ++ [q]).map tI).dropLast = F'.map tI by rw [zTg]; simp]
  have ed3 : (M'.set jF (.lst (F'.map tI)) ++ [MO.lst []])[jA]? = some (dT T) := by
   rw [zSv (by rw [zVD]; exact hAl), zTI (Ne.symm n1)]; exact ed
  have eG : zBq (zD 1) (zEh (zD 2)) (zAZ zR) [some (mD zA), some (.ref jA), some (.ref jF), some (.ref jJ), y4, y5, y6] M' = some (.dat ((zL T q).getD (.ref M'.length)), M'.set jF (.lst (F'.map tI)) ++ [.lst []]) := by
   unfold zBq;rw [show toD (zD 1) [some (mD zA), some (.ref jA), some (.ref jF), some (.ref jJ), y4, y5, y6] M' = some (.ref jA, M') from rfl];dsimp only;rw [ed];dsimp only;rw [ePop];dsimp only;rw [zK2 (zNY (rfl : zR _ (M'.set jF (.lst (F'.map tI))) = some ([], _)) (by simp))];dsimp only;rw [dgT ed3, zVD]
  obtain ⟨js, ejs, hjs, el⟩ : ∃ js, (zL T q).getD (.ref M'.length) = .ref js /\ B.length <= js /\ (M'.set jF (.lst (F'.map tI)) ++ [MO.lst []])[js]? = some (.lst ((zAd zA (psP zA (zh l (zZ (zM zA)))) q).map tI)) := by
   have hlen := h.len;cases e : zL T q with
   | some d =>
    obtain ⟨j, rfl, hj, ej⟩ := h1 q d e;have jl := (zSr.mp ej).1;exact ⟨j, rfl, by omega, by rw [zSv (by rw [zVD]; exact jl), zTI (by omega)]; exact ej⟩
   | none => exact ⟨M'.length, rfl, hlen, by rw [h2 q e, show M'.length = (M'.set jF (.lst (F'.map tI))).length by rw [zVD], zAU]; rfl⟩
  rw [ejs] at eG;rw [zBQ];refine ⟨_, _, _, (show zAg (zBq (zD 1) (zEh (zD 2)) (zAZ zR)) [some (mD zA), some (.ref jA), some (.ref jF), some (.ref jJ), y4, y5, y6] M' = some ((zAd zA (psP zA (zh l (zZ (zM zA)))) q).map tI, zEo (.dat (.ref js)) ((zAd zA (psP zA (zh l (zZ (zM zA)))) q).map tI), M'.set jF (.lst (F'.map tI)) ++ [.lst []]) by unfold zAg; rw [eG]; dsimp only; rw [zAa el]), ?_⟩;have cT := zOl m c;have hlT := zJw hR cT;generalize hS : zAd zA (psP zA (zh l (zZ (zM zA)))) q = S at el cT hlT ⊢;have small : ∀ us vs, S = us ++ vs -> (us.foldl zEt (F', J)).2.length <= 676 /\ (us.foldl zEt (F', J)).1.length <= 1352 := fun us vs e => by
   obtain ⟨n1', e1, _⟩ := zBn us F' J;obtain ⟨n2', e2, _⟩ := zBn vs (F' ++ n1') (J ++ n1');rw [e, zUs, e1, e2] at hlT;rw [e1];have hlc1 := hlc.2;simp only [zS4, List.length_singleton] at hlT hlc1 ⊢;omega
  refine zBL (I := fun r σ M2 => ∃ (us vs : List (List Int)) (y4 : Option D), σ = [some (mD zA), some (.ref jA), some (.ref jF), some (.ref jJ), y4, y5, y6] /\ S = us ++ vs /\ r = vs.map tI /\ Jn zA B M2 jA jF jJ (psP zA (zh l (zZ (zM zA)))) (us.foldl zEt (F', J)).1 (us.foldl zEt (F', J)).2 /\ M2[js]? = some (.lst (S.map tI))) ?_ ?_ _ _ _ ⟨[], S, y4, rfl, rfl, rfl, jp, el⟩
  ·rintro x r σ M2 ⟨us, vs, y4, rfl, hab, hr, jn, eS⟩;cases vs with
   | nil => cases hr
   | cons p vs =>
    rw [zS7] at hr;obtain ⟨rfl, rfl⟩ := zTs hr;refine ⟨.inl eS, _, rfl, ?_⟩;have sm := small us (p :: vs) hab;refine OkS.mono (zK3 (σ := [some (mD zA), some (.ref jA), some (.ref jF), some (.ref jJ), some (tI p), y5, y6]) (p := p) jn dA dF dJ n1 n2 n3 (by omega) (by omega) (fun _ => rfl) (fun _ => rfl) (fun _ => rfl)) ?_;rintro o σ' M3 ⟨rfl, rfl, jn3, _, fr⟩;refine ⟨us ++ [p], vs, _, rfl, by rw [hab]; simp, rfl, ?_, (fr js (by omega) (by omega)).trans eS⟩;rw [zUs];exact jn3
  ·rintro σ M2 ⟨us, vs, y4, rfl, hab, hr, jn, eS⟩;have : vs = [] := by cases vs with | nil => rfl | cons _ _ => cases hr
   subst this;rw [zTY] at hab;subst hab;refine ⟨.inl eS, ?_⟩;obtain ⟨new, e1, _⟩ := zBn S F' J;refine ⟨_, ?_, _, _, _, _, _, rfl, jn, cT, rfl⟩;rw [e1] at hlT ⊢;simp only [zS4, List.length_singleton] at hlT ⊢;omega
end Lac
namespace Lac
open PySem PySem.Spec PyProof.Rows L2 L3 ST Law
theorem zJL (m : IsM zA l) : IsS zA (zM zA) := by
 have r0 := m.r0;refine ⟨?_, by unfold zM; simp; omega, fun x hx => zA1.mp hx⟩;unfold zM;exact List.pairwise_map.mpr (List.Pairwise.imp (fun {a b} h => by omega) List.pairwise_lt_range)
theorem zLX (h : Gen M n k) (m0 : 0 < most) (m1 : most <= 90000) (l0 : 0 < lets) (l1 : lets <= 90000) (ha : ∀ M, fa σ M = some (.dat (.ref n), M)) (hb : ∀ M, fb σ M = some (.dat (.int most), M))
  (hc : ∀ (r : Int) M, fc ((zB4 own σ).set i (some (.int r))) M = some (.dat (.ref n), M)) (hd : ∀ (r : Int) M, fd ((zB4 own σ).set i (some (.int r))) M = some (.dat (.int lets), M)) :
  Ok (zAQ own (zAC (zH (toD (ze zf (zH (toD fa) (zH (toD fb) zR)))) zR)) (gN i) zAO (ze zf (zH (toD fc) (zH (toD fd) zR))) σ M) fun x M' => (∃ c : List Int, x = .fl (c.map D.int) /\ (c.length : Int) < most /\ ∀ y ∈ c, 0 <= y /\ y < lets) /\ Nx M M' n k := by
 obtain ⟨x, M1, e, cnt, rfl, c0, c1, nx1⟩ : Ok (ze zf (zH (toD fa) (zH (toD fb) zR)) σ M) fun x M' => ∃ cnt : Int, x = .dat (.int cnt) /\ 0 <= cnt /\ cnt < most /\ Nx M M' n k := zAL h (ha M) (hb M) m0 (by omega) fun i M' i0 i1 nx => ⟨i, rfl, i0, i1, nx⟩;have er := zGY (zRh e) c0 (show cnt < 2 ^ 62 by omega);rw [zEk] at er;refine zC5.mpr ⟨_, _, _, er, by rw [zBu]; exact zz (by omega), ?_⟩;refine Ok.mono (zKC (n := cnt.toNat) (I := fun j acc M2 => (∃ c : List Int, acc = c.map D.int /\ c.length = j /\ ∀ y ∈ c, 0 <= y /\ y < lets) /\ Nx M M2 n k) ?_ ⟨⟨[], rfl, rfl, fun _ h => by cases h⟩, nx1⟩) ?_
 ·rintro j acc M2 hj ⟨⟨c, rfl, hcl, hc'⟩, nx⟩;refine ⟨_, rfl, ?_⟩;refine zAL nx.gen (hc _ _) (hd _ _) l0 (by omega) fun v M3 v0 v1 nx3 => ?_;rw [zU];refine ⟨⟨c ++ [v], by simp, by simp [hcl], fun z hz => ?_⟩, nx.trans nx3⟩;rcases zTE.mp hz with q | q
  ·exact hc' z q
  ·have : z = v := by simpa using q
   subst this; exact ⟨v0, v1⟩
 ·rintro ys M2 ⟨⟨c, rfl, hcl, hc'⟩, nx⟩;exact ⟨⟨c, rfl, by omega, hc'⟩, nx⟩
noncomputable def zH1 : FS := (za (zAK 1 (ze zCt (zH (toD (zD 0)) zR)))
  (zAp (fB zBb (zn (zAQ [2] (zAg (ze zA9 (zH (toD (ze zBA (zH (toD (zD 0)) zR))) zR))) (gN 2) (tst (fOp (zCD true) (zD 2) (zD 1))) (zD 2)) zAT))))
noncomputable def zEd : FF := zFJ (zCU 3 zH1)
noncomputable def zMi : FS := (za (zAK 1 (ze zBU (zH (toD (zD 0)) zR)))
  (za (zAK 2 (fOp zAy (fC (.int 1)) (ze zf (zH (toD (zD 1)) (zH (toD (fC (.int 26))) zR)))))
  (za (zAK 3 (ze zA0 (zH (toD (zD 1)) (zH (toD (zD 2)) (zH (toD (fOp zAy (fC (.int 1)) (ze zf (zH (toD (zD 1)) (zH (toD (fC (.int 6))) zR))))) zR)))))
  (za (zAK 4 (ze zBa (zH (toD (zD 3)) zR)))
  (za (zAK 5 (fB zBb (zn (zAQ [6] (zAg (ze zAR (zH (toD (zDi (zD 2))) zR))) (gN 6) (tst (fOp (zCD true) (zD 6) (zD 4))) (zD 6)) zAT)))
  (za (zAK 7 (ze zEd (zH (toD (zD 3)) zR)))
  (za (sIf (zFQ (tst (ze zC9 (zH (toD (zD 7)) (zH (toD (zD 5)) zR))))) (zAp (fC (.bl false))) zBB)
  (za (zB3 (zAC (zH (toD (fB zBp (zn (fSl (zD 0) zD6 (zDZ (fC (.int 63)))) zAT))) zR)) (gN 8) (za (zAK 9 (zAQ [10] (zAC (zH (toD (ze zf (zH (toD (zD 1)) (zH (toD (fC (.int 41))) zR)))) zR)) (gN 10) zAO (ze zf (zH (toD (zD 1)) (zH (toD (fB zBp (zn (fOp kIx (zD 3) (fC (.int 0))) zAT))) zR)))))
  (sIf (tst (fOp (kTr true 1) (zD 7) (zFA zR))) (za (zOT (zHN 11 12) (fOp kIx (zD 7) (ze zf (zH (toD (zD 1)) (zH (toD (fB zBp (zn (zD 7) zAT))) zR)))))
  (sIf (tst (fOp kEq (ze zHH (zH (toD (zD 3)) (zH (toD (zD 11)) (zH (toD (fB zBb (zn (zD 9) zAT))) zR)))) (ze zHH (zH (toD (zD 3)) (zH (toD (zD 12)) (zH (toD (fB zBb (zn (zD 9) zAT))) zR)))))) (zAp (fC (.bl false))) zBB)) zBB)))
  (zAp (fC (.bl true)))))))))))
noncomputable def zFR : FF := zCU 13 zMi
theorem zHq (n : Nat) (ts : List (List Int)) : MO.und n (.lst (ts.map tI)) = true := zIE n ts
theorem zRI (n : Nat) (J : List (List Int)) : MO.und n (dT (jnT J)) = true := by
 show ((zCx (jnT J)).all fun p => D.und n p.1 && D.und n p.2) = true;rw [zTP];intro p hp;obtain ⟨q, hq, rfl⟩ := zS5.mp hp;obtain ⟨r, _, rfl⟩ := zS5.mp hq;simp [tI, zBk, D.und, zw]
theorem zGR (hz : zA.length <= 1000) (hf : f σ M = some (.dat (.int zA.length), M)) : zDi f σ M = some (.fl ((zM zA).map D.int), M) := by
 refine zj (zPn (j := (zA.length : Int)) hf (by omega) (by omega) ⟨?_, rfl⟩);unfold upD zM;rw [zTC, show (zA.length : Int).toNat = zA.length by omega]; rfl
theorem zLO (m : IsM zA l) (hR : zA.length <= 26) (hl : l <= 12) :
  Ok (zBa [mD zA] M) fun d M' => ∃ jJ J, d = .ref jJ /\ M.length <= jJ /\ M'[jJ]? = some (dT (jnT J)) /\ (∀ p, p ∈ J ↔ p ∈ zDp zA l One) /\ M.length <= M'.length /\ (∀ i, i < M.length -> M'[i]? = M[i]?) /\ ∀ (i : Nat) u, M.length <= i -> M'[i]? = some u -> MO.und M'.length u = true := by
 unfold zBa;rw [zAr];unfold zDD;show OkS (za _ _ [some (mD zA), none, none, none, none, none, none] M) _;rw [zY, zq];refine zK (M := M ++ [.dicT []]) (a := .dat (.ref M.length)) rfl ?_;rw [zU, zc, zY, zq];refine zK (M := M ++ [.dicT []]) (a := .fl []) (zNY rfl (by simp)) (zAb ?_);rw [zc, zY, zq];refine zK (M := M ++ [.dicT []] ++ [.lst []] ++ [.dicT []]) (a := .dat (.ref (M ++ [MO.dicT []] ++ [MO.lst []]).length)) rfl ?_;rw [zU, zc];have sr := zJL m;have hrl : (zM zA).length = zA.length := by unfold zM; simp
 generalize hB0 : M ++ [MO.dicT []] ++ [MO.lst []] ++ [MO.dicT []] = B0;have b0l : B0.length = M.length + 3 := by rw [<- hB0]; simp
 have b0A : B0[M.length]? = some (dT []) := by rw [<- hB0]; simp
 have b0F : B0[M.length + 1]? = some (.lst []) := by rw [<- hB0]; simp
 have b0J : B0[M.length + 2]? = some (dT []) := by rw [<- hB0]; simp
 have b0fr : ∀ i, i < M.length -> B0[i]? = M[i]? := fun i hi => by rw [<- hB0, zTu, zTu, zSv hi]
 rw [show (M ++ [MO.dicT []]).length = M.length + 1 by simp, show (M ++ [MO.dicT []] ++ [MO.lst []]).length = M.length + 2 by simp];show OkS (za _ _ [some (mD zA), some (.ref M.length), some (.ref (M.length + 1)), some (.ref (M.length + 2)), none, none, none] B0) _;have eL := zK2 (zGR (σ := [some (mD zA), some (.ref M.length), some (.ref (M.length + 1)), some (.ref (M.length + 2)), none, none, none]) (M := B0) (by omega) (zGh (f := zD 0) rfl));obtain ⟨d, B, ep, rfl, us, hB, hus⟩ := zEe (M := B0 ++ [.lst ((zM zA).map D.int)]) (j := B0.length) (xs := zM zA) (zAU _ _) sr.pw (by omega);rw [zY, zBQ];have b1l : (B0 ++ [MO.lst ((zM zA).map D.int)]).length = M.length + 4 := by rw [zS4, b0l]; rfl
 have hP : B[M.length + 4]? = some (.lst ((zZ (zM zA)).map tI)) := by rw [hB, <- b1l]; simp
 have up : ∀ {i : Nat}, i < B0.length -> B[i]? = B0[i]? := fun {i} hi => by rw [hB, zTu, zSv hi]
 have hBl : M.length + 5 <= B.length := by rw [hB, zS4, b1l, zTL]; omega
 refine ⟨_, _, _, (show zAg (ze zAR (zH (toD (zDi (fB zBp (zn (zD 0) zAT)))) zR)) [some (mD zA), some (.ref M.length), some (.ref (M.length + 1)), some (.ref (M.length + 2)), none, none, none] B0 = some ((zZ (zM zA)).map tI, zEo (.dat (.ref (M.length + 4))) ((zZ (zM zA)).map tI), B) by
  have ec : ze zAR (zH (toD (zDi (fB zBp (zn (zD 0) zAT)))) zR) [some (mD zA), some (.ref M.length), some (.ref (M.length + 1)), some (.ref (M.length + 2)), none, none, none] B0 = some (.dat (.ref (M.length + 4)), B) := by
   rw [<- b1l];exact zKw (aC' eL rfl) ep
  unfold zAg; rw [ec]; dsimp only; rw [zAa hP]), ?_⟩
 have h0 : Jn zA B B M.length (M.length + 1) (M.length + 2) [] [] [] := by
  refine ⟨⟨[], (up (by omega)).trans b0A, by simp, (fun g d h => by cases h), (fun _ _ => rfl), (fun g g' j h => by cases h)⟩, fun T e q hq => ?_, (up (by omega)).trans b0F, (up (by omega)).trans b0J, zSu _, fun _ _ _ _ _ => rfl, fun i u hi hu => absurd (zSr.mp hu).1 (by omega)⟩;rw [(up (by omega)).trans b0A] at e;have eT : zCx [] = zCx T := MO.dicT.inj (zTo e);have hm : (tI q.1, q.2) ∈ zCx T := zS5.mpr ⟨q, hq, rfl⟩;rw [<- eT] at hm;cases hm
 refine OkS.mono (zSH m hR hl h0 (by omega) (by omega) (by omega) (by omega) (by omega) (by omega) hP (by omega) (by omega) (by omega)) ?_;rintro o σ' M2 ⟨rfl, ⟨y4, y5, y6, rfl⟩, jn⟩;rw [zc, zY];refine OkS.mono (zSG m hR (by omega) (by omega) (by omega) (by omega) (by omega) (by omega) jn (zM7 m)) ?_;rintro o σ' M3 ⟨rfl, ⟨y4, y5, y6, rfl⟩, J, jn3, c3⟩;rw [zc];refine zBR (d := .ref (M.length + 2)) rfl ⟨M.length + 2, J, rfl, by omega, jn3.j, zRJ m c3, by have := jn3.len; omega, fun i hi => ?_, fun i u hi hu => ?_⟩
 ·rw [jn3.fr i (by omega) (by omega) (by omega) (by omega), up (by omega)];exact b0fr i hi
 ·rcases zUF i B.length with q | q
  ·by_cases q1 : i = M.length
   ·subst q1;obtain ⟨T, ed, _⟩ := jn3.a.ex;rw [ed] at hu;cases hu;show ((zCx T).all fun p => D.und M3.length p.1 && D.und M3.length p.2) = true;rw [zTP];intro p hp;obtain ⟨r, hr, rfl⟩ := zS5.mp hp;obtain ⟨j, h1, h2⟩ := jn3.ad T ed r hr;rw [h1];simp [tI, zBk, D.und, zw, h2]
   by_cases q2 : i = M.length + 1
   ·subst q2; rw [jn3.f] at hu; cases hu; exact zHq _ _
   by_cases q3 : i = M.length + 2
   ·subst q3; rw [jn3.j] at hu; cases hu; exact zRI _ _
   rw [jn3.fr i q q1 q2 q3, hB] at hu;have hi3 : M.length + 3 <= i := by omega
   rw [zTu, zTy (by omega)] at hu;rcases Nat.eq_or_lt_of_le hi3 with z | z
   ·rw [<- z, b0l, Nat.sub_self] at hu;cases hu;show D.unds _ _ = true;exact zw _ _
   ·rw [zTy (by simp; omega)] at hu;rcases Nat.eq_or_lt_of_le z with y | y
    ·rw [show i - B0.length - [MO.lst ((zM zA).map D.int)].length = 0 by simp; omega] at hu;cases hu;exact zHq _ _
    ·obtain ⟨k, hk⟩ : ∃ k, i - B0.length - [MO.lst ((zM zA).map D.int)].length = k + 1 := ⟨i - B0.length - [MO.lst ((zM zA).map D.int)].length - 1, by simp; omega⟩;rw [hk, List.getElem?_cons_succ] at hu;exact zD1 (zTa _) (hus u (List.mem_of_getElem? hu))
  ·obtain ⟨ts, rfl⟩ := jn3.wf i u q hu;exact zHq _ _
open Classical in
noncomputable def zGI (zA : List (List Int)) (l : Nat) : List (List Int) := (zZ (zM zA)).filter fun p => decide (p ∉ zDp zA l One)
theorem zO3 (n : Nat) (ps : List (List Int)) : D.und n (.tup (ps.map tI)) = true := by unfold D.und; exact zIE n ps
theorem zM3 (m : IsM zA l) (hR : zA.length <= 26) (hl : l <= 12) : zEd [mD zA] M = some (.tup ((zGI zA l).map tI), M) := by
 refine zj ?_;unfold zEd;refine zFg ?_ ?_
 ·unfold D.unds D.unds;rw [zGQ]; rfl
 rw [zAr];unfold zH1;show OkS (za _ _ [some (mD zA), none, none] []) _;obtain ⟨d, M1, e, jf, rfl, _, ⟨fd, h2, _, sp⟩, _, _⟩ := zJq m hR hl (M := []);rw [zY, zq];refine zK (zBv (zAk (d := mD zA) rfl) e) ?_;rw [zU, zc];show OkS (zAp _ [some (mD zA), some (.ref jf), none] M1) _;have hrl : (zM zA).length = zA.length := by unfold zM; simp
 have epr := zJO (xs := zM zA) (by omega) (M := M1);have ei : zAg (ze zA9 (zH (toD (ze zBA (zH (toD (zD 0)) zR))) zR)) [some (mD zA), some (.ref jf), none] M1 = _ := zKr (zAk (d := tI (zM zA)) (zBv (zAk (d := mD zA) rfl) (zIq (by omega)))) epr (zAU _ _);have hjl := (zSr.mp h2).1;have hPl := zDz hR;have ef := zFP (own := [2]) (g := gN 2) (tc := tst (fOp (zCD true) (zD 2) (zD 1))) (te := zD 2) (zZ (zM zA)) tI tI (fun p => open Classical in decide (p ∉ zDp zA l One)) ei (.inl (zAU _ _)) (by omega) (fun p hp => by
  refine ⟨[some (mD zA), some (.ref jf), some (tI p)], rfl, ?_, fun _ => rfl⟩;have e1 : fOp (zCD true) (zD 2) (zD 1) [some (mD zA), some (.ref jf), some (tI p)] (M1 ++ [MO.lst ((zZ (zM zA)).map tI)]) = _ := zi (x := .dat (tI p)) (y := .dat (.ref jf)) rfl rfl (zNm (T := fd) (by rw [zSv hjl]; exact h2));rw [zS3 rfl] at e1;have hb : (zL fd p).isSome = true ↔ p ∈ zDp zA l One := by
   rw [zE3];constructor
   ·intro h;cases eL : zL fd p with
    | none => rw [eL] at h; cases h
    | some d =>
     obtain ⟨_, n, hn, _⟩ := (sp p d).mp eL;cases n with
     | zero =>
      obtain ⟨a, b, rfl, _⟩ := zAo.mp hp;exact absurd (zCM.mp hn) (by simp [One])
     | succ n => exact ⟨hp, n, hn⟩
   ·rintro ⟨_, n, hn⟩;rw [(sp p _).mpr ⟨zFf p hp, n + 1, hn, rfl⟩]; rfl
  rw [zA6 e1];by_cases hin : p ∈ zDp zA l One
  ·rw [hb.mpr hin, zTN (by simpa using hin)]; rfl
  ·have : (zL fd p).isSome = false := by
    cases h : (zL fd p).isSome with
    | false => rfl
    | true => exact absurd (hb.mp h) hin
   rw [this, zTw hin]; rfl)
 rw [zAt];refine zLj.mpr (zCq.mpr (zK ef (zD2.mpr ((zIP zDg).mpr ?_))));rw [zU];exact ⟨zO3 0 _, rfl, rfl⟩
theorem zJs (ps : List (List Int)) : (ps.map tI).all (zAm 1) = true := by
 rw [zTP];intro d hd;obtain ⟨p, _, rfl⟩ := zS5.mp hd;show (p.map D.int).all (zAm 0) = true;rw [zTP];intro x hx;obtain ⟨i, _, rfl⟩ := zS5.mp hx;rfl
theorem zOV (ns : List Int) (h : ns.length <= 63) : ∃ M', zFR [.ref 0] [.fro (ns.map D.int)] = some (.bl true, M') := by
 suffices hh : Ok (zFR [.ref 0] [.fro (ns.map D.int)]) fun d _ => d = .bl true by
  obtain ⟨d, M', e, rfl⟩ := hh;exact ⟨M', e⟩
 unfold zFR;rw [zAr];unfold zMi;refine zMm (τ := [none, none, none, none, none, none, none, none, none]) (by decide) (by decide) (by decide) h fun zA l M2 m hr1 hr2 hr3 hl g2 e02 => ?_;have hR : zA.length <= 26 := by omega
 have l0 := m.l0;have sr := zJL m;have hrl : (zM zA).length = zA.length := by unfold zM; simp
 rw [zY, zq];refine zCf.mpr (zK (zAk (d := mD zA) rfl) (Ok.mono (zLO m hR (by omega)) ?_));rintro d M3 ⟨jJ, J, rfl, hjJ, eJ, hJ, hl3, fr3, wf3⟩;rw [zU, zc];obtain ⟨hn2, hk2⟩ := g2.lt;have g3 : Gen M3 2 1 := by
  obtain ⟨c, s, e1, e2, r⟩ := g2.ex;refine ⟨⟨c, s, (fr3 _ hn2).trans e1, (fr3 _ hk2).trans e2, r⟩, g2.ne, fun i u hu => ?_⟩;rcases zUF i M2.length with q | q
  ·exact zD1 hl3 (g2.wf i u ((fr3 i q).symm.trans hu))
  ·exact wf3 i u q hu
 have e03 : M3[0]? = some (.fro (ns.map D.int)) := (fr3 0 (zSr.mp e02).1).trans e02;show OkS (za _ _ [some (.ref 0), some (.ref 2), some (.int (zA.length : Int)), some (mD zA), some (.ref jJ), none, none, none, none, none, none, none, none] M3) _;have eL := zK2 (zGR (σ := [some (.ref 0), some (.ref 2), some (.int (zA.length : Int)), some (mD zA), some (.ref jJ), none, none, none, none, none, none, none, none]) (M := M3) (f := zD 2) (zA := zA) (by omega) rfl);obtain ⟨d, B, ep, rfl, us, hB, hus⟩ := zEe (M := M3 ++ [.lst ((zM zA).map D.int)]) (j := M3.length) (xs := zM zA) (zAU _ _) sr.pw (by omega);have b1l : (M3 ++ [MO.lst ((zM zA).map D.int)]).length = M3.length + 1 := by simp
 have hP : B[M3.length + 1]? = some (.lst ((zZ (zM zA)).map tI)) := by rw [hB, <- b1l]; simp
 have hjl := (zSr.mp eJ).1;have upB : ∀ {i : Nat}, i < M3.length -> B[i]? = M3[i]? := fun {i} hi => by rw [hB, zTu, zSv hi]
 have ei : zAg (ze zAR (zH (toD (zDi (zD 2))) zR)) [some (.ref 0), some (.ref 2), some (.int (zA.length : Int)), some (mD zA), some (.ref jJ), none, none, none, none, none, none, none, none] M3 = some ((zZ (zM zA)).map tI, zEo (.dat (.ref (M3.length + 1))) ((zZ (zM zA)).map tI), B) := by
  have ec : ze zAR (zH (toD (zDi (zD 2))) zR) [some (.ref 0), some (.ref 2), some (.int (zA.length : Int)), some (mD zA), some (.ref jJ), none, none, none, none, none, none, none, none] M3 = some (.dat (.ref (M3.length + 1)), B) := by
   rw [<- b1l];exact zKw (aC' eL rfl) ep
  unfold zAg; rw [ec]; dsimp only; rw [zAa hP]
 have hPl := zDz hR;have ef := zFP (own := [6]) (g := gN 6) (tc := tst (fOp (zCD true) (zD 6) (zD 4))) (te := zD 6) (zZ (zM zA)) tI tI (fun p => open Classical in decide (p ∉ zDp zA l One)) ei (.inl hP) (by omega) (fun p hp => by
  refine ⟨[some (.ref 0), some (.ref 2), some (.int (zA.length : Int)), some (mD zA), some (.ref jJ), none, some (tI p), none, none, none, none, none, none], rfl, ?_, fun _ => rfl⟩;have e1 : fOp (zCD true) (zD 6) (zD 4) [some (.ref 0), some (.ref 2), some (.int (zA.length : Int)), some (mD zA), some (.ref jJ), none, some (tI p), none, none, none, none, none, none] B = _ := zi (x := .dat (tI p)) (y := .dat (.ref jJ)) rfl rfl (zNm (T := jnT J) ((upB hjl).trans eJ));rw [zS3 rfl] at e1;rw [zA6 e1];by_cases hin : p ∈ zDp zA l One
  ·rw [zEZ.mpr ((hJ p).mpr hin), zTN (by simpa using hin)]; rfl
  ·have : (zL (jnT J) p).isSome = false := by
    cases h : (zL (jnT J) p).isSome with
    | false => rfl
    | true => exact absurd ((hJ p).mp (zEZ.mp h)) hin
   rw [this, zTw hin]; rfl)
 rw [zY, zq];refine zLj.mpr (zCq.mpr (zK ef (zD2.mpr ((zIP zDg).mpr ?_))));rw [zU, zc];have gB : Gen B 2 1 := by
  rw [hB, zTu];refine g3.app fun u hu => ?_;rcases zTE.mp hu with z | z
  ·rw [zTG] at z; subst z;show D.unds _ _ = true;exact zw _ _
  ·rcases zS0.mp z with y | y
   ·subst y; exact zHq _ _
   ·exact zD1 (zTa _) (hus u y)
 have e0B : B[0]? = some (.fro (ns.map D.int)) := (upB (zSr.mp e03).1).trans e03;show OkS (za _ _ [some (.ref 0), some (.ref 2), some (.int (zA.length : Int)), some (mD zA), some (.ref jJ), some (.tup ((zGI zA l).map tI)), none, none, none, none, none, none, none] B) _;refine zEN (zBv (zAk (d := mD zA) rfl) (zM3 m hR (by omega))) ?_;have hal : (zGI zA l).length <= 676 := zTF (zVE _ _) hPl;have amem : ∀ p ∈ zGI zA l, p ∈ zZ (zM zA) /\ p ∉ zDp zA l One := fun p hp => by
  obtain ⟨a, b⟩ := zTz.mp hp;exact ⟨a, zTk b⟩
 generalize hA : zGI zA l = A at hal amem ⊢;show OkS (za _ _ [some (.ref 0), some (.ref 2), some (.int (zA.length : Int)), some (mD zA), some (.ref jJ), some (.tup (A.map tI)), none, some (.tup (A.map tI)), none, none, none, none, none] B) _;have pn : Pn 2 (.tup (A.map tI)) := Pn.tup (by rw [zSx]; omega) fun x hx => by
  obtain ⟨p, hp, rfl⟩ := zS5.mp hx;obtain ⟨a, b, rfl, _⟩ := zAo.mp (amem p hp).1;exact Pn.ints (by simp)
 refine zCY ((zQP (k := true) (zLp 2 (by decide) pn rfl rfl)).trans rfl) ?_;rw [zY, zBQ];obtain ⟨c, ec, lc⟩ := zQl (σ := [some (.ref 0), some (.ref 2), some (.int (zA.length : Int)), some (mD zA), some (.ref jJ), some (.tup (A.map tI)), none, some (.tup (A.map tI)), none, none, none, none, none]) (i := 63) (j := 0) rfl rfl e0B;refine ⟨_, _, _, zBZ (zEA ec zDg) (by omega) (by rw [zSx]; omega), ?_⟩;refine zGZ (n := (((c.map D.int).length : Int)).toNat) (I := fun i σ M' => (∃ y8 y9 y10 y11 y12, σ = [some (.ref 0), some (.ref 2), some (.int (zA.length : Int)), some (mD zA), some (.ref jJ), some (.tup (A.map tI)), none, some (.tup (A.map tI)), y8, y9, y10, y11, y12]) /\ Gen M' 2 1) ?_ ?_ _ _ ⟨⟨_, _, _, _, _, rfl⟩, gB⟩
 ·rintro i σ M' hi ⟨⟨y8, y9, y10, y11, y12, rfl⟩, g⟩;refine ⟨_, rfl, ?_⟩;show OkS (za _ _ [some (.ref 0), some (.ref 2), some (.int (zA.length : Int)), some (mD zA), some (.ref jJ), some (.tup (A.map tI)), none, some (.tup (A.map tI)), some (.int (i : Int)), y9, y10, y11, y12] M') _;rw [zY, zq];refine Ok.mono (zLX (most := 41) (lets := l) g (by omega) (by omega) (by omega) (by omega) (fun _ => rfl) (fun _ => rfl) (fun _ _ => rfl) (fun _ _ => zHx m rfl)) ?_;rintro x M4 ⟨⟨w, rfl, hwl, hw⟩, nx4⟩;refine zAb ?_;rw [zc];have nw4 := nx4.gen.lst (w.map D.int) (zw _ _);have eW : (M4 ++ [MO.lst (w.map D.int)])[M4.length]? = some (.lst (w.map D.int)) := zAU _ _;have g5 := nw4.gen;have hjn : M4.length ≠ 2 /\ M4.length ≠ 1 := by obtain ⟨hn4, hk4⟩ := nx4.gen.lt; omega
  generalize hM5 : M4 ++ [MO.lst (w.map D.int)] = M5 at eW g5 ⊢;generalize M4.length = jW at eW hjn ⊢;show OkS (sIf _ _ _ [some (.ref 0), some (.ref 2), some (.int (zA.length : Int)), some (mD zA), some (.ref jJ), some (.tup (A.map tI)), none, some (.tup (A.map tI)), some (.int (i : Int)), some (.ref jW), y10, y11, y12] M5) _;have et : tst (fOp (kTr true 1) (zD 7) (zFA zR)) [some (.ref 0), some (.ref 2), some (.int (zA.length : Int)), some (mD zA), some (.ref jJ), some (.tup (A.map tI)), none, some (.tup (A.map tI)), some (.int (i : Int)), some (.ref jW), y10, y11, y12] M5 = some (!A.isEmpty, M5) := by
   refine zA6 (zi (x := .dat (.tup (A.map tI))) (y := .dat (.tup [])) rfl (zRD rfl (by simp)) ?_);unfold kTr;rw [show zCO (.dat (.tup (A.map tI))) = some (A.map tI) from rfl, show zCO (.dat (.tup [])) = some [] from rfl];dsimp only;rw [zJs, zS3 (by rfl)];congr 3;cases A with
   | nil => rfl
   | cons p r => simp [zBz, nb]
  rw [zBH];refine zK et ?_;cases hAe : A with
  | nil =>
   show OkS (zBB _ _) _;rw [zA4];exact ⟨⟨_, _, _, _, _, rfl⟩, g5⟩
  | cons p0 r0 =>
   rw [<- hAe];have hne : (!A.isEmpty) = true := by rw [hAe]; rfl
   rw [hne, zS3 rfl];have hA0 : 0 < A.length := by rw [hAe]; simp
   rw [zY, zPe];have elen := zEA (f := zD 7) (σ := [some (.ref 0), some (.ref 2), some (.int (zA.length : Int)), some (mD zA), some (.ref jJ), some (.tup (A.map tI)), none, some (.tup (A.map tI)), some (.int (i : Int)), some (.ref jW), y10, y11, y12]) (M := M5) (x := .dat (.tup (A.map tI))) rfl zAl;rw [zSx] at elen;refine zAV.mpr (zK (a := .dat (.tup (A.map tI))) (M := M5) rfl (zAL g5 rfl elen (by omega) (by omega) fun t M6 t0 t1 nx6 => ?_));have ht : t.toNat < A.length := by omega
   refine zK (zD5 (d := tI A[t.toNat]) zAl (zKW t0 (by rw [zTB, zSs ht]; rfl))) ?_;rw [zU];obtain ⟨hp1, hp2⟩ := amem A[t.toNat] (zTM ht);obtain ⟨a, b, hab, ha, hb, hlt⟩ := zAo.mp hp1;rw [hab] at hp2 hp1 ⊢;have ha' := zA1.mp ha;have hb' := zA1.mp hb;refine ⟨_, rfl, ?_⟩;rw [zc];have hjW : jW < M5.length := (zSr.mp eW).1;have eW6 : M6[jW]? = some (.lst (w.map D.int)) := (nx6.fr jW hjn.1 hjn.2).trans eW;show OkS (sIf _ _ _ [some (.ref 0), some (.ref 2), some (.int (zA.length : Int)), some (mD zA), some (.ref jJ), some (.tup (A.map tI)), none, some (.tup (A.map tI)), some (.int (i : Int)), some (.ref jW), y10, some (.int a), some (.int b)] M6) _;have hne2 : zFD zA a w ≠ zFD zA b w := fun z => by
    have hpr : [a, b] = zBM a b := by unfold zBM; rw [zS6 (by omega), zS3 (by omega)]
    have hm : One (zJX zA [a, b] w) := by rw [hpr, zPE (by omega)]; exact z
    obtain ⟨k, _, hk⟩ := zEL _ ⟨w, rfl, hw, hm⟩;cases k with
    | zero => exact absurd (zCM.mp hk) (by simp [One])
    | succ k => exact hp2 (zE3.mpr ⟨hp1, k, hk⟩)
   have ew := zEi (f := zD 9) (σ := [some (.ref 0), some (.ref 2), some (.int (zA.length : Int)), some (mD zA), some (.ref jJ), some (.tup (A.map tI)), none, some (.tup (A.map tI)), some (.int (i : Int)), some (.ref jW), y10, some (.int a), some (.int b)]) (M := M6) (x := .dat (.ref jW)) rfl (zAa eW6);refine zOQ (zA6 ((zi (x := .dat (.int (zFD zA a w))) (y := .dat (.int (zFD zA b w))) (zBv (zBm (d := mD zA) rfl (zBm (d := .int a) rfl (zAk ew))) (zOI m ha'.1 ha'.2 hw)) (zBv (zBm (d := mD zA) rfl (zBm (d := .int b) rfl (zAk ew))) (zOI m hb'.1 hb'.2 hw)) eqE).trans ?_)) ⟨⟨_, _, _, _, _, rfl⟩, nx6.gen⟩;rw [zTN hne2]
 ·rintro σ M' ⟨⟨y8, y9, y10, y11, y12, rfl⟩, g⟩;exact zBR (d := .bl true) rfl rfl
end Lac
set_option maxHeartbeats 4000000
namespace Lac
open PySem PySem.Spec PyProof.Rows L2 L3 Law
-- the text by places
def top (i : Nat) : Stmt := PySem.Challenge.pw_bringhome_k23_pairs_apart.main.body.getD i (.Pass ⟨0, 0, 0, 0⟩)
abbrev zDf : Stmt := top 1
abbrev zMj : Stmt := top 3
abbrev zD3 : Stmt := top 4
abbrev zDH : Stmt := top 6
abbrev zDm : Stmt := top 7
abbrev zCB : Stmt := top 8
abbrev zDy : Stmt := top 9
abbrev zFh : Stmt := top 10
abbrev zCj : Stmt := top 12
abbrev zEB : Stmt := top 13
abbrev zDo : Stmt := top 14
abbrev zAF : Stmt := top 15
abbrev zBP : Stmt := top 16
abbrev zCi : Stmt := top 17
abbrev zC3 : Stmt := top 18
abbrev zDB : Stmt := top 19
abbrev zDL : Stmt := top 20
abbrev zIi : Stmt := top 21
structure Txt (K : PySem.W.Frag) (mg : Str -> Option Value) where
  d_all_rooms : Df K mg "all_rooms" zDf ["machine"]
  d_led : Df K mg "led" zMj ["machine", "room", "word"]
  d_stepped : Df K mg "stepped" zD3 ["machine", "rooms", "letter"]
  d_pairs_of : Df K mg "pairs_of" zDH ["rooms"]
  d_ways_back : Df K mg "ways_back" zDm ["machine"]
  d_lengths_to : Df K mg "lengths_to" zCB ["machine", "goals"]
  d_lengths : Df K mg "lengths" zDy ["machine"]
  d_apart : Df K mg "apart" zFh ["machine"]
  d_law_begin : Df K mg "_law_begin" zCj ["_law_script"]
  d_law_next : Df K mg "_law_next" zEB ["_law_state", "_law_many"]
  d_law_order : Df K mg "_law_order" zDo ["_law_state", "_law_many"]
  d_law_column : Df K mg "_law_column" zAF ["_law_state", "_law_family", "_law_rooms", "_law_letter"]
  d_law_machine : Df K mg "_law_machine" zBP ["_law_state", "_law_rooms", "_law_letters"]
  d_law_pairs : Df K mg "_law_pairs" zCi ["_law_rooms"]
  d_law_behind : Df K mg "_law_behind" zC3 ["_law_machine_here", "_law_pair", "_law_letter"]
  d_law_joined : Df K mg "_law_joined" zDB ["_law_machine_here"]
  d_law_same : Df K mg "_law_same" zDL ["_law_found", "_law_due"]
  d_law : Df K mg "law" zIi ["_law_script"]
  z_tuple : mg "tuple" = none
  z_range : mg "range" = none
  z_len : mg "len" = none
  z_sorted : mg "sorted" = none
  z_abs : mg "abs" = none
  z_int : mg "int" = none
  z_min : mg "min" = none
  z_max : mg "max" = none
  z_list : mg "list" = none
  z_isinstance : mg "isinstance" = none
  z_bool : mg "bool" = none
  z_all : mg "all" = none
  z_zip : mg "zip" = none
  kinds : Kinds K
section
variable {P : Program} {w : World} {K : PySem.W.Frag} {mg : Str -> Option Value} {base : Heap}
abbrev zIk : List Str := ["machine"]
theorem zIX : FnScope zIk ["machine"] (zV zDf) := ⟨rfl, rfl, rfl, by decide +kernel, rfl, by decide +kernel, by decide +kernel⟩
theorem zEW (T : Txt K mg) : Od P w base 1 T.d_all_rooms zBA := by
  unfold zBA;exact zA2 (n := 1) T.d_all_rooms.F zIX rfl (fun cdv A outer s H E hr => by
    unfold zDc;exact (zb (zAW (zQn rfl rfl T.z_tuple rfl T.z_range (zDO rfl T.z_len (zu (zE (pv 0)) zAI (zC rfl)) (zC rfl) rfl) (zC rfl) rfl (zC rfl) rfl))))
abbrev zRZ : List Str := ["machine", "room", "word", "here", "letter"]
theorem zId : FnScope zRZ ["machine", "room", "word"] (zV zMj) := ⟨rfl, rfl, rfl, by decide +kernel, rfl, by decide +kernel, by decide +kernel⟩
theorem zNe (T : Txt K mg) : Od P w base 1 T.d_led zHH := by
  unfold zHH;exact zFi (zA2 (n := 3) T.d_led.F zId rfl (fun cdv A outer s H E hr => by
    unfold zN9;exact (zQ (zBN (i := 3) zId.nd rfl (zE (pv 1)))
    (zQ (zDP zAv zUN rfl (zBG (zE (pv 2))) (zAE (i := 4) zId.nd rfl) (zb (zBN (i := 3) zId.nd rfl (zBC (zBC (zE (pv 0)) (zE (pv 3))) (zE (pv 4))))))
    (zb (zAW (zE (pv 3))))))))
abbrev zG9 : List Str := ["machine", "rooms", "letter", "room"]
theorem zGW : FnScope zG9 ["machine", "rooms", "letter"] (zV zD3) := ⟨rfl, rfl, rfl, by decide +kernel, rfl, by decide +kernel, by decide +kernel⟩
theorem zJl (T : Txt K mg) : Od P w base 1 T.d_stepped zCG := by
  unfold zCG;exact zFi (zA2 (n := 3) T.d_stepped.F zGW rfl (fun cdv A outer s H E hr => by
    unfold zE7;exact (zb (zAW (zC6 rfl T.z_tuple (zu (zO7 rfl rfl T.z_sorted (zQh (zt (i := 3) (by decide)) (zr (sc := zV zD3) (N := zG9) rfl rfl rfl (by decide +kernel) (by decide +kernel)) rfl (zBG (zE (pv 1))) ⟨fun _ _ _ _ _ => (zAE (i := 3) zGW.nd rfl), fun _ _ _ _ _ => zA8, fun _ _ _ _ _ => (zBC (zBC (zE (pv 0)) (zE (pv 3))) (zE (pv 2)))⟩) (zC rfl) rfl) zAI (zC rfl)) (zC rfl) rfl)))))
abbrev zFy : List Str := ["rooms", "one", "other"]
theorem zDs : FnScope zFy ["rooms"] (zV zDH) := ⟨rfl, rfl, rfl, by decide +kernel, rfl, by decide +kernel, by decide +kernel⟩
theorem zFE (T : Txt K mg) : Od P w base 1 T.d_pairs_of zA9 := by
  unfold zA9;exact zA2 (n := 1) T.d_pairs_of.F zDs rfl (fun cdv A outer s H E hr => by
    unfold zEH;exact (zb (zAW (zPK (by decide) (zt (i := 1) (by decide)) (zt (i := 2) (by decide)) (zr (sc := zV zDH) (N := zFy) rfl rfl rfl (by decide +kernel) (by decide +kernel)) rfl (zBG (zE (pv 0))) ⟨fun _ _ _ _ _ => (zAE (i := 1) zDs.nd rfl), fun _ _ _ _ _ => zA8, fun _ _ _ _ _ => (zBG (zE (pv 0))), fun _ _ _ _ _ => (zAE (i := 2) zDs.nd rfl), fun _ _ _ _ _ => (zHt (zPt (zE (pv 1)) (zE (pv 2)))), fun _ _ _ _ _ => (zJP (zI (zN (zE (pv 1))) (zI (zN (zE (pv 2))) zS (zC rfl)) (zC rfl))), fun _ _ _ _ _ _ => rfl⟩))))
abbrev zFF : List Str := ["_law_script", "_law_seed", "_law_cell"]
theorem zBf : FnScope zFF ["_law_script"] (zV zCj) := ⟨rfl, rfl, rfl, by decide +kernel, rfl, by decide +kernel, by decide +kernel⟩
theorem zIQ (T : Txt K mg) : Od P w base 1 T.d_law_begin zBU := by
  unfold zBU;exact zA2 (n := 1) T.d_law_begin.F zBf rfl (fun cdv A outer s H E hr => by
    unfold zDe;exact (zQ (zBN (i := 1) zBf.nd rfl (zBX (zDO rfl T.z_len (zu (zE (pv 0)) zAI (zC rfl)) (zC rfl) rfl) zd))
    (zQ (zDP zAv zUN rfl (zBG (zFj (zE (pv 0)) zFb (zFc zd))) (zAE (i := 2) zBf.nd rfl) (zb (zBN (i := 1) zBf.nd rfl (zEX (zBX (zBX (zMu (zE (pv 1)) zd) (zEX (zE (pv 2)) (zPr zd zd))) zd) zd))))
    (zb (zAW (zCe (zI (zN (zBT (zt (i := 2) (by decide)) (zr (sc := zV zCj) (N := zFF) rfl rfl rfl (by decide +kernel) (by decide +kernel)) rfl (zBG (zFj (zE (pv 0)) zFb (zFc zd))) ⟨fun _ _ _ _ _ => (zAE (i := 2) zBf.nd rfl), fun _ _ _ _ _ => (zHt (zRi (zP9 rfl T.z_abs (zu (zE (pv 2)) zAI (zC rfl)) (zC rfl) rfl) (zPr zd zd))), fun _ _ _ _ _ => (zP9 rfl T.z_abs (zu (zE (pv 2)) zAI (zC rfl)) (zC rfl) rfl)⟩)) (zI (zN (zE (pv 1))) zS (zC rfl)) (zC rfl))))))))
abbrev zKF : List Str := ["_law_state", "_law_many", "_law_digit"]
theorem zFS : FnScope zKF ["_law_state", "_law_many"] (zV zEB) := ⟨rfl, rfl, rfl, by decide +kernel, rfl, by decide +kernel, by decide +kernel⟩
theorem zv (T : Txt K mg) : Od P w base 1 T.d_law_next zf := by
  unfold zf;exact zA2 (n := 2) T.d_law_next.F zFS rfl (fun cdv A outer s H E hr => by
    unfold zEG;exact (zQ (zIf 100 zUN (zM8 (zJo (zKh hr.units0 (zBC (zE (pv 0)) zd) (zCe zS)) (zHw (zDR hr.units0 (zBC (zBC (zE (pv 0)) zd) zd) zd)))) (zb (zDd (zR0 (zBC (zE (pv 0)) zd) (zI (zN zd) zS (zC rfl))))))
    (zQ (zCy (zKh hr.units0 (zBC (zE (pv 0)) zd) (zCe zS)) (zQ (zBN (i := 2) zFS.nd rfl (zEX (zBC (zBC (zE (pv 0)) zd) zd) (zE (pv 1))))
    (zQ (zGT (zNo (zBC (zBC (zE (pv 0)) zd) zd) (zE (pv 1))) (zBC (zE (pv 0)) zd) zd)
    (zb (zAW (zE (pv 2)))))) zAq)
    (zQ (zGT (zEX (zBX (zMu (zBC (zE (pv 0)) zd) zd) zd) zd) (zE (pv 0)) zd)
    (zb (zAW (zEX (zNo (zEX (zMu (zBC (zE (pv 0)) zd) (zBC (zE (pv 0)) zd)) zd) zd) (zE (pv 1)))))))))
abbrev zFM : List Str := ["_law_rooms", "_law_found", "_law_k", "_law_other"]
theorem zB7 : FnScope zFM ["_law_rooms"] (zV zCi) := ⟨rfl, rfl, rfl, by decide +kernel, rfl, by decide +kernel, by decide +kernel⟩
theorem zEb (T : Txt K mg) : Od P w base 1 T.d_law_pairs zAR := by
  unfold zAR;exact zA2 (n := 1) T.d_law_pairs.F zB7 rfl (fun cdv A outer s H E hr => by
    unfold zDW;exact (zQ (zBN (i := 1) zB7.nd rfl (zCe zS))
    (zQ (zDP zAv zUN rfl (zAB rfl T.z_range (zI (zN (zDO rfl T.z_len (zu (zE (pv 0)) zAI (zC rfl)) (zC rfl) rfl)) zS (zC rfl)) (zG zT) (zAD rfl)) (zAE (i := 2) zB7.nd rfl) (zb (zDd (zOA (zE (pv 1)) (zI (zN (zBT (zt (i := 3) (by decide)) (zr (sc := zV zCi) (N := zFM) rfl rfl rfl (by decide +kernel) (by decide +kernel)) rfl (zBG (zFj (zE (pv 0)) (zFc (zBX (zE (pv 2)) zd)) zFb)) ⟨fun _ _ _ _ _ => (zAE (i := 3) zB7.nd rfl), fun _ _ _ _ _ => zA8, fun _ _ _ _ _ => (zJP (zI (zN (zBC (zE (pv 0)) (zE (pv 2)))) (zI (zN (zE (pv 3))) zS (zC rfl)) (zC rfl)))⟩)) zS (zC rfl))))))
    (zb (zAW (zE (pv 1)))))))
abbrev zHn : List Str := ["_law_machine_here", "_law_pair", "_law_letter", "_law_one", "_law_other"]
theorem zCm : FnScope zHn ["_law_machine_here", "_law_pair", "_law_letter"] (zV zC3) := ⟨rfl, rfl, rfl, by decide +kernel, rfl, by decide +kernel, by decide +kernel⟩
theorem zG0 (T : Txt K mg) : Od P w base 1 T.d_law_behind zAu := by
  unfold zAu;exact zFi (zA2 (n := 3) T.d_law_behind.F zCm rfl (fun cdv A outer s H E hr => by
    unfold zDC;exact (zQ (zBN (i := 3) zCm.nd rfl (zBC (zBC (zE (pv 0)) (zBC (zE (pv 1)) zd)) (zE (pv 2))))
    (zQ (zBN (i := 4) zCm.nd rfl (zBC (zBC (zE (pv 0)) (zBC (zE (pv 1)) zd)) (zE (pv 2))))
    (zb (zAW (zJP (zI (zN (zQQ rfl rfl T.z_min (zu (zE (pv 3)) (zu (zE (pv 4)) zAI (zC rfl)) (zC rfl)) (zC rfl) (zX rfl))) (zI (zN (zQZ rfl rfl T.z_max (zu (zE (pv 3)) (zu (zE (pv 4)) zAI (zC rfl)) (zC rfl)) (zC rfl) (zX rfl))) zS (zC rfl)) (zC rfl)))))))))
abbrev zIw : List Str := ["machine", "sources", "pair", "letter", "goal"]
theorem zBe : FnScope zIw ["machine"] (zV zDm) := ⟨rfl, rfl, rfl, by decide +kernel, rfl, by decide +kernel, by decide +kernel⟩
theorem zHo (T : Txt K mg) : Od P w base 2 T.d_ways_back zBy := by
  unfold zBy;exact zA2 (n := 1) T.d_ways_back.F zBe rfl (fun cdv A outer s H E hr => by
    unfold zDV;exact (zQ (zBN (i := 1) zBe.nd rfl zHk)
    (zQ (zDP zAv zUN rfl (zBG (zA7 (zFE T) (hr.mono (by omega)) rfl (zI (zN (zA7 (zEW T) (hr.mono (by omega)) rfl (zI (zN (zE (pv 0))) zS (zC rfl)) (zG zT) (by decide) (zC rfl) (zX rfl))) zS (zC rfl)) (zG zT) (by decide) (zC rfl) (zX rfl))) (zAE (i := 2) zBe.nd rfl) (zb (zDP zAv zUN rfl (zAB rfl T.z_range (zI (zN (zDO rfl T.z_len (zu (zBC (zE (pv 0)) zd) zAI (zC rfl)) (zC rfl) rfl)) zS (zC rfl)) (zG zT) (zAD rfl)) (zAE (i := 3) zBe.nd rfl) (zQ (zBN (i := 4) zBe.nd rfl (zA7 (zJl T) (hr.mono (by omega)) rfl (zI (zN (zE (pv 0))) (zI (zN (zE (pv 2))) (zI (zN (zE (pv 3))) zS (zC rfl)) (zC rfl)) (zC rfl)) (zG (zG (zG zT))) (by decide) (zC rfl) (zX rfl)))
    (zQ (zCy (zCE (zB5 hr) (zE (pv 4)) (zE (pv 1))) (zb (zIG (zB5 hr) (zCe zS) (zE (pv 1)) (zE (pv 4)))) zAq)
    (zb (zDd (zDX (zNy (zB5 hr) (zE (pv 1)) (zE (pv 4))) (zI (zN (zE (pv 2))) zS (zC rfl))))))))))
    (zb (zAW (zE (pv 1)))))))
abbrev zI5 : List Str := ["_law_state", "_law_many", "_law_order_here", "_law_k"]
theorem zC4 : FnScope zI5 ["_law_state", "_law_many"] (zV zDo) := ⟨rfl, rfl, rfl, by decide +kernel, rfl, by decide +kernel, by decide +kernel⟩
theorem zIe (T : Txt K mg) : Od P w base 2 T.d_law_order zB1 := by
  unfold zB1;exact zA2 (n := 2) T.d_law_order.F zC4 rfl (fun cdv A outer s H E hr => by
    unfold zDq;exact (zQ (zBN (i := 2) zC4.nd rfl (zCe zS))
    (zQ (zDP zAv zUN rfl (zAB rfl T.z_range (zI (zN (zE (pv 1))) zS (zC rfl)) (zG zT) (zAD rfl)) (zAE (i := 3) zC4.nd rfl) (zb (zDd (zN1 (zE (pv 2)) (zI (zN (zA7 (zv T) (hr.mono (by omega)) rfl (zI (zN (zE (pv 0))) (zI (zN (zBX (zE (pv 3)) zd)) zS (zC rfl)) (zC rfl)) (zG (zG zT)) (by decide) (zC rfl) (zX rfl))) (zI (zN (zE (pv 3))) zS (zC rfl)) (zC rfl))))))
    (zb (zAW (zE (pv 2)))))))
abbrev zIB : List Str := ["_law_machine_here", "_law_ahead", "_law_front", "_law_joined_here", "_law_pair", "_law_letter", "_law_goal"]
theorem zAS : FnScope zIB ["_law_machine_here"] (zV zDB) := ⟨rfl, rfl, rfl, by decide +kernel, rfl, by decide +kernel, by decide +kernel⟩
theorem zGv (T : Txt K mg) : Od P w base 2 T.d_law_joined zBa := by
  unfold zBa;exact zA2 (n := 1) T.d_law_joined.F zAS rfl (fun cdv A outer s H E hr => by
    unfold zDD;exact (zQ (zBN (i := 1) zAS.nd rfl zHk)
    (zQ (zBN (i := 2) zAS.nd rfl (zCe zS))
    (zQ (zBN (i := 3) zAS.nd rfl zHk)
    (zQ (zDP zAv zUN rfl (zBG (zA7 (zEb T) (hr.mono (by omega)) rfl (zI (zN (zNd rfl rfl T.z_list rfl T.z_range (zDO rfl T.z_len (zu (zE (pv 0)) zAI (zC rfl)) (zC rfl) rfl) (zC rfl) rfl (zC rfl) rfl)) zS (zC rfl)) (zG zT) (by decide) (zC rfl) (zX rfl))) (zAE (i := 4) zAS.nd rfl) (zb (zDP zAv zUN rfl (zAB rfl T.z_range (zI (zN (zDO rfl T.z_len (zu (zBC (zE (pv 0)) zd) zAI (zC rfl)) (zC rfl) rfl)) zS (zC rfl)) (zG zT) (zAD rfl)) (zAE (i := 5) zAS.nd rfl) (zQ (zBN (i := 6) zAS.nd rfl (zA7 (zG0 T) (hr.mono (by omega)) rfl (zI (zN (zE (pv 0))) (zI (zN (zE (pv 4))) (zI (zN (zE (pv 5))) zS (zC rfl)) (zC rfl)) (zC rfl)) (zG (zG (zG zT))) (by decide) (zC rfl) (zX rfl)))
    (zb (zCy (zPt (zBC (zE (pv 6)) zd) (zBC (zE (pv 6)) zd)) (zb (zDd (zDX (zNC (zB5 hr) (zE (pv 1)) (zE (pv 6)) (zCe zS) ⟨rfl, rfl, rfl, rfl⟩) (zI (zN (zE (pv 4))) zS (zC rfl))))) (zb (zCy (zCE (zB5 hr) (zE (pv 4)) (zE (pv 3))) (zQ (zIG (zB5 hr) zMT (zE (pv 3)) (zE (pv 4)))
    (zb (zDd (zDX (zE (pv 2)) (zI (zN (zE (pv 4))) zS (zC rfl)))))) zAq))))))))
    (zQ (zIf 1000 zUN (zKh hr.units0 (zE (pv 2)) (zCe zS)) (zb (zDP zAv zUN rfl (zBG (zKx (zB5 hr) (zE (pv 1)) (zRH (zE (pv 2))) (zCe zS) ⟨rfl, rfl, rfl, rfl⟩)) (zAE (i := 4) zAS.nd rfl) (zb (zCy (zCE (zB5 hr) (zE (pv 4)) (zE (pv 3))) (zQ (zIG (zB5 hr) zMT (zE (pv 3)) (zE (pv 4)))
    (zb (zDd (zDX (zE (pv 2)) (zI (zN (zE (pv 4))) zS (zC rfl)))))) zAq)))))
    (zb (zAW (zE (pv 3))))))))))
abbrev zEn : List Str := ["machine", "goals", "sources", "level", "found", "goal", "behind", "pair"]
theorem zAH : FnScope zEn ["machine", "goals"] (zV zCB) := ⟨rfl, rfl, rfl, by decide +kernel, rfl, by decide +kernel, by decide +kernel⟩
theorem zGj (T : Txt K mg) : Od P w base 3 T.d_lengths_to zBh := by
  unfold zBh;exact zA2 (n := 2) T.d_lengths_to.F zAH rfl (fun cdv A outer s H E hr => by
    unfold zDF;exact (zQ (zBN (i := 2) zAH.nd rfl (zA7 (zHo T) (hr.mono (by omega)) rfl (zI (zN (zE (pv 0))) zS (zC rfl)) (zG zT) (by decide) (zC rfl) (zX rfl)))
    (zQ (zBN (i := 3) zAH.nd rfl (zE (pv 1)))
    (zQ (zKc (i := 4) (isT := true) zAH.nd rfl (by first | exact Or.inl rfl | exact Or.inr rfl) (by first | exact .inl rfl | exact .inr rfl) rfl (zB5 hr) (zt (i := 5) (by decide)) (zr (sc := zV zCB) (N := zEn) rfl rfl rfl (by decide +kernel) (by decide +kernel)) rfl (zBG (zE (pv 1))) ⟨fun _ _ _ _ _ => (zAE (i := 5) zAH.nd rfl), fun _ _ _ _ _ => zA8, fun _ _ _ _ _ => (zE (pv 5))⟩ (fun _ _ _ _ _ => zd))
    (zQ (zIf 1000 zUN (zPJ (zE (pv 3))) (zQ (zBN (i := 6) zAH.nd rfl (zCe zS))
    (zQ (zDP zAv zUN rfl (zBG (zE (pv 3))) (zAE (i := 5) zAH.nd rfl) (zb (zDP zAv zUN rfl (zBG (zKx (zB5 hr) (zE (pv 2)) (zE (pv 5)) (zCe zS) ⟨rfl, rfl, rfl, rfl⟩)) (zAE (i := 7) zAH.nd rfl) (zb (zCy (zCE (zB5 hr) (zE (pv 7)) (zE (pv 4))) (zQ (zIG (zB5 hr) (zBX (zNy (zB5 hr) (zE (pv 4)) (zE (pv 5))) zd) (zE (pv 4)) (zE (pv 7)))
    (zb (zDd (zDX (zE (pv 6)) (zI (zN (zE (pv 7))) zS (zC rfl)))))) zAq)))))
    (zb (zBN (i := 3) zAH.nd rfl (zE (pv 6)))))))
    (zb (zAW (zE (pv 4)))))))))
abbrev zAe : List Str := ["_law_state", "_law_family", "_law_rooms", "_law_letter", "_law_room", "_law_half", "_law_ahead", "_law_far", "_law_order_here", "_law_goal"]
theorem zp : FnScope zAe ["_law_state", "_law_family", "_law_rooms", "_law_letter"] (zV zAF) := ⟨rfl, rfl, rfl, by decide +kernel, rfl, by decide +kernel, by decide +kernel⟩
theorem zGw (T : Txt K mg) : Od P w base 3 T.d_law_column zBg := by
  unfold zBg;exact zA2 (n := 4) T.d_law_column.F zp rfl (fun cdv A outer s H E hr => by
    unfold zDA;exact (zQ (zCy (zDR hr.units0 (zE (pv 1)) zd) (zb (zAW (zBT (zt (i := 4) (by decide)) (zr (sc := zV zAF) (N := zAe) rfl rfl rfl (by decide +kernel) (by decide +kernel)) rfl (zAB rfl T.z_range (zI (zN (zE (pv 2))) zS (zC rfl)) (zG zT) (zAD rfl)) ⟨fun _ _ _ _ _ => (zAE (i := 4) zp.nd rfl), fun _ _ _ _ _ => zA8, fun _ _ _ _ _ => (zA7 (zv T) (hr.mono (by omega)) rfl (zI (zN (zE (pv 0))) (zI (zN (zE (pv 2))) zS (zC rfl)) (zC rfl)) (zG (zG zT)) (by decide) (zC rfl) (zX rfl))⟩))) zAq)
    (zQ (zCy (zDR hr.units0 (zE (pv 1)) zd) (zb (zAW (zBT (zt (i := 4) (by decide)) (zr (sc := zV zAF) (N := zAe) rfl rfl rfl (by decide +kernel) (by decide +kernel)) rfl (zAB rfl T.z_range (zI (zN (zE (pv 2))) zS (zC rfl)) (zG zT) (zAD rfl)) ⟨fun _ _ _ _ _ => (zAE (i := 4) zp.nd rfl), fun _ _ _ _ _ => zA8, fun _ _ _ _ _ => (zEX (zBX (zE (pv 4)) (zA7 (zv T) (hr.mono (by omega)) rfl (zI (zN (zE (pv 0))) (zI (zN zd) zS (zC rfl)) (zC rfl)) (zG (zG zT)) (by decide) (zC rfl) (zX rfl))) (zE (pv 2)))⟩))) zAq)
    (zQ (zCy (zDR hr.units0 (zE (pv 1)) zd) (zQ (zBN (i := 5) zp.nd rfl (zNo (zBX (zE (pv 2)) zd) zd))
    (zQ (zHD (i := 6) zp.nd rfl (by first | exact Or.inl rfl | exact Or.inr rfl) (by first | exact .inl rfl | exact .inr rfl) rfl (zt (i := 4) (by decide)) (zr (sc := zV zAF) (N := zAe) rfl rfl rfl (by decide +kernel) (by decide +kernel)) rfl (zAB rfl T.z_range (zI (zN (zE (pv 5))) zS (zC rfl)) (zG zT) (zAD rfl)) ⟨fun _ _ _ _ _ => (zAE (i := 4) zp.nd rfl), fun _ _ _ _ _ => zA8, fun _ _ _ _ _ => (zA7 (zv T) (hr.mono (by omega)) rfl (zI (zN (zE (pv 0))) (zI (zN (zE (pv 5))) zS (zC rfl)) (zC rfl)) (zG (zG zT)) (by decide) (zC rfl) (zX rfl))⟩)
    (zb (zAW (zQM (zE (pv 6)) (zBT (zt (i := 4) (by decide)) (zr (sc := zV zAF) (N := zAe) rfl rfl rfl (by decide +kernel) (by decide +kernel)) rfl (zAB rfl T.z_range (zI (zN (zNX (zE (pv 2)) (zE (pv 5)))) zS (zC rfl)) (zG zT) (zAD rfl)) ⟨fun _ _ _ _ _ => (zAE (i := 4) zp.nd rfl), fun _ _ _ _ _ => zA8, fun _ _ _ _ _ => (zBX (zE (pv 5)) (zA7 (zv T) (hr.mono (by omega)) rfl (zI (zN (zE (pv 0))) (zI (zN (zNX (zE (pv 2)) (zE (pv 5)))) zS (zC rfl)) (zC rfl)) (zG (zG zT)) (by decide) (zC rfl) (zX rfl)))⟩)))))) zAq)
    (zQ (zCy (zM8 (zJo (zDR hr.units0 (zE (pv 1)) zd) (zHw (zDR hr.units0 (zE (pv 3)) zd)))) (zb (zAW (zBT (zt (i := 4) (by decide)) (zr (sc := zV zAF) (N := zAe) rfl rfl rfl (by decide +kernel) (by decide +kernel)) rfl (zAB rfl T.z_range (zI (zN (zE (pv 2))) zS (zC rfl)) (zG zT) (zAD rfl)) ⟨fun _ _ _ _ _ => (zAE (i := 4) zp.nd rfl), fun _ _ _ _ _ => zA8, fun _ _ _ _ _ => (zEX (zBX (zE (pv 4)) zd) (zE (pv 2)))⟩))) zAq)
    (zQ (zCy (zDR hr.units0 (zE (pv 1)) zd) (zb (zAW (zBT (zt (i := 4) (by decide)) (zr (sc := zV zAF) (N := zAe) rfl rfl rfl (by decide +kernel) (by decide +kernel)) rfl (zAB rfl T.z_range (zI (zN (zE (pv 2))) zS (zC rfl)) (zG zT) (zAD rfl)) ⟨fun _ _ _ _ _ => (zAE (i := 4) zp.nd rfl), fun _ _ _ _ _ => zA8, fun _ _ _ _ _ => (zBC (zCe (zI (zN (zE (pv 4))) (zI (zN zd) zS (zC rfl)) (zC rfl))) (zM1 rfl T.z_int (zu (zPM hr.units0 (zE (pv 4)) (zNX (zE (pv 2)) zd)) zAI (zC rfl)) (zC rfl) rfl))⟩))) zAq)
    (zQ (zCy (zM8 (zP1 (zDR hr.units0 (zE (pv 1)) zd) (zNT (zDR hr.units0 (zE (pv 1)) zd)))) (zQ (zBN (i := 7) zp.nd rfl (zA7 (zv T) (hr.mono (by omega)) rfl (zI (zN (zE (pv 0))) (zI (zN (zE (pv 2))) zS (zC rfl)) (zC rfl)) (zG (zG zT)) (by decide) (zC rfl) (zX rfl)))
    (zb (zAW (zBT (zt (i := 4) (by decide)) (zr (sc := zV zAF) (N := zAe) rfl rfl rfl (by decide +kernel) (by decide +kernel)) rfl (zAB rfl T.z_range (zI (zN (zE (pv 2))) zS (zC rfl)) (zG zT) (zAD rfl)) ⟨fun _ _ _ _ _ => (zAE (i := 4) zp.nd rfl), fun _ _ _ _ _ => zA8, fun _ _ _ _ _ => (zBC (zCe (zI (zN (zEX (zBX (zE (pv 4)) (zE (pv 7))) (zE (pv 2)))) (zI (zN (zE (pv 7))) zS (zC rfl)) (zC rfl))) (zM1 rfl T.z_int (zu (zPM hr.units0 (zE (pv 1)) zd) zAI (zC rfl)) (zC rfl) rfl))⟩)))) zAq)
    (zQ (zBN (i := 8) zp.nd rfl (zA7 (zIe T) (hr.mono (by omega)) rfl (zI (zN (zE (pv 0))) (zI (zN (zE (pv 2))) zS (zC rfl)) (zC rfl)) (zG (zG zT)) (by decide) (zC rfl) (zX rfl)))
    (zQ (zCy (zM8 (zJo (zDR hr.units0 (zE (pv 1)) zd) (zHw (zDR hr.units0 (zE (pv 3)) zd)))) (zQ (zBN (i := 9) zp.nd rfl (zBC (zE (pv 8)) (zA7 (zv T) (hr.mono (by omega)) rfl (zI (zN (zE (pv 0))) (zI (zN (zE (pv 2))) zS (zC rfl)) (zC rfl)) (zG (zG zT)) (by decide) (zC rfl) (zX rfl))))
    (zb (zGT (zE (pv 9)) (zE (pv 8)) (zA7 (zv T) (hr.mono (by omega)) rfl (zI (zN (zE (pv 0))) (zI (zN (zE (pv 2))) zS (zC rfl)) (zC rfl)) (zG (zG zT)) (by decide) (zC rfl) (zX rfl))))) zAq)
    (zb (zAW (zE (pv 8)))))))))))))
abbrev zHK : List Str := ["machine", "room"]
theorem zGH : FnScope zHK ["machine"] (zV zDy) := ⟨rfl, rfl, rfl, by decide +kernel, rfl, by decide +kernel, by decide +kernel⟩
theorem zKP (T : Txt K mg) : Od P w base 4 T.d_lengths zCt := by
  unfold zCt;exact zA2 (n := 1) T.d_lengths.F zGH rfl (fun cdv A outer s H E hr => by
    unfold zEu;exact (zb (zAW (zA7 (zGj T) (hr.mono (by omega)) rfl (zI (zN (zE (pv 0))) (zI (zN (zBT (zt (i := 1) (by decide)) (zr (sc := zV zDy) (N := zHK) rfl rfl rfl (by decide +kernel) (by decide +kernel)) rfl (zAB rfl T.z_range (zI (zN (zDO rfl T.z_len (zu (zE (pv 0)) zAI (zC rfl)) (zC rfl) rfl)) zS (zC rfl)) (zG zT) (zAD rfl)) ⟨fun _ _ _ _ _ => (zAE (i := 1) zGH.nd rfl), fun _ _ _ _ _ => zA8, fun _ _ _ _ _ => (zJP (zI (zN (zE (pv 1))) zS (zC rfl)))⟩)) zS (zC rfl)) (zC rfl)) (zG (zG zT)) (by decide) (zC rfl) (zX rfl)))))
abbrev zBs : List Str := ["_law_state", "_law_rooms", "_law_letters", "_law_family", "_law_columns", "_law_letter", "_law_column_here", "_law_room"]
theorem zAj : FnScope zBs ["_law_state", "_law_rooms", "_law_letters"] (zV zBP) := ⟨rfl, rfl, rfl, by decide +kernel, rfl, by decide +kernel, by decide +kernel⟩
theorem zFk (T : Txt K mg) : Od P w base 4 T.d_law_machine zA0 := by
  unfold zA0;exact zOz (zA2 (n := 3) T.d_law_machine.F zAj rfl (fun cdv A outer s H E hr => by
    unfold zCl;exact (zQ (zBN (i := 3) zAj.nd rfl (zA7 (zv T) (hr.mono (by omega)) rfl (zI (zN (zE (pv 0))) (zI (zN zd) zS (zC rfl)) (zC rfl)) (zG (zG zT)) (by decide) (zC rfl) (zX rfl)))
    (zQ (zBN (i := 4) zAj.nd rfl (zBT (zt (i := 5) (by decide)) (zr (sc := zV zBP) (N := zBs) rfl rfl rfl (by decide +kernel) (by decide +kernel)) rfl (zAB rfl T.z_range (zI (zN (zE (pv 2))) zS (zC rfl)) (zG zT) (zAD rfl)) ⟨fun _ _ _ _ _ => (zAE (i := 5) zAj.nd rfl), fun _ _ _ _ _ => zA8, fun _ _ _ _ _ => (zA7 (zGw T) (hr.mono (by omega)) rfl (zI (zN (zE (pv 0))) (zI (zN (zE (pv 3))) (zI (zN (zE (pv 1))) (zI (zN (zE (pv 5))) zS (zC rfl)) (zC rfl)) (zC rfl)) (zC rfl)) (zG (zG (zG (zG zT)))) (by decide) (zC rfl) (zX rfl))⟩))
    (zb (zAW (zC6 rfl T.z_tuple (zu (zBT (zt (i := 7) (by decide)) (zr (sc := zV zBP) (N := zBs) rfl rfl rfl (by decide +kernel) (by decide +kernel)) rfl (zAB rfl T.z_range (zI (zN (zE (pv 1))) zS (zC rfl)) (zG zT) (zAD rfl)) ⟨fun _ _ _ _ _ => (zAE (i := 7) zAj.nd rfl), fun _ _ _ _ _ => zA8, fun _ _ _ _ _ => (zC6 rfl T.z_tuple (zu (zBT (zt (i := 6) (by decide)) (zr (N := zBs) rfl rfl rfl (by rfl) (by decide +kernel)) rfl (zBG (zE (pv 4))) ⟨fun _ _ _ _ _ => (zAE (i := 6) zAj.nd rfl), fun _ _ _ _ _ => zA8, fun _ _ _ _ _ => (zBC (zE (pv 6)) (zE (pv 7)))⟩) zAI (zC rfl)) (zC rfl) rfl)⟩) zAI (zC rfl)) (zC rfl) rfl)))))))
abbrev zLB : List Str := ["machine", "found", "pair"]
theorem zGG : FnScope zLB ["machine"] (zV zFh) := ⟨rfl, rfl, rfl, by decide +kernel, rfl, by decide +kernel, by decide +kernel⟩
theorem zNU (T : Txt K mg) : Od P w base 5 T.d_apart zEd := by
  unfold zEd;exact zFi (zA2 (n := 1) T.d_apart.F zGG rfl (fun cdv A outer s H E hr => by
    unfold zH1;exact (zQ (zBN (i := 1) zGG.nd rfl (zA7 (zKP T) (hr.mono (by omega)) rfl (zI (zN (zE (pv 0))) zS (zC rfl)) (zG zT) (by decide) (zC rfl) (zX rfl)))
    (zb (zAW (zC6 rfl T.z_tuple (zu (zBT (zt (i := 2) (by decide)) (zr (sc := zV zFh) (N := zLB) rfl rfl rfl (by decide +kernel) (by decide +kernel)) rfl (zBG (zA7 (zFE T) (hr.mono (by omega)) rfl (zI (zN (zA7 (zEW T) (hr.mono (by omega)) rfl (zI (zN (zE (pv 0))) zS (zC rfl)) (zG zT) (by decide) (zC rfl) (zX rfl))) zS (zC rfl)) (zG zT) (by decide) (zC rfl) (zX rfl))) ⟨fun _ _ _ _ _ => (zAE (i := 2) zGG.nd rfl), fun _ _ _ _ _ => (zHt (zCE (zB5 hr) (zE (pv 2)) (zE (pv 1)))), fun _ _ _ _ _ => (zE (pv 2))⟩) zAI (zC rfl)) (zC rfl) rfl))))))
abbrev zFs : List Str := ["_law_found", "_law_due", "_law_one", "_law_other"]
theorem zDh : FnScope zFs ["_law_found", "_law_due"] (zV zDL) := ⟨rfl, rfl, rfl, by decide +kernel, rfl, by decide +kernel, by decide +kernel⟩
theorem zEs (T : Txt K mg) : ∀ n : Nat, FnOk P w K mg base CX0 (n + 0) T.d_law_same.f T.d_law_same.fd ["_law_found", "_law_due"] (spF K 2 (zAf n))
  | 0 => zOx
  | n + 1 => by
    have hrec := zEs T n;unfold zAf;rw [show n + 1 + 0 = (n + 0) + 1 by omega];exact zA2 (n := 2) T.d_law_same.F zDh rfl (fun cdv A outer s H E hr => by
      unfold zDK;exact (zQ (zCy (zID (zG7 T.kinds (by decide) rfl T.z_isinstance rfl T.z_tuple (by rfl) (by decide) (by decide) (zE (pv 1)) (zC rfl) (zC rfl) (zX rfl))) (zQ (zCy (zM8 (zP1 (zMw (zID (zG7 T.kinds (by decide) rfl T.z_isinstance rfl T.z_tuple (by rfl) (by decide) (by decide) (zE (pv 0)) (zC rfl) (zC rfl) (zX rfl)))) (zNT (zKh hr.units0 (zDO rfl T.z_len (zu (zE (pv 0)) zAI (zC rfl)) (zC rfl) rfl) (zDO rfl T.z_len (zu (zE (pv 1)) zAI (zC rfl)) (zC rfl) rfl))))) (zb (zAW zMT)) zAq)
    (zb (zAW (zSK rfl rfl T.z_all (zu (zBT (zLQ (i := 2) (j := 3) (by decide) (by decide)) (zr (sc := zV zDL) (N := zFs) rfl rfl rfl (by decide +kernel) (by decide +kernel)) rfl (zQY rfl T.z_zip (zI (zN (zE (pv 0))) (zI (zN (zE (pv 1))) zS (zC rfl)) (zC rfl)) (zNt rfl rfl) (zAD rfl)) ⟨fun _ _ _ _ _ => (zOD rfl (zEa (zAE (i := 2) zDh.nd rfl) (zEa (zAE (i := 3) zDh.nd rfl) zKy))), fun _ _ _ _ _ => zA8, fun _ _ _ _ _ => (zA7 hrec (hr.mono (by omega)) rfl (zI (zN (zE (pv 2))) (zI (zN (zE (pv 3))) zS (zC rfl)) (zC rfl)) (zG (zG zT)) (by decide) (zC rfl) (zX rfl))⟩) zAI (zC rfl)) (zC rfl) rfl)))) zAq)
    (zQ (zCy (zRg (zE (pv 1)) zPy) (zb (zAW (zSk (zE (pv 0)) zPy))) zAq)
    (zQ (zCy (zID (zG7 T.kinds (by decide) rfl T.z_isinstance rfl T.z_bool (by rfl) (by decide) (by decide) (zE (pv 1)) (zC rfl) (zC rfl) (zX rfl))) (zb (zAW (zKV (zG7 T.kinds (by decide) rfl T.z_isinstance rfl T.z_bool (by rfl) (by decide) (by decide) (zE (pv 0)) (zC rfl) (zC rfl) (zX rfl)) (zNb (zPM hr.units0 (zE (pv 0)) (zE (pv 1))))))) zAq)
    (zb (zAW (zKV (zG7 T.kinds (by decide) rfl T.z_isinstance rfl T.z_int (by rfl) (by decide) (by decide) (zE (pv 0)) (zC rfl) (zC rfl) (zX rfl)) (zKV (zQO (zG7 T.kinds (by decide) rfl T.z_isinstance rfl T.z_bool (by rfl) (by decide) (by decide) (zE (pv 0)) (zC rfl) (zC rfl) (zX rfl))) (zNb (zPM hr.units0 (zE (pv 0)) (zE (pv 1))))))))))))
theorem zI8 (T : Txt K mg) : Od P w base 5 T.d_law_same zC9 := zEs T 5
abbrev zOX : List Str := ["_law_script", "_law_state", "_law_rooms", "_law_machine_here", "_law_joined_here", "_law_due", "_law_pair", "_law_told", "_law_turn", "_law_word", "_law_k", "_law_one", "_law_other"]
theorem zBo : FnScope zOX ["_law_script"] (zV zIi) := ⟨rfl, rfl, rfl, by decide +kernel, rfl, by decide +kernel, by decide +kernel⟩
theorem zQ0 (T : Txt K mg) : Od P w base 6 T.d_law zFR := by
  unfold zFR;exact zA2 (n := 1) T.d_law.F zBo rfl (fun cdv A outer s H E hr => by
    unfold zMi;exact (zQ (zBN (i := 1) zBo.nd rfl (zA7 (zIQ T) (hr.mono (by omega)) rfl (zI (zN (zE (pv 0))) zS (zC rfl)) (zG zT) (by decide) (zC rfl) (zX rfl)))
    (zQ (zBN (i := 2) zBo.nd rfl (zBX zd (zA7 (zv T) (hr.mono (by omega)) rfl (zI (zN (zE (pv 1))) (zI (zN zd) zS (zC rfl)) (zC rfl)) (zG (zG zT)) (by decide) (zC rfl) (zX rfl))))
    (zQ (zBN (i := 3) zBo.nd rfl (zA7 (zFk T) (hr.mono (by omega)) rfl (zI (zN (zE (pv 1))) (zI (zN (zE (pv 2))) (zI (zN (zBX zd (zA7 (zv T) (hr.mono (by omega)) rfl (zI (zN (zE (pv 1))) (zI (zN zd) zS (zC rfl)) (zC rfl)) (zG (zG zT)) (by decide) (zC rfl) (zX rfl)))) zS (zC rfl)) (zC rfl)) (zC rfl)) (zG (zG (zG zT))) (by decide) (zC rfl) (zX rfl)))
    (zQ (zBN (i := 4) zBo.nd rfl (zA7 (zGv T) (hr.mono (by omega)) rfl (zI (zN (zE (pv 3))) zS (zC rfl)) (zG zT) (by decide) (zC rfl) (zX rfl)))
    (zQ (zBN (i := 5) zBo.nd rfl (zC6 rfl T.z_tuple (zu (zBT (zt (i := 6) (by decide)) (zr (sc := zV zIi) (N := zOX) rfl rfl rfl (by decide +kernel) (by decide +kernel)) rfl (zBG (zA7 (zEb T) (hr.mono (by omega)) rfl (zI (zN (zNd rfl rfl T.z_list rfl T.z_range (zE (pv 2)) (zC rfl) rfl (zC rfl) rfl)) zS (zC rfl)) (zG zT) (by decide) (zC rfl) (zX rfl))) ⟨fun _ _ _ _ _ => (zAE (i := 6) zBo.nd rfl), fun _ _ _ _ _ => (zHt (zCE (zB5 hr) (zE (pv 6)) (zE (pv 4)))), fun _ _ _ _ _ => (zE (pv 6))⟩) zAI (zC rfl)) (zC rfl) rfl))
    (zQ (zBN (i := 7) zBo.nd rfl (zA7 (zNU T) (hr.mono (by omega)) rfl (zI (zN (zE (pv 3))) zS (zC rfl)) (zG zT) (by decide) (zC rfl) (zX rfl)))
    (zQ (zCy (zMw (zID (zA7 (zI8 T) (hr.mono (by omega)) rfl (zI (zN (zE (pv 7))) (zI (zN (zE (pv 5))) zS (zC rfl)) (zC rfl)) (zG (zG zT)) (by decide) (zC rfl) (zX rfl)))) (zb (zAW zMT)) zAq)
    (zQ (zDP zAv zUN rfl (zAB rfl T.z_range (zI (zN (zDO rfl T.z_len (zu (zFj (zE (pv 0)) zFb (zFc zd)) zAI (zC rfl)) (zC rfl) rfl)) zS (zC rfl)) (zG zT) (zAD rfl)) (zAE (i := 8) zBo.nd rfl) (zQ (zHD (i := 9) zBo.nd rfl (by first | exact Or.inl rfl | exact Or.inr rfl) (by first | exact .inl rfl | exact .inr rfl) rfl (zt (i := 10) (by decide)) (zr (sc := zV zIi) (N := zOX) rfl rfl rfl (by decide +kernel) (by decide +kernel)) rfl (zAB rfl T.z_range (zI (zN (zA7 (zv T) (hr.mono (by omega)) rfl (zI (zN (zE (pv 1))) (zI (zN zd) zS (zC rfl)) (zC rfl)) (zG (zG zT)) (by decide) (zC rfl) (zX rfl))) zS (zC rfl)) (zG zT) (zAD rfl)) ⟨fun _ _ _ _ _ => (zAE (i := 10) zBo.nd rfl), fun _ _ _ _ _ => zA8, fun _ _ _ _ _ => (zA7 (zv T) (hr.mono (by omega)) rfl (zI (zN (zE (pv 1))) (zI (zN (zDO rfl T.z_len (zu (zBC (zE (pv 3)) zd) zAI (zC rfl)) (zC rfl) rfl)) zS (zC rfl)) (zC rfl)) (zG (zG zT)) (by decide) (zC rfl) (zX rfl))⟩)
    (zb (zCy (zPP 1 (zSC 1 (by decide) hr) (zE (pv 7)) (zJP zS)) (zQ (zRv zMV (zBC (zE (pv 7)) (zA7 (zv T) (hr.mono (by omega)) rfl (zI (zN (zE (pv 1))) (zI (zN (zDO rfl T.z_len (zu (zE (pv 7)) zAI (zC rfl)) (zC rfl) rfl)) zS (zC rfl)) (zC rfl)) (zG (zG zT)) (by decide) (zC rfl) (zX rfl))) (zOD rfl (zEa (zAE (i := 11) zBo.nd rfl) (zEa (zAE (i := 12) zBo.nd rfl) zKy))))
    (zb (zCy (zDR hr.units0 (zA7 (zNe T) (hr.mono (by omega)) rfl (zI (zN (zE (pv 3))) (zI (zN (zE (pv 11))) (zI (zN (zC6 rfl T.z_tuple (zu (zE (pv 9)) zAI (zC rfl)) (zC rfl) rfl)) zS (zC rfl)) (zC rfl)) (zC rfl)) (zG (zG (zG zT))) (by decide) (zC rfl) (zX rfl)) (zA7 (zNe T) (hr.mono (by omega)) rfl (zI (zN (zE (pv 3))) (zI (zN (zE (pv 12))) (zI (zN (zC6 rfl T.z_tuple (zu (zE (pv 9)) zAI (zC rfl)) (zC rfl) rfl)) zS (zC rfl)) (zC rfl)) (zC rfl)) (zG (zG (zG zT))) (by decide) (zC rfl) (zX rfl))) (zb (zAW zMT)) zAq))) zAq))))
    (zb (zAW zMT)))))))))))
end
theorem zRN {l : PySem.W.OpenLaw} {w : World} {K : PySem.W.Frag} {h : Heap} {mg : Str -> Option Value} {fa : Addr} (X : K.In h) (G : h.Ns mainGlobals mg) (hfa : mg "law" = some (.ref fa))
    (g1 : Dg K "all_rooms" zDf) (g2 : Dg K "led" zMj) (g3 : Dg K "stepped" zD3) (g4 : Dg K "pairs_of" zDH) (g5 : Dg K "ways_back" zDm) (g6 : Dg K "lengths_to" zCB) (g7 : Dg K "lengths" zDy) (g8 : Dg K "apart" zFh) (g9 : Dg K "_law_begin" zCj) (g10 : Dg K "_law_next" zEB) (g11 : Dg K "_law_order" zDo) (g12 : Dg K "_law_column" zAF) (g13 : Dg K "_law_machine" zBP) (g14 : Dg K "_law_pairs" zCi) (g15 : Dg K "_law_behind" zC3) (g16 : Dg K "_law_joined" zDB) (g17 : Dg K "_law_same" zDL) (g18 : Dg K "law" zIi) (z1 : Zn K "tuple") (z2 : Zn K "range") (z3 : Zn K "len") (z4 : Zn K "sorted") (z5 : Zn K "abs") (z6 : Zn K "int") (z7 : Zn K "min") (z8 : Zn K "max") (z9 : Zn K "list") (z10 : Zn K "isinstance") (z11 : Zn K "bool") (z12 : Zn K "all") (z13 : Zn K "zip") (y1 : Ki K "NoneType" "int" false) (y2 : Ki K "NoneType" "bool" false) (y3 : Ki K "NoneType" "str" false) (y4 : Ki K "NoneType" "tuple" false) (y5 : Ki K "bool" "int" true) (y6 : Ki K "bool" "bool" true) (y7 : Ki K "bool" "str" false) (y8 : Ki K "bool" "tuple" false) (y9 : Ki K "int" "int" true) (y10 : Ki K "int" "bool" false) (y11 : Ki K "int" "str" false) (y12 : Ki K "int" "tuple" false) (y13 : Ki K "str" "int" false) (y14 : Ki K "str" "bool" false) (y15 : Ki K "str" "str" true) (y16 : Ki K "str" "tuple" false) (y17 : Ki K "list" "int" false) (y18 : Ki K "list" "bool" false) (y19 : Ki K "list" "str" false) (y20 : Ki K "list" "tuple" false) (y21 : Ki K "tuple" "int" false) (y22 : Ki K "tuple" "bool" false) (y23 : Ki K "tuple" "str" false) (y24 : Ki K "tuple" "tuple" true) (y25 : Ki K "dict" "int" false) (y26 : Ki K "dict" "bool" false) (y27 : Ki K "dict" "str" false) (y28 : Ki K "dict" "tuple" false) :
    ∃ fd : FuncData, (∀ (s : Shared) (v : Value), BindsTo s fd ⟨[v], []⟩ [("_law_script", v)]) /\ ∀ base : Heap, K.In base -> base.Ns mainGlobals mg -> FnOk l.prog w K mg base CX0 6 fa fd ["_law_script"] (spF K 1 zFR) := by
  have e := hfa.symm.trans (PySem.W.mg_of X G g18.a);cases e;have kinds : Kinds K := ⟨by
    intro t T ht hT;simp only [zS0, zTJ, or_false] at ht hT;rcases ht with rfl | rfl | rfl | rfl | rfl | rfl | rfl <;> rcases hT with rfl | rfl | rfl | rfl <;> assumption⟩
  let T : Txt K mg := ⟨g1.df X G fun _ _ _ _ _ _ us hl => match us, hl with | [_], _ => rfl, g2.df X G fun _ _ _ _ _ _ us hl => match us, hl with | [_, _, _], _ => rfl, g3.df X G fun _ _ _ _ _ _ us hl => match us, hl with | [_, _, _], _ => rfl, g4.df X G fun _ _ _ _ _ _ us hl => match us, hl with | [_], _ => rfl, g5.df X G fun _ _ _ _ _ _ us hl => match us, hl with | [_], _ => rfl, g6.df X G fun _ _ _ _ _ _ us hl => match us, hl with | [_, _], _ => rfl, g7.df X G fun _ _ _ _ _ _ us hl => match us, hl with | [_], _ => rfl, g8.df X G fun _ _ _ _ _ _ us hl => match us, hl with | [_], _ => rfl, g9.df X G fun _ _ _ _ _ _ us hl => match us, hl with | [_], _ => rfl, g10.df X G fun _ _ _ _ _ _ us hl => match us, hl with | [_, _], _ => rfl, g11.df X G fun _ _ _ _ _ _ us hl => match us, hl with | [_, _], _ => rfl, g12.df X G fun _ _ _ _ _ _ us hl => match us, hl with | [_, _, _, _], _ => rfl, g13.df X G fun _ _ _ _ _ _ us hl => match us, hl with | [_, _, _], _ => rfl, g14.df X G fun _ _ _ _ _ _ us hl => match us, hl with | [_], _ => rfl, g15.df X G fun _ _ _ _ _ _ us hl => match us, hl with | [_, _, _], _ => rfl, g16.df X G fun _ _ _ _ _ _ us hl => match us, hl with | [_], _ => rfl, g17.df X G fun _ _ _ _ _ _ us hl => match us, hl with | [_, _], _ => rfl, g18.df X G fun _ _ _ _ _ _ us hl => match us, hl with | [_], _ => rfl, zTn X G z1, zTn X G z2, zTn X G z3, zTn X G z4, zTn X G z5, zTn X G z6, zTn X G z7, zTn X G z8, zTn X G z9, zTn X G z10, zTn X G z11, zTn X G z12, zTn X G z13, kinds⟩;refine ⟨T.d_law.fd, fun s v => .of_eq rfl, fun base _ _ => ?_⟩;exact zQ0 (P := l.prog) (w := w) (base := base) T
theorem zSU {l : PySem.W.OpenLaw} {q : Program} {loose : List Str} {XP : (Str -> Option Value) -> Heap -> Prop} {YP : World -> Heap -> Prop} {d : DefRec} {K : Params -> PySem.W.Frag} (hn : l.most = some 63) (hdf : d.params.defaults = [])
    (hY : ∀ (w : World) (h : Heap), YP w h -> (K w.params).In h) (hL : ∀ w : World, zH4 (K w.params) = true)
    (F : ∀ (w : World) (mg : Str -> Option Value) (fa : Addr) (h : Heap), (K w.params).In h -> h.Ns mainGlobals mg -> mg d.name = some (.ref fa) ->
      ∃ fd : FuncData, (∀ (s : Shared) (u : Value), BindsTo s fd ⟨[u], []⟩ [("_law_script", u)]) /\ ∀ base : Heap, (K w.params).In base -> base.Ns mainGlobals mg -> FnOk l.prog w (K w.params) mg base CX0 6 fa fd ["_law_script"] (spF (K w.params) 1 zFR)) :
    PySem.W.WalkO q loose XP YP l.row.toRowW d [] (fun f vs => PySem.call f vs) :=
  L2.zOZ (n := 63) (k := 6) (x := "_law_script") (CX := fun _ => CX0) (sp := fun w => spF (K w.params) 1 zFR) hn (by decide) hdf ⟨rfl, by decide, by decide⟩ hY F
    (fun w H a ns hl hO hS => zMA (hL w) hO hS (zOV ns hl)) fun _ _ _ _ _ z => z
end Lac
open PySem PySem.W PyProof.Rows
set_option maxRecDepth 100000 in
set_option maxHeartbeats 0 in
theorem PySem.Challenge.cw_bringhome_k23_pairs_apart_holds : PySem.Challenge.rw_bringhome_k23_pairs_apart.Holds := by
  w_on; o_law; k_head; (case hw => w_witness2);k_fill;refine Lac.zSU (l := PySem.Challenge.rw_bringhome_k23_pairs_apart) rfl rfl (fun w h Y => PySem.W.kIn_of Y) (fun w => by rfl) ?F
  case F =>
    intro w mg fa h KX G hmg;refine' Lac.zRN KX G hmg ?_ ?_ ?_ ?_ ?_ ?_ ?_ ?_ ?_ ?_ ?_ ?_ ?_ ?_ ?_ ?_ ?_ ?_ ?_ ?_ ?_ ?_ ?_ ?_ ?_ ?_ ?_ ?_ ?_ ?_ ?_ ?_ ?_ ?_ ?_ ?_ ?_ ?_ ?_ ?_ ?_ ?_ ?_ ?_ ?_ ?_ ?_ ?_ ?_ ?_ ?_ ?_ ?_ ?_ ?_ ?_ ?_ ?_ ?_;all_goals first | exact ⟨_, by k_is, by k_is, by k_is, by k_is⟩ | (unfold L3.Zn; k_is) | (unfold L3.Ki; kit_is) | k_is
