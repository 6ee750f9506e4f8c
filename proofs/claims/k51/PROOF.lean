import PyProof.Rows.All
import Wide.All
import OpenK.AllK
import Wide.FinOn
import Lean
import PyProof.EqAt
import PyProof.EqKinds
import PyProof.TupleCall
import PyProof.NeKinds
import PyProof.EnumFor
import PyProof.EnumMake
import PyProof.Rows.EnumRows
import PyProof.Rows.Range3
import PyProof.NoPylong
import PyProof.ListRange
import PyProof.TupleOfSeq
import PyProof.TupleOfStr
import PyProof.Draws
import PyProof.ZipIter
import PyProof.Rows.ZipGen
import PyProof.Rows.SortStr
import PyProof.Rows.TupAdd
import PyProof.SetRoads
import PyProof.Rows.SetFrom
import PyProof.StrWalks
import PyProof.CollectWalk
import KE.KDictList
import PyProof.Tail
import PyProof.TupleIter
import PyProof.AttrMiss
import KE.KDictOf
import OpenK.KTop
import PyProof.Rows.SortRev
import PyProof.Rows.CallKwBuiltin
import PyProof.Rows.CallKw2
import PySem.Challenge.RW_lassoscribe_k51_what_is_a_walk
-- CHANGE: your row's module here, as the last of these rows
set_option Elab.async false
set_option linter.all false
set_option maxRecDepth 100000
namespace L2
open PySem PySem.Spec PyProof.Rows

/-- a key: an int or a str -/
abbrev Key := Sum Int Str
def keyIs : Key → Value → Bool
  | .inl k, v => Value.isInt k v
  | .inr x, v => Value.isStrOf x v
def keyH (w : World) : Key → Int
  | .inl k => hashInt k
  | .inr x => hashStr w x
theorem keyIs_shape : ∀ {k : Key} {v : Value}, keyIs k v = true → (∃ i t, k = Sum.inl i ∧ v = Value.int i t) ∨ (∃ x t, k = Sum.inr x ∧ v = Value.str x t)
  | .inl i, v, h => by
    obtain ⟨t, e⟩ := Value.isInt_shape (k := i) (v := v) h
    exact .inl ⟨i, t, rfl, e⟩
  | .inr x, v, h => by
    obtain ⟨t, e⟩ := Value.isStrOf_shape (x := x) (v := v) h
    exact .inr ⟨x, t, rfl, e⟩
theorem key_ll (a b : Int) : decide ((Sum.inl a : Key) = Sum.inl b) = (a == b) := by
  by_cases e : a = b
  · subst e; simp
  · have h : ¬ (Sum.inl a : Key) = Sum.inl b := fun q => e (Sum.inl.inj q)
    rw [decide_eq_false h]
    exact (beq_eq_false_iff_ne.mpr e).symm
theorem key_rr (a b : Str) : decide ((Sum.inr a : Key) = Sum.inr b) = decide (a = b) := by
  by_cases e : a = b
  · subst e; simp
  · have h : ¬ (Sum.inr a : Key) = Sum.inr b := fun q => e (Sum.inr.inj q)
    rw [decide_eq_false h, decide_eq_false e]
theorem key_lr (a : Int) (b : Str) : decide ((Sum.inl a : Key) = Sum.inr b) = false := decide_eq_false (fun q => nomatch q)
theorem key_rl (a : Str) (b : Int) : decide ((Sum.inr a : Key) = Sum.inl b) = false := decide_eq_false (fun q => nomatch q)

def mixKind (prog : Program) (w : World) : PySem.KeyKind prog w Key where
  is := keyIs
  hash := keyH w
  inj := fun v a b ha hb => by
    rcases keyIs_shape ha with ⟨i, t, rfl, rfl⟩ | ⟨x, t, rfl, rfl⟩
    · rcases keyIs_shape hb with ⟨j, u, rfl, e⟩ | ⟨y, u, rfl, e⟩
      · injection e with e1 _; rw [e1]
      · exact nomatch e
    · rcases keyIs_shape hb with ⟨j, u, rfl, e⟩ | ⟨y, u, rfl, e⟩
      · exact nomatch e
      · injection e with e1 _; rw [e1]
  byValue := fun k v h => by
    rcases keyIs_shape h with ⟨i, t, rfl, rfl⟩ | ⟨x, t, rfl, rfl⟩ <;> rfl
  pyHash := fun hv h => by
    rcases keyIs_shape hv with ⟨i, t, rfl, rfl⟩ | ⟨x, t, rfl, rfl⟩
    · exact wpAny_pyHash_int h
    · exact wpAny_pyHash_str h
  eqBool := fun hu hv h => by
    rcases keyIs_shape hu with ⟨i, t, rfl, rfl⟩ | ⟨x, t, rfl, rfl⟩
    · rcases keyIs_shape hv with ⟨j, u, rfl, rfl⟩ | ⟨y, u, rfl, rfl⟩
      · rw [key_ll] at h; exact wpAny_eqBool_int h
      · rw [key_lr] at h; exact SeqAt.EqAt.int_str i t y u _ _ _ _ h
    · rcases keyIs_shape hv with ⟨j, u, rfl, rfl⟩ | ⟨y, u, rfl, rfl⟩
      · rw [key_rl] at h; exact SeqAt.EqAt.str_int x t j u _ _ _ _ h
      · rw [key_rr] at h; exact wpAny_eqBool_str h
  «strs» := fun k x t v h => by
    rcases keyIs_shape h with ⟨i, u, rfl, e⟩ | ⟨y, u, rfl, e⟩
    · exact nomatch e
    · injection e with e1 _
      subst e1
      cases v <;> rfl

end L2

namespace L2
open PySem PySem.Spec PyProof.Rows

/-- a value, without the heap -/
inductive V where
  | non | bl (b : Bool) | int (i : Int) | str (x : Str) | byt (b : Array UInt8) | flt (b : UInt64) | ref (a : Addr) | ty (n : String)
  deriving DecidableEq

def RelV : V → Value → Prop
  | .non, u => u = Value.none
  | .bl b, u => u = Value.bool b
  | .int i, u => ∃ t, u = Value.int i t
  | .str x, u => ∃ t, u = Value.str x t
  | .byt b, u => ∃ t, u = Value.bytes b t
  | .flt b, u => ∃ t, u = Value.float b t
  | .ref a, u => u = Value.ref a
  | .ty n, u => u = Value.type n

abbrev Vals : List V → List Value → Prop := Paired RelV
theorem Vals.length {xs : List V} {us : List Value} (r : Vals xs us) : xs.length = us.length := Paired.length r
theorem Vals.get : ∀ {xs : List V} {us : List Value} {i : Nat} {x : V}, Vals xs us → xs[i]? = some x → ∃ u, us[i]? = some u ∧ RelV x u
  | _, _, _, _, .nil, e => by simp at e
  | _, _, 0, _, .cons r _, e => by simp at e; subst e; exact ⟨_, rfl, r⟩
  | _, _, i + 1, x, .cons _ t, e => by
    obtain ⟨u, h1, h2⟩ := Vals.get (i := i) (x := x) t (by simpa using e)
    exact ⟨u, by simpa using h1, h2⟩
theorem Vals.set {x : V} {u : Value} (r : RelV x u) : ∀ {xs : List V} {us : List Value} (i : Nat), Vals xs us → Vals (xs.set i x) (us.set i u)
  | _, _, _, .nil => .nil
  | _, _, 0, .cons _ t => .cons r t
  | _, _, i + 1, .cons q t => .cons q (Vals.set r i t)
theorem Vals.append : ∀ {xs ys : List V} {us ws : List Value}, Vals xs us → Vals ys ws → Vals (xs ++ ys) (us ++ ws)
  | _, _, _, _, .nil, s => s
  | _, _, _, _, .cons r t, s => .cons r (Vals.append t s)
theorem Vals.take : ∀ {xs : List V} {us : List Value} (n : Nat), Vals xs us → Vals (xs.take n) (us.take n)
  | _, _, 0, _ => .nil
  | _, _, _ + 1, .nil => .nil
  | _, _, n + 1, .cons r t => .cons r (Vals.take n t)
theorem Vals.drop : ∀ {xs : List V} {us : List Value} (n : Nat), Vals xs us → Vals (xs.drop n) (us.drop n)
  | _, _, 0, r => r
  | _, _, _ + 1, .nil => .nil
  | _, _, n + 1, .cons _ t => Vals.drop n t
def RelO : Option V → Option Value → Prop
  | some v, some u => RelV v u
  | none, none => True
  | _, _ => False
def KV {κ : Type} : List (κ × V) → List (κ × Value) → Prop := Paired fun (p : κ × V) (q : κ × Value) => p.1 = q.1 ∧ RelV p.2 q.2

/-- a key of a dict (00_mix): an int or a text -/
def kV : Key → V
  | .inl i => .int i
  | .inr x => .str x

/-- what stands at a tracked address -/
inductive HO where
  /-- a list -/
  | lst (xs : List V)
  /-- a tuple (never changes) -/
  | tup (xs : List V)
  /-- a dict whose keys are ints and texts; one whose keys are tuples of ints and texts (the empty one is both) -/
  | dK (kvs : List (Key × V)) | dT (kvs : List (List Key × V))
  /-- a set of ints: its members, its size -/
  | set (S : Int → Bool) (n : Nat)
  /-- an instance of the class at C, its dict at dx, its attributes -/
  | ins (C dx : Addr) (fs : List (Str × V))
  /-- the dict of the instance at x -/
  | own (x : Addr)
  /-- the dict of an exception -/
  | xd (fs : List (Str × V))
  /-- a bound method, f of x -/
  | met (f x : Addr)
  /-- a range object lo, lo + 1, .. below hi -/
  | rng (lo hi : Int)
  /-- a thing that is known to the object (the script; a dict while a loop walks it): read, never written while it is so -/
  | frz (o : Obj) (u : HO)
  /-- a code object's table -/
  | tbl (ps : Array Value)
  /-- any other thing, by what is true of its one object (a def of one's own: SetO a S n := HO.ext fun h => ..) -/
  | ext (φ : Heap → Prop)

abbrev Hp := Addr → Option HO
def upd (H : Hp) (a : Addr) (o : HO) : Hp := fun b => if b = a then some o else H b
theorem upd_same {H : Hp} {a : Addr} {o : HO} : upd H a o a = some o := by unfold upd; rw [if_pos rfl]
theorem upd_ne {H : Hp} {a b : Addr} {o : HO} (h : b ≠ a) : upd H a o b = H b := by unfold upd; rw [if_neg h]
/-- two objects of different content stand apart -/
theorem ne_of {H : Hp} {a b : Addr} {o u : HO} (h : H a = some o) (h' : H b = some u) (d : o ≠ u) : a ≠ b := by
  intro e; subst e; rw [h] at h'; exact d (Option.some.inj h')
theorem ne_of_none {H : Hp} {a b : Addr} {o : HO} (h : H a = some o) (h' : H b = none) : a ≠ b := by
  intro e; subst e; rw [h] at h'; cases h'

section
variable (P : Program) (w : World)
def ObjOk (H : Hp) (h : Heap) (a : Addr) : HO → Prop
  | .lst xs => xs.length ≤ sizeLine ∧ ∃ (its : List Value) (n : Nat), Vals xs its ∧ h.get? a = some { cls := .type "list", data := .seq its.toArray n }
  | .tup xs => xs.length ≤ sizeLine ∧ ∃ its : List Value, Vals xs its ∧ IsTup h a its.toArray
  | .dK kvs => kvs.length ≤ sizeLine ∧ (a == sysModules) = false ∧ ∃ vs, KV kvs vs ∧ h.DictOf (mixKind P w) a vs
  | .dT kvs => kvs.length ≤ sizeLine ∧ (a == sysModules) = false ∧ ∃ xs : List (List Key × Addr × Value),
      Paired (fun (p : List Key × V) (q : List Key × Addr × Value) => p.1 = q.1 ∧ H q.2.1 = some (.tup (p.1.map kV)) ∧ RelV p.2 q.2.2) kvs xs ∧
      ∃ o es ep, h.get? a = some o ∧ o.ExactDict ∧ o.data = .dict es ep ∧ es.toList = xs.map (entryOfKey (tupleKind (mixKind P w))) ∧ (xs.map (·.1)).Nodup
  | .set S n => h.SetOf (intKind P w) a S n
  | .ins C dx fs => H dx = some (.own a) ∧ fs.length ≤ 1000 ∧ dx ≠ a ∧ h.get? a = some (PySem.W.instObj C dx) ∧
      ∃ mA, h.Ns1 dx mA ∧ (∀ f, RelO (fs.lookup f) (mA f)) ∧ PySem.Within mA (fs.map (·.1))
  | .own _ => ∃ o, h.get? a = some o
  | .xd fs => ∃ mA, h.Ns1 a mA ∧ ∀ f, RelO (fs.lookup f) (mA f)
  | .rng lo hi => ∃ t u v, h.get? a = some { cls := .type "range", data := .fields #[.int lo t, .int hi u, .int 1 v] }
  | .frz o u => h.get? a = some o ∧ ObjOk H h a u
  | .tbl ps => h.get? a = some { cls := .none, data := .fields ps }
  | .met f x => h.get? a = some (PySem.W.methodObj (.ref f) (.ref x))
  | .ext φ => φ h ∧ (∃ o, h.get? a = some o) ∧ ∀ h1 h2 : Heap, φ h1 → (∀ o, h1.get? a = some o → h2.get? a = some o) → φ h2
/-- the abstract heap is held -/
def HOk (H : Hp) (h : Heap) : Prop := ∀ a o, H a = some o → ObjOk P w H h a o
end

section
variable {P : Program} {w : World} {H H' : Hp} {h h' : Heap} {a : Addr} {o : HO}
theorem ObjOk.lt (x : ObjOk P w H h a o) : a < h.objs.size := by
  cases o with
  | lst xs => obtain ⟨_, _, _, _, e⟩ := x; exact Heap.lt_size e
  | tup xs => obtain ⟨_, _, _, p⟩ := x; exact p.lt
  | dK kvs => obtain ⟨_, _, _, _, o, _, _, e, _⟩ := x; exact Heap.lt_size e
  | dT kvs => obtain ⟨_, _, _, _, o, _, _, e, _⟩ := x; exact Heap.lt_size e
  | set S n => obtain ⟨o, _, _, _, e, _⟩ := x; exact Heap.lt_size e
  | ins C dx fs => obtain ⟨_, _, _, e, _⟩ := x; exact Heap.lt_size e
  | own y => obtain ⟨_, e⟩ := x; exact Heap.lt_size e
  | xd fs => obtain ⟨_, ⟨_, _, _, e, _⟩, _⟩ := x; exact Heap.lt_size e
  | rng lo hi => obtain ⟨_, _, _, e⟩ := x; exact Heap.lt_size e
  | frz ob u => obtain ⟨e, _⟩ := x; exact Heap.lt_size e
  | tbl ps => exact Heap.lt_size (show h.get? a = some _ from x)
  | met f y => exact Heap.lt_size (show h.get? a = some _ from x)
  | ext φ => obtain ⟨_, ⟨_, e⟩, _⟩ := x; exact Heap.lt_size e
theorem Paired.mapP {α β : Type} {F G : α → β → Prop} : ∀ {l₁ : List α} {l₂ : List β}, Paired F l₁ l₂ → (∀ a b, F a b → G a b) → Paired G l₁ l₂
  | _, _, .nil, _ => .nil
  | _, _, .cons r t, f => .cons (f _ _ r) (Paired.mapP t f)
theorem Paired.imp' {α β : Type} {F G : α → β → Prop} (f : ∀ a b, F a b → G a b) {l₁ : List α} {l₂ : List β} (r : Paired F l₁ l₂) : Paired G l₁ l₂ := Paired.mapP r f
/-- what an object's description leans on: its own object, its own dict, the tuples -/
theorem ObjOk.stay (x : ObjOk P w H h a o) (k : ∀ b u, (b = a ∨ H b = some (.own a)) → h.get? b = some u → h'.get? b = some u)
    (ho : ∀ b, H b = some (.own a) → H' b = some (.own a)) (ht : ∀ b xs, H b = some (.tup xs) → H' b = some (.tup xs)) : ObjOk P w H' h' a o := by
  induction o with
  | lst xs => obtain ⟨z, its, n, r, e⟩ := x; exact ⟨z, its, n, r, k _ _ (.inl rfl) e⟩
  | tup xs => obtain ⟨z, its, r, ob, e, c⟩ := x; exact ⟨z, its, r, ob, k _ _ (.inl rfl) e, c⟩
  | dK kvs => obtain ⟨z, y, vs, r, ob, es, ep, e, c⟩ := x; exact ⟨z, y, vs, r, ob, es, ep, k _ _ (.inl rfl) e, c⟩
  | dT kvs =>
    obtain ⟨z, y, xs, r, ob, es, ep, e, c⟩ := x
    exact ⟨z, y, xs, Paired.mapP r fun p q z => ⟨z.1, ht _ _ z.2.1, z.2.2⟩, ob, es, ep, k _ _ (.inl rfl) e, c⟩
  | set S n => obtain ⟨ob, es, ep, t, e, c⟩ := x; exact ⟨ob, es, ep, t, k _ _ (.inl rfl) e, c⟩
  | ins C dx fs =>
    obtain ⟨d, z, ne, e, mA, ⟨od, es, ep, e2, c⟩, r⟩ := x
    exact ⟨ho _ d, z, ne, k _ _ (.inl rfl) e, mA, ⟨od, es, ep, k _ _ (.inr d) e2, c⟩, r⟩
  | own y => obtain ⟨ob, e⟩ := x; exact ⟨ob, k _ _ (.inl rfl) e⟩
  | xd fs => obtain ⟨mA, ⟨od, es, ep, e, c⟩, r⟩ := x; exact ⟨mA, ⟨od, es, ep, k _ _ (.inl rfl) e, c⟩, r⟩
  | rng lo hi => obtain ⟨t, u, v, e⟩ := x; exact ⟨t, u, v, k _ _ (.inl rfl) e⟩
  | frz ob u ih => obtain ⟨e, q⟩ := x; exact ⟨k _ _ (.inl rfl) e, ih q⟩
  | tbl ps =>
    have e : h.get? a = some { cls := .none, data := .fields ps } := x
    show h'.get? a = some { cls := .none, data := .fields ps }
    exact k a _ (.inl rfl) e
  | met f y =>
    have e : h.get? a = some (PySem.W.methodObj (.ref f) (.ref y)) := x
    show h'.get? a = some (PySem.W.methodObj (.ref f) (.ref y))
    exact k a _ (.inl rfl) e
  | ext φ => obtain ⟨p, ⟨o, e⟩, st⟩ := x; exact ⟨st _ _ p fun o q => k _ _ (.inl rfl) q, ⟨o, k _ _ (.inl rfl) e⟩, st⟩
theorem HOk.lt (x : HOk P w H h) (e : H a = some o) : a < h.objs.size := (x a o e).lt
theorem HOk.fresh (x : HOk P w H h) (e : h.objs.size ≤ a) : H a = none := by
  cases q : H a with
  | none => rfl
  | some u => exact absurd (Nat.lt_of_lt_of_le (x.lt q) e) (Nat.lt_irrefl _)
/-- every object of the heap is kept -/
theorem HOk.kept (x : HOk P w H h) (k : ∀ b u, h.get? b = some u → h'.get? b = some u) : HOk P w H h' := fun a o e =>
  (x a o e).stay (fun b u _ q => k b u q) (fun _ q => q) fun _ _ q => q
/-- a new object is laid and tracked -/
theorem HOk.laid (x : HOk P w H h) (k : ∀ b u, h.get? b = some u → h'.get? b = some u) (hp : h.objs.size ≤ a) (new : ObjOk P w (upd H a o) h' a o) : HOk P w (upd H a o) h' := fun b u e => by
  have hn := x.fresh hp
  by_cases hb : b = a
  · subst hb; rw [upd_same] at e; cases e; exact new
  · rw [upd_ne hb] at e
    exact (x b u e).stay (fun c v _ q => k c v q) (fun c q => by rw [upd_ne (ne_of_none q hn)]; exact q) fun c xs q => by rw [upd_ne (ne_of_none q hn)]; exact q
end

/-- what may be read as u: it is u, or a known u -/
def Rd (H : Hp) (a : Addr) (u : HO) : Prop := H a = some u ∨ ∃ o, H a = some (.frz o u)
theorem Rd.of {H : Hp} {a : Addr} {u : HO} (h : H a = some u) : Rd H a u := .inl h
theorem Rd.ok {P : Program} {w : World} {H : Hp} {h : Heap} {a : Addr} {u : HO} (r : Rd H a u) (x : HOk P w H h) : ObjOk P w H h a u := by
  rcases r with r | ⟨o, r⟩
  · exact x a u r
  · obtain ⟨_, q⟩ := x a _ r
    exact q
/-- what may be written -/
def Mut : Option HO → Prop
  | some (.lst _) => True
  | some (.dK _) => True
  | some (.dT _) => True
  | some (.set _ _) => True
  | some (.ins _ _ _) => True
  | some (.ext _) => True
  | _ => False
section
variable {P : Program} {w : World} {H : Hp} {h h' : Heap} {x e : Addr} {o' : HO}
/-- the object at e is changed: x itself, or the dict of the instance x -/
theorem HOk.write (ok : HOk P w H h) (mu : Mut (H x)) (he : e = x ∨ H e = some (.own x)) (k : ∀ b u, b ≠ e → h.get? b = some u → h'.get? b = some u) (heo : ∃ u, h'.get? e = some u)
    (new : ObjOk P w (upd H x o') h' x o') : HOk P w (upd H x o') h' := fun b u q => by
  have nown : ∀ c y, H c = some (.own y) → c ≠ x := fun c y r z => by subst z; rw [r] at mu; exact mu
  have ntup : ∀ c xs, H c = some (.tup xs) → c ≠ x := fun c xs r z => by subst z; rw [r] at mu; exact mu
  by_cases hb : b = x
  · subst hb; rw [upd_same] at q; cases q; exact new
  · rw [upd_ne hb] at q
    by_cases hbe : b = e
    · have q' : H b = some (.own x) := by
        rcases he with z | z
        · exact absurd (hbe.trans z) hb
        · rw [hbe]; exact z
      rw [q] at q'; cases q'
      obtain ⟨v, hv⟩ := heo
      exact ⟨v, by rw [hbe]; exact hv⟩
    · refine (ok b u q).stay (fun c v hc r => k c v ?_ r) (fun c r => by rw [upd_ne (nown c b r)]; exact r) fun c xs r => by rw [upd_ne (ntup c xs r)]; exact r
      rcases hc with rfl | hc
      · exact hbe
      · rintro rfl
        rcases he with z | z
        · exact nown c b hc z
        · rw [hc] at z; cases z; exact hb rfl
end

structure Un (fs ex : List Addr) (H H' : Hp) (h h' : Heap) : Prop where
  keep : ∀ b o, h.get? b = some o → H b = none → b ∉ fs → b ∉ ex → h'.get? b = some o
  slot : ∀ b o, h.get? b = some o → H b = none → b ∈ fs → b ∉ ex → ∃ sl, h'.get? b = some { o with slots := sl }
  free : ∀ b o, h.get? b = some o → H b = none → b ∉ ex → H' b = none
  there : ∀ b o, h.get? b = some o → b ∉ ex → ∃ o', h'.get? b = some o'
  tups : ∀ b xs, H b = some (.tup xs) → H' b = some (.tup xs)
  frzs : ∀ b o u, H b = some (.frz o u) → H' b = some (.frz o u)
  tbls : ∀ b ps, H b = some (.tbl ps) → ∃ more, H' b = some (.tbl (ps ++ more))
section
variable {fs fs' ex ex' : List Addr} {H H1 H2 : Hp} {h h1 h2 h' : Heap} {a x e : Addr} {o : HO}
theorem Un.any (u : Un fs ex H H1 h h1) {b : Addr} {ob : Obj} (q : h.get? b = some ob) (n : H b = none) (hx : b ∉ ex) : ∃ sl, h1.get? b = some { ob with slots := sl } := by
  by_cases hb : b ∈ fs
  · exact u.slot b ob q n hb hx
  · exact ⟨ob.slots, u.keep b ob q n hb hx⟩
theorem Un.trans (a : Un fs ex H H1 h h1) (b : Un fs ex H1 H2 h1 h2) : Un fs ex H H2 h h2 where
  keep := fun c ob q n hc hx => b.keep c ob (a.keep c ob q n hc hx) (a.free c ob q n hx) hc hx
  slot := fun c ob q n hc hx => by
    obtain ⟨sl, e1⟩ := a.slot c ob q n hc hx
    obtain ⟨sl', e2⟩ := b.slot c _ e1 (a.free c ob q n hx) hc hx
    exact ⟨sl', e2⟩
  free := fun c ob q n hx => by
    obtain ⟨o', e1⟩ := a.there c ob q hx
    exact b.free c o' e1 (a.free c ob q n hx) hx
  there := fun c ob q hx => by
    obtain ⟨o', e1⟩ := a.there c ob q hx
    exact b.there c o' e1 hx
  tups := fun c xs q => b.tups c xs (a.tups c xs q)
  frzs := fun c ob xs q => b.frzs c ob xs (a.frzs c ob xs q)
  tbls := fun c ps q => by
    obtain ⟨m1, e1⟩ := a.tbls c ps q
    obtain ⟨m2, e2⟩ := b.tbls c _ e1
    exact ⟨m1 ++ m2, by rw [e2, Array.append_assoc]⟩
theorem Un.kept (k : ∀ b u, h.get? b = some u → h'.get? b = some u) : Un fs ex H H h h' :=
  ⟨fun b ob q _ _ _ => k b ob q, fun b ob q _ _ _ => ⟨ob.slots, k b ob q⟩, fun _ _ _ n _ => n, fun b ob q _ => ⟨ob, k b ob q⟩, fun _ _ q => q, fun _ _ _ q => q, fun _ ps q => ⟨#[], by rw [q]; simp⟩⟩
theorem Un.refl : Un fs ex H H h h := Un.kept fun _ _ q => q
theorem Un.laid (k : ∀ b u, h.get? b = some u → h'.get? b = some u) (hp : h.objs.size ≤ a) (hn : H a = none) : Un fs ex H (upd H a o) h h' where
  keep := fun b u q _ _ _ => k b u q
  slot := fun b u q _ _ _ => ⟨u.slots, k b u q⟩
  free := fun b u q n _ => by rw [upd_ne (Nat.ne_of_lt (Nat.lt_of_lt_of_le (Heap.lt_size q) hp))]; exact n
  there := fun b u q _ => ⟨u, k b u q⟩
  tups := fun b xs q => by rw [upd_ne (ne_of_none q hn)]; exact q
  frzs := fun b u xs q => by rw [upd_ne (ne_of_none q hn)]; exact q
  tbls := fun b ps q => ⟨#[], by rw [upd_ne (ne_of_none q hn), q]; simp⟩
theorem Un.write (mu : Mut (H x)) (he : e = x ∨ H e = some (.own x)) (k : ∀ b u, b ≠ e → h.get? b = some u → h'.get? b = some u) (heo : ∃ u, h'.get? e = some u) : Un fs ex H (upd H x o) h h' := by
  have hx : ∀ b, H b = none → b ≠ x := fun b n z => by subst z; rw [n] at mu; exact mu
  have hb : ∀ b, H b = none → b ≠ e := fun b n z => by
    subst z
    rcases he with r | r
    · exact hx b n r
    · rw [n] at r; cases r
  have hm : ∀ b u, H b = some u → ¬ Mut (some u) → b ≠ x := fun b u q nm z => by subst z; rw [q] at mu; exact nm mu
  refine ⟨fun b u q n _ _ => k b u (hb b n) q, fun b u q n _ _ => ⟨u.slots, k b u (hb b n) q⟩, fun b u q n _ => by rw [upd_ne (hx b n)]; exact n, fun b u q _ => ?_,
    fun b xs q => by rw [upd_ne (hm b _ q fun z => z)]; exact q, fun b u xs q => by rw [upd_ne (hm b _ q fun z => z)]; exact q, fun b ps q => ⟨#[], by rw [upd_ne (hm b _ q fun z => z), q]; simp⟩⟩
  by_cases hbe : b = e
  · subst hbe; exact heo
  · exact ⟨u, k b u hbe q⟩
theorem Un.mono (u : Un fs ex H H1 h h1) (hs : ∀ b ∈ fs, b ∈ fs') (hx : ∀ b ∈ ex, b ∈ ex') : Un fs' ex' H H1 h h1 :=
  ⟨fun b ob q n hb he => u.keep b ob q n (fun z => hb (hs b z)) fun z => he (hx b z), fun _ _ q n _ he => u.any q n fun z => he (hx _ z), fun b ob q n he => u.free b ob q n fun z => he (hx b z), fun b ob q he => u.there b ob q fun z => he (hx b z), u.tups, u.frzs, u.tbls⟩
end

def trk (h : Heap) (H : Hp) : List Addr := (List.range h.objs.size).filter fun a => (H a).isSome
def hidT (h : Heap) (H : Hp) : Heap := PySem.W.hideAll h (trk h H)
theorem hidT_size (h : Heap) (H : Hp) : (hidT h H).objs.size = h.objs.size := PySem.W.hideAll_size _ _
theorem hidT_get {h : Heap} {H : Hp} {b : Addr} {o : Obj} (e : h.get? b = some o) (n : H b = none) : (hidT h H).get? b = some o :=
  PySem.W.hideAll_get _ e fun hm => by
    have q : (H b).isSome = true := (List.mem_filter.mp hm).2
    rw [n] at q; simp at q
theorem of_hidT {h : Heap} {H : Hp} {b : Addr} {o : Obj} (e : (hidT h H).get? b = some o) : h.get? b = some o ∧ H b = none := by
  have e' : h.get? b = some o := PySem.W.of_hideAll (trk h H) e
  refine ⟨e', ?_⟩
  cases q : H b with
  | none => rfl
  | some x =>
    have hm : b ∈ trk h H := List.mem_filter.mpr ⟨List.mem_range.mpr (Heap.lt_size e'), by simp [q]⟩
    have z : (hidT h H).get? b = none := PySem.W.hideAll_none (trk h H) hm
    rw [z] at e; cases e

def allNews (g h : Heap) (L : Addr) : List (Addr × Obj) := (List.range h.objs.size).filterMap fun a => if a = L ∨ (g.get? a).isSome = true then none else (h.get? a).map fun o => (a, o)
def rest (g h : Heap) (L d : Addr) : List (Addr × Obj) := (allNews g h L).filter fun p => decide (p.1 ≠ d)
end L2

namespace L2
open PySem PySem.Spec PyProof.Rows

/-- the module's facts, over the base: the heap at the law's entry without what is tracked there -/
structure Mod (K : PySem.W.Frag) (mg : Str → Option Value) (base : Heap) : Prop where
  kin : K.In base
  glob : base.Ns mainGlobals mg
  blt : ∃ mb, base.Ns builtinsNs mb ∧ ∀ x : Str, x ≠ "__name__" → mb x = bootBuiltins x
  nolimit : base.NoLimit

/-- the context: a def's body (or a comprehension's block) running. base: fixed through the whole law; s₀, H₀: the entry; outer: the frames whose slots others may change (a def's callers); stack: all frames that run;
   ex: iterators that were made ahead of the entry and are walked here (a comprehension's); fn: the names whose cells were made at the entry (a def: all; a comprehension's block: its own); calm: not within an except suite; pn: pins that every state bears; xe: what is wanted of an exception that leaves the code -/
structure Cx where
  prog : Program
  w : World
  K : PySem.W.Frag
  mg : Str → Option Value
  base : Heap
  A : Around
  N : List Str
  s₀ : Shared
  H₀ : Hp
  env : Env
  outer : List Env
  stack : List Env
  ex : List Addr
  fn : Str → Bool
  calm : Bool
  pn : List (Addr × Obj)
  xe : Value → Shared → Prop
/-- the callers' frames -/
def frs (l : List Env) : List Addr := l.filterMap (·.frame)
abbrev Cx.fs (X : Cx) : List Addr := frs X.outer

def Vis (sc : Scope) (x : Str) : Prop := sc.names.lookup x = some .local ∨ sc.names.lookup x = some .cell ∨ sc.names.lookup x = some .free
def Loc (sc : Scope) (x : Str) : Prop := sc.names.lookup x = some .local ∨ sc.names.lookup x = some .cell
def Look (env : Env) (h : Heap) (m : Str → Option Value) (x : Str) (u : Value) : Prop :=
  (env.kindOf x = some .local ∧ m x = some u) ∨ ((env.kindOf x = some .cell ∨ env.kindOf x = some .free) ∧ ∃ c, env.cells.lookup x = some c ∧ h.IsCell c (some u))

structure Cx.Ok (X : Cx) : Prop where
  mod : Mod X.K X.mg X.base
  kind : X.env.scope.kind = .function
  glob : X.env.globals = mainGlobals
  blt : X.env.builtins = builtinsNs
  above : X.s₀.heap.objs.size ≤ X.env.locals
  inj : ∀ x y c, X.env.cells.lookup x = some c → X.env.cells.lookup y = some c → x = y
  has : ∀ x, (X.env.kindOf x = some .cell ∨ X.env.kindOf x = some .free) → ∃ c, X.env.cells.lookup x = some c
  cab : ∀ x c, X.fn x = true → X.env.cells.lookup x = some c → X.s₀.heap.objs.size ≤ c
  hd : X.calm = true → X.A.handled = none
  frames : X.A.frames = some X.stack
  stk : X.stack = X.outer ∨ (X.stack = X.env :: X.outer ∧ X.env.frame = some X.env.locals)
  exf : ∀ b ∈ X.ex, b ≠ X.env.locals ∧ ∀ x c, X.env.cells.lookup x = some c → c ≠ b
  bs : ∀ b o, X.base.get? b = some o → X.s₀.heap.get? b = some o ∧ X.H₀ b = none
  bsz : X.base.objs.size ≤ X.s₀.heap.objs.size
  noex : ∀ b o, X.base.get? b = some o → b ∉ X.ex
  exfs : ∀ b ∈ X.ex, b ∉ X.fs
  funs : X.s₀.heap.FunFrames X.base X.outer
  frf : ∀ b ∈ X.fs, X.H₀ b = none

structure Inv (X : Cx) (pins : List (Addr × Obj)) (σ : List (Option V)) (H : Hp) (s : Shared) : Prop where
  ok : X.Ok
  os : s.os = X.s₀.os
  bare : AllBare s.gens
  base : Un X.fs X.ex X.H₀ H X.s₀.heap s.heap
  loc : ∃ m, s.heap.Ns X.env.locals m ∧ ∀ (i : Nat) (x : Str) (v : V), X.N[i]? = some x → σ[i]? = some (some v) → Vis X.env.scope x → ∃ u, RelV v u ∧ Look X.env s.heap m x u
  cell : ∀ x c, X.env.cells.lookup x = some c → ∃ v, s.heap.IsCell c v
  free : H X.env.locals = none
  freeC : ∀ x c, X.env.cells.lookup x = some c → H c = none
  pin : ∀ p ∈ X.pn ++ pins, s.heap.get? p.1 = some p.2 ∧ H p.1 = none ∧ p.1 ≠ X.env.locals ∧ p.1 ∉ X.fs ∧ ∀ v, p.2.data ≠ .cell v
  hok : HOk X.prog X.w H s.heap
  len : σ.length = X.N.length

section
variable {X : Cx} {pins : List (Addr × Obj)} {σ : List (Option V)} {H H' : Hp} {s : Shared} {h' : Heap}

theorem Cx.Ok.nofr (ok : X.Ok) {b : Addr} {o : Obj} (e : X.base.get? b = some o) : b ∉ X.fs := fun hb => by
  have := (ok.funs.mem hb).1
  rw [e] at this; cases this
theorem Inv.bs (I : Inv X pins σ H s) : ∀ b o, X.base.get? b = some o → s.heap.get? b = some o ∧ H b = none := fun b o e =>
  ⟨I.base.keep b o (I.ok.bs b o e).1 (I.ok.bs b o e).2 (I.ok.nofr e) (I.ok.noex b o e), I.base.free b o (I.ok.bs b o e).1 (I.ok.bs b o e).2 (I.ok.noex b o e)⟩
theorem Inv.bk (I : Inv X pins σ H s) : ∀ b o, X.base.get? b = some o → s.heap.get? b = some o := fun b o e => (I.bs b o e).1
theorem Inv.mod (I : Inv X pins σ H s) : Mod X.K X.mg X.base := I.ok.mod
theorem Inv.kIn (I : Inv X pins σ H s) : X.K.In s.heap := I.ok.mod.kin.keeps I.bk
theorem Inv.nolimit (I : Inv X pins σ H s) : s.heap.NoLimit := I.ok.mod.nolimit.keeps I.bk
/-- the frame over the base: for OpenK's rules (K.In X.base is I.mod.kin) -/
theorem Inv.fr (I : Inv X pins σ H s) : ∃ m, Fr X.base X.env.locals s.heap m :=
  let ⟨m, hn, _⟩ := I.loc
  ⟨m, hn, I.bk, Nat.le_trans I.ok.bsz I.ok.above⟩
theorem Inv.lt (I : Inv X pins σ H s) : X.env.locals < s.heap.objs.size := let ⟨_, hn, _⟩ := I.loc; hn.lt
theorem Inv.sz (I : Inv X pins σ H s) : X.s₀.heap.objs.size ≤ s.heap.objs.size := Nat.le_trans I.ok.above (Nat.le_of_lt I.lt)
theorem Inv.nofs (I : Inv X pins σ H s) {a : Addr} (h : s.heap.objs.size ≤ a) : a ∉ X.fs := fun hb => by
  obtain ⟨_, o, ho, _⟩ := I.ok.funs.mem hb
  exact absurd (Nat.lt_of_lt_of_le (Heap.lt_size ho) (Nat.le_trans I.sz h)) (Nat.lt_irrefl _)
theorem Inv.cne (I : Inv X pins σ H s) : ∀ x c, X.env.cells.lookup x = some c → c ≠ X.env.locals := fun x c e z => by
  obtain ⟨v, o, ho, hd⟩ := I.cell x c e
  obtain ⟨m, ⟨o', es, ep, ho', hd', _⟩, _⟩ := I.loc
  rw [z, ho'] at ho; cases ho; rw [hd'] at hd; cases hd
theorem Inv.funs (I : Inv X pins σ H s) : s.heap.FunFrames X.base X.outer := by
  have all : ∀ (l : List Env), (∀ b ∈ frs l, b ∈ X.fs) → X.s₀.heap.FunFrames X.base l → s.heap.FunFrames X.base l := by
    intro l
    induction l with
    | nil => intro _ _; trivial
    | cons env r ih =>
      intro hs hl
      obtain ⟨hk, ⟨L, o, hf, hn, ho, hd⟩, hr⟩ := hl
      have hL : L ∈ X.fs := hs L (by unfold frs; rw [List.filterMap_cons, hf]; exact List.mem_cons_self)
      obtain ⟨sl, e⟩ := I.base.slot L o ho (I.ok.frf L hL) hL fun z => I.ok.exfs L z hL
      exact ⟨hk, ⟨L, _, hf, hn, e, hd⟩, ih (fun b hb => hs b (by unfold frs; rw [List.filterMap_cons, hf]; exact List.mem_cons_of_mem _ hb)) hr⟩
  exact all X.outer (fun _ hb => hb) I.ok.funs

/-- the frames that run, for a call -/
theorem Inv.stack (I : Inv X pins σ H s) : s.heap.FunFrames X.base X.stack := by
  rcases I.ok.stk with e | ⟨e, hf⟩
  · rw [e]; exact I.funs
  · rw [e]
    obtain ⟨m, hn, _⟩ := I.loc
    refine .cons (by rw [I.ok.kind]; decide) hf hn ?_ I.funs
    exact Heap.get?_none_of_le (Nat.le_trans I.ok.bsz I.ok.above)
theorem Inv.stkSub (I : Inv X pins σ H s) : ∀ b ∈ frs X.stack, b ∈ X.env.locals :: X.fs := fun b hb => by
  rcases I.ok.stk with e | ⟨e, hf⟩
  · rw [e] at hb; exact List.mem_cons_of_mem _ hb
  · rw [e] at hb
    unfold frs at hb
    rw [List.filterMap_cons, hf] at hb
    exact hb
theorem Inv.stkFree (I : Inv X pins σ H s) : ∀ b ∈ frs X.stack, H b = none := fun b hb => by
  rcases List.mem_cons.mp (I.stkSub b hb) with e | hb
  · rw [e]; exact I.free
  · obtain ⟨_, o, ho, _⟩ := I.ok.funs.mem hb
    exact I.base.free b o ho (I.ok.frf b hb) fun z => I.ok.exfs b z hb

/-- THE STEP: the untracked objects but the frame and the records at ch are kept (the callers' frames up to slots), the frame's map is kept, the new abstract heap is held -/
theorem Inv.step {g' : Array GenState} {t' : Nat} {d' : Drawn} {ch : List Addr} (I : Inv X pins σ H s)
    (hch : ∀ b ∈ ch, (b ∈ X.ex ∨ X.s₀.heap.objs.size ≤ b) ∧ b ≠ X.env.locals ∧ (∀ x c, X.env.cells.lookup x = some c → c ≠ b) ∧ ∀ p ∈ X.pn ++ pins, p.1 ≠ b)
    (keep : ∀ b o, b ≠ X.env.locals → b ∉ X.fs → b ∉ ch → s.heap.get? b = some o → H b = none → h'.get? b = some o)
    (slot : ∀ b o, b ≠ X.env.locals → b ∈ X.fs → b ∉ ch → s.heap.get? b = some o → H b = none → ∃ sl, h'.get? b = some { o with slots := sl }) (free : ∀ b o, b ∉ ch → s.heap.get? b = some o → H b = none → H' b = none)
    (there : ∀ b o, b ∉ ch → s.heap.get? b = some o → ∃ o', h'.get? b = some o')
    (tups : ∀ b xs, H b = some (.tup xs) → H' b = some (.tup xs)) (frzs : ∀ b o u, H b = some (.frz o u) → H' b = some (.frz o u)) (tbls : ∀ b ps, H b = some (.tbl ps) → ∃ more, H' b = some (.tbl (ps ++ more)))
    (ns : ∀ m, s.heap.Ns X.env.locals m → h'.Ns X.env.locals m) (hok : HOk X.prog X.w H' h') (hg : AllBare g') :
    Inv X pins σ H' { s with heap := h', gens := g', drawn := d', toks := t' } := by
  have neL : ∀ b o, X.s₀.heap.get? b = some o → b ≠ X.env.locals := fun b o e => Nat.ne_of_lt (Nat.lt_of_lt_of_le (Heap.lt_size e) I.ok.above)
  have neC : ∀ b o, X.s₀.heap.get? b = some o → b ∉ X.ex → b ∉ ch := fun b o e hx hb => by
    rcases (hch b hb).1 with z | z
    · exact hx z
    · exact absurd (Nat.lt_of_lt_of_le (Heap.lt_size e) z) (Nat.lt_irrefl _)
  have cellK : ∀ x c, X.env.cells.lookup x = some c → ∀ v, s.heap.IsCell c v → h'.IsCell c v := fun x c e v ⟨o, ho, hd⟩ => by
    have nch : c ∉ ch := fun z => (hch c z).2.2.1 x c e rfl
    by_cases hc : c ∈ X.fs
    · obtain ⟨sl, q⟩ := slot c o (I.cne x c e) hc nch ho (I.freeC x c e)
      exact ⟨_, q, hd⟩
    · exact ⟨o, keep c o (I.cne x c e) hc nch ho (I.freeC x c e), hd⟩
  refine ⟨I.ok, I.os, hg, ⟨fun b o e n hb hx => ?_, fun b o e n hb hx => ?_, fun b o e n hx => ?_, fun b o e hx => ?_, fun b xs e => tups b xs (I.base.tups b xs e), fun b o xs e => frzs b o xs (I.base.frzs b o xs e), fun b ps e => ?_⟩, ?_, fun x c e => ?_, ?_, fun x c e => ?_, fun p hp => ?_, hok, I.len⟩
  · exact keep b o (neL b o e) hb (neC b o e hx) (I.base.keep b o e n hb hx) (I.base.free b o e n hx)
  · obtain ⟨sl, e1⟩ := I.base.slot b o e n hb hx
    obtain ⟨sl', e2⟩ := slot b _ (neL b o e) hb (neC b o e hx) e1 (I.base.free b o e n hx)
    exact ⟨sl', e2⟩
  · obtain ⟨o', e1⟩ := I.base.there b o e hx
    exact free b o' (neC b o e hx) e1 (I.base.free b o e n hx)
  · obtain ⟨o', e1⟩ := I.base.there b o e hx
    exact there b o' (neC b o e hx) e1
  · obtain ⟨m1, e1⟩ := I.base.tbls b ps e
    obtain ⟨m2, e2⟩ := tbls b _ e1
    exact ⟨m1 ++ m2, by rw [e2, Array.append_assoc]⟩
  · obtain ⟨m, hn, hl⟩ := I.loc
    refine ⟨m, ns m hn, fun i x v e1 e2 e3 => ?_⟩
    obtain ⟨u, r, l⟩ := hl i x v e1 e2 e3
    refine ⟨u, r, ?_⟩
    rcases l with l | ⟨k, c, e, z⟩
    · exact .inl l
    · exact .inr ⟨k, c, e, cellK x c e _ z⟩
  · obtain ⟨v, z⟩ := I.cell x c e
    exact ⟨v, cellK x c e v z⟩
  · obtain ⟨m, ⟨o, _, _, ho, _⟩, _⟩ := I.loc
    exact free _ o (fun z => (hch _ z).2.1 rfl) ho I.free
  · obtain ⟨v, o, ho, hd⟩ := I.cell x c e
    exact free c o (fun z => (hch c z).2.2.1 x c e rfl) ho (I.freeC x c e)
  · obtain ⟨e, n, ne, nf, d⟩ := I.pin p hp
    have nch : p.1 ∉ ch := fun z => (hch p.1 z).2.2.2 p hp rfl
    exact ⟨keep p.1 p.2 ne nf nch e n, free p.1 p.2 nch e n, ne, nf, d⟩
/-- .. where the frame's own object is kept too -/
theorem Inv.un {t' : Nat} (I : Inv X pins σ H s) (u : Un X.fs [] H H' s.heap h') (hok : HOk X.prog X.w H' h') : Inv X pins σ H' { s with heap := h', toks := t' } := by
  obtain ⟨m, ⟨o, es, ep, ho, r⟩, _⟩ := id I.loc
  obtain ⟨sl, hL⟩ := u.any ho I.free (by simp)
  exact I.step (g' := s.gens) (d' := s.drawn) (ch := []) (fun _ z => nomatch z) (fun b o _ hb _ e n => u.keep b o e n hb (by simp)) (fun b o _ hb _ e n => u.slot b o e n hb (by simp)) (fun b o _ e n => u.free b o e n (by simp)) (fun b o _ e => u.there b o e (by simp)) u.tups u.frzs u.tbls (fun m' hm => by
    obtain ⟨o', es', ep', ho', r'⟩ := hm
    rw [ho] at ho'; cases ho'
    exact ⟨_, es', ep', hL, r'⟩) hok I.bare
/-- behind a call (or a comprehension's block): the slots of this frame may have changed too, the records at ch may have turned -/
theorem Inv.call {g' : Array GenState} {t' : Nat} {d' : Drawn} {ch : List Addr} (I : Inv X pins σ H s) (u : Un (frs X.stack) ch H H' s.heap h') (hok : HOk X.prog X.w H' h') (hg : AllBare g')
    (hch : ∀ b ∈ ch, (b ∈ X.ex ∨ X.s₀.heap.objs.size ≤ b) ∧ b ≠ X.env.locals ∧ (∀ x c, X.env.cells.lookup x = some c → c ≠ b) ∧ ∀ p ∈ X.pn ++ pins, p.1 ≠ b) :
    Inv X pins σ H' { s with heap := h', gens := g', drawn := d', toks := t' } := by
  obtain ⟨m, ⟨o, es, ep, ho, r⟩, _⟩ := id I.loc
  obtain ⟨sl, hL⟩ := u.any ho I.free fun z => (hch _ z).2.1 rfl
  exact I.step (ch := ch) hch (fun b o hL hb hc e n => u.keep b o e n (fun z => (List.mem_cons.mp (I.stkSub b z)).elim hL hb) hc) (fun b o _ _ hc e n => u.any e n hc) (fun b o hc e n => u.free b o e n hc) (fun b o hc e => u.there b o e hc) u.tups u.frzs u.tbls (fun m' hm => by
    obtain ⟨o', es', ep', ho', r'⟩ := hm
    rw [ho] at ho'; cases ho'
    exact ⟨_, es', ep', hL, r'⟩) hok hg
/-- an untracked record of ours (an iterator) has turned -/
theorem Inv.turned {t' : Nat} {it : Addr} (I : Inv X pins σ H s) (k : ∀ b o, b ≠ it → s.heap.get? b = some o → h'.get? b = some o) (hn : H it = none) (hL : it ≠ X.env.locals)
    (h1 : it ∈ X.ex ∨ X.s₀.heap.objs.size ≤ it) (h2 : ∀ x c, X.env.cells.lookup x = some c → c ≠ it) (h3 : ∀ p ∈ X.pn ++ pins, p.1 ≠ it) : Inv X pins σ H { s with heap := h', toks := t' } := by
  have nit : ∀ b u, H b = some u → b ≠ it := fun b u e z => by rw [z, hn] at e; cases e
  refine I.step (g' := s.gens) (d' := s.drawn) (ch := [it]) (fun b hb => ?_) (fun b o _ _ hc e _ => k b o (fun z => hc (by simp [z])) e) (fun b o _ _ hc e _ => ⟨o.slots, k b o (fun z => hc (by simp [z])) e⟩) (fun _ _ _ _ n => n)
    (fun b o hc e => ⟨o, k b o (fun z => hc (by simp [z])) e⟩) (fun _ _ e => e) (fun _ _ _ e => e) (fun b ps e => ⟨#[], by rw [e]; simp⟩) (fun m hm => ?_) (fun b u e => ?_) I.bare
  · have e : b = it := by simpa using hb
    subst e
    exact ⟨h1, hL, h2, h3⟩
  · obtain ⟨o, es, ep, ho, r⟩ := hm
    exact ⟨o, es, ep, k _ o (Ne.symm hL) ho, r⟩
  · refine (I.hok b u e).stay (fun c v hc q => k c v ?_ q) (fun _ q => q) fun _ _ q => q
    rcases hc with z | z
    · rw [z]; exact nit b u e
    · exact nit c _ z
theorem Inv.tok (I : Inv X pins σ H s) (t : Nat) : Inv X pins σ H { s with toks := t } := I.un (h' := s.heap) (t' := t) Un.refl I.hok
/-- all objects kept -/
theorem Inv.kept {t' : Nat} (I : Inv X pins σ H s) (k : ∀ b u, s.heap.get? b = some u → h'.get? b = some u) : Inv X pins σ H { s with heap := h', toks := t' } := I.un (Un.kept k) (I.hok.kept k)
/-- a new object laid and tracked -/
theorem Inv.laid {a : Addr} {o : HO} {t' : Nat} (I : Inv X pins σ H s) (k : ∀ b u, s.heap.get? b = some u → h'.get? b = some u) (hp : s.heap.objs.size ≤ a) (new : ObjOk X.prog X.w (upd H a o) h' a o) :
    Inv X pins σ (upd H a o) { s with heap := h', toks := t' } := I.un (Un.laid k hp (I.hok.fresh hp)) (I.hok.laid k hp new)
/-- an object written -/
theorem Inv.write {x e : Addr} {o : HO} {t' : Nat} (I : Inv X pins σ H s) (mu : Mut (H x)) (he : e = x ∨ H e = some (.own x)) (k : ∀ b u, b ≠ e → s.heap.get? b = some u → h'.get? b = some u) (heo : ∃ u, h'.get? e = some u)
    (new : ObjOk X.prog X.w (upd H x o) h' x o) : Inv X pins σ (upd H x o) { s with heap := h', toks := t' } := I.un (Un.write mu he k heo) (I.hok.write mu he k heo new)
/-- forgetting slots, pins -/
theorem Inv.weak {σ' : List (Option V)} (I : Inv X pins σ H s) (hl : σ'.length = σ.length) (w : ∀ (i : Nat) v, σ'[i]? = some (some v) → σ[i]? = some (some v)) : Inv X pins σ' H s :=
  ⟨I.ok, I.os, I.bare, I.base, let ⟨m, hn, hl'⟩ := I.loc; ⟨m, hn, fun i x v e1 e2 e3 => hl' i x v e1 (w i v e2) e3⟩, I.cell, I.free, I.freeC, I.pin, I.hok, hl.trans I.len⟩
theorem Inv.pins_of {pins' : List (Addr × Obj)} (I : Inv X pins σ H s) (h : ∀ p ∈ pins', s.heap.get? p.1 = some p.2 ∧ H p.1 = none ∧ p.1 ≠ X.env.locals ∧ p.1 ∉ X.fs ∧ ∀ v, p.2.data ≠ .cell v) : Inv X pins' σ H s :=
  ⟨I.ok, I.os, I.bare, I.base, I.loc, I.cell, I.free, I.freeC, fun p hp => (List.mem_append.mp hp).elim (fun z => I.pin p (List.mem_append_left _ z)) (h p), I.hok, I.len⟩

theorem nodup_ix {N : List Str} (hN : N.Nodup) {i j : Nat} {x : Str} (a : N[i]? = some x) (b : N[j]? = some x) : i = j := by
  obtain ⟨h1, e1⟩ := List.getElem?_eq_some_iff.mp a
  obtain ⟨h2, e2⟩ := List.getElem?_eq_some_iff.mp b
  exact (List.getElem_inj hN).mp (e1.trans e2.symm)

/-- a name is stored; what changed -/
theorem store_ok2 {M : Model} {A : Around} {E : Value → Shared → Prop} {i : Nat} {x : Str} {v : V} {u : Value} {Q : Unit → Shared → Prop} (I : Inv X pins σ H s) (hN : X.N.Nodup) (hi : X.N[i]? = some x) (hx : Loc X.env.scope x) (r : RelV v u)
    (h : ∀ s', Inv X pins (σ.set i (some v)) H s' → (∃ a, Heap.SameBut a s.heap s'.heap ∧ (a = X.env.locals ∨ X.env.cells.lookup x = some a)) → Q () s') (hf : X.fn x = true ∨ X.env.scope.names.lookup x = some .local := by first | exact .inl rfl | exact .inr rfl | assumption) : wpAny M A (storeName X.env x u) Q E s := by
  obtain ⟨m, hn, hl⟩ := id I.loc
  have hcls : (X.env.scope.kind == .class || (X.env.scope.kind == .module && X.env.locals != X.env.globals)) = false := by rw [I.ok.kind]; rfl
  have hiσ : i < σ.length := by rw [I.len]; exact (List.getElem?_eq_some_iff.mp hi).1
  have cne := I.cne
  have tracked : ∀ {a : Addr} {h' : Heap}, (∃ o, s.heap.get? a = some o ∧ H a = none) → Heap.SameBut a s.heap h' → HOk X.prog X.w H h' := fun {a h'} ha hs b ob e => by
    obtain ⟨_, _, hfree⟩ := ha
    refine (I.hok b ob e).stay (fun c w' hc q => (hs.2 c ?_).trans q) (fun _ q => q) fun _ _ q => q
    rintro rfl
    rcases hc with rfl | hc
    · rw [hfree] at e; cases e
    · rw [hfree] at hc; cases hc
  rcases hx with hk | hk
  · refine wpAny_storeName_local hk hn (fun h' hn' hs => ?_) hcls
    obtain ⟨oL, _, _, hoL, _⟩ := id hn
    refine h _ ⟨I.ok, I.os, I.bare, ⟨fun b o e n hb hx => ?_, fun b o e n hb hx => ?_, I.base.free, fun b o e hx => ?_, I.base.tups, I.base.frzs, I.base.tbls⟩, ⟨_, hn', fun j y v' e1 e2 e3 => ?_⟩, fun y c e => ?_, I.free, I.freeC, fun p hp => ?_, tracked ⟨oL, hoL, I.free⟩ hs, by simpa using I.len⟩ ⟨_, hs, .inl rfl⟩
    · exact (hs.2 b (Nat.ne_of_lt (Nat.lt_of_lt_of_le (Heap.lt_size e) I.ok.above))).trans (I.base.keep b o e n hb hx)
    · obtain ⟨sl, e1⟩ := I.base.slot b o e n hb hx
      exact ⟨sl, (hs.2 b (Nat.ne_of_lt (Nat.lt_of_lt_of_le (Heap.lt_size e) I.ok.above))).trans e1⟩
    · obtain ⟨o', e1⟩ := I.base.there b o e hx
      exact ⟨o', (hs.2 b (Nat.ne_of_lt (Nat.lt_of_lt_of_le (Heap.lt_size e) I.ok.above))).trans e1⟩
    · by_cases hj : j = i
      · subst hj
        rw [hi] at e1; cases e1
        rw [List.getElem?_set_self hiσ] at e2
        cases e2
        exact ⟨u, r, .inl ⟨hk, by simp⟩⟩
      · rw [List.getElem?_set_ne (Ne.symm hj)] at e2
        obtain ⟨u', r', q⟩ := hl j y v' e1 e2 e3
        refine ⟨u', r', ?_⟩
        rcases q with ⟨k, e⟩ | ⟨k, c, e, z⟩
        · refine .inl ⟨k, ?_⟩
          have : y ≠ x := fun e => hj (nodup_ix hN e1 (e ▸ hi))
          simp [this, e]
        · exact .inr ⟨k, c, e, z.sameBut hs (cne y c e)⟩
    · obtain ⟨w', z⟩ := I.cell y c e
      exact ⟨w', z.sameBut hs (cne y c e)⟩
    · obtain ⟨e, n, ne, nf, d⟩ := I.pin p hp
      exact ⟨(hs.2 p.1 ne).trans e, n, ne, nf, d⟩
  · have hfn : X.fn x = true := by
      rcases hf with z | z
      · exact z
      · rw [z] at hk; cases hk
    obtain ⟨c, hc⟩ := I.ok.has x (.inl hk)
    obtain ⟨w', z⟩ := I.cell x c hc
    refine wpAny_storeName_cell I.ok.kind hk hc z (fun h' hc' hs => ?_)
    obtain ⟨oc, hoc, hocd⟩ := id z
    refine h { s with heap := h' } ⟨I.ok, I.os, I.bare, ⟨fun b o e n hb hx => ?_, fun b o e n hb hx => ?_, I.base.free, fun b o e hx => ?_, I.base.tups, I.base.frzs, I.base.tbls⟩, ⟨m, hn.sameBut hs (Ne.symm (cne x c hc)), fun j y v' e1 e2 e3 => ?_⟩, fun y c' e => ?_, I.free, I.freeC, fun p hp => ?_, tracked ⟨oc, hoc, I.freeC x c hc⟩ hs, by simpa using I.len⟩ ⟨c, hs, .inr hc⟩
    · exact (hs.2 b (Nat.ne_of_lt (Nat.lt_of_lt_of_le (Heap.lt_size e) (I.ok.cab x c hfn hc)))).trans (I.base.keep b o e n hb hx)
    · obtain ⟨sl, e1⟩ := I.base.slot b o e n hb hx
      exact ⟨sl, (hs.2 b (Nat.ne_of_lt (Nat.lt_of_lt_of_le (Heap.lt_size e) (I.ok.cab x c hfn hc)))).trans e1⟩
    · obtain ⟨o', e1⟩ := I.base.there b o e hx
      exact ⟨o', (hs.2 b (Nat.ne_of_lt (Nat.lt_of_lt_of_le (Heap.lt_size e) (I.ok.cab x c hfn hc)))).trans e1⟩
    · by_cases hj : j = i
      · subst hj
        rw [hi] at e1; cases e1
        rw [List.getElem?_set_self hiσ] at e2
        cases e2
        exact ⟨u, r, .inr ⟨.inl hk, c, hc, hc'⟩⟩
      · rw [List.getElem?_set_ne (Ne.symm hj)] at e2
        obtain ⟨u', r', q⟩ := hl j y v' e1 e2 e3
        refine ⟨u', r', ?_⟩
        rcases q with q | ⟨k, c', e, z'⟩
        · exact .inl q
        · refine .inr ⟨k, c', e, z'.sameBut hs ?_⟩
          rintro rfl
          exact hj (nodup_ix hN e1 (I.ok.inj _ _ _ e hc ▸ hi))
    · by_cases hcc : c' = c
      · subst hcc; exact ⟨_, hc'⟩
      · obtain ⟨w2, z2⟩ := I.cell y c' e
        exact ⟨w2, z2.sameBut hs hcc⟩
    · obtain ⟨e, n, ne, nf, d⟩ := I.pin p hp
      refine ⟨(hs.2 p.1 ?_).trans e, n, ne, nf, d⟩
      intro q
      rw [q, hoc] at e
      have q' : oc = p.2 := Option.some.inj e
      exact d w' (by rw [← q']; exact hocd)
theorem store_ok {M : Model} {A : Around} {E : Value → Shared → Prop} {i : Nat} {x : Str} {v : V} {u : Value} {Q : Unit → Shared → Prop} (I : Inv X pins σ H s) (hN : X.N.Nodup) (hi : X.N[i]? = some x) (hx : Loc X.env.scope x) (r : RelV v u)
    (h : ∀ s', Inv X pins (σ.set i (some v)) H s' → Q () s') (hf : X.fn x = true ∨ X.env.scope.names.lookup x = some .local := by first | exact .inl rfl | exact .inr rfl | assumption) : wpAny M A (storeName X.env x u) Q E s :=
  store_ok2 I hN hi hx r (fun s' I' _ => h s' I') hf
/-- behind a call or a block, the state as it is -/
theorem Inv.call' {s' : Shared} {ch : List Addr} (I : Inv X pins σ H s) (ho : s'.os = s.os) (u : Un (frs X.stack) ch H H' s.heap s'.heap) (hok : HOk X.prog X.w H' s'.heap) (hg : AllBare s'.gens)
    (hch : ∀ b ∈ ch, (b ∈ X.ex ∨ X.s₀.heap.objs.size ≤ b) ∧ b ≠ X.env.locals ∧ (∀ x c, X.env.cells.lookup x = some c → c ≠ b) ∧ ∀ p ∈ X.pn ++ pins, p.1 ≠ b) : Inv X pins σ H' s' := by
  obtain ⟨h', g', d', t', o'⟩ := s'
  have e : o' = s.os := ho
  subst e
  exact I.call (g' := g') (t' := t') (d' := d') u hok hg hch
end

/-- an exception: its class, its own dict's address (where it has one), the abstract heap behind it -/
abbrev XK := Value → Option Addr → Hp → Prop
abbrev St := List (Option V)
abbrev VK := V → Hp → Prop
/-- an expression's reading; a test's; an argument list's -/
abbrev TE := St → Hp → VK → Prop
abbrev TT := St → Hp → (Bool → Hp → Prop) → Prop
abbrev TA := St → Hp → (List V → Hp → Prop) → Prop
/-- what is wanted behind a statement -/
structure Ends where
  nx : St → Hp → Prop
  rt : VK
  bk : St → Hp → Prop := fun _ _ => False
  ct : St → Hp → Prop := fun _ _ => False
abbrev TS := Ends → St → Hp → Prop

def EP (X : Cx) (pins : List (Addr × Obj)) (σ : St) (Q : VK) (u : Value) (s' : Shared) : Prop := ∃ v H', Inv X pins σ H' s' ∧ RelV v u ∧ Q v H'
def TP (X : Cx) (pins : List (Addr × Obj)) (σ : St) (Q : Bool → Hp → Prop) (b : Bool) (s' : Shared) : Prop := ∃ H', Inv X pins σ H' s' ∧ Q b H'
def AP (X : Cx) (pins : List (Addr × Obj)) (σ : St) (Q : List V → Hp → Prop) (us : List Value) (s' : Shared) : Prop := ∃ vs H', Inv X pins σ H' s' ∧ Vals vs us ∧ Q vs H'
def SP (X : Cx) (pins : List (Addr × Obj)) (D : Ends) (f : Flow) (s' : Shared) : Prop :=
  match f with
  | .next => ∃ σ' H', Inv X pins σ' H' s' ∧ D.nx σ' H'
  | .brk => ∃ σ' H', Inv X pins σ' H' s' ∧ D.bk σ' H'
  | .cont => ∃ σ' H', Inv X pins σ' H' s' ∧ D.ct σ' H'
  | .ret u => ∃ v σ' H', Inv X pins σ' H' s' ∧ RelV v u ∧ D.rt v H'

def PE (X : Cx) (e : Expr) (t : TE) : Prop :=
  ∀ (pins : List (Addr × Obj)) (s : Shared) (σ : St) (H : Hp) (Q : VK), Inv X pins σ H s → t σ H Q → wpAny (model X.prog X.w) X.A (eval e X.env) (EP X pins σ Q) X.xe s
def PT (X : Cx) (e : Expr) (t : TT) : Prop :=
  ∀ (pins : List (Addr × Obj)) (s : Shared) (σ : St) (H : Hp) (Q : Bool → Hp → Prop), Inv X pins σ H s → t σ H Q → wpAny (model X.prog X.w) X.A (isTrue e X.env (eval e X.env)) (TP X pins σ Q) X.xe s
/-- a test whatever its 'whole' is (and, or) -/
def PW (X : Cx) (e : Expr) (t : TT) : Prop :=
  ∀ (whole : Sem Value) (pins : List (Addr × Obj)) (s : Shared) (σ : St) (H : Hp) (Q : Bool → Hp → Prop), Inv X pins σ H s → t σ H Q → wpAny (model X.prog X.w) X.A (isTrue e X.env whole) (TP X pins σ Q) X.xe s
theorem PW.pt {X : Cx} {e : Expr} {t : TT} (h : PW X e t) : PT X e t := h _
/-- an argument list (no star), from the left -/
def PA (X : Cx) (es : List Expr) (t : TA) : Prop :=
  ∀ (pos : Pos) (pins : List (Addr × Obj)) (s : Shared) (σ : St) (H : Hp) (Q : List V → Hp → Prop), Inv X pins σ H s → t σ H Q → wpAny (model X.prog X.w) X.A (spliced (backTo pos (starEach es X.env))) (AP X pins σ Q) X.xe s
def PS (X : Cx) (st : Stmt) (t : TS) : Prop :=
  ∀ (pins : List (Addr × Obj)) (s : Shared) (σ : St) (H : Hp) (D : Ends), Inv X pins σ H s → t D σ H → wpAny (model X.prog X.w) X.A (exec st X.env) (SP X pins D) X.xe s
def PSs (X : Cx) (st : List Stmt) (t : TS) : Prop :=
  ∀ (pins : List (Addr × Obj)) (s : Shared) (σ : St) (H : Hp) (D : Ends), Inv X pins σ H s → t D σ H → wpAny (model X.prog X.w) X.A (execs st X.env) (SP X pins D) X.xe s
/-- weaken the end -/
theorem thn {α : Type} {t : Sem α} {Q Q' : α → Shared → Prop} {M : Model} {A : Around} {E : Value → Shared → Prop} {s : Shared} (h : wpAny M A t Q E s) (hQ : ∀ a s, Q a s → Q' a s) : wpAny M A t Q' E s := wpAny_mono h hQ fun _ _ x => x
end L2

namespace L2
open PySem PySem.Spec PyProof.Rows
section
variable {X : Cx}

abbrev tVar (i : Nat) : TE := fun σ H Q => ∃ v, σ[i]? = some (some v) ∧ Q v H
abbrev tC (v : V) : TE := fun _ H Q => Q v H
theorem pe_var {i : Nat} {x : Str} {pos : Pos} (hN : X.N[i]? = some x) (hv : Vis X.env.scope x) (hd : (x == ("__debug__" : Str)) = false := by decide) (hcd : (x == ("__classdict__" : Str)) = false := by decide) : PE X (.Name x pos) (tVar i) := by
  intro pins s σ H Q I h
  obtain ⟨v, e, h⟩ := h
  obtain ⟨m, hn, hl⟩ := I.loc
  obtain ⟨u, r, l⟩ := hl i x v hN e hv
  have fin : EP X pins σ Q u s := ⟨v, H, I, r, h⟩
  rcases l with ⟨hk, hm⟩ | ⟨hk, c, hc, hcell⟩
  · exact wpAny_Name (wpAny_loadName_local I.ok.kind hk hn hm fin) hd
  · rcases hk with hk | hk
    · exact wpAny_Name (wpAny_loadName_cell I.ok.kind hk hc hcell fin) hd
    · exact wpAny_Name (wpAny_loadName_free I.ok.kind hk hc hcell fin hcd) hd
theorem pe_int {i j pos} : PE X (.Constant (.int i) j pos) (tC (.int i)) := fun _ _ _ H _ I h => wpAny_Constant_int ⟨.int i, H, I.tok _, ⟨_, rfl⟩, h⟩
theorem pe_bl {b j pos} : PE X (.Constant (.bool b) j pos) (tC (.bl b)) := fun _ _ _ H _ I h => Constant_bool ⟨.bl b, H, I, rfl, h⟩
theorem pe_str {x j pos} : PE X (.Constant (.str x) j pos) (tC (.str x)) := fun _ _ _ H _ I h => Calls.Constant_str ⟨.str x, H, I.tok _, ⟨_, rfl⟩, h⟩

/-- a global name of the def -/
def Gl (X : Cx) (x : Str) : Prop := X.env.kindOf x = some .globalImplicit
theorem ld_glob {E : Value → Shared → Prop} {pins : List (Addr × Obj)} {s : Shared} {σ : St} {H : Hp} {x : Str} {u : Value} {pos : Pos} {Q : Value → Shared → Prop} (I : Inv X pins σ H s) (hg : Gl X x) (hm : X.mg x = some u) (h : Q u s)
    (hd : (x == ("__debug__" : Str)) = false := by decide) : wpAny (model X.prog X.w) X.A (eval (.Name x pos) X.env) Q E s :=
  Calls.Name_function_global I.ok.kind hg (Calls.loadGlobal_global (by rw [I.ok.glob]; exact I.mod.glob.keeps I.bk) hm h) hd
theorem ld_blt {E : Value → Shared → Prop} {pins : List (Addr × Obj)} {s : Shared} {σ : St} {H : Hp} {x : Str} {u : Value} {pos : Pos} {Q : Value → Shared → Prop} (I : Inv X pins σ H s) (hg : Gl X x) (hm : X.mg x = none) (hv : bootBuiltins x = some u) (h : Q u s)
    (hn : x ≠ "__name__" := by decide) (hd : (x == ("__debug__" : Str)) = false := by decide) : wpAny (model X.prog X.w) X.A (eval (.Name x pos) X.env) Q E s := by
  obtain ⟨mb, h1, h2⟩ := I.mod.blt
  exact Calls.Name_function_global I.ok.kind hg (Calls.loadGlobal_builtin (by rw [I.ok.glob]; exact I.mod.glob.keeps I.bk) hm (by rw [I.ok.blt]; exact h1.keeps I.bk) ((h2 x hn).trans hv) h) hd
theorem pe_bltn {x : Str} {v : V} {u : Value} {pos : Pos} (hg : Gl X x) (hm : X.mg x = none) (hv : bootBuiltins x = some u) (r : RelV v u) (hn : x ≠ "__name__" := by decide) (hd : (x == ("__debug__" : Str)) = false := by decide) : PE X (.Name x pos) (tC v) :=
  fun _ _ _ H _ I h => ld_blt I hg hm hv ⟨v, H, I, r, h⟩ hn hd

/-- two ints -/
def t2I (ta tb : TE) (k : Int → Int → Hp → Prop) : St → Hp → Prop := fun σ H => ta σ H fun x H1 => tb σ H1 fun y H2 => ∃ i j, x = .int i ∧ y = .int j ∧ k i j H2
def tAdd (ta tb : TE) : TE := fun σ H Q => t2I ta tb (fun i j H2 => Q (.int (i + j)) H2) σ H
def tSub (ta tb : TE) : TE := fun σ H Q => t2I ta tb (fun i j H2 => Q (.int (i - j)) H2) σ H
/-- the left factor below 2^64 -/
def tMul (ta tb : TE) : TE := fun σ H Q => t2I ta tb (fun i j H2 => (-(2 ^ 64) < i ∧ i < 2 ^ 64) ∧ Q (.int (i * j)) H2) σ H
variable {a b : Expr} {ta tb : TE} {pos : Pos}
def PC (X : Cx) (op : CmpOp) (a b : Expr) (t : TE) : Prop :=
  ∀ (pins : List (Addr × Obj)) (s : Shared) (σ : St) (H : Hp) (Q : VK), Inv X pins σ H s → t σ H Q →
    wpAny (model X.prog X.w) X.A (eval a X.env) (fun v s₁ => wpAny (model X.prog X.w) X.A (eval b X.env) (fun u s₂ => wpAny (model X.prog X.w) X.A (compareOp op v u) (EP X pins σ Q) X.xe s₂) X.xe s₁) X.xe s
def tCmp (p : Int → Int → Bool) (ta tb : TE) : TE := fun σ H Q => t2I ta tb (fun i j H2 => Q (.bl (p i j)) H2) σ H
abbrev tLt : TE → TE → TE := tCmp fun i j => decide (i < j)
abbrev tLe : TE → TE → TE := tCmp fun i j => decide (i ≤ j)
abbrev tGt : TE → TE → TE := tCmp fun i j => decide (j < i)
abbrev tGe : TE → TE → TE := tCmp fun i j => decide (j ≤ i)
abbrev tEqI : TE → TE → TE := tCmp fun i j => decide (i = j)
abbrev tNeI : TE → TE → TE := tCmp fun i j => !decide (i = j)
/-- is None -/
def tIsN (ta : TE) : TE := fun σ H Q => ta σ H fun x H1 => Q (.bl (decide (x = .non))) H1
def tNotN (ta : TE) : TE := fun σ H Q => ta σ H fun x H1 => Q (.bl (!decide (x = .non))) H1
/-- a comparison as a value, as a test -/
def tB (t : TE) : TT := fun σ H Q => t σ H fun x H1 => ∃ c, x = .bl c ∧ Q c H1
variable {tA tB' : TT} {rest : List Expr}
abbrev tAnd (t u : TT) : TT := fun σ H Q => t σ H fun c H1 => if c = true then u σ H1 Q else Q false H1
abbrev tOr (t u : TT) : TT := fun σ H Q => t σ H fun c H1 => if c = true then Q true H1 else u σ H1 Q
abbrev tNot (t : TT) : TT := fun σ H Q => t σ H fun c H1 => Q (!c) H1
theorem pw_and1 (ha : PT X a tA) : PW X (.BoolOp .And [a] pos) tA := by
  intro wh pins s σ H Q I h
  refine isTrue_and (thn (ha pins s σ H Q I h) fun c s1 e => ?_)
  cases c with
  | true => exact isTrue_and_nil e
  | false => exact e
theorem pw_or1 (ha : PT X a tA) : PW X (.BoolOp .Or [a] pos) tA := by
  intro wh pins s σ H Q I h
  refine isTrue_or (thn (ha pins s σ H Q I h) fun c s1 e => ?_)
  cases c with
  | false => exact isTrue_or_nil e
  | true => exact e
theorem pw_and (ha : PT X a tA) (hb : PW X (.BoolOp .And (b :: rest) pos) tB') : PW X (.BoolOp .And (a :: b :: rest) pos) (tAnd tA tB') := by
  intro wh pins s σ H Q I h
  refine isTrue_and (thn (ha pins s σ H _ I h) fun c s1 ⟨H1, I1, q1⟩ => ?_)
  cases c with
  | true => exact hb wh pins s1 σ H1 Q I1 q1
  | false => exact ⟨H1, I1, q1⟩
theorem pw_or (ha : PT X a tA) (hb : PW X (.BoolOp .Or (b :: rest) pos) tB') : PW X (.BoolOp .Or (a :: b :: rest) pos) (tOr tA tB') := by
  intro wh pins s σ H Q I h
  refine isTrue_or (thn (ha pins s σ H _ I h) fun c s1 ⟨H1, I1, q1⟩ => ?_)
  cases c with
  | true => exact ⟨H1, I1, q1⟩
  | false => exact hb wh pins s1 σ H1 Q I1 q1
theorem pt_not (ha : PT X a tA) : PT X (.UnaryOp .Not a pos) (tNot tA) := by
  intro pins s σ H Q I h
  exact isTrue_not (ha pins s σ H (fun c H1 => Q (!c) H1) I h)
/-- .. as values (bools) -/
abbrev tAndV (ta tb : TE) : TE := fun σ H Q => ta σ H fun x H1 => ∃ c, x = .bl c ∧ if c = true then tb σ H1 Q else Q (.bl false) H1
abbrev tOrV (ta tb : TE) : TE := fun σ H Q => ta σ H fun x H1 => ∃ c, x = .bl c ∧ if c = true then Q (.bl true) H1 else tb σ H1 Q
abbrev tNotV (ta : TE) : TE := fun σ H Q => ta σ H fun x H1 => ∃ c, x = .bl c ∧ Q (.bl (!c)) H1
/-- a if t else b -/
def tIf (t : TT) (ta tb : TE) : TE := fun σ H Q => t σ H fun c H1 => if c = true then ta σ H1 Q else tb σ H1 Q
theorem pe_ifExp {c : Expr} (hc : PT X c tA) (ha : PE X a ta) (hb : PE X b tb) : PE X (.IfExp c a b pos) (tIf tA ta tb) := by
  intro pins s σ H Q I h
  refine wpAny_IfExp (thn (hc pins s σ H _ I h) fun d s1 ⟨H1, I1, q1⟩ => ?_)
  cases d with
  | true => exact ha pins s1 σ H1 Q I1 q1
  | false => exact hb pins s1 σ H1 Q I1 q1
end
end L2

namespace L2
open PySem PySem.Spec PyProof.Rows

def SqL (K : PySem.W.Frag) (H : Hp) (a : Addr) (xs : List V) : Prop :=
  Rd H a (.lst xs) ∨
    ∃ (o : Obj) (its : Array Value) (n : Nat), K.lookup a = some o ∧ o.cls = .type "list" ∧ o.dict = none ∧ o.data = .seq its n ∧ its.size ≤ sizeLine ∧ Vals xs its.toList
def SqT (K : PySem.W.Frag) (H : Hp) (a : Addr) (xs : List V) : Prop :=
  Rd H a (.tup xs) ∨
    ∃ (o : Obj) (its : Array Value) (n : Nat), K.lookup a = some o ∧ o.cls = .type "tuple" ∧ o.data = .seq its n ∧ its.size ≤ sizeLine ∧ Vals xs its.toList
def absV : Value → Option V
  | .none => some .non
  | .bool b => some (.bl b)
  | .int i _ => some (.int i)
  | .str x _ => some (.str x)
  | .bytes b _ => some (.byt b)
  | .float b _ => some (.flt b)
  | .ref a => some (.ref a)
  | .type n => some (.ty n)
  | _ => none
theorem RelV.abs {x : V} {u : Value} (r : RelV x u) : absV u = some x := by
  cases x with
  | non => cases r; rfl
  | bl _ => cases r; rfl
  | int _ => obtain ⟨t, rfl⟩ := r; rfl
  | str _ => obtain ⟨t, rfl⟩ := r; rfl
  | byt _ => obtain ⟨t, rfl⟩ := r; rfl
  | flt _ => obtain ⟨t, rfl⟩ := r; rfl
  | ref _ => cases r; rfl
  | ty _ => cases r; rfl
theorem RelV.inj {x y : V} {u : Value} (r : RelV x u) (q : RelV y u) : x = y := Option.some.inj (r.abs.symm.trans q.abs)
theorem Vals.inj : ∀ {xs ys : List V} {us : List Value}, Vals xs us → Vals ys us → xs = ys
  | _, _, _, .nil, .nil => rfl
  | _, _, _, .cons r t, .cons r' t' => by rw [r.inj r', Vals.inj t t']
section
variable {X : Cx} {pins : List (Addr × Obj)} {σ : St} {H : Hp} {s : Shared} {a : Addr} {xs ys : List V}
theorem SqL.of {K : PySem.W.Frag} (h : H a = some (.lst xs)) : SqL K H a xs := .inl (.inl h)
theorem SqT.of {K : PySem.W.Frag} (h : H a = some (.tup xs)) : SqT K H a xs := .inl (.inl h)
theorem Inv.list (I : Inv X pins σ H s) (h : SqL X.K H a xs) : ∃ its : List Value, Vals xs its ∧ PlainL s.heap a its.toArray ∧ xs.length ≤ sizeLine := by
  rcases h with h | ⟨o, its, n, hk, hc, hd, hs, hz, r⟩
  · obtain ⟨z, its, n, r, e⟩ := h.ok I.hok
    exact ⟨its, r, ⟨_, n, e, rfl, rfl, rfl⟩, z⟩
  · refine ⟨its.toList, r, ⟨o, n, I.kIn a o hk, hc, hd, by simpa using hs⟩, ?_⟩
    have e := r.length
    simp only [Array.length_toList] at e
    omega
theorem Inv.tuple (I : Inv X pins σ H s) (h : SqT X.K H a xs) : ∃ its : List Value, Vals xs its ∧ IsTup s.heap a its.toArray ∧ xs.length ≤ sizeLine := by
  rcases h with h | ⟨o, its, n, hk, hc, hs, hz, r⟩
  · obtain ⟨z, its, r, p⟩ := h.ok I.hok
    exact ⟨its, r, p, z⟩
  · refine ⟨its.toList, r, ⟨o, I.kIn a o hk, hc, n, by simpa using hs⟩, ?_⟩
    have e := r.length
    simp only [Array.length_toList] at e
    omega
theorem Inv.list_inj (I : Inv X pins σ H s) (h : SqL X.K H a xs) (h' : SqL X.K H a ys) : xs = ys := by
  obtain ⟨its, r, ⟨o, n, e, _, _, d⟩, _⟩ := I.list h
  obtain ⟨its', r', ⟨o', n', e', _, _, d'⟩, _⟩ := I.list h'
  rw [e] at e'; cases e'
  rw [d] at d'
  injection d' with d1 _
  have : its = its' := by simpa using congrArg Array.toList d1
  subst this
  exact r.inj r'
theorem Inv.tuple_inj (I : Inv X pins σ H s) (h : SqT X.K H a xs) (h' : SqT X.K H a ys) : xs = ys := by
  obtain ⟨its, r, ⟨o, e, _, n, d⟩, _⟩ := I.tuple h
  obtain ⟨its', r', ⟨o', e', _, n', d'⟩, _⟩ := I.tuple h'
  rw [e] at e'; cases e'
  rw [d] at d'
  injection d' with d1 _
  have : its = its' := by simpa using congrArg Array.toList d1
  subst this
  exact r.inj r'
end

abbrev Cx.wish (X : Cx) (E : Value → Shared → Prop) : Cx := { X with xe := E }
/-- no exception leaves -/
abbrev Cx.nox (X : Cx) : Cx := X.wish fun _ _ => False
theorem Cx.Ok.wish {X : Cx} (ok : X.Ok) (E : Value → Shared → Prop) : (X.wish E).Ok :=
  ⟨ok.mod, ok.kind, ok.glob, ok.blt, ok.above, ok.inj, ok.has, ok.cab, ok.hd, ok.frames, ok.stk, ok.exf, ok.bs, ok.bsz, ok.noex, ok.exfs, ok.funs, ok.frf⟩
theorem Cx.Ok.unwish {X : Cx} {E : Value → Shared → Prop} (ok : (X.wish E).Ok) : X.Ok :=
  ⟨ok.mod, ok.kind, ok.glob, ok.blt, ok.above, ok.inj, ok.has, ok.cab, ok.hd, ok.frames, ok.stk, ok.exf, ok.bs, ok.bsz, ok.noex, ok.exfs, ok.funs, ok.frf⟩
section
variable {X : Cx} {pins : List (Addr × Obj)} {σ : St} {H : Hp} {s : Shared} {E : Value → Shared → Prop}
theorem Inv.wish (I : Inv X pins σ H s) (E : Value → Shared → Prop) : Inv (X.wish E) pins σ H s := ⟨I.ok.wish E, I.os, I.bare, I.base, I.loc, I.cell, I.free, I.freeC, I.pin, I.hok, I.len⟩
theorem Inv.unwish (I : Inv (X.wish E) pins σ H s) : Inv X pins σ H s := ⟨I.ok.unwish, I.os, I.bare, I.base, I.loc, I.cell, I.free, I.freeC, I.pin, I.hok, I.len⟩
theorem SP.unwish {D : Ends} {f : Flow} {s' : Shared} (h : SP (X.wish E) pins D f s') : SP X pins D f s' := by
  cases f with
  | next => obtain ⟨σ', H', I, q⟩ := h; exact ⟨σ', H', I.unwish, q⟩
  | brk => obtain ⟨σ', H', I, q⟩ := h; exact ⟨σ', H', I.unwish, q⟩
  | cont => obtain ⟨σ', H', I, q⟩ := h; exact ⟨σ', H', I.unwish, q⟩
  | ret u => obtain ⟨v, σ', H', I, r, q⟩ := h; exact ⟨v, σ', H', I.unwish, r, q⟩
theorem PE.nox {e : Expr} {t : TE} (h : PE X.nox e t) : PE X e t := fun pins s σ H Q I hw =>
  wpAny_mono (h pins s σ H Q (I.wish _) hw) (fun _ _ ⟨v, H', I', r, q⟩ => ⟨v, H', I'.unwish, r, q⟩) fun _ _ z => False.elim z
theorem PT.nox {e : Expr} {t : TT} (h : PT X.nox e t) : PT X e t := fun pins s σ H Q I hw =>
  wpAny_mono (h pins s σ H Q (I.wish _) hw) (fun _ _ ⟨H', I', q⟩ => ⟨H', I'.unwish, q⟩) fun _ _ z => False.elim z
theorem PSs.nox {st : List Stmt} {t : TS} (h : PSs X.nox st t) : PSs X st t := fun pins s σ H D I hw =>
  wpAny_mono (h pins s σ H D (I.wish _) hw) (fun _ _ q => q.unwish) fun _ _ z => False.elim z
end

section
variable {X : Cx} {st : Stmt} {rest : List Stmt} {t u : TS} {e : Expr} {te : TE} {pos : Pos}
abbrev tNext : TS := fun D σ H => D.nx σ H
abbrev tSeq (t u : TS) : TS := fun D σ H => t { D with nx := u D } σ H
theorem pss_nil : PSs X [] tNext := fun _ _ σ H _ I h => wpAny_execs_nil ⟨σ, H, I, h⟩
theorem pss_cons (h1 : PS X st t) (h2 : PSs X rest u) : PSs X (st :: rest) (tSeq t u) := by
  intro pins s σ H D I h
  refine wpAny_execs_cons (thn (h1 pins s σ H { D with nx := u D } I h) fun f s1 q => ?_)
  cases f with
  | next =>
    obtain ⟨σ', H', I', q⟩ := q
    exact h2 pins s1 σ' H' D I' q
  | ret v => exact q
  | brk => exact q
  | cont => exact q
def tBreak : TS := fun D σ H => D.bk σ H
def tCont : TS := fun D σ H => D.ct σ H
/-- in a def's body nothing is shown -/
theorem Inv.quiet {pins : List (Addr × Obj)} {σ : St} {H : Hp} {s : Shared} (I : Inv X pins σ H s) : interactive X.env = false := by simp [interactive, I.ok.kind]
/-- an expression whose value is dropped -/
abbrev tDrop (te : TE) : TS := fun D σ H => te σ H fun _ H1 => D.nx σ H1
theorem ps_expr (he : PE X e te) (hs : swapsWith e none pos.line X.env = pure false := by rfl) : PS X (.Expr e pos) (tDrop te) := by
  intro pins s σ H D I h
  exact wpAny_Expr_any (thn (he pins s σ H _ I h) fun v s1 ⟨x, H1, I1, r1, q1⟩ => ⟨σ, H1, I1, q1⟩) I.quiet hs
abbrev tRet (te : TE) : TS := fun D σ H => te σ H D.rt
theorem ps_ret (he : PE X e te) : PS X (.Return (some e) pos) (tRet te) := by
  intro pins s σ H D I h
  exact wpAny_Return_some (thn (he pins s σ H _ I h) fun v s1 ⟨x, H1, I1, r1, q1⟩ => ⟨x, σ, H1, I1, r1, q1⟩)
def tRetN : TS := fun D _ H => D.rt .non H
abbrev tIfS (c : TT) (t u : TS) : TS := fun D σ H => c σ H fun b H1 => if b = true then t D σ H1 else u D σ H1
theorem ps_if {c : Expr} {a b : List Stmt} {tc : TT} (hc : PT X c tc) (ha : PSs X a t) (hb : PSs X b u) : PS X (.If c a b pos) (tIfS tc t u) := by
  intro pins s σ H D I h
  refine wpAny_If (thn (hc pins s σ H _ I h) fun d s1 ⟨H1, I1, q1⟩ => ?_)
  cases d with
  | true => exact ha pins s1 σ H1 D I1 q1
  | false => exact hb pins s1 σ H1 D I1 q1
/-- code that the proof never comes to -/
def tNever : TS := fun _ _ _ => False
end

abbrev TG := V → St → Hp → (St → Hp → Prop) → Prop
abbrev TGs := List V → St → Hp → (St → Hp → Prop) → Prop
def PG (X : Cx) (target : Expr) (t : TG) : Prop :=
  ∀ (pins : List (Addr × Obj)) (s : Shared) (σ : St) (H : Hp) (v : V) (u : Value) (Q : St → Hp → Prop), Inv X pins σ H s → RelV v u → t v σ H Q →
    wpAny (model X.prog X.w) X.A (assign target X.env u) (fun _ s' => ∃ σ' H', Inv X pins σ' H' s' ∧ Q σ' H') X.xe s
/-- several targets, one after another -/
def PGs (X : Cx) (ts : List Expr) (t : TGs) : Prop :=
  ∀ (pins : List (Addr × Obj)) (s : Shared) (σ : St) (H : Hp) (vs : List V) (us : List Value) (Q : St → Hp → Prop), Inv X pins σ H s → Vals vs us → t vs σ H Q →
    wpAny (model X.prog X.w) X.A (assignInOrder ((assignEach ts X.env).map (·.2)) us) (fun _ s' => ∃ σ' H', Inv X pins σ' H' s' ∧ Q σ' H') X.xe s
/-- o[i] = v, by values -/
abbrev TSet := V → V → V → Hp → (Hp → Prop) → Prop
def PSet (X : Cx) (t : TSet) : Prop :=
  ∀ (pins : List (Addr × Obj)) (s : Shared) (σ : St) (H : Hp) (o i v : V) (ov iv u : Value) (Q : Hp → Prop), Inv X pins σ H s → RelV o ov → RelV i iv → RelV v u → t o i v H Q →
    wpAny (model X.prog X.w) X.A (setItem ov iv u) (fun _ s' => ∃ H', Inv X pins σ H' s' ∧ Q H') X.xe s
/-- a op= b, by values -/
abbrev TIp := V → V → Hp → VK → Prop
def PIp (X : Cx) (op : Operator) (t : TIp) : Prop :=
  ∀ (pins : List (Addr × Obj)) (s : Shared) (σ : St) (H : Hp) (x y : V) (v u : Value) (Q : VK), Inv X pins σ H s → RelV x v → RelV y u → t x y H Q →
    wpAny (model X.prog X.w) X.A (inplaceOp op v u) (EP X pins σ Q) X.xe s
section
variable {X : Cx} {pos : Pos}
abbrev gName (i : Nat) : TG := fun v σ H Q => Q (σ.set i (some v)) H
theorem pg_name {i : Nat} {x : Str} (hN : X.N.Nodup) (hi : X.N[i]? = some x) (hx : Loc X.env.scope x) (hf : X.fn x = true ∨ X.env.scope.names.lookup x = some .local := by first | exact .inl rfl | exact .inr rfl | assumption) : PG X (.Name x pos) (gName i) := by
  intro pins s σ H v u Q I r h
  exact wpAny_assign_Name (store_ok I hN hi hx r (fun s' I' => ⟨_, H, I', h⟩) hf)
def gNil : TGs := fun vs σ H Q => vs = [] ∧ Q σ H
def gCons (t : TG) (u : TGs) : TGs := fun vs σ H Q => ∃ v r, vs = v :: r ∧ t v σ H fun σ' H' => u r σ' H' Q
theorem pgs_nil : PGs X [] gNil := by
  intro pins s σ H vs us Q I r h
  obtain ⟨e, h⟩ := h
  subst e
  cases r
  exact assignInOrder_nil ⟨σ, H, I, h⟩
theorem pgs_cons {e : Expr} {es : List Expr} {t : TG} {u : TGs} (h1 : PG X e t) (h2 : PGs X es u)
    (hs : (assignEach (e :: es) X.env).map (·.2) = assign e X.env :: (assignEach es X.env).map (·.2) := by rfl) : PGs X (e :: es) (gCons t u) := by
  intro pins s σ H vs us Q I r h
  obtain ⟨v, vr, e1, h⟩ := h
  subst e1
  cases r with
  | cons r rr =>
    rw [hs]
    refine assignInOrder_cons (thn (h1 pins s σ H _ _ _ I r h) fun _ s1 ⟨σ1, H1, I1, q1⟩ => ?_)
    exact h2 pins s1 σ1 H1 _ _ Q I1 rr q1
/-- (a, b, ..) = a tuple of that length -/
def gTup (K : PySem.W.Frag) (n : Nat) (t : TGs) : TG := fun v σ H Q => ∃ a xs, v = .ref a ∧ SqT K H a xs ∧ xs.length = n ∧ t xs σ H Q
theorem pg_tup {es : List Expr} {k : Nat} {t : TGs} {n : Nat} (hc : X.calm = true) (h : PGs X es t)
    (hn : (assignEach es X.env).length = n := by rfl) (hst : (assignEach es X.env).findIdx? (·.1) = none := by rfl) : PG X (.Tuple es k pos) (gTup X.K n t) := by
  intro pins s σ H v u Q I r hw
  obtain ⟨a, xs, e1, hq, hl, hw⟩ := hw
  subst e1
  cases r
  obtain ⟨its, rv, ht, hz⟩ := I.tuple hq
  refine assign_Tuple_tuple (I.ok.hd hc) ht (by simp [hn, ← hl, rv.length]) hst fun h' hx => ?_
  have I1 : Inv X pins σ H { s with heap := h' } := I.kept (t' := s.toks) fun b o e => hx b o (Nat.ne_of_lt (Heap.lt_size e)) e
  exact h pins _ σ H xs _ Q I1 (by simpa using rv) hw
/-- o[i] = .. -/
def gSub (to ti : TE) (t : TSet) : TG := fun v σ H Q => to σ H fun o H1 => ti σ H1 fun i H2 => t o i v H2 fun H3 => Q σ H3
/-- target = value -/
abbrev tAsg (te : TE) (g : TG) : TS := fun D σ H => te σ H fun x H1 => g x σ H1 D.nx
theorem ps_asg {tg e : Expr} {te : TE} {g : TG} (he : PE X e te) (hg : PG X tg g) (hs : swapsWithSole [tg] e pos.line X.env = pure false := by rfl) (hw : swappedStores [tg] e X.env = pure none := by rfl)
    (h1 : (assignEach [tg] X.env).map (·.2) = [assign tg X.env] := by rfl) : PS X (.Assign [tg] e pos) (tAsg te g) := by
  intro pins s σ H D I h
  refine wpAny_Assign_stores (thn (he pins s σ H _ I h) fun v s1 ⟨x, H1, I1, r1, q1⟩ => ?_) hs hw
  rw [h1]
  exact thn (hg pins s1 σ H1 x v _ I1 r1 q1) fun _ s2 q => q
/-- name = value -/
theorem ps_set {i : Nat} {x : Str} {e : Expr} {te : TE} {pos' : Pos} (hN : X.N.Nodup) (hi : X.N[i]? = some x) (hx : Loc X.env.scope x) (he : PE X e te) (hs : swapsWith e (some (.Name x pos')) pos.line X.env = pure false := by rfl) (hf : X.fn x = true ∨ X.env.scope.names.lookup x = some .local := by first | exact .inl rfl | exact .inr rfl | assumption) :
    PS X (.Assign [.Name x pos'] e pos) (tAsg te (gName i)) := by
  intro pins s σ H D I h
  refine wpAny_Assign_Name (thn (he pins s σ H _ I h) fun v s1 ⟨y, H1, I1, r1, q1⟩ => ?_) hs
  exact store_ok I1 hN hi hx r1 (fun s2 I2 => ⟨_, H1, I2, q1⟩) hf
/-- a, b = x, y with plain local names: stored from the right; the pair itself is not tracked (the opening rows as in PyProof/Rows/TupAssign.lean:23) -/
def tPar (i j : Nat) (ta : TA) : TS := fun D σ H => ta σ H fun vs H1 => ∃ v w, vs = [v, w] ∧ D.nx ((σ.set i (some v)).set j (some w)) H1
/-- name op= e -/
def tAug (i : Nat) (te : TE) (ti : TIp) : TS := fun D σ H => ∃ x, σ[i]? = some (some x) ∧ te σ H fun y H1 => ti x y H1 fun z H2 => D.nx (σ.set i (some z)) H2
/-- o[i] op= e -/
def tAugS (to ti te : TE) (tget : V → V → Hp → VK → Prop) (tip : TIp) (tset : TSet) : TS := fun D σ H => to σ H fun o H1 => ti σ H1 fun i H2 => tget o i H2 fun x H3 => te σ H3 fun y H4 => tip x y H4 fun z H5 => tset o i z H5 fun H6 => D.nx σ H6
/-- o[i], by values -/
def PGet (X : Cx) (t : V → V → Hp → VK → Prop) : Prop :=
  ∀ (pins : List (Addr × Obj)) (s : Shared) (σ : St) (H : Hp) (o i : V) (ov iv : Value) (Q : VK), Inv X pins σ H s → RelV o ov → RelV i iv → t o i H Q →
    wpAny (model X.prog X.w) X.A (getItem ov iv) (EP X pins σ Q) X.xe s
/-- ints -/
def ipI (f : Int → Int → Int) : TIp := fun x y H Q => ∃ i j, x = .int i ∧ y = .int j ∧ Q (.int (f i j)) H
end

section
variable {X : Cx} {pos : Pos}
/-- the invariant W with its measure -/
def tWhile (c : TT) (tb : TS) : TS := fun D σ H => ∃ W : Nat → St → Hp → Prop, (∃ m, W m σ H) ∧ ∀ m σ H, W m σ H →
  c σ H fun b H1 => if b = true then ∃ N : St → Hp → Prop, (∀ σ' H', N σ' H' → ∃ m', m' < m ∧ W m' σ' H') ∧ tb { D with nx := N, ct := N, bk := D.nx } σ H1 else D.nx σ H1
theorem ps_while {c : Expr} {body : List Stmt} {tc : TT} {tb : TS} (hp : PassesOwn (model X.prog X.w) X.A X.env X.xe) (hc : PT X c tc) (hb : PSs X body tb) : PS X (.While c body [] pos) (tWhile tc tb) := by
  intro pins s σ H D I h
  obtain ⟨W, ⟨m0, w0⟩, turn⟩ := h
  refine wpAny_While (codeAny_whileLoop (fun n s' => ∃ σ' H', Inv X pins σ' H' s' ∧ W n σ' H') ?_ m0 ⟨σ, H, I, w0⟩)
  rintro n s1 ⟨σ1, H1, I1, w1⟩
  refine wpAny_passesOwn hp (thn (hc pins s1 σ1 H1 _ I1 (turn n σ1 H1 w1)) fun b s2 ⟨H2, I2, q2⟩ => ?_)
  cases b with
  | true =>
    obtain ⟨N, hN, q2⟩ := q2
    rw [if_pos rfl]
    refine wpAny_passesOwn hp (thn (hb pins s2 σ1 H2 _ I2 q2) fun f s3 q3 => ?_)
    cases f with
    | next =>
      obtain ⟨σ3, H3, I3, n3⟩ := q3
      obtain ⟨m', hm, w3⟩ := hN σ3 H3 n3
      exact ⟨m', hm, σ3, H3, I3, w3⟩
    | cont =>
      obtain ⟨σ3, H3, I3, n3⟩ := q3
      obtain ⟨m', hm, w3⟩ := hN σ3 H3 n3
      exact ⟨m', hm, σ3, H3, I3, w3⟩
    | brk => exact q3
    | ret v => exact q3
  | false =>
    rw [if_neg Bool.false_ne_true]
    exact wpAny_execs_nil ⟨σ1, H2, I2, q2⟩
end

/-- at turn i: it yields x (the heap may grow), or it stops -/
structure It where
  go : Nat → Hp → Prop
  yld : Nat → Hp → V → Hp → Prop
  stop : Nat → Hp → Prop
/-- the iterator's own objects may turn: they are not the frame's, not pinned, younger than the entry (or a comprehension's own) -/
def FpOk (X : Cx) (pins : List (Addr × Obj)) (H : Hp) (b : Addr) : Prop :=
  H b = none ∧ b ≠ X.env.locals ∧ b ∉ X.fs ∧ (b ∈ X.ex ∨ X.s₀.heap.objs.size ≤ b) ∧ (∀ x c, X.env.cells.lookup x = some c → c ≠ b) ∧ ∀ p ∈ X.pn ++ pins, p.1 ≠ b
theorem Inv.fpOk {X : Cx} {pins : List (Addr × Obj)} {σ : St} {H H' : Hp} {s : Shared} {b : Addr} (I : Inv X pins σ H s) (hb : s.heap.objs.size ≤ b) (hn : H' b = none) : FpOk X pins H' b := by
  refine ⟨hn, Nat.ne_of_gt (Nat.lt_of_lt_of_le I.lt hb), I.nofs hb, .inr (Nat.le_trans I.sz hb), fun x c e z => ?_, fun p hp z => ?_⟩
  · obtain ⟨v, q⟩ := I.cell x c e
    exact absurd (Nat.lt_of_lt_of_le q.lt (by rw [z]; exact hb)) (Nat.lt_irrefl _)
  · exact absurd (Nat.lt_of_lt_of_le (Heap.lt_size (I.pin p hp).1) (by rw [z]; exact hb)) (Nat.lt_irrefl _)
structure Turn (P : Program) (w : World) (K : PySem.W.Frag) (tg : Expr) (J : It) (fp : List Addr) (it : Addr) (tn : Nat → Heap → Prop) : Prop where
  mem : it ∈ fp
  obj : ∀ i h, tn i h → ∀ b ∈ fp, ∃ o, h.get? b = some o ∧ ∀ v, o.data ≠ .cell v
  keep : ∀ i h h', tn i h → (∀ b ∈ fp, ∀ o, h.get? b = some o → h'.get? b = some o) → tn i h'
  item : ∀ (X : Cx), X.prog = P → X.w = w → X.K = K → X.calm = true → ∀ (i : Nat) (pins : List (Addr × Obj)) (s : Shared) (σ : St) (H : Hp) (E : Value → Shared → Prop), Inv X pins σ H s → (∀ b ∈ fp, FpOk X pins H b) → tn i s.heap → J.go i H →
    wpAny (model P w) X.A (pyNext (.ref it)) (fun r s1 => ∃ u, r = some u ∧
      wpAny (model P w) X.A (letOwnedTupleGo tg (.ref it) u) (fun _ s2 => ∃ x H', Inv X pins σ H' s2 ∧ RelV x u ∧ J.yld i H x H' ∧ tn (i + 1) s2.heap ∧ ∀ b ∈ fp, H' b = none) E s1) E s
  done : ∀ (X : Cx), X.prog = P → X.w = w → X.K = K → X.calm = true → ∀ (i : Nat) (pins : List (Addr × Obj)) (s : Shared) (σ : St) (H : Hp) (E : Value → Shared → Prop), Inv X pins σ H s → (∀ b ∈ fp, FpOk X pins H b) → tn i s.heap → J.stop i H →
    wpAny (model P w) X.A (pyNext (.ref it)) (fun r s1 => r = none ∧ Inv X pins σ H s1) E s
  self : ∀ (A : Around) (i : Nat) (s : Shared) (Q : Value → Shared → Prop) (E : Value → Shared → Prop), tn i s.heap → Q (.ref it) s → wpAny (model P w) A (pyIter (.ref it)) Q E s
abbrev TI := St → Hp → (It → Hp → Prop) → Prop
/-- an iterator has come -/
def PIE (X : Cx) (pins : List (Addr × Obj)) (σ : St) (tg : Expr) (R : It → Hp → Prop) (itv : Value) (s2 : Shared) : Prop :=
  ∃ (it : Addr) (fp : List Addr) (tn : Nat → Heap → Prop) (J : It) (H' : Hp), itv = .ref it ∧ Inv X pins σ H' s2 ∧ Turn X.prog X.w X.K tg J fp it tn ∧ tn 0 s2.heap ∧ (∀ b ∈ fp, FpOk X pins H' b) ∧ R J H'
def PI (X : Cx) (tg iter : Expr) (wi : TI) : Prop :=
  ∀ (pins : List (Addr × Obj)) (s : Shared) (σ : St) (H : Hp) (R : It → Hp → Prop), Inv X pins σ H s → wi σ H R →
    wpAny (model X.prog X.w) X.A (eval iter X.env) (fun v s1 => wpAny (model X.prog X.w) X.A (pyIter v) (PIE X pins σ tg R) X.xe s1) X.xe s

/-- the step ahead of the store is nothing for an iterator that keeps no tuple -/
theorem go_of {M : Model} {A : Around} {E : Value → Shared → Prop} {s : Shared} {tg : Expr} {it : Addr} {u : Value} {o : Obj} {n : String} {vs : Array Value} {Q : Unit → Shared → Prop} (ho : s.heap.get? it = some o) (hc : o.cls = .type n) (hd : o.data = .fields vs)
    (hn : ["enumerate", "zip", "dict_itemiterator", "dict_reverseitemiterator", "odict_iterator", "itertools.zip_longest", "itertools.pairwise"].contains n = false) (hQ : Q () s) : wpAny M A (letOwnedTupleGo tg (.ref it) u) Q E s := by
  unfold letOwnedTupleGo
  cases tg <;> first
    | exact wpAny_pure hQ
    | (cases u <;> first
        | exact wpAny_pure hQ
        | (refine wpAny_bind (wpAny_load ho ?_)
           rw [hc, hd]
           show wpAny M A (if (["enumerate", "zip", "dict_itemiterator", "dict_reverseitemiterator", "odict_iterator", "itertools.zip_longest", "itertools.pairwise"].contains n && vs[0]? == some (rawInt _)) = true then _ else _) Q E s
           rw [if_neg (by intro h; rw [hn, Bool.false_and] at h; cases h)]
           exact wpAny_pure hQ))

/-- the list at a, as it stands at each turn (a loop may append to it) -/
def Itl (K : PySem.W.Frag) (a : Addr) : It :=
  ⟨fun i H => ∃ xs x, SqL K H a xs ∧ xs[i]? = some x, fun i H x H' => H' = H ∧ ∀ xs, SqL K H a xs → xs[i]? = some x, fun i H => ∃ xs, SqL K H a xs ∧ xs.length ≤ i⟩
def Itt (K : PySem.W.Frag) (a : Addr) : It :=
  ⟨fun i H => ∃ xs x, SqT K H a xs ∧ xs[i]? = some x, fun i H x H' => H' = H ∧ ∀ xs, SqT K H a xs → xs[i]? = some x, fun i H => ∃ xs, SqT K H a xs ∧ xs.length ≤ i⟩
/-- lo, lo + 1, .. (n of them) -/
def Itr (lo : Int) (n : Nat) : It := ⟨fun i _ => i < n, fun i H x H' => H' = H ∧ x = .int (lo + i), fun i _ => n ≤ i⟩
theorem turn_list {P : Program} {w : World} {K : PySem.W.Frag} {tg : Expr} (a it : Addr) : Turn P w K tg (Itl K a) [it] it (fun i h => h.IsListIter it a i) where
  mem := by simp
  obj := fun i h st b hb => by
    have e : b = it := by simpa using hb
    subst e
    obtain ⟨o, e, c, d⟩ := st
    exact ⟨o, e, fun v z => by rw [d] at z; cases z⟩
  keep := fun i h h' st k => st.at fun o e => k it (by simp) o e
  item := by
    intro X hP hw hK hc i pins s σ H E I hf st hg
    subst hP hw hK
    obtain ⟨xs, x, hq, hx⟩ := hg
    obtain ⟨its, rv, p, hz⟩ := I.list hq
    obtain ⟨u, hu, ru⟩ := rv.get hx
    obtain ⟨f0, f1, f2, f3, f4, f5⟩ := hf it (by simp)
    refine wpAny_pyNext_list_item st p.isList (x := u) (by simpa using hu) fun h' st' sb => ?_
    have I1 : Inv X pins σ H { s with heap := h' } := I.turned (t' := s.toks) (fun b o hb e => (sb.2 b hb).trans e) f0 f1 f3 f4 f5
    obtain ⟨o, e, c, d⟩ := id st'
    exact ⟨u, rfl, go_of (s := { s with heap := h' }) e c d (by decide) ⟨x, H, I1, ru, ⟨rfl, fun ys hy => by rw [I.list_inj hy hq]; exact hx⟩, st', fun b hb => (hf b hb).1⟩⟩
  done := by
    intro X hP hw hK hc i pins s σ H E I hf st hg
    subst hP hw hK
    obtain ⟨xs, hq, hx⟩ := hg
    obtain ⟨its, rv, p, hz⟩ := I.list hq
    obtain ⟨f0, f1, f2, f3, f4, f5⟩ := hf it (by simp)
    have hl := rv.length
    exact wpAny_pyNext_list_end (I.ok.hd hc) st p.isList (by simp; omega) fun h' eb => ⟨rfl, I.turned (t' := s.toks) (fun b o hb e => eb b o hb e) f0 f1 f3 f4 f5⟩
  self := fun _ _ _ _ _ st h => wpAny_pyIter_listiter st h
theorem turn_tuple {P : Program} {w : World} {K : PySem.W.Frag} {tg : Expr} (a it : Addr) : Turn P w K tg (Itt K a) [it] it (fun i h => h.IsTupleIter it a i) where
  mem := by simp
  obj := fun i h st b hb => by
    have e : b = it := by simpa using hb
    subst e
    obtain ⟨o, e, c, d⟩ := st
    exact ⟨o, e, fun v z => by rw [d] at z; cases z⟩
  keep := fun i h h' st k => st.at fun o e => k it (by simp) o e
  item := by
    intro X hP hw hK hc i pins s σ H E I hf st hg
    subst hP hw hK
    obtain ⟨xs, x, hq, hx⟩ := hg
    obtain ⟨its, rv, p, hz⟩ := I.tuple hq
    obtain ⟨u, hu, ru⟩ := rv.get hx
    obtain ⟨f0, f1, f2, f3, f4, f5⟩ := hf it (by simp)
    refine wpAny_pyNext_tuple_item st (show s.heap.IsTuple a its.toArray from p) (x := u) (by simpa using hu) fun h' st' sb => ?_
    have I1 : Inv X pins σ H { s with heap := h' } := I.turned (t' := s.toks) (fun b o hb e => (sb.2 b hb).trans e) f0 f1 f3 f4 f5
    obtain ⟨o, e, c, d⟩ := id st'
    exact ⟨u, rfl, go_of (s := { s with heap := h' }) e c d (by decide) ⟨x, H, I1, ru, ⟨rfl, fun ys hy => by rw [I.tuple_inj hy hq]; exact hx⟩, st', fun b hb => (hf b hb).1⟩⟩
  done := by
    intro X hP hw hK hc i pins s σ H E I hf st hg
    subst hP hw hK
    obtain ⟨xs, hq, hx⟩ := hg
    obtain ⟨its, rv, p, hz⟩ := I.tuple hq
    obtain ⟨f0, f1, f2, f3, f4, f5⟩ := hf it (by simp)
    have hl := rv.length
    exact wpAny_pyNext_tuple_end (I.ok.hd hc) st (show s.heap.IsTuple a its.toArray from p) (by simp; omega) fun h' eb => ⟨rfl, I.turned (t' := s.toks) (fun b o hb e => eb b o hb e) f0 f1 f3 f4 f5⟩
  self := fun _ _ _ _ _ st h => wpAny_pyIter_tupleiter st h
theorem turn_range {P : Program} {w : World} {K : PySem.W.Frag} {tg : Expr} (it : Addr) (lo : Int) (n : Nat) : Turn P w K tg (Itr lo n) [it] it (fun i h => IsRangeIter h it (lo + (i : Nat) * 1) ((n : Int) - (i : Nat)) 1) where
  mem := by simp
  obj := fun i h st b hb => by
    have e : b = it := by simpa using hb
    subst e
    exact ⟨_, st, fun v z => by
      have z' : Data.fields _ = Data.cell v := z
      cases z'⟩
  keep := fun i h h' st k => k it (by simp) _ st
  item := by
    intro X hP hw hK hc i pins s σ H E I hf st hg
    subst hP hw hK
    obtain ⟨f0, f1, f2, f3, f4, f5⟩ := hf it (by simp)
    have W := Walks.range (prog := X.prog) (w := X.w) (I.ok.hd hc) it lo 1 n
    refine W.item i s _ _ hg st fun v h' tk hv st' kk => ?_
    obtain ⟨t, rfl⟩ := hv
    have I1 : Inv X pins σ H { s with heap := h', toks := tk } := I.turned (fun b o hb e => kk b o (by simpa using hb) e) f0 f1 f3 f4 f5
    refine ⟨_, rfl, go_of (s := { s with heap := h', toks := tk }) (n := "range_iterator") st' rfl rfl (by decide) ⟨.int (lo + i), H, I1, ⟨t, ?_⟩, ⟨rfl, rfl⟩, st', fun b hb => (hf b hb).1⟩⟩
    rw [Int.mul_one]
  done := by
    intro X hP hw hK hc i pins s σ H E I hf st hg
    subst hP hw hK
    obtain ⟨f0, f1, f2, f3, f4, f5⟩ := hf it (by simp)
    exact wpAny_pyNext_range_end (I.ok.hd hc) st (by have : n ≤ i := hg; omega) fun h' eb => ⟨rfl, I.turned (t' := s.toks) (fun b o hb e => eb b o hb e) f0 f1 f3 f4 f5⟩
  self := fun _ _ _ _ _ st h => wpAny_pyIter_rangeiter st h
end L2

namespace L2
open PySem PySem.Spec PyProof.Rows
section
variable {X : Cx} {tg : Expr}
def iList (K : PySem.W.Frag) (tl : TE) : TI := fun σ H R => tl σ H fun x H1 => ∃ a, x = .ref a ∧ (∃ xs, SqL K H1 a xs) ∧ R (Itl K a) H1
def iTup (K : PySem.W.Frag) (tl : TE) : TI := fun σ H R => tl σ H fun x H1 => ∃ a, x = .ref a ∧ (∃ xs, SqT K H1 a xs) ∧ R (Itt K a) H1
/-- a range object just made, walked -/
theorem range_it {pins : List (Addr × Obj)} {σ : St} {H : Hp} {s : Shared} {R : It → Hp → Prop} {E : Value → Shared → Prop} {lo hi : Int} {t u v : Tok} {tk : Nat} (I : Inv X pins σ H s) (h1 : -(2 ^ 62) ≤ lo) (h2 : lo < 2 ^ 62) (h3 : -(2 ^ 62) ≤ hi) (h4 : hi < 2 ^ 62)
    (q : R (Itr lo (hi - lo).toNat) H) : wpAny (model X.prog X.w) X.A (pyIter (.ref s.heap.objs.size)) (PIE X pins σ tg R) E { s with heap := s.heap.push { cls := .type "range", data := .fields #[.int lo t, .int hi u, .int 1 v] }, toks := tk } := by
  refine wpAny_pyIter_range (IsRange.new ..) (small_one h1 h2 h3 h4) ?_
  have I1 : Inv X pins σ H { s with heap := s.heap.push { cls := .type "range", data := .fields #[.int lo t, .int hi u, .int 1 v] }, toks := tk } := I.kept fun b o e => Heap.get?_push_of_some _ e
  refine ⟨(s.heap.push { cls := .type "range", data := .fields #[.int lo t, .int hi u, .int 1 v] }).objs.size, [(s.heap.push { cls := .type "range", data := .fields #[.int lo t, .int hi u, .int 1 v] }).objs.size], _, _, H, rfl,
    I1.kept (t' := tk) fun b o e => Heap.get?_push_of_some _ e, turn_range _ lo (hi - lo).toNat, ?_, fun b hb => ?_, q⟩
  · have e1 : lo + ((0 : Nat) : Int) * 1 = lo := by simp
    have e2 : (((hi - lo).toNat : Nat) : Int) - ((0 : Nat) : Int) = Builtin.Range.rangeSize lo hi 1 := by rw [rangeSize_one]; split <;> omega
    show IsRangeIter _ _ (lo + ((0 : Nat) : Int) * 1) ((((hi - lo).toNat : Nat) : Int) - ((0 : Nat) : Int)) 1
    rw [e1, e2]
    exact Heap.get?_push_size _ rfl
  · have e : b = (s.heap.push { cls := .type "range", data := .fields #[.int lo t, .int hi u, .int 1 v] }).objs.size := by simpa using hb
    subst e
    exact I1.fpOk (Nat.le_refl _) (I1.hok.fresh (Nat.le_refl _))
def iRng1 (ta : TA) : TI := fun σ H R => ta σ H fun vs H1 => ∃ j : Int, vs = [.int j] ∧ -(2 ^ 62) ≤ j ∧ j < 2 ^ 62 ∧ R (Itr 0 j.toNat) H1
def iRng2 (ta : TA) : TI := fun σ H R => ta σ H fun vs H1 => ∃ i j : Int, vs = [.int i, .int j] ∧ (-(2 ^ 62) ≤ i ∧ i < 2 ^ 62 ∧ -(2 ^ 62) ≤ j ∧ j < 2 ^ 62) ∧ R (Itr i (j - i).toNat) H1
theorem pi_range1 {a : Expr} {ta : TA} {p pos : Pos} (hg : Gl X "range") (hm : X.mg "range" = none) (ha : PA X [a] ta) (hs : starEach [a] X.env = [(false, eval a X.env)] := by rfl) : PI X tg (.Call (.Name "range" p) [a] [] pos) (iRng1 ta) := by
  intro pins s σ H R I h
  refine Call_ (ld_blt I hg hm boot_range (PyProof.Rows.callWith_type1 (thn (ha pos pins s σ H _ I h) fun us s1 ⟨vs, H1, I1, r1, q1⟩ => ?_) hs rfl))
  obtain ⟨j, e, q1, q2, q⟩ := q1
  subst e
  cases r1 with
  | cons r rr =>
    cases rr
    obtain ⟨t, rfl⟩ := r
    exact call_range_1 (range_it I1 (by omega) (by omega) q1 q2 (by simpa using q))
/-- W: the invariant by the turn and a measure; N: what the body is to reach -/
def tFor (wi : TI) (g : TG) (tb : TS) : TS := fun D σ H => wi σ H fun J H1 => ∃ W : Nat → Nat → St → Hp → Prop, (∃ m, W 0 m σ H1) ∧ ∀ i m σ H, W i m σ H →
  (J.stop i H ∧ D.nx σ H) ∨ (J.go i H ∧ ∃ N : St → Hp → Prop, (∀ σ' H', N σ' H' → ∃ m', m' < m ∧ W (i + 1) m' σ' H') ∧ ∀ x H', J.yld i H x H' → g x σ H' fun σ2 H2 => tb { D with nx := N, ct := N, bk := D.nx } σ2 H2)
/-- the records at fp as they stand -/
def pinsAt (fp : List Addr) (h : Heap) : List (Addr × Obj) := fp.filterMap fun b => (h.get? b).map fun o => (b, o)
theorem mem_pinsAt {fp : List Addr} {h : Heap} {b : Addr} {o : Obj} (hb : b ∈ fp) (e : h.get? b = some o) : (b, o) ∈ pinsAt fp h := List.mem_filterMap.mpr ⟨b, hb, by rw [e]; rfl⟩
theorem of_pinsAt {fp : List Addr} {h : Heap} {p : Addr × Obj} (hp : p ∈ pinsAt fp h) : p.1 ∈ fp ∧ h.get? p.1 = some p.2 := by
  obtain ⟨b, hb, e⟩ := List.mem_filterMap.mp hp
  cases q : h.get? b with
  | none => rw [q] at e; cases e
  | some o =>
    rw [q] at e
    have e' : (b, o) = p := Option.some.inj e
    subst e'
    exact ⟨hb, q⟩
theorem Inv.pinned {pins : List (Addr × Obj)} {σ : St} {H : Hp} {s : Shared} {fp : List Addr} (I : Inv X pins σ H s) (hf : ∀ b ∈ fp, FpOk X pins H b) (ho : ∀ b ∈ fp, ∃ o, s.heap.get? b = some o ∧ ∀ v, o.data ≠ .cell v) : Inv X (pins ++ pinsAt fp s.heap) σ H s :=
  I.pins_of fun p hp => (List.mem_append.mp hp).elim (fun z => I.pin p (List.mem_append_right _ z)) fun z => by
    obtain ⟨hb, e⟩ := of_pinsAt z
    obtain ⟨f0, f1, f2, _⟩ := hf p.1 hb
    obtain ⟨o, e', d⟩ := ho p.1 hb
    rw [e] at e'; cases e'
    exact ⟨e, f0, f1, f2, d⟩
theorem Inv.unpinned {pins pl : List (Addr × Obj)} {σ : St} {H : Hp} {s : Shared} (I : Inv X (pins ++ pl) σ H s) : Inv X pins σ H s := I.pins_of fun p hp => I.pin p (List.mem_append_right _ (List.mem_append_left _ hp))
theorem ps_for {iter : Expr} {body : List Stmt} {wi : TI} {g : TG} {tb : TS} {pos : Pos} (hp : PassesOwn (model X.prog X.w) X.A X.env X.xe) (hc : X.calm = true) (hi : PI X tg iter wi) (hg : PG X tg g) (hb : PSs X body tb)
    (hs : ∀ x, foldedSetIterable iter X.env x = pure x := by intro _; rfl) : PS X (.For tg iter body [] pos) (tFor wi g tb) := by
  intro pins s σ H D I h
  refine wpAny_For (thn (hi pins s σ H _ I h) fun v s1 h1 => thn h1 fun itv s2 h2 => ?_) hs
  obtain ⟨it, fp, tn, J, H2, e, I2, T, st2, f2, W, ⟨m0, w0⟩, turn⟩ := h2
  subst e
  -- what stays true of the iterator's objects through the loop
  have stat : ∀ {H' : Hp}, (∀ b ∈ fp, H' b = none) → ∀ b ∈ fp, FpOk X pins H' b := fun hn b hb => ⟨hn b hb, (f2 b hb).2⟩
  refine codeAny_forLoop_any (fun n s' => ∃ i σ' H', Inv X pins σ' H' s' ∧ tn i s'.heap ∧ (∀ b ∈ fp, H' b = none) ∧ W i n σ' H') ?_ m0 ⟨0, σ, H2, I2, st2, fun b hb => (f2 b hb).1, w0⟩
  rintro n s3 ⟨i, σ3, H3, I3, st3, fr3, w3⟩
  rcases turn i n σ3 H3 w3 with ⟨stop, qn⟩ | ⟨go, N, hN, step⟩
  · refine wpAny_passesOwn hp (thn (T.done X rfl rfl rfl hc i pins s3 σ3 H3 X.xe I3 (stat fr3) st3 stop) fun r s4 ⟨hr, I4⟩ => ?_)
    subst hr
    exact wpAny_execs_nil ⟨σ3, H3, I4, qn⟩
  · refine wpAny_passesOwn hp (thn (T.item X rfl rfl rfl hc i pins s3 σ3 H3 X.xe I3 (stat fr3) st3 go) fun r s4 ⟨u, hr, h4⟩ => ?_)
    subst hr
    refine wpAny_passesOwn hp (thn h4 fun _ s5 ⟨x, H5, I5, r5, y5, st5, fr5⟩ => ?_)
    have I5' := I5.pinned (stat fr5) (T.obj _ _ st5)
    refine wpAny_passesOwn hp (thn (hg _ s5 σ3 H5 x u _ I5' r5 (step x H5 y5)) fun _ s6 ⟨σ6, H6, I6, q6⟩ => ?_)
    refine wpAny_passesOwn hp (thn (hb _ s6 σ6 H6 _ I6 q6) fun f s7 q7 => ?_)
    have again : ∀ {σ7 : St} {H7 : Hp}, Inv X (pins ++ pinsAt fp s5.heap) σ7 H7 s7 → N σ7 H7 → ∃ m, m < n ∧ ∃ i σ' H', Inv X pins σ' H' s7 ∧ tn i s7.heap ∧ (∀ b ∈ fp, H' b = none) ∧ W i m σ' H' := fun {σ7 H7} I7 n7 => by
      obtain ⟨m', hm, w7⟩ := hN σ7 H7 n7
      refine ⟨m', hm, i + 1, σ7, H7, I7.unpinned, T.keep _ _ _ st5 fun b hb o e => (I7.pin (b, o) (List.mem_append_right _ (List.mem_append_right _ (mem_pinsAt hb e)))).1, fun b hb => ?_, w7⟩
      obtain ⟨o, e, d⟩ := T.obj _ _ st5 b hb
      exact (I7.pin (b, o) (List.mem_append_right _ (List.mem_append_right _ (mem_pinsAt hb e)))).2.1
    cases f with
    | next => obtain ⟨σ7, H7, I7, n7⟩ := q7; exact again I7 n7
    | cont => obtain ⟨σ7, H7, I7, n7⟩ := q7; exact again I7 n7
    | brk => obtain ⟨σ7, H7, I7, q7⟩ := q7; exact ⟨σ7, H7, I7.unpinned, q7⟩
    | ret v => obtain ⟨x7, σ7, H7, I7, r7, q7⟩ := q7; exact ⟨x7, σ7, H7, I7.unpinned, r7, q7⟩
end

end L2

namespace L2
open PySem PySem.Spec PyProof.Rows

abbrev R2 := V → V → Hp → VK → Prop
/-- a two-place operation on values: f is binaryOp op, inplaceOp op or compareOp op -/
def OpR (X : Cx) (f : Value → Value → Sem Value) (r : R2) : Prop :=
  ∀ (pins : List (Addr × Obj)) (s : Shared) (σ : St) (H : Hp) (x y : V) (v u : Value) (Q : VK), Inv X pins σ H s → RelV x v → RelV y u → r x y H Q →
    wpAny (model X.prog X.w) X.A (f v u) (EP X pins σ Q) X.xe s
/-- a one-place operation -/
def UnR (X : Cx) (f : Value → Sem Value) (r : V → Hp → VK → Prop) : Prop :=
  ∀ (pins : List (Addr × Obj)) (s : Shared) (σ : St) (H : Hp) (x : V) (v : Value) (Q : VK), Inv X pins σ H s → RelV x v → r x H Q →
    wpAny (model X.prog X.w) X.A (f v) (EP X pins σ Q) X.xe s
/-- a call of a value that is known (a builtin, a type) with values -/
def CallR (X : Cx) (f : Value) (r : List V → Hp → VK → Prop) : Prop :=
  ∀ (pins : List (Addr × Obj)) (s : Shared) (σ : St) (H : Hp) (xs : List V) (us : List Value) (Q : VK), Inv X pins σ H s → Vals xs us → r xs H Q →
    wpAny (model X.prog X.w) X.A (call f us) (EP X pins σ Q) X.xe s
/-- a value's truth -/
def TruR (X : Cx) (r : V → Hp → (Bool → Hp → Prop) → Prop) : Prop :=
  ∀ (pins : List (Addr × Obj)) (s : Shared) (σ : St) (H : Hp) (x : V) (v : Value) (Q : Bool → Hp → Prop), Inv X pins σ H s → RelV x v → r x H Q →
    wpAny (model X.prog X.w) X.A (truthy v) (TP X pins σ Q) X.xe s

abbrev tOp (r : R2) (ta tb : TE) : TE := fun σ H Q => ta σ H fun x H1 => tb σ H1 fun y H2 => r x y H2 Q
abbrev tUn (r : V → Hp → VK → Prop) (ta : TE) : TE := fun σ H Q => ta σ H fun x H1 => r x H1 Q
/-- ints in, under C, and a value out -/
def rI (C : Int → Int → Prop) (g : Int → Int → V) : R2 := fun x y H Q => ∃ i j, x = .int i ∧ y = .int j ∧ C i j ∧ Q (g i j) H
def rI0 (g : Int → Int → V) : R2 := fun x y H Q => ∃ i j, x = .int i ∧ y = .int j ∧ Q (g i j) H
def rU (g : Int → V) : V → Hp → VK → Prop := fun x H Q => ∃ i, x = .int i ∧ Q (g i) H

section
variable {X : Cx} {a b c : Expr} {ta tb tc : TE} {pos : Pos}

theorem binT (ha : PE X a ta) (hb : PE X b tb) {pins : List (Addr × Obj)} {s : Shared} {σ : St} {H : Hp} {R : V → V → Hp → Prop} (I : Inv X pins σ H s)
    (h : ta σ H fun x H1 => tb σ H1 fun y H2 => R x y H2) {Q : Value → Shared → Prop} {f : Value → Value → Sem Value}
    (hf : ∀ v u s2 x y H2, Inv X pins σ H2 s2 → RelV x v → RelV y u → R x y H2 → wpAny (model X.prog X.w) X.A (f v u) Q X.xe s2) :
    wpAny (model X.prog X.w) X.A (eval a X.env) (fun v s₁ => wpAny (model X.prog X.w) X.A (eval b X.env) (fun u s₂ => wpAny (model X.prog X.w) X.A (f v u) Q X.xe s₂) X.xe s₁) X.xe s := by
  refine thn (ha pins s σ H _ I h) fun v s1 ⟨x, H1, I1, r1, q1⟩ => ?_
  refine thn (hb pins s1 σ H1 _ I1 q1) fun u s2 ⟨y, H2, I2, r2, q2⟩ => ?_
  exact hf v u s2 x y H2 I2 r1 r2 q2

theorem pe_op {op : Operator} {r : R2} (ho : OpR X (binaryOp op) r) (ha : PE X a ta) (hb : PE X b tb) : PE X (.BinOp a op b pos) (tOp r ta tb) := by
  intro pins s σ H Q I h
  exact wpAny_BinOp (binT ha hb I h fun v u s2 x y H2 I2 rx ry q => ho pins s2 σ H2 x y v u Q I2 rx ry q)
theorem pe_un {op : UnaryOp} {r : V → Hp → VK → Prop} (ho : UnR X (unaryOp op) r) (ha : PE X a ta) : PE X (.UnaryOp op a pos) (tUn r ta) := by
  intro pins s σ H Q I h
  exact UnaryOp_ (thn (ha pins s σ H _ I h) fun v s1 ⟨x, H1, I1, r1, q1⟩ => ho pins s1 σ H1 x v Q I1 r1 q1)
theorem opI {f : Value → Value → Sem Value} {C : Int → Int → Prop} {g : Int → Int → Int}
    (rule : ∀ (i j : Int) (t u : Tok) (s : Shared) (Q : Value → Shared → Prop) (E : Value → Shared → Prop), C i j → Q (.int (g i j) s.toks) { s with toks := s.toks + 1 } → wpAny (model X.prog X.w) X.A (f (.int i t) (.int j u)) Q E s) :
    OpR X f (rI C fun i j => .int (g i j)) := by
  intro pins s σ H x y v u Q I rx ry h
  obtain ⟨i, j, rfl, rfl, hc, q⟩ := h
  obtain ⟨t, rfl⟩ := rx
  obtain ⟨t', rfl⟩ := ry
  exact rule i j t t' s _ _ hc ⟨.int (g i j), H, I.tok _, ⟨_, rfl⟩, q⟩
theorem opI0 {f : Value → Value → Sem Value} {g : Int → Int → Int}
    (rule : ∀ (i j : Int) (t u : Tok) (s : Shared) (Q : Value → Shared → Prop) (E : Value → Shared → Prop), Q (.int (g i j) s.toks) { s with toks := s.toks + 1 } → wpAny (model X.prog X.w) X.A (f (.int i t) (.int j u)) Q E s) :
    OpR X f (rI0 fun i j => .int (g i j)) := by
  intro pins s σ H x y v u Q I rx ry h
  obtain ⟨i, j, rfl, rfl, q⟩ := h
  obtain ⟨t, rfl⟩ := rx
  obtain ⟨t', rfl⟩ := ry
  exact rule i j t t' s _ _ ⟨.int (g i j), H, I.tok _, ⟨_, rfl⟩, q⟩
theorem opB0 {f : Value → Value → Sem Value} {g : Int → Int → Bool}
    (rule : ∀ (i j : Int) (t u : Tok) (s : Shared) (Q : Value → Shared → Prop) (E : Value → Shared → Prop), Q (.bool (g i j)) s → wpAny (model X.prog X.w) X.A (f (.int i t) (.int j u)) Q E s) :
    OpR X f (rI0 fun i j => .bl (g i j)) := by
  intro pins s σ H x y v u Q I rx ry h
  obtain ⟨i, j, rfl, rfl, q⟩ := h
  obtain ⟨t, rfl⟩ := rx
  obtain ⟨t', rfl⟩ := ry
  exact rule i j t t' s _ _ ⟨.bl (g i j), H, I, rfl, q⟩

def CDiv (i j : Int) : Prop := 0 < j ∧ j < 1073741824
def CDivN (i j : Int) : Prop := j ≠ 0 ∧ j.natAbs < 1073741824
def CPow (i j : Int) : Prop := 0 ≤ j ∧ j ≤ 1000000 ∧ i.natAbs < 2 ^ 64
def CMul (i j : Int) : Prop := (-(2 ^ 64) < i ∧ i < 2 ^ 64) ∨ (-(2 ^ 64) < j ∧ j < 2 ^ 64)
theorem CMul.ok {i j : Int} (h : CMul i j) : IntMulOk i j := by
  rcases h with ⟨h1, h2⟩ | ⟨h1, h2⟩
  · exact .of_left (intBits_le_64 h1 h2)
  · exact .of_right (intBits_le_64 h1 h2)
theorem op_add : OpR X (binaryOp .Add) (rI0 fun i j => .int (i + j)) := opI0 fun _ _ _ _ _ _ _ q => add_int q
theorem op_sub : OpR X (binaryOp .Sub) (rI0 fun i j => .int (i - j)) := opI0 fun _ _ _ _ _ _ _ q => sub_int q
theorem op_mul : OpR X (binaryOp .Mult) (rI CMul fun i j => .int (i * j)) := opI fun _ _ _ _ _ _ _ hc q => mul_int q hc.ok
/-- // by a positive divisor -/
theorem op_fdiv : OpR X (binaryOp .FloorDiv) (rI CDiv fun i j => .int (i / j)) := opI fun i j _ _ _ _ _ hc q => by
  have h1 : (0 : Int) < j := hc.1
  have h2 : j < 1073741824 := hc.2
  exact floordiv_int (by omega) (by rw [Int.fdiv_eq_ediv_of_nonneg i (by omega)]; exact q) (.inl (PyProof.noPylong_small (by omega)))
/-- % by a positive divisor of any size -/
theorem op_mod : OpR X (binaryOp .Mod) (rI (fun _ j => 0 < j) fun i j => .int (i % j)) := opI fun i j _ _ _ _ _ hc q => by
  have h1 : (0 : Int) < j := hc
  exact mod_int' (by omega) (by rw [Int.fmod_eq_emod_of_nonneg i (by omega)]; exact q)
theorem op_pow : OpR X (binaryOp .Pow) (rI CPow fun i j => .int (i ^ j.toNat)) := opI fun _ _ _ _ _ _ _ hc q => pow_int_small hc.1 hc.2.1 hc.2.2 q
theorem unI {f : Value → Sem Value} {g : Int → Int}
    (rule : ∀ (i : Int) (t : Tok) (s : Shared) (Q : Value → Shared → Prop) (E : Value → Shared → Prop), Q (.int (g i) s.toks) { s with toks := s.toks + 1 } → wpAny (model X.prog X.w) X.A (f (.int i t)) Q E s) :
    UnR X f (rU fun i => .int (g i)) := by
  intro pins s σ H x v Q I rx h
  obtain ⟨i, rfl, q⟩ := h
  obtain ⟨t, rfl⟩ := rx
  exact rule i t s _ _ ⟨.int (g i), H, I.tok _, ⟨_, rfl⟩, q⟩
theorem un_neg : UnR X (unaryOp .USub) (rU fun i => .int (-i)) := unI fun _ _ _ _ _ q => neg_int q
end

/-- the scalars that == tells apart as data does -/
def scal : V → V → Bool
  | .non, .non => true | .non, .int _ => true | .int _, .non => true | .non, .bl _ => true | .bl _, .non => true | .non, .str _ => true | .str _, .non => true
  | .int _, .int _ => true | .bl _, .bl _ => true | .str _, .str _ => true | .byt _, .byt _ => true
  | .int _, .str _ => true | .str _, .int _ => true | .bl _, .str _ => true | .str _, .bl _ => true
  | _, _ => false
def rEq : R2 := fun x y H Q => scal x y = true ∧ Q (.bl (decide (x = y))) H
def rNe : R2 := fun x y H Q => scal x y = true ∧ Q (.bl (!decide (x = y))) H

theorem dec_int {i j : Int} : decide (V.int i = V.int j) = (i == j) := by
  rw [Bool.eq_iff_iff]
  simp
theorem dec_bl {i j : Bool} : decide (V.bl i = V.bl j) = (i == j) := by
  rw [Bool.eq_iff_iff]
  simp
theorem dec_str {i j : Str} : decide (V.str i = V.str j) = (i == j) := by
  rw [Bool.eq_iff_iff]
  simp
theorem dec_byt {i j : Array UInt8} : decide (V.byt i = V.byt j) = (i.toList == j.toList) := by
  rw [Bool.eq_iff_iff]
  cases i
  cases j
  simp

section
variable {X : Cx} {a b c : Expr} {ta tb tc : TE} {pos : Pos}
theorem fin_bl {pins : List (Addr × Obj)} {σ : St} {H : Hp} {s : Shared} {Q : VK} {k k' : Bool} (I : Inv X pins σ H s) (q : Q (.bl k) H) (e : k = k') : EP X pins σ Q (.bool k') s := by
  subst e
  exact ⟨.bl k, H, I, rfl, q⟩
theorem op_eq : OpR X (compareOp .Eq) rEq := by
  intro pins s σ H x y v u Q I rx ry h
  obtain ⟨hs, q⟩ := h
  cases x with
  | non =>
    cases rx
    cases y with
    | non => cases ry; exact PySem.EqNone.eq_none_none (fin_bl I q (by simp))
    | bl j => cases ry; exact PySem.EqNone.eq_none_bool (fin_bl I q (by simp))
    | int j => obtain ⟨t', rfl⟩ := ry; exact PySem.EqNone.eq_none_int (fin_bl I q (by simp))
    | str j => obtain ⟨t', rfl⟩ := ry; exact PySem.EqNone.eq_none_str (fin_bl I q (by simp))
    | _ => exact absurd (show false = true from hs) Bool.false_ne_true
  | bl i =>
    cases rx
    cases y with
    | non => cases ry; exact PySem.EqNone.eq_bool_none (fin_bl I q (by simp))
    | bl j => cases ry; exact eq_bool (fin_bl I q dec_bl)
    | str j => obtain ⟨t', rfl⟩ := ry; exact PySem.EqMixed.eq_bool_str (fin_bl I q (by simp))
    | _ => exact absurd (show false = true from hs) Bool.false_ne_true
  | int i =>
    obtain ⟨t, rfl⟩ := rx
    cases y with
    | non => cases ry; exact PySem.EqNone.eq_int_none (fin_bl I q (by simp))
    | int j => obtain ⟨t', rfl⟩ := ry; exact eq_int (fin_bl I q dec_int)
    | str j => obtain ⟨t', rfl⟩ := ry; exact PySem.EqMixed.eq_int_str (fin_bl I q (by simp))
    | _ => exact absurd (show false = true from hs) Bool.false_ne_true
  | str i =>
    obtain ⟨t, rfl⟩ := rx
    cases y with
    | non => cases ry; exact PySem.EqNone.eq_str_none (fin_bl I q (by simp))
    | bl j => cases ry; exact PySem.EqMixed.eq_str_bool (fin_bl I q (by simp))
    | int j => obtain ⟨t', rfl⟩ := ry; exact PySem.EqMixed.eq_str_int (fin_bl I q (by simp))
    | str j => obtain ⟨t', rfl⟩ := ry; exact eq_str (fin_bl I q dec_str)
    | _ => exact absurd (show false = true from hs) Bool.false_ne_true
  | byt i =>
    obtain ⟨t, rfl⟩ := rx
    cases y with
    | byt j => obtain ⟨t', rfl⟩ := ry; exact PySem.W.eq_bytes (fin_bl I q dec_byt)
    | _ => exact absurd (show false = true from hs) Bool.false_ne_true
  | _ => cases y <;> exact absurd (show false = true from hs) Bool.false_ne_true
theorem op_ne : OpR X (compareOp .NotEq) rNe := by
  intro pins s σ H x y v u Q I rx ry h
  obtain ⟨hs, q⟩ := h
  cases x with
  | non =>
    cases rx
    cases y with
    | non => cases ry; exact PySem.EqNone.ne_none_none (fin_bl I q (by simp))
    | bl j => cases ry; exact PySem.EqNone.ne_none_bool (fin_bl I q (by simp))
    | int j => obtain ⟨t', rfl⟩ := ry; exact PySem.EqNone.ne_none_int (fin_bl I q (by simp))
    | str j => obtain ⟨t', rfl⟩ := ry; exact PySem.EqNone.ne_none_str (fin_bl I q (by simp))
    | _ => exact absurd (show false = true from hs) Bool.false_ne_true
  | bl i =>
    cases rx
    cases y with
    | non => cases ry; exact PySem.EqNone.ne_bool_none (fin_bl I q (by simp))
    | bl j => cases ry; exact ne_bool (fin_bl I q (congrArg not dec_bl))
    | str j => obtain ⟨t', rfl⟩ := ry; exact PySem.EqMixed.ne_bool_str (fin_bl I q (by simp))
    | _ => exact absurd (show false = true from hs) Bool.false_ne_true
  | int i =>
    obtain ⟨t, rfl⟩ := rx
    cases y with
    | non => cases ry; exact PySem.EqNone.ne_int_none (fin_bl I q (by simp))
    | int j => obtain ⟨t', rfl⟩ := ry; exact ne_int (fin_bl I q (congrArg not dec_int))
    | str j => obtain ⟨t', rfl⟩ := ry; exact PySem.EqMixed.ne_int_str (fin_bl I q (by simp))
    | _ => exact absurd (show false = true from hs) Bool.false_ne_true
  | str i =>
    obtain ⟨t, rfl⟩ := rx
    cases y with
    | non => cases ry; exact PySem.EqNone.ne_str_none (fin_bl I q (by simp))
    | bl j => cases ry; exact PySem.EqMixed.ne_str_bool (fin_bl I q (by simp))
    | int j => obtain ⟨t', rfl⟩ := ry; exact PySem.EqMixed.ne_str_int (fin_bl I q (by simp))
    | str j => obtain ⟨t', rfl⟩ := ry; exact ne_str (fin_bl I q (congrArg not dec_str))
    | _ => exact absurd (show false = true from hs) Bool.false_ne_true
  | byt i =>
    obtain ⟨t, rfl⟩ := rx
    cases y with
    | byt j => obtain ⟨t', rfl⟩ := ry; exact PySem.W.ne_bytes (fin_bl I q (congrArg not dec_byt))
    | _ => exact absurd (show false = true from hs) Bool.false_ne_true
  | _ => cases y <;> exact absurd (show false = true from hs) Bool.false_ne_true

theorem op_lt : OpR X (compareOp .Lt) (rI0 fun i j => .bl (decide (i < j))) := opB0 fun _ _ _ _ _ _ _ q => lt_int q
theorem op_gt : OpR X (compareOp .Gt) (rI0 fun i j => .bl (decide (j < i))) := opB0 fun _ _ _ _ _ _ _ q => gt_int q
theorem op_ge : OpR X (compareOp .GtE) (rI0 fun i j => .bl (decide (j ≤ i))) := opB0 fun _ _ _ _ _ _ _ q => ge_int q
/-- is, is not of two objects that are tracked lists or instances -/
def isObj : HO → Bool
  | .lst _ => true
  | .ins _ _ _ => true
  | _ => false
theorem nomark (b : Expr) {op : CmpOp} (h : op ≠ .In := by decide) (h2 : op ≠ .NotIn := by decide) : behindInMarks op b = false := by
  have e1 : (op == CmpOp.In) = false := by cases op <;> first | rfl | exact absurd rfl h
  have e2 : (op == CmpOp.NotIn) = false := by cases op <;> first | rfl | exact absurd rfl h2
  cases b <;> simp [behindInMarks, e1, e2]
/-- a comparison as a value; hm: nomark b, or (for in, not in) by with_unfolding_all rfl -/
theorem pe_cmpR {op : CmpOp} {r : R2} (ho : OpR X (compareOp op) r) (ha : PE X a ta) (hb : PE X b tb) (hm : behindInMarks op b = false) : PE X (.Compare a [op] [b] pos) (tOp r ta tb) := by
  intro pins s σ H Q I h
  exact wpAny_Compare1 (binT ha hb I h fun v u s2 x y H2 I2 rx ry q => ho pins s2 σ H2 x y v u Q I2 rx ry q) hm
/-- a reading of a value as a test -/
abbrev tTest (t : TE) : TT := fun σ H Q => t σ H fun x H' => ∃ k, x = .bl k ∧ Q k H'
theorem pt_cmpR {op : CmpOp} {r : R2} (ho : OpR X (compareOp op) r) (ha : PE X a ta) (hb : PE X b tb) (hm : behindInMarks op b = false) : PT X (.Compare a [op] [b] pos) (tTest (tOp r ta tb)) := by
  intro pins s σ H Q I h
  refine wpAny_isTrue_Compare1 (thn (ha pins s σ H _ I h) fun v s1 ⟨x, H1, I1, r1, q1⟩ => thn (hb pins s1 σ H1 _ I1 q1) fun u s2 ⟨y, H2, I2, r2, q2⟩ =>
    thn (ho pins s2 σ H2 x y v u _ I2 r1 r2 q2) fun c s3 ⟨z, H3, I3, r3, k, e, q3⟩ => ?_) hm
  subst e
  cases r3
  exact wpAny_truthy_bool ⟨H3, I3, q3⟩
/-- a op1 b op2 c -/
def tChain (r r' : R2) (ta tb tc : TE) : TE := fun σ H Q => ta σ H fun x H1 => tb σ H1 fun y H2 => r x y H2 fun z H3 => ∃ k, z = .bl k ∧
  (if k = true then tc σ H3 fun w' H4 => r' y w' H4 Q else Q (.bl false) H3)
/-- a value's truth by the abstract heap -/
def TruV (K : PySem.W.Frag) (x : V) (H : Hp) (k : Bool) : Prop :=
  match x with
  | .non => k = false
  | .bl b => k = b
  | .int i => k = (i != 0)
  | .str y => y.length ≤ sizeLine ∧ k = ((y.length : Int) != 0)
  | .byt y => y.size ≤ sizeLine ∧ k = ((y.size : Int) != 0)
  | .ref p => (∃ xs, SqL K H p xs ∧ k = !xs.isEmpty) ∨ (∃ xs, SqT K H p xs ∧ k = !xs.isEmpty) ∨ ∃ kvs, H p = some (.dK kvs) ∧ k = !kvs.isEmpty
  | _ => False
theorem isEmpty_kv {κ : Type} {kvs : List (κ × V)} {vs : List (κ × Value)} (r : KV kvs vs) : (!vs.isEmpty) = !kvs.isEmpty := by
  cases r <;> rfl
theorem isEmpty_of {xs : List V} {its : List Value} (r : Vals xs its) : (!its.toArray.isEmpty) = !xs.isEmpty := by
  cases r <;> simp
theorem line63 : (sizeLine : Nat) < 2 ^ 63 := by rw [sizeLine_eq]; decide
theorem tru_ok : TruR X (fun x H Q => ∃ k, TruV X.K x H k ∧ Q k H) := by
  intro pins s σ H x v Q I rx h
  obtain ⟨k, e, q⟩ := h
  have hl := line63
  have hs : sizeLine = 16777216 := sizeLine_eq
  cases x with
  | non =>
    cases rx
    have e' : k = false := e
    subst e'
    exact truthy_none ⟨H, I, q⟩
  | bl b =>
    cases rx
    have e' : k = b := e
    subst e'
    exact wpAny_truthy_bool ⟨H, I, q⟩
  | int i =>
    obtain ⟨t, rfl⟩ := rx
    have e' : k = (i != 0) := e
    subst e'
    exact PySem.P.truthy_int ⟨H, I, q⟩
  | str y =>
    obtain ⟨t, rfl⟩ := rx
    obtain ⟨hy, e'⟩ : y.length ≤ sizeLine ∧ k = ((y.length : Int) != 0) := e
    subst e'
    exact PySem.P.truthy_str (by omega) ⟨H, I.tok _, q⟩
  | byt y =>
    obtain ⟨t, rfl⟩ := rx
    obtain ⟨hy, e'⟩ : y.size ≤ sizeLine ∧ k = ((y.size : Int) != 0) := e
    subst e'
    exact PySem.W.truthy_bytes (by omega) ⟨H, I.tok _, q⟩
  | ref p =>
    cases rx
    have e' : (∃ xs, SqL X.K H p xs ∧ k = !xs.isEmpty) ∨ (∃ xs, SqT X.K H p xs ∧ k = !xs.isEmpty) ∨ ∃ kvs, H p = some (.dK kvs) ∧ k = !kvs.isEmpty := e
    rcases e' with ⟨xs, hx, e'⟩ | ⟨xs, hx, e'⟩ | ⟨kvs, hx, e'⟩
    · subst e'
      obtain ⟨its, r, pl, hz⟩ := I.list hx
      have hlen := r.length
      exact wpAny_truthy_list pl.isList (by simp only [List.size_toArray]; omega) ⟨H, I.tok _, by rw [isEmpty_of r]; exact q⟩
    · subst e'
      obtain ⟨its, r, pl, hz⟩ := I.tuple hx
      have hlen := r.length
      exact truthy_tuple pl (by simp only [List.size_toArray]; omega) ⟨H, I.tok _, by rw [isEmpty_of r]; exact q⟩
    · subst e'
      obtain ⟨hz, hS, vs, r, m⟩ : kvs.length ≤ sizeLine ∧ (p == sysModules) = false ∧ ∃ vs, KV kvs vs ∧ s.heap.DictOf (mixKind X.prog X.w) p vs := I.hok p _ hx
      have hlen : kvs.length = vs.length := Paired.length r
      exact wpAny_truthy_dict hS m (by omega) ⟨H, I.tok _, by rw [isEmpty_kv r]; exact q⟩
  | _ => exact (show False from e).elim
/-- any expression whose test is its value's truth (a name, a call, a subscript, a field ..: he by fun _ => rfl) -/
theorem pt_truth (ha : PE X a ta) (he : ∀ whole, isTrue a X.env whole = (do let v ← whole; standAt a.pos; holding [v] (truthy v))) :
    PT X a (fun σ H Q => ta σ H fun x H' => ∃ k, TruV X.K x H' k ∧ Q k H') := by
  intro pins s σ H Q I h
  exact isTrue_plain (thn (ha pins s σ H _ I h) fun v s1 ⟨x, H1, I1, r1, q1⟩ => tru_ok pins s1 σ H1 x v Q I1 r1 q1) (he _)

theorem op_add_str : OpR X (binaryOp .Add) (fun x y H Q => ∃ i j, x = .str i ∧ y = .str j ∧ i.length + j.length ≤ sizeLine ∧ Q (.str (i ++ j)) H) := by
  intro pins s σ H x y v u Q I rx ry h
  obtain ⟨i, j, rfl, rfl, hz, q⟩ := h
  obtain ⟨t, rfl⟩ := rx
  obtain ⟨t', rfl⟩ := ry
  exact add_str (fun t' tk => ⟨.str (i ++ j), H, I.tok _, ⟨_, rfl⟩, q⟩) hz
def PlainIxT (b : Expr) : Prop := ∀ o i, subscripted b false o i = operate [o, i] (getItem o i)
theorem vals1 {x : V} {us : List Value} (r : Vals [x] us) : ∃ u, us = [u] ∧ RelV x u := by
  cases r with
  | cons r1 r2 => cases r2; exact ⟨_, rfl, r1⟩
theorem vals2 {x y : V} {us : List Value} (r : Vals [x, y] us) : ∃ u w', us = [u, w'] ∧ RelV x u ∧ RelV y w' := by
  cases r with
  | cons r1 r2 =>
    cases r2 with
    | cons r3 r4 => cases r4; exact ⟨_, _, rfl, r1, r3⟩
theorem call_min2 (hc : X.calm = true) : CallR X (.builtin "min") (fun xs H Q => ∃ i j, xs = [.int i, .int j] ∧ Q (.int (if j < i then j else i)) H) := by
  intro pins s σ H xs us Q I r h
  obtain ⟨i, j, rfl, q⟩ := h
  obtain ⟨u, w', rfl, ⟨t, rfl⟩, ⟨t', rfl⟩⟩ := vals2 r
  refine min_two_ints (I.ok.hd hc) fun h' tk k => ⟨_, H, I.kept k, ?_, q⟩
  by_cases hj : j < i
  · rw [if_pos hj, if_pos hj]; exact ⟨_, rfl⟩
  · rw [if_neg hj, if_neg hj]; exact ⟨_, rfl⟩
/-- len of a str, a bytes, a list, a tuple -/
def LenV (K : PySem.W.Frag) (x : V) (H : Hp) (n : Nat) : Prop :=
  match x with
  | .str y => y.length ≤ sizeLine ∧ n = y.length
  | .byt y => y.size ≤ sizeLine ∧ n = y.size
  | .ref p => (∃ xs, SqL K H p xs ∧ n = xs.length) ∨ ∃ xs, SqT K H p xs ∧ n = xs.length
  | _ => False
end
end L2

namespace L2
open PySem PySem.Spec PyProof.Rows

structure ObjM (h : Heap) (x dx C : Addr) (mA : Str → Option Value) : Prop where
  obj : h.get? x = some (PySem.W.instObj C dx)
  ns : h.Ns1 dx mA
  ne : dx ≠ x

section
variable {prog : Program} {w : World} {A : Around} {E : Value → Shared → Prop} {s : Shared} {K : PySem.W.Frag} {x dx C f : Addr} {mA : Str → Option Value} {name : Str} {v : Value}

end

def putF (f : Str) (v : V) : List (Str × V) → List (Str × V)
  | [] => [(f, v)]
  | (g, x) :: r => if g = f then (g, v) :: r else (g, x) :: putF f v r
section
variable {P : Program} {w : World} {H H' : Hp} {h h' : Heap} {a C dx : Addr} {fs fs' : List (Str × V)}
end

structure Cls (K : PySem.W.Frag) (C : Addr) : Prop where
  pg : PySem.W.plainGet K C Str.empty = true
  hd : PySem.W.hasDictIn K C = true
  po : PySem.W.plainOver K C = true
  sa : PySem.W.findIn K (.ref C) "__setattr__" = some (some (.builtin "object.__setattr__"))
theorem Cls.get {K : PySem.W.Frag} {C : Addr} (c : Cls K C) (f : Str) : PySem.W.plainGet K C f = true := c.pg
/-- no class of it has the name -/
def NoAttr (K : PySem.W.Frag) (C : Addr) (f : Str) : Prop := PySem.W.findIn K (.ref C) f = some none
/-- a constant of the class -/
structure Con (K : PySem.W.Frag) (C : Addr) (f : Str) (v : V) (u : Value) : Prop where
  at_ : PySem.W.findIn K (.ref C) f = some (some u)
  rel : RelV v u
  get : PySem.W.specialIn K u "__get__" = some none
  cp : PySem.W.copiedNames.contains f = false
/-- a method: a plain def of the class or of one above it -/
structure Meth (K : PySem.W.Frag) (C : Addr) (m : Str) (f : Addr) : Prop where
  at_ : PySem.W.findIn K (.ref C) m = some (some (.ref f))
  fn : PySem.W.isFn K (.ref f) = true
  kp : PySem.W.keepIn K (.ref f) = true

section
variable {X : Cx} {pins : List (Addr × Obj)} {σ : St} {H : Hp} {s : Shared} {a C dx : Addr} {fs : List (Str × V)} {f : Str} {v : V} {A : Around} {E : Value → Shared → Prop}

end

/-- e.f, an attribute of the instance -/
def tFld (K : PySem.W.Frag) (ta : TE) (f : Str) : TE := fun σ H Q => ta σ H fun x H1 => ∃ a C dx fs v, x = .ref a ∧ H1 a = some (.ins C dx fs) ∧ Cls K C ∧ NoAttr K C f ∧ fs.lookup f = some v ∧ Q v H1
/-- e.f, a constant of the class -/
def tCon (K : PySem.W.Frag) (ta : TE) (f : Str) : TE := fun σ H Q => ta σ H fun x H1 => ∃ a C dx fs v u, x = .ref a ∧ H1 a = some (.ins C dx fs) ∧ Cls K C ∧ Con K C f v u ∧ fs.lookup f = none ∧ Q v H1
/-- e.f = value -/
def sFld (K : PySem.W.Frag) (ta tv : TE) (f : Str) : TS := fun D σ H => tv σ H fun y H1 => ta σ H1 fun x H2 => ∃ a C dx fs, x = .ref a ∧ H2 a = some (.ins C dx fs) ∧ Cls K C ∧ NoAttr K C f ∧ fs.length < 1000 ∧
  D.nx σ (upd H2 a (.ins C dx (putF f y fs)))
/-- an augmented operator on two values -/
def InOp (X : Cx) (op : Operator) (rd : V → V → Hp → VK → Prop) : Prop :=
  ∀ (pins : List (Addr × Obj)) (s : Shared) (σ : St) (H : Hp) (x y : V) (u v : Value) (Q : VK), Inv X pins σ H s → RelV x u → RelV y v → rd x y H Q → wpAny (model X.prog X.w) X.A (inplaceOp op u v) (EP X pins σ Q) X.xe s
/-- e.f op= value -/
def sFldAug (K : PySem.W.Frag) (ta tv : TE) (rd : V → V → Hp → VK → Prop) (f : Str) : TS := fun D σ H => ta σ H fun x H1 => ∃ a C dx fs v, x = .ref a ∧ H1 a = some (.ins C dx fs) ∧ Cls K C ∧ NoAttr K C f ∧ fs.lookup f = some v ∧
  tv σ H1 fun y H2 => rd v y H2 fun z H3 => ∃ dx' fs', H3 a = some (.ins C dx' fs') ∧ fs'.length < 1000 ∧ D.nx σ (upd H3 a (.ins C dx' (putF f z fs')))

section
variable {X : Cx} {o e value : Expr} {f : Str} {pos pos' tpos : Pos} {ta tv : TE}
def rAdd : V → V → Hp → VK → Prop := fun x y H Q => ∃ i j, x = .int i ∧ y = .int j ∧ Q (.int (i + j)) H
def rSub : V → V → Hp → VK → Prop := fun x y H Q => ∃ i j, x = .int i ∧ y = .int j ∧ Q (.int (i - j)) H
end

section
variable {X : Cx} {pins : List (Addr × Obj)} {σ : St} {H : Hp} {s : Shared} {A : Around} {E : Value → Shared → Prop} {Q : Value → Shared → Prop} {c : Value} {b : Bool}
/-- the type of a value, as the fragment's deciders take it; for an instance its class -/
inductive TyOf (K : PySem.W.Frag) (H : Hp) : V → Value → Prop where
  | non : TyOf K H .non (.type "NoneType")
  | bl (x : Bool) : TyOf K H (.bl x) (.type "bool")
  | int (i : Int) : TyOf K H (.int i) (.type "int")
  | str (x : Str) : TyOf K H (.str x) (.type "str")
  | flt (x : UInt64) : TyOf K H (.flt x) (.type "float")
  | lst {a : Addr} {xs : List V} (e : H a = some (.lst xs)) : TyOf K H (.ref a) (.type "list")
  | frz {a : Addr} {o : Obj} {xs : List V} (e : H a = some (.frz o (.lst xs))) : TyOf K H (.ref a) (.type "list")
  | tup {a : Addr} {xs : List V} (e : H a = some (.tup xs)) : TyOf K H (.ref a) (.type "tuple")
  | dK {a : Addr} {kvs : List (Key × V)} (e : H a = some (.dK kvs)) : TyOf K H (.ref a) (.type "dict")
  | dT {a : Addr} {kvs : List (List Key × V)} (e : H a = some (.dT kvs)) : TyOf K H (.ref a) (.type "dict")
  | ins {a C dx : Addr} {fs : List (Str × V)} (e : H a = some (.ins C dx fs)) (cl : Cls K C) (ha : PySem.W.findIn K (.ref C) "__class__" = some (some (.builtin "object.__class__")))
      (hn : PySem.W.specialIn K (.builtin "object.__class__") "__get__" = some (some (.builtin "getset_descriptor.__get__"))) (htk : PySem.W.takesIn K (.builtin "object.__class__") = some true)
      (hm : PySem.W.mroIn K C (.type "object") = some true) : TyOf K H (.ref a) (.ref C)
end
end L2

namespace L2
open PySem PySem.Spec PyProof.Rows

structure Room (k : Nat) (A : Around) : Prop where
  hd : A.handled = none
  dp : A.depth + 3 * k + 5 < recursionLimit
  un : A.units + 16 * k + 200 < cLine
theorem Room.mono {j k : Nat} {A : Around} (r : Room k A) (h : j ≤ k) : Room j A := ⟨r.hd, by have := r.dp; omega, by have := r.un; omega⟩
theorem Room.deeper {k : Nat} {A : Around} (r : Room (k + 1) A) (env : Env) : Room k (A.deeper env) :=
  ⟨r.hd, by have := r.dp; show A.depth + 1 + 3 * k + 5 < _; omega, by have := r.un; show A.units + 3 + 16 * k + 200 < _; omega⟩
theorem Room.in1 {k : Nat} {A : Around} (r : Room (k + 1) A) : Room k A.in1 :=
  ⟨r.hd, by have := r.dp; show A.depth + 3 * k + 5 < _; omega, by have := r.un; show A.units + 1 + 16 * k + 200 < _; omega⟩
theorem Room.depth {k : Nat} {A : Around} (r : Room k A) : A.depth < recursionLimit := by have := r.dp; omega
theorem Room.units {k : Nat} {A : Around} (r : Room k A) : A.units + 64 < cLine := by have := r.un; omega
abbrev tNil : TA := fun _ H Q => Q [] H
abbrev tCons (ta : TE) (tr : TA) : TA := fun σ H Q => ta σ H fun x H1 => tr σ H1 fun xs H2 => Q (x :: xs) H2
section
variable {X : Cx} {e : Expr} {es : List Expr} {te : TE} {t : TA} {pos : Pos}
theorem pa_nil : PA X [] tNil := fun _ _ _ _ H Q I h => Calls.spliced_nil ⟨[], H, I, .nil, h⟩
theorem pa_cons (ha : PE X e te) (hr : PA X es t) (hs : starEach (e :: es) X.env = (false, eval e X.env) :: starEach es X.env := by rfl) : PA X (e :: es) (tCons te t) := by
  intro pos pins s σ H Q I h
  rw [hs]
  show wpAny _ _ (spliced ((false, eval e X.env) :: backTo pos (starEach es X.env))) _ _ s
  refine Calls.spliced_cons (thn (ha pins s σ H _ I h) fun u s1 ⟨x, H1, I1, r1, q1⟩ => ?_)
  exact thn (hr pos pins s1 σ H1 _ I1 q1) fun us s2 ⟨xs, H2, I2, r2, q2⟩ => ⟨x :: xs, H2, I2, .cons r1 r2, q2⟩

/-- a tuple, a list of written items -/
abbrev tTup (t : TA) : TE := fun σ H Q => t σ H fun xs H1 => xs.length ≤ sizeLine ∧ ∀ p, H1 p = none → Q (.ref p) (upd H1 p (.tup xs))
abbrev tLst (t : TA) : TE := fun σ H Q => t σ H fun xs H1 => xs.length ≤ sizeLine ∧ ∀ p, H1 p = none → Q (.ref p) (upd H1 p (.lst xs))
theorem pe_tup {x1} (h : PA X es t) : PE X (.Tuple es x1 pos) (tTup t) := by
  intro pins s σ H Q I hq
  refine wpAny_Tuple_spliced (thn (h pos pins s σ H _ I hq) fun us s1 ⟨xs, H1, I1, r, z, q⟩ => ⟨by rw [← r.length]; exact z, ?_⟩)
  have hf : H1 s1.heap.objs.size = none := I1.hok.fresh (Nat.le_refl _)
  refine ⟨.ref s1.heap.objs.size, upd H1 s1.heap.objs.size (.tup xs), I1.laid (t' := s1.toks) (fun b u e => Heap.get?_push_of_some _ e) (Nat.le_refl _) ?_, rfl, q _ hf⟩
  exact ⟨z, us, r, ⟨_, Heap.get?_push_size _ rfl, rfl, _, rfl⟩⟩
theorem pe_lst (h : PA X es t) : PE X (.List es pos) (tLst t) := by
  intro pins s σ H Q I hq
  refine wpAny_List_spliced (thn (h pos pins s σ H _ I hq) fun us s1 ⟨xs, H1, I1, r, z, q⟩ => ⟨by rw [← r.length]; exact z, ?_⟩)
  have hf : H1 s1.heap.objs.size = none := I1.hok.fresh (Nat.le_refl _)
  refine ⟨.ref s1.heap.objs.size, upd H1 s1.heap.objs.size (.lst xs), I1.laid (t' := s1.toks) (fun b u e => Heap.get?_push_of_some _ e) (Nat.le_refl _) ?_, rfl, q _ hf⟩
  exact ⟨z, us, 0, r, Heap.get?_push_size _ rfl⟩
end

/-- a def's promise: the bound arguments in the parameters' order, the heap, the wanted end, the wanted exception -/
abbrev Sp := List V → Hp → VK → XK → Prop
/-- how an exception lies behind a call (file 08 gives it): the callers' frames, abstract heap and state ahead of the call, the wish, the exception, the state -/
abbrev CXT := List Env → Hp → Shared → XK → Value → Shared → Prop

/-- the state at a call -/
structure Env0 (P : Program) (w : World) (K : PySem.W.Frag) (mg : Str → Option Value) (base : Heap) (A : Around) (outer : List Env) (s : Shared) (H : Hp) : Prop where
  frames : A.frames = some outer
  mod : Mod K mg base
  bs : ∀ b o, base.get? b = some o → s.heap.get? b = some o ∧ H b = none
  bsz : base.objs.size ≤ s.heap.objs.size
  funs : s.heap.FunFrames base outer
  frf : ∀ b ∈ frs outer, H b = none
  hok : HOk P w H s.heap
  bare : AllBare s.gens
/-- a call's end -/
def CE (outer : List Env) (P : Program) (w : World) (H : Hp) (s : Shared) (Q : VK) (u : Value) (s' : Shared) : Prop :=
  ∃ v H', s'.os = s.os ∧ AllBare s'.gens ∧ Un (frs outer) [] H H' s.heap s'.heap ∧ HOk P w H' s'.heap ∧ RelV v u ∧ Q v H'
def CR (CX : CXT) (outer : List Env) (P : Program) (w : World) (H : Hp) (s : Shared) (Q : VK) (E : XK) (r : Result) (s' : Shared) : Prop :=
  match r with
  | .ok (.ret u) => CE outer P w H s Q u s'
  | .ok _ => False
  | .error e => CX outer H s E e s'
structure FnOk (P : Program) (w : World) (K : PySem.W.Frag) (mg : Str → Option Value) (base : Heap) (CX : CXT) (k : Nat) (f : Addr) (fd : FuncData) (ps : List Str) (sp : Sp) : Prop where
  len : ∀ vs H Q E, sp vs H Q E → vs.length = ps.length
  run : ∀ (A : Around) (outer : List Env) (s : Shared) (H : Hp) (args : Args) (us : List Value) (vs : List V) (Q : VK) (E : XK), Room k A → Env0 P w K mg base A outer s H → BindsTo s fd args (ps.zip us) → Vals vs us → sp vs H Q E →
    codeAny (model P w) A (.call (.ref f) args) (CR CX outer P w H s Q E) s
theorem FnOk.mono {P : Program} {w : World} {K : PySem.W.Frag} {mg : Str → Option Value} {base : Heap} {CX : CXT} {j k : Nat} {f : Addr} {fd : FuncData} {ps : List Str} {sp : Sp} (F : FnOk P w K mg base CX j f fd ps sp) (h : j ≤ k) :
    FnOk P w K mg base CX k f fd ps sp := ⟨F.len, fun A outer s H args us vs Q E hr => F.run A outer s H args us vs Q E (hr.mono h)⟩
/-- a weaker promise -/
theorem FnOk.imp {P : Program} {w : World} {K : PySem.W.Frag} {mg : Str → Option Value} {base : Heap} {CX : CXT} {k : Nat} {f : Addr} {fd : FuncData} {ps : List Str} {sp sp' : Sp} (F : FnOk P w K mg base CX k f fd ps sp)
    (h : ∀ vs H Q E, sp' vs H Q E → sp vs H Q E) : FnOk P w K mg base CX k f fd ps sp' :=
  ⟨fun vs H Q E q => F.len vs H Q E (h _ _ _ _ q), fun A outer s H args us vs Q E hr he hb hv hs => F.run A outer s H args us vs Q E hr he hb hv (h _ _ _ _ hs)⟩

theorem Env0.in1 {P : Program} {w : World} {K : PySem.W.Frag} {mg : Str → Option Value} {base : Heap} {A : Around} {outer : List Env} {s : Shared} {H : Hp} (e : Env0 P w K mg base A outer s H) :
    Env0 P w K mg base A.in1 outer s H := ⟨e.frames, e.mod, e.bs, e.bsz, e.funs, e.frf, e.hok, e.bare⟩

section
variable {X : Cx} {pins : List (Addr × Obj)} {σ : St} {H : Hp} {s s' : Shared}
/-- from a body: what a callee wants -/
theorem Inv.env0 (I : Inv X pins σ H s) : Env0 X.prog X.w X.K X.mg X.base X.A X.stack s H :=
  ⟨I.ok.frames, I.ok.mod, I.bs, Nat.le_trans I.ok.bsz I.sz, I.stack, I.stkFree, I.hok, I.bare⟩
/-- behind a call -/
theorem Inv.after {Q : VK} {u : Value} (I : Inv X pins σ H s) (h : CE X.stack X.prog X.w H s Q u s') : EP X pins σ Q u s' := by
  obtain ⟨v, H', os, bare, un, hok, r, q⟩ := h
  obtain ⟨hh, g, d, t, os'⟩ := s'
  obtain rfl : os' = s.os := os
  exact ⟨v, H', I.call (h' := hh) (g' := g) (d' := d) (t' := t) (ch := []) un hok bare (fun b z => absurd z (by simp)), r, q⟩
end

/-- f(..): the written arguments, then the defaults dvs; E: what is wanted of an exception -/
abbrev tCall (sp : Sp) (dvs : List V) (E : XK) (t : TA) : TE := fun σ H Q => t σ H fun vs H1 => sp (vs ++ dvs) H1 Q E
/-- o.m(..) of an instance of the class at C -/
def tMeth (C : Addr) (m : Str) (sp : Sp) (dvs : List V) (E : XK) (ta : TE) (t : TA) : TE := fun σ H Q => ta σ H fun x H1 => ∃ a dx fs, x = .ref a ∧ H1 a = some (.ins C dx fs) ∧ fs.lookup m = none ∧
  t σ H1 fun vs H2 => sp (x :: (vs ++ dvs)) H2 Q E
/-- C(..): a new instance and its dict, then __init__ -/
def tMake (C : Addr) (sp : Sp) (dvs : List V) (E : XK) (t : TA) : TE := fun σ H Q => t σ H fun vs H1 => ∀ x dx, H1 x = none → H1 dx = none → dx ≠ x →
  sp (.ref x :: (vs ++ dvs)) (upd (upd H1 dx (.own x)) x (.ins C dx [])) (fun v H2 => v = .non ∧ Q (.ref x) H2) E

/-- how the parameters are bound: us the positional arguments, kw the keywords' values by name, ds the defaults that fill up -/
def Binds (K : PySem.W.Frag) (fd : FuncData) (ps : List Str) (ds : List Value) : Prop :=
  ∀ (s : Shared) (us : List Value), K.In s.heap → (us ++ ds).length = ps.length → BindsTo s fd ⟨us, []⟩ (ps.zip (us ++ ds))
/-- every parameter is given -/
theorem Binds.all {K : PySem.W.Frag} {fd : FuncData} {ps : List Str} (h : ∀ us : List Value, us.length = ps.length → bindArgs fd ⟨us, []⟩ = pure (ps.zip us)) : Binds K fd ps [] := fun s us _ hl => by
  rw [List.append_nil] at hl ⊢
  exact .of_eq (h us hl)

/-- an exception of a callee reaches what this body wants of exceptions -/
def Passes (CX : CXT) (X : Cx) (E : XK) : Prop := ∀ (pins : List (Addr × Obj)) (σ : St) (H : Hp) (s : Shared) (e : Value) (s' : Shared), Inv X pins σ H s → CX X.stack H s E e s' → X.xe e s'

section
variable {X : Cx} {CX : CXT} {k : Nat} {f C : Addr} {fd : FuncData} {ps : List Str} {sp : Sp} {dvs : List V} {ds : List Value} {E : XK} {x m : Str} {p pos apos : Pos} {e o : Expr} {es : List Expr} {ta : TE} {t : TA}

/-- the callee runs -/
theorem run_fn {pins : List (Addr × Obj)} {σ : St} {H : Hp} {s : Shared} {Q : VK} {us : List Value} {vs : List V} (F : FnOk X.prog X.w X.K X.mg X.base CX k f fd ps sp) (hr : Room k X.A) (hb : Binds X.K fd ps ds) (hd : Vals dvs ds) (hx : Passes CX X E)
    (I : Inv X pins σ H s) (r : Vals vs us) (h : sp (vs ++ dvs) H Q E) : wpAny (model X.prog X.w) X.A (call (.ref f) us) (EP X pins σ Q) X.xe s := by
  have r2 : Vals (vs ++ dvs) (us ++ ds) := r.append hd
  have hl : (us ++ ds).length = ps.length := by rw [← r2.length]; exact F.len _ _ _ _ h
  refine wpAny_call (codeAny_mono (F.run X.A X.stack s H ⟨us, []⟩ (us ++ ds) (vs ++ dvs) Q E hr I.env0 (hb s us I.kIn hl) r2 h) fun r s' hq => ?_)
  cases r with
  | error e => exact hx pins σ H s e s' I hq
  | ok fl =>
    cases fl with
    | ret u => exact I.after hq
    | next => exact False.elim hq
    | brk => exact False.elim hq
    | cont => exact False.elim hq

theorem pe_call (F : FnOk X.prog X.w X.K X.mg X.base CX k f fd ps sp) (hr : Room k X.A) (hg : Gl X x) (hm : X.mg x = some (.ref f)) (hk : PySem.W.keepIn X.K (.ref f) = true) (hb : Binds X.K fd ps ds) (hd : Vals dvs ds) (hx : Passes CX X E)
    (ha : PA X (e :: es) t) (hdb : (x == ("__debug__" : Str)) = false := by decide) (he : starEach (e :: es) X.env = (false, eval e X.env) :: starEach es X.env := by rfl) (hpl : (backTo pos (starEach es X.env)).any (·.1) = false := by rfl) :
    PE X (.Call (.Name x p) (e :: es) [] pos) (tCall sp dvs E t) := by
  intro pins s σ H Q I h
  refine wpAny_Call_Name_kw (ld_glob I hg hm ?_ hdb)
  refine PySem.W.callWith_K (h₀ := X.base) I.ok.mod.kin hk (thn (ha pos pins s σ H _ I h) fun us s1 ⟨vs, H1, I1, r, q⟩ => ⟨I1.kIn, ?_⟩) he hpl
  exact run_fn F hr hb hd hx I1 r q
/-- what a class must have to be made -/
structure Mk (K : PySem.W.Frag) (C f : Addr) : Prop where
  makes : PySem.W.makesIn K C = true
  init : PySem.W.findIn K (.ref C) "__init__" = some (some (.ref f))
  fn : PySem.W.isFn K (.ref f) = true
  kp : PySem.W.keepIn K (.ref C) = true

end

/-- the values of the keywords, from the left -/
def PK (X : Cx) (kws : List Keyword) (t : TA) : Prop :=
  ∀ (pos : Pos) (pins : List (Addr × Obj)) (s : Shared) (σ : St) (H : Hp) (Q : List V → Hp → Prop), Inv X pins σ H s → t σ H Q → wpAny (model X.prog X.w) X.A (evalAll ((backToKw pos (keywordEach kws X.env)).map (·.2))) (AP X pins σ Q) X.xe s
section
variable {X : Cx} {CX : CXT} {k : Nat} {f C : Addr} {fd : FuncData} {ps ks : List Str} {sp : Sp} {E : XK} {x m : Str} {p pos apos kpos : Pos} {e o : Expr} {es : List Expr} {kws : List Keyword} {te ta : TE} {t tk : TA} {nm : Option Str}
/-- how a call with keywords binds: g puts the positional values us and the keywords' values ws (names ks) in the parameters' order, defaults among them -/
structure KBinds (K : PySem.W.Frag) (fd : FuncData) (ps ks : List Str) (g : List Value → List Value → List Value) (gV : List V → List V → List V) : Prop where
  to : ∀ (s : Shared) (us ws : List Value), K.In s.heap → (g us ws).length = ps.length → BindsTo s fd ⟨us, ks.zip ws⟩ (ps.zip (g us ws))
  rel : ∀ {vs : List V} {us : List Value} {zs : List V} {ws : List Value}, Vals vs us → Vals zs ws → Vals (gV vs zs) (g us ws)
def tCallK (sp : Sp) (gV : List V → List V → List V) (E : XK) (t tk : TA) : TE := fun σ H Q => t σ H fun vs H1 => tk σ H1 fun zs H2 => sp (gV vs zs) H2 Q E
variable {g : List Value → List Value → List Value} {gV : List V → List V → List V}
end

/-- names: the parameters first -/
structure FnScope (N P : List Str) (sc : Scope) : Prop where
  kind : sc.kind = .function
  co : sc.isCoroutine = false
  gen : sc.isGenerator = false
  nd : N.Nodup
  pre : N.take P.length = P
  par : ∀ x ∈ P, sc.names.lookup x = some .local ∨ sc.names.lookup x = some .cell
  nofree : ∀ y ∈ sc.names, y.2 ≠ .free

theorem bindL_out {kindOf : Str → Option NameKind} {x : Str} : ∀ {binds : List (Str × Value)} {m : Str → Option Value}, (∀ v, (x, v) ∉ binds) → bindL kindOf binds m x = m x
  | [], _, _ => rfl
  | (n, v) :: r, m, h => by
    unfold bindL
    rw [bindL_out fun w hw => h w (List.mem_cons_of_mem _ hw)]
    split
    · have : x ≠ n := by rintro rfl; exact h v List.mem_cons_self
      simp [this]
    · rfl
theorem bindC_out {kindOf : Str → Option NameKind} {x : Str} : ∀ {binds : List (Str × Value)} {m : Str → Option Value}, (∀ v, (x, v) ∉ binds) → bindC kindOf binds m x = m x
  | [], _, _ => rfl
  | (n, v) :: r, m, h => by
    unfold bindC
    rw [bindC_out fun w hw => h w (List.mem_cons_of_mem _ hw)]
    split
    · rfl
    · have : x ≠ n := by rintro rfl; exact h v List.mem_cons_self
      simp [this]
theorem bindL_get {kindOf : Str → Option NameKind} {x : Str} {v : Value} : ∀ {P : List Str} {vs : List Value} {i : Nat} {m : Str → Option Value}, P.Nodup → P[i]? = some x → vs[i]? = some v → kindOf x = some .local →
    bindL kindOf (P.zip vs) m x = some v
  | [], _, _, _, _, h, _, _ => by simp at h
  | _ :: _, [], _, _, _, _, h, _ => by simp at h
  | p :: P, w :: vs, 0, m, nd, h1, h2, hk => by
    simp at h1 h2; subst h1; subst h2
    show bindL kindOf ((p, w) :: P.zip vs) m p = _
    unfold bindL
    rw [bindL_out fun v hv => (List.nodup_cons.mp nd).1 (List.of_mem_zip hv).1, if_pos hk]
    simp
  | p :: P, w :: vs, i + 1, m, nd, h1, h2, hk => by
    show bindL kindOf ((p, w) :: P.zip vs) m x = _
    unfold bindL
    exact bindL_get (i := i) (List.nodup_cons.mp nd).2 (by simpa using h1) (by simpa using h2) hk
theorem bindC_get {kindOf : Str → Option NameKind} {x : Str} {v : Value} : ∀ {P : List Str} {vs : List Value} {i : Nat} {m : Str → Option Value}, P.Nodup → P[i]? = some x → vs[i]? = some v → kindOf x ≠ some .local →
    bindC kindOf (P.zip vs) m x = some v
  | [], _, _, _, _, h, _, _ => by simp at h
  | _ :: _, [], _, _, _, _, h, _ => by simp at h
  | p :: P, w :: vs, 0, m, nd, h1, h2, hk => by
    simp at h1 h2; subst h1; subst h2
    show bindC kindOf ((p, w) :: P.zip vs) m p = _
    unfold bindC
    rw [bindC_out fun v hv => (List.nodup_cons.mp nd).1 (List.of_mem_zip hv).1, if_neg hk]
    simp
  | p :: P, w :: vs, i + 1, m, nd, h1, h2, hk => by
    show bindC kindOf ((p, w) :: P.zip vs) m x = _
    unfold bindC
    exact bindC_get (i := i) (List.nodup_cons.mp nd).2 (by simpa using h1) (by simpa using h2) hk

/-- the names' values at the entry -/
def start (N : List Str) (vs : List V) : St := vs.map some ++ List.replicate (N.length - vs.length) none

/-- the context of a def's body, at its entry; an exception leaves the frame, then lies as CX says -/
def cxOf (CX : CXT) (P : Program) (w : World) (K : PySem.W.Frag) (mg : Str → Option Value) (base : Heap) (N : List Str) (qual : Str) (scope : Scope) (f : Addr) (cd : Value) (A : Around) (outer : List Env) (s : Shared) (H : Hp) (E : XK) : Cx where
  prog := P
  w := w
  K := K
  mg := mg
  base := base
  A := A.deeper (envOfC qual scope s.heap.objs.size f cd)
  N := N
  s₀ := s
  H₀ := H
  env := envOfC qual scope s.heap.objs.size f cd
  outer := outer
  stack := envOfC qual scope s.heap.objs.size f cd :: outer
  ex := []
  calm := true
  fn := fun _ => true
  pn := []
  xe := fun e s' => wpAny (model P w) (A.deeper (envOfC qual scope s.heap.objs.size f cd)) (leaving (envOfC qual scope s.heap.objs.size f cd) e) (fun _ s'' => CX outer H s E e s'') (fun e' s'' => CX outer H s E e' s'') s'

theorem cell_has {sc : Scope} {n : Nat} {x : Str} (h : sc.names.lookup x = some .cell) : ∃ c, (cellsFrom n sc.names []).lookup x = some c := by
  have q := PySem.W.cellsFrom_some sc.names n [] (.inl h)
  exact Option.isSome_iff_exists.mp q

theorem inv_start {CX : CXT} {P : Program} {w : World} {K : PySem.W.Frag} {mg : Str → Option Value} {base : Heap} {N ps : List Str} {qual : Str} {scope : Scope} {f : Addr} {cd : Value} {A : Around} {outer : List Env} {s s1 : Shared} {H : Hp} {E : XK} {us : List Value} {vs : List V}
    (S : FnScope N ps scope) (hd : A.handled = none) (e0 : Env0 P w K mg base A outer s H) (hl : vs.length = ps.length) (r : Vals vs us)
    (x : InCallC s s.heap.objs.size (bindL (envOfC qual scope s.heap.objs.size f cd).kindOf (ps.zip us) fun _ => none) (cellsFrom (s.heap.objs.size + 1) scope.names []) (bindC (envOfC qual scope s.heap.objs.size f cd).kindOf (ps.zip us) fun _ => none) s1) :
    Inv (cxOf CX P w K mg base N qual scope f cd A outer s H E) [] (start N vs) H s1 := by
  have hpl : ps.length ≤ N.length := by have := congrArg List.length S.pre; rw [List.length_take] at this; omega
  obtain ⟨h1, tk, rfl, hk⟩ := x.done
  have noA : ∀ b : Addr, b ∉ (cxOf CX P w K mg base N qual scope f cd A outer s H E).ex := fun b z => absurd (show b ∈ ([] : List Addr) from z) (by simp)
  refine ⟨⟨e0.mod, S.kind, rfl, rfl, Nat.le_refl _, fun y z c h1 h2 => ?_, fun y hy => ?_, fun y c _ h => ?_, fun _ => hd, Around.frames_deeper e0.frames, .inr ⟨rfl, rfl⟩, fun b z => absurd z (noA b), e0.bs, e0.bsz, fun b _ _ => noA b, fun b z => absurd z (noA b), e0.funs, e0.frf⟩,
    rfl, e0.bare, Un.kept hk, ⟨_, x.toInCall.ns, fun i y v h1 h2 h3 => ?_⟩, fun y c h => ⟨_, x.cell y c h⟩, e0.hok.fresh (Nat.le_refl _), fun y c h => ?_, fun p hp => absurd (show p ∈ ([] : List (Addr × Obj)) from hp) (by simp), e0.hok.kept hk, ?_⟩
  · exact name_of_addr x.apart (PySem.mem_of_lookup h1) (PySem.mem_of_lookup h2)
  · have hy : scope.names.lookup y = some .cell ∨ scope.names.lookup y = some .free := hy
    rcases hy with hy | hy
    · exact cell_has hy
    · exact absurd rfl (S.nofree _ (PySem.mem_of_lookup hy))
  · exact Nat.le_of_lt (x.above y c (PySem.mem_of_lookup h))
  · have hi : i < vs.length := by
      unfold start at h2
      by_cases hi : i < vs.length
      · exact hi
      · rw [List.getElem?_append_right (by simpa using hi)] at h2
        rw [List.getElem?_replicate] at h2
        split at h2 <;> cases h2
    have ha : vs[i]? = some v := by
      unfold start at h2
      rw [List.getElem?_append_left (by simpa using hi), List.getElem?_map] at h2
      cases e : vs[i]? with
      | none => rw [e] at h2; cases h2
      | some a => rw [e] at h2; cases h2; rfl
    obtain ⟨u, hu, rv⟩ := r.get ha
    have hp : ps[i]? = some y := by
      rw [← S.pre, List.getElem?_take_of_lt (by omega)]; exact h1
    have ndP : ps.Nodup := by rw [← S.pre]; exact S.nd.sublist (List.take_sublist _ _)
    refine ⟨u, rv, ?_⟩
    rcases S.par y (List.mem_of_getElem? hp) with k | k
    · exact .inl ⟨k, bindL_get ndP hp hu k⟩
    · obtain ⟨c, e⟩ := cell_has (n := s.heap.objs.size + 1) k
      refine .inr ⟨.inl k, c, e, ?_⟩
      have q := x.cell y c e
      rw [bindC_get ndP hp hu (by show scope.names.lookup y ≠ _; rw [k]; decide)] at q
      exact q
  · exact e0.hok.fresh (Nat.le_of_lt (x.above y c (PySem.mem_of_lookup h)))
  · unfold start
    show _ = N.length
    rw [List.length_append, List.length_map, List.length_replicate]
    omega

/-- THE RULE: a def (or a method) of the text, by its body. The body's reading t is chosen for each entry; it is run at the parameters' values -/
theorem fn_of {CX : CXT} {P : Program} {w : World} {K : PySem.W.Frag} {mg : Str → Option Value} {base : Heap} {k : Nat} {f : Addr} {name qual : Str} {params : Arguments} {body : List Stmt} {scope : Scope} {dV kV doc pm cdv ct oc : Value} {an od : Option Addr}
    {osl : Array (Option Value)} {N ps : List Str} {sp : Sp} (lk : K.lookup f = some ⟨oc, od, .func (PySem.W.fnOf name qual params body scope dV kV doc pm an cdv ct), osl⟩) (hcd : PySem.W.codeIn K cdv qual = true) (S : FnScope N ps scope)
    (len : ∀ vs H Q E, sp vs H Q E → vs.length = ps.length)
    (hbody : ∀ (A : Around) (outer : List Env) (s : Shared) (H : Hp) (vs : List V) (Q : VK) (E : XK), Room k (A.deeper (envOfC qual scope s.heap.objs.size f cdv)) → sp vs H Q E →
      ∃ t, PSs (cxOf CX P w K mg base N qual scope f cdv A outer s H E) body t ∧ t { nx := fun _ H' => Q .non H', rt := Q } (start N vs) H) :
    FnOk P w K mg base CX (k + 1) f (PySem.W.fnOf name qual params body scope dV kV doc pm an cdv ct) ps sp := by
  refine ⟨len, fun A outer s H args us vs Q E hr e0 hb r hsp => ?_⟩
  have hl := len _ _ _ _ hsp
  have KX : K.In s.heap := e0.mod.kin.keeps fun b o e => (e0.bs b o e).1
  have lim : s.heap.NoLimit := e0.mod.nolimit.keeps fun b o e => (e0.bs b o e).1
  have hkind : ∀ y ∈ ps.zip us, scope.names.lookup y.1 = some .local ∨ (scope.names.lookup y.1 = some .cell ∧ ((cellsFrom (s.heap.objs.size + 1) scope.names []).lookup y.1).isSome = true) := fun ⟨n, v⟩ hy => by
    rcases S.par n (List.of_mem_zip hy).1 with q | q
    · exact .inl q
    · exact .inr ⟨q, PySem.W.cellsFrom_some _ _ _ (.inl q)⟩
  refine codeAny_call_function hr.depth (KX _ _ lk) rfl S.co S.gen rfl (PySem.W.codeRec_of KX hcd) (hb _ _ _ _ ?_)
  refine wpAny_newFunctionEnv_cells S.kind hkind fun env he s1 x => ?_
  subst he
  refine ⟨lim.keeps x.toInCall.keep, codeAny_func ?_⟩
  obtain ⟨t, ht, hq⟩ := hbody A outer s H vs Q E (hr.deeper _) hsp
  have I : Inv (cxOf CX P w K mg base N qual scope f cdv A outer s H E) [] (start N vs) H s1 := inv_start S hr.hd e0 hl r x
  refine wpAny_mono (ht [] s1 (start N vs) H _ I hq) (fun fl s' hs => ?_) fun e s' hs => hs
  have fin : ∀ {σ' : St} {H' : Hp} {v : V} {u : Value}, Inv (cxOf CX P w K mg base N qual scope f cdv A outer s H E) [] σ' H' s' → RelV v u → Q v H' → CE outer P w H s Q u s' :=
    fun {σ' H' v u} J rv q => ⟨v, H', J.os, J.bare, J.base, J.hok, rv, q⟩
  cases fl with
  | ret u =>
    obtain ⟨v, σ', H', J, rv, q⟩ := hs
    exact fin J rv q
  | next =>
    obtain ⟨σ', H', J, q⟩ := hs
    exact fin (v := V.non) (u := Value.none) J rfl q
  | brk =>
    obtain ⟨_, _, _, q⟩ := hs
    exact False.elim q
  | cont =>
    obtain ⟨_, _, _, q⟩ := hs
    exact False.elim q
end L2

namespace L2
open PySem PySem.Spec PyProof.Rows
section
variable {X : Cx} {x : Str} {p pos : Pos} {e : Expr} {es : List Expr} {t : TA} {id T : String} {r : List V → Hp → VK → Prop}

abbrev tCB (r : List V → Hp → VK → Prop) (t : TA) : TE := fun σ H Q => t σ H fun vs H1 => r vs H1 Q
/-- f(e, ..), f a built-in function -/
theorem pe_callB (hc : CallR X (.builtin id) r) (hg : Gl X x) (hm : X.mg x = none) (hv : bootBuiltins x = some (.builtin id)) (ha : PA X (e :: es) t) (hn : x ≠ "__name__" := by decide) (hdb : (x == ("__debug__" : Str)) = false := by decide)
    (he : starEach (e :: es) X.env = (false, eval e X.env) :: starEach es X.env := by rfl) (hpl : (backTo pos (starEach es X.env)).any (·.1) = false := by rfl) : PE X (.Call (.Name x p) (e :: es) [] pos) (tCB r t) := by
  intro pins s σ H Q I h
  refine wpAny_Call_Name_kw (ld_blt I hg hm hv ?_ hn hdb)
  exact PyProof.Rows.callWith_builtin1 (thn (ha pos pins s σ H _ I h) fun us s1 ⟨vs, H1, I1, r1, q1⟩ => hc pins s1 σ H1 vs us Q I1 r1 q1) he hpl
/-- T(e, ..), T a built-in type -/
theorem pe_callTy (hc : CallR X (.type T) r) (hg : Gl X x) (hm : X.mg x = none) (hv : bootBuiltins x = some (.type T)) (ha : PA X (e :: es) t) (hn : x ≠ "__name__" := by decide) (hdb : (x == ("__debug__" : Str)) = false := by decide)
    (he : starEach (e :: es) X.env = (false, eval e X.env) :: starEach es X.env := by rfl) (hpl : (backTo pos (starEach es X.env)).any (·.1) = false := by rfl) : PE X (.Call (.Name x p) (e :: es) [] pos) (tCB r t) := by
  intro pins s σ H Q I h
  refine wpAny_Call_Name_kw (ld_blt I hg hm hv ?_ hn hdb)
  exact PyProof.Rows.callWith_type1 (thn (ha pos pins s σ H _ I h) fun us s1 ⟨vs, H1, I1, r1, q1⟩ => hc pins s1 σ H1 vs us Q I1 r1 q1) he hpl
end
end L2

namespace HT
open PySem PyProof.Rows

/-- t < u of tuples of ints -/
def lexLt : List Int → List Int → Bool
  | [], [] => false
  | [], _ :: _ => true
  | _ :: _, [] => false
  | x :: xs, y :: ys => if x = y then lexLt xs ys else decide (x < y)
section
open PySem.SeqAt
open PySem.AutoSeq1 (wpAny_loadPart')
open PySem.MeetsSeq PySem.MeetsSeq2 PySem.MeetsSeq3

end

section
variable {prog : Program} {w : World} {A : Around} {E : Value → Shared → Prop} {s : Shared}

/-- a slice's bound as a place among n (d where it is left out) -/
def sIx (n d : Nat) : Option Int → Nat
  | none => d
  | some v => if v < 0 then (v + (n : Int)).toNat else min v.toNat n
theorem sIx_nat (n d k : Nat) : sIx n d (some (k : Int)) = min k n := by
  show (if (k : Int) < 0 then ((k : Int) + (n : Int)).toNat else min (k : Int).toNat n) = min k n
  rw [if_neg (by omega), Int.toNat_natCast]
end
end HT

namespace L2
open PySem PySem.Spec PyProof.Rows

abbrev TO := St → Hp → (Option Int → Hp → Prop) → Prop
/-- a slice's part (left out, or an int) -/
def PO (X : Cx) (e : Option Expr) (t : TO) : Prop :=
  ∀ (pins : List (Addr × Obj)) (s : Shared) (σ : St) (H : Hp) (Q : Option Int → Hp → Prop), Inv X pins σ H s → t σ H Q →
    wpAny (model X.prog X.w) X.A (evalPart e X.env) (fun u s' => ∃ o H', Inv X pins σ H' s' ∧ IsPart u o ∧ Q o H') X.xe s
abbrev tNoPart : TO := fun _ H Q => Q none H
abbrev tPart (t : TE) : TO := fun σ H Q => t σ H fun x H1 => ∃ i, x = .int i ∧ Q (some i) H1

theorem intsAre_of {ns : List Int} : ∀ {us : List Value}, Vals (ns.map V.int) us → IntsAre us ns := by
  induction ns with
  | nil => intro us r; rw [List.map_nil] at r; cases r; exact .nil
  | cons n ns ih =>
    intro us r
    rw [List.map_cons] at r
    cases r with
    | cons r1 r2 =>
      obtain ⟨t, e⟩ := r1
      subst e
      exact .cons n t (ih r2)

section
variable {X : Cx} {e : Expr} {te : TE} {lo hi : Option Expr} {tl th : TO} {pos p2 : Pos}

theorem po_none : PO X none tNoPart := by
  intro pins s σ H Q I h
  rw [evalPart_none]
  exact wpAny_pure ⟨none, H, I, .none, h⟩
theorem po_some (h : PE X e te) : PO X (some e) (tPart te) := by
  intro pins s σ H Q I hw
  rw [evalPart_some]
  refine thn (h pins s σ H _ I hw) fun u s1 ⟨x, H1, I1, r1, q1⟩ => ?_
  obtain ⟨i, rfl, q⟩ := q1
  obtain ⟨t, rfl⟩ := r1
  exact ⟨some i, H1, I1, .int i t, q⟩

/-- what a slice of a value is, by values: the slice object stands at sl -/
def SlR (X : Cx) (r : V → Option Int → Option Int → Hp → VK → Prop) : Prop :=
  ∀ (pins : List (Addr × Obj)) (s : Shared) (σ : St) (H : Hp) (x : V) (v vl vu : Value) (lo hi : Option Int) (sl : Addr) (Q : VK), Inv X pins σ H s → RelV x v → s.heap.IsSliceOf sl vl vu .none → IsPart vl lo → IsPart vu hi → r x lo hi H Q →
    ∃ T id, typeLookup (.type T) "__getitem__" = pure (some (.builtin id)) ∧ s.TypeIs v T ∧ wpAny (model X.prog X.w) X.A (getItem v (.ref sl)) (EP X pins σ Q) X.xe s
abbrev tSl (r : V → Option Int → Option Int → Hp → VK → Prop) (te : TE) (tl th : TO) : TE := fun σ H Q => te σ H fun x H1 => tl σ H1 fun l H2 => th σ H2 fun u H3 => r x l u H3 Q
/-- a[lo:hi], any a -/
theorem pe_slice {r : V → Option Int → Option Int → Hp → VK → Prop} (hr : SlR X r) (he : PE X e te) (hl : PO X lo tl) (hu : PO X hi th) : PE X (.Subscript e (.Slice lo hi none p2) pos) (tSl r te tl th) := by
  intro pins s σ H Q I h
  refine Subscript_ (thn (he pins s σ H _ I h) fun v s1 ⟨x, H1, I1, r1, q1⟩ => ?_)
  refine wpAny_Slice (thn (hl pins s1 σ H1 _ I1 q1) fun vl s2 ⟨l, H2, I2, pl, q2⟩ => thn (hu pins s2 σ H2 _ I2 q2) fun vu s3 ⟨u, H3, I3, pu, q3⟩ => ?_)
  rw [evalPart_none]
  refine wpAny_pure ?_
  have I4 : Inv X pins σ H3 { s3 with heap := s3.heap.push { cls := .type "slice", data := .fields #[vl, vu, .none] } } := I3.kept (t' := s3.toks) fun b ob q => Heap.get?_push_of_some _ q
  obtain ⟨T, id, hT, ht, hg⟩ := hr pins { s3 with heap := s3.heap.push { cls := .type "slice", data := .fields #[vl, vu, .none] } } σ H3 x v vl vu l u s3.heap.objs.size Q I4 r1 (Heap.IsSliceOf.new ..) pl pu q3
  show wpAny (model X.prog X.w) X.A (subscriptTail e (.Slice lo hi none p2) v (.ref s3.heap.objs.size)) (EP X pins σ Q) X.xe { s3 with heap := s3.heap.push { cls := .type "slice", data := .fields #[vl, vu, .none] } }
  exact tail_any (ops := [.ref s3.heap.objs.size, v]) ht hT hg (by with_unfolding_all rfl)

/-- the items of xs[lo:hi] -/
def cutV (xs : List V) (lo hi : Option Int) : List V := (xs.drop (HT.sIx xs.length 0 lo)).take (HT.sIx xs.length xs.length hi - HT.sIx xs.length 0 lo)
theorem cutV_length (xs : List V) (lo hi : Option Int) : (cutV xs lo hi).length ≤ xs.length := by
  unfold cutV
  rw [List.length_take, List.length_drop]
  omega
/-- t[lo:hi], not the whole of it (the whole would be t itself) -/
def rSlT (K : PySem.W.Frag) : V → Option Int → Option Int → Hp → VK → Prop := fun x lo hi H Q => ∃ a xs, x = .ref a ∧ SqT K H a xs ∧
  ¬ (HT.sIx xs.length 0 lo = 0 ∧ HT.sIx xs.length xs.length hi = xs.length) ∧ ∀ p, H p = none → Q (.ref p) (upd H p (.tup (cutV xs lo hi)))
def rLtT (K : PySem.W.Frag) : R2 := fun x y H Q => ∃ a b ns ms, x = .ref a ∧ y = .ref b ∧ SqT K H a (ns.map V.int) ∧ SqT K H b (ms.map V.int) ∧ Q (.bl (HT.lexLt ns ms)) H
/-- t + u, t not empty: u empty gives t itself -/
def rCatT (K : PySem.W.Frag) : R2 := fun x y H Q => ∃ a b xs ys, x = .ref a ∧ y = .ref b ∧ SqT K H a xs ∧ SqT K H b ys ∧ xs ≠ [] ∧ xs.length + ys.length ≤ sizeLine ∧
  (ys = [] → Q (.ref a) H) ∧ (ys ≠ [] → ∀ p, H p = none → Q (.ref p) (upd H p (.tup (xs ++ ys))))
end
end L2

namespace L2
open PySem PySem.Spec PyProof.Rows

/-- the place that an index of any sign means -/
def ixN (n : Nat) (i : Int) : Option Nat := if 0 ≤ i then (if i < n then some i.toNat else none) else if -(n : Int) ≤ i then some (i + n).toNat else none
def atI {α : Type} (xs : List α) (i : Int) : Option α := (ixN xs.length i).bind fun j => xs[j]?
theorem ixN_seq {n : Nat} {i : Int} {j : Nat} (h : ixN n i = some j) : seqIndex? i n = some j ∧ j < n ∧ -(n : Int) ≤ i ∧ i < n := by
  unfold ixN at h
  by_cases h0 : 0 ≤ i
  · rw [if_pos h0] at h
    by_cases h1 : i < n
    · rw [if_pos h1] at h
      have e : i.toNat = j := Option.some.inj h
      exact ⟨by rw [seqIndex_of h0 h1, e], by omega, by omega, h1⟩
    · rw [if_neg h1] at h; cases h
  · rw [if_neg h0] at h
    by_cases h1 : -(n : Int) ≤ i
    · rw [if_pos h1] at h
      have e : (i + n).toNat = j := Option.some.inj h
      exact ⟨by rw [seqIndex_neg (by omega) h1, e], by omega, h1, by omega⟩
    · rw [if_neg h1] at h; cases h
theorem atI_get {α : Type} {xs : List α} {i : Int} {v : α} (h : atI xs i = some v) : ∃ j, seqIndex? i xs.length = some j ∧ xs[j]? = some v ∧ j < xs.length ∧ -(xs.length : Int) ≤ i ∧ i < xs.length := by
  unfold atI at h
  cases e : ixN xs.length i with
  | none => rw [e] at h; cases h
  | some j =>
    rw [e] at h
    obtain ⟨h1, h2, h3, h4⟩ := ixN_seq e
    exact ⟨j, h1, h, h2, h3, h4⟩
theorem atI_nat {α : Type} {xs : List α} {j : Nat} {v : α} (h : xs[j]? = some v) : atI xs (j : Int) = some v := by
  have hj : j < xs.length := (List.getElem?_eq_some_iff.mp h).1
  have e : ixN xs.length (j : Int) = some j := by
    unfold ixN
    rw [if_pos (by omega), if_pos (by omega)]; simp
  unfold atI; rw [e]; exact h
theorem atI_last {α : Type} (xs : List α) (v : α) : atI (xs ++ [v]) (-1) = some v := by
  have hl : (xs ++ [v]).length = xs.length + 1 := by simp
  have e : ixN (xs ++ [v]).length (-1) = some xs.length := by
    unfold ixN
    rw [hl, if_neg (by decide), if_pos (by omega)]
    congr 1
    omega
  unfold atI
  rw [e]
  show (xs ++ [v])[xs.length]? = some v
  simp

/-- what stands as an index of a plain subscript -/
def PlainIx (b : Expr) : Prop := ∀ o i, subscripted b false o i = operate [o, i] (getItem o i)
/-- a subscript by values -/
def IxR (X : Cx) (r : R2) : Prop :=
  ∀ (value slice : Expr) (pins : List (Addr × Obj)) (s : Shared) (σ : St) (H : Hp) (x y : V) (v u : Value) (Q : VK), Inv X pins σ H s → RelV x v → RelV y u → r x y H Q →
    subscripted slice false v u = operate [v, u] (getItem v u) → wpAny (model X.prog X.w) X.A (subscriptTail value slice v u) (EP X pins σ Q) X.xe s
/-- a call of a builtin's method by values: the receiver, the arguments -/
def MtR (X : Cx) (id : String) (r : V → List V → Hp → VK → Prop) : Prop :=
  ∀ (pins : List (Addr × Obj)) (s : Shared) (σ : St) (H : Hp) (x : V) (xs : List V) (v : Value) (us : List Value) (Q : VK), Inv X pins σ H s → RelV x v → Vals xs us → r x xs H Q →
    wpAny (model X.prog X.w) X.A (call (.builtin id) (v :: us)) (EP X pins σ Q) X.xe s
section
variable {X : Cx} {a b : Expr} {ta tb : TE} {pos : Pos}
/-- a[b] -/
theorem pe_ix {r : R2} (hr : IxR X r) (ha : PE X a ta) (hb : PE X b tb) (hs : PlainIx b) : PE X (.Subscript a b pos) (tOp r ta tb) := by
  intro pins s σ H Q I h
  exact Subscript_ (binT ha hb I h fun v u s2 x y H2 I2 rx ry q => hr a b pins s2 σ H2 x y v u Q I2 rx ry q (hs _ _))

def rIxL (K : PySem.W.Frag) : R2 := fun x y H Q => ∃ p xs i v, x = .ref p ∧ y = .int i ∧ SqL K H p xs ∧ atI xs i = some v ∧ Q v H
def rIxT (K : PySem.W.Frag) : R2 := fun x y H Q => ∃ p xs i v, x = .ref p ∧ y = .int i ∧ SqT K H p xs ∧ atI xs i = some v ∧ Q v H
def rIxS : R2 := fun x y H Q => ∃ z i c, x = .str z ∧ y = .int i ∧ z.length ≤ sizeLine ∧ atI z.cps.toList i = some c ∧ Q (.str ⟨#[c]⟩) H
theorem ix_list : IxR X (rIxL X.K) := by
  intro value slice pins s σ H x y v u Q I rx ry h hs
  obtain ⟨p, xs, i, z, rfl, rfl, hq, he, q⟩ := h
  cases rx
  obtain ⟨t, rfl⟩ := ry
  obtain ⟨its, r, pl, hz⟩ := I.list hq
  obtain ⟨j, h1, h2, h3, h4, h5⟩ := atI_get he
  obtain ⟨w, ew, rw'⟩ := r.get h2
  have hl := r.length
  have hn := line63
  have fin : EP X pins σ Q w s := ⟨z, H, I, rw', q⟩
  by_cases h0 : 0 ≤ i
  · have hj : i.toNat = j := by
      rw [seqIndex_of h0 h5] at h1
      exact Option.some.inj h1
    exact item_listR pl.isList h0 (by omega) (by rw [hj]; simpa using ew) fin hs
  · have hj : (i + (its.toArray.size : Int)).toNat = j := by
      rw [seqIndex_neg (by omega) h4] at h1
      rw [List.size_toArray, ← hl]
      exact Option.some.inj h1
    exact subscriptTail_builtinR (x := w) pl.isList.typeIs slot_list_getitem.lookup
      (wpAny_getItem_list_neg (Q := fun r s' => r = w ∧ EP X pins σ Q r s') pl.isList (by omega) (by rw [List.size_toArray] <;> omega) (by omega) (by rw [hj]; simpa using ew) ⟨rfl, fin⟩) hs
theorem ix_tup : IxR X (rIxT X.K) := by
  intro value slice pins s σ H x y v u Q I rx ry h hs
  obtain ⟨p, xs, i, z, rfl, rfl, hq, he, q⟩ := h
  cases rx
  obtain ⟨t, rfl⟩ := ry
  obtain ⟨its, r, pl, hz⟩ := I.tuple hq
  obtain ⟨j, h1, h2, h3, h4, h5⟩ := atI_get he
  obtain ⟨w, ew, rw'⟩ := r.get h2
  have hl := r.length
  have hn := line63
  have fin : EP X pins σ Q w s := ⟨z, H, I, rw', q⟩
  exact subscriptTail_builtinR (x := w) pl.typeIs slot_tuple_getitem.lookup
    (getItem_tuple (j := j) (Q := fun r s' => r = w ∧ EP X pins σ Q r s') pl (by omega) (by omega) (by rw [List.size_toArray, ← hl]; exact h1) (by simpa using ew) ⟨rfl, fin⟩) hs
theorem ix_str : IxR X rIxS := by
  intro value slice pins s σ H x y v u Q I rx ry h hs
  obtain ⟨z, i, c, rfl, rfl, hz, he, q⟩ := h
  obtain ⟨t, rfl⟩ := rx
  obtain ⟨t', rfl⟩ := ry
  obtain ⟨j, h1, h2, h3, h4, h5⟩ := atI_get he
  have hl : z.cps.toList.length = z.length := by simp [Str.length]
  rw [hl] at h1 h4 h5
  have hn := line63
  exact tail_any (typeIs_str s z t) slot_str_getitem.lookup (getItem_str (c := c) (by
    have e1 : decide (i < -(2 ^ 63 : Int)) = false := decide_eq_false (by omega)
    have e2 : decide (i ≥ 2 ^ 63) = false := decide_eq_false (by omega)
    rw [e1, e2, Bool.or_false]) (by rw [h1]; simpa using h2) ⟨.str ⟨#[c]⟩, H, I.tok _, ⟨_, rfl⟩, q⟩) hs
/-- list, tuple or str -/
def rIx (K : PySem.W.Frag) : R2 := fun x y H Q => rIxL K x y H Q ∨ rIxT K x y H Q ∨ rIxS x y H Q
theorem Inv.lst {pins : List (Addr × Obj)} {σ : St} {H : Hp} {s : Shared} {p : Addr} {xs : List V} (I : Inv X pins σ H s) (h : H p = some (.lst xs)) :
    ∃ (its : List Value) (n : Nat), Vals xs its ∧ s.heap.get? p = some { cls := .type "list", data := .seq its.toArray n } ∧ xs.length ≤ sizeLine := by
  obtain ⟨z, its, n, r, e⟩ := I.hok p _ h
  exact ⟨its, n, r, e, z⟩
def rSetL : V → V → V → Hp → (Hp → Prop) → Prop := fun o i v H Q => ∃ p xs k j, o = .ref p ∧ i = .int k ∧ H p = some (.lst xs) ∧ ixN xs.length k = some j ∧ Q (upd H p (.lst (xs.set j v)))
theorem slice_bounds (lo hi : Option Int) (n : Nat) : (sliceBounds lo hi none n).1 = ((HT.sIx n 0 lo : Nat) : Int) ∧ (sliceBounds lo hi none n).2.1 = ((HT.sIx n n hi : Nat) : Int) ∧ (sliceBounds lo hi none n).2.2 = 1 := by
  refine ⟨?_, ?_, rfl⟩
  · cases lo with
    | none => simp [sliceBounds, HT.sIx]
    | some i =>
      simp only [sliceBounds, HT.sIx, Option.getD_none, show (1 : Int) > 0 by decide, if_true]
      by_cases h : i < 0
      · simp only [h, if_true] <;> omega
      · simp only [h, if_false] <;> omega
  · cases hi with
    | none => simp [sliceBounds, HT.sIx]
    | some i =>
      simp only [sliceBounds, HT.sIx, Option.getD_none, show (1 : Int) > 0 by decide, if_true]
      by_cases h : i < 0
      · simp only [h, if_true] <;> omega
      · simp only [h, if_false] <;> omega
theorem slicePick_cut (its : List Value) (lo hi : Option Int) : slicePick its.toArray lo hi none = ((its.drop (HT.sIx its.length 0 lo)).take (HT.sIx its.length its.length hi - HT.sIx its.length 0 lo)).toArray := by
  obtain ⟨h1, h2, h3⟩ := slice_bounds lo hi its.toArray.size
  unfold slicePick
  rw [h1, h2, h3]
  simp only [sliceRange_one, pick_run, List.size_toArray] <;> rfl
/-- xs[lo:hi] of a list: a new list -/
def rSlL (K : PySem.W.Frag) : V → Option Int → Option Int → Hp → VK → Prop := fun x lo hi H Q => ∃ a xs, x = .ref a ∧ SqL K H a xs ∧ ∀ p, H p = none → Q (.ref p) (upd H p (.lst (cutV xs lo hi)))
theorem sl_list : SlR X (rSlL X.K) := by
  intro pins s σ H x v vl vu lo hi sl Q I rx hs pl pu h
  obtain ⟨a, xs, rfl, hx, q⟩ := h
  cases rx
  obtain ⟨its, r, ht, hz⟩ := I.list hx
  have hlen := r.length
  refine ⟨"list", _, slot_list_getitem.lookup, ht.isList.typeIs, ?_⟩
  refine wpAny_getItem_list_slice ht.isList hs pl pu .none (by simp) ?_ (by rw [List.size_toArray] <;> omega)
  rw [slicePick_cut, ← hlen]
  refine ⟨.ref s.heap.objs.size, _, I.laid (t' := s.toks) (o := .lst (cutV xs lo hi)) (fun b ob q => Heap.get?_push_of_some _ q) (Nat.le_refl _) ?_, rfl, q _ (I.hok.fresh (Nat.le_refl _))⟩
  exact ⟨Nat.le_trans (cutV_length xs lo hi) hz, _, 0, (r.drop (HT.sIx xs.length 0 lo)).take (HT.sIx xs.length xs.length hi - HT.sIx xs.length 0 lo), Heap.get?_push_size _ rfl⟩

def flatV : V → Bool
  | .non => true
  | .bl _ => true
  | .int _ => true
  | .str _ => true
  | _ => false
/-- == of flat values -/
def eqV : V → V → Bool
  | .non, .non => true
  | .bl a, .bl b => a == b
  | .bl a, .int b => (if a then 1 else 0) == b
  | .int a, .bl b => a == (if b then 1 else 0)
  | .int a, .int b => a == b
  | .str a, .str b => a == b
  | _, _ => false
theorem eqAt_V {A : Around} {s : Shared} {y x : V} {u v : Value} (ry : RelV y u) (rx : RelV x v) (fy : flatV y = true) (fx : flatV x = true) : SeqAt.EqAt A s u v (eqV y x) := by
  cases y with
  | non =>
    cases ry
    cases x with
    | non => cases rx; exact SeqAt.EqAt.same _
    | bl b => cases rx; exact SeqAt.EqAt.none_bool b
    | int b => obtain ⟨t, rfl⟩ := rx; exact SeqAt.EqAt.none_int b t
    | str b => obtain ⟨t, rfl⟩ := rx; exact SeqAt.EqAt.none_str b t
    | _ => exact absurd (show false = true from fx) Bool.false_ne_true
  | bl a =>
    cases ry
    cases x with
    | non => cases rx; exact SeqAt.EqAt.bool_none a
    | bl b => cases rx; exact SeqAt.EqAt.bool_bool a b
    | int b => obtain ⟨t, rfl⟩ := rx; exact SeqAt.EqAt.bool_int a b t
    | str b => obtain ⟨t, rfl⟩ := rx; exact SeqAt.EqAt.bool_str a b t
    | _ => exact absurd (show false = true from fx) Bool.false_ne_true
  | int a =>
    obtain ⟨t', rfl⟩ := ry
    cases x with
    | non => cases rx; exact SeqAt.EqAt.int_none a t'
    | bl b => cases rx; exact SeqAt.EqAt.int_bool a t' b
    | int b => obtain ⟨t, rfl⟩ := rx; exact SeqAt.EqAt.int_int a t' b t
    | str b => obtain ⟨t, rfl⟩ := rx; exact SeqAt.EqAt.int_str a t' b t
    | _ => exact absurd (show false = true from fx) Bool.false_ne_true
  | str a =>
    obtain ⟨t', rfl⟩ := ry
    cases x with
    | non => cases rx; exact SeqAt.EqAt.str_none a t'
    | bl b => cases rx; exact SeqAt.EqAt.str_bool a t' b
    | int b => obtain ⟨t, rfl⟩ := rx; exact SeqAt.EqAt.str_int a t' b t
    | str b => obtain ⟨t, rfl⟩ := rx; exact SeqAt.EqAt.str_str a t' b t
    | _ => exact absurd (show false = true from fx) Bool.false_ne_true
  | _ => exact absurd (show false = true from fy) Bool.false_ne_true
/-- the items' answers, read off the values (a value's own answer does not lean on its token) -/
def eqU (x : V) (u : Value) : Bool := match u with
  | .none => eqV .non x
  | .bool b => eqV (.bl b) x
  | .int i _ => eqV (.int i) x
  | .str z _ => eqV (.str z) x
  | _ => false
theorem eqU_of {x y : V} {u : Value} (r : RelV y u) (f : flatV y = true) : eqU x u = eqV y x := by
  cases y with
  | non => cases r; rfl
  | bl b => cases r; rfl
  | int i => obtain ⟨t, rfl⟩ := r; rfl
  | str z => obtain ⟨t, rfl⟩ := r; rfl
  | _ => exact absurd (show false = true from f) Bool.false_ne_true
theorem any_eqU {x : V} : ∀ {xs : List V} {us : List Value}, Vals xs us → xs.all flatV = true → us.any (eqU x) = xs.any fun y => eqV y x
  | _, _, .nil, _ => rfl
  | y :: xs, u :: us, .cons r t, f => by
    rw [List.all_cons, Bool.and_eq_true] at f
    rw [List.any_cons, List.any_cons, eqU_of r f.1, any_eqU t f.2]
theorem mem_eqAt {A : Around} {s : Shared} {x : V} {v : Value} (rx : RelV x v) (fx : flatV x = true) : ∀ {xs : List V} {us : List Value}, Vals xs us → xs.all flatV = true → ∀ u ∈ us, SeqAt.EqAt A s u v (eqU x u)
  | _, _, .nil, _ => fun u hu => by cases hu
  | y :: xs, u :: us, .cons r t, f => fun u' hu => by
    rw [List.all_cons, Bool.and_eq_true] at f
    rcases List.mem_cons.mp hu with rfl | hu
    · rw [eqU_of r f.1]; exact eqAt_V r rx f.1 fx
    · exact mem_eqAt rx fx t f.2 u' hu
def inV (x : V) (xs : List V) : Bool := xs.any fun y => eqV y x
/-- x in a list or tuple of flat items -/
def rIn (K : PySem.W.Frag) (neg : Bool) : R2 := fun x y H Q => ∃ p xs, y = .ref p ∧ (SqL K H p xs ∨ SqT K H p xs) ∧ flatV x = true ∧ xs.all flatV = true ∧ Q (.bl (if neg then !inV x xs else inV x xs)) H
theorem op_notIn_seq : OpR X (compareOp .NotIn) (rIn X.K true) := by
  intro pins s σ H x y v u Q I rx ry h
  obtain ⟨p, xs, rfl, hq, fx, fs, q⟩ := h
  cases ry
  rcases hq with hq | hq
  · obtain ⟨its, r, pl, hz⟩ := I.list hq
    refine SeqAt.notIn_listAt (eqU x) pl.isList (fun w hw => mem_eqAt rx fx r fs w (by simpa using hw)) ⟨.bl _, H, I, rfl, ?_⟩
    rw [show its.toArray.any (eqU x) = its.any (eqU x) by simp, any_eqU r fs]
    exact q
  · obtain ⟨its, r, pl, hz⟩ := I.tuple hq
    refine SeqAt.notIn_tupleAt (eqU x) pl (fun w hw => mem_eqAt rx fx r fs w (by simpa using hw)) ⟨.bl _, H, I, rfl, ?_⟩
    rw [show its.toArray.any (eqU x) = its.any (eqU x) by simp, any_eqU r fs]
    exact q
theorem call_len_seq : CallR X (.builtin "len") (fun xs H Q => ∃ p ys, xs = [.ref p] ∧ (SqL X.K H p ys ∨ SqT X.K H p ys) ∧ Q (.int ys.length) H) := by
  intro pins s σ H xs us Q I r h
  obtain ⟨p, ys, rfl, hq, q⟩ := h
  obtain ⟨u, rfl, rx⟩ := vals1 r
  cases rx
  have hn := line63
  rcases hq with hq | hq
  · obtain ⟨its, r', pl, hz⟩ := I.list hq
    have hlen := r'.length
    exact Calls.call_len_list pl.isList (by simp only [List.size_toArray] <;> omega) ⟨.int ys.length, H, I.tok _, ⟨s.toks + 1, by rw [List.size_toArray, hlen]⟩, q⟩
  · obtain ⟨its, r', pl, hz⟩ := I.tuple hq
    have hlen := r'.length
    exact len_tuple pl (by simp only [List.size_toArray] <;> omega) ⟨.int ys.length, H, I.tok _, ⟨s.toks + 1, by rw [List.size_toArray, hlen]⟩, q⟩
theorem call_len_str : CallR X (.builtin "len") (fun xs H Q => ∃ z, xs = [.str z] ∧ z.length ≤ sizeLine ∧ Q (.int z.length) H) := by
  intro pins s σ H xs us Q I r h
  obtain ⟨z, rfl, hz, q⟩ := h
  obtain ⟨u, rfl, t, rfl⟩ := vals1 r
  have hn := line63
  exact len_str (by omega) ⟨.int z.length, H, I.tok _, ⟨_, rfl⟩, q⟩
theorem call_list_of : CallR X (.type "list") (fun xs H Q => ∃ p ys, xs = [.ref p] ∧ (SqL X.K H p ys ∨ SqT X.K H p ys) ∧ ∀ l, H l = none → Q (.ref l) (upd H l (.lst ys))) := by
  intro pins s σ H xs us Q I r h
  obtain ⟨p, ys, rfl, hq, q⟩ := h
  obtain ⟨u, rfl, rx⟩ := vals1 r
  cases rx
  have fin : ∀ (its : List Value), Vals ys its → ys.length ≤ sizeLine → ∀ (h' : Heap) (c' : Nat), (∀ b o', s.heap.get? b = some o' → h'.get? b = some o') →
      h'.get? s.heap.objs.size = some { cls := .type "list", dict := none, data := .seq its.toArray c', slots := #[] } → EP X pins σ Q (.ref s.heap.objs.size) { s with heap := h' } := fun its r' hz h' c' kp e =>
    ⟨.ref s.heap.objs.size, _, I.laid (t' := s.toks) kp (Nat.le_refl _) (show ObjOk X.prog X.w _ h' _ (.lst ys) from ⟨hz, its, c', r', e⟩), rfl, q _ (I.hok.fresh (Nat.le_refl _))⟩
  rcases hq with hq | hq
  · obtain ⟨its, r', pl, hz⟩ := I.list hq
    have hlen := r'.length
    obtain ⟨o, ho, hc, n, hd⟩ := pl.isList
    exact call_list_seq p (.inl rfl) ho hc hd (fun h' c' kp e => fin its r' hz h' c' kp e) (by simp only [List.size_toArray] <;> omega)
  · obtain ⟨its, r', pl, hz⟩ := I.tuple hq
    have hlen := r'.length
    obtain ⟨o, ho, hc, n, hd⟩ := pl
    exact call_list_seq p (.inr rfl) ho hc hd (fun h' c' kp e => fin its r' hz h' c' kp e) (by simp only [List.size_toArray] <;> omega)
/-- the value is of that builtin type -/
def tyV (K : PySem.W.Frag) (T : String) (x : V) (H : Hp) : Prop := match x with
  | .str _ => T = "str"
  | .int _ => T = "int"
  | .ref p => (T = "list" ∧ ∃ xs, SqL K H p xs) ∨ (T = "tuple" ∧ ∃ o, K.lookup p = some o ∧ o.cls = .type "tuple" ∧ o.dict = none) ∨
      (T = "dict" ∧ ((∃ kvs, H p = some (.dK kvs)) ∨ ∃ kvs, H p = some (.dT kvs))) ∨ (T = "set" ∧ ∃ S n, H p = some (.set S n))
  | _ => False
theorem tyV_is {pins : List (Addr × Obj)} {σ : St} {H : Hp} {s : Shared} {T : String} {x : V} {v : Value} (I : Inv X pins σ H s) (r : RelV x v) (ty : tyV X.K T x H) :
    s.TypeIs v T ∧ ∀ a, v = .ref a → ∃ ob, s.heap.get? a = some ob ∧ ob.dict = none := by
  cases x with
  | str z =>
    obtain ⟨t, rfl⟩ := r
    cases (show T = "str" from ty)
    exact ⟨typeIs_str s z t, fun _ e => nomatch e⟩
  | int i =>
    obtain ⟨t, rfl⟩ := r
    cases (show T = "int" from ty)
    exact ⟨typeIs_int s i t, fun _ e => nomatch e⟩
  | ref p =>
    cases r
    rcases ty with ⟨rfl, xs, hq⟩ | ⟨rfl, o, hk, hc, hd⟩ | ⟨rfl, hk⟩ | ⟨rfl, S, n, hk⟩
    · obtain ⟨its, _, pl, _⟩ := I.list hq
      refine ⟨pl.isList.typeIs, fun a e => ?_⟩
      cases e
      obtain ⟨o, n, e, c, hd, _⟩ := pl
      exact ⟨o, e, hd⟩
    · refine ⟨⟨o, I.kIn p o hk, hc⟩, fun a e => ?_⟩
      cases e
      exact ⟨o, I.kIn _ o hk, hd⟩
    · have z : ∃ o, s.heap.get? p = some o ∧ o.ExactDict := by
        rcases hk with ⟨kvs, hk⟩ | ⟨kvs, hk⟩
        · obtain ⟨_, _, _, _, o, _, _, e, ex, _⟩ := I.hok p _ hk
          exact ⟨o, e, ex⟩
        · obtain ⟨_, _, _, _, o, _, _, e, ex, _⟩ := I.hok p _ hk
          exact ⟨o, e, ex⟩
      obtain ⟨o, e, ex⟩ := z
      refine ⟨⟨o, e, ex.1⟩, fun a e2 => ?_⟩
      cases e2
      exact ⟨o, e, ex.2.1⟩
    · obtain ⟨o, _, _, _, e, ex, _⟩ := I.hok p _ hk
      refine ⟨⟨o, e, ex.1⟩, fun a e2 => ?_⟩
      cases e2
      exact ⟨o, e, ex.2.1⟩
  | _ => exact False.elim ty
abbrev tBM0 (K : PySem.W.Frag) (T : String) (r : V → List V → Hp → VK → Prop) (to : TE) : TE := fun σ H Q => to σ H fun x H1 => tyV K T x H1 ∧ r x [] H1 Q
abbrev tBM (K : PySem.W.Frag) (T : String) (r : V → List V → Hp → VK → Prop) (to : TE) (t : TA) : TE := fun σ H Q => to σ H fun x H1 => tyV K T x H1 ∧ t σ H1 fun xs H2 => r x xs H2 Q
variable {o e : Expr} {es : List Expr} {to : TE} {t : TA} {name : Str} {apos cpos : Pos} {T id : String} {r : V → List V → Hp → VK → Prop}
theorem pe_bm (pa : PlainAttrs T) (slot : Slot T name id) (hty : typeOf (.builtin id) = pure (.type "method_descriptor")) (hm : MtR X id r) (ho : PE X o to) (ha : PA X (e :: es) t)
    (hbase : attributeBase o name X.env (eval o X.env) = eval o X.env := by rfl)
    (hfew : ((backTo cpos (starEach (e :: es) X.env)).all (fun x => !x.1) && (backToKw cpos (keywordEach [] X.env)).all (fun x => x.1.isSome)
      && decide ((e :: es).length + ([] : List Keyword).length + (if ([] : List Keyword).isEmpty then 0 else 1) < 30)) = true := by rfl)
    (hline : (apos.endLine == cpos.line) = true := by rfl) (hs : starEach (e :: es) X.env = (false, eval e X.env) :: starEach es X.env := by rfl) (hplain : (backTo cpos (starEach es X.env)).any (·.1) = false := by rfl) :
    PE X (.Call (.Attribute o name apos) (e :: es) [] cpos) (tBM X.K T r to t) := by
  intro pins s σ H Q I h
  refine wpAny_Call_method_late hbase hfew hline rfl (thn (ho pins s σ H _ I h) fun v s1 ⟨x, H1, I1, r1, ty, q1⟩ => ?_)
  obtain ⟨h1, h2⟩ := tyV_is I1 r1 ty
  refine ⟨T, id, pa, slot, hty, h1, h2, ?_⟩
  have hA := ha cpos pins s1 σ H1 _ I1 q1
  rw [hs] at hA ⊢
  refine Calls.callWith_builtin (by show (false || (backTo cpos (starEach es X.env)).any (·.1)) = false; rw [hplain] <;> rfl) (Calls.evalArgs_plain ?_)
  exact thn hA fun us s2 ⟨vs, H2, I2, r2, q2⟩ => hm pins s2 σ H2 x vs v us Q I2 r1 r2 q2
/- xs.append(e), list.index on a module's tuple .. are MtR facts of 06m -/
end
end L2

namespace L2
open PySem PySem.Spec PyProof.Rows

def MtM (X : Cx) (id : String) (r : V → List V → Hp → VK → Prop) : Prop :=
  ∀ (pins : List (Addr × Obj)) (s : Shared) (σ : St) (H : Hp) (x : V) (xs : List V) (v : Value) (us : List Value) (Q : VK), Inv X pins σ H s → RelV x v → Vals xs us → r x xs H Q →
    wpAny (model X.prog X.w) X.A (call (.builtin id) (v :: us)) (EP X pins σ Q) X.xe s

theorem Vals.one : ∀ {x : V} {us : List Value}, Vals [x] us → ∃ u, us = [u] ∧ RelV x u
  | _, _, .cons r .nil => ⟨_, rfl, r⟩
theorem Vals.two : ∀ {x y : V} {us : List Value}, Vals [x, y] us → ∃ u v, us = [u, v] ∧ RelV x u ∧ RelV y v
  | _, _, _, .cons r (.cons q .nil) => ⟨_, _, rfl, r, q⟩
theorem Vals.zero : ∀ {us : List Value}, Vals [] us → us = []
  | _, .nil => rfl
theorem Vals.dropLast {xs : List V} {us : List Value} (h : Vals xs us) : Vals xs.dropLast us.dropLast := by
  induction h with
  | nil => exact .nil
  | cons r t ih =>
    cases t with
    | nil => exact .nil
    | cons q t' => exact .cons r ih
theorem Vals.eraseIdx : ∀ {xs : List V} {us : List Value} (i : Nat), Vals xs us → Vals (xs.eraseIdx i) (us.eraseIdx i)
  | _, _, _, .nil => .nil
  | _, _, 0, .cons _ t => t
  | _, _, i + 1, .cons r t => .cons r (Vals.eraseIdx i t)
theorem Vals.reverse {xs : List V} {us : List Value} (h : Vals xs us) : Vals xs.reverse us.reverse := by
  induction h with
  | nil => exact .nil
  | cons r t ih => rw [List.reverse_cons, List.reverse_cons]; exact Vals.append ih (.cons r .nil)
theorem Vals.rep {xs : List V} {us : List Value} (h : Vals xs us) : ∀ k : Nat, Vals (List.replicate k xs).flatten (List.replicate k us).flatten
  | 0 => .nil
  | k + 1 => by
    rw [List.replicate_succ, List.replicate_succ, List.flatten_cons, List.flatten_cons]
    exact Vals.append h (Vals.rep h k)
theorem foldl_rep (its : List Value) : ∀ (k : Nat) (acc : List Value),
    List.foldl (fun x1 x2 => x1 ++ x2) acc.toArray (List.replicate k its.toArray) = (acc ++ (List.replicate k its).flatten).toArray
  | 0, acc => by simp
  | k + 1, acc => by
    have e : acc.toArray ++ its.toArray = (acc ++ its).toArray := by simp
    have e2 : (acc ++ its) ++ (List.replicate k its).flatten = acc ++ (List.replicate (k + 1) its).flatten := by
      rw [List.replicate_succ, List.flatten_cons, List.append_assoc]
    rw [← e2, ← foldl_rep its k (acc ++ its), ← e, List.replicate_succ, List.foldl_cons]

section
variable {X : Cx} {pins : List (Addr × Obj)} {σ : St} {H : Hp} {s : Shared} {l b : Addr} {xs ys zs : List V}

theorem Inv.lset {its its' : List Value} {n : Nat} {f : Array Value → Array Value} {t' : Nat} (I : Inv X pins σ H s) (hH : H l = some (.lst xs))
    (e : s.heap.get? l = some { cls := .type "list", data := .seq its.toArray n }) (hf : f its.toArray = its'.toArray) (hv : Vals ys its') (hz : ys.length ≤ sizeLine) :
    Inv X pins σ (upd H l (.lst ys)) { s with heap := s.heap.update l (Obj.mapSeq f), toks := t' } := by
  have q := PySem.IsL.update e f
  rw [hf] at q
  refine I.write (x := l) (e := l) (by rw [hH]; exact trivial) (.inl rfl) (fun b' u hb hu => (Heap.get?_update_other s.heap (Obj.mapSeq f) (Ne.symm hb)).trans hu) ⟨_, q⟩ ?_
  exact ⟨hz, its', _, hv, q⟩
theorem Inv.lnew {its : List Value} {t' : Nat} (I : Inv X pins σ H s) (hv : Vals ys its) (hz : ys.length ≤ sizeLine) :
    Inv X pins σ (upd H s.heap.objs.size (.lst ys)) { s with heap := s.heap.push { cls := .type "list", data := .seq its.toArray }, toks := t' } :=
  I.laid (fun _ _ q => Heap.get?_push_of_some _ q) (Nat.le_refl _) ⟨hz, its, 0, hv, Heap.get?_push_size _ rfl⟩
theorem Inv.fresh (I : Inv X pins σ H s) : H s.heap.objs.size = none := I.hok.fresh (Nat.le_refl _)
theorem Inv.lstM (I : Inv X pins σ H s) (hH : H l = some (.lst xs)) : xs.length ≤ sizeLine ∧ ∃ (its : List Value) (n : Nat), Vals xs its ∧ xs.length = its.length ∧ s.heap.get? l = some { cls := .type "list", data := .seq its.toArray n } := by
  obtain ⟨z, its, n, r, e⟩ := I.hok l _ hH
  exact ⟨z, its, n, r, r.length, e⟩

theorem notLongL {n : Nat} (h : n ≤ sizeLine) : Builtin.List.listTooLong n = false := by
  unfold Builtin.List.listTooLong
  exact decide_eq_false (by omega)
end

section
variable {X : Cx}

def rAppend : V → List V → Hp → VK → Prop := fun x vs H Q => ∃ l xs y, x = .ref l ∧ vs = [y] ∧ H l = some (.lst xs) ∧ xs.length < sizeLine ∧ Q .non (upd H l (.lst (xs ++ [y])))
theorem mt_append : MtM X "list.append" rAppend := by
  intro pins s σ H x vs v us Q I rx rv h
  obtain ⟨l, xs, y, rfl, rfl, hH, hz, q⟩ := h
  cases rx
  obtain ⟨u, rfl, ru⟩ := rv.one
  obtain ⟨z, its, n, r, hl, e⟩ := I.lstM hH
  refine call_meets F.slot_list_append ⟨_, e, rfl⟩ F.entry_list_append (F.args_list_append_2 _ _) (PySem.list_append l its.toArray n u (by rw [List.size_toArray]; omega)) ⟨e, ?_⟩
  refine ⟨.non, _, I.lset (its' := its ++ [u]) hH e (by simp) (r.append (.cons ru .nil)) ?_, rfl, q⟩
  rw [List.length_append, List.length_singleton]
  omega

def rExtend : V → List V → Hp → VK → Prop := fun x vs H Q => ∃ l b xs zs, x = .ref l ∧ vs = [.ref b] ∧ H l = some (.lst xs) ∧ H b = some (.lst zs) ∧ xs.length + zs.length ≤ sizeLine ∧ Q .non (upd H l (.lst (xs ++ zs)))
def rPop : V → List V → Hp → VK → Prop := fun x vs H Q => ∃ l xs y, x = .ref l ∧ vs = [] ∧ H l = some (.lst xs) ∧ xs[xs.length - 1]? = some y ∧ Q y (upd H l (.lst xs.dropLast))
def rPopAt : V → List V → Hp → VK → Prop := fun x vs H Q => ∃ l xs i k y, x = .ref l ∧ vs = [.int i] ∧ H l = some (.lst xs) ∧ -(2 ^ 63) ≤ i ∧ i < 2 ^ 63 ∧ seqIndex? i xs.length = some k ∧ xs[k]? = some y ∧ Q y (upd H l (.lst (xs.eraseIdx k)))
def rReverse : V → List V → Hp → VK → Prop := fun x vs H Q => ∃ l xs, x = .ref l ∧ vs = [] ∧ H l = some (.lst xs) ∧ Q .non (upd H l (.lst xs.reverse))
def rClear : V → List V → Hp → VK → Prop := fun x vs H Q => ∃ l xs, x = .ref l ∧ vs = [] ∧ H l = some (.lst xs) ∧ Q .non (upd H l (.lst []))
def rCat : R2 := fun x y H Q => ∃ l b xs zs, x = .ref l ∧ y = .ref b ∧ H l = some (.lst xs) ∧ H b = some (.lst zs) ∧ xs.length + zs.length ≤ sizeLine ∧ ∀ p, H p = none → Q (.ref p) (upd H p (.lst (xs ++ zs)))
/-- a list times an int (a negative one is nothing) -/
def rRep : R2 := fun x y H Q => ∃ l k xs, x = .ref l ∧ y = .int k ∧ H l = some (.lst xs) ∧ -(2 ^ 63) ≤ k ∧ k < 2 ^ 63 ∧ xs.length * k.toNat ≤ sizeLine ∧
  ∀ p, H p = none → Q (.ref p) (upd H p (.lst (List.replicate k.toNat xs).flatten))
theorem len_rep {α : Type} (xs : List α) (k : Nat) : (List.replicate k xs).flatten.length = k * xs.length := by
  induction k with
  | zero => simp
  | succ k ih => rw [List.replicate_succ, List.flatten_cons, List.length_append, ih, Nat.succ_mul, Nat.add_comm]
theorem op_rep : OpR X (binaryOp .Mult) rRep := by
  intro pins s σ H x y v u Q I rx ry h
  obtain ⟨l, k, xs, rfl, rfl, hH, h1, h2, hz, q⟩ := h
  cases rx
  obtain ⟨t, rfl⟩ := ry
  obtain ⟨z, its, n, r, hl, e⟩ := I.lstM hH
  have hlen : its.toArray.size * k.toNat ≤ sizeLine := by rw [List.size_toArray, ← hl]; exact hz
  have hcap : ¬ its.toArray.size * k.toNat > (2 ^ 63 - 1) / 8 := by
    have : (sizeLine : Nat) ≤ (2 ^ 63 - 1) / 8 := by decide
    omega
  have hfit : ¬ (!Builtin.List.listFitsIndex k) = true := by
    rw [fitsIndex_both h1 h2]
    exact Bool.false_ne_true
  have hlong : ¬ Builtin.List.listTooLong (its.toArray.size * k.toNat) = true := by
    rw [notLongL hlen]
    exact Bool.false_ne_true
  have hnew : List.foldl (fun x1 x2 => x1 ++ x2) #[] (List.replicate (if its.toArray.isEmpty = true then 0 else k.toNat) its.toArray) = (List.replicate k.toNat its).flatten.toArray := by
    have f0 : ∀ m : Nat, List.foldl (fun x1 x2 => x1 ++ x2) #[] (List.replicate m its.toArray) = (List.replicate m its).flatten.toArray := fun m => by
      have := foldl_rep its m []
      rw [List.nil_append] at this
      exact this
    rw [f0]
    cases its with
    | nil => simp
    | cons a r' => rw [if_neg (by simp)]
  refine wpAny_binaryOp_repeat_ref (T := "list") (U := "int") (by decide) ⟨_, e, rfl⟩ (fun s' => typeIs_int s' k t) noFill_list_mul F.fills_int_mul F.slot_int_rmul repeat_list F.slot_int_index.lookup
    (call_meets F.slot_int_rmul (typeIs_int s k t) F.entry_int_rmul (F.args_int_rmul_2 _ _) (int___rmul___int_list k t l its.toArray n)
      ⟨e, rfl, ⟨_, e, rfl⟩, call_meets F.slot_list_mul ⟨_, e, rfl⟩ F.entry_list_mul (F.args_list_mul_2 _ _) (AutoListH.list___mul___list_int_3 l its.toArray n k t hfit hcap hlong) ⟨e, ?_⟩⟩)
  rw [hnew]
  exact ⟨.ref _, _, I.lnew (t' := s.toks) (r.rep k.toNat) (by rw [len_rep, Nat.mul_comm]; exact hz), rfl, q _ I.fresh⟩

end

section
variable {prog : Program} {w : World} {A : Around} {E : Value → Shared → Prop} {s : Shared}
end

section
variable {X : Cx}
end
end L2

namespace Att
open PySem PySem.W PySem.Calls PyProof.Rows

theorem ints_of_wellAll {P : Params} {h : Heap} : ∀ (ns : List Int) (vs : List Value), WellAll P h vs (ns.map WData.int) → IntsAre vs ns := by
  intro ns
  induction ns with
  | nil =>
    intro vs w
    rw [List.map_nil] at w
    cases w
    exact .nil
  | cons n ns ih =>
    intro vs w
    rw [List.map_cons] at w
    cases w with
    | cons a b =>
      cases a
      exact .cons _ _ (ih _ b)

theorem script_of {l : OpenLaw} {n : Nat} (hn : l.most = some n) {P : Params} {h : Heap} {args : List WData} {vals : List Value}
    (hpre : l.row.toRowW.claim.pre args = true) (hwl : WellAll P h vals args) :
    ∃ a vs ns, vals = [Value.ref a] ∧ args = [WData.list (ns.map WData.int)] ∧ h.get? a = some { cls := .type "list", data := .seq vs.toArray } ∧ IntsAre vs ns ∧ ns.length ≤ n := by
  have hsh : WShape.hasAll [] args [.list .int] = true := (pre_splitW hpre).1
  have hc : l.pre.holds [] { args := args } = true := (pre_splitW hpre).2
  obtain ⟨d, r, rfl, h1, h2⟩ := hasAllW_cons hsh
  obtain rfl := hasAllW_nil h2
  obtain ⟨xs, rfl, h3⟩ := hasW_list h1
  obtain ⟨ns, rfl⟩ := items_int h3
  have hlen : ns.length ≤ n := by
    unfold OpenLaw.pre at hc
    have h4 : (WTm.not (.lt (.lit (.int (n : Int))) (.len (.arg 0)))).holds [] { args := [.list (ns.map .int)] } = true := by
      have h4 := (holds_andW hc).1
      rw [hn] at h4
      exact h4
    have h5 := condW_of h4 (w_not (w_lt w_lit (w_len_list (w_arg rfl))))
    rw [List.length_map] at h5
    refine Nat.le_of_not_lt fun q => ?_
    have q' : (n : Int) < ((ns.length : Nat) : Int) := by omega
    first
      | (rw [decide_eq_true q'] at h5; exact absurd h5 (by decide))
      | (simp at h5; omega)
  cases hwl with
  | cons w1 w2 =>
    cases w2
    cases w1 with
    | list ho hall => exact ⟨_, _, ns, rfl, rfl, ho, ints_of_wellAll ns _ hall, hlen⟩

theorem post_true (l : OpenLaw) (args : List WData) : l.row.toRowW.claim.post args (.bool true) args = true :=
  postW_of (r := l.row.toRowW) (X := (true == true))
    (show WShape.has [] (.bool true) .bool = true by first | rfl | decide | simp [WShape.has, WShape.arms, WShape.armsAll])
    (show (WTm.eq .res (.lit (.bool true))).value [] { args := args, res := some (.bool true), after := args } = some (.bool (true == true)) from w_eq_bool (w_res rfl) w_lit) rfl

/-- the same from a codeAny of the CALL (for a layer whose function contracts speak of calls) -/
theorem attach_call {l : OpenLaw} {n : Nat} {q : Program} {loose : List Str} {XP : (Str → Option Value) → Heap → Prop} {YP : World → Heap → Prop} {d : DefRec}
    (hn : l.most = some n) (hdf : d.params.defaults = [])
    (call : ∀ (w : World) (s₀ s₁ : Shared) (mg mb : Str → Option Value) (fa : Addr) (o : Obj) (pm cd doc : Value) (a : Addr) (vs : List Value) (ns : List Int),
      Ground q loose [] XP w s₀ mg mb s₁.heap → YP w s₁.heap →
      s₁.heap.get? fa = some o → o.data = .func (docDef d.name d.params d.body d.scope pm cd doc) → s₁.heap.CodeRec cd d.name → mg d.name = some (.ref fa) →
      s₁.heap.get? a = some { cls := .type "list", data := .seq vs.toArray } → IntsAre vs ns → ns.length ≤ n → s₁.gens = #[] →
      codeAny (model l.prog w) callerA (.call (.ref fa) ⟨[.ref a], []⟩) (fun r s' => r = .ok (.ret (.bool true)) ∧ OldK s₁.heap s'.heap ∧ s'.os = s₁.os ∧ AllBare s'.gens) s₁) :
    WalkO q loose XP YP l.row.toRowW d [] (fun f vs => PySem.call f vs) := by
  intro w s₀ s₁ mg mb G Y fa o pm cd doc dV kV ho hd hcd hD hmg hg args vals as hpre hlay hrd hwl hlo
  obtain rfl : dV = .none := Dflts.none hD hdf
  obtain rfl : kV = .none := Dflts.noKw hD
  obtain ⟨a, vs, ns, rfl, rfl, hobj, hints, hlen⟩ := script_of hn hpre hwl
  refine enter_call (codeAny_mono (call w s₀ s₁ mg mb fa o pm cd doc a vs ns G Y ho (fd_plain hd) hcd hmg hobj hints hlen hg) fun r s' hq => ?_)
  obtain ⟨rfl, h2, h3, h4⟩ := hq
  exact ⟨.inl ⟨.bool true, .bool true, [], rfl, fun _ => rfl, .bool true, post_true l _, fun _ => ⟨List.Pairwise.nil, fun _ hm => (nomatch hm)⟩⟩, h2, h3, h4⟩

section
variable {prog : Program} {w : World} {A : Around} {E : Value → Shared → Prop} {s : Shared} {K : Frag}

def noObjs (h : Heap) : Heap := { h with objs := #[] }
def ledger (h : Heap) (L d : Addr) : List (Addr × Obj) := (List.range h.objs.size).filterMap fun a => if a = L ∨ a = d then none else (h.get? a).map fun o => (a, o)
end
end Att

namespace L2
open PySem PySem.Spec PyProof.Rows

theorem vals_ints : ∀ {vs : List Value} {ns : List Int}, IntsAre vs ns → Vals (ns.map V.int) vs
  | _, _, .nil => .nil
  | _, _, .cons n t h => .cons ⟨t, rfl⟩ (vals_ints h)

/-- nothing is tracked but the script, known to the object (or it is an object of the module) -/
def Only (H : Hp) : Prop := ∀ b, H b = none ∨ ∃ o xs, H b = some (.frz o (.lst xs))

/-- THE HEAD: the law's promise, at the heap behind the top. F, the promise of the law's def, may use that base is part of the heap (so K.In base, base.Ns mainGlobals mg stand in Mod) -/
theorem law_call {P : Program} {w : World} {K : PySem.W.Frag} {mg mb : Str → Option Value} {CX : CXT} {k : Nat} {fa a : Addr} {fd : FuncData} {x : Str} {sp : Sp} {s₁ : Shared} {vs : List Value} {ns : List Int}
    (KX : K.In s₁.heap) (hns : s₁.heap.Ns mainGlobals mg) (hb : s₁.heap.Ns builtinsNs mb) (hbb : ∀ x : Str, x ≠ "__name__" → mb x = bootBuiltins x) (hlim : s₁.heap.NoLimit) (hg : s₁.gens = #[])
    (ha : s₁.heap.get? a = some { cls := .type "list", data := .seq vs.toArray }) (hi : IntsAre vs ns) (hl : ns.length ≤ sizeLine) (hr : Room k callerA)
    (F : ∀ base : Heap, K.In base → base.Ns mainGlobals mg → FnOk P w K mg base CX k fa fd [x] sp) (hbind : ∀ (s : Shared) (u : Value), BindsTo s fd ⟨[u], []⟩ [(x, u)])
    (hsp : ∀ H : Hp, Only H → SqL K H a (ns.map V.int) → sp [.ref a] H (fun v _ => v = .bl true) fun _ _ _ => False)
    (hCX : ∀ H e s', CX [] H s₁ (fun _ _ _ => False) e s' → False) :
    codeAny (model P w) callerA (.call (.ref fa) ⟨[.ref a], []⟩) (fun r s' => r = .ok (.ret (.bool true)) ∧ OldK s₁.heap s'.heap ∧ s'.os = s₁.os ∧ AllBare s'.gens) s₁ := by
  have rv := vals_ints hi
  have lenV := hi.length
  -- from an abstract heap in which nothing but the script may be tracked
  have core : ∀ H : Hp, Only H → SqL K H a (ns.map V.int) → HOk P w H s₁.heap → (∀ b, H b ≠ none → b = a) → (H a ≠ none → K.lookup a = none) →
      codeAny (model P w) callerA (.call (.ref fa) ⟨[.ref a], []⟩) (fun r s' => r = .ok (.ret (.bool true)) ∧ OldK s₁.heap s'.heap ∧ s'.os = s₁.os ∧ AllBare s'.gens) s₁ := by
    intro H hO hS hok hA hK
    have base_of : ∀ {b : Addr} {o : Obj}, s₁.heap.get? b = some o → H b = none → (hidT s₁.heap H).get? b = some o := fun e n => hidT_get e n
    have noA : ∀ {b : Addr} {o : Obj} {es : Array DictEntry} {ep : Nat}, s₁.heap.get? b = some o → o.data = .dict es ep → H b = none := fun {b o es ep} e d => by
      cases q : H b with
      | none => rfl
      | some u =>
        have e' : b = a := hA b (by rw [q]; simp)
        subst e'
        rw [ha] at e; cases e
        have d' : Data.seq vs.toArray _ = Data.dict es ep := d
        cases d'
    have nsK : ∀ {b : Addr} {m : Str → Option Value}, s₁.heap.Ns b m → (hidT s₁.heap H).Ns b m := fun {b m} ⟨o, es, ep, e, d, r⟩ => ⟨o, es, ep, base_of e (noA e d), d, r⟩
    have hKb : K.In (hidT s₁.heap H) := fun b o e => base_of (KX b o e) (by
      cases q : H b with
      | none => rfl
      | some u =>
        have e' : b = a := hA b (by rw [q]; simp)
        subst e'
        rw [hK (by rw [q]; simp)] at e; cases e)
    have hM : Mod K mg (hidT s₁.heap H) := ⟨hKb, nsK hns, ⟨mb, nsK hb, hbb⟩, let ⟨mc, h1, h2⟩ := hlim; ⟨mc, nsK h1, h2⟩⟩
    have e0 : Env0 P w K mg (hidT s₁.heap H) callerA [] s₁ H := ⟨rfl, hM, fun b o e => of_hidT e, Nat.le_of_eq (hidT_size _ _), trivial, fun b hb => absurd (show b ∈ ([] : List Addr) from hb) (by simp), hok, .of_eq hg⟩
    refine codeAny_mono ((F _ hKb (nsK hns)).run callerA [] s₁ H ⟨[.ref a], []⟩ [.ref a] [.ref a] _ _ hr e0 (hbind s₁ (.ref a)) (.cons rfl .nil) (hsp H hO hS)) fun r s' h => ?_
    cases r with
    | error e => exact (hCX H e s' h).elim
    | ok fl =>
      cases fl with
      | next => exact False.elim h
      | brk => exact False.elim h
      | cont => exact False.elim h
      | ret u =>
        obtain ⟨v, H', os, bare, un, hok', r', q⟩ := h
        have q' : v = .bl true := q
        subst q'
        obtain rfl : u = Value.bool true := r'
        refine ⟨rfl, OldK.of_keep fun b o e => ?_, os, bare⟩
        cases q : H b with
        | none => exact un.keep b o e q (by intro z; exact absurd (show b ∈ ([] : List Addr) from z) (by simp)) (by simp)
        | some u =>
          rcases hO b with z | ⟨ob, xs, z⟩
          · rw [q] at z; cases z
          · have z2 := un.frzs b ob _ z
            obtain ⟨e1, _⟩ := hok b _ z
            obtain ⟨e2, _⟩ := hok' b _ z2
            rw [e] at e1; cases e1
            exact e2
  cases hk : K.lookup a with
  | some o =>
    -- the script is one of the module's own objects
    have e := KX a o hk
    rw [ha] at e
    cases e
    refine core (fun _ => none) (fun _ => .inl rfl) (.inr ⟨_, vs.toArray, _, hk, rfl, rfl, rfl, by rw [List.size_toArray, lenV]; exact hl, by simpa using rv⟩) (fun b u z => by have z' : (none : Option HO) = some u := z; cases z') (fun b z => absurd rfl z) fun z => absurd rfl z
  | none =>
    refine core (fun b => if b = a then some (.frz { cls := .type "list", data := .seq vs.toArray } (.lst (ns.map V.int))) else none) (fun b => ?_) (.inl (.inr ⟨{ cls := .type "list", data := .seq vs.toArray }, if_pos rfl⟩)) (fun b u z => ?_) (fun b z => ?_) fun _ => hk
    · by_cases hb : b = a
      · exact .inr ⟨_, _, if_pos hb⟩
      · exact .inl (if_neg hb)
    · by_cases hb : b = a
      · have z' := (if_pos hb).symm.trans z
        cases z'
        subst hb
        exact ⟨ha, by rw [List.length_map]; exact hl, vs, _, rv, ha⟩
      · have z' := (if_neg hb).symm.trans z
        cases z'
    · by_cases hb : b = a
      · exact hb
      · exact absurd (if_neg hb) z
end L2

namespace L2
open PySem PySem.Spec PyProof.Rows

abbrev KOf {K : PySem.W.Frag} {h : Heap} (_ : K.In h) : PySem.W.Frag := K

/-- the goal that k_head leaves (case hc), from the law's promise. F gives the function object fd (K's own) once, then the promise over every base -/
theorem walk_of {l : PySem.W.OpenLaw} {n k : Nat} {q : Program} {loose : List Str} {XP : (Str → Option Value) → Heap → Prop} {YP : World → Heap → Prop} {d : DefRec} {K : Params → PySem.W.Frag} {CX : World → CXT} {sp : World → Sp} {x : Str}
    (hn : l.most = some n) (hn2 : n ≤ sizeLine) (hdf : d.params.defaults = []) (hr : Room k callerA)
    (hY : ∀ (w : World) (h : Heap), YP w h → (K w.params).In h)
    (F : ∀ (w : World) (mg : Str → Option Value) (fa : Addr) (h : Heap), (K w.params).In h → h.Ns mainGlobals mg → mg d.name = some (.ref fa) →
      ∃ fd : FuncData, (∀ (s : Shared) (u : Value), BindsTo s fd ⟨[u], []⟩ [(x, u)]) ∧
        ∀ base : Heap, (K w.params).In base → base.Ns mainGlobals mg → FnOk l.prog w (K w.params) mg base (CX w) k fa fd [x] (sp w))
    (hsp : ∀ (w : World) (H : Hp) (a : Addr) (ns : List Int), ns.length ≤ n → Only H → SqL (K w.params) H a (ns.map V.int) → sp w [.ref a] H (fun v _ => v = .bl true) fun _ _ _ => False)
    (hCX : ∀ (w : World) (H : Hp) (s : Shared) (e : Value) (s' : Shared), CX w [] H s (fun _ _ _ => False) e s' → False) :
    PySem.W.WalkO q loose XP YP l.row.toRowW d [] (fun f vs => PySem.call f vs) := by
  refine Att.attach_call hn hdf fun w s₀ s₁ mg mb fa o pm cd doc a vs ns G Y ho hd hcd hmg hobj hints hlen hg => ?_
  have KX := hY w _ Y
  obtain ⟨fd, hb, hF⟩ := F w mg fa _ KX G.T.g hmg
  exact law_call KX G.T.g G.T.b G.T.builtins G.T.nolimit hg hobj hints (Nat.le_trans hlen hn2) hr hF hb (fun H hO hS => hsp w H a ns hlen hO hS) fun H e s' => hCX w H s₁ e s'
end L2



namespace L2
open PySem PySem.Spec PyProof.Rows

/-- the j-th statement of a class's body -/
def inClass (s : Stmt) (j : Nat) : Stmt := match s with
  | .ClassDef _ _ _ body _ _ _ _ _ _ _ => body.getD j (.Pass ⟨0, 0, 0, 0⟩)
  | _ => .Pass ⟨0, 0, 0, 0⟩
def defArgs (s : Stmt) : Arguments := match s with
  | .FunctionDef _ a _ _ _ _ _ _ _ _ => a
  | _ => { posonlyargs := [], args := [], vararg := none, kwonlyargs := [], kw_defaults := [], kwarg := none, defaults := [] }
def defBody (s : Stmt) : List Stmt := match s with
  | .FunctionDef _ _ b _ _ _ _ _ _ _ => b
  | _ => []
def defScope (s : Stmt) : Scope := match s with
  | .FunctionDef _ _ _ _ _ _ sc _ _ _ => sc
  | _ => { kind := .function, names := [], isGenerator := false, isCoroutine := false }

abbrev CX0 : CXT := fun _ _ _ _ _ _ => False
abbrev E0 : XK := fun _ _ _ => False
theorem pass0 {X : Cx} : Passes CX0 X E0 := fun _ _ _ _ _ _ _ h => h.elim

structure Fun (K : PySem.W.Frag) (x qual : Str) (st : Stmt) (f : Addr) (fd : FuncData) : Prop where
  ex : ∃ (oc : Value) (od : Option Addr) (kV doc pm : Value) (an : Option Addr) (cdv ct : Value) (osl : Array (Option Value)),
    fd = PySem.W.fnOf x qual (defArgs st) (defBody st) (defScope st) .none kV doc pm an cdv ct ∧ K.lookup f = some ⟨oc, od, .func fd, osl⟩ ∧ PySem.W.codeIn K cdv qual = true
  kp : PySem.W.keepIn K (.ref f) = true
section
variable {P : Program} {w : World} {K : PySem.W.Frag} {mg : Str → Option Value} {base : Heap}
/-- THE RULE for a def: its body as a term of rules, and the reading of that term -/
theorem Fun.ok {x qual : Str} {st : Stmt} {f : Addr} {fd : FuncData} {N ps : List Str} {k : Nat} {sp : Sp} (F : Fun K x qual st f fd) (S : FnScope N ps (defScope st)) (len : ∀ vs H Q E, sp vs H Q E → vs.length = ps.length)
    (hbody : ∀ (cdv : Value) (A : Around) (outer : List Env) (s : Shared) (H : Hp) (vs : List V) (Q : VK) (E : XK), Room k (A.deeper (envOfC qual (defScope st) s.heap.objs.size f cdv)) → sp vs H Q E →
      ∃ t, PSs (cxOf CX0 P w K mg base N qual (defScope st) f cdv A outer s H E).nox (defBody st) t ∧ t { nx := fun _ H' => Q .non H', rt := Q } (start N vs) H) : FnOk P w K mg base CX0 (k + 1) f fd ps sp := by
  obtain ⟨oc, od, kV, doc, pm, an, cdv, ct, osl, rfl, lk, hcd⟩ := F.ex
  refine fn_of lk hcd S len fun A outer s H vs Q E hr hsp => ?_
  obtain ⟨t, h, q⟩ := hbody cdv A outer s H vs Q E hr hsp
  exact ⟨t, h.nox, q⟩
/-- how its arguments bind (no defaults): h is «fun _ _ _ _ _ _ us hl => match us, hl with | [_, _], _ => rfl», one _ a parameter -/
theorem Fun.binds {x qual : Str} {st : Stmt} {f : Addr} {fd : FuncData} {ps : List Str} (F : Fun K x qual st f fd)
    (h : ∀ (kV doc pm : Value) (an : Option Addr) (cdv ct : Value) (us : List Value), us.length = ps.length → bindArgs (PySem.W.fnOf x qual (defArgs st) (defBody st) (defScope st) .none kV doc pm an cdv ct) ⟨us, []⟩ = pure (ps.zip us)) : Binds K fd ps [] := by
  obtain ⟨oc, od, kV, doc, pm, an, cdv, ct, osl, rfl, lk, hcd⟩ := F.ex
  exact .all (h kV doc pm an cdv ct)
theorem fun_mk {x qual : Str} {st : Stmt} {f : Addr} {oc : Value} {od an : Option Addr} {osl : Array (Option Value)} {kV doc pm cdv ct : Value} (l : K.lookup f = some ⟨oc, od, .func (PySem.W.fnOf x qual (defArgs st) (defBody st) (defScope st) .none kV doc pm an cdv ct), osl⟩)
    (c : PySem.W.codeIn K cdv qual = true) (k : PySem.W.keepIn K (.ref f) = true) : Fun K x qual st f (PySem.W.fnOf x qual (defArgs st) (defBody st) (defScope st) .none kV doc pm an cdv ct) := ⟨⟨oc, od, kV, doc, pm, an, cdv, ct, osl, rfl, l, c⟩, k⟩
end
section
variable {X : Cx}
theorem pv (i : Nat) {x : Str} {pos : Pos} (hN : X.N[i]? = some x := by rfl) (hv : Vis X.env.scope x := by first | exact Or.inl rfl | exact Or.inr (Or.inl rfl) | exact Or.inr (Or.inr rfl)) (hd : (x == ("__debug__" : Str)) = false := by decide)
    (hcd : (x == ("__classdict__" : Str)) = false := by decide) : PE X (.Name x pos) (tVar i) := pe_var hN hv hd hcd
end

theorem iteF {A B : Prop} (h : B) : if false = true then A else B := by
  rw [if_neg Bool.false_ne_true]
  exact h
theorem iteT {A B : Prop} (h : A) : if true = true then A else B := by
  rw [if_pos rfl]
  exact h
/-- all that was tracked is as it was -/
def Same (H H' : Hp) : Prop := ∀ b o, H b = some o → H' b = some o
theorem Same.refl (H : Hp) : Same H H := fun _ _ h => h
theorem Same.trans {H H1 H2 : Hp} (a : Same H H1) (b : Same H1 H2) : Same H H2 := fun c o h => b c o (a c o h)
theorem Same.free {H H' : Hp} (e : Same H H') {l : Addr} (h : H' l = Option.none) : H l = Option.none := by
  cases q : H l with
  | none => rfl
  | some o =>
    rw [e l o q] at h
    cases h
theorem Same.seq {K : PySem.W.Frag} {H H' : Hp} {a : Addr} {xs : List V} (e : Same H H') (h : SqL K H a xs) : SqL K H' a xs := by
  rcases h with (h | ⟨o, h⟩) | h
  · exact .inl (.inl (e _ _ h))
  · exact .inl (.inr ⟨o, e _ _ h⟩)
  · exact .inr h

end L2
namespace L2
open PySem PySem.Spec PyProof.Rows

section
variable {κ : Type} [DecidableEq κ]
def valV (kvs : List (κ × V)) (k : κ) : Option V := (kvs.find? fun kv => decide (kv.1 = k)).map (·.2)
/-- in its place, or at the end -/
def putK (kvs : List (κ × V)) (k : κ) (v : V) : List (κ × V) :=
  if (kvs.any fun kv => decide (kv.1 = k)) = true then kvs.map (fun kv => if kv.1 = k then (kv.1, v) else kv) else kvs ++ [(k, v)]
def dropK (kvs : List (κ × V)) (k : κ) : List (κ × V) := kvs.filter fun kv => decide (kv.1 ≠ k)

theorem valV_pos {p : κ × V} {r : List (κ × V)} {k : κ} (e : p.1 = k) : valV (p :: r) k = some p.2 := by simp [valV, List.find?_cons, e]
theorem valV_neg {p : κ × V} {r : List (κ × V)} {k : κ} (e : ¬ p.1 = k) : valV (p :: r) k = valV r k := by simp [valV, List.find?_cons, e]
theorem valV_any (k : κ) : ∀ kvs : List (κ × V), (kvs.any fun kv => decide (kv.1 = k)) = (valV kvs k).isSome
  | [] => rfl
  | p :: r => by
    rw [List.any_cons]
    by_cases e : p.1 = k
    · simp only [valV_pos e, decide_eq_true e, Bool.true_or, Option.isSome_some]
    · rw [valV_neg e, decide_eq_false e, Bool.false_or]; exact valV_any k r
theorem RelO.isSome_eq {o : Option V} {u : Option Value} (r : RelO o u) : o.isSome = u.isSome := by
  cases o with
  | none => cases u with
    | none => rfl
    | some _ => exact (show False from r).elim
  | some _ => cases u with
    | none => exact (show False from r).elim
    | some _ => rfl
theorem RelO.getD {o : Option V} {u : Option Value} {d : V} {d' : Value} (r : RelO o u) (rd : RelV d d') : RelV (o.getD d) (u.getD d') := by
  cases o with
  | none => cases u with
    | none => exact rd
    | some _ => exact (show False from r).elim
  | some _ => cases u with
    | none => exact (show False from r).elim
    | some _ => exact r

/-- raw tables of the same keys -/
theorem KV.val {kvs : List (κ × V)} {vs : List (κ × Value)} (r : KV kvs vs) (k : κ) : RelO (valV kvs k) (valueAt vs k) := by
  unfold KV at r
  induction r with
  | nil => exact True.intro
  | @cons p q ps qs h t ih =>
    obtain ⟨h1, h2⟩ := h
    by_cases e : p.1 = k
    · have e' : q.1 = k := h1.symm.trans e
      have b : valueAt (q :: qs) k = some q.2 := by simp [valueAt, List.find?_cons, e']
      rw [valV_pos e, b]; exact h2
    · have e' : ¬ q.1 = k := fun z => e (h1.trans z)
      have b : valueAt (q :: qs) k = valueAt qs k := by simp [valueAt, List.find?_cons, e']
      rw [valV_neg e, b]; exact ih
theorem KV.any {kvs : List (κ × V)} {vs : List (κ × Value)} (r : KV kvs vs) (k : κ) : (kvs.any fun kv => decide (kv.1 = k)) = vs.any fun kv => decide (kv.1 = k) := by
  unfold KV at r
  induction r with
  | nil => rfl
  | cons h t ih => rw [List.any_cons, List.any_cons, ih, h.1]
theorem KV.repl {kvs : List (κ × V)} {vs : List (κ × Value)} (r : KV kvs vs) (k : κ) {y : V} {u : Value} (ry : RelV y u) :
    KV (kvs.map fun kv => if kv.1 = k then (kv.1, y) else kv) (vs.map fun kv => if kv.1 = k then (kv.1, u) else kv) := by
  unfold KV at r ⊢
  induction r with
  | nil => exact .nil
  | @cons p q ps qs h t ih =>
    rw [List.map_cons, List.map_cons]
    refine .cons ?_ ih
    obtain ⟨h1, h2⟩ := h
    by_cases e : p.1 = k
    · rw [if_pos e, if_pos (h1.symm.trans e)]; exact ⟨h1, ry⟩
    · rw [if_neg e, if_neg (fun z => e (h1.trans z))]; exact ⟨h1, h2⟩
theorem KV.put {kvs : List (κ × V)} {vs : List (κ × Value)} (r : KV kvs vs) (k : κ) {y : V} {u : Value} (ry : RelV y u) : KV (putK kvs k y) (stored vs k u) := by
  unfold putK stored
  rw [r.any k]
  by_cases e : (vs.any fun kv => decide (kv.1 = k)) = true
  · rw [if_pos e, if_pos e]; exact r.repl k ry
  · rw [if_neg e, if_neg e]; exact Paired.snoc r ⟨rfl, ry⟩
theorem KV.drop {kvs : List (κ × V)} {vs : List (κ × Value)} (r : KV kvs vs) (k : κ) : KV (dropK kvs k) (without vs k) := by
  unfold KV at r ⊢
  unfold dropK without
  induction r with
  | nil => exact .nil
  | @cons p q ps qs h t ih =>
    obtain ⟨h1, h2⟩ := h
    rw [List.filter_cons, List.filter_cons]
    by_cases e : p.1 = k
    · have a : ¬ decide (p.1 ≠ k) = true := by simp [e]
      have b : ¬ decide (q.1 ≠ k) = true := by simp [h1.symm.trans e]
      rw [if_neg a, if_neg b]; exact ih
    · have e' : ¬ q.1 = k := fun z => e (h1.trans z)
      have a : decide (p.1 ≠ k) = true := by simp [e]
      have b : decide (q.1 ≠ k) = true := by simp [e']
      rw [if_pos a, if_pos b]; exact .cons ⟨h1, h2⟩ ih
theorem KV.keys {kvs : List (κ × V)} {vs : List (κ × Value)} (r : KV kvs vs) : kvs.map (·.1) = vs.map (·.1) := by
  unfold KV at r
  induction r with
  | nil => rfl
  | cons h t ih => rw [List.map_cons, List.map_cons, ih, h.1]
theorem KV.length {kvs : List (κ × V)} {vs : List (κ × Value)} (r : KV kvs vs) : kvs.length = vs.length := Paired.length r
end


/-- raw entries of a dict with tuple keys -/
abbrev KT (H : Hp) : List (List Key × V) → List (List Key × Addr × Value) → Prop := Paired fun p q => p.1 = q.1 ∧ H q.2.1 = some (.tup (p.1.map kV)) ∧ RelV p.2 q.2.2
theorem KT.val {H : Hp} {kvs : List (List Key × V)} {xs : List (List Key × Addr × Value)} (r : KT H kvs xs) (k : List Key) : RelO (valV kvs k) ((atKey xs k).map (·.2)) := by
  induction r with
  | nil => exact True.intro
  | @cons p q ps qs h t ih =>
    obtain ⟨h1, _, h2⟩ := h
    by_cases e : p.1 = k
    · have e' : q.1 = k := h1.symm.trans e
      have b : atKey (q :: qs) k = some q.2 := by simp [atKey, List.find?_cons, e']
      rw [valV_pos e, b]; exact h2
    · have e' : ¬ q.1 = k := fun z => e (h1.trans z)
      have b : atKey (q :: qs) k = atKey qs k := by simp [atKey, List.find?_cons, e']
      rw [valV_neg e, b]; exact ih
theorem KT.repl {H : Hp} {kvs : List (List Key × V)} {xs : List (List Key × Addr × Value)} (r : KT H kvs xs) (k : List Key) {y : V} {u : Value} (ry : RelV y u) :
    KT H (kvs.map fun kv => if kv.1 = k then (kv.1, y) else kv) (xs.map (putAt k u)) := by
  induction r with
  | nil => exact .nil
  | @cons p q ps qs h t ih =>
    rw [List.map_cons, List.map_cons]
    refine .cons ?_ ih
    obtain ⟨h1, h2, h3⟩ := h
    unfold putAt
    by_cases e : p.1 = k
    · rw [if_pos e, if_pos (h1.symm.trans e)]; exact ⟨h1, h2, ry⟩
    · rw [if_neg e, if_neg (fun z => e (h1.trans z))]; exact ⟨h1, h2, h3⟩
theorem KT.put {H : Hp} {kvs : List (List Key × V)} {xs : List (List Key × Addr × Value)} (r : KT H kvs xs) (k : List Key) {b : Addr} {y : V} {u : Value} (hb : H b = some (.tup (k.map kV))) (ry : RelV y u) :
    KT H (putK kvs k y) (storedH xs k b u) := by
  have e : (kvs.any fun kv => decide (kv.1 = k)) = (atKey xs k).isSome := by
    rw [valV_any, (r.val k).isSome_eq, Option.isSome_map]
  unfold putK storedH
  rw [e]
  by_cases q : (atKey xs k).isSome = true
  · rw [if_pos q, if_pos q]; exact r.repl k ry
  · rw [if_neg q, if_neg q]; exact Paired.snoc r ⟨rfl, hb, ry⟩
theorem KT.keeps {H H' : Hp} {kvs : List (List Key × V)} {xs : List (List Key × Addr × Value)} (r : KT H kvs xs) (ht : ∀ b ys, H b = some (.tup ys) → H' b = some (.tup ys)) : KT H' kvs xs :=
  Paired.mapP r fun _ _ z => ⟨z.1, ht _ _ z.2.1, z.2.2⟩

section
variable {P : Program} {w : World} {H : Hp} {h : Heap} {a : Addr}
end

/-- what the dict at a holds at the key y -/
def DGet (H : Hp) (a : Addr) (y : V) (r : Option V) : Prop :=
  (∃ kvs k, Rd H a (.dK kvs) ∧ y = kV k ∧ r = valV kvs k) ∨ ∃ kvs k b, Rd H a (.dT kvs) ∧ y = .ref b ∧ H b = some (.tup (k.map kV)) ∧ r = valV kvs k
/-- the heap behind a[y] = v -/
def DPut (H : Hp) (a : Addr) (y v : V) (H' : Hp) : Prop :=
  (∃ kvs k, H a = some (.dK kvs) ∧ y = kV k ∧ kvs.length < sizeLine ∧ H' = upd H a (.dK (putK kvs k v))) ∨
  ∃ kvs k b, H a = some (.dT kvs) ∧ y = .ref b ∧ H b = some (.tup (k.map kV)) ∧ kvs.length < sizeLine ∧ H' = upd H a (.dT (putK kvs k v))
theorem DGet.k {H : Hp} {a : Addr} {kvs : List (Key × V)} {k : Key} (e : H a = some (.dK kvs)) : DGet H a (kV k) (valV kvs k) := .inl ⟨kvs, k, .inl e, rfl, rfl⟩
theorem DGet.t {H : Hp} {a b : Addr} {kvs : List (List Key × V)} {k : List Key} (e : H a = some (.dT kvs)) (eb : H b = some (.tup (k.map kV))) : DGet H a (.ref b) (valV kvs k) := .inr ⟨kvs, k, b, .inl e, rfl, eb, rfl⟩
theorem DPut.k {H : Hp} {a : Addr} {kvs : List (Key × V)} {k : Key} {v : V} (e : H a = some (.dK kvs)) (hl : kvs.length < sizeLine) : DPut H a (kV k) v (upd H a (.dK (putK kvs k v))) := .inl ⟨kvs, k, e, rfl, hl, rfl⟩
theorem DPut.t {H : Hp} {a b : Addr} {kvs : List (List Key × V)} {k : List Key} {v : V} (e : H a = some (.dT kvs)) (eb : H b = some (.tup (k.map kV))) (hl : kvs.length < sizeLine) :
    DPut H a (.ref b) v (upd H a (.dT (putK kvs k v))) := .inr ⟨kvs, k, b, e, rfl, eb, hl, rfl⟩


section
variable {X : Cx} {pins : List (Addr × Obj)} {σ : St} {H : Hp} {s : Shared} {a : Addr} {y v : V} {u r : Value} {o : Option V} {A : Around} {E : Value → Shared → Prop}

end

section
variable {X : Cx} {pins : List (Addr × Obj)} {σ : St} {H : Hp} {s : Shared} {a : Addr} {kvs : List (Key × V)} {k : Key} {u : Value} {A : Around} {E : Value → Shared → Prop}
end


/-- the element of a subscription, not a slice -/
def NoSl (i : Expr) : Prop := ∀ ov iv, subscripted i false ov iv = operate [ov, iv] (getItem ov iv)
/-- d[y] -/
def tDGet (td ty : TE) : TE := fun σ H Q => td σ H fun x H1 => ty σ H1 fun y H2 => ∃ a v, x = .ref a ∧ DGet H2 a y (some v) ∧ Q v H2
/-- y in d, y not in d -/
def tDIn (ty td : TE) : TE := fun σ H Q => ty σ H fun y H1 => td σ H1 fun x H2 => ∃ a o, x = .ref a ∧ DGet H2 a y o ∧ Q (.bl o.isSome) H2
def tDNotIn (ty td : TE) : TE := fun σ H Q => ty σ H fun y H1 => td σ H1 fun x H2 => ∃ a o, x = .ref a ∧ DGet H2 a y o ∧ Q (.bl (!o.isSome)) H2
/-- d[y] = v -/
def sDPut (td ty tv : TE) : TS := fun D σ H => tv σ H fun v H1 => td σ H1 fun x H2 => ty σ H2 fun y H3 => ∃ a H4, x = .ref a ∧ DPut H3 a y v H4 ∧ D.nx σ H4
/-- d[y] op= v -/
def sDAug (td ty tv : TE) (rd : V → V → Hp → VK → Prop) : TS := fun D σ H => td σ H fun x H1 => ty σ H1 fun y H2 => ∃ a v, x = .ref a ∧ DGet H2 a y (some v) ∧
  tv σ H2 fun y2 H3 => rd v y2 H3 fun z H4 => ∃ H5, DPut H4 a y z H5 ∧ D.nx σ H5
/-- del d[y] -/
def sDDel (td ty : TE) : TS := fun D σ H => td σ H fun x H1 => ty σ H1 fun y H2 => ∃ a kvs k, x = .ref a ∧ H2 a = some (.dK kvs) ∧ y = kV k ∧ (valV kvs k).isSome = true ∧ D.nx σ (upd H2 a (.dK (dropK kvs k)))

section
variable {X : Cx} {o i e value : Expr} {pos pos' tpos : Pos} {td ty tv : TE}
end


/-- {}, to be a dict of the kind that is wanted -/
def tDNewK : TE := fun _ H Q => ∀ p, H p = none → Q (.ref p) (upd H p (.dK []))
def tDNewT : TE := fun _ H Q => ∀ p, H p = none → Q (.ref p) (upd H p (.dT []))
section
variable {X : Cx} {pos : Pos}
end

/-- the pairs of a display, from the left -/
def tPairs : List (TE × TE) → St → Hp → (List (V × V) → Hp → Prop) → Prop
  | [], _, H, Q => Q [] H
  | (tk, tv) :: r, σ, H, Q => tk σ H fun x H1 => tv σ H1 fun y H2 => tPairs r σ H2 fun ps H3 => Q ((x, y) :: ps) H3
abbrev VV : List (V × V) → List (Value × Value) → Prop := Paired fun p q => RelV p.1 q.1 ∧ RelV p.2 q.2
def PPs (X : Cx) (pos : Pos) (keys : List (Option Expr)) (values : List Expr) (trs : List (TE × TE)) : Prop :=
  ∀ (pins : List (Addr × Obj)) (s : Shared) (σ : St) (H : Hp) (Q : List (V × V) → Hp → Prop), Inv X pins σ H s → tPairs trs σ H Q →
    wpAny (model X.prog X.w) X.A (evalPairs (pairTrees keys values X.env pos)) (fun vs s' => ∃ ps H', Inv X pins σ H' s' ∧ VV ps vs ∧ Q ps H') X.xe s
def mergeK (kvs more : List (Key × V)) : List (Key × V) := more.foldl (fun acc kv => putK acc kv.1 kv.2) kvs
/-- {k: v, ..} with keys ints and texts; the new dict stands empty while the pairs are made -/
def tDisp (trs : List (TE × TE)) : TE := fun σ H Q => ∀ p, H p = none → tPairs trs σ (upd H p (.dK [])) fun ps H2 => H2 p = some (.dK []) ∧ ∃ kvs : List (Key × V), ps = kvs.map (fun kv => (kV kv.1, kv.2)) ∧ kvs.length ≤ 15 ∧ Q (.ref p) (upd H2 p (.dK (mergeK [] kvs)))
/-- a method call o.m(e) of a built-in, with one argument: what must be seen of the text -/
structure M1 (X : Cx) (o : Expr) (m : Str) (apos : Pos) (e : Expr) (cpos : Pos) : Prop where
  base : attributeBase o m X.env (eval o X.env) = eval o X.env
  few : ((backTo cpos (starEach [e] X.env)).all (fun x => !x.1) && (backToKw cpos (keywordEach [] X.env)).all (fun x => x.1.isSome)
    && decide (([e] : List Expr).length + ([] : List Keyword).length + (if ([] : List Keyword).isEmpty then 0 else 1) < 30)) = true
  line : (apos.endLine == cpos.line) = true
  trees : backTo cpos (starEach [e] X.env) = [(false, eval e X.env)]
structure M2 (X : Cx) (o : Expr) (m : Str) (apos : Pos) (e f : Expr) (cpos : Pos) : Prop where
  base : attributeBase o m X.env (eval o X.env) = eval o X.env
  few : ((backTo cpos (starEach [e, f] X.env)).all (fun x => !x.1) && (backToKw cpos (keywordEach [] X.env)).all (fun x => x.1.isSome)
    && decide (([e, f] : List Expr).length + ([] : List Keyword).length + (if ([] : List Keyword).isEmpty then 0 else 1) < 30)) = true
  line : (apos.endLine == cpos.line) = true
  trees : backTo cpos (starEach [e, f] X.env) = [(false, eval e X.env), (false, eval f X.env)]

/-- a is a dict, whatever its keys -/
def IsD (H : Hp) (a : Addr) : Prop := (∃ kvs, Rd H a (.dK kvs)) ∨ ∃ kvs, Rd H a (.dT kvs)
section
variable {X : Cx} {pins : List (Addr × Obj)} {σ : St} {H : Hp} {s : Shared} {a : Addr} {y d : V} {u r : Value} {o : Option V} {A : Around} {E : Value → Shared → Prop}
end

def tDGet1 (td ty : TE) : TE := fun σ H Q => td σ H fun x H1 => ∃ a, x = .ref a ∧ IsD H1 a ∧ ty σ H1 fun y H2 => ∃ o, DGet H2 a y o ∧ Q (o.getD .non) H2
def tDGet2 (td ty tx : TE) : TE := fun σ H Q => td σ H fun x H1 => ∃ a, x = .ref a ∧ IsD H1 a ∧ ty σ H1 fun y H2 => tx σ H2 fun z H3 => ∃ o, DGet H3 a y o ∧ Q (o.getD z) H3
/-- d.pop(k): there; d.pop(k, x): there or not -/
def tDPop1 (td ty : TE) : TE := fun σ H Q => td σ H fun x H1 => ∃ a, x = .ref a ∧ IsD H1 a ∧ ty σ H1 fun y H2 => ∃ kvs k v, H2 a = some (.dK kvs) ∧ y = kV k ∧ valV kvs k = some v ∧ Q v (upd H2 a (.dK (dropK kvs k)))
def tDPop2 (td ty tx : TE) : TE := fun σ H Q => td σ H fun x H1 => ∃ a, x = .ref a ∧ IsD H1 a ∧ ty σ H1 fun y H2 => tx σ H2 fun z H3 => ∃ kvs k, H3 a = some (.dK kvs) ∧ y = kV k ∧
  (∀ v, valV kvs k = some v → Q v (upd H3 a (.dK (dropK kvs k)))) ∧ (valV kvs k = none → Q z H3)
section
variable {X : Cx} {o e f : Expr} {apos cpos : Pos} {td ty tx : TE}
end

section
variable {X : Cx} {pins : List (Addr × Obj)} {σ : St} {H : Hp} {s : Shared} {a : Addr} {kvs : List (Key × V)} {A : Around} {E : Value → Shared → Prop}
end


section
variable {X : Cx} {pins : List (Addr × Obj)} {σ : St} {H : Hp} {s : Shared} {a : Addr} {y : V} {u : Value} {A : Around} {E : Value → Shared → Prop}
end
end L2


set_option Elab.async false
set_option maxRecDepth 100000
namespace L2
open PySem PySem.Spec PyProof.Rows
theorem len_app (x y : Str) : (x ++ y).length = x.length + y.length := by
  show (x.cps ++ y.cps).size = _
  rw [Array.size_append]
  rfl
end L2

set_option Elab.async false
set_option maxRecDepth 100000
namespace L2
open PySem PySem.Spec PyProof.Rows

def tCut (Pv : St → Hp → Prop) (t u : TS) : TS := fun D σ H => t { D with nx := Pv } σ H ∧ ∀ σ H, Pv σ H → u D σ H
def clOf (scope : Scope) (env : Env) : List (Str × Addr) :=
  (scope.names.filterMap fun p => if p.2 == NameKind.free then (env.cells.lookup p.1).map fun c => (p.1, c) else none).reverse

theorem closure_loop {env : Env} : ∀ (names : List (Str × NameKind)) (acc : List (Str × Addr)), (∀ y ∈ names, y.2 = .free → ∃ c, env.cells.lookup y.1 = some c) →
    (forIn names acc fun (x : Str × NameKind) (cs : List (Str × Addr)) => (match x with
      | (name, kind) => if (kind == NameKind.free) = true then do
          let c ← cellOf env name
          pure (ForInStep.yield ((name, c) :: cs))
        else pure (ForInStep.yield cs) : Sem (ForInStep (List (Str × Addr))))) =
      pure ((names.filterMap fun p => if p.2 == NameKind.free then (env.cells.lookup p.1).map fun c => (p.1, c) else none).reverse ++ acc)
  | [], acc, _ => rfl
  | (n, k) :: r, acc, h => by
    rw [List.forIn_cons]
    by_cases hk : k = .free
    · subst hk
      obtain ⟨c, hc⟩ := h (n, .free) List.mem_cons_self rfl
      have e1 : cellOf env n = pure c := by unfold cellOf; rw [hc]
      have ih := closure_loop r ((n, c) :: acc) fun y hy => h y (List.mem_cons_of_mem _ hy)
      simp only [beq_self_eq_true, if_true, e1, pure_bind, List.filterMap_cons, hc, Option.map_some, List.reverse_cons, List.append_assoc, List.singleton_append]
      exact ih
    · have hb : (k == NameKind.free) = false := by simpa using hk
      have ih := closure_loop r acc fun y hy => h y (List.mem_cons_of_mem _ hy)
      simp only [hb, Bool.false_eq_true, if_false, pure_bind, List.filterMap_cons]
      exact ih

theorem closureFor_eq {scope : Scope} {env : Env} (h : ∀ y ∈ scope.names, y.2 = .free → ∃ c, env.cells.lookup y.1 = some c) : closureFor scope env = pure (clOf scope env) := by
  have e := closure_loop (env := env) scope.names [] h
  unfold closureFor
  rw [List.append_nil] at e
  exact (congrArg (· >>= pure) e).trans (by rfl)

theorem clOf_mem {scope : Scope} {env : Env} {y : Str} {c : Addr} (h : (y, c) ∈ clOf scope env) : (y, NameKind.free) ∈ scope.names ∧ env.cells.lookup y = some c := by
  unfold clOf at h
  obtain ⟨⟨n, k⟩, hp, e⟩ := List.mem_filterMap.mp (List.mem_reverse.mp h)
  by_cases hk : k = .free
  · subst hk
    simp only [beq_self_eq_true, if_true] at e
    cases hc : env.cells.lookup n with
    | none => rw [hc] at e; cases e
    | some c' =>
      rw [hc] at e
      have e' : (n, c') = (y, c) := Option.some.inj e
      cases e'
      exact ⟨hp, hc⟩
  · have hb : (k == NameKind.free) = false := by simpa using hk
    simp only [hb, Bool.false_eq_true, if_false] at e
    cases e
theorem clOf_sub {scope : Scope} {env : Env} {y : Str} {c : Addr} (h : (clOf scope env).lookup y = some c) : env.cells.lookup y = some c := (clOf_mem (PySem.mem_of_lookup h)).2
theorem lookup_of_mem {α : Type} {y : Str} : ∀ {l : List (Str × α)} {c : α}, (y, c) ∈ l → ∃ c', l.lookup y = some c'
  | (n, a) :: r, c, h => by
    by_cases e : y = n
    · subst e; exact ⟨a, by simp [List.lookup_cons]⟩
    · have hb : (y == n) = false := by simpa using e
      rcases List.mem_cons.mp h with h | h
      · cases h; exact absurd rfl e
      · obtain ⟨c', h'⟩ := lookup_of_mem h
        exact ⟨c', by simp [List.lookup_cons, hb, h']⟩
theorem clOf_has {scope : Scope} {env : Env} {y : Str} {c : Addr} (h1 : (y, NameKind.free) ∈ scope.names) (h2 : env.cells.lookup y = some c) : (clOf scope env).lookup y = some c := by
  have m : (y, c) ∈ clOf scope env := by
    unfold clOf
    exact List.mem_reverse.mpr (List.mem_filterMap.mpr ⟨(y, .free), h1, by simp [h2]⟩)
  obtain ⟨c', h'⟩ := lookup_of_mem m
  have := clOf_sub h'
  rw [h2] at this
  cases this
  exact h'
theorem relabel_free {scope : Scope} {env : Env} (hcell : ∀ y ∈ scope.names, y.2 ≠ .cell) {y : Str} (h : (relabel scope env).names.lookup y = some .cell ∨ (relabel scope env).names.lookup y = some .free) : (y, NameKind.free) ∈ scope.names := by
  have m : ∃ k, (k = .cell ∨ k = .free) ∧ (y, k) ∈ (relabel scope env).names := by
    rcases h with h | h
    · exact ⟨_, .inl rfl, PySem.mem_of_lookup h⟩
    · exact ⟨_, .inr rfl, PySem.mem_of_lookup h⟩
  obtain ⟨k, hk, hm⟩ := m
  unfold relabel at hm
  obtain ⟨⟨n, k'⟩, hp, e⟩ := List.mem_map.mp hm
  dsimp only at e
  by_cases hf : k' = .free
  · subst hf
    split at e <;> (cases e; exact hp)
  · have hb : (k' == NameKind.free) = false := by simpa using hf
    rw [hb, Bool.false_and, Bool.false_and, if_neg (by decide)] at e
    cases e
    rcases hk with hk | hk
    · exact absurd hk (hcell _ hp)
    · exact absurd hk hf

def cxComp (X : Cx) (N : List Str) (scope : Scope) (C : Addr) (s : Shared) (H : Hp) (fp : List Addr) : Cx where
  prog := X.prog
  w := X.w
  K := X.K
  mg := X.mg
  base := X.base
  A := X.A
  N := N
  s₀ := s
  H₀ := H
  env := compEnvC scope (clOf scope X.env) C X.env
  outer := X.stack
  stack := X.stack
  ex := fp
  fn := fun _ => false
  calm := true
  pn := []
  xe := fun _ _ => False

/-- the captured names and their slots in the frame around -/
def Caps (X : Cx) (scope : Scope) : List Str → List Nat → Prop
  | [], [] => True
  | x :: xs, i :: is => (X.N[i]? = some x ∧ (X.env.scope.names.lookup x = some .cell ∨ X.env.scope.names.lookup x = some .free) ∧ scope.names.lookup x = some .free) ∧ Caps X scope xs is
  | _, _ => False
theorem Caps.len {X : Cx} {scope : Scope} : ∀ {xs : List Str} {is : List Nat}, Caps X scope xs is → is.length = xs.length
  | [], [], _ => rfl
  | _ :: _, _ :: _, h => congrArg (· + 1) (Caps.len h.2)
  | [], _ :: _, h => h.elim
  | _ :: _, [], h => h.elim
theorem Caps.at {X : Cx} {scope : Scope} : ∀ {xs : List Str} {is : List Nat} {j : Nat} {x : Str}, Caps X scope xs is → xs[j]? = some x → ∃ i, is[j]? = some i ∧ X.N[i]? = some x ∧ (X.env.scope.names.lookup x = some .cell ∨ X.env.scope.names.lookup x = some .free) ∧ scope.names.lookup x = some .free
  | [], [], _, _, _, e => by simp at e
  | y :: _, i :: _, 0, x, h, e => by
    simp at e; subst e
    exact ⟨i, rfl, h.1⟩
  | _ :: xs, _ :: is, j + 1, x, h, e => by
    obtain ⟨i, h1, h2⟩ := Caps.at (j := j) h.2 (by simpa using e)
    exact ⟨i, by simpa using h1, h2⟩
  | [], _ :: _, _, _, h, _ => h.elim
  | _ :: _, [], _, _, h, _ => h.elim

/-- the block's slots: the loop's name, then the captured ones -/
def inner (cap : List Nat) (σ : St) : St := none :: cap.map fun i => (σ[i]?).join

def PTs (X : Cx) (ifs : List Expr) (t : TT) : Prop :=
  ∀ (pins : List (Addr × Obj)) (s : Shared) (σ : St) (H : Hp) (Q : Bool → Hp → Prop), Inv X pins σ H s → t σ H Q →
    wpAny (model X.prog X.w) X.A (forIn ifs true fun c r => if r = true then do let ok ← isTrue c X.env (eval c X.env); pure (ForInStep.yield ok) else pure (ForInStep.yield r)) (TP X pins σ Q) X.xe s
def tYes : TT := fun _ H Q => Q true H
theorem pts_nil {X : Cx} : PTs X [] tYes := fun _ _ _ H _ I h => wpAny_tests_nil ⟨H, I, h⟩
theorem pts_one {X : Cx} {c : Expr} {t : TT} (h : PT X c t) : PTs X [c] t := fun pins s σ H Q I q => wpAny_tests_one (h pins s σ H Q I q)

/-- the turn of a list comprehension, the step ahead of the store kept -/
theorem compLoop_any {prog : Program} {w : World} {A : Around} {R : Result → Shared → Prop} {s : Shared} {elt target iter : Expr} {ifs : List Expr} {scope : Scope} {pos : Pos} {it acc : Value} {env : Env} (I : Nat → Shared → Prop)
    (turn : ∀ n s, I n s → wpAny (model prog w) A (pyNext it) (fun r s₁ => match r with
      | none => R (.ok .next) s₁
      | some v => wpAny (model prog w) A (letOwnedTupleGo target it v) (fun _ s₁' => wpAny (model prog w) A (assign target env v) (fun _ s₂ =>
          wpAny (model prog w) A (forIn ifs true fun c r => if r = true then do let ok ← isTrue c env (eval c env); pure (ForInStep.yield ok) else pure (ForInStep.yield r)) (fun ok s₃ =>
            if ok = true then wpAny (model prog w) A (eval elt env) (fun x s₄ =>
              wpAny (model prog w) A (call (.builtin "list.append") [acc, x]) (fun _ s₅ => ∃ m, m < n ∧ I m s₅) (fun _ _ => False) s₄) (fun _ _ => False) s₃
            else ∃ m, m < n ∧ I m s₃) (fun _ _ => False) s₂) (fun _ _ => False) s₁') (fun _ _ => False) s₁) (fun _ _ => False) s)
    (n : Nat) (h : I n s) :
    codeAny (model prog w) A (.compLoop (.ListComp elt [⟨target, iter, ifs, 0⟩] scope pos) 0 it acc env) R s := by
  refine codeAny_loop rfl I (fun n s hI => ?_) n h
  show wpAny _ A ((compTurn (.ListComp elt [⟨target, iter, ifs, 0⟩] scope pos) 0 it acc env).onRaise (fun x => do noteFrame x env; theTreesLotGoes x)) _ _ s
  refine wpAny_noted ?_
  rw [compTurn_list]
  refine wpAny_bind (wpAny_standAt (wpAny_bind (wpAny_mono (turn n s hI) (fun r s₁ h₁ => ?_) fun _ _ h' => h'.elim)))
  cases r with
  | none => exact wpAny_pure h₁
  | some v =>
    refine wpAny_bind (wpAny_mono h₁ (fun _ s₁' h₁' => ?_) fun _ _ h' => h'.elim)
    refine wpAny_bind (wpAny_mono h₁' (fun _ s₂ h₂ => wpAny_bind (wpAny_mono h₂ (fun ok s₃ h₃ => ?_) fun _ _ h' => h'.elim)) fun _ _ h' => h'.elim)
    cases ok with
    | false => exact wpAny_pure ⟨rfl, h₃⟩
    | true =>
      exact wpAny_bind (wpAny_bind (wpAny_mono h₃ (fun x s₄ h₄ => wpAny_bind (wpAny_mono h₄ (fun _ s₅ h₅ => wpAny_pure (wpAny_pure ⟨rfl, h₅⟩)) fun _ _ h' => h'.elim)) fun _ _ h' => h'.elim))

/-- [elt for x in iter if ..] : W the invariant: the turn, a measure, the list so far, the heap -/
def tComp (cap : List Nat) (wi : TI) (tc : TT) (te : TE) : TE := fun σ H Q => wi σ H fun J H1 => ∀ p, H1 p = none →
  ∃ W : Nat → Nat → List V → Hp → Prop, (∃ m, W 0 m [] (upd H1 p (.lst []))) ∧ ∀ i m xs H2, W i m xs H2 →
    (J.stop i H2 ∧ Q (.ref p) H2) ∨ (J.go i H2 ∧ ∃ N : List V → Hp → Prop, (∀ xs' H', N xs' H' → ∃ m', m' < m ∧ W (i + 1) m' xs' H') ∧
      ∀ x H3, J.yld i H2 x H3 → tc ((inner cap σ).set 0 (some x)) H3 fun b H5 => if b = true then te ((inner cap σ).set 0 (some x)) H5 fun v H6 => H6 p = some (.lst xs) ∧ xs.length < sizeLine ∧ N (xs ++ [v]) (upd H6 p (.lst (xs ++ [v]))) else N xs H5)

section
variable {X : Cx} {pins : List (Addr × Obj)} {σ : St}

structure CompScope (X : Cx) (scope : Scope) : Prop where
  cell : ∀ y ∈ scope.names, y.2 ≠ .cell
  kind : scope.kind = .function
  names : ∀ y ∈ scope.names, y.2 = .local → scope.names.lookup y.1 = some .local
  free : ∀ y ∈ scope.names, y.2 = .free → X.env.scope.names.lookup y.1 = some .cell ∨ X.env.scope.names.lookup y.1 = some .free

theorem CompScope.clos {scope : Scope} {H : Hp} {s : Shared} (S : CompScope X scope) (I : Inv X pins σ H s) : closureFor scope X.env = pure (clOf scope X.env) :=
  closureFor_eq fun y hy hf => I.ok.has y.1 (S.free y hy hf)

/-- the block's own invariant at its entry -/
theorem comp_start {scope : Scope} {x : Str} {cn : List Str} {cap : List Nat} {s3 : Shared} {H3 : Hp} {fp : List Addr} {h₁ : Heap} {tk : Nat} {H2 : Hp} (S : CompScope X scope) (I : Inv X pins σ H3 s3) (hc : X.calm = true) (hcap : Caps X scope cn cap)
    (f2 : ∀ b ∈ fp, FpOk X pins H2 b) (lt : ∀ b ∈ fp, b < s3.heap.objs.size) (keep : ∀ b o, s3.heap.get? b = some o → h₁.get? b = some o) (hns : h₁.Ns s3.heap.objs.size fun _ => none) :
    Inv (cxComp X (x :: cn) scope s3.heap.objs.size s3 H3 fp) [] (inner cap σ) H3 { s3 with heap := h₁, toks := tk } := by
  have noS : ∀ b o, X.base.get? b = some o → b < X.s₀.heap.objs.size := fun b o e => Nat.lt_of_lt_of_le (Heap.lt_size e) I.ok.bsz
  refine ⟨⟨I.ok.mod, S.kind, I.ok.glob, I.ok.blt, Nat.le_refl _, fun y z c h1 h2 => I.ok.inj y z c (clOf_sub h1) (clOf_sub h2), fun y hy => ?_, fun y c h => ?_, fun _ => I.ok.hd hc, I.ok.frames, .inl rfl, fun b hb => ⟨Nat.ne_of_lt (lt b hb), fun y c h => (f2 b hb).2.2.2.2.1 y c (clOf_sub h)⟩,
    I.bs, Nat.le_trans I.ok.bsz I.sz, fun b o e hb => ?_, fun b hb z => ?_, I.stack, I.stkFree⟩, rfl, I.bare, Un.kept keep, ⟨_, hns, fun i y v e1 e2 e3 => ?_⟩, fun y c e => ?_, I.hok.fresh (Nat.le_refl _), fun y c e => I.freeC y c (clOf_sub e), fun p hp => absurd (show p ∈ ([] : List (Addr × Obj)) from hp) (by simp), I.hok.kept keep, ?_⟩
  · have m := relabel_free S.cell hy
    obtain ⟨c, hc'⟩ := I.ok.has y (S.free _ m rfl)
    exact ⟨c, clOf_has m hc'⟩
  · cases h
  · rcases (f2 b hb).2.2.2.1 with z | z
    · exact I.ok.noex b o e z
    · exact absurd (Nat.lt_of_lt_of_le (noS b o e) z) (Nat.lt_irrefl _)
  · rcases List.mem_cons.mp (I.stkSub b z) with e | e
    · exact (f2 b hb).2.1 e
    · exact (f2 b hb).2.2.1 e
  · cases i with
    | zero =>
      have e2 : (some none : Option (Option V)) = some (some v) := e2
      cases e2
    | succ j =>
      have e1 : cn[j]? = some y := e1
      obtain ⟨k, hk, hN, hkind, hfr⟩ := hcap.at e1
      have e2 : (cap.map fun i => (σ[i]?).join)[j]? = some (some v) := e2
      rw [List.getElem?_map, hk] at e2
      have e2 : (σ[k]?).join = some v := Option.some.inj e2
      have e2 : σ[k]? = some (some v) := by
        cases q : σ[k]? with
        | none => rw [q] at e2; cases e2
        | some o => rw [q] at e2; cases o with
          | none => cases e2
          | some v' => have e2 : some v' = some v := e2; rw [e2]
      obtain ⟨m, hn, hl⟩ := I.loc
      obtain ⟨u, r, l⟩ := hl k y v hN e2 (.inr hkind)
      refine ⟨u, r, ?_⟩
      rcases l with ⟨kl, _⟩ | ⟨_, c, hc', o, ho, hd⟩
      · have kl : X.env.scope.names.lookup y = some .local := kl
        rw [kl] at hkind
        rcases hkind with z | z <;> cases z
      · refine .inr ⟨?_, c, clOf_has (PySem.mem_of_lookup hfr) hc', o, keep c o ho, hd⟩
        rcases e3 with z | z
        · -- relabelled local: the name is local in the block
          exfalso
          have z : (relabel scope X.env).names.lookup y = some .local := z
          have hm := PySem.mem_of_lookup z
          unfold relabel at hm
          obtain ⟨⟨n, k'⟩, hp, e⟩ := List.mem_map.mp hm
          dsimp only at e
          have hl2 : (y, NameKind.local) ∈ scope.names := by
            split at e
            · cases e
            · cases e; exact hp
          have := S.names _ hl2 rfl
          rw [hfr] at this
          cases this
        · exact z
  · obtain ⟨v, o, ho, hd⟩ := I.cell y c (clOf_sub e)
    exact ⟨v, o, keep c o ho, hd⟩
  · show (inner cap σ).length = (x :: cn).length
    unfold inner
    rw [List.length_cons, List.length_map, hcap.len, List.length_cons]

/-- the block's end, back in the frame around -/
theorem comp_out {scope : Scope} {N : List Str} {C : Addr} {s3 s' : Shared} {H2 H3 Hf : Hp} {fp : List Addr} {pins' : List (Addr × Obj)} {σ' : St} (I : Inv X pins σ H3 s3) (J : Inv (cxComp X N scope C s3 H3 fp) pins' σ' Hf s') (f2 : ∀ b ∈ fp, FpOk X pins H2 b) : Inv X pins σ Hf s' :=
  I.call' (ch := fp) J.os J.base J.hok J.bare fun b hb => ⟨(f2 b hb).2.2.2.1, (f2 b hb).2.1, (f2 b hb).2.2.2.2.1, (f2 b hb).2.2.2.2.2⟩

theorem comp_core {scope : Scope} {x : Str} {px pos : Pos} {elt iter : Expr} {ifs : List Expr} {cn : List Str} {cap : List Nat} {s2 : Shared} {H2 : Hp} {it : Addr} {fp : List Addr} {tn : Nat → Heap → Prop} {J : It} {tc : TT} {te : TE} {Q : VK} {RR : Value → Addr → Result → Shared → Prop} {E : Value → Shared → Prop}
    (S : CompScope X scope) (I2 : Inv X pins σ H2 s2) (hc : X.calm = true) (hcap : Caps X scope cn cap) (hx : scope.names.lookup x = some .local) (hnd : (x :: cn).Nodup)
    (T : Turn X.prog X.w X.K (.Name x px) J fp it tn) (st2 : tn 0 s2.heap) (f2 : ∀ b ∈ fp, FpOk X pins H2 b)
    (body : ∀ (C : Addr) (s : Shared) (H : Hp) (fp : List Addr), PTs (cxComp X (x :: cn) scope C s H fp) ifs tc ∧ PE (cxComp X (x :: cn) scope C s H fp) elt te)
    (q : ∀ p, H2 p = none → ∃ W : Nat → Nat → List V → Hp → Prop, (∃ m, W 0 m [] (upd H2 p (.lst []))) ∧ ∀ i m xs H3, W i m xs H3 →
      (J.stop i H3 ∧ Q (.ref p) H3) ∨ (J.go i H3 ∧ ∃ N : List V → Hp → Prop, (∀ xs' H', N xs' H' → ∃ m', m' < m ∧ W (i + 1) m' xs' H') ∧
        ∀ v H4, J.yld i H3 v H4 → tc ((inner cap σ).set 0 (some v)) H4 fun b H5 => if b = true then te ((inner cap σ).set 0 (some v)) H5 fun v H6 => H6 p = some (.lst xs) ∧ xs.length < sizeLine ∧ N (xs ++ [v]) (upd H6 p (.lst (xs ++ [v]))) else N xs H5))
    (hRR : ∀ (p C : Addr) (s3 s' : Shared) (H3 Hf : Hp) (σ' : St), Inv X pins σ H3 s3 → s3.heap.objs.size = C → Inv (cxComp X (x :: cn) scope C s3 H3 fp) [] σ' Hf s' → Q (.ref p) Hf → RR (.ref p) C (.ok .next) s') :
    wpAny (model X.prog X.w) X.A (newList []) (fun acc s₃ => wpAny (model X.prog X.w) X.A (newFunctionEnv scope X.env.globals (clOf scope X.env) [] X.env.qual none .none (some X.env)) (fun cenv s₄ =>
      codeAny (model X.prog X.w) X.A (.compStart (.ListComp elt [⟨.Name x px, iter, ifs, 0⟩] scope pos) 0 (.ref it) acc { cenv with scope := relabel scope X.env }) (RR acc cenv.locals) s₄) E s₃) E s2 := by
  refine wpAny_newObj_type (wpAny_newFunctionEnv S.cell (by intro y hy; simp at hy) (fun h₁ hns₁ hsb₁ => ?_) S.kind)
  dsimp only at hns₁ hsb₁ ⊢
  have hfr : H2 s2.heap.objs.size = none := I2.hok.fresh (Nat.le_refl _)
  obtain ⟨W, ⟨m0, w0⟩, turn⟩ := q _ hfr
  have I3 : Inv X pins σ (upd H2 s2.heap.objs.size (.lst [])) { s2 with heap := s2.heap.push { cls := .type "list", data := .seq ([] : List Value).toArray } } :=
    I2.lnew (its := []) (t' := s2.toks) .nil (Nat.zero_le _)
  generalize hs3 : ({ s2 with heap := s2.heap.push { cls := .type "list", data := .seq ([] : List Value).toArray } } : Shared) = s3 at I3
  have hs3h : s3.heap = s2.heap.push { cls := .type "list", data := .seq ([] : List Value).toArray } := by rw [← hs3]
  have hst3 : tn 0 s3.heap := T.keep _ _ _ st2 fun b hb o e => by rw [hs3h]; exact Heap.get?_push_of_some _ e
  have ltf : ∀ b ∈ fp, b < s3.heap.objs.size := fun b hb => by
    obtain ⟨o, e, _⟩ := T.obj _ _ hst3 b hb
    exact Heap.lt_size e
  have hC : (s2.heap.push { cls := .type "list", dict := none, data := .seq ([] : List Value).toArray }).objs.size = s3.heap.objs.size := by rw [hs3h]
  rw [hC] at hns₁ hsb₁ ⊢
  have keep : ∀ b o, s3.heap.get? b = some o → h₁.get? b = some o := fun b o e => by
    refine hsb₁.extBut b o (Nat.ne_of_lt (Heap.lt_size e)) (Heap.get?_push_of_some _ ?_)
    rw [hs3h] at e
    exact e
  have J4 : Inv (cxComp X (x :: cn) scope s3.heap.objs.size s3 (upd H2 s2.heap.objs.size (.lst [])) fp) [] (inner cap σ) (upd H2 s2.heap.objs.size (.lst [])) { s3 with heap := h₁, toks := s2.toks + ([] : List (Str × Value)).length } :=
    comp_start S I3 hc hcap f2 ltf keep hns₁
  have st4 : tn 0 h₁ := T.keep _ _ _ hst3 fun b hb o e => keep b o e
  have fr4 : ∀ b ∈ fp, (upd H2 s2.heap.objs.size (.lst [])) b = none := fun b hb => by
    obtain ⟨o, e, _⟩ := T.obj _ _ st2 b hb
    rw [upd_ne (Nat.ne_of_lt (Heap.lt_size e))]
    exact (f2 b hb).1
  have hst : ({ s2 with heap := h₁, toks := s2.toks + ([] : List (Str × Value)).length } : Shared) = { s3 with heap := h₁, toks := s2.toks + ([] : List (Str × Value)).length } := by rw [← hs3]
  have loop : codeAny (model X.prog X.w) X.A (.compLoop (.ListComp elt [⟨.Name x px, iter, ifs, 0⟩] scope pos) 0 (.ref it) (.ref s2.heap.objs.size) (compEnvC scope (clOf scope X.env) s3.heap.objs.size X.env))
      (RR (.ref s2.heap.objs.size) s3.heap.objs.size) { s2 with heap := h₁, toks := s2.toks + ([] : List (Str × Value)).length } := by
    rw [hst]
    generalize hX' : cxComp X (x :: cn) scope s3.heap.objs.size s3 (upd H2 s2.heap.objs.size (.lst [])) fp = X' at J4
    have hfpk : ∀ {Hc : Hp}, (∀ b ∈ fp, Hc b = none) → ∀ b ∈ fp, FpOk X' [] Hc b := fun {Hc} hn b hb => by
      subst hX'
      refine ⟨hn b hb, (J4.ok.exf b hb).1, J4.ok.exfs b hb, .inl hb, (J4.ok.exf b hb).2, fun p hp => absurd (show p ∈ ([] : List (Addr × Obj)) from hp) (by simp)⟩
    refine compLoop_any (fun n s' => ∃ i xs Hc, Inv X' [] (inner cap σ) Hc s' ∧ tn i s'.heap ∧ (∀ b ∈ fp, Hc b = none) ∧ W i n xs Hc) ?_ m0 ⟨0, [], _, J4, st4, fr4, w0⟩
    rintro n s5 ⟨i, xs, Hc, I5, st5, fr5, w5⟩
    have B := body s3.heap.objs.size s3 (upd H2 s2.heap.objs.size (.lst [])) fp
    rcases turn i n xs Hc w5 with ⟨stop, qn⟩ | ⟨go, N, hN, step⟩
    · subst hX'
      refine thn (T.done (cxComp X (x :: cn) scope s3.heap.objs.size s3 (upd H2 s2.heap.objs.size (.lst [])) fp) rfl rfl rfl rfl i [] s5 (inner cap σ) Hc (fun _ _ => False) I5 (hfpk fr5) st5 stop) fun r s6 ⟨hr, I6⟩ => ?_
      subst hr
      exact hRR _ _ s3 s6 _ Hc _ I3 rfl I6 qn
    · subst hX'
      refine thn (T.item (cxComp X (x :: cn) scope s3.heap.objs.size s3 (upd H2 s2.heap.objs.size (.lst [])) fp) rfl rfl rfl rfl i [] s5 (inner cap σ) Hc (fun _ _ => False) I5 (hfpk fr5) st5 go) fun r s6 ⟨u, hr, h6⟩ => ?_
      subst hr
      refine thn h6 fun _ s7 ⟨v, H7, I7, r7, y7, st7, fr7⟩ => ?_
      have I7' := I7.pinned (hfpk fr7) (T.obj _ _ st7)
      have hlook : (relabel scope X.env).names.lookup x = some .local := lookup_relabel_local hx
      refine wpAny_assign_Name (store_ok (X := cxComp X (x :: cn) scope s3.heap.objs.size s3 (upd H2 s2.heap.objs.size (.lst [])) fp) I7' (i := 0) hnd rfl (.inl hlook) r7 (fun s8 I8 => ?_) (.inr hlook))
      have again : ∀ {s9 : Shared} {H9 : Hp} {ys : List V}, Inv (cxComp X (x :: cn) scope s3.heap.objs.size s3 (upd H2 s2.heap.objs.size (.lst [])) fp) ([] ++ pinsAt fp s7.heap) ((inner cap σ).set 0 (some v)) H9 s9 → N ys H9 →
          ∃ m, m < n ∧ ∃ i xs Hc, Inv (cxComp X (x :: cn) scope s3.heap.objs.size s3 (upd H2 s2.heap.objs.size (.lst [])) fp) [] (inner cap σ) Hc s9 ∧ tn i s9.heap ∧ (∀ b ∈ fp, Hc b = none) ∧ W i m xs Hc := fun {s9 H9 ys} I9 n9 => by
        obtain ⟨m', hm, w9⟩ := hN ys H9 n9
        refine ⟨m', hm, i + 1, ys, H9, (I9.unpinned (pins := [])).weak (by simp [inner]) (fun j w e => ?_), T.keep _ _ _ st7 fun b hb o e => (I9.pin (b, o) (List.mem_append_right _ (List.mem_append_right _ (mem_pinsAt hb e)))).1, fun b hb => ?_, w9⟩
        · cases j with
          | zero =>
            have e : (some none : Option (Option V)) = some (some w) := e
            cases e
          | succ j => exact e
        · obtain ⟨o, e, _⟩ := T.obj _ _ st7 b hb
          exact (I9.pin (b, o) (List.mem_append_right _ (List.mem_append_right _ (mem_pinsAt hb e)))).2.1
      refine thn (B.1 _ s8 _ H7 _ I8 (step v H7 y7)) fun ok s9 ⟨H9, I9, q9⟩ => ?_
      cases ok with
      | false =>
        rw [if_neg Bool.false_ne_true] at q9 ⊢
        exact again I9 q9
      | true =>
        rw [if_pos rfl] at q9 ⊢
        refine thn (B.2 _ s9 _ H9 _ I9 q9) fun uy s10 ⟨y, H10, I10, r10, hp, hl, n10⟩ => ?_
        refine thn (mt_append _ s10 _ H10 (.ref s2.heap.objs.size) [y] (.ref s2.heap.objs.size) [uy] (fun _ H11 => N (xs ++ [y]) H11) I10 rfl (.cons r10 .nil) ⟨_, xs, y, rfl, rfl, hp, hl, n10⟩) fun _ s11 ⟨_, H11, I11, _, n11⟩ => ?_
        exact again I11 n11
  exact codeAny_compStart_list loop (T.self _ _ _ _ _ st4 loop)

theorem pe_comp {scope : Scope} {x : Str} {px pos : Pos} {elt iter : Expr} {ifs : List Expr} {cn : List Str} {cap : List Nat} {wi : TI} {tc : TT} {te : TE}
    (hc : X.calm = true) (S : CompScope X scope) (hx : scope.names.lookup x = some .local) (hnd : (x :: cn).Nodup) (hcap : Caps X scope cn cap) (hi : PI X (.Name x px) iter wi)
    (body : ∀ (C : Addr) (s : Shared) (H : Hp) (fp : List Addr), PTs (cxComp X (x :: cn) scope C s H fp) ifs tc ∧ PE (cxComp X (x :: cn) scope C s H fp) elt te)
    (hs : ∀ x, foldedSetIterable iter X.env x = pure x := by intro _; rfl) : PE X (.ListComp elt [⟨.Name x px, iter, ifs, 0⟩] scope pos) (tComp cap wi tc te) := by
  intro pins s σ H Q I h
  rw [eval_ListComp]
  refine wpAny_comprehension_free (use := none) rfl hs (S.clos I) S.kind S.names (thn (hi pins s σ H _ I h) fun xv s1 h1 => thn h1 fun itv s2 h2 => ?_)
  obtain ⟨it, fp, tn, J, H2, e, I2, T, st2, f2, q⟩ := h2
  subst e
  refine comp_core (RR := fun acc C => compPost (model X.prog X.w) X.A X.xe none (EP X pins σ Q) acc C) S I2 hc hcap hx hnd T st2 f2 body q ?_
  intro p C s3 s' H3 Hf σ' I3 hC J' qf
  subst hC
  have I4 := comp_out I3 J' f2
  obtain ⟨m, hn, _⟩ := J'.loc
  refine ⟨m, hn, fun h' hs' => ?_⟩
  refine ⟨.ref p, Hf, ?_, rfl, qf⟩
  have f := I3.fpOk (H' := Hf) (Nat.le_refl _) J'.free
  exact I4.turned (t' := s'.toks) (it := s3.heap.objs.size) (fun b o hb e => (hs'.2 b hb).trans e) f.1 f.2.1 f.2.2.2.1 f.2.2.2.2.1 f.2.2.2.2.2

/-- y = [..], where the store comes ahead of the block's end -/
theorem ps_setcomp {scope : Scope} {x y : Str} {px py pos spos : Pos} {elt iter : Expr} {ifs : List Expr} {cn : List Str} {cap : List Nat} {wi : TI} {tc : TT} {te : TE} {i : Nat}
    (hN : X.N.Nodup) (hi : X.N[i]? = some y) (hy : Loc X.env.scope y) (hc : X.calm = true) (S : CompScope X scope) (hx : scope.names.lookup x = some .local) (hnd : (x :: cn).Nodup) (hcap : Caps X scope cn cap) (hit : PI X (.Name x px) iter wi)
    (body : ∀ (C : Addr) (s : Shared) (H : Hp) (fp : List Addr), PTs (cxComp X (x :: cn) scope C s H fp) ifs tc ∧ PE (cxComp X (x :: cn) scope C s H fp) elt te)
    (hsw : swapsWith (.ListComp elt [⟨.Name x px, iter, ifs, 0⟩] scope pos) (some (.Name y py)) spos.line X.env = pure true := by rfl)
    (hf : X.fn y = true ∨ X.env.scope.names.lookup y = some .local := by first | exact .inl rfl | exact .inr rfl | assumption)
    (hs : ∀ x, foldedSetIterable iter X.env x = pure x := by intro _; rfl) : PS X (.Assign [.Name y py] (.ListComp elt [⟨.Name x px, iter, ifs, 0⟩] scope pos) spos) (tAsg (tComp cap wi tc te) (gName i)) := by
  intro pins s σ H D I h
  rw [exec_Assign_Name_used _ _ _ _ hsw]
  refine wpAny_bind (wpAny_standAt (wpAny_bind ?_))
  show wpAny _ X.A (do let _ ← comprehension (.ListComp elt [⟨.Name x px, iter, ifs, 0⟩] scope pos) scope X.env _ (newList []) false (eval iter X.env) (some (assign (.Name y py) X.env))) _ _ s
  refine wpAny_bind (wpAny_mono (wpAny_comprehension_free (use := some (assign (.Name y py) X.env)) (Q := fun _ s' => SP X pins D .next s') rfl hs (S.clos I) S.kind S.names
    (thn (hit pins s σ H _ I h) fun xv s1 h1 => thn h1 fun itv s2 h2 => ?_)) (fun _ s' hq => wpAny_pure (wpAny_pure hq)) fun _ _ e => e)
  obtain ⟨it, fp, tn, J, H2, e, I2, T, st2, f2, q⟩ := h2
  subst e
  refine comp_core (Q := fun v H1 => gName i v σ H1 D.nx) (RR := fun acc C => compPost (model X.prog X.w) X.A X.xe (some (assign (.Name y py) X.env)) (fun _ s' => SP X pins D .next s') acc C) S I2 hc hcap hx hnd T st2 f2 body q ?_
  intro p C s3 s' H3 Hf σ' I3 hC J' qf
  subst hC
  have I4 := comp_out I3 J' f2
  obtain ⟨m, hn, _⟩ := J'.loc
  have f := I3.fpOk (H' := Hf) (Nat.le_refl _) J'.free
  show wpAny _ X.A (assign (.Name y py) X.env (.ref p)) _ _ _
  refine wpAny_assign_Name (store_ok2 (v := V.ref p) I4 hN hi hy rfl (fun s'' I5 ch => ?_) hf)
  obtain ⟨a, hsb, ha⟩ := ch
  have hCa : s3.heap.objs.size ≠ a := by
    rcases ha with rfl | ha
    · exact f.2.1
    · exact fun z => f.2.2.2.2.1 y a ha z.symm
  refine ⟨m, hn.sameBut hsb hCa, fun h' hs' => ?_⟩
  exact ⟨_, Hf, I5.turned (t' := s''.toks) (it := s3.heap.objs.size) (fun b o hb e => (hs'.2 b hb).trans e) f.1 f.2.1 f.2.2.2.1 f.2.2.2.2.1 f.2.2.2.2.2, qf⟩
end
end L2

set_option Elab.async false
set_option maxRecDepth 100000
namespace L2
open PySem PySem.Spec PyProof.Rows

theorem bt_len : bootBuiltins "len" = some (.builtin "len") := by decide +kernel
theorem bt_isinstance : bootBuiltins "isinstance" = some (.builtin "isinstance") := by decide +kernel
theorem bt_min : bootBuiltins "min" = some (.builtin "min") := by decide +kernel
theorem bt_all : bootBuiltins "all" = some (.builtin "all") := by decide +kernel
theorem bt_sorted : bootBuiltins "sorted" = some (.builtin "sorted") := by decide +kernel
theorem bt_list : bootBuiltins "list" = some (.type "list") := by decide +kernel
theorem bt_bool : bootBuiltins "bool" = some (.type "bool") := by decide +kernel
def kitC (T c : String) : Option Bool := if (T == c) = true then some true else if PySem.W.kitMeta c = true then (fastBuiltinMro T).map (·.contains (.type c)) else none
theorem kit_of {K : PySem.W.Frag} {T c : String} {b : Bool} (h : kitC T c = some b) : PySem.W.kitOne K (.type T) (.type c) = some b := by
  unfold kitC at h
  unfold PySem.W.kitOne
  by_cases e : T = c
  · subst e
    rw [if_pos (by simp)] at h
    rw [if_pos (by simp)]
    exact h
  · rw [if_neg (by simpa using e)] at h
    rw [if_neg (by intro z; exact e (by simpa using z))]
    exact h

structure DefOk (P : Program) (w : World) (K : PySem.W.Frag) (mg : Str → Option Value) (base : Heap) (x : Str) (k : Nat) (ps : List Str) (sp : Sp) : Prop where
  ex : ∃ f fd, FnOk P w K mg base CX0 k f fd ps sp ∧ mg x = some (.ref f) ∧ PySem.W.keepIn K (.ref f) = true ∧ Binds K fd ps []
section
variable {X : Cx} {x : Str} {k j : Nat} {ps : List Str} {sp : Sp} {e : Expr} {es : List Expr} {t : TA} {p pos : Pos}
theorem pe_def (F : DefOk X.prog X.w X.K X.mg X.base x k ps sp) (hr : Room j X.A) (hj : k ≤ j) (hg : Gl X x) (ha : PA X (e :: es) t) (hdb : (x == ("__debug__" : Str)) = false := by decide)
    (he : starEach (e :: es) X.env = (false, eval e X.env) :: starEach es X.env := by rfl) (hpl : (backTo pos (starEach es X.env)).any (·.1) = false := by rfl) :
    PE X (.Call (.Name x p) (e :: es) [] pos) (tCall sp [] E0 t) := by
  obtain ⟨f, fd, G, m, kp, b⟩ := F.ex
  exact pe_call G (hr.mono hj) hg m kp b .nil pass0 ha hdb he hpl
end
theorem def_of {P : Program} {w : World} {K : PySem.W.Frag} {mg : Str → Option Value} {base : Heap} {x : Str} {st : Stmt} {f : Addr} {fd : FuncData} {k : Nat} {ps : List Str} {sp : Sp} (F : Fun K x x st f fd) (m : mg x = some (.ref f)) (b : Binds K fd ps []) (G : FnOk P w K mg base CX0 k f fd ps sp) : DefOk P w K mg base x k ps sp :=
  ⟨f, fd, G, m, F.kp, b⟩

theorem free_of {X : Cx} {scope : Scope} (h : (scope.names.all fun p => p.2 != .free || X.env.scope.names.lookup p.1 == some .cell || X.env.scope.names.lookup p.1 == some .free) = true) :
    ∀ y ∈ scope.names, y.2 = .free → X.env.scope.names.lookup y.1 = some .cell ∨ X.env.scope.names.lookup y.1 = some .free := fun y hy hf => by
  have := List.all_eq_true.mp h y hy
  rw [hf] at this
  simpa using this

theorem Same.new {H : Hp} {p : Addr} {o : HO} (h : H p = none) : Same H (upd H p o) := fun b u e => by rw [upd_ne (ne_of_none e h)]; exact e
theorem Same.put {H H' : Hp} {p : Addr} {o : HO} (s : Same H H') (h : H p = none) : Same H (upd H' p o) := fun b u e => by rw [upd_ne (ne_of_none e h)]; exact s b u e
theorem TyOf.mono {K : PySem.W.Frag} {H H' : Hp} {v : V} {t : Value} (s : Same H H') (h : TyOf K H v t) : TyOf K H' v t := by
  cases h with
  | non => exact .non
  | bl b => exact .bl b
  | int i => exact .int i
  | str x => exact .str x
  | flt x => exact .flt x
  | lst e => exact .lst (s _ _ e)
  | frz e => exact .frz (s _ _ e)
  | tup e => exact .tup (s _ _ e)
  | dK e => exact .dK (s _ _ e)
  | dT e => exact .dT (s _ _ e)
  | ins e c a b d m => exact .ins (s _ _ e) c a b d m

def Its (x : Str) : It := ⟨fun i _ => i < x.cps.size, fun i H v H' => H' = H ∧ ∃ c, x.cps[i]? = some c ∧ v = .str ⟨#[c]⟩, fun i _ => i = x.cps.size⟩
def StrIt (it : Addr) (x : Str) (t : Tok) (i : Nat) (h : Heap) : Prop := h.IsStrIter it "str_ascii_iterator" x t i ∨ h.IsStrIter it "str_iterator" x t i
theorem turn_str {P : Program} {w : World} {K : PySem.W.Frag} {tg : Expr} (x : Str) (t : Tok) (it : Addr) : Turn P w K tg (Its x) [it] it (StrIt it x t) where
  mem := by simp
  obj := fun i h st b hb => by
    have e : b = it := by simpa using hb
    subst e
    rcases st with ⟨o, e, c, d⟩ | ⟨o, e, c, d⟩ <;> exact ⟨o, e, fun v z => by rw [d] at z; cases z⟩
  keep := fun i h h' st k => by
    rcases st with ⟨o, e, r⟩ | ⟨o, e, r⟩
    · exact .inl ⟨o, k it (by simp) o e, r⟩
    · exact .inr ⟨o, k it (by simp) o e, r⟩
  item := by
    intro X hP hw hK hc i pins s σ H E I hf st hg
    subst hP hw hK
    obtain ⟨f0, f1, f2, f3, f4, f5⟩ := hf it (by simp)
    rcases st with st | st
    · refine (Walks.strAscii (prog := X.prog) (w := X.w) (I.ok.hd hc) it x t).item i s _ _ hg st fun v h' tk hv st' kk => ?_
      obtain ⟨c, u, hcx, rfl⟩ := hv
      have I1 := I.turned (h' := h') (t' := tk) (fun b o hb e => kk b o (by simpa using hb) e) f0 f1 f3 f4 f5
      obtain ⟨o, e, hc', d⟩ := id st'
      exact ⟨_, rfl, go_of (s := { s with heap := h', toks := tk }) e hc' d (by decide) ⟨.str ⟨#[c]⟩, H, I1, ⟨u, rfl⟩, ⟨rfl, c, hcx, rfl⟩, .inl st', fun b hb => (hf b hb).1⟩⟩
    · refine (Walks.strWide (prog := X.prog) (w := X.w) (I.ok.hd hc) it x t).item i s _ _ hg st fun v h' tk hv st' kk => ?_
      obtain ⟨c, u, hcx, rfl⟩ := hv
      have I1 := I.turned (h' := h') (t' := tk) (fun b o hb e => kk b o (by simpa using hb) e) f0 f1 f3 f4 f5
      obtain ⟨o, e, hc', d⟩ := id st'
      exact ⟨_, rfl, go_of (s := { s with heap := h', toks := tk }) e hc' d (by decide) ⟨.str ⟨#[c]⟩, H, I1, ⟨u, rfl⟩, ⟨rfl, c, hcx, rfl⟩, .inr st', fun b hb => (hf b hb).1⟩⟩
  done := by
    intro X hP hw hK hc i pins s σ H E I hf st hg
    subst hP hw hK
    obtain ⟨f0, f1, f2, f3, f4, f5⟩ := hf it (by simp)
    have hg : i = x.cps.size := hg
    subst hg
    rcases st with st | st
    · exact (Walks.strAscii (prog := X.prog) (w := X.w) (I.ok.hd hc) it x t).done s _ _ st fun h' tk kk => ⟨rfl, I.turned (fun b o hb e => kk b o (by simpa using hb) e) f0 f1 f3 f4 f5⟩
    · exact (Walks.strWide (prog := X.prog) (w := X.w) (I.ok.hd hc) it x t).done s _ _ st fun h' tk kk => ⟨rfl, I.turned (fun b o hb e => kk b o (by simpa using hb) e) f0 f1 f3 f4 f5⟩
  self := fun _ _ _ _ _ st h => by
    rcases st with st | st
    · exact wpAny_pyIter_striter_ascii st h
    · exact wpAny_pyIter_striter_wide st h
section
variable {X : Cx} {tg : Expr}
/-- for over a text, a list or a tuple, whichever it is -/
def iAny (K : PySem.W.Frag) (tl : TE) : TI := fun σ H R => tl σ H fun v H1 => match v with
  | .str x => R (Its x) H1
  | .ref a => ((∃ xs, SqL K H1 a xs) ∧ R (Itl K a) H1) ∨ ((∃ xs, SqT K H1 a xs) ∧ R (Itt K a) H1)
  | _ => False
theorem pi_any {l : Expr} {tl : TE} (hl : PE X l tl) : PI X tg l (iAny X.K tl) := by
  intro pins s σ H R I h
  refine thn (hl pins s σ H _ I h) fun v s1 ⟨x, H1, I1, r1, q1⟩ => ?_
  have one : ∀ b ∈ [s1.heap.objs.size], FpOk X pins H1 b := fun b hb => by
    have e : b = s1.heap.objs.size := by simpa using hb
    subst e
    exact I1.fpOk (Nat.le_refl _) (I1.hok.fresh (Nat.le_refl _))
  cases x with
  | str z =>
    obtain ⟨t, rfl⟩ := r1
    have q1 : R (Its z) H1 := q1
    cases ha : z.cps.all (· < 128)
    · exact wpAny_pyIter_wide ha ⟨s1.heap.objs.size, [s1.heap.objs.size], _, _, H1, rfl, I1.kept (t' := s1.toks) fun b o e => Heap.get?_push_of_some _ e, turn_str z t _, .inr ⟨_, Heap.get?_push_size _ rfl, rfl, rfl⟩, one, q1⟩
    · exact wpAny_pyIter_ascii ha ⟨s1.heap.objs.size, [s1.heap.objs.size], _, _, H1, rfl, I1.kept (t' := s1.toks) fun b o e => Heap.get?_push_of_some _ e, turn_str z t _, .inl ⟨_, Heap.get?_push_size _ rfl, rfl, rfl⟩, one, q1⟩
  | ref a =>
    cases r1
    have q1 : ((∃ xs, SqL X.K H1 a xs) ∧ R (Itl X.K a) H1) ∨ ((∃ xs, SqT X.K H1 a xs) ∧ R (Itt X.K a) H1) := q1
    rcases q1 with ⟨⟨xs, hq⟩, q⟩ | ⟨⟨xs, hq⟩, q⟩
    · obtain ⟨its, rv, p, hz⟩ := I1.list hq
      exact wpAny_pyIter_list p.isList ⟨s1.heap.objs.size, [s1.heap.objs.size], _, _, H1, rfl, I1.kept (t' := s1.toks) fun b o e => Heap.get?_push_of_some _ e, turn_list a _, ⟨_, Heap.get?_push_size _ rfl, rfl, rfl⟩, one, q⟩
    · obtain ⟨its, rv, p, hz⟩ := I1.tuple hq
      exact wpAny_pyIter_tuple (show s1.heap.IsTuple a its.toArray from p) ⟨s1.heap.objs.size, [s1.heap.objs.size], _, _, H1, rfl, I1.kept (t' := s1.toks) fun b o e => Heap.get?_push_of_some _ e, turn_tuple a _, ⟨_, Heap.get?_push_size _ rfl, rfl, rfl⟩, one, q⟩
  | _ => exact (show False from q1).elim
end
/-- J yields just xs, whatever the heap (that bears H) -/
structure Yields (J : It) (H : Hp) (xs : List V) : Prop where
  go : ∀ i H', Same H H' → i < xs.length → J.go i H'
  stop : ∀ H', Same H H' → J.stop xs.length H'
  yld : ∀ i H' x H'', Same H H' → i < xs.length → J.yld i H' x H'' → H'' = H' ∧ xs[i]? = some x
def signsV (x : Str) : List V := x.cps.toList.map fun c => .str ⟨#[c]⟩
theorem yields_range (lo : Int) (n : Nat) (H : Hp) : Yields (Itr lo n) H ((List.range n).map fun (i : Nat) => V.int (lo + (i : Int))) where
  go := fun i H' _ hi => by
    show i < n
    simpa using hi
  stop := fun H' _ => by
    show n ≤ ((List.range n).map fun (i : Nat) => V.int (lo + (i : Int))).length
    simp
  yld := fun i H' v H'' _ hi y => by
    obtain ⟨rfl, rfl⟩ := y
    rw [List.length_map, List.length_range] at hi
    refine ⟨rfl, ?_⟩
    simp [hi]
theorem yields_list {K : PySem.W.Frag} {a : Addr} {xs : List V} {H : Hp} (h : SqL K H a xs) : Yields (Itl K a) H xs where
  go := fun i H' s hi => ⟨xs, xs[i], s.seq h, by simp [hi]⟩
  stop := fun H' s => ⟨xs, s.seq h, Nat.le_refl _⟩
  yld := fun i H' v H'' s _ y => ⟨y.1, y.2 xs (s.seq h)⟩

/-- the list that a comprehension with a test and an element tells -/
def compL (f : V → Bool) (g : V → V) (xs : List V) : List V := (xs.filter f).map g
section
variable {X : Cx}
def rPlus (K : PySem.W.Frag) : R2 := fun x y H Q => match x, y with
  | .int i, .int j => Q (.int (i + j)) H
  | .str a, .str b => a.length + b.length ≤ sizeLine ∧ Q (.str (a ++ b)) H
  | .ref a, .ref b => ∃ xs ys, Rd H a (.lst xs) ∧ Rd H b (.lst ys) ∧ xs.length + ys.length ≤ sizeLine ∧ ∀ p, H p = none → Q (.ref p) (upd H p (.lst (xs ++ ys)))
  | _, _ => False
theorem op_catS : OpR X (binaryOp .Add) (fun x y H Q => ∃ a b xs ys, x = .ref a ∧ y = .ref b ∧ Rd H a (.lst xs) ∧ Rd H b (.lst ys) ∧ xs.length + ys.length ≤ sizeLine ∧ ∀ p, H p = none → Q (.ref p) (upd H p (.lst (xs ++ ys)))) := by
  intro pins s σ H x y v u Q I rx ry h
  obtain ⟨l, b, xs, zs, rfl, rfl, hH, hB, hz, q⟩ := h
  cases rx
  cases ry
  obtain ⟨z, its, n, r, e⟩ := hH.ok I.hok
  obtain ⟨z2, its2, n2, r2, e2⟩ := hB.ok I.hok
  have hl := r.length
  have hl2 := r2.length
  refine PySem.P.add_list e e2 ?_ (by rw [List.size_toArray, List.size_toArray]; omega)
  have ea : its.toArray ++ its2.toArray = (its ++ its2).toArray := by simp
  rw [ea]
  exact ⟨.ref _, _, I.lnew (t' := s.toks) (r.append r2) (by rw [List.length_append]; omega), rfl, q _ I.fresh⟩
theorem op_plus : OpR X (binaryOp .Add) (rPlus X.K) := by
  intro pins s σ H x y v u Q I rx ry h
  cases x with
  | int i => cases y with
    | int j => exact op_add pins s σ H _ _ v u Q I rx ry ⟨i, j, rfl, rfl, h⟩
    | _ => exact (show False from h).elim
  | str a => cases y with
    | str b => exact op_add_str pins s σ H _ _ v u Q I rx ry ⟨a, b, rfl, rfl, h.1, h.2⟩
    | _ => exact (show False from h).elim
  | ref a => cases y with
    | ref b =>
      obtain ⟨xs, ys, h1, h2, h3, h4⟩ := h
      exact op_catS pins s σ H _ _ v u Q I rx ry ⟨a, b, xs, ys, rfl, rfl, h1, h2, h3, h4⟩
    | _ => exact (show False from h).elim
  | _ => exact (show False from h).elim
/-- an order's test: ints or texts -/
def rOrd (fi : Int → Int → Bool) (fs : List Nat → List Nat → Bool) : R2 := fun x y H Q => match x, y with
  | .int i, .int j => Q (.bl (fi i j)) H
  | .str a, .str b => Q (.bl (fs a.cps.toList b.cps.toList)) H
  | _, _ => False
theorem ord_of {f : Value → Value → Sem Value} {fi : Int → Int → Bool} {fs : List Nat → List Nat → Bool} (hi : OpR X f (rI0 fun i j => .bl (fi i j)))
    (hs : ∀ (s : Shared) (a b : Str) (t u : Tok) (Q : Value → Shared → Prop), Q (.bool (fs a.cps.toList b.cps.toList)) s → wpAny (model X.prog X.w) X.A (f (.str a t) (.str b u)) Q X.xe s) : OpR X f (rOrd fi fs) := by
  intro pins s σ H x y v u Q I rx ry h
  cases x with
  | int i => cases y with
    | int j => exact hi pins s σ H _ _ v u Q I rx ry ⟨i, j, rfl, rfl, h⟩
    | _ => exact (show False from h).elim
  | str a => cases y with
    | str b =>
      obtain ⟨t, rfl⟩ := rx
      obtain ⟨t', rfl⟩ := ry
      exact hs s a b t t' _ ⟨.bl _, H, I, rfl, h⟩
    | _ => exact (show False from h).elim
  | _ => exact (show False from h).elim
theorem op_ltU : OpR X (compareOp .Lt) (rOrd (fun i j => decide (i < j)) fun a b => decide (a < b)) := ord_of op_lt fun _ _ _ _ _ _ h => lt_str h
theorem op_gtU : OpR X (compareOp .Gt) (rOrd (fun i j => decide (j < i)) fun a b => decide (b < a)) := ord_of op_gt fun _ _ _ _ _ _ h => PySem.P.gt_str h
theorem op_geU : OpR X (compareOp .GtE) (rOrd (fun i j => decide (j ≤ i)) fun a b => !decide (a < b)) := ord_of op_ge fun _ _ _ _ _ _ h => PySem.P.ge_str h
def rMul (K : PySem.W.Frag) : R2 := fun x y H Q => match x, y with
  | .int i, .int j => CMul i j ∧ Q (.int (i * j)) H
  | .ref l, .int k => ∃ xs, H l = some (.lst xs) ∧ -(2 ^ 63) ≤ k ∧ k < 2 ^ 63 ∧ xs.length * k.toNat ≤ sizeLine ∧ ∀ p, H p = none → Q (.ref p) (upd H p (.lst (List.replicate k.toNat xs).flatten))
  | _, _ => False
theorem op_mulU : OpR X (binaryOp .Mult) (rMul X.K) := by
  intro pins s σ H x y v u Q I rx ry h
  cases x with
  | int i => cases y with
    | int j => exact op_mul pins s σ H _ _ v u Q I rx ry ⟨i, j, rfl, rfl, h.1, h.2⟩
    | _ => exact (show False from h).elim
  | ref l => cases y with
    | int k =>
      obtain ⟨xs, h1, h2, h3, h4, h5⟩ := h
      exact op_rep pins s σ H _ _ v u Q I rx ry ⟨l, k, xs, rfl, rfl, h1, h2, h3, h4, h5⟩
    | _ => exact (show False from h).elim
  | _ => exact (show False from h).elim

def rSl (K : PySem.W.Frag) : V → Option Int → Option Int → Hp → VK → Prop := fun x lo hi H Q => match x with
  | .str z => z.length ≤ sizeLine ∧ Q (.str (Txt.slice z lo hi)) H
  | .ref a => (∃ xs, SqL K H a xs ∧ ∀ p, H p = none → Q (.ref p) (upd H p (.lst (cutV xs lo hi))))
  | _ => False
theorem sl_str : SlR X (fun x lo hi H Q => ∃ z, x = .str z ∧ z.length ≤ sizeLine ∧ Q (.str (Txt.slice z lo hi)) H) := by
  intro pins s σ H x v vl vu lo hi sl Q I rx hs pl pu h
  obtain ⟨z, rfl, hz, q⟩ := h
  obtain ⟨t, rfl⟩ := rx
  refine ⟨"str", _, F.slot_str_getitem.lookup, typeIs_str _ _ _, ?_⟩
  have fin : ∀ (t' : Tok) (k : Nat), EP X pins σ Q (.str (Txt.slice z lo hi) t') { s with toks := k } := fun t' k => ⟨.str _, H, I.tok k, ⟨t', rfl⟩, q⟩
  cases pl with
  | none => cases pu with
    | none => exact wpAny_getItem_str_slice (l := none) (u := none) (st := none) hs rfl (post_val_or_str ⟨Nat.le_trans (Txt.slice_le z _ _) hz, fin⟩)
    | int j uj => exact wpAny_getItem_str_slice (l := none) (u := some (j, uj)) (st := none) hs rfl (post_val_or_str ⟨Nat.le_trans (Txt.slice_le z _ _) hz, fin⟩)
  | int i ui => cases pu with
    | none => exact wpAny_getItem_str_slice (l := some (i, ui)) (u := none) (st := none) hs rfl (post_val_or_str ⟨Nat.le_trans (Txt.slice_le z _ _) hz, fin⟩)
    | int j uj => exact wpAny_getItem_str_slice (l := some (i, ui)) (u := some (j, uj)) (st := none) hs rfl (post_val_or_str ⟨Nat.le_trans (Txt.slice_le z _ _) hz, fin⟩)
theorem sl_any : SlR X (rSl X.K) := by
  intro pins s σ H x v vl vu lo hi sl Q I rx hs pl pu h
  cases x with
  | str z => exact sl_str pins s σ H _ v vl vu lo hi sl Q I rx hs pl pu ⟨z, rfl, h.1, h.2⟩
  | ref a =>
    obtain ⟨xs, h1, h2⟩ := h
    exact sl_list pins s σ H _ v vl vu lo hi sl Q I rx hs pl pu ⟨a, xs, rfl, h1, h2⟩
  | _ => exact (show False from h).elim
def rAt (K : PySem.W.Frag) : R2 := fun x y H Q => match x, y with
  | .str z, .int i => z.length ≤ sizeLine ∧ ∃ c, atI z.cps.toList i = some c ∧ Q (.str ⟨#[c]⟩) H
  | .ref p, .int i => (∃ xs v, SqL K H p xs ∧ atI xs i = some v ∧ Q v H) ∨ (∃ xs v, SqT K H p xs ∧ atI xs i = some v ∧ Q v H)
  | _, _ => False
theorem ix_any : IxR X (rAt X.K) := by
  intro value slice pins s σ H x y v u Q I rx ry q hs
  cases x with
  | str z => cases y with
    | int i =>
      obtain ⟨hz, c, hc, q⟩ := q
      exact ix_str value slice pins s σ H _ _ v u Q I rx ry ⟨z, i, c, rfl, rfl, hz, hc, q⟩ hs
    | _ => exact (show False from q).elim
  | ref p => cases y with
    | int i =>
      rcases q with ⟨xs, w', h1, h2, h3⟩ | ⟨xs, w', h1, h2, h3⟩
      · exact ix_list value slice pins s σ H _ _ v u Q I rx ry ⟨p, xs, i, w', rfl, rfl, h1, h2, h3⟩ hs
      · exact ix_tup value slice pins s σ H _ _ v u Q I rx ry ⟨p, xs, i, w', rfl, rfl, h1, h2, h3⟩ hs
    | _ => exact (show False from q).elim
  | _ => exact (show False from q).elim

def rLen (K : PySem.W.Frag) : List V → Hp → VK → Prop := fun vs H Q => match vs with
  | [.str z] => z.length ≤ sizeLine ∧ Q (.int z.length) H
  | [.ref p] => ∃ ys, (SqL K H p ys ∨ SqT K H p ys) ∧ Q (.int ys.length) H
  | _ => False
theorem call_lenU : CallR X (.builtin "len") (rLen X.K) := by
  intro pins s σ H vs us Q I r h
  match vs, h with
  | [.str z], h => exact call_len_str pins s σ H _ us Q I r ⟨z, rfl, h.1, h.2⟩
  | [.ref p], h =>
    obtain ⟨ys, h1, h2⟩ := h
    exact call_len_seq pins s σ H _ us Q I r ⟨p, ys, rfl, h1, h2⟩

theorem strsAre_of {ys : List Str} : ∀ {us : List Value}, Vals (ys.map V.str) us → StrsAre us ys := by
  induction ys with
  | nil => intro us r; rw [List.map_nil] at r; cases r; exact .nil
  | cons n ns ih =>
    intro us r
    rw [List.map_cons] at r
    cases r with
    | cons r1 r2 =>
      obtain ⟨t, e⟩ := r1
      subst e
      exact .cons n t (ih r2)
def rJoin (K : PySem.W.Frag) : V → List V → Hp → VK → Prop := fun x vs H Q => ∃ z l ys, x = .str z ∧ vs = [.ref l] ∧ SqL K H l (ys.map V.str) ∧ (ys.map (·.length)).sum + ys.length * z.length ≤ 16777216 ∧ Q (.str (Txt.join z ys)) H
end
end L2

set_option Elab.async false
set_option maxRecDepth 100000
namespace L2
open PySem PySem.Spec PyProof.Rows

structure EqTy (K : PySem.W.Frag) (k : Nat) {α : Type} [DecidableEq α] (R : Hp → V → α → Prop) : Prop where
  fn : ∀ {X : Cx} {pins : List (Addr × Obj)} {σ : St} {H : Hp} {s : Shared} {x : V} {a b : α}, X.K = K → Inv X pins σ H s → R H x a → R H x b → a = b
  eq : ∀ {X : Cx} {pins : List (Addr × Obj)} {σ : St} {H : Hp} {s : Shared} {x y : V} {u v : Value} {a b : α} (A : Around), X.K = K → Inv X pins σ H s → A.units + k < cLine → RelV x u → RelV y v → R H x a → R H y b → SeqAt.EqAt A s u v (decide (a = b))
  rc : ∀ {X : Cx} {pins : List (Addr × Obj)} {σ : St} {H : Hp} {s : Shared} {x y : V} {u v : Value} {a b : α} (A : Around), X.K = K → Inv X pins σ H s → A.units + k < cLine → RelV x u → RelV y v → R H x a → R H y b → SeqAt.RcAt A s u v (decide (a = b)) ∧ SeqAt.RcNeAt A s u v (!decide (a = b))

def isStr : Hp → V → Str → Prop := fun _ x a => x = .str a
def isInt : Hp → V → Int → Prop := fun _ x a => x = .int a
def isBl : Hp → V → Bool → Prop := fun _ x a => x = .bl a
theorem dec_beq {α : Type} [DecidableEq α] [BEq α] [LawfulBEq α] (a b : α) : (a == b) = decide (a = b) := by
  by_cases h : a = b
  · subst h; simp
  · rw [decide_eq_false h]; simpa using h
theorem eqStr {K : PySem.W.Frag} : EqTy K 0 isStr where
  fn := fun _ _ h1 h2 => by cases h1; cases h2; rfl
  eq := fun A _ _ _ r1 r2 h1 h2 => by
    cases h1; cases h2
    obtain ⟨t, rfl⟩ := r1
    obtain ⟨t', rfl⟩ := r2
    rw [← dec_beq]
    exact SeqAt.EqAt.str_str _ _ _ _
  rc := fun A _ _ _ r1 r2 h1 h2 => by
    cases h1; cases h2
    obtain ⟨t, rfl⟩ := r1
    obtain ⟨t', rfl⟩ := r2
    rw [← dec_beq]
    exact ⟨SeqAt.RcAt.str_str _ _ _ _, SeqAt.RcNeAt.str_str _ _ _ _⟩
theorem eqInt {K : PySem.W.Frag} : EqTy K 0 isInt where
  fn := fun _ _ h1 h2 => by cases h1; cases h2; rfl
  eq := fun A _ _ _ r1 r2 h1 h2 => by
    cases h1; cases h2
    obtain ⟨t, rfl⟩ := r1
    obtain ⟨t', rfl⟩ := r2
    rw [← dec_beq]
    exact SeqAt.EqAt.int_int _ _ _ _
  rc := fun A _ _ _ r1 r2 h1 h2 => by
    cases h1; cases h2
    obtain ⟨t, rfl⟩ := r1
    obtain ⟨t', rfl⟩ := r2
    rw [← dec_beq]
    exact ⟨SeqAt.RcAt.int_int _ _ _ _, SeqAt.RcNeAt.int_int _ _ _ _⟩
theorem eqBl {K : PySem.W.Frag} : EqTy K 0 isBl where
  fn := fun _ _ h1 h2 => by cases h1; cases h2; rfl
  eq := fun A _ _ _ r1 r2 h1 h2 => by
    cases h1; cases h2
    cases r1; cases r2
    rw [← dec_beq]
    exact SeqAt.EqAt.bool_bool _ _
  rc := fun A _ _ _ r1 r2 h1 h2 => by
    cases h1; cases h2
    cases r1; cases r2
    rw [← dec_beq]
    exact ⟨SeqAt.RcAt.bool_bool _ _, SeqAt.RcNeAt.bool_bool _ _⟩

theorem Paired.at' {α β : Type} {F : α → β → Prop} : ∀ {l₁ : List α} {l₂ : List β} {i : Nat} {a : α} {b : β}, Paired F l₁ l₂ → l₁[i]? = some a → l₂[i]? = some b → F a b
  | _, _, _, _, _, .nil, e, _ => by simp at e
  | _, _, 0, _, _, .cons h _, e1, e2 => by simp at e1 e2; subst e1; subst e2; exact h
  | _, _, i + 1, _, _, .cons _ t, e1, e2 => Paired.at' (i := i) t (by simpa using e1) (by simpa using e2)
theorem paired_fn {α β : Type} {F : α → β → Prop} (hf : ∀ a b c, F a b → F a c → b = c) : ∀ {xs : List α} {as bs : List β}, Paired F xs as → Paired F xs bs → as = bs
  | _, _, _, .nil, .nil => rfl
  | _, _, _, .cons h t, .cons h' t' => by rw [hf _ _ _ h h', paired_fn hf t t']
theorem all_dec {α : Type} [DecidableEq α] : ∀ (as bs : List α) (hl : as.length = bs.length), ((List.range as.length).all fun j => decide (as[j]? = bs[j]?)) = decide (as = bs) := by
  intro as bs hl
  apply Bool.eq_iff_iff.mpr
  rw [decide_eq_true_iff, List.all_eq_true]
  constructor
  · intro h
    apply List.ext_getElem? 
    intro i
    by_cases hi : i < as.length
    · exact of_decide_eq_true (h i (List.mem_range.mpr hi))
    · rw [List.getElem?_eq_none (by omega), List.getElem?_eq_none (by omega)]
  · rintro rfl i _
    simp

/-- a list of such data -/
def isLst (K : PySem.W.Frag) {α : Type} (R : Hp → V → α → Prop) : Hp → V → List α → Prop := fun H x as => ∃ l xs, x = .ref l ∧ SqL K H l xs ∧ Paired (R H) xs as
theorem items_eqAt {K : PySem.W.Frag} {k : Nat} {α : Type} [DecidableEq α] {R : Hp → V → α → Prop} (E : EqTy K k R) {X : Cx} {pins : List (Addr × Obj)} {σ : St} {H : Hp} {s : Shared} {A : Around} (hK : X.K = K) (I : Inv X pins σ H s) (hu : A.units + (k + 1) < cLine)
    {xs ys : List V} {us vs : List Value} {as bs : List α} (rx : Vals xs us) (ry : Vals ys vs) (px : Paired (R H) xs as) (py : Paired (R H) ys bs) :
    ∀ j (h1 : j < us.toArray.size) (h2 : j < vs.toArray.size), SeqAt.EqAt A.in1 s us.toArray[j] vs.toArray[j] (decide (as[j]? = bs[j]?)) := by
  intro j h1 h2
  have h1' : j < us.length := by simpa using h1
  have h2' : j < vs.length := by simpa using h2
  have lx := rx.length
  have ly := ry.length
  have lpx := Paired.length px
  have lpy := Paired.length py
  have ex : xs[j]? = some xs[j] := List.getElem?_eq_getElem (by omega)
  have ey : ys[j]? = some ys[j] := List.getElem?_eq_getElem (by omega)
  have ea : as[j]? = some as[j] := List.getElem?_eq_getElem (by omega)
  have eb : bs[j]? = some bs[j] := List.getElem?_eq_getElem (by omega)
  obtain ⟨u, hu', ru⟩ := rx.get ex
  obtain ⟨v, hv', rv⟩ := ry.get ey
  have e1 : us.toArray[j] = u := by
    rw [List.getElem?_eq_getElem h1'] at hu'
    simpa using hu'
  have e2 : vs.toArray[j] = v := by
    rw [List.getElem?_eq_getElem h2'] at hv'
    simpa using hv'
  rw [e1, e2, ea, eb]
  have := E.eq A.in1 hK I (show A.units + 1 + k < cLine by omega) ru rv (Paired.at' px ex ea) (Paired.at' py ey eb)
  have e3 : decide (some as[j] = some bs[j]) = decide (as[j] = bs[j]) := by simp
  rw [e3]
  exact this
theorem eqLst {K : PySem.W.Frag} {k : Nat} {α : Type} [DecidableEq α] {R : Hp → V → α → Prop} (E : EqTy K k R) : EqTy K (k + 1) (isLst K R) := by
  have fn : ∀ {X : Cx} {pins : List (Addr × Obj)} {σ : St} {H : Hp} {s : Shared} {x : V} {a b : List α}, X.K = K → Inv X pins σ H s → isLst K R H x a → isLst K R H x b → a = b := by
    intro X pins σ H s x a b hK I ha hb
    obtain ⟨l, xs, rfl, h1, p1⟩ := ha
    obtain ⟨l', ys, e, h2, p2⟩ := hb
    cases e
    subst hK
    have := I.list_inj h1 h2
    subst this
    exact paired_fn (F := R H) (fun _ _ _ p q => E.fn rfl I p q) p1 p2
  have rc : ∀ {X : Cx} {pins : List (Addr × Obj)} {σ : St} {H : Hp} {s : Shared} {x y : V} {u v : Value} {a b : List α} (A : Around), X.K = K → Inv X pins σ H s → A.units + (k + 1) < cLine → RelV x u → RelV y v → isLst K R H x a → isLst K R H y b →
      SeqAt.RcAt A s u v (decide (a = b)) ∧ SeqAt.RcNeAt A s u v (!decide (a = b)) := by
    intro X pins σ H s x y u v a b A hK I hu r1 r2 ha hb
    obtain ⟨l, xs, rfl, h1, p1⟩ := ha
    obtain ⟨l', ys, rfl, h2, p2⟩ := hb
    cases r1; cases r2
    subst hK
    obtain ⟨us, rx, plx, _⟩ := I.list h1
    obtain ⟨vs, ry, ply, _⟩ := I.list h2
    have lx := rx.length
    have ly := ry.length
    have lpx := Paired.length p1
    have lpy := Paired.length p2
    by_cases hl : a.length = b.length
    · have hsz : us.toArray.size = vs.toArray.size := by simp; omega
      have it := items_eqAt E rfl I hu rx ry p1 p2
      have ed : ((List.range us.toArray.size).all fun j => decide (a[j]? = b[j]?)) = decide (a = b) := by
        rw [← all_dec a b hl, List.size_toArray, ← lx, lpx]
      rw [← ed]
      exact ⟨SeqAt.RcAt.lists plx.isList ply.isList hsz (by omega) it, SeqAt.RcNeAt.lists plx.isList ply.isList hsz (by omega) it⟩
    · have hsz : (us.toArray.size != vs.toArray.size) = true := by simp; omega
      have ne : a ≠ b := fun e => hl (by rw [e])
      rw [decide_eq_false ne]
      exact ⟨SeqAt.RcAt.lists_lengths plx.isList ply.isList hsz (by omega), SeqAt.RcNeAt.lists_lengths plx.isList ply.isList hsz (by omega)⟩
  refine ⟨fn, ?_, rc⟩
  intro X pins σ H s x y u v a b A hK I hu r1 r2 ha hb
  have h := (rc A hK I hu r1 r2 ha hb).1
  obtain ⟨l, xs, rfl, h1, p1⟩ := id ha
  obtain ⟨l', ys, rfl, h2, p2⟩ := id hb
  cases r1; cases r2
  by_cases e : l = l'
  · subst e
    have : a = b := fn hK I ha hb
    rw [decide_eq_true this]
    exact SeqAt.EqAt.same _
  · exact SeqAt.EqAt.of_refs e h

/-- a tuple of two such data -/
def isPair (K : PySem.W.Frag) {α β : Type} (R : Hp → V → α → Prop) (S : Hp → V → β → Prop) : Hp → V → α × β → Prop := fun H x p => ∃ t a b, x = .ref t ∧ SqT K H t [a, b] ∧ R H a p.1 ∧ S H b p.2
theorem eqPair {K : PySem.W.Frag} {k : Nat} {α β : Type} [DecidableEq α] [DecidableEq β] {R : Hp → V → α → Prop} {S : Hp → V → β → Prop} (E : EqTy K k R) (G : EqTy K k S) : EqTy K (k + 1) (isPair K R S) := by
  have fn : ∀ {X : Cx} {pins : List (Addr × Obj)} {σ : St} {H : Hp} {s : Shared} {x : V} {a b : α × β}, X.K = K → Inv X pins σ H s → isPair K R S H x a → isPair K R S H x b → a = b := by
    intro X pins σ H s x a b hK I ha hb
    obtain ⟨l, x1, x2, rfl, h1, p1, p2⟩ := ha
    obtain ⟨l', y1, y2, e, h2, q1, q2⟩ := hb
    cases e
    subst hK
    have := I.tuple_inj h1 h2
    cases this
    exact Prod.ext (E.fn rfl I p1 q1) (G.fn rfl I p2 q2)
  have rc : ∀ {X : Cx} {pins : List (Addr × Obj)} {σ : St} {H : Hp} {s : Shared} {x y : V} {u v : Value} {a b : α × β} (A : Around), X.K = K → Inv X pins σ H s → A.units + (k + 1) < cLine → RelV x u → RelV y v → isPair K R S H x a → isPair K R S H y b →
      SeqAt.RcAt A s u v (decide (a = b)) ∧ SeqAt.RcNeAt A s u v (!decide (a = b)) := by
    intro X pins σ H s x y u v a b A hK I hu r1 r2 ha hb
    obtain ⟨l, x1, x2, rfl, h1, p1, p2⟩ := ha
    obtain ⟨l', y1, y2, rfl, h2, q1, q2⟩ := hb
    cases r1; cases r2
    subst hK
    obtain ⟨us, rx, plx, _⟩ := I.tuple h1
    obtain ⟨vs, ry, ply, _⟩ := I.tuple h2
    obtain ⟨u1, u2, rfl, ru1, ru2⟩ := vals2 rx
    obtain ⟨v1, v2, rfl, rv1, rv2⟩ := vals2 ry
    have e1 := E.eq A.in1 rfl I (show A.units + 1 + k < cLine by omega) ru1 rv1 p1 q1
    have e2 := G.eq A.in1 rfl I (show A.units + 1 + k < cLine by omega) ru2 rv2 p2 q2
    have it : ∀ j (h1 : j < [u1, u2].toArray.size) (h2 : j < [v1, v2].toArray.size), SeqAt.EqAt A.in1 s [u1, u2].toArray[j] [v1, v2].toArray[j] ((fun j => if j = 0 then decide (a.1 = b.1) else decide (a.2 = b.2)) j) := by
      intro j h1 h2
      match j, h1 with
      | 0, _ => exact e1
      | 1, _ => exact e2
      | j + 2, h => exact absurd h (by simp)
    have ed : ((List.range (min [u1, u2].toArray.size [v1, v2].toArray.size)).all (fun j => if j = 0 then decide (a.1 = b.1) else decide (a.2 = b.2)) && [u1, u2].toArray.size == [v1, v2].toArray.size) = decide (a = b) := by
      apply Bool.eq_iff_iff.mpr
      rw [decide_eq_true_iff]
      constructor
      · intro h
        have h : (decide (a.1 = b.1) && (decide (a.2 = b.2) && true) && true) = true := h
        simp only [Bool.and_true, Bool.and_eq_true, decide_eq_true_iff] at h
        exact Prod.ext h.1 h.2
      · rintro rfl
        show (decide (a.1 = a.1) && (decide (a.2 = a.2) && true) && true) = true
        simp
    rw [← ed]
    exact ⟨SeqAt.RcAt.tuples plx ply (by omega) it, SeqAt.RcNeAt.tuples plx ply (by omega) it⟩
  refine ⟨fn, ?_, rc⟩
  intro X pins σ H s x y u v a b A hK I hu r1 r2 ha hb
  have h := (rc A hK I hu r1 r2 ha hb).1
  obtain ⟨l, x1, x2, rfl, h1, p1, p2⟩ := id ha
  obtain ⟨l', y1, y2, rfl, h2, q1, q2⟩ := id hb
  cases r1; cases r2
  by_cases e : l = l'
  · subst e
    have : a = b := fn hK I ha hb
    rw [decide_eq_true this]
    exact SeqAt.EqAt.same _
  · exact SeqAt.EqAt.of_refs e h
section
variable {X : Cx}
theorem op_eqD {k j : Nat} {α : Type} [DecidableEq α] {R : Hp → V → α → Prop} (E : EqTy X.K k R) (hr : Room j X.A) (hk : k ≤ 10) : OpR X (compareOp .Eq) (fun x y H Q => ∃ a b, R H x a ∧ R H y b ∧ Q (.bl (decide (a = b))) H) := by
  intro pins s σ H x y v u Q I rx ry h
  obtain ⟨a, b, h1, h2, q⟩ := h
  exact (E.rc X.A rfl I (by have := hr.un; omega) rx ry h1 h2).1 _ _ _ _ ⟨.bl _, H, I, rfl, q⟩
theorem op_neD {k j : Nat} {α : Type} [DecidableEq α] {R : Hp → V → α → Prop} (E : EqTy X.K k R) (hr : Room j X.A) (hk : k ≤ 10) : OpR X (compareOp .NotEq) (fun x y H Q => ∃ a b, R H x a ∧ R H y b ∧ Q (.bl (!decide (a = b))) H) := by
  intro pins s σ H x y v u Q I rx ry h
  obtain ⟨a, b, h1, h2, q⟩ := h
  exact (E.rc X.A rfl I (by have := hr.un; omega) rx ry h1 h2).2 _ _ _ _ ⟨.bl _, H, I, rfl, q⟩
end
/-- texts in a list; a run -/
abbrev isStrs (K : PySem.W.Frag) : Hp → V → List Str → Prop := isLst K isStr
abbrev isRunV (K : PySem.W.Frag) : Hp → V → List Str × List Str → Prop := isPair K (isStrs K) (isStrs K)
end L2

set_option Elab.async false
set_option linter.all false
set_option maxRecDepth 100000
set_option maxHeartbeats 4000000
namespace L2
open PySem PySem.Spec PyProof.Rows

class Rp (α : Type) where
  rel : PySem.W.Frag → Hp → V → α → Prop
  mono : ∀ {K : PySem.W.Frag} {H H' : Hp} {v : V} {a : α}, Same H H' → rel K H v a → rel K H' v a
theorem Same.rd {H H' : Hp} {a : Addr} {u : HO} (s : Same H H') (h : Rd H a u) : Rd H' a u := by
  rcases h with h | ⟨o, h⟩
  · exact .inl (s _ _ h)
  · exact .inr ⟨o, s _ _ h⟩
theorem Same.tup {K : PySem.W.Frag} {H H' : Hp} {a : Addr} {xs : List V} (e : Same H H') (h : SqT K H a xs) : SqT K H' a xs := by
  rcases h with h | h
  · exact .inl (e.rd h)
  · exact .inr h
instance rpInt : Rp Int := ⟨fun _ _ v a => v = .int a, fun _ h => h⟩
instance rpBool : Rp Bool := ⟨fun _ _ v a => v = .bl a, fun _ h => h⟩
instance rpStr : Rp Str := ⟨fun _ _ v a => v = .str a ∧ a.length ≤ sizeLine, fun _ h => h⟩
instance rpUnit : Rp Unit := ⟨fun _ _ v _ => v = .non, fun _ h => h⟩
instance rpList {α : Type} [Rp α] : Rp (List α) :=
  ⟨fun K H v as => ∃ l xs, v = .ref l ∧ Rd H l (.lst xs) ∧ xs.length ≤ sizeLine ∧ Paired (Rp.rel K H) xs as,
   fun s ⟨l, xs, e, h, z, p⟩ => ⟨l, xs, e, s.rd h, z, Paired.imp' (fun _ _ r => Rp.mono s r) p⟩⟩
instance rpPair {α β : Type} [Rp α] [Rp β] : Rp (α × β) :=
  ⟨fun K H v p => ∃ t a b, v = .ref t ∧ SqT K H t [a, b] ∧ Rp.rel K H a p.1 ∧ Rp.rel K H b p.2,
   fun s ⟨t, a, b, e, h, r1, r2⟩ => ⟨t, a, b, e, s.tup h, Rp.mono s r1, Rp.mono s r2⟩⟩
/-- tuples of one, three, four; of alike things -/
structure T1 (α : Type) where
  a : α
  deriving DecidableEq
structure T3 (α β γ : Type) where
  a : α
  b : β
  c : γ
  deriving DecidableEq
structure T4 (α β γ δ : Type) where
  a : α
  b : β
  c : γ
  d : δ
  deriving DecidableEq
structure Tp (α : Type) where
  l : List α
  deriving DecidableEq
instance rpT1 {α : Type} [Rp α] : Rp (T1 α) :=
  ⟨fun K H v p => ∃ t a, v = .ref t ∧ SqT K H t [a] ∧ Rp.rel K H a p.a, fun s ⟨t, a, e, h, r1⟩ => ⟨t, a, e, s.tup h, Rp.mono s r1⟩⟩
instance rpT3 {α β γ : Type} [Rp α] [Rp β] [Rp γ] : Rp (T3 α β γ) :=
  ⟨fun K H v p => ∃ t a b c, v = .ref t ∧ SqT K H t [a, b, c] ∧ Rp.rel K H a p.a ∧ Rp.rel K H b p.b ∧ Rp.rel K H c p.c,
   fun s ⟨t, a, b, c, e, h, r1, r2, r3⟩ => ⟨t, a, b, c, e, s.tup h, Rp.mono s r1, Rp.mono s r2, Rp.mono s r3⟩⟩
instance rpT4 {α β γ δ : Type} [Rp α] [Rp β] [Rp γ] [Rp δ] : Rp (T4 α β γ δ) :=
  ⟨fun K H v p => ∃ t a b c d, v = .ref t ∧ SqT K H t [a, b, c, d] ∧ Rp.rel K H a p.a ∧ Rp.rel K H b p.b ∧ Rp.rel K H c p.c ∧ Rp.rel K H d p.d,
   fun s ⟨t, a, b, c, d, e, h, r1, r2, r3, r4⟩ => ⟨t, a, b, c, d, e, s.tup h, Rp.mono s r1, Rp.mono s r2, Rp.mono s r3, Rp.mono s r4⟩⟩
instance rpTp {α : Type} [Rp α] : Rp (Tp α) :=
  ⟨fun K H v as => ∃ t xs, v = .ref t ∧ SqT K H t xs ∧ xs.length ≤ sizeLine ∧ Paired (Rp.rel K H) xs as.l,
   fun s ⟨l, xs, e, h, z, p⟩ => ⟨l, xs, e, s.tup h, z, Paired.imp' (fun _ _ r => Rp.mono s r) p⟩⟩
instance rpOpt {α : Type} [Rp α] : Rp (Option α) :=
  ⟨fun K H v o => match o with | none => v = .non | some a => Rp.rel K H v a,
   fun {K H H' v o} s h => by cases o with | none => exact h | some a => exact Rp.mono (α := α) s h⟩

/-- argument lists -/
class RpA (α : Type) where
  n : Nat
  rel : PySem.W.Frag → Hp → List V → α → Prop
  mono : ∀ {K : PySem.W.Frag} {H H' : Hp} {v : List V} {a : α}, Same H H' → rel K H v a → rel K H' v a
  len : ∀ {K : PySem.W.Frag} {H : Hp} {v : List V} {a : α}, rel K H v a → v.length = n
instance raNil : RpA Unit := ⟨0, fun _ _ vs _ => vs = [], fun _ h => h, fun h => by rw [h]; rfl⟩
instance raCons {α β : Type} [Rp α] [RpA β] : RpA (α × β) :=
  ⟨RpA.n β + 1, fun K H vs p => ∃ v r, vs = v :: r ∧ Rp.rel K H v p.1 ∧ RpA.rel K H r p.2,
   fun s ⟨v, r, e, h1, h2⟩ => ⟨v, r, e, Rp.mono s h1, RpA.mono s h2⟩, fun ⟨v, r, e, h1, h2⟩ => by rw [e, List.length_cons, RpA.len h2]⟩

structure Ext (G H G' H' : Hp) : Prop where
  gg : Same G G'
  gh : Same G' H'
  hh : Same H H'
  no : ∀ b, G b = none → H b ≠ none → G' b = none
section
variable {G H G1 H1 G2 H2 G0 H0 : Hp} {p : Addr} {o : HO}
theorem Ext.refl (s : Same G H) : Ext G H G H := ⟨.refl _, s, .refl _, fun _ h _ => h⟩
theorem Ext.trans (x : Ext G H G1 H1) (y : Ext G1 H1 G2 H2) : Ext G H G2 H2 :=
  ⟨x.gg.trans y.gg, y.gh, x.hh.trans y.hh, fun b h1 h2 => y.no b (x.no b h1 h2) fun z => h2 (x.hh.free z)⟩
theorem Same.both (s : Same G H) : Same (upd G p o) (upd H p o) := fun b u e => by
  by_cases hb : b = p
  · subst hb
    rw [upd_same] at e ⊢
    exact e
  · rw [upd_ne hb] at e ⊢
    exact s b u e
theorem Ext.new (s : Same G H) (h : H p = none) : Ext G H (upd G p o) (upd H p o) :=
  ⟨Same.new (s.free h), s.both, Same.new h, fun b h1 h2 => by
    have hb : b ≠ p := fun z => h2 (by rw [z]; exact h)
    rw [upd_ne hb]
    exact h1⟩
theorem Ext.own (s : Same G H) (h : H p = none) : Ext G H G (upd H p o) := ⟨.refl _, s.trans (Same.new h), Same.new h, fun _ h _ => h⟩
theorem Ext.put (x : Ext G0 H0 G H) (h0 : H0 p = none) (hg : G p = none) : Ext G0 H0 G (upd H p o) := ⟨x.gg, x.gh.put hg, x.hh.put h0, x.no⟩
theorem Ext.frz (x : Ext G0 H0 G H) (h0 : H0 p = none) (hg : G p = none) (hh : H p = some o) : Ext G0 H0 (upd G p o) H :=
  ⟨x.gg.trans (Same.new hg), fun b u e => by
    by_cases hb : b = p
    · subst hb
      rw [upd_same] at e
      rw [hh]
      exact e
    · rw [upd_ne hb] at e
      exact x.gh b u e, x.hh, fun b h1 h2 => by
    have hb : b ≠ p := fun z => h2 (by rw [z]; exact h0)
    rw [upd_ne hb]
    exact x.no b h1 h2⟩
end

section
variable {K : PySem.W.Frag} {σ : St} {G : Hp}
def EV (K : PySem.W.Frag) {α : Type} [Rp α] (te : TE) (σ : St) (G : Hp) (m : Option α) : Prop :=
  ∀ G1, Same G G1 → ∀ a, m = some a → ∀ H, Same G1 H → ∀ Q : VK, (∀ v G2 H2, Ext G1 H G2 H2 → Rp.rel K G2 v a → Q v H2) → te σ H Q
def TV (t : TT) (σ : St) (G : Hp) (m : Option Bool) : Prop :=
  ∀ G1, Same G G1 → ∀ a, m = some a → ∀ H, Same G1 H → ∀ Q : Bool → Hp → Prop, (∀ G2 H2, Ext G1 H G2 H2 → Q a H2) → t σ H Q
def AV (K : PySem.W.Frag) {α : Type} [RpA α] (t : TA) (σ : St) (G : Hp) (m : Option α) : Prop :=
  ∀ G1, Same G G1 → ∀ a, m = some a → ∀ H, Same G1 H → ∀ Q : List V → Hp → Prop, (∀ vs G2 H2, Ext G1 H G2 H2 → RpA.rel K G2 vs a → Q vs H2) → t σ H Q
/-- written items, n of them, alike -/
def LV (K : PySem.W.Frag) {α : Type} [Rp α] (t : TA) (σ : St) (G : Hp) (n : Nat) (m : Option (List α)) : Prop :=
  ∀ G1, Same G G1 → ∀ a, m = some a → ∀ H, Same G1 H → ∀ Q : List V → Hp → Prop, (∀ vs G2 H2, Ext G1 H G2 H2 → vs.length = n → Paired (Rp.rel K G2) vs a → Q vs H2) → t σ H Q
def OV (t : TO) (σ : St) (G : Hp) (m : Option (Option Int)) : Prop :=
  ∀ G1, Same G G1 → ∀ a, m = some a → ∀ H, Same G1 H → ∀ Q : Option Int → Hp → Prop, (∀ G2 H2, Ext G1 H G2 H2 → Q a H2) → t σ H Q
/-- a new list -/
def FV (K : PySem.W.Frag) {α : Type} [Rp α] (te : TE) (σ : St) (G : Hp) (m : Option (List α)) : Prop :=
  ∀ G1, Same G G1 → ∀ a, m = some a → ∀ H, Same G1 H → ∀ Q : VK, (∀ p vs G2 H2, Ext G1 H G2 H2 → H p = none → G2 p = none → H2 p = some (.lst vs) → vs.length ≤ sizeLine → Paired (Rp.rel K G2) vs a → Q (.ref p) H2) → te σ H Q
/-- what is walked -/
def IV (K : PySem.W.Frag) {α : Type} [Rp α] (wi : TI) (σ : St) (G : Hp) (m : Option (List α)) : Prop :=
  ∀ G1, Same G G1 → ∀ a, m = some a → ∀ H, Same G1 H → ∀ R : It → Hp → Prop, (∀ J vs G2 H2, Ext G1 H G2 H2 → Yields J G2 vs → Paired (Rp.rel K G2) vs a → R J H2) → wi σ H R

section
variable {α β γ δ : Type} [Rp α] [Rp β] [Rp γ] [Rp δ] {ta tb tc td : TE} {ma : Option α} {mb : Option β} {mc : Option γ}
theorem EV.run {te : TE} {H : Hp} {a : α} {Q : VK} {m : Option α} (e : EV K te σ G m) (hm : m = some a) (s : Same G H) (k : ∀ v G2 H2, Ext G H G2 H2 → Rp.rel K G2 v a → Q v H2) : te σ H Q := e G (.refl G) a hm H s Q k
theorem TV.run {t : TT} {H : Hp} {a : Bool} {Q : Bool → Hp → Prop} {m : Option Bool} (e : TV t σ G m) (hm : m = some a) (s : Same G H) (k : ∀ G2 H2, Ext G H G2 H2 → Q a H2) : t σ H Q := e G (.refl G) a hm H s Q k
theorem EV.of {te : TE} {m m' : Option α} (e : EV K te σ G m) (h : m = m') : EV K te σ G m' := h ▸ e

theorem FV.ev {te : TE} {m : Option (List α)} (e : FV K te σ G m) : EV K te σ G m := by
  intro G1 s1 a ha H sH Q k
  refine e G1 s1 a ha H sH Q fun p vs G2 H2 x h0 hg hh hz hp => ?_
  exact k _ _ _ (x.frz h0 hg hh) ⟨p, vs, rfl, .inl upd_same, hz, Paired.imp' (fun _ _ r => Rp.mono (Same.new hg) r) hp⟩

theorem ev_var {i : Nat} {v : V} {a : α} (h : σ[i]? = some (some v)) (r : Rp.rel K G v a) : EV K (tVar i) σ G (some a) := fun G1 s a' e H sH Q k => by
  cases e
  exact ⟨v, h, k v G1 H (.refl sH) (Rp.mono s r)⟩
theorem ev_c {v : V} {a : α} (h : ∀ G, Rp.rel K G v a) : EV K (tC v) σ G (some a) := fun G1 s a' e H sH Q k => by
  cases e
  exact k v G1 H (.refl sH) (h _)
theorem ev_i {i : Int} : EV K (tC (.int i)) σ G (some i) := ev_c fun _ => rfl
theorem ev_b {b : Bool} : EV K (tC (.bl b)) σ G (some b) := ev_c fun _ => rfl
theorem ev_s {x : Str} (h : x.length ≤ sizeLine := by decide +kernel) : EV K (tC (.str x)) σ G (some x) := ev_c fun _ => ⟨rfl, h⟩
theorem ev_bin {r : R2} {f : α → β → Option γ}
    (h : ∀ {G H : Hp} {v u : V} {a : α} {b : β} {c : γ}, Same G H → Rp.rel K G v a → Rp.rel K G u b → f a b = some c → ∀ {Q : VK}, (∀ w G2 H2, Ext G H G2 H2 → Rp.rel K G2 w c → Q w H2) → r v u H Q)
    (ea : EV K ta σ G ma) (eb : EV K tb σ G mb) : EV K (tOp r ta tb) σ G (ma.bind fun a => mb.bind fun b => f a b) := by
  intro G1 s1 c hc H sH Q k
  obtain ⟨a, ha, hc⟩ := Option.bind_eq_some_iff.mp hc
  obtain ⟨b, hb, hc⟩ := Option.bind_eq_some_iff.mp hc
  refine ea G1 s1 a ha H sH _ fun v G2 H2 x2 r2 => ?_
  refine eb G2 (s1.trans x2.gg) b hb H2 x2.gh _ fun u G3 H3 x3 r3 => ?_
  exact h x3.gh (Rp.mono x3.gg r2) r3 hc fun w G4 H4 x4 r4 => k w G4 H4 ((x2.trans x3).trans x4) r4
theorem ev_un {r : V → Hp → VK → Prop} {f : α → Option γ}
    (h : ∀ {G H : Hp} {v : V} {a : α} {c : γ}, Same G H → Rp.rel K G v a → f a = some c → ∀ {Q : VK}, (∀ w G2 H2, Ext G H G2 H2 → Rp.rel K G2 w c → Q w H2) → r v H Q)
    (ea : EV K ta σ G ma) : EV K (tUn r ta) σ G (ma.bind fun a => f a) := by
  intro G1 s1 c hc H sH Q k
  obtain ⟨a, ha, hc⟩ := Option.bind_eq_some_iff.mp hc
  refine ea G1 s1 a ha H sH _ fun v G2 H2 x2 r2 => ?_
  exact h x2.gh r2 hc fun w G4 H4 x4 r4 => k w G4 H4 (x2.trans x4) r4

instance decMul (i j : Int) : Decidable (CMul i j) := by unfold CMul; infer_instance
instance decDiv (i j : Int) : Decidable (CDiv i j) := by unfold CDiv; infer_instance
instance decPow (i j : Int) : Decidable (CPow i j) := by unfold CPow; infer_instance
def mulO (a b : Int) : Option Int := if CMul a b then some (a * b) else none
def divO (a b : Int) : Option Int := if CDiv a b then some (a / b) else none
def modO (a b : Int) : Option Int := if 0 < b then some (a % b) else none
def powO (a b : Int) : Option Int := if CPow a b then some (a ^ b.toNat) else none
theorem ite_some {p : Prop} [Decidable p] {α : Type} {a c : α} (h : (if p then some a else none) = some c) : p ∧ a = c := by
  by_cases hp : p
  · rw [if_pos hp] at h
    exact ⟨hp, Option.some.inj h⟩
  · rw [if_neg hp] at h
    cases h
section
variable {ia ib : Option Int}
theorem ev_add (ea : EV K ta σ G ia) (eb : EV K tb σ G ib) : EV K (tOp (rPlus K) ta tb) σ G (ia.bind fun a => ib.bind fun b => some (a + b)) :=
  ev_bin (fun s ra rb e Q k => by cases ra; cases rb; cases e; exact k _ _ _ (.refl s) rfl) ea eb
theorem ev_sub (ea : EV K ta σ G ia) (eb : EV K tb σ G ib) : EV K (tOp (rI0 fun i j => .int (i - j)) ta tb) σ G (ia.bind fun a => ib.bind fun b => some (a - b)) :=
  ev_bin (fun s ra rb e Q k => by cases ra; cases rb; cases e; exact ⟨_, _, rfl, rfl, k _ _ _ (.refl s) rfl⟩) ea eb
theorem ev_mul (ea : EV K ta σ G ia) (eb : EV K tb σ G ib) : EV K (tOp (rMul K) ta tb) σ G (ia.bind fun a => ib.bind fun b => mulO a b) :=
  ev_bin (fun s ra rb e Q k => by cases ra; cases rb; obtain ⟨h, rfl⟩ := ite_some e; exact ⟨h, k _ _ _ (.refl s) rfl⟩) ea eb
theorem ev_mod (ea : EV K ta σ G ia) (eb : EV K tb σ G ib) : EV K (tOp (rI (fun _ j => 0 < j) fun i j => .int (i % j)) ta tb) σ G (ia.bind fun a => ib.bind fun b => modO a b) :=
  ev_bin (fun s ra rb e Q k => by cases ra; cases rb; obtain ⟨h, rfl⟩ := ite_some e; exact ⟨_, _, rfl, rfl, h, k _ _ _ (.refl s) rfl⟩) ea eb
theorem ev_div (ea : EV K ta σ G ia) (eb : EV K tb σ G ib) : EV K (tOp (rI CDiv fun i j => .int (i / j)) ta tb) σ G (ia.bind fun a => ib.bind fun b => divO a b) :=
  ev_bin (fun s ra rb e Q k => by cases ra; cases rb; obtain ⟨h, rfl⟩ := ite_some e; exact ⟨_, _, rfl, rfl, h, k _ _ _ (.refl s) rfl⟩) ea eb
theorem ev_pow (ea : EV K ta σ G ia) (eb : EV K tb σ G ib) : EV K (tOp (rI CPow fun i j => .int (i ^ j.toNat)) ta tb) σ G (ia.bind fun a => ib.bind fun b => powO a b) :=
  ev_bin (fun s ra rb e Q k => by cases ra; cases rb; obtain ⟨h, rfl⟩ := ite_some e; exact ⟨_, _, rfl, rfl, h, k _ _ _ (.refl s) rfl⟩) ea eb
theorem ev_neg (ea : EV K ta σ G ia) : EV K (tUn (rU fun i => .int (-i)) ta) σ G (ia.bind fun a => some (-a)) :=
  ev_un (fun s ra e Q k => by cases ra; cases e; exact ⟨_, rfl, k _ _ _ (.refl s) rfl⟩) ea
theorem ev_ord {p : Int → Int → Bool} {q : List Nat → List Nat → Bool} (ea : EV K ta σ G ia) (eb : EV K tb σ G ib) : EV K (tOp (rOrd p q) ta tb) σ G (ia.bind fun a => ib.bind fun b => some (p a b)) :=
  ev_bin (fun s ra rb e Q k => by cases ra; cases rb; cases e; exact k _ _ _ (.refl s) rfl) ea eb
theorem ev_eqI (ea : EV K ta σ G ia) (eb : EV K tb σ G ib) : EV K (tOp rEq ta tb) σ G (ia.bind fun a => ib.bind fun b => some (decide (a = b))) :=
  ev_bin (fun s ra rb e Q k => by cases ra; cases rb; cases e; exact ⟨rfl, k _ _ _ (.refl s) (by show V.bl _ = V.bl _; congr 1; simp)⟩) ea eb
end
section
variable {ba bb : Option Bool}
theorem ev_eqB (ea : EV K ta σ G ba) (eb : EV K tb σ G bb) : EV K (tOp rEq ta tb) σ G (ba.bind fun a => bb.bind fun b => some (decide (a = b))) :=
  ev_bin (fun s ra rb e Q k => by cases ra; cases rb; cases e; exact ⟨rfl, k _ _ _ (.refl s) (by show V.bl _ = V.bl _; congr 1; simp)⟩) ea eb
theorem ev_neB (ea : EV K ta σ G ba) (eb : EV K tb σ G bb) : EV K (tOp rNe ta tb) σ G (ba.bind fun a => bb.bind fun b => some (!decide (a = b))) :=
  ev_bin (fun s ra rb e Q k => by cases ra; cases rb; cases e; exact ⟨rfl, k _ _ _ (.refl s) (by show V.bl _ = V.bl _; congr 1; simp)⟩) ea eb
theorem ev_ifx {tt : TT} {m1 m2 : Option α} (et : TV tt σ G ba) (ea : EV K ta σ G m1) (eb : EV K tb σ G m2) : EV K (tIf tt ta tb) σ G (ba.bind fun a => cond a m1 m2) := by
  intro G1 s1 c hc H sH Q k
  obtain ⟨a, ha, hc⟩ := Option.bind_eq_some_iff.mp hc
  refine et G1 s1 a ha H sH _ fun G2 H2 x2 => ?_
  cases a with
  | true => exact iteT (ea G2 (s1.trans x2.gg) c hc H2 x2.gh _ fun u G3 H3 x3 r3 => k _ _ _ (x2.trans x3) r3)
  | false => exact iteF (eb G2 (s1.trans x2.gg) c hc H2 x2.gh _ fun u G3 H3 x3 r3 => k _ _ _ (x2.trans x3) r3)
theorem tv_test (ea : EV K ta σ G ba) : TV (tTest ta) σ G ba := by
  intro G1 s1 c hc H sH Q k
  refine ea G1 s1 c hc H sH _ fun v G2 H2 x2 r2 => ?_
  cases r2
  exact ⟨_, rfl, k _ _ x2⟩
theorem tv_not {t : TT} (ea : TV t σ G ba) : TV (tNot t) σ G (ba.bind fun a => some (!a)) := by
  intro G1 s1 c hc H sH Q k
  obtain ⟨a, ha, hc⟩ := Option.bind_eq_some_iff.mp hc
  cases hc
  exact ea G1 s1 a ha H sH _ fun G2 H2 x2 => k _ _ x2
theorem tv_and {t u : TT} (ea : TV t σ G ba) (eb : TV u σ G bb) : TV (tAnd t u) σ G (ba.bind fun a => cond a bb (some false)) := by
  intro G1 s1 c hc H sH Q k
  obtain ⟨a, ha, hc⟩ := Option.bind_eq_some_iff.mp hc
  refine ea G1 s1 a ha H sH _ fun G2 H2 x2 => ?_
  cases a with
  | false => cases hc; exact iteF (k _ _ x2)
  | true => exact iteT (eb G2 (s1.trans x2.gg) c hc H2 x2.gh _ fun G3 H3 x3 => k _ _ (x2.trans x3))
theorem tv_or {t u : TT} (ea : TV t σ G ba) (eb : TV u σ G bb) : TV (tOr t u) σ G (ba.bind fun a => cond a (some true) bb) := by
  intro G1 s1 c hc H sH Q k
  obtain ⟨a, ha, hc⟩ := Option.bind_eq_some_iff.mp hc
  refine ea G1 s1 a ha H sH _ fun G2 H2 x2 => ?_
  cases a with
  | true => cases hc; exact iteT (k _ _ x2)
  | false => exact iteF (eb G2 (s1.trans x2.gg) c hc H2 x2.gh _ fun G3 H3 x3 => k _ _ (x2.trans x3))
/-- a truth, a number, a text, a list as a test -/
theorem tv_tru {f : α → Bool} (h : ∀ {G : Hp} {v : V} {a : α}, Rp.rel K G v a → TruV K v G (f a)) (mn : ∀ {G H : Hp} {v : V} {k : Bool}, Same G H → TruV K v G k → TruV K v H k) (ea : EV K ta σ G ma) :
    TV (fun σ H Q => ta σ H fun x H' => ∃ k, TruV K x H' k ∧ Q k H') σ G (ma.bind fun a => some (f a)) := by
  intro G1 s1 c hc H sH Q k
  obtain ⟨a, ha, hc⟩ := Option.bind_eq_some_iff.mp hc
  cases hc
  refine ea G1 s1 a ha H sH _ fun v G2 H2 x2 r2 => ?_
  exact ⟨_, mn x2.gh (h r2), k _ _ x2⟩
end
end
end
end L2

set_option Elab.async false
set_option linter.all false
set_option maxRecDepth 100000
set_option maxHeartbeats 4000000
namespace L2
open PySem PySem.Spec PyProof.Rows
section
variable {K : PySem.W.Frag} {σ : St} {G : Hp} {α β γ δ : Type} [Rp α] [Rp β] [Rp γ] [Rp δ] {ta tb tc td : TE} {ma : Option α} {mb : Option β} {mc : Option γ} {md : Option δ}

section
variable {sa sb : Option Str} {ia ib : Option Int}
def catS (a b : Str) : Option Str := if a.length + b.length ≤ sizeLine then some (a ++ b) else none
theorem ev_catS (ea : EV K ta σ G sa) (eb : EV K tb σ G sb) : EV K (tOp (rPlus K) ta tb) σ G (sa.bind fun a => sb.bind fun b => catS a b) :=
  ev_bin (fun s ra rb e Q k => by
    obtain ⟨rfl, z1⟩ := ra; obtain ⟨rfl, z2⟩ := rb; obtain ⟨h, rfl⟩ := ite_some e
    exact ⟨h, k _ _ _ (.refl s) ⟨rfl, by rw [len_app]; exact h⟩⟩) ea eb
/-- a text in a text -/
def inS (a b : Str) : Bool := !(Builtin.Str.occurrences b a 0 b.length 1).isEmpty
theorem ev_atS (ea : EV K ta σ G sa) (eb : EV K tb σ G ib) : EV K (tOp (rAt K) ta tb) σ G (sa.bind fun a => ib.bind fun i => (atI a.cps.toList i).bind fun c => some (⟨#[c]⟩ : Str)) :=
  ev_bin (fun s ra rb e Q k => by
    obtain ⟨rfl, z1⟩ := ra; cases rb
    obtain ⟨c, hc, e⟩ := Option.bind_eq_some_iff.mp e
    cases e
    exact ⟨z1, c, hc, k _ _ _ (.refl s) ⟨rfl, by show 1 ≤ sizeLine; decide⟩⟩) ea eb
end
theorem paired_atI {R : V → α → Prop} {xs : List V} {as : List α} {i : Int} {a : α} (p : Paired R xs as) (h : atI as i = some a) : ∃ v, atI xs i = some v ∧ R v a := by
  have hl := Paired.length p
  unfold atI at h ⊢
  obtain ⟨j, hj, h⟩ := Option.bind_eq_some_iff.mp h
  rw [hl, hj]
  have hlt : j < xs.length := by
    have := (List.getElem?_eq_some_iff.mp h).1
    omega
  exact ⟨xs[j], List.getElem?_eq_getElem hlt, Paired.at' p (List.getElem?_eq_getElem hlt) h⟩
theorem Paired.app {α β : Type} {F : α → β → Prop} : ∀ {l1 l2 : List α} {m1 m2 : List β}, Paired F l1 m1 → Paired F l2 m2 → Paired F (l1 ++ l2) (m1 ++ m2)
  | _, _, _, _, .nil, h => h
  | _, _, _, _, .cons r t, h => .cons r (Paired.app t h)
theorem Paired.tk {α β : Type} {F : α → β → Prop} : ∀ (n : Nat) {l : List α} {m : List β}, Paired F l m → Paired F (l.take n) (m.take n)
  | 0, _, _, _ => by simpa using .nil
  | n + 1, _, _, .nil => by simpa using .nil
  | n + 1, _, _, .cons r t => .cons r (Paired.tk n t)
theorem Paired.dp {α β : Type} {F : α → β → Prop} : ∀ (n : Nat) {l : List α} {m : List β}, Paired F l m → Paired F (l.drop n) (m.drop n)
  | 0, _, _, h => h
  | n + 1, _, _, .nil => by simpa using .nil
  | n + 1, _, _, .cons r t => Paired.dp n t
theorem Paired.rep {α β : Type} {F : α → β → Prop} {l : List α} {m : List β} (h : Paired F l m) : ∀ n : Nat, Paired F (List.replicate n l).flatten (List.replicate n m).flatten
  | 0 => .nil
  | n + 1 => by
    rw [List.replicate_succ, List.replicate_succ, List.flatten_cons, List.flatten_cons]
    exact Paired.app h (Paired.rep h n)
theorem Paired.st {α β : Type} {F : α → β → Prop} {a : α} {b : β} (r : F a b) : ∀ {l : List α} {m : List β} (j : Nat), Paired F l m → Paired F (l.set j a) (m.set j b)
  | _, _, _, .nil => .nil
  | _, _, 0, .cons _ t => .cons r t
  | _, _, j + 1, .cons q t => .cons q (Paired.st r j t)
section
variable {la lb : Option (List α)} {ia ib : Option Int}
theorem ev_at (ea : EV K ta σ G la) (eb : EV K tb σ G ib) : EV K (tOp (rAt K) ta tb) σ G (la.bind fun a => ib.bind fun i => atI a i) :=
  ev_bin (fun s ra rb e Q k => by
    obtain ⟨l, xs, rfl, h, z, p⟩ := ra; cases rb
    obtain ⟨v, hv, r⟩ := paired_atI p e
    exact .inl ⟨xs, v, .inl (s.rd h), hv, k _ _ _ (.refl s) r⟩) ea eb
/-- the parts of written tuples -/
theorem ev_part {τ : Type} [Rp τ] {mt : Option τ} {i : Int} {f : τ → α} (h : ∀ {G : Hp} {v : V} {p : τ}, Rp.rel K G v p → ∃ t xs w, v = .ref t ∧ SqT K G t xs ∧ atI xs i = some w ∧ Rp.rel K G w (f p)) (ea : EV K ta σ G mt) :
    EV K (tOp (rAt K) ta (tC (.int i))) σ G (mt.bind fun p => some (f p)) := by
  intro G1 s1 c hc H sH Q k
  obtain ⟨a, ha, hc⟩ := Option.bind_eq_some_iff.mp hc
  cases hc
  refine ea G1 s1 a ha H sH _ fun v G2 H2 x2 r2 => ?_
  obtain ⟨t, xs, w, rfl, ht, hw, r⟩ := h r2
  exact .inr ⟨xs, w, x2.gh.tup ht, hw, k _ _ _ x2 r⟩
theorem ev_fst {mt : Option (α × β)} (ea : EV K ta σ G mt) : EV K (tOp (rAt K) ta (tC (.int 0))) σ G (mt.bind fun p => some p.1) :=
  ev_part (τ := α × β) (fun ⟨t, a, b, e, h, r1, r2⟩ => ⟨t, _, a, e, h, rfl, r1⟩) ea
theorem ev_snd {mt : Option (α × β)} (ea : EV K ta σ G mt) : EV K (tOp (rAt K) ta (tC (.int 1))) σ G (mt.bind fun p => some p.2) :=
  ev_part (τ := α × β) (fun ⟨t, a, b, e, h, r1, r2⟩ => ⟨t, _, b, e, h, rfl, r2⟩) ea
theorem ev_p41 {mt : Option (T4 α β γ δ)} (ea : EV K ta σ G mt) : EV K (tOp (rAt K) ta (tC (.int 0))) σ G (mt.bind fun p => some p.a) :=
  ev_part (τ := T4 α β γ δ) (fun ⟨t, a, b, c, d, e, h, r1, r2, r3, r4⟩ => ⟨t, _, a, e, h, rfl, r1⟩) ea
theorem ev_p42 {mt : Option (T4 α β γ δ)} (ea : EV K ta σ G mt) : EV K (tOp (rAt K) ta (tC (.int 1))) σ G (mt.bind fun p => some p.b) :=
  ev_part (τ := T4 α β γ δ) (fun ⟨t, a, b, c, d, e, h, r1, r2, r3, r4⟩ => ⟨t, _, b, e, h, rfl, r2⟩) ea
theorem ev_p43 {mt : Option (T4 α β γ δ)} (ea : EV K ta σ G mt) : EV K (tOp (rAt K) ta (tC (.int 2))) σ G (mt.bind fun p => some p.c) :=
  ev_part (τ := T4 α β γ δ) (fun ⟨t, a, b, c, d, e, h, r1, r2, r3, r4⟩ => ⟨t, _, c, e, h, rfl, r3⟩) ea
theorem ev_p44 {mt : Option (T4 α β γ δ)} (ea : EV K ta σ G mt) : EV K (tOp (rAt K) ta (tC (.int 3))) σ G (mt.bind fun p => some p.d) :=
  ev_part (τ := T4 α β γ δ) (fun ⟨t, a, b, c, d, e, h, r1, r2, r3, r4⟩ => ⟨t, _, d, e, h, rfl, r4⟩) ea

/-- what a new list's rule asks and gives -/
theorem fv_of {H : Hp} {Q : VK} {as : List α} {G1 : Hp} (s : Same G1 H) {vs : List V} (hz : vs.length ≤ sizeLine) (hp : Paired (Rp.rel K G1) vs as)
    (k : ∀ p vs G2 H2, Ext G1 H G2 H2 → H p = none → G2 p = none → H2 p = some (.lst vs) → vs.length ≤ sizeLine → Paired (Rp.rel K G2) vs as → Q (.ref p) H2) : ∀ p, H p = none → Q (.ref p) (upd H p (.lst vs)) :=
  fun p h => k p vs G1 _ (.own s h) h (s.free h) upd_same hz hp
theorem FV.mono {H H' G1 G2 : Hp} {as : List α} {Q : VK} (x : Ext G1 H G2 H')
    (k : ∀ p vs G3 H3, Ext G1 H G3 H3 → H p = none → G3 p = none → H3 p = some (.lst vs) → vs.length ≤ sizeLine → Paired (Rp.rel K G3) vs as → Q (.ref p) H3) :
    ∀ p vs G3 H3, Ext G2 H' G3 H3 → H' p = none → G3 p = none → H3 p = some (.lst vs) → vs.length ≤ sizeLine → Paired (Rp.rel K G3) vs as → Q (.ref p) H3 :=
  fun p vs G3 H3 y h0 => k p vs G3 H3 (x.trans y) (x.hh.free h0)
def catL {α : Type} (a b : List α) : Option (List α) := if a.length + b.length ≤ sizeLine then some (a ++ b) else none
theorem fv_cat (ea : EV K ta σ G la) (eb : EV K tb σ G lb) : FV K (tOp (rPlus K) ta tb) σ G (la.bind fun a => lb.bind fun b => catL a b) := by
  intro G1 s1 c hc H sH Q k
  obtain ⟨a, ha, hc⟩ := Option.bind_eq_some_iff.mp hc
  obtain ⟨b, hb, hc⟩ := Option.bind_eq_some_iff.mp hc
  obtain ⟨hl, rfl⟩ := ite_some hc
  refine ea G1 s1 a ha H sH _ fun v G2 H2 x2 r2 => ?_
  refine eb G2 (s1.trans x2.gg) b hb H2 x2.gh _ fun u G3 H3 x3 r3 => ?_
  obtain ⟨l1, xs, rfl, h1, z1, p1⟩ := Rp.mono x3.gg r2
  obtain ⟨l2, ys, rfl, h2, z2, p2⟩ := r3
  have e1 := Paired.length p1
  have e2 := Paired.length p2
  have hz : (xs ++ ys).length ≤ sizeLine := by rw [List.length_append]; omega
  exact ⟨xs, ys, x3.gh.rd h1, x3.gh.rd h2, by rw [List.length_append] at hz; exact hz, fv_of x3.gh hz (Paired.app p1 p2) (FV.mono (x2.trans x3) k)⟩
def cutA {α : Type} (xs : List α) (lo hi : Option Int) : List α := (xs.drop (HT.sIx xs.length 0 lo)).take (HT.sIx xs.length xs.length hi - HT.sIx xs.length 0 lo)
theorem Paired.cut {α : Type} {R : V → α → Prop} {xs : List V} {as : List α} (p : Paired R xs as) (lo hi : Option Int) : Paired R (cutV xs lo hi) (cutA as lo hi) := by
  unfold cutV cutA
  rw [Paired.length p]
  exact Paired.tk _ (Paired.dp _ p)
section
variable {t1 t2 : TO} {m1 m2 : Option (Option Int)}
theorem ov_none : OV tNoPart σ G (some none) := fun G1 s1 a ha H sH Q k => by
  cases ha
  exact k _ _ (.refl sH)
theorem ov_some (ea : EV K ta σ G ia) : OV (tPart ta) σ G (ia.bind fun i => some (some i)) := by
  intro G1 s1 c hc H sH Q k
  obtain ⟨a, ha, hc⟩ := Option.bind_eq_some_iff.mp hc
  cases hc
  refine ea G1 s1 a ha H sH _ fun v G2 H2 x2 r2 => ?_
  cases r2
  exact ⟨_, rfl, k _ _ x2⟩
theorem fv_slice (ea : EV K ta σ G la) (e1 : OV t1 σ G m1) (e2 : OV t2 σ G m2) : FV K (tSl (rSl K) ta t1 t2) σ G (la.bind fun a => m1.bind fun lo => m2.bind fun hi => some (cutA a lo hi)) := by
  intro G1 s1 c hc H sH Q k
  obtain ⟨a, ha, hc⟩ := Option.bind_eq_some_iff.mp hc
  obtain ⟨lo, hlo, hc⟩ := Option.bind_eq_some_iff.mp hc
  obtain ⟨hi, hhi, hc⟩ := Option.bind_eq_some_iff.mp hc
  cases hc
  refine ea G1 s1 a ha H sH _ fun v G2 H2 x2 r2 => ?_
  refine e1 G2 (s1.trans x2.gg) lo hlo H2 x2.gh _ fun G3 H3 x3 => ?_
  refine e2 G3 (s1.trans (x2.trans x3).gg) hi hhi H3 x3.gh _ fun G4 H4 x4 => ?_
  obtain ⟨l, xs, rfl, h, z, p⟩ := Rp.mono (x3.trans x4).gg r2
  exact ⟨xs, .inl (x4.gh.rd h), fv_of x4.gh (Nat.le_trans (cutV_length _ _ _) z) (Paired.cut p lo hi) (FV.mono ((x2.trans x3).trans x4) k)⟩
end
end
section
variable {t : TA} {n : Nat} {ml : Option (List α)}
theorem lv_nil : LV K tNil σ G 0 (some ([] : List α)) := fun G1 s1 a ha H sH Q k => by
  cases ha
  exact k _ _ _ (.refl sH) rfl .nil
theorem lv_cons (ea : EV K ta σ G ma) (er : LV K t σ G n ml) : LV K (tCons ta t) σ G (n + 1) (ma.bind fun a => ml.bind fun r => some (a :: r)) := by
  intro G1 s1 c hc H sH Q k
  obtain ⟨a, ha, hc⟩ := Option.bind_eq_some_iff.mp hc
  obtain ⟨r, hr, hc⟩ := Option.bind_eq_some_iff.mp hc
  cases hc
  refine ea G1 s1 a ha H sH _ fun v G2 H2 x2 r2 => ?_
  refine er G2 (s1.trans x2.gg) r hr H2 x2.gh _ fun vs G3 H3 x3 hl hp => ?_
  exact k _ _ _ (x2.trans x3) (by rw [List.length_cons, hl]) (.cons (Rp.mono x3.gg r2) hp)
theorem fv_lst (e : LV K t σ G n ml) (hn : n ≤ sizeLine := by decide) : FV K (tLst t) σ G ml := by
  intro G1 s1 c hc H sH Q k
  refine e G1 s1 c hc H sH _ fun vs G2 H2 x2 hl hp => ?_
  exact ⟨by omega, fv_of x2.gh (by omega) hp (FV.mono x2 k)⟩
theorem ev_tup2 (ea : EV K ta σ G ma) (eb : EV K tb σ G mb) : EV K (tTup (tCons ta (tCons tb tNil))) σ G (ma.bind fun a => mb.bind fun b => some (a, b)) := by
  intro G1 s1 c hc H sH Q k
  obtain ⟨a, ha, hc⟩ := Option.bind_eq_some_iff.mp hc
  obtain ⟨b, hb, hc⟩ := Option.bind_eq_some_iff.mp hc
  cases hc
  refine ea G1 s1 a ha H sH _ fun v G2 H2 x2 r2 => ?_
  refine eb G2 (s1.trans x2.gg) b hb H2 x2.gh _ fun u G3 H3 x3 r3 => ⟨by show 2 ≤ sizeLine; decide, fun p h => ?_⟩
  have s := Same.new (o := .tup [v, u]) (x3.gh.free h)
  exact k _ _ _ ((x2.trans x3).trans (.new x3.gh h)) ⟨p, v, u, rfl, SqT.of upd_same, Rp.mono (x3.gg.trans s) r2, Rp.mono s r3⟩
theorem ev_tup4 (ea : EV K ta σ G ma) (eb : EV K tb σ G mb) (ec : EV K tc σ G mc) (ed : EV K td σ G md) : EV K (tTup (tCons ta (tCons tb (tCons tc (tCons td tNil))))) σ G (ma.bind fun a => mb.bind fun b => mc.bind fun c => md.bind fun d => some (T4.mk a b c d)) := by
  intro G1 s1 c hc H sH Q k
  obtain ⟨a, ha, hc⟩ := Option.bind_eq_some_iff.mp hc
  obtain ⟨b, hb, hc⟩ := Option.bind_eq_some_iff.mp hc
  obtain ⟨c', hc', hc⟩ := Option.bind_eq_some_iff.mp hc
  obtain ⟨d, hd, hc⟩ := Option.bind_eq_some_iff.mp hc
  cases hc
  refine ea G1 s1 a ha H sH _ fun v G2 H2 x2 r2 => ?_
  refine eb G2 (s1.trans x2.gg) b hb H2 x2.gh _ fun u G3 H3 x3 r3 => ?_
  refine ec G3 (s1.trans (x2.trans x3).gg) c' hc' H3 x3.gh _ fun w G4 H4 x4 r4 => ?_
  refine ed G4 (s1.trans ((x2.trans x3).trans x4).gg) d hd H4 x4.gh _ fun y G5 H5 x5 r5 => ⟨by show 4 ≤ sizeLine; decide, fun p h => ?_⟩
  have s := Same.new (o := .tup [v, u, w, y]) (x5.gh.free h)
  exact k _ _ _ ((((x2.trans x3).trans x4).trans x5).trans (.new x5.gh h)) ⟨p, v, u, w, y, rfl, SqT.of upd_same, Rp.mono (((x3.trans x4).trans x5).gg.trans s) r2, Rp.mono ((x4.trans x5).gg.trans s) r3, Rp.mono (x5.gg.trans s) r4, Rp.mono s r5⟩
end
section
variable {t : TA} {A B : Type} [RpA A] [RpA B] {mA : Option A}
/-- a def that tells what its model m tells -/
def spM (K : PySem.W.Frag) {A : Type} {ρ : Type} [RpA A] [Rp ρ] (m : A → Option ρ) : Sp := fun vs H Q _ =>
  ∃ G a r, Same G H ∧ RpA.rel K G vs a ∧ m a = some r ∧ ∀ v G2 H2, Ext G H G2 H2 → Rp.rel K G2 v r → Q v H2
theorem spM_len {A : Type} {ρ : Type} [RpA A] [Rp ρ] {m : A → Option ρ} {vs : List V} {H : Hp} {Q : VK} {E : XK} (h : spM K m vs H Q E) : vs.length = RpA.n A := by
  obtain ⟨G, a, r, _, h, _⟩ := h
  exact RpA.len h
theorem ev_len {la : Option (List α)} (ea : EV K ta σ G la) : EV K (tCB (rLen K) (tCons ta tNil)) σ G (la.bind fun a => some (a.length : Int)) := by
  intro G1 s1 c hc H sH Q k
  obtain ⟨a, ha, hc⟩ := Option.bind_eq_some_iff.mp hc
  cases hc
  refine ea G1 s1 a ha H sH _ fun v G2 H2 x2 r2 => ?_
  obtain ⟨l, xs, rfl, h, z, p⟩ := r2
  exact ⟨xs, .inl (.inl (x2.gh.rd h)), by rw [Paired.length p]; exact k _ _ _ x2 rfl⟩
theorem ev_min {ia ib : Option Int} (ea : EV K ta σ G ia) (eb : EV K tb σ G ib) : EV K (tCB (fun xs H Q => ∃ i j, xs = [.int i, .int j] ∧ Q (.int (if j < i then j else i)) H) (tCons ta (tCons tb tNil))) σ G (ia.bind fun a => ib.bind fun b => some (if b < a then b else a)) := by
  intro G1 s1 c hc H sH Q k
  obtain ⟨a, ha, hc⟩ := Option.bind_eq_some_iff.mp hc
  obtain ⟨b, hb, hc⟩ := Option.bind_eq_some_iff.mp hc
  cases hc
  refine ea G1 s1 a ha H sH _ fun v G2 H2 x2 r2 => ?_
  refine eb G2 (s1.trans x2.gg) b hb H2 x2.gh _ fun u G3 H3 x3 r3 => ?_
  cases r2; cases r3
  exact ⟨_, _, rfl, k _ _ _ (x2.trans x3) rfl⟩
theorem fv_list {la : Option (List α)} (ea : EV K ta σ G la) : FV K (tCB (fun xs H Q => ∃ p ys, xs = [.ref p] ∧ (SqL K H p ys ∨ SqT K H p ys) ∧ ∀ l, H l = none → Q (.ref l) (upd H l (.lst ys))) (tCons ta tNil)) σ G la := by
  intro G1 s1 a ha H sH Q k
  refine ea G1 s1 a ha H sH _ fun v G2 H2 x2 r2 => ?_
  obtain ⟨l, xs, rfl, h, z, p⟩ := r2
  exact ⟨l, xs, rfl, .inl (.inl (x2.gh.rd h)), fv_of x2.gh z p (FV.mono x2 k)⟩
end
inductive TyS (K : PySem.W.Frag) (H : Hp) : V → String → Prop where
  | non : TyS K H .non "NoneType"
  | bl (x : Bool) : TyS K H (.bl x) "bool"
  | int (i : Int) : TyS K H (.int i) "int"
  | str (x : Str) : TyS K H (.str x) "str"
  | lst {a : Addr} {xs : List V} (e : SqL K H a xs) : TyS K H (.ref a) "list"
  | tup {a : Addr} {xs : List V} (e : SqT K H a xs) : TyS K H (.ref a) "tuple"
  | dK {a : Addr} {kvs : List (Key × V)} (e : Rd H a (.dK kvs)) : TyS K H (.ref a) "dict"
  | dT {a : Addr} {kvs : List (List Key × V)} (e : Rd H a (.dT kvs)) : TyS K H (.ref a) "dict"
def rInst (K : PySem.W.Frag) : List V → Hp → VK → Prop := fun vs H Q => ∃ x t T b, vs = [x, .ty T] ∧ TyS K H x t ∧ kitC t T = some b ∧ Q (.bl b) H
theorem call_inst {X : Cx} : CallR X (.builtin "isinstance") (rInst X.K) := by
  intro pins s σ H vs us Q I r h
  obtain ⟨x, t, T, b, rfl, ty, e, q⟩ := h
  obtain ⟨u, w', rfl, rx, r2⟩ := vals2 r
  obtain rfl : w' = Value.type T := r2
  have e := kit_of (K := X.K) e
  have fin : ∀ tk, EP X pins σ Q (.bool b) { s with toks := tk } := fun tk => ⟨.bl b, H, I.tok tk, rfl, q⟩
  cases ty with
  | non => cases (show u = Value.none from rx); exact PySem.W.kia_one PySem.W.kitx_none I.kIn True.intro e (fun z => nomatch z) fin
  | bl y => cases (show u = Value.bool y from rx); exact PySem.W.kia_one PySem.W.kitx_bool I.kIn True.intro e (fun z => nomatch z) fin
  | int i => obtain ⟨t, q'⟩ := (show ∃ t, u = Value.int i t from rx); cases q'; exact PySem.W.kia_one PySem.W.kitx_int I.kIn True.intro e (fun z => nomatch z) fin
  | str y => obtain ⟨t, q'⟩ := (show ∃ t, u = Value.str y t from rx); cases q'; exact PySem.W.kia_one PySem.W.kitx_str I.kIn True.intro e (fun z => nomatch z) fin
  | @lst a xs ea =>
    cases (show u = Value.ref a from rx)
    obtain ⟨its, _, pl, _⟩ := I.list ea
    obtain ⟨o, n, h1, h2, _⟩ := pl
    exact PySem.W.kia_one PySem.W.kitx_list I.kIn ⟨o, h1, h2⟩ e (fun z => nomatch z) fin
  | @tup a xs ea =>
    cases (show u = Value.ref a from rx)
    obtain ⟨its, _, pl, _⟩ := I.tuple ea
    obtain ⟨o, h1, h2, _⟩ := pl
    exact PySem.W.kia_one PySem.W.kitx_tuple I.kIn ⟨o, h1, h2⟩ e (fun z => nomatch z) fin
  | @dK a kvs ea =>
    cases (show u = Value.ref a from rx)
    obtain ⟨_, _, vs, _, p⟩ := ea.ok I.hok
    obtain ⟨o, es, ep, h1, h2, _⟩ := p
    exact PySem.W.kia_one PySem.W.kitx_dict I.kIn ⟨o, h1, h2.1⟩ e (fun z => nomatch z) fin
  | @dT a kvs ea =>
    cases (show u = Value.ref a from rx)
    obtain ⟨_, _, xs, _, o, es, ep, h1, h2, _⟩ := ea.ok I.hok
    exact PySem.W.kia_one PySem.W.kitx_dict I.kIn ⟨o, h1, h2.1⟩ e (fun z => nomatch z) fin
class RpT (α : Type) [Rp α] where
  tn : String
  ty : ∀ {K : PySem.W.Frag} {H : Hp} {v : V} {a : α}, Rp.rel K H v a → TyS K H v tn
instance rtInt : RpT Int := ⟨"int", fun h => by cases h; exact .int _⟩
instance rtBool : RpT Bool := ⟨"bool", fun h => by cases h; exact .bl _⟩
instance rtStr : RpT Str := ⟨"str", fun h => by obtain ⟨rfl, _⟩ := h; exact .str _⟩
instance rtUnit : RpT Unit := ⟨"NoneType", fun h => by cases h; exact .non⟩
instance rtList : RpT (List α) := ⟨"list", fun h => by obtain ⟨l, xs, rfl, h, _⟩ := h; exact .lst (.inl h)⟩
instance rtPair : RpT (α × β) := ⟨"tuple", fun h => by obtain ⟨l, x, y, rfl, h, _⟩ := h; exact .tup h⟩
instance rtT1 : RpT (T1 α) := ⟨"tuple", fun h => by obtain ⟨l, x, rfl, h, _⟩ := h; exact .tup h⟩
instance rtT3 : RpT (T3 α β γ) := ⟨"tuple", fun h => by obtain ⟨l, x, y, z, rfl, h, _⟩ := h; exact .tup h⟩
instance rtT4 : RpT (T4 α β γ δ) := ⟨"tuple", fun h => by obtain ⟨l, x, y, z, w, rfl, h, _⟩ := h; exact .tup h⟩
instance rtTp : RpT (Tp α) := ⟨"tuple", fun h => by obtain ⟨l, xs, rfl, h, _⟩ := h; exact .tup h⟩
theorem TyS.mono {H H' : Hp} {v : V} {t : String} (s : Same H H') (h : TyS K H v t) : TyS K H' v t := by
  cases h with
  | non => exact .non
  | bl => exact .bl _
  | int => exact .int _
  | str => exact .str _
  | lst e => exact .lst (s.seq e)
  | tup e => exact .tup (s.tup e)
  | dK e => exact .dK (s.rd e)
  | dT e => exact .dT (s.rd e)
/-- isinstance(x, T), x of a known kind -/
theorem ev_inst [RpT α] {T : String} {b : Bool} (h : kitC (RpT.tn α) T = some b) (ea : EV K ta σ G ma) : EV K (tCB (rInst K) (tCons ta (tCons (tC (.ty T)) tNil))) σ G (ma.bind fun _ => some b) := by
  intro G1 s1 c hc H sH Q k
  obtain ⟨a, ha, hc⟩ := Option.bind_eq_some_iff.mp hc
  cases hc
  refine ea G1 s1 a ha H sH _ fun v G2 H2 x2 r2 => ?_
  exact ⟨_, _, _, _, rfl, (RpT.ty r2).mono x2.gh, h, k _ _ _ x2 rfl⟩
theorem EqTy.imp {k : Nat} {α : Type} [DecidableEq α] {R R' : Hp → V → α → Prop} (E : EqTy K k R) (h : ∀ H v a, R' H v a → R H v a) : EqTy K k R' :=
  ⟨fun hK I a b => E.fn hK I (h _ _ _ a) (h _ _ _ b), fun A hK I hu r1 r2 a b => E.eq A hK I hu r1 r2 (h _ _ _ a) (h _ _ _ b), fun A hK I hu r1 r2 a b => E.rc A hK I hu r1 r2 (h _ _ _ a) (h _ _ _ b)⟩
class RpE (α : Type) [Rp α] [DecidableEq α] where
  k : Nat
  ty : ∀ K : PySem.W.Frag, EqTy K k (Rp.rel (α := α) K)
instance reInt : RpE Int := ⟨0, fun _ => eqInt⟩
instance reBool : RpE Bool := ⟨0, fun _ => eqBl⟩
instance reStr : RpE Str := ⟨0, fun _ => eqStr.imp fun _ _ _ h => h.1⟩
instance reList {α : Type} [Rp α] [DecidableEq α] [RpE α] : RpE (List α) := ⟨RpE.k α + 1, fun K => (eqLst (RpE.ty K)).imp fun _ _ _ ⟨l, xs, e, h, _, p⟩ => ⟨l, xs, e, .inl h, p⟩⟩
theorem EqTy.up {k j : Nat} {α : Type} [DecidableEq α] {R : Hp → V → α → Prop} (E : EqTy K k R) (h : k ≤ j) : EqTy K j R :=
  ⟨fun hK I a b => E.fn hK I a b, fun A hK I hu r1 r2 a b => E.eq A hK I (by omega) r1 r2 a b, fun A hK I hu r1 r2 a b => E.rc A hK I (by omega) r1 r2 a b⟩
instance rePair {α β : Type} [Rp α] [DecidableEq α] [RpE α] [Rp β] [DecidableEq β] [RpE β] : RpE (α × β) :=
  ⟨max (RpE.k α) (RpE.k β) + 1, fun K => (eqPair ((RpE.ty (α := α) K).up (Nat.le_max_left _ _)) ((RpE.ty (α := β) K).up (Nat.le_max_right _ _)))⟩
section
variable {α : Type} [Rp α] [DecidableEq α] {m1 m2 : Option α}
def rEqD (K : PySem.W.Frag) (α : Type) [Rp α] [DecidableEq α] : R2 := fun x y H Q => ∃ a b : α, Rp.rel K H x a ∧ Rp.rel K H y b ∧ Q (.bl (decide (a = b))) H
def rNeD (K : PySem.W.Frag) (α : Type) [Rp α] [DecidableEq α] : R2 := fun x y H Q => ∃ a b : α, Rp.rel K H x a ∧ Rp.rel K H y b ∧ Q (.bl (!decide (a = b))) H
theorem op_eqM {X : Cx} {j : Nat} (α : Type) [Rp α] [DecidableEq α] [RpE α] (hr : Room j X.A) (hk : RpE.k α ≤ 10) : OpR X (compareOp .Eq) (rEqD X.K α) := op_eqD (RpE.ty X.K) hr hk
theorem op_neM {X : Cx} {j : Nat} (α : Type) [Rp α] [DecidableEq α] [RpE α] (hr : Room j X.A) (hk : RpE.k α ≤ 10) : OpR X (compareOp .NotEq) (rNeD X.K α) := op_neD (RpE.ty X.K) hr hk
theorem ev_eq (ea : EV K ta σ G m1) (eb : EV K tb σ G m2) : EV K (tOp (rEqD K α) ta tb) σ G (m1.bind fun a => m2.bind fun b => some (decide (a = b))) :=
  ev_bin (fun s ra rb e Q k => by cases e; exact ⟨_, _, Rp.mono s ra, Rp.mono s rb, k _ _ _ (.refl s) rfl⟩) ea eb
theorem ev_ne (ea : EV K ta σ G m1) (eb : EV K tb σ G m2) : EV K (tOp (rNeD K α) ta tb) σ G (m1.bind fun a => m2.bind fun b => some (!decide (a = b))) :=
  ev_bin (fun s ra rb e Q k => by cases e; exact ⟨_, _, Rp.mono s ra, Rp.mono s rb, k _ _ _ (.refl s) rfl⟩) ea eb
end
end
end L2

set_option Elab.async false
set_option linter.all false
set_option maxRecDepth 100000
set_option maxHeartbeats 4000000
namespace L2
open PySem PySem.Spec PyProof.Rows

inductive Fl (S ρ : Type) where
  | nx (s : S)
  | bk (s : S)
  | rt (r : ρ)
def forO {α S ρ : Type} (f : α → S → Option (Fl S ρ)) : List α → S → Option (Fl S ρ)
  | [], s => some (.nx s)
  | a :: as, s => (f a s).bind fun fl => match fl with
    | .nx s' => forO f as s'
    | .bk s' => some (.nx s')
    | .rt r => some (.rt r)
def whileN {S ρ : Type} (c : S → Option Bool) (f : S → Option (Fl S ρ)) : Nat → S → Option (Fl S ρ)
  | 0, _ => none
  | n + 1, s => (c s).bind fun b => cond b ((f s).bind fun fl => match fl with
    | .nx s' => whileN c f n s'
    | .bk s' => some (.nx s')
    | .rt r => some (.rt r)) (some (.nx s))
def fuelW : Nat := 16777216
def compO {α β : Type} (fc : α → Option Bool) (fe : α → Option β) : List α → Option (List β)
  | [] => some []
  | a :: r => (fc a).bind fun b => cond b ((fe a).bind fun y => (compO fc fe r).bind fun ys => some (y :: ys)) (compO fc fe r)
def mapO {α β : Type} (fe : α → Option β) : List α → Option (List β)
  | [] => some []
  | a :: r => (fe a).bind fun y => (mapO fe r).bind fun ys => some (y :: ys)
theorem compO_true {α β : Type} (fe : α → Option β) : ∀ as, compO (fun _ => some true) fe as = mapO fe as
  | [] => rfl
  | a :: r => by
    show ((fe a).bind fun y => (compO (fun _ => some true) fe r).bind fun ys => some (y :: ys)) = _
    rw [compO_true fe r]
    rfl
def rngO (lo hi : Int) : Option (List Int) := if (-(2 ^ 62) ≤ lo ∧ lo < 2 ^ 62 ∧ -(2 ^ 62) ≤ hi ∧ hi < 2 ^ 62) ∧ (hi - lo).toNat ≤ sizeLine then some ((List.range (hi - lo).toNat).map fun (i : Nat) => lo + (i : Int)) else none

section
variable {K : PySem.W.Frag} {σ : St} {G : Hp} {α β γ δ : Type} [Rp α] [Rp β] [Rp γ] [Rp δ] {ta tb tc td : TE} {ma : Option α} {mb : Option β} {mc : Option γ} {md : Option δ}
def IW (K : PySem.W.Frag) {α : Type} [Rp α] (wi : TI) (σ : St) (G : Hp) (m : Option (List α)) : Prop :=
  ∀ G1, Same G G1 → ∀ a, m = some a → ∀ H, Same G1 H → ∀ R : It → Hp → Prop, (∀ J vs G2 H2, Ext G1 H G2 H2 → Yields J G2 vs → vs.length ≤ sizeLine → Paired (Rp.rel K G2) vs a → R J H2) → wi σ H R
theorem iw_list {la : Option (List α)} (ea : EV K ta σ G la) : IW K (iAny K ta) σ G la := by
  intro G1 s1 a ha H sH R k
  refine ea G1 s1 a ha H sH _ fun v G2 H2 x2 r2 => ?_
  obtain ⟨l, xs, rfl, h, z, p⟩ := r2
  exact .inl ⟨⟨xs, .inl (x2.gh.rd h)⟩, k _ xs G2 H2 x2 (yields_list (.inl h)) z p⟩
def signsO (x : Str) : List Str := x.cps.toList.map fun c => (⟨#[c]⟩ : Str)
theorem paired_ints (H : Hp) (f : Nat → Int) : ∀ l : List Nat, Paired (Rp.rel K H) (l.map fun i => V.int (f i)) (l.map fun i => f i)
  | [] => .nil
  | a :: r => .cons rfl (paired_ints H f r)
theorem iw_rng1 {ia : Option Int} (ea : EV K ta σ G ia) : IW K (iRng1 (tCons ta tNil)) σ G (ia.bind fun j => rngO 0 j) := by
  intro G1 s1 a ha H sH R k
  obtain ⟨j, hj, ha⟩ := Option.bind_eq_some_iff.mp ha
  obtain ⟨⟨hb, hz⟩, rfl⟩ := ite_some ha
  refine ea G1 s1 j hj H sH _ fun v G2 H2 x2 r2 => ?_
  cases r2
  refine ⟨j, rfl, hb.2.2.1, hb.2.2.2, ?_⟩
  have e : (j - 0).toNat = j.toNat := by omega
  rw [e] at hz k
  exact k (Itr 0 j.toNat) _ G2 H2 x2 (yields_range 0 j.toNat G2) (by rw [List.length_map, List.length_range]; exact hz) (paired_ints G2 (fun i => (0 : Int) + (i : Int)) _)
theorem tv_yes : TV tYes σ G (some true) := fun G1 s1 a ha H sH Q k => by
  cases ha
  exact k _ _ (.refl sH)
theorem Paired.getR {F : V → α → Prop} : ∀ {xs : List V} {as : List α} {i : Nat} {v : V}, Paired F xs as → xs[i]? = some v → ∃ a, as[i]? = some a ∧ F v a
  | _, _, _, _, .nil, e => by simp at e
  | _, _, 0, _, .cons r _, e => by simp at e; subst e; exact ⟨_, rfl, r⟩
  | _, _, i + 1, _, .cons _ t, e => Paired.getR (i := i) t (by simpa using e)
theorem fv_comp {cap : List Nat} {wi : TI} {tt : TT} {te : TE} {mi : Option (List α)} {fc : α → Option Bool} {fe : α → Option β} (ei : IW K wi σ G mi)
    (hb : ∀ (x : V) (a : α) (G1 : Hp), Same G G1 → Rp.rel K G1 x a → TV tt ((inner cap σ).set 0 (some x)) G1 (fc a) ∧ EV K te ((inner cap σ).set 0 (some x)) G1 (fe a)) :
    FV K (tComp cap wi tt te) σ G (mi.bind fun as => compO fc fe as) := by
  intro G1 s1 c hc H sH Q k
  obtain ⟨as, has, hc⟩ := Option.bind_eq_some_iff.mp hc
  refine ei G1 s1 as has H sH _ fun J vs Ga Ha xa Y hz pr p hp => ?_
  have hla := Paired.length pr
  refine ⟨fun i m ys H2 => m = vs.length - i ∧ i ≤ vs.length ∧ ∃ G2 bs cs, Ext Ga Ha G2 H2 ∧ G2 p = none ∧ H2 p = some (.lst ys) ∧ ys.length ≤ i ∧ Paired (Rp.rel K G2) ys bs ∧ compO fc fe (as.drop i) = some cs ∧ c = bs ++ cs,
    ⟨vs.length, by simp, Nat.zero_le _, Ga, [], c, .own xa.gh hp, xa.gh.free hp, upd_same, Nat.le_refl _, .nil, hc, rfl⟩, ?_⟩
  rintro i m ys H2 ⟨rfl, hi, G2, bs, cs, x2, hg, hh, hy, hpr, hcs, rfl⟩
  by_cases hlt : i < vs.length
  · refine .inr ⟨Y.go i _ (x2.gg.trans x2.gh) hlt, fun ys' H' => ∃ G2 bs' cs', Ext Ga Ha G2 H' ∧ G2 p = none ∧ H' p = some (.lst ys') ∧ ys'.length ≤ i + 1 ∧ Paired (Rp.rel K G2) ys' bs' ∧ compO fc fe (as.drop (i + 1)) = some cs' ∧ bs ++ cs = bs' ++ cs',
      fun ys' H' ⟨G3, bs', cs', h⟩ => ⟨vs.length - (i + 1), by omega, rfl, hlt, G3, bs', cs', h⟩, fun x H3 y => ?_⟩
    obtain ⟨rfl, hx⟩ := Y.yld i _ x H3 (x2.gg.trans x2.gh) hlt y
    obtain ⟨a, hai, ra⟩ := Paired.getR pr hx
    have hd : as.drop i = a :: as.drop (i + 1) := by
      obtain ⟨h1, h2⟩ := List.getElem?_eq_some_iff.mp hai
      rw [List.drop_eq_getElem_cons h1, h2]
    rw [hd] at hcs
    obtain ⟨b, hbb, hcs⟩ := Option.bind_eq_some_iff.mp hcs
    have B := hb x a G2 (s1.trans (xa.gg.trans x2.gg)) (Rp.mono x2.gg ra)
    refine B.1 G2 (.refl _) b hbb _ x2.gh _ fun G5 H5 x5 => ?_
    have hp5 : H5 p = some (.lst ys) := x5.hh _ _ hh
    have hg5 : G5 p = none := x5.no p hg (by rw [hh]; exact fun z => nomatch z)
    cases b with
    | false =>
      rw [if_neg Bool.false_ne_true]
      exact ⟨G5, bs, cs, x2.trans x5, hg5, hp5, by omega, Paired.imp' (fun _ _ r => Rp.mono x5.gg r) hpr, hcs, rfl⟩
    | true =>
      rw [if_pos rfl]
      obtain ⟨z, hze, hcs⟩ := Option.bind_eq_some_iff.mp hcs
      obtain ⟨cs', hcs', hcs⟩ := Option.bind_eq_some_iff.mp hcs
      cases hcs
      refine B.2 G5 x5.gg z hze H5 x5.gh _ fun v G6 H6 x6 r6 => ?_
      have hp6 : H6 p = some (.lst ys) := x6.hh _ _ hp5
      have hg6 : G6 p = none := x6.no p hg5 (by rw [hp5]; exact fun z => nomatch z)
      refine ⟨hp6, by omega, G6, bs ++ [z], cs', ((x2.trans x5).trans x6).put hp hg6, hg6, upd_same, ?_, Paired.app (Paired.imp' (fun _ _ r => Rp.mono (x5.trans x6).gg r) hpr) (.cons r6 .nil), hcs', by simp⟩
      rw [List.length_append, List.length_singleton]
      omega
  · have e : i = vs.length := by omega
    subst e
    have hd : as.drop vs.length = [] := List.drop_eq_nil_of_le (by omega)
    rw [hd] at hcs
    cases hcs
    refine .inl ⟨Y.stop _ (x2.gg.trans x2.gh), ?_⟩
    rw [List.append_nil] at k
    exact k p ys G2 H2 (xa.trans x2) (xa.hh.free hp) hg hh (by omega) hpr
theorem fv_map {cap : List Nat} {wi : TI} {te : TE} {mi : Option (List α)} {fe : α → Option β} (ei : IW K wi σ G mi)
    (hb : ∀ (x : V) (a : α) (G1 : Hp), Same G G1 → Rp.rel K G1 x a → EV K te ((inner cap σ).set 0 (some x)) G1 (fe a)) :
    FV K (tComp cap wi tYes te) σ G (mi.bind fun as => mapO fe as) := by
  have h := fv_comp (tt := tYes) (fc := fun _ => some true) ei fun x a G1 s r => ⟨tv_yes, hb x a G1 s r⟩
  have e : (fun as => compO (fun _ => some true) fe as) = fun as => mapO fe as := funext (compO_true fe)
  rw [e] at h
  exact h

def joinO (z : Str) (ys : List Str) : Option Str := if (ys.map (·.length)).sum + ys.length * z.length ≤ 16777216 then some (Txt.join z ys) else none
def repL {α : Type} (a : List α) (k : Int) : Option (List α) := if (-(2 ^ 63) ≤ k ∧ k < 2 ^ 63) ∧ a.length * k.toNat ≤ sizeLine then some (List.replicate k.toNat a).flatten else none
end

section
variable {K : PySem.W.Frag} {σ : St} {G H : Hp} {α β : Type} [Rp α] [Rp β] {te : TE} {tt : TT} {t u rest : TS} {D : Ends} {i : Nat} {a : α} {m : Option α}
theorem sv_set (e : EV K te σ G m) (hm : m = some a) (s : Same G H) (k : ∀ v G2 H2, Ext G H G2 H2 → Rp.rel K G2 v a → rest D (σ.set i (some v)) H2) : tSeq (tAsg te (gName i)) rest D σ H := e.run hm s k
theorem sv_ret (e : EV K te σ G m) (hm : m = some a) (s : Same G H) (k : ∀ v G2 H2, Ext G H G2 H2 → Rp.rel K G2 v a → D.rt v H2) : tSeq (tRet te) rest D σ H := e.run hm s k
theorem sv_if {b : Bool} {m : Option Bool} (e : TV tt σ G m) (hm : m = some b) (s : Same G H) (k : ∀ G2 H2, Ext G H G2 H2 → if b = true then t { D with nx := rest D } σ H2 else u { D with nx := rest D } σ H2) :
    tSeq (tIfS tt t u) rest D σ H := e.run hm s k
/-- two ways that come together again -/
theorem sv_join (Pv : St → Hp → Prop) (h : ∀ nx : St → Hp → Prop, (∀ σ' H', Pv σ' H' → nx σ' H') → tSeq t tNext { D with nx := nx } σ H) (key : ∀ σ' H', Pv σ' H' → rest D σ' H') : tSeq t rest D σ H := h (rest D) key

structure LoopOb (K : PySem.W.Frag) {α S ρ : Type} [Rp α] (RR : ρ → V → Hp → Hp → Prop) (f : α → S → Option (Fl S ρ)) (g : TG) (tb : TS) (D : Ends) (σ : St) (G2 H2 : Hp) (as : List α) (s0 : S) (res : Fl S ρ) (RS : S → St → Hp → Hp → Prop) : Prop where
  start : RS s0 σ G2 H2
  keep : ∀ s σ' G' H', RS s σ' G' H' → Same G2 G' ∧ Same G' H'
  step : ∀ (x : V) (a : α) (s : S) (σ1 : St) (G1 H1 : Hp) (fl : Fl S ρ), a ∈ as → RS s σ1 G1 H1 → Rp.rel K G1 x a → f a s = some fl → ∀ D' : Ends, (∀ s' σ' G' H', fl = .nx s' → RS s' σ' G' H' → D'.nx σ' H') → (∀ s' σ' G' H', fl = .nx s' → RS s' σ' G' H' → D'.ct σ' H') →
    (∀ s' σ' G' H', fl = .bk s' → RS s' σ' G' H' → D'.bk σ' H') → (∀ r v G' H', fl = .rt r → RR r v G' H' → D'.rt v H') → g x σ1 H1 fun σ2 H2 => tb D' σ2 H2
  nxt : ∀ s σ' G' H', res = .nx s → RS s σ' G' H' → D.nx σ' H'
  rtn : ∀ r v G' H', res = .rt r → RR r v G' H' → D.rt v H'
theorem sv_for {S ρ : Type} {RR : ρ → V → Hp → Hp → Prop} {f : α → S → Option (Fl S ρ)} {wi : TI} {g : TG} {tb : TS} {mi : Option (List α)} {as : List α} {s0 : S} {res : Fl S ρ} (ei : IW K wi σ G mi) (hm : mi = some as) (hf : forO f as s0 = some res) (sg : Same G H)
    (k : ∀ G2 H2, Ext G H G2 H2 → ∃ RS, LoopOb K RR f g tb { D with nx := rest D } σ G2 H2 as s0 res RS) : tSeq (tFor wi g tb) rest D σ H := by
  refine ei G (.refl G) as hm H sg _ fun J vs G2 H2 x2 Y hz pr => ?_
  obtain ⟨RS, L⟩ := k G2 H2 x2
  have hla := Paired.length pr
  refine ⟨fun i m σ' H' => m = vs.length - i ∧ i ≤ vs.length ∧ ∃ s G', RS s σ' G' H' ∧ forO f (as.drop i) s = some res, ⟨vs.length, by simp, Nat.zero_le _, s0, G2, L.start, hf⟩, ?_⟩
  rintro i m σ' H' ⟨rfl, hi, s, G', rs, hfo⟩
  obtain ⟨k1, k2⟩ := L.keep _ _ _ _ rs
  by_cases hlt : i < vs.length
  · refine .inr ⟨Y.go i _ (k1.trans k2) hlt, fun σ'' H'' => ∃ s' G'', RS s' σ'' G'' H'' ∧ forO f (as.drop (i + 1)) s' = some res, fun σ'' H'' ⟨s', G'', h⟩ => ⟨vs.length - (i + 1), by omega, rfl, hlt, s', G'', h⟩, fun x H3 y => ?_⟩
    obtain ⟨rfl, hx⟩ := Y.yld i _ x H3 (k1.trans k2) hlt y
    obtain ⟨a, hai, ra⟩ := Paired.getR pr hx
    have hd : as.drop i = a :: as.drop (i + 1) := by
      obtain ⟨h1, h2⟩ := List.getElem?_eq_some_iff.mp hai
      rw [List.drop_eq_getElem_cons h1, h2]
    rw [hd] at hfo
    obtain ⟨fl, hfl, hfo⟩ := Option.bind_eq_some_iff.mp hfo
    refine L.step x a s σ' G' _ fl (List.mem_of_getElem? hai) rs (Rp.mono k1 ra) hfl _ ?_ ?_ ?_ ?_
    · intro s' σ'' G'' H'' e r
      subst e
      exact ⟨s', G'', r, hfo⟩
    · intro s' σ'' G'' H'' e r
      subst e
      exact ⟨s', G'', r, hfo⟩
    · intro s' σ'' G'' H'' e r
      subst e
      exact L.nxt s' σ'' G'' H'' (Option.some.inj hfo).symm r
    · intro r v G'' H'' e rl
      subst e
      exact L.rtn r v G'' H'' (Option.some.inj hfo).symm rl
  · have e : i = vs.length := by omega
    subst e
    have hd : as.drop vs.length = [] := List.drop_eq_nil_of_le (by omega)
    rw [hd] at hfo
    exact .inl ⟨Y.stop _ (k1.trans k2), L.nxt s σ' G' H' (Option.some.inj hfo).symm rs⟩

structure WhileOb (K : PySem.W.Frag) {S ρ : Type} (RR : ρ → V → Hp → Hp → Prop) (c : S → Option Bool) (f : S → Option (Fl S ρ)) (tt : TT) (tb : TS) (D : Ends) (σ : St) (G2 H2 : Hp) (s0 : S) (res : Fl S ρ) (RS : S → St → Hp → Hp → Prop) : Prop where
  start : RS s0 σ G2 H2
  keep : ∀ s σ' G' H', RS s σ' G' H' → Same G' H'
  test : ∀ s σ' G' H' b, RS s σ' G' H' → c s = some b → ∀ Q : Bool → Hp → Prop, (∀ G'' H'', RS s σ' G'' H'' → Q b H'') → tt σ' H' Q
  step : ∀ (s : S) (σ1 : St) (G1 H1 : Hp) (fl : Fl S ρ), RS s σ1 G1 H1 → f s = some fl → c s = some true → ∀ D' : Ends, (∀ s' σ' G' H', fl = .nx s' → RS s' σ' G' H' → D'.nx σ' H') → (∀ s' σ' G' H', fl = .nx s' → RS s' σ' G' H' → D'.ct σ' H') →
    (∀ s' σ' G' H', fl = .bk s' → RS s' σ' G' H' → D'.bk σ' H') → (∀ r v G' H', fl = .rt r → RR r v G' H' → D'.rt v H') → tb D' σ1 H1
  nxt : ∀ s σ' G' H', res = .nx s → RS s σ' G' H' → D.nx σ' H'
  rtn : ∀ r v G' H', res = .rt r → RR r v G' H' → D.rt v H'
theorem sv_while {S ρ : Type} {RR : ρ → V → Hp → Hp → Prop} {c : S → Option Bool} {f : S → Option (Fl S ρ)} {tb : TS} {n : Nat} {s0 : S} {res : Fl S ρ} (hf : whileN c f n s0 = some res) (RS : S → St → Hp → Hp → Prop)
    (L : WhileOb K RR c f tt tb { D with nx := rest D } σ G H s0 res RS) : tSeq (tWhile tt tb) rest D σ H := by
  refine ⟨fun m σ' H' => ∃ s G', RS s σ' G' H' ∧ whileN c f m s = some res, ⟨n, s0, G, L.start, hf⟩, ?_⟩
  rintro m σ' H' ⟨s, G', rs, hw⟩
  cases m with
  | zero => cases hw
  | succ m =>
    obtain ⟨b, hb, hw⟩ := Option.bind_eq_some_iff.mp hw
    refine L.test s σ' G' H' b rs hb _ fun G'' H'' rs' => ?_
    cases b with
    | false => exact iteF (L.nxt s σ' G'' H'' (Option.some.inj hw).symm rs')
    | true =>
      obtain ⟨fl, hfl, hw⟩ := Option.bind_eq_some_iff.mp hw
      refine iteT ⟨fun σ2 H2 => ∃ s' G2, RS s' σ2 G2 H2 ∧ whileN c f m s' = some res, fun σ2 H2 h => ⟨m, Nat.lt_succ_self m, h⟩, ?_⟩
      refine L.step s σ' G'' H'' fl rs' hfl hb _ ?_ ?_ ?_ ?_
      · intro s' σ2 G2 H2 e r
        subst e
        exact ⟨s', G2, r, hw⟩
      · intro s' σ2 G2 H2 e r
        subst e
        exact ⟨s', G2, r, hw⟩
      · intro s' σ2 G2 H2 e r
        subst e
        exact L.nxt s' σ2 G2 H2 (Option.some.inj hw).symm r
      · intro r v G2 H2 e rl
        subst e
        exact L.rtn r v G2 H2 (Option.some.inj hw).symm rl
end

structure Own (K : PySem.W.Frag) {α : Type} [Rp α] (G H : Hp) (v : V) (p : Addr) (vs : List V) (as : List α) : Prop where
  v : v = .ref p
  g : G p = none
  h : H p = some (.lst vs)
  z : vs.length ≤ sizeLine
  p : Paired (Rp.rel K G) vs as
section
variable {K : PySem.W.Frag} {σ : St} {G H G1 H1 G0 H0 : Hp} {α β : Type} [Rp α] [Rp β] {te ti : TE} {tt : TT} {t u rest : TS} {D : Ends} {i : Nat} {a : α} {m : Option α} {as : List α} {v : V} {p q : Addr} {vs : List V}
theorem Own.ext (o : Own K G H v p vs as) (x : Ext G H G1 H1) : Own K G1 H1 v p vs as :=
  ⟨o.v, x.no p o.g (by rw [o.h]; exact fun z => nomatch z), x.hh _ _ o.h, o.z, Paired.imp' (fun _ _ r => Rp.mono x.gg r) o.p⟩
theorem Own.put {ho : HO} (o : Own K G H v p vs as) (h : p ≠ q) : Own K G (upd H q ho) v p vs as := ⟨o.v, o.g, by rw [upd_ne h]; exact o.h, o.z, o.p⟩
/-- it is told: known from here on -/
theorem Own.tell (o : Own K G H v p vs as) : Rp.rel K (upd G p (.lst vs)) v as := ⟨p, vs, o.v, .inl upd_same, o.z, Paired.imp' (fun _ _ r => Rp.mono (Same.new o.g) r) o.p⟩
theorem Own.same (o : Own K G H v p vs as) (s : Same G H) : Same (upd G p (.lst vs)) H := fun b x e => by
  by_cases hb : b = p
  · subst hb
    rw [upd_same] at e
    rw [o.h]
    exact e
  · rw [upd_ne hb] at e
    exact s b x e
theorem sv_own {m : Option (List α)} {as : List α} (e : FV K te σ G m) (hm : m = some as) (s : Same G H) (k : ∀ p vs G2 H2, Ext G H G2 H2 → H p = none → Own K G2 H2 (.ref p) p vs as → rest D (σ.set i (some (.ref p))) H2) : tSeq (tAsg te (gName i)) rest D σ H :=
  e G (.refl G) as hm H s _ fun p vs G2 H2 x h0 hg hh hz hp => k p vs G2 H2 x h0 ⟨rfl, hg, hh, hz, hp⟩
def pushO {α : Type} (as : List α) (a : α) : Option (List α) := if as.length < sizeLine then some (as ++ [a]) else none
theorem sv_append {as' : List α} (hσ : σ[i]? = some (some v)) (o : Own K G H v p vs as) (e : EV K te σ G m) (hm : m = some a) (hp : pushO as a = some as') (s : Same G H)
    (k : ∀ G2 H2 w, Ext G H G2 H2 → Own K G2 (upd H2 p (.lst (vs ++ [w]))) v p (vs ++ [w]) as' → rest D σ (upd H2 p (.lst (vs ++ [w])))) : tSeq (tDrop (tBM K "list" rAppend (tVar i) (tCons te tNil))) rest D σ H := by
  obtain ⟨hl, rfl⟩ := ite_some hp
  have hlen := Paired.length o.p
  obtain ⟨rfl, og, oh, oz, op⟩ := o
  refine ⟨_, hσ, .inl ⟨rfl, _, SqL.of oh⟩, ?_⟩
  refine e.run hm s fun w G2 H2 x r => ?_
  refine ⟨p, vs, w, rfl, rfl, x.hh _ _ oh, by omega, ?_⟩
  refine k G2 H2 w x ⟨rfl, x.no p og (by rw [oh]; exact fun z => nomatch z), upd_same, ?_, Paired.app (Paired.imp' (fun _ _ r => Rp.mono x.gg r) op) (.cons r .nil)⟩
  rw [List.length_append, List.length_singleton]
  omega
/-- an own list read on the spot, where what comes out of it holds none -/
class Imm (α : Type) [Rp α] : Prop where
  im : ∀ {K : PySem.W.Frag} {H H' : Hp} {v : V} {a : α}, (∀ b xs, Rd H b (.tup xs) → Rd H' b (.tup xs)) → Rp.rel K H v a → Rp.rel K H' v a
instance imInt : Imm Int := ⟨fun _ h => h⟩
instance imBool : Imm Bool := ⟨fun _ h => h⟩
instance imStr : Imm Str := ⟨fun _ h => h⟩
instance imUnit : Imm Unit := ⟨fun _ h => h⟩
theorem SqT.im {H H' : Hp} {t : Addr} {xs : List V} (f : ∀ b xs, Rd H b (.tup xs) → Rd H' b (.tup xs)) (h : SqT K H t xs) : SqT K H' t xs := by
  rcases h with h | h
  · exact .inl (f _ _ h)
  · exact .inr h
instance imPair {α β : Type} [Rp α] [Rp β] [Imm α] [Imm β] : Imm (α × β) := ⟨fun f ⟨t, a, b, e, h, r1, r2⟩ => ⟨t, a, b, e, h.im f, Imm.im f r1, Imm.im f r2⟩⟩
instance imT1 {α : Type} [Rp α] [Imm α] : Imm (T1 α) := ⟨fun f ⟨t, a, e, h, r1⟩ => ⟨t, a, e, h.im f, Imm.im f r1⟩⟩
instance imT3 {α β γ : Type} [Rp α] [Rp β] [Rp γ] [Imm α] [Imm β] [Imm γ] : Imm (T3 α β γ) := ⟨fun f ⟨t, a, b, c, e, h, r1, r2, r3⟩ => ⟨t, a, b, c, e, h.im f, Imm.im f r1, Imm.im f r2, Imm.im f r3⟩⟩
instance imTp {α : Type} [Rp α] [Imm α] : Imm (Tp α) := ⟨fun f ⟨t, xs, e, h, z, p⟩ => ⟨t, xs, e, h.im f, z, Paired.imp' (fun _ _ r => Imm.im f r) p⟩⟩
instance imOpt {α : Type} [Rp α] [Imm α] : Imm (Option α) := ⟨fun {K H H' v a} f h => by cases a with | none => exact h | some a => exact Imm.im (α := α) f h⟩
def del (G : Hp) (p : Addr) : Hp := fun b => if b = p then none else G b
theorem del_ne {G : Hp} {p b : Addr} (h : b ≠ p) : del G p b = G b := by unfold del; rw [if_neg h]
theorem del_same {G : Hp} {p : Addr} : del G p p = none := by unfold del; rw [if_pos rfl]
theorem Ext.del {ho : HO} {G2 H2 : Hp} (hg : G p = none) (x : Ext (upd G p ho) H G2 H2) : Ext G H (L2.del G2 p) H2 :=
  ⟨fun b o e => by
    have hb : b ≠ p := ne_of_none e hg
    rw [del_ne hb]
    exact x.gg b o (by rw [upd_ne hb]; exact e), fun b o e => by
    by_cases hb : b = p
    · subst hb
      rw [del_same] at e
      cases e
    · rw [del_ne hb] at e
      exact x.gh b o e, x.hh, fun b h1 h2 => by
    by_cases hb : b = p
    · subst hb
      exact del_same
    · rw [del_ne hb]
      exact x.no b (by rw [upd_ne hb]; exact h1) h2⟩
theorem Imm.del {β : Type} [Rp β] [Imm β] {G2 : Hp} {w : V} {c : β} {ys : List V} (h : G2 p = some (.lst ys)) (r : Rp.rel K G2 w c) : Rp.rel K (L2.del G2 p) w c :=
  Imm.im (fun b xs e => by
    have hb : b ≠ p := fun z => by
      subst z
      rcases e with e | ⟨o, e⟩ <;> (rw [h] at e; cases e)
    rcases e with e | ⟨o, e⟩
    · exact .inl (by rw [del_ne hb]; exact e)
    · exact .inr ⟨o, by rw [del_ne hb]; exact e⟩) r
/-- an expression that reads an own list -/
theorem EV.runB {β : Type} [Rp β] [Imm β] {mb : Option β} {b : β} {Q : VK} (o : Own K G H v p vs as) (e : EV K te σ (upd G p (.lst vs)) mb) (hm : mb = some b) (s : Same G H) (k : ∀ w G2 H2, Ext G H G2 H2 → Rp.rel K G2 w b → Q w H2) : te σ H Q :=
  e.run hm (o.same s) fun w G2 H2 x r => k w (del G2 p) H2 (x.del o.g) (Imm.del (x.gg _ _ upd_same) r)
theorem TV.runB {mb : Option Bool} {b : Bool} {Q : Bool → Hp → Prop} (o : Own K G H v p vs as) (e : TV tt σ (upd G p (.lst vs)) mb) (hm : mb = some b) (s : Same G H) (k : ∀ G2 H2, Ext G H G2 H2 → Q b H2) : tt σ H Q :=
  e.run hm (o.same s) fun G2 H2 x => k (del G2 p) H2 (x.del o.g)
end
end L2

set_option Elab.async false
set_option linter.all false
set_option maxRecDepth 100000
set_option maxHeartbeats 4000000
namespace L2
open PySem PySem.Spec PyProof.Rows
section
variable {K : PySem.W.Frag} {σ : St} {G : Hp}
theorem ev_def1 {ρ A0 : Type} [Rp ρ] [Rp A0] {t0 : TE} {m0 : Option A0} {m : A0 × Unit → Option ρ} (e0 : EV K t0 σ G m0) : EV K (tCall (spM K m) [] E0 (tCons t0 tNil)) σ G (m0.bind fun a0 => m (a0, ())) := by
  intro G1 s1 c hc H sH Q k
  obtain ⟨a0, ha0, hc⟩ := Option.bind_eq_some_iff.mp hc
  refine e0 G1 s1 a0 ha0 H sH _ fun v0 G2 H2 x0 r0 => ?_
  have y0 := x0
  exact ⟨G2, _, c, y0.gh, ⟨v0, _, rfl, r0, rfl⟩, hc, fun v G9 H9 x9 r9 => k v G9 H9 (y0.trans x9) r9⟩
theorem ev_def2 {ρ A0 A1 : Type} [Rp ρ] [Rp A0] [Rp A1] {t0 t1 : TE} {m0 : Option A0} {m1 : Option A1} {m : A0 × A1 × Unit → Option ρ} (e0 : EV K t0 σ G m0) (e1 : EV K t1 σ G m1) : EV K (tCall (spM K m) [] E0 (tCons t0 (tCons t1 tNil))) σ G (m0.bind fun a0 => m1.bind fun a1 => m (a0, a1, ())) := by
  intro G1 s1 c hc H sH Q k
  obtain ⟨a0, ha0, hc⟩ := Option.bind_eq_some_iff.mp hc
  obtain ⟨a1, ha1, hc⟩ := Option.bind_eq_some_iff.mp hc
  refine e0 G1 s1 a0 ha0 H sH _ fun v0 G2 H2 x0 r0 => ?_
  have y0 := x0
  refine e1 G2 (s1.trans y0.gg) a1 ha1 H2 y0.gh _ fun v1 G3 H3 x1 r1 => ?_
  have y1 := y0.trans x1
  exact ⟨G3, _, c, y1.gh, ⟨v0, _, rfl, (Rp.mono x1.gg r0), ⟨v1, _, rfl, r1, rfl⟩⟩, hc, fun v G9 H9 x9 r9 => k v G9 H9 (y1.trans x9) r9⟩
theorem ev_def3 {ρ A0 A1 A2 : Type} [Rp ρ] [Rp A0] [Rp A1] [Rp A2] {t0 t1 t2 : TE} {m0 : Option A0} {m1 : Option A1} {m2 : Option A2} {m : A0 × A1 × A2 × Unit → Option ρ} (e0 : EV K t0 σ G m0) (e1 : EV K t1 σ G m1) (e2 : EV K t2 σ G m2) : EV K (tCall (spM K m) [] E0 (tCons t0 (tCons t1 (tCons t2 tNil)))) σ G (m0.bind fun a0 => m1.bind fun a1 => m2.bind fun a2 => m (a0, a1, a2, ())) := by
  intro G1 s1 c hc H sH Q k
  obtain ⟨a0, ha0, hc⟩ := Option.bind_eq_some_iff.mp hc
  obtain ⟨a1, ha1, hc⟩ := Option.bind_eq_some_iff.mp hc
  obtain ⟨a2, ha2, hc⟩ := Option.bind_eq_some_iff.mp hc
  refine e0 G1 s1 a0 ha0 H sH _ fun v0 G2 H2 x0 r0 => ?_
  have y0 := x0
  refine e1 G2 (s1.trans y0.gg) a1 ha1 H2 y0.gh _ fun v1 G3 H3 x1 r1 => ?_
  have y1 := y0.trans x1
  refine e2 G3 (s1.trans y1.gg) a2 ha2 H3 y1.gh _ fun v2 G4 H4 x2 r2 => ?_
  have y2 := y1.trans x2
  exact ⟨G4, _, c, y2.gh, ⟨v0, _, rfl, (Rp.mono x2.gg (Rp.mono x1.gg r0)), ⟨v1, _, rfl, (Rp.mono x2.gg r1), ⟨v2, _, rfl, r2, rfl⟩⟩⟩, hc, fun v G9 H9 x9 r9 => k v G9 H9 (y2.trans x9) r9⟩
theorem ev_def4 {ρ A0 A1 A2 A3 : Type} [Rp ρ] [Rp A0] [Rp A1] [Rp A2] [Rp A3] {t0 t1 t2 t3 : TE} {m0 : Option A0} {m1 : Option A1} {m2 : Option A2} {m3 : Option A3} {m : A0 × A1 × A2 × A3 × Unit → Option ρ} (e0 : EV K t0 σ G m0) (e1 : EV K t1 σ G m1) (e2 : EV K t2 σ G m2) (e3 : EV K t3 σ G m3) : EV K (tCall (spM K m) [] E0 (tCons t0 (tCons t1 (tCons t2 (tCons t3 tNil))))) σ G (m0.bind fun a0 => m1.bind fun a1 => m2.bind fun a2 => m3.bind fun a3 => m (a0, a1, a2, a3, ())) := by
  intro G1 s1 c hc H sH Q k
  obtain ⟨a0, ha0, hc⟩ := Option.bind_eq_some_iff.mp hc
  obtain ⟨a1, ha1, hc⟩ := Option.bind_eq_some_iff.mp hc
  obtain ⟨a2, ha2, hc⟩ := Option.bind_eq_some_iff.mp hc
  obtain ⟨a3, ha3, hc⟩ := Option.bind_eq_some_iff.mp hc
  refine e0 G1 s1 a0 ha0 H sH _ fun v0 G2 H2 x0 r0 => ?_
  have y0 := x0
  refine e1 G2 (s1.trans y0.gg) a1 ha1 H2 y0.gh _ fun v1 G3 H3 x1 r1 => ?_
  have y1 := y0.trans x1
  refine e2 G3 (s1.trans y1.gg) a2 ha2 H3 y1.gh _ fun v2 G4 H4 x2 r2 => ?_
  have y2 := y1.trans x2
  refine e3 G4 (s1.trans y2.gg) a3 ha3 H4 y2.gh _ fun v3 G5 H5 x3 r3 => ?_
  have y3 := y2.trans x3
  exact ⟨G5, _, c, y3.gh, ⟨v0, _, rfl, (Rp.mono x3.gg (Rp.mono x2.gg (Rp.mono x1.gg r0))), ⟨v1, _, rfl, (Rp.mono x3.gg (Rp.mono x2.gg r1)), ⟨v2, _, rfl, (Rp.mono x3.gg r2), ⟨v3, _, rfl, r3, rfl⟩⟩⟩⟩, hc, fun v G9 H9 x9 r9 => k v G9 H9 (y3.trans x9) r9⟩
section
variable {ta tb : TE} {a b : Bool} {tt tu : TT} {mb : Option Bool}
theorem TV.of {m m' : Option Bool} (e : TV tt σ G m) (h : m = m') : TV tt σ G m' := h ▸ e
theorem tv_orP (ea : TV tt σ G (some a)) (eb : TV tu σ G (some b)) : TV (tOr tt tu) σ G (some (a || b)) := (tv_or ea eb).of (by cases a <;> rfl)
theorem TruV.mono {G H : Hp} {v : V} {k : Bool} (s : Same G H) (h : TruV K v G k) : TruV K v H k := by
  cases v with
  | ref p =>
    rcases h with ⟨xs, hx, e⟩ | ⟨xs, hx, e⟩ | ⟨kvs, hx, e⟩
    · exact .inl ⟨xs, s.seq hx, e⟩
    · exact .inr (.inl ⟨xs, s.tup hx, e⟩)
    · exact .inr (.inr ⟨kvs, s _ _ hx, e⟩)
  | _ => exact h
theorem tv_b {mb : Option Bool} (ea : EV K ta σ G mb) : TV (fun σ H Q => ta σ H fun x H' => ∃ k, TruV K x H' k ∧ Q k H') σ G mb := by
  have h := tv_tru (K := K) (f := fun (a : Bool) => a) (fun {G v a} (r : Rp.rel K G v a) => by cases r; exact rfl) (fun s => TruV.mono s) ea
  refine h.of ?_
  cases mb <;> rfl
end
theorem cT {α : Type} {A B : Option α} {r : Option α} (h : cond true A B = r) : A = r := h
theorem cF {α : Type} {A B : Option α} {r : Option α} (h : cond false A B = r) : B = r := h
theorem sv_turn {i : Nat} {x : V} {σ : St} {H : Hp} {tb : TS} {D : Ends} (h : tb D (σ.set i (some x)) H) : gName i x σ H fun σ2 H2 => tb D σ2 H2 := h
end
end L2

set_option Elab.async false
set_option linter.all false
set_option maxRecDepth 100000
set_option maxHeartbeats 4000000
namespace L2
open PySem PySem.Spec PyProof.Rows
section
variable {K : PySem.W.Frag} {σ : St} {G H : Hp} {α β γ : Type} [Rp α] [Rp β] [Rp γ] {ta tb te : TE} {ia ib : Option Int} {c : Int} {rest t u : TS} {D : Ends} {i j : Nat} {tt : TT}
theorem ev_mulR (ea : EV K ta σ G ia) (hc : -(2 ^ 64) < c ∧ c < 2 ^ 64 := by decide) : EV K (tOp (rMul K) ta (tC (.int c))) σ G (ia.bind fun a => some (a * c)) := by
  have h := ev_mul ea (ev_i (K := K) (σ := σ) (G := G) (i := c))
  have e : (ia.bind fun a => (some c).bind fun b => mulO a b) = ia.bind fun a => some (a * c) := by
    congr 1; funext a
    show mulO a c = _
    unfold mulO
    rw [if_pos (.inr hc)]
  exact h.of e
theorem ev_mulL (eb : EV K tb σ G ib) (hc : -(2 ^ 64) < c ∧ c < 2 ^ 64 := by decide) : EV K (tOp (rMul K) (tC (.int c)) tb) σ G (ib.bind fun b => some (c * b)) := by
  have h := ev_mul (ev_i (K := K) (σ := σ) (G := G) (i := c)) eb
  have e : ((some c).bind fun a => ib.bind fun b => mulO a b) = ib.bind fun b => some (c * b) := by
    show (ib.bind fun b => mulO c b) = _
    congr 1; funext b
    unfold mulO
    rw [if_pos (.inl hc)]
  exact h.of e
theorem ev_modR (ea : EV K ta σ G ia) (hc : 0 < c := by decide) : EV K (tOp (rI (fun _ j => 0 < j) fun i j => .int (i % j)) ta (tC (.int c))) σ G (ia.bind fun a => some (a % c)) := by
  have h := ev_mod ea (ev_i (K := K) (σ := σ) (G := G) (i := c))
  have e : (ia.bind fun a => (some c).bind fun b => modO a b) = ia.bind fun a => some (a % c) := by
    congr 1; funext a
    show modO a c = _
    unfold modO
    rw [if_pos hc]
  exact h.of e
theorem ev_divR (ea : EV K ta σ G ia) (hc : 0 < c ∧ c < 1073741824 := by decide) : EV K (tOp (rI CDiv fun i j => .int (i / j)) ta (tC (.int c))) σ G (ia.bind fun a => some (a / c)) := by
  have h := ev_div ea (ev_i (K := K) (σ := σ) (G := G) (i := c))
  have e : (ia.bind fun a => (some c).bind fun b => divO a b) = ia.bind fun a => some (a / c) := by
    congr 1; funext a
    show divO a c = _
    unfold divO
    rw [if_pos (show CDiv a c from hc)]
  exact h.of e
structure Scr where
  l : List Int
instance rpScr : Rp Scr := ⟨fun K H v a => ∃ l, v = .ref l ∧ SqL K H l (a.l.map V.int), fun s ⟨l, e, h⟩ => ⟨l, e, s.seq h⟩⟩
theorem ev_lenX {ma : Option Scr} (ea : EV K ta σ G ma) : EV K (tCB (rLen K) (tCons ta tNil)) σ G (ma.bind fun a => some (a.l.length : Int)) := by
  intro G1 s1 c hc H sH Q k
  obtain ⟨a, ha, hc⟩ := Option.bind_eq_some_iff.mp hc
  cases hc
  refine ea G1 s1 a ha H sH _ fun v G2 H2 x2 r2 => ?_
  obtain ⟨l, rfl, h⟩ := r2
  exact ⟨_, .inl (x2.gh.seq h), by rw [List.length_map]; exact k _ _ _ x2 rfl⟩
theorem pairedI {H : Hp} : ∀ ns : List Int, Paired (Rp.rel K H) (ns.map V.int) ns
  | [] => .nil
  | _ :: r => .cons rfl (pairedI r)
theorem ev_atX {ma : Option Scr} (ea : EV K ta σ G ma) (eb : EV K tb σ G ib) : EV K (tOp (rAt K) ta tb) σ G (ma.bind fun a => ib.bind fun i => atI a.l i) :=
  ev_bin (fun s ra rb e Q k => by
    obtain ⟨l, rfl, h⟩ := ra; cases rb
    obtain ⟨v, hv, r⟩ := paired_atI (pairedI (K := K) _) e
    exact .inl ⟨_, v, s.seq h, hv, k _ _ _ (.refl s) r⟩) ea eb
theorem sv_ifB {b : Bool} {m : Option Bool} {v : V} {p : Addr} {vs : List V} {as : List β} (o : Own K G H v p vs as) (e : TV tt σ (upd G p (.lst vs)) m) (hm : m = some b) (s : Same G H) (k : ∀ G2 H2, Ext G H G2 H2 → if b = true then t { D with nx := rest D } σ H2 else u { D with nx := rest D } σ H2) :
    tSeq (tIfS tt t u) rest D σ H := TV.runB o e hm s k
def setO {α : Type} (as : List α) (k : Int) (a : α) : Option (List α) := (ixN as.length k).bind fun j => some (as.set j a)
theorem sv_unpack {a : α × β} {m : Option (α × β)} (e : EV K te σ G m) (hm : m = some a) (s : Same G H) (k : ∀ v1 v2 G2 H2, Ext G H G2 H2 → Rp.rel K G2 v1 a.1 → Rp.rel K G2 v2 a.2 → rest D ((σ.set i (some v1)).set j (some v2)) H2) :
    tSeq (tAsg te (gTup K 2 (gCons (gName i) (gCons (gName j) gNil)))) rest D σ H := by
  refine e.run hm s fun v G2 H2 x r => ?_
  obtain ⟨t, x1, x2, rfl, ht, r1, r2⟩ := r
  exact ⟨t, _, rfl, x.gh.tup ht, rfl, x1, _, rfl, x2, _, rfl, rfl, k _ _ _ _ x r1 r2⟩
end
end L2

set_option Elab.async false
set_option linter.all false
set_option maxRecDepth 100000
set_option maxHeartbeats 4000000
namespace L2
open PySem PySem.Spec PyProof.Rows
structure Own2 (K : PySem.W.Frag) {α β : Type} [Rp α] [Rp β] (G H : Hp) (v : V) (p q : Addr) (vs ws : List V) (a : List α × List β) : Prop where
  t : ∃ t, v = .ref t ∧ G t = some (.tup [.ref p, .ref q])
  o1 : Own K G H (.ref p) p vs a.1
  o2 : Own K G H (.ref q) q ws a.2
  ne : p ≠ q
section
variable {K : PySem.W.Frag} {σ : St} {G H G1 H1 G0 H0 : Hp} {α β γ : Type} [Rp α] [Rp β] [Rp γ] {ta tb te ti : TE} {tt : TT} {t u rest : TS} {D : Ends} {i j : Nat} {v : V} {p q r : Addr} {vs ws : List V} {a : List α × List β}
theorem Own2.ext (o : Own2 K G H v p q vs ws a) (x : Ext G H G1 H1) : Own2 K G1 H1 v p q vs ws a :=
  ⟨let ⟨t, e, h⟩ := o.t; ⟨t, e, x.gg _ _ h⟩, o.o1.ext x, o.o2.ext x, o.ne⟩
theorem Own2.put {ho : HO} (o : Own2 K G H v p q vs ws a) (h1 : p ≠ r) (h2 : q ≠ r) : Own2 K G (upd H r ho) v p q vs ws a := ⟨o.t, o.o1.put h1, o.o2.put h2, o.ne⟩
def two (G : Hp) (p q : Addr) (vs ws : List V) : Hp := upd (upd G p (.lst vs)) q (.lst ws)
theorem Own2.g2 (o : Own2 K G H v p q vs ws a) : (upd G p (.lst vs)) q = none := by rw [upd_ne (Ne.symm o.ne)]; exact o.o2.g
theorem Own2.up (o : Own2 K G H v p q vs ws a) : Same G (two G p q vs ws) := (Same.new o.o1.g).trans (Same.new o.g2)
theorem Own2.same (o : Own2 K G H v p q vs ws a) (s : Same G H) : Same (two G p q vs ws) H := fun b x e => by
  unfold two at e
  by_cases hb : b = q
  · subst hb
    rw [upd_same] at e
    rw [o.o2.h]
    exact e
  · rw [upd_ne hb] at e
    exact o.o1.same s b x e
theorem Own2.tell (o : Own2 K G H v p q vs ws a) : Rp.rel K (two G p q vs ws) v a := by
  obtain ⟨t, rfl, ht⟩ := o.t
  refine ⟨t, .ref p, .ref q, rfl, SqT.of (o.up _ _ ht), ⟨p, vs, rfl, .inl ?_, o.o1.z, Paired.imp' (fun _ _ r => Rp.mono o.up r) o.o1.p⟩, ⟨q, ws, rfl, .inl upd_same, o.o2.z, Paired.imp' (fun _ _ r => Rp.mono o.up r) o.o2.p⟩⟩
  unfold two
  rw [upd_ne o.ne]
  exact upd_same
theorem Own2.frz (o : Own2 K G H v p q vs ws a) (x : Ext G0 H0 G H) (h1 : H0 p = none) (h2 : H0 q = none) : Ext G0 H0 (two G p q vs ws) H :=
  (x.frz h1 o.o1.g o.o1.h).frz h2 o.g2 o.o2.h
/-- a new pair of lists -/
def NV (K : PySem.W.Frag) {α β : Type} [Rp α] [Rp β] (te : TE) (σ : St) (G : Hp) (m : Option (List α × List β)) : Prop :=
  ∀ G1, Same G G1 → ∀ a, m = some a → ∀ H, Same G1 H → ∀ Q : VK, (∀ v p q vs ws G2 H2, Ext G1 H G2 H2 → H p = none → H q = none → Own2 K G2 H2 v p q vs ws a → Q v H2) → te σ H Q
theorem NV.ev {m : Option (List α × List β)} (e : NV K te σ G m) : EV K te σ G m := by
  intro G1 s1 a ha H sH Q k
  refine e G1 s1 a ha H sH Q fun v p q vs ws G2 H2 x h1 h2 o => ?_
  exact k v _ H2 (o.frz x h1 h2) o.tell
/-- what a def hands back is new -/
def spN (K : PySem.W.Frag) {A : Type} [RpA A] {α β : Type} [Rp α] [Rp β] (m : A → Option (List α × List β)) : Sp := fun vs H Q _ =>
  ∃ G a r, Same G H ∧ RpA.rel K G vs a ∧ m a = some r ∧ ∀ v p q vs ws G2 H2, Ext G H G2 H2 → H p = none → H q = none → Own2 K G2 H2 v p q vs ws r → Q v H2
def spL (K : PySem.W.Frag) {A : Type} [RpA A] {α : Type} [Rp α] (m : A → Option (List α)) : Sp := fun vs H Q _ =>
  ∃ G a r, Same G H ∧ RpA.rel K G vs a ∧ m a = some r ∧ ∀ p vs G2 H2, Ext G H G2 H2 → H p = none → Own K G2 H2 (.ref p) p vs r → Q (.ref p) H2
/-- xs.insert(0, e) -/
def consO {α : Type} (a : α) (as : List α) : Option (List α) := if as.length < sizeLine then some (a :: as) else none
def rInsert0 : V → List V → Hp → VK → Prop := fun x vs H Q => ∃ l xs y, x = .ref l ∧ vs = [.int 0, y] ∧ H l = some (.lst xs) ∧ xs.length < sizeLine ∧ Q .non (upd H l (.lst (y :: xs)))
end
end L2

set_option Elab.async false
set_option linter.all false
set_option maxRecDepth 100000
set_option maxHeartbeats 4000000
namespace L2
open PySem PySem.Spec PyProof.Rows
section
variable {X : Cx} {K : PySem.W.Frag}
theorem op_plusK (h : X.K = K) : OpR X (binaryOp .Add) (rPlus K) := h ▸ op_plus
theorem op_mulK (h : X.K = K) : OpR X (binaryOp .Mult) (rMul K) := h ▸ op_mulU
theorem sl_anyK (h : X.K = K) : SlR X (rSl K) := h ▸ sl_any
theorem ix_anyK (h : X.K = K) : IxR X (rAt K) := h ▸ ix_any
theorem call_lenK (h : X.K = K) : CallR X (.builtin "len") (rLen K) := h ▸ call_lenU
theorem call_instK (h : X.K = K) : CallR X (.builtin "isinstance") (rInst K) := h ▸ call_inst
theorem op_eqK {j : Nat} (h : X.K = K) (α : Type) [Rp α] [DecidableEq α] [RpE α] (hr : Room j X.A) (hk : RpE.k α ≤ 10) : OpR X (compareOp .Eq) (rEqD K α) := h ▸ op_eqM α hr hk
theorem op_neK {j : Nat} (h : X.K = K) (α : Type) [Rp α] [DecidableEq α] [RpE α] (hr : Room j X.A) (hk : RpE.k α ≤ 10) : OpR X (compareOp .NotEq) (rNeD K α) := h ▸ op_neM α hr hk
theorem call_listK (h : X.K = K) : CallR X (.type "list") (fun xs H Q => ∃ p ys, xs = [.ref p] ∧ (SqL K H p ys ∨ SqT K H p ys) ∧ ∀ l, H l = none → Q (.ref l) (upd H l (.lst ys))) := h ▸ call_list_of
theorem pi_anyK {tg l : Expr} {tl : TE} (h : X.K = K) (hl : PE X l tl) : PI X tg l (iAny K tl) := h ▸ pi_any hl
theorem pt_truthK {a : Expr} {ta : TE} (h : X.K = K) (ha : PE X a ta) (he : ∀ whole, isTrue a X.env whole = (do let v ← whole; standAt a.pos; holding [v] (truthy v))) :
    PT X a (fun σ H Q => ta σ H fun x H' => ∃ k, TruV K x H' k ∧ Q k H') := h ▸ pt_truth ha he
section
variable {o e : Expr} {es : List Expr} {to : TE} {t : TA} {name : Str} {apos cpos : Pos} {T id : String} {r : V → List V → Hp → VK → Prop}
theorem pe_bmK (h : X.K = K) (pa : PlainAttrs T) (slot : Slot T name id) (hty : typeOf (.builtin id) = pure (.type "method_descriptor")) (hm : MtR X id r) (ho : PE X o to) (ha : PA X (e :: es) t)
    (hbase : attributeBase o name X.env (eval o X.env) = eval o X.env := by rfl)
    (hfew : ((backTo cpos (starEach (e :: es) X.env)).all (fun x => !x.1) && (backToKw cpos (keywordEach [] X.env)).all (fun x => x.1.isSome)
      && decide ((e :: es).length + ([] : List Keyword).length + (if ([] : List Keyword).isEmpty then 0 else 1) < 30)) = true := by rfl)
    (hline : (apos.endLine == cpos.line) = true := by rfl) (hs : starEach (e :: es) X.env = (false, eval e X.env) :: starEach es X.env := by rfl) (hplain : (backTo cpos (starEach es X.env)).any (·.1) = false := by rfl) :
    PE X (.Call (.Attribute o name apos) (e :: es) [] cpos) (tBM K T r to t) := h ▸ pe_bm pa slot hty hm ho ha hbase hfew hline hs hplain
end
end
theorem sv_nx {f : St → Hp → Prop} {rt : VK} {bk ct : St → Hp → Prop} {σ : St} {H : Hp} (h : f σ H) : ({ nx := f, rt := rt, bk := bk, ct := ct } : Ends).nx σ H := h
end L2

set_option Elab.async false
set_option linter.all false
set_option maxRecDepth 100000
set_option maxHeartbeats 4000000
namespace L2
open PySem PySem.Spec PyProof.Rows
section
variable {K : PySem.W.Frag} {σ : St} {G H : Hp} {α β γ : Type} [Rp α] [Rp β] [Rp γ] {ta tb te : TE} {rest t u : TS} {D : Ends} {i j : Nat}
def extO {α : Type} (as bs : List α) : Option (List α) := if as.length + bs.length ≤ sizeLine then some (as ++ bs) else none
def rCountS (K : PySem.W.Frag) : V → List V → Hp → VK → Prop := fun x vs H Q => ∃ (l : Addr) (ys : List Str) (y : Str), x = .ref l ∧ vs = [.str y] ∧ SqL K H l (ys.map V.str) ∧ Q (.int (countIn (.str y) (ys.map PyData.str))) H
end
end L2

set_option Elab.async false
set_option linter.all false
set_option maxRecDepth 100000
set_option maxHeartbeats 4000000
namespace L2
open PySem PySem.Spec PyProof.Rows
inductive D where
  | non
  | bl (b : Bool)
  | int (i : Int)
  | str (x : Str)
  | lst (l : List D)
  | tup (l : List D)
  | dic
mutual
inductive RelD (K : PySem.W.Frag) (H : Hp) : V → D → Prop where
  | non : RelD K H .non .non
  | bl (b : Bool) : RelD K H (.bl b) (.bl b)
  | int (i : Int) : RelD K H (.int i) (.int i)
  | str (x : Str) (z : x.length ≤ sizeLine) : RelD K H (.str x) (.str x)
  | lst {a : Addr} {xs : List V} {ds : List D} (h : Rd H a (.lst xs)) (z : xs.length ≤ sizeLine) (r : RelDs K H xs ds) : RelD K H (.ref a) (.lst ds)
  | tup {a : Addr} {xs : List V} {ds : List D} (h : SqT K H a xs) (z : xs.length ≤ sizeLine) (r : RelDs K H xs ds) : RelD K H (.ref a) (.tup ds)
  | dK {a : Addr} {kvs : List (Key × V)} (h : Rd H a (.dK kvs)) : RelD K H (.ref a) .dic
inductive RelDs (K : PySem.W.Frag) (H : Hp) : List V → List D → Prop where
  | nil : RelDs K H [] []
  | cons {x : V} {d : D} {xs : List V} {ds : List D} (h : RelD K H x d) (t : RelDs K H xs ds) : RelDs K H (x :: xs) (d :: ds)
end
mutual
theorem RelD.mono {K : PySem.W.Frag} {H H' : Hp} (s : Same H H') : ∀ {v : V} {d : D}, RelD K H v d → RelD K H' v d
  | _, _, .non => .non
  | _, _, .bl b => .bl b
  | _, _, .int i => .int i
  | _, _, .str x z => .str x z
  | _, _, .lst h z r => .lst (s.rd h) z (RelDs.mono s r)
  | _, _, .tup h z r => .tup (s.tup h) z (RelDs.mono s r)
  | _, _, .dK h => .dK (s.rd h)
theorem RelDs.mono {K : PySem.W.Frag} {H H' : Hp} (s : Same H H') : ∀ {v : List V} {d : List D}, RelDs K H v d → RelDs K H' v d
  | _, _, .nil => .nil
  | _, _, .cons h t => .cons (RelD.mono s h) (RelDs.mono s t)
end
instance rpD : Rp D := ⟨RelD, fun s h => RelD.mono s h⟩
theorem relDs_of {K : PySem.W.Frag} {H : Hp} : ∀ {xs : List V} {ds : List D}, Paired (Rp.rel K H) xs ds → RelDs K H xs ds
  | _, _, .nil => .nil
  | _, _, .cons h t => .cons h (relDs_of t)
theorem of_relDs {K : PySem.W.Frag} {H : Hp} : ∀ {xs : List V} {ds : List D}, RelDs K H xs ds → Paired (Rp.rel K H) xs ds
  | _, _, .nil => .nil
  | _, _, .cons h t => .cons h (of_relDs t)
class ToD (α : Type) [Rp α] where
  to : α → D
  rel : ∀ {K : PySem.W.Frag} {H : Hp} {v : V} {a : α}, Rp.rel K H v a → RelD K H v (to a)
theorem toDs {K : PySem.W.Frag} {H : Hp} {α : Type} [Rp α] [ToD α] : ∀ {xs : List V} {as : List α}, Paired (Rp.rel K H) xs as → Paired (Rp.rel (α := D) K H) xs (as.map ToD.to)
  | _, _, .nil => .nil
  | _, _, .cons h t => .cons (ToD.rel h) (toDs t)
instance tdD : ToD D := ⟨id, fun h => h⟩
instance tdInt : ToD Int := ⟨.int, fun h => by cases h; exact .int _⟩
instance tdBool : ToD Bool := ⟨.bl, fun h => by cases h; exact .bl _⟩
instance tdStr : ToD Str := ⟨.str, fun h => by obtain ⟨rfl, z⟩ := h; exact .str _ z⟩
instance tdUnit : ToD Unit := ⟨fun _ => .non, fun h => by cases h; exact .non⟩
instance tdList {α : Type} [Rp α] [ToD α] : ToD (List α) := ⟨fun l => .lst (l.map ToD.to), fun ⟨l, xs, e, h, z, p⟩ => by subst e; exact .lst h z (relDs_of (toDs p))⟩
instance tdTp {α : Type} [Rp α] [ToD α] : ToD (Tp α) := ⟨fun l => .tup (l.l.map ToD.to), fun ⟨l, xs, e, h, z, p⟩ => by subst e; exact .tup h z (relDs_of (toDs p))⟩
instance tdPair {α β : Type} [Rp α] [ToD α] [Rp β] [ToD β] : ToD (α × β) := ⟨fun p => .tup [ToD.to p.1, ToD.to p.2], fun ⟨t, x, y, e, h, r1, r2⟩ => by subst e; exact .tup h (by show 2 ≤ sizeLine; decide) (.cons (ToD.rel r1) (.cons (ToD.rel r2) .nil))⟩
def asStr : D → Option Str
  | .str x => some x
  | _ => none
def asLst : D → Option (List D)
  | .lst l => some l
  | _ => none
def dk : D → String
  | .non => "NoneType"
  | .bl _ => "bool"
  | .int _ => "int"
  | .str _ => "str"
  | .lst _ => "list"
  | .tup _ => "tuple"
  | .dic => "dict"
def isK (T : String) (d : D) : Bool := dk d == T || (T == "int" && dk d == "bool")
def lenD : D → Option Int
  | .str x => some (x.length : Int)
  | .lst l => some (l.length : Int)
  | .tup l => some (l.length : Int)
  | _ => none
def atD : D → Int → Option D
  | .lst l, i => atI l i
  | .tup l, i => atI l i
  | .str x, i => (atI x.cps.toList i).bind fun c => some (.str ⟨#[c]⟩)
  | _, _ => none
def iterD : D → Option (List D)
  | .lst l => some l
  | .tup l => some l
  | .str x => some ((signsO x).map D.str)
  | _ => none
section
variable {K : PySem.W.Frag} {σ : St} {G : Hp} {α β : Type} [Rp α] [Rp β] {ta tb te : TE} {md : Option D}
theorem RelD.ty {H : Hp} {v : V} {d : D} (r : RelD K H v d) : TyS K H v (dk d) := by
  cases r with
  | non => exact .non
  | bl => exact .bl _
  | int => exact .int _
  | str => exact .str _
  | lst h => exact .lst (.inl h)
  | tup h => exact .tup h
  | dK h => exact .dK h
theorem RelDs.len {H : Hp} {xs : List V} {ds : List D} (r : RelDs K H xs ds) : xs.length = ds.length := Paired.length (of_relDs r)
end
end L2

set_option Elab.async false
set_option linter.all false
set_option maxRecDepth 100000
set_option maxHeartbeats 4000000
namespace L2
open PySem PySem.Spec PyProof.Rows
section
variable {K : PySem.W.Frag} {σ : St} {G : Hp} {ta : TE}
def rAllB (K : PySem.W.Frag) : List V → Hp → VK → Prop := fun vs H Q => ∃ (l : Addr) (bs : List Bool), vs = [.ref l] ∧ SqL K H l (bs.map V.bl) ∧ Q (.bl (bs.all id)) H
theorem bools_at {bs : List Bool} {its : List Value} (r : Vals (bs.map V.bl) its) {i : Nat} {v : Value} (h : its.toArray[i]? = some v) : v = .bool (bs.getD i true) := by
  have h : its[i]? = some v := by simpa using h
  have hl := r.length
  rw [List.length_map] at hl
  obtain ⟨hi, _⟩ := List.getElem?_eq_some_iff.mp h
  have e : (bs.map V.bl)[i]? = some (V.bl (bs.getD i true)) := by
    have : i < bs.length := by omega
    simp [this]
  obtain ⟨u, hu, ru⟩ := r.get e
  rw [h] at hu
  cases hu
  exact ru
theorem call_allK {X : Cx} (hc : X.calm = true) (h : X.K = K) : CallR X (.builtin "all") (rAllB K) := by
  subst h
  intro pins s σ H vs us Q I r h
  obtain ⟨l, bs, rfl, hl, q⟩ := h
  obtain ⟨u, rfl, ru⟩ := vals1 r
  cases ru
  obtain ⟨its, rv, pl, _⟩ := I.list hl
  have hL := pl.isList
  have hlt : l < s.heap.objs.size := by obtain ⟨_, e, _⟩ := hL; exact Heap.lt_size e
  have hlen := rv.length
  rw [List.length_map] at hlen
  refine call_all_walk (wpAny_pyIter_list hL ?_)
  refine ⟨_, _, _, _, _, _, fun i => bs.getD i true, rfl, Walks.list (A := X.A.in1) (I.ok.hd hc) _ l (Nat.ne_of_lt hlt) its.toArray, ⟨⟨_, Heap.get?_push_size _ rfl, rfl, rfl⟩, hL.push _⟩, ?_, fun h' tk hk => ?_⟩
  · intro i v s' Q' E' hP hQ
    rw [bools_at rv hP]
    exact wpAny_truthy_bool hQ
  · have e : (List.range its.toArray.size).all (fun i => bs.getD i true) = bs.all id := by
      rw [List.size_toArray, ← hlen]
      apply Bool.eq_iff_iff.mpr
      rw [List.all_eq_true, List.all_eq_true]
      constructor
      · intro hh b hb
        obtain ⟨i, hi⟩ := List.mem_iff_getElem?.mp hb
        have hi2 := (List.getElem?_eq_some_iff.mp hi).1
        have := hh i (List.mem_range.mpr hi2)
        rw [List.getD_eq_getElem?_getD, hi] at this
        exact this
      · intro hh i hi
        have hi2 := List.mem_range.mp hi
        have := hh bs[i] (List.getElem_mem hi2)
        rw [List.getD_eq_getElem?_getD, List.getElem?_eq_getElem hi2]
        exact this
    rw [e]
    refine ⟨.bl _, H, I.kept fun b o eb => ?_, rfl, q⟩
    refine hk b o (fun hm => ?_) (Heap.get?_push_of_some _ eb)
    have : b = s.heap.objs.size := by simpa using hm
    exact absurd (this ▸ Heap.lt_size eb) (Nat.lt_irrefl _)
theorem paired_bools {H : Hp} : ∀ {xs : List V} {ys : List Bool}, Paired (Rp.rel K H) xs ys → xs = ys.map V.bl
  | _, _, .nil => rfl
  | _, _, .cons r t => by
    cases r
    rw [paired_bools t]
    rfl
theorem ev_all {lb : Option (List Bool)} (ea : EV K ta σ G lb) : EV K (tCB (rAllB K) (tCons ta tNil)) σ G (lb.bind fun bs => some (bs.all id)) := by
  intro G1 s1 c hc H sH Q k
  obtain ⟨a, ha, hc⟩ := Option.bind_eq_some_iff.mp hc
  cases hc
  refine ea G1 s1 a ha H sH _ fun v G2 H2 x2 r2 => ?_
  obtain ⟨l, xs, rfl, h, z, p⟩ := r2
  obtain rfl := paired_bools p
  exact ⟨l, a, rfl, .inl (x2.gh.rd h), k _ _ _ x2 rfl⟩
end
end L2

set_option Elab.async false
set_option linter.all false
set_option maxRecDepth 100000
set_option maxHeartbeats 4000000
namespace L2
open PySem PySem.Spec PyProof.Rows
def OK {α : Type} (m : Option α) (P : α → Prop) : Prop := ∃ a, m = some a ∧ P a
section
variable {α β S ρ : Type} {m : Option α} {P Q : α → Prop} {R : β → Prop}
theorem OK.mono (h : OK m P) (k : ∀ a, P a → Q a) : OK m Q := let ⟨a, e, p⟩ := h; ⟨a, e, k a p⟩
theorem ok_some {a : α} (h : P a) : OK (some a) P := ⟨a, rfl, h⟩
theorem ok_bind {f : α → Option β} (h : OK m fun a => OK (f a) R) : OK (m.bind f) R := by
  obtain ⟨a, rfl, h⟩ := h
  exact h
theorem ok_by {f : α → Option β} (h : OK m P) (k : ∀ a, P a → OK (f a) R) : OK (m.bind f) R := ok_bind (h.mono k)
theorem ok_cond {b : Bool} {x y : Option α} (h1 : b = true → OK x P) (h2 : b = false → OK y P) : OK (cond b x y) P := by
  cases b with
  | true => exact h1 rfl
  | false => exact h2 rfl
theorem OK.eq {a : α} (h : OK m fun b => b = a) : m = some a := by obtain ⟨b, e, rfl⟩ := h; exact e
theorem OK.of {a : α} (e : m = some a) (h : P a) : OK m P := ⟨a, e, h⟩
theorem bindS {α β : Type} (a : α) (f : α → Option β) : (some a).bind f = f a := by rw [Option.bind_some]
theorem bind_self {α : Type} (m : Option α) : (m.bind fun x => some x) = m := by cases m <;> rfl
theorem ok_mod {a b : Int} {P : Int → Prop} (hb : 0 < b) (h : P (a % b)) : OK (modO a b) P := ⟨_, if_pos hb, h⟩
theorem ok_mul {a b : Int} {P : Int → Prop} (hb : CMul a b) (h : P (a * b)) : OK (mulO a b) P := ⟨_, if_pos hb, h⟩
theorem ok_catS {a b : Str} {P : Str → Prop} (hb : a.length + b.length ≤ sizeLine) (h : P (a ++ b)) : OK (catS a b) P := ⟨_, if_pos hb, h⟩
theorem ok_catL {a b : List α} {P : List α → Prop} (hb : a.length + b.length ≤ sizeLine) (h : P (a ++ b)) : OK (catL a b) P := ⟨_, if_pos hb, h⟩
theorem ok_push {a : List α} {b : α} {P : List α → Prop} (hb : a.length < sizeLine) (h : P (a ++ [b])) : OK (pushO a b) P := ⟨_, if_pos hb, h⟩
theorem ok_rng {lo hi : Int} {n : Nat} {P : List Int → Prop} (hn : hi - lo = n) (h0 : -1000000000 ≤ lo ∧ lo ≤ 1000000000) (h1 : n ≤ sizeLine) (h : P ((List.range n).map fun (i : Nat) => lo + (i : Int))) : OK (rngO lo hi) P := by
  have hs : sizeLine = 16777216 := sizeLine_eq
  have e : (hi - lo).toNat = n := by omega
  refine ⟨_, if_pos ⟨⟨by omega, by omega, by omega, by omega⟩, by omega⟩, ?_⟩
  rw [e]
  exact h
theorem ok_at {a : List α} {i : Int} (h0 : 0 ≤ i) (h1 : i < a.length) (h : ∀ x, a[i.toNat]? = some x → P x) : OK (atI a i) P := by
  obtain ⟨k, rfl⟩ := Int.eq_ofNat_of_zero_le h0
  have hk : k < a.length := by omega
  refine ⟨a[k], atI_nat (by simp [hk]), h _ ?_⟩
  rw [Int.toNat_natCast]
  simp [hk]
theorem ok_last {a : List α} (h : a ≠ []) (k : P (a.getLast h)) : OK (atI a (-1)) P := by
  refine ⟨_, ?_, k⟩
  have := atI_last a.dropLast (a.getLast h)
  rwa [List.dropLast_concat_getLast] at this
/-- a loop by its invariant: J behind a break, R of what is handed back from within -/
theorem ok_for {f : α → S → Option (Fl S ρ)} {as : List α} {s0 : S} (I : Nat → S → Prop) (J : S → Prop) (R : ρ → Prop) {P : Fl S ρ → Prop} (h0 : I 0 s0)
    (hs : ∀ (i : Nat) a s, as[i]? = some a → I i s → OK (f a s) fun fl => match fl with | .nx s' => I (i + 1) s' | .bk s' => J s' | .rt r => R r)
    (hn : ∀ s, I as.length s → P (.nx s)) (hj : ∀ s, J s → P (.nx s)) (hr : ∀ r, R r → P (.rt r)) : OK (forO f as s0) P := by
  have key : ∀ (n i : Nat) (s : S), n = as.length - i → i ≤ as.length → I i s → OK (forO f (as.drop i) s) P := by
    intro n
    induction n with
    | zero =>
      intro i s hn0 hi hI
      have e : i = as.length := by omega
      subst e
      rw [List.drop_length]
      exact ok_some (hn s hI)
    | succ n ih =>
      intro i s hn0 hi hI
      have hlt : i < as.length := by omega
      rw [List.drop_eq_getElem_cons hlt]
      obtain ⟨fl, e, h⟩ := hs i as[i] s (by simp [hlt]) hI
      show OK ((f as[i] s).bind _) P
      rw [e]
      cases fl with
      | nx s' => exact ih (i + 1) s' (by omega) hlt h
      | bk s' => exact ok_some (hj s' h)
      | rt r => exact ok_some (hr r h)
  exact key as.length 0 s0 (by omega) (Nat.zero_le _) h0
/-- a loop that goes through -/
theorem ok_for' {f : α → S → Option (Fl S ρ)} {as : List α} {s0 : S} (I : Nat → S → Prop) {P : Fl S ρ → Prop} (h0 : I 0 s0)
    (hs : ∀ (i : Nat) a s, as[i]? = some a → I i s → OK (f a s) fun fl => ∃ s', fl = .nx s' ∧ I (i + 1) s') (hn : ∀ s, I as.length s → P (.nx s)) : OK (forO f as s0) P :=
  ok_for I (fun _ => False) (fun _ => False) h0 (fun i a s ha hI => (hs i a s ha hI).mono fun fl ⟨s', e, h⟩ => by subst e; exact h) hn (fun _ h => h.elim) fun _ h => h.elim
theorem ok_while {c : S → Option Bool} {f : S → Option (Fl S ρ)} {s0 : S} (I : S → Prop) (J : S → Prop) (R : ρ → Prop) (μ : S → Nat) {P : Fl S ρ → Prop} (h0 : I s0) (hμ : μ s0 < 1000000)
    (hs : ∀ s, I s → OK (c s) fun b => if b = true then OK (f s) fun fl => match fl with | .nx s' => I s' ∧ μ s' < μ s | .bk s' => J s' | .rt r => R r else P (.nx s))
    (hj : ∀ s, J s → P (.nx s)) (hr : ∀ r, R r → P (.rt r)) : OK (whileN c f fuelW s0) P := by
  have key : ∀ (n : Nat) (s : S), μ s < n → I s → OK (whileN c f n s) P := by
    intro n
    induction n with
    | zero => intro s h; exact absurd h (Nat.not_lt_zero _)
    | succ n ih =>
      intro s hlt hI
      obtain ⟨b, e, h⟩ := hs s hI
      show OK ((c s).bind _) P
      rw [e]
      cases b with
      | false =>
        rw [if_neg Bool.false_ne_true] at h
        exact ok_some h
      | true =>
        rw [if_pos rfl] at h
        obtain ⟨fl, e2, h⟩ := h
        show OK ((f s).bind _) P
        rw [e2]
        cases fl with
        | nx s' => exact ih s' (by have := h.2; omega) h.1
        | bk s' => exact ok_some (hj s' h)
        | rt r => exact ok_some (hr r h)
  exact key fuelW s0 (by unfold fuelW; omega) h0
theorem ok_map {f : α → Option β} {g : α → β} {P : List β → Prop} : ∀ {as : List α}, (∀ a ∈ as, f a = some (g a)) → P (as.map g) → OK (mapO f as) P := by
  intro as
  have key : ∀ as : List α, (∀ a ∈ as, f a = some (g a)) → mapO f as = some (as.map g) := by
    intro as
    induction as with
    | nil => intro _; rfl
    | cons a r ih =>
      intro h
      show ((f a).bind fun y => (mapO f r).bind fun ys => some (y :: ys)) = _
      rw [h a List.mem_cons_self, ih fun x hx => h x (List.mem_cons_of_mem _ hx)]
      rfl
  exact fun h p => ⟨_, key as h, p⟩
/-- each thing's own -/
theorem ok_mapR {f : α → Option β} {R : α → β → Prop} {P : List β → Prop} : ∀ {as : List α}, (∀ a ∈ as, OK (f a) (R a)) → (∀ bs : List β, bs.length = as.length → (∀ b ∈ bs, ∃ a ∈ as, R a b) → (∀ (i : Nat) a b, as[i]? = some a → bs[i]? = some b → R a b) → P bs) → OK (mapO f as) P := by
  intro as
  have key : ∀ as : List α, (∀ a ∈ as, OK (f a) (R a)) → OK (mapO f as) fun bs => bs.length = as.length ∧ (∀ b ∈ bs, ∃ a ∈ as, R a b) ∧ ∀ (i : Nat) a b, as[i]? = some a → bs[i]? = some b → R a b := by
    intro as
    induction as with
    | nil => intro _; exact ok_some ⟨rfl, fun b h => by simp at h, fun i a b h => by simp at h⟩
    | cons a r ih =>
      intro h
      refine ok_by (h a List.mem_cons_self) fun y hy => ok_by (ih fun x hx => h x (List.mem_cons_of_mem _ hx)) fun ys ⟨h1, h2, h3⟩ => ok_some ⟨by simp [h1], ?_, ?_⟩
      · intro b hb
        rcases List.mem_cons.mp hb with e | e
        · subst e
          exact ⟨a, List.mem_cons_self, hy⟩
        · obtain ⟨x, hx, hr⟩ := h2 b e
          exact ⟨x, List.mem_cons_of_mem _ hx, hr⟩
      · intro i x b hx hb
        cases i with
        | zero => simp at hx hb; subst hx; subst hb; exact hy
        | succ i => exact h3 i x b (by simpa using hx) (by simpa using hb)
  exact fun h p => (key as h).mono fun bs ⟨h1, h2, h3⟩ => p bs h1 h2 h3
theorem ok_comp {fc : α → Option Bool} {fe : α → Option β} {c : α → Bool} {g : α → β} {P : List β → Prop} {as : List α} (hc : ∀ a ∈ as, fc a = some (c a)) (he : ∀ a ∈ as, c a = true → fe a = some (g a)) (p : P ((as.filter c).map g)) : OK (compO fc fe as) P := by
  have key : ∀ as : List α, (∀ a ∈ as, fc a = some (c a)) → (∀ a ∈ as, c a = true → fe a = some (g a)) → compO fc fe as = some ((as.filter c).map g) := by
    intro as
    induction as with
    | nil => intro _ _; rfl
    | cons a r ih =>
      intro h1 h2
      have i := ih (fun x hx => h1 x (List.mem_cons_of_mem _ hx)) fun x hx => h2 x (List.mem_cons_of_mem _ hx)
      show ((fc a).bind fun b => cond b ((fe a).bind fun y => (compO fc fe r).bind fun ys => some (y :: ys)) (compO fc fe r)) = _
      rw [h1 a List.mem_cons_self, i]
      cases hb : c a with
      | true =>
        show ((fe a).bind fun y => _) = _
        rw [h2 a List.mem_cons_self hb]
        simp [hb]
      | false => simp [hb]
  exact ⟨_, key as hc he, p⟩
end
end L2

set_option Elab.async false
set_option linter.all false
set_option maxRecDepth 100000
namespace Lasso
variable {α β : Type}
def sqO (st ring : List α) (n : Nat) : Option α := if n < st.length then st[n]? else ring[(n - st.length) % ring.length]?
def Per (s : Nat → β) (p m : Nat) : Prop := ∀ n, m ≤ n → s (n + p) = s n
theorem Per.mul {s : Nat → β} {p m : Nat} (h : Per s p m) : ∀ k n, m ≤ n → s (n + k * p) = s n
  | 0, n, _ => by simp
  | k + 1, n, hn => by
    have e : n + (k + 1) * p = (n + k * p) + p := by rw [Nat.succ_mul, Nat.add_assoc]
    rw [e, h _ (by omega), Per.mul h k n hn]
theorem Per.mod {s : Nat → β} {a b : Nat} (ha : Per s a 0) (hb : Per s b 0) : Per s (b % a) 0 := fun n _ => by
  have h1 := ha.mul (b / a) (n + b % a) (Nat.zero_le _)
  have e : n + b % a + b / a * a = n + b := by
    have := Nat.mod_add_div b a
    rw [Nat.mul_comm] at this
    omega
  rw [← h1, e]
  exact hb n (Nat.zero_le _)
structure Canon (s : Nat → Option α) (st ring : List α) : Prop where
  pos : 0 < ring.length
  shows : ∀ n, sqO st ring n = s n
  per : ∀ p m, 0 < p → Per s p m → ring.length ≤ p
  stem : ∀ m, st.length = m + 1 → s (m + ring.length) ≠ s m
/-- the ring is its first d things, said again -/
def Again (ring : List α) (d : Nat) : Prop := ring.length % d = 0 ∧ ring.drop d = ring.take (ring.length - d)
/-- the shortest part -/
structure Prim (ring u : List α) : Prop where
  pos : 0 < u.length
  le : u.length ≤ ring.length
  all : ∀ n, ring[n % ring.length]? = u[n % u.length]?
  min : ∀ p, 0 < p → Per (fun n => ring[n % ring.length]?) p 0 → u.length ≤ p
/-- of the stem's last places, b are as the ring tells -/
def Back (st u : List α) (b : Nat) : Prop := b ≤ st.length ∧ ∀ j, j < b → st[st.length - 1 - j]? = u[u.length - 1 - j % u.length]?
end Lasso

set_option Elab.async false
set_option linter.all false
set_option maxRecDepth 100000
namespace Lasso
variable {α : Type} [DecidableEq α]
def dst : Option α → List α → List α
  | _, [] => []
  | l, x :: xs => if some x = l then dst (some x) xs else x :: dst (some x) xs
def lastO : Option α → List α → Option α
  | l, [] => l
  | _, x :: xs => lastO (some x) xs
end Lasso

set_option Elab.async false
set_option linter.all false
set_option maxRecDepth 100000
set_option maxHeartbeats 4000000
namespace L2
open PySem PySem.Spec PyProof.Rows
abbrev RunT := List Str × List Str
structure Cell3 (G0 H0 G : Hp) (L : Addr) (H : Hp) (n : Nat) (x : V) : Prop where
  ex : ∃ t p q, x = .ref t ∧ H t = some (.tup [.ref p, .ref q]) ∧ (G p = none ∧ H0 p = none ∧ p ≠ L ∧ ∃ vs, H p = some (.lst vs) ∧ vs.length ≤ n) ∧ (G q = none ∧ H0 q = none ∧ q ≠ L ∧ ∃ ws, H q = some (.lst ws) ∧ ws.length ≤ n)
section
variable {K : PySem.W.Frag} {σ : St} {G H G0 H0 Gx G1 H1 G2 H2 : Hp} {α β : Type} [Rp α] [Rp β] {ta tb tc te : TE} {tt : TT} {t u rest : TS} {D : Ends} {i j : Nat} {v : V}
theorem Cell3.put {L c : Addr} {n : Nat} {x : V} {ys : List V} (h : Cell3 G0 H0 G L H n x) (hc : ∃ zs, H c = some (.lst zs)) (hl : ys.length ≤ n + 1) : Cell3 G0 H0 G L (upd H c (.lst ys)) (n + 1) x := by
  obtain ⟨zs, hzs⟩ := hc
  obtain ⟨t, p, q, rfl, ht, ⟨p1, p2, p3, vs, p4, p5⟩, ⟨q1, q2, q3, ws, q4, q5⟩⟩ := h.ex
  have nt : t ≠ c := ne_of ht hzs (fun z => by cases z)
  have one : ∀ (a : Addr) (xs : List V), H a = some (.lst xs) → xs.length ≤ n → ∃ xs', (upd H c (.lst ys)) a = some (.lst xs') ∧ xs'.length ≤ n + 1 := fun a xs ha hx => by
    by_cases e : a = c
    · subst e
      exact ⟨ys, upd_same, hl⟩
    · exact ⟨xs, by rw [upd_ne e]; exact ha, by omega⟩
  exact ⟨t, p, q, rfl, by rw [upd_ne nt]; exact ht, ⟨p1, p2, p3, one p vs p4 p5⟩, ⟨q1, q2, q3, one q ws q4 q5⟩⟩
/-- told: known with the new cells (Gx), and without them (G) -/
structure Told (K : PySem.W.Frag) (H0 G Gx H : Hp) (v : V) (r : List RunT) : Prop where
  up : Same G Gx
  sm : Same Gx H
  rel : Rp.rel K Gx v r
  cells : ∃ L xs, v = .ref L ∧ H L = some (.lst xs) ∧ G L = none ∧ H0 L = none ∧ Paired (fun x (a : RunT) => ∃ t p q vs ws, x = .ref t ∧ H t = some (.tup [.ref p, .ref q]) ∧ (G p = none ∧ H0 p = none ∧ p ≠ L ∧ H p = some (.lst vs) ∧ vs.length = a.1.length) ∧ (G q = none ∧ H0 q = none ∧ q ≠ L ∧ H q = some (.lst ws) ∧ ws.length = a.2.length)) xs r
theorem Told.ext {r : List RunT} (o : Told K H0 G Gx H v r) (x : Ext G H G1 H1) : ∃ L xs, v = .ref L ∧ H1 L = some (.lst xs) ∧ G1 L = none ∧ H0 L = none ∧ Paired (fun x (a : RunT) => ∃ t p q vs ws, x = .ref t ∧ H1 t = some (.tup [.ref p, .ref q]) ∧ (G1 p = none ∧ H0 p = none ∧ p ≠ L ∧ H1 p = some (.lst vs) ∧ vs.length = a.1.length) ∧ (G1 q = none ∧ H0 q = none ∧ q ≠ L ∧ H1 q = some (.lst ws) ∧ ws.length = a.2.length)) xs r := by
  obtain ⟨L, xs, e, hL, gL, h0, p⟩ := o.cells
  have nn : ∀ {a : Addr} {o : HO}, H a = some o → H a ≠ none := fun h z => by rw [h] at z; cases z
  refine ⟨L, xs, e, x.hh _ _ hL, x.no L gL (nn hL), h0, Paired.imp' (fun y a ⟨t, p, q, vs, ws, e, ht, ⟨p1, p2, p3, p4, p5⟩, ⟨q1, q2, q3, q4, q5⟩⟩ => ?_) p⟩
  exact ⟨t, p, q, vs, ws, e, x.hh _ _ ht, ⟨x.no p p1 (nn p4), p2, p3, x.hh _ _ p4, p5⟩, ⟨x.no q q1 (nn q4), q2, q3, x.hh _ _ q4, q5⟩⟩
def spoilO (r : List RunT) : Option Unit := if (∀ a ∈ r, a.1.length ≤ 100000 ∧ a.2.length ≤ 100000) ∧ r.length ≤ 1000 then some () else none
abbrev tSpoil (j : Nat) (x y : Str) : TS := tSeq (tDrop (tBM K "list" rAppend (tOp (rAt K) (tVar j) (tC (.int 0))) (tCons (tC (.str x)) tNil))) (tSeq (tDrop (tBM K "list" rInsert0 (tOp (rAt K) (tVar j) (tC (.int 1))) (tCons (tC (.int 0)) (tCons (tC (.str y)) tNil)))) tNext)
/-- the def that tells three new runs in a list -/
def spT (K : PySem.W.Frag) {A : Type} [RpA A] (m : A → Option (List RunT)) : Sp := fun vs H Q _ =>
  ∃ G a r, Same G H ∧ RpA.rel K G vs a ∧ m a = some r ∧ ∀ v G2 Gx H2, Ext G H G2 H2 → Ext G H Gx H2 → Told K H G2 Gx H2 v r → Q v H2
def XV (K : PySem.W.Frag) (te : TE) (σ : St) (G : Hp) (m : Option (List RunT)) : Prop :=
  ∀ G1, Same G G1 → ∀ a, m = some a → ∀ H, Same G1 H → ∀ Q : VK, (∀ v G2 Gx H2, Ext G1 H G2 H2 → Ext G1 H Gx H2 → Told K H G2 Gx H2 v a → Q v H2) → te σ H Q
theorem Told.old {r : List RunT} {Ha Hb : Hp} (o : Told K Hb G Gx H v r) (s : Same Ha Hb) : Told K Ha G Gx H v r := by
  obtain ⟨L, xs, e, hL, gL, h0, p⟩ := o.cells
  exact ⟨o.up, o.sm, o.rel, L, xs, e, hL, gL, s.free h0, Paired.imp' (fun y a ⟨t, p, q, vs, ws, e, ht, ⟨p1, p2, p3, p4, p5⟩, ⟨q1, q2, q3, q4, q5⟩⟩ => ⟨t, p, q, vs, ws, e, ht, ⟨p1, s.free p2, p3, p4, p5⟩, ⟨q1, s.free q2, q3, q4, q5⟩⟩) p⟩
theorem XV.ev {m : Option (List RunT)} (e : XV K te σ G m) : EV K te σ G m := by
  intro G1 s1 a ha H sH Q k
  exact e G1 s1 a ha H sH Q fun v G2 Gx H2 x xg o => k v Gx H2 xg o.rel
end
end L2

set_option Elab.async false
set_option linter.all false
set_option maxRecDepth 100000
set_option maxHeartbeats 4000000
namespace L2
open PySem PySem.Spec PyProof.Rows
def popO {α : Type} : List α → Option (α × List α)
  | [] => none
  | [a] => some (a, [])
  | a :: b :: r => (popO (b :: r)).bind fun p => some (p.1, a :: p.2)
theorem Paired.last {α β : Type} {R : α → β → Prop} : ∀ {vs : List α} {as : List β} {a : β} {as' : List β}, Paired R vs as → popO as = some (a, as') → ∃ w, vs[vs.length - 1]? = some w ∧ R w a ∧ Paired R vs.dropLast as'
  | _, _, _, _, .nil, hp => by cases hp
  | _, _, _, _, .cons h .nil, hp => by
    cases hp
    exact ⟨_, rfl, h, .nil⟩
  | _, _, _, _, .cons h (.cons h2 t), hp => by
    obtain ⟨q, hq, e⟩ := Option.bind_eq_some_iff.mp hp
    cases e
    obtain ⟨w, hw, r, pr⟩ := Paired.last (.cons h2 t) hq
    exact ⟨w, by simpa using hw, r, .cons h pr⟩
section
variable {X : Cx} {K : PySem.W.Frag} {o : Expr} {to : TE} {name : Str} {apos cpos : Pos} {T id : String} {r : V → List V → Hp → VK → Prop}
end
section
variable {K : PySem.W.Frag} {σ : St} {G H G1 H1 G0 H0 : Hp} {α β : Type} [Rp α] [Rp β] {te ti : TE} {tt : TT} {t u rest : TS} {D : Ends} {i j : Nat} {a : α} {m : Option α} {as : List α} {v : V} {p q : Addr} {vs : List V}
/-- the heap but for the cells in C -/
def era (H : Hp) (C : List Addr) : Hp := fun a => if a ∈ C then none else H a
theorem era_in {C : List Addr} {b : Addr} (h : b ∈ C) : era H C b = none := if_pos h
theorem era_out {C : List Addr} {b : Addr} (h : b ∉ C) : era H C b = H b := if_neg h
def spW1 (K : PySem.W.Frag) {A : Type} [RpA A] {α : Type} [Rp α] (m : List α → A → Option (List α)) : Sp := fun vs H Q _ =>
  ∃ G p xs us as a r, vs = .ref p :: us ∧ Same G H ∧ Own K G H (.ref p) p xs as ∧ RpA.rel K G us a ∧ m as a = some r ∧
    ∀ G2 H2 xs', Ext G (era H [p]) G2 H2 → Own K G2 H2 (.ref p) p xs' r → Q .non H2
def spW2 (K : PySem.W.Frag) {A : Type} [RpA A] {α β : Type} [Rp α] [Rp β] (m : List α → List β → A → Option (List α × List β)) : Sp := fun vs H Q _ =>
  ∃ G p q xs ys us as bs a r, vs = .ref p :: .ref q :: us ∧ Same G H ∧ p ≠ q ∧ Own K G H (.ref p) p xs as ∧ Own K G H (.ref q) q ys bs ∧ RpA.rel K G us a ∧ m as bs a = some r ∧
    ∀ G2 H2 xs' ys', Ext G (era H [p, q]) G2 H2 → Own K G2 H2 (.ref p) p xs' r.1 → Own K G2 H2 (.ref q) q ys' r.2 → Q .non H2
end
end L2

set_option Elab.async false
set_option linter.all false
set_option maxRecDepth 100000
set_option maxHeartbeats 4000000
namespace L2
open PySem PySem.Spec PyProof.Rows
inductive Nt where
  | txt (x : Str)
  | tup (l : List Nt)
mutual
def Nt.dec : (a b : Nt) → Decidable (a = b)
  | .txt x, .txt y => if h : x = y then .isTrue (by rw [h]) else .isFalse fun e => h (by cases e; rfl)
  | .txt _, .tup _ => .isFalse fun e => by cases e
  | .tup _, .txt _ => .isFalse fun e => by cases e
  | .tup l, .tup m => match Nt.decs l m with
    | .isTrue h => .isTrue (by rw [h])
    | .isFalse h => .isFalse fun e => h (by cases e; rfl)
def Nt.decs : (l m : List Nt) → Decidable (l = m)
  | [], [] => .isTrue rfl
  | [], _ :: _ => .isFalse fun e => by cases e
  | _ :: _, [] => .isFalse fun e => by cases e
  | a :: l, b :: m => match Nt.dec a b with
    | .isFalse h => .isFalse fun e => h (by cases e; rfl)
    | .isTrue h => match Nt.decs l m with
      | .isTrue h2 => .isTrue (by rw [h, h2])
      | .isFalse h2 => .isFalse fun e => h2 (by cases e; rfl)
end
instance ntDec : DecidableEq Nt := Nt.dec
mutual
def Nt.dep : Nt → Nat
  | .txt _ => 0
  | .tup l => Nt.deps l + 1
def Nt.deps : List Nt → Nat
  | [] => 0
  | a :: l => max (Nt.dep a) (Nt.deps l)
end
mutual
inductive RelN (K : PySem.W.Frag) (H : Hp) : V → Nt → Prop where
  | txt (x : Str) (z : x.length ≤ sizeLine) : RelN K H (.str x) (.txt x)
  | tup {a : Addr} {xs : List V} {ds : List Nt} (h : SqT K H a xs) (z : xs.length ≤ sizeLine) (r : RelNs K H xs ds) : RelN K H (.ref a) (.tup ds)
inductive RelNs (K : PySem.W.Frag) (H : Hp) : List V → List Nt → Prop where
  | nil : RelNs K H [] []
  | cons {x : V} {d : Nt} {xs : List V} {ds : List Nt} (h : RelN K H x d) (t : RelNs K H xs ds) : RelNs K H (x :: xs) (d :: ds)
end
mutual
theorem RelN.mono {K : PySem.W.Frag} {H H' : Hp} (s : Same H H') : ∀ {v : V} {d : Nt}, RelN K H v d → RelN K H' v d
  | _, _, .txt x z => .txt x z
  | _, _, .tup h z r => .tup (s.tup h) z (RelNs.mono s r)
theorem RelNs.mono {K : PySem.W.Frag} {H H' : Hp} (s : Same H H') : ∀ {v : List V} {d : List Nt}, RelNs K H v d → RelNs K H' v d
  | _, _, .nil => .nil
  | _, _, .cons h t => .cons (RelN.mono s h) (RelNs.mono s t)
end
instance rpN : Rp Nt := ⟨RelN, fun s h => RelN.mono s h⟩
/-- kept where the tuples stay -/
theorem SqT.keep {K : PySem.W.Frag} {H H' : Hp} {a : Addr} {xs : List V} (s : ∀ b ys, Rd H b (.tup ys) → Rd H' b (.tup ys)) (h : SqT K H a xs) : SqT K H' a xs := by
  rcases h with h | h
  · exact .inl (s _ _ h)
  · exact .inr h
mutual
theorem RelN.keep {K : PySem.W.Frag} {H H' : Hp} (s : ∀ b ys, Rd H b (.tup ys) → Rd H' b (.tup ys)) : ∀ {v : V} {d : Nt}, RelN K H v d → RelN K H' v d
  | _, _, .txt x z => .txt x z
  | _, _, .tup h z r => .tup (SqT.keep s h) z (RelNs.keep s r)
theorem RelNs.keep {K : PySem.W.Frag} {H H' : Hp} (s : ∀ b ys, Rd H b (.tup ys) → Rd H' b (.tup ys)) : ∀ {v : List V} {d : List Nt}, RelNs K H v d → RelNs K H' v d
  | _, _, .nil => .nil
  | _, _, .cons h t => .cons (RelN.keep s h) (RelNs.keep s t)
end
instance imN : Imm Nt := ⟨fun s h => RelN.keep s h⟩
def isTxt : Hp → V → Nt → Prop := fun _ v a => ∃ x, v = .str x ∧ a = .txt x
def isU (K : PySem.W.Frag) (R : Hp → V → Nt → Prop) : Hp → V → Nt → Prop := fun H v a => isTxt H v a ∨ ∃ t xs l, v = .ref t ∧ SqT K H t xs ∧ a = .tup l ∧ Paired (R H) xs l
def isN (K : PySem.W.Frag) (d : Nat) : Hp → V → Nt → Prop := fun H v a => RelN K H v a ∧ a.dep ≤ d
def rEqN (K : PySem.W.Frag) : R2 := fun x y H Q => ∃ a b : Nt, isN K 180 H x a ∧ isN K 180 H y b ∧ Q (.bl (decide (a = b))) H
def rNeN (K : PySem.W.Frag) : R2 := fun x y H Q => ∃ a b : Nt, isN K 180 H x a ∧ isN K 180 H y b ∧ Q (.bl (!decide (a = b))) H
def eqNO (a b : Nt) : Option Bool := if a.dep ≤ 180 ∧ b.dep ≤ 180 then some (decide (a = b)) else none
def neNO (a b : Nt) : Option Bool := if a.dep ≤ 180 ∧ b.dep ≤ 180 then some (!decide (a = b)) else none
section
variable {K : PySem.W.Frag} {σ : St} {G : Hp} {ta tb te : TE} {m1 m2 md : Option Nt}
def asTxt : Nt → Option Str
  | .txt x => some x
  | .tup _ => none
def asTup : Nt → Option (Tp Nt)
  | .txt _ => none
  | .tup l => some ⟨l⟩
end
end L2

set_option Elab.async false
set_option linter.all false
set_option maxRecDepth 100000
set_option maxHeartbeats 4000000
namespace L2
open PySem PySem.Spec PyProof.Rows
section
variable {X : Cx} {K : PySem.W.Frag}
theorem op_notInK (h : X.K = K) : OpR X (compareOp .NotIn) (rIn K true) := h ▸ op_notIn_seq
end
section
variable {K : PySem.W.Frag} {σ : St} {G : Hp} {α : Type} [Rp α] {ta tb tc te : TE} {t1 t2 : TO} {ia ib ic : Option Int} {m1 m2 : Option (Option Int)}
def cutT? {α : Type} (l : List α) (lo hi : Option Int) : Option (Tp α) := if ¬ (HT.sIx l.length 0 lo = 0 ∧ HT.sIx l.length l.length hi = l.length) then some ⟨cutA l lo hi⟩ else none
class Flat (α : Type) [Rp α] [DecidableEq α] : Prop where
  fl : ∀ {K : PySem.W.Frag} {H : Hp} {v : V} {a : α}, Rp.rel K H v a → flatV v = true
  eq : ∀ {K : PySem.W.Frag} {H H' : Hp} {v u : V} {a b : α}, Rp.rel K H v a → Rp.rel K H' u b → eqV v u = decide (a = b)
instance flInt : Flat Int := ⟨fun h => by cases h; rfl, fun h h' => by cases h; cases h'; exact dec_beq _ _⟩
instance flStr : Flat Str := ⟨fun h => by obtain ⟨rfl, _⟩ := h; rfl, fun h h' => by obtain ⟨rfl, _⟩ := h; obtain ⟨rfl, _⟩ := h'; exact dec_beq _ _⟩
instance flBool : Flat Bool := ⟨fun h => by cases h; rfl, fun h h' => by cases h; cases h'; exact dec_beq _ _⟩
theorem flat_all [DecidableEq α] [Flat α] {H : Hp} : ∀ {xs : List V} {as : List α}, Paired (Rp.rel K H) xs as → xs.all flatV = true
  | _, _, .nil => rfl
  | _, _, .cons h t => by rw [List.all_cons, Flat.fl h, flat_all t]; rfl
theorem flat_in [DecidableEq α] [Flat α] {H H' : Hp} {v : V} {a : α} (hv : Rp.rel K H' v a) : ∀ {xs : List V} {as : List α}, Paired (Rp.rel K H) xs as → inV v xs = decide (a ∈ as)
  | _, _, .nil => by simp [inV]
  | _, _, .cons (b := b) h t => by
    have ih := flat_in hv t
    unfold inV at ih ⊢
    rw [List.any_cons, ih, Flat.eq h hv]
    apply Bool.eq_iff_iff.mpr
    simp only [Bool.or_eq_true, decide_eq_true_iff, List.mem_cons]
    exact ⟨fun h => h.imp Eq.symm id, fun h => h.imp Eq.symm id⟩
theorem ev_notInL [DecidableEq α] [Flat α] {ma : Option α} {ml : Option (List α)} (ea : EV K ta σ G ma) (eb : EV K tb σ G ml) : EV K (tOp (rIn K true) ta tb) σ G (ma.bind fun a => ml.bind fun l => some (!decide (a ∈ l))) :=
  ev_bin (fun s ra rb e Q k => by
    cases e
    obtain ⟨l, xs, rfl, h, z, p⟩ := rb
    exact ⟨l, xs, rfl, .inl (.inl (s.rd h)), Flat.fl ra, flat_all p, by rw [if_pos rfl, flat_in ra p]; exact k _ _ _ (.refl s) rfl⟩) ea eb
end
mutual
def Nt.toD : Nt → D
  | .txt x => .str x
  | .tup l => .tup (Nt.toDs l)
def Nt.toDs : List Nt → List D
  | [] => []
  | a :: l => Nt.toD a :: Nt.toDs l
end
mutual
theorem RelN.toD {K : PySem.W.Frag} {H : Hp} : ∀ {v : V} {a : Nt}, RelN K H v a → RelD K H v a.toD
  | _, _, .txt x z => by unfold Nt.toD; exact .str x z
  | _, _, .tup h z r => by unfold Nt.toD; exact .tup h z (RelNs.toD r)
theorem RelNs.toD {K : PySem.W.Frag} {H : Hp} : ∀ {xs : List V} {l : List Nt}, RelNs K H xs l → RelDs K H xs (Nt.toDs l)
  | _, _, .nil => by unfold Nt.toDs; exact .nil
  | _, _, .cons h t => by unfold Nt.toDs; exact .cons (RelN.toD h) (RelNs.toD t)
end
instance tdN : ToD Nt := ⟨Nt.toD, fun h => RelN.toD h⟩
end L2

set_option Elab.async false
set_option linter.all false
set_option maxRecDepth 100000
set_option maxHeartbeats 4000000
namespace L2
open PySem PySem.Spec PyProof.Rows
section
variable {K : PySem.W.Frag} {σ : St} {G H G1 H1 G0 H0 : Hp} {α β γ : Type} [Rp α] [Rp β] [Rp γ] {te ti : TE} {tt : TT} {t u rest : TS} {D : Ends} {i j : Nat} {as : List α} {bs : List β} {v w : V} {p q : Addr} {vs ws : List V}
end
end L2

set_option Elab.async false
set_option linter.all false
set_option maxRecDepth 100000
set_option maxHeartbeats 4000000
namespace L2
open PySem PySem.Spec PyProof.Rows
section
variable {K : PySem.W.Frag} {σ : St} {G H G1 H1 G2 H2 G0 H0 : Hp} {α β γ δ : Type} [Rp α] [Rp β] [Rp γ] [Rp δ] {te ta tb ti : TE} {t : TA} {tt : TT} {rest : TS} {D : Ends} {i j n : Nat} {as as' : List α} {v w : V} {p q : Addr} {vs ws : List V}
theorem Ext.era (x : Ext G H G2 H2) (g : G2 p = none) : Ext G (era H [p]) G2 (L2.era H2 [p]) := by
  refine ⟨x.gg, fun b o e => ?_, fun b o e => ?_, fun b h1 h2 => x.no b h1 fun z => h2 ?_⟩
  · have hb : b ≠ p := fun z => by
      rw [z, g] at e
      cases e
    rw [era_out (by simpa using hb)]
    exact x.gh b o e
  · by_cases hb : b = p
    · rw [era_in (by simpa using hb)] at e
      cases e
    · rw [era_out (by simpa using hb)] at e ⊢
      exact x.hh b o e
  · by_cases hb : b = p
    · exact era_in (by simpa using hb)
    · rw [era_out (by simpa using hb)]
      exact z
/-- the own list is there -/
def BV (K : PySem.W.Frag) (te : TE) (σ : St) (G : Hp) (v : V) (p : Addr) (vs : List V) (as : List α) (m : Option γ) : Prop :=
  ∀ G1, Same G G1 → ∀ c, m = some c → ∀ H, Same G1 H → Own K G1 H v p vs as → ∀ Q : VK, (∀ w G2 H2, Ext G1 H G2 H2 → Rp.rel K G2 w c → Q w H2) → te σ H Q
/-- it is shorter by one behind it -/
def PV (K : PySem.W.Frag) (te : TE) (σ : St) (G : Hp) (v : V) (p : Addr) (vs : List V) (as as' : List α) (m : Option γ) : Prop :=
  ∀ G1, Same G G1 → ∀ c, m = some c → ∀ H, Same G1 H → Own K G1 H v p vs as → ∀ Q : VK, (∀ w G2 H2, Ext G1 (era H [p]) G2 H2 → Own K G2 H2 v p vs.dropLast as' → Rp.rel K G2 w c → Q w H2) → te σ H Q
def PL (K : PySem.W.Frag) (t : TA) (σ : St) (G : Hp) (v : V) (p : Addr) (vs : List V) (as as' : List α) (n : Nat) (m : Option (List γ)) : Prop :=
  ∀ G1, Same G G1 → ∀ c, m = some c → ∀ H, Same G1 H → Own K G1 H v p vs as → ∀ Q : List V → Hp → Prop, (∀ ws G2 H2, Ext G1 (era H [p]) G2 H2 → Own K G2 H2 v p vs.dropLast as' → ws.length = n → Paired (Rp.rel K G2) ws c → Q ws H2) → t σ H Q
def cutX (x : Scr) (lo hi : Option Int) : Option (List Int) := if x.l.length ≤ sizeLine then some (cutA x.l lo hi) else none
end
end L2

set_option Elab.async false
set_option linter.all false
set_option maxRecDepth 100000
set_option maxHeartbeats 4000000
namespace L2
open PySem PySem.Spec PyProof.Rows
section
variable {K : PySem.W.Frag} {σ : St} {G : Hp} {ta : TE}
end
end L2

set_option Elab.async false
set_option linter.all false
set_option maxRecDepth 100000
set_option maxHeartbeats 4000000
namespace L2
open PySem PySem.Spec PyProof.Rows
def Itn (K : PySem.W.Frag) (a : Addr) : It :=
  ⟨fun i H => ∃ xs x, SqL K H a xs ∧ xs[i]? = some x, fun i H x H' => ∃ t v, x = .ref t ∧ H t = none ∧ H' = upd H t (.tup [.int i, v]) ∧ ∀ xs, SqL K H a xs → xs[i]? = some v, fun i H => ∃ xs, SqL K H a xs ∧ xs.length ≤ i⟩
def iEnum (K : PySem.W.Frag) (ta : TA) : TI := fun σ H R => ta σ H fun vs H1 => ∃ a, vs = [.ref a] ∧ (∃ xs, SqL K H1 a xs) ∧ R (Itn K a) H1
def enumI {α : Type} : Nat → List α → List (Int × α)
  | _, [] => []
  | n, a :: l => ((n : Int), a) :: enumI (n + 1) l
section
variable {K : PySem.W.Frag} {σ : St} {G H : Hp} {α β γ : Type} [Rp α] [Rp β] [Rp γ] {ta tb te : TE} {rest : TS} {D : Ends} {i j : Nat}
/-- a list to be walked by enumerate -/
def IE (K : PySem.W.Frag) {α : Type} [Rp α] (wi : TI) (σ : St) (G : Hp) (m : Option (List α)) : Prop :=
  ∀ G1, Same G G1 → ∀ a, m = some a → ∀ H, Same G1 H → ∀ R : It → Hp → Prop, (∀ l vs G2 H2, Ext G1 H G2 H2 → Rd G2 l (.lst vs) → Paired (Rp.rel K G2) vs a → R (Itn K l) H2) → wi σ H R
structure LoopObE (K : PySem.W.Frag) {α S ρ : Type} [Rp α] (RR : ρ → V → Hp → Hp → Prop) (f : Int × α → S → Option (Fl S ρ)) (g : TG) (tb : TS) (D : Ends) (σ : St) (G2 H2 : Hp) (s0 : S) (res : Fl S ρ) (RS : S → St → Hp → Hp → Prop) : Prop where
  start : RS s0 σ G2 H2
  keep : ∀ s σ' G' H', RS s σ' G' H' → Same G2 G' ∧ Same G' H'
  step : ∀ (x : V) (t : Addr) (a : Int × α) (s : S) (σ1 : St) (G1 H1 : Hp) (fl : Fl S ρ), RS s σ1 G1 H1 → H1 t = none → Rp.rel K G1 x a.2 → f a s = some fl → ∀ D' : Ends, (∀ s' σ' G' H', fl = .nx s' → RS s' σ' G' H' → D'.nx σ' H') → (∀ s' σ' G' H', fl = .nx s' → RS s' σ' G' H' → D'.ct σ' H') →
    (∀ s' σ' G' H', fl = .bk s' → RS s' σ' G' H' → D'.bk σ' H') → (∀ r v G' H', fl = .rt r → RR r v G' H' → D'.rt v H') → g (.ref t) σ1 (upd H1 t (.tup [.int a.1, x])) fun σ2 H2 => tb D' σ2 H2
  nxt : ∀ s σ' G' H', res = .nx s → RS s σ' G' H' → D.nx σ' H'
  rtn : ∀ r v G' H', res = .rt r → RR r v G' H' → D.rt v H'
def shrO (a b : Int) : Option Int := if 0 ≤ b then some (a / 2 ^ b.toNat) else none
theorem bt_any : bootBuiltins "any" = some (.builtin "any") := by decide +kernel
def rAnyB (K : PySem.W.Frag) : List V → Hp → VK → Prop := fun vs H Q => ∃ (l : Addr) (bs : List Bool), vs = [.ref l] ∧ SqL K H l (bs.map V.bl) ∧ Q (.bl (bs.any id)) H
theorem bools_atF {bs : List Bool} {its : List Value} (r : Vals (bs.map V.bl) its) {i : Nat} {v : Value} (h : its.toArray[i]? = some v) : v = .bool (bs.getD i false) := by
  have h : its[i]? = some v := by simpa using h
  have hl := r.length
  rw [List.length_map] at hl
  obtain ⟨hi, _⟩ := List.getElem?_eq_some_iff.mp h
  have e : (bs.map V.bl)[i]? = some (V.bl (bs.getD i false)) := by
    have : i < bs.length := by omega
    simp [this]
  obtain ⟨u, hu, ru⟩ := r.get e
  rw [h] at hu
  cases hu
  exact ru
theorem call_anyK {X : Cx} (hc : X.calm = true) (h : X.K = K) : CallR X (.builtin "any") (rAnyB K) := by
  subst h
  intro pins s σ H vs us Q I r h
  obtain ⟨l, bs, rfl, hl, q⟩ := h
  obtain ⟨u, rfl, ru⟩ := vals1 r
  cases ru
  obtain ⟨its, rv, pl, _⟩ := I.list hl
  have hL := pl.isList
  have hlt : l < s.heap.objs.size := by obtain ⟨_, e, _⟩ := hL; exact Heap.lt_size e
  have hlen := rv.length
  rw [List.length_map] at hlen
  refine call_any_walk (wpAny_pyIter_list hL ?_)
  refine ⟨_, _, _, _, _, _, fun i => bs.getD i false, rfl, Walks.list (A := X.A.in1) (I.ok.hd hc) _ l (Nat.ne_of_lt hlt) its.toArray, ⟨⟨_, Heap.get?_push_size _ rfl, rfl, rfl⟩, hL.push _⟩, ?_, fun h' tk hk => ?_⟩
  · intro i v s' Q' E' hP hQ
    rw [bools_atF rv hP]
    exact wpAny_truthy_bool hQ
  · have e : (List.range its.toArray.size).any (fun i => bs.getD i false) = bs.any id := by
      rw [List.size_toArray, ← hlen]
      apply Bool.eq_iff_iff.mpr
      rw [List.any_eq_true, List.any_eq_true]
      constructor
      · rintro ⟨i, hi, hb⟩
        have hi2 := List.mem_range.mp hi
        rw [List.getD_eq_getElem?_getD, List.getElem?_eq_getElem hi2] at hb
        exact ⟨_, List.getElem_mem hi2, hb⟩
      · rintro ⟨b, hb, hq⟩
        obtain ⟨i, hi⟩ := List.mem_iff_getElem?.mp hb
        have hi2 := (List.getElem?_eq_some_iff.mp hi).1
        refine ⟨i, List.mem_range.mpr hi2, ?_⟩
        rw [List.getD_eq_getElem?_getD, hi]
        exact hq
    rw [e]
    refine ⟨.bl _, H, I.kept fun b o eb => ?_, rfl, q⟩
    refine hk b o (fun hm => ?_) (Heap.get?_push_of_some _ eb)
    have : b = s.heap.objs.size := by simpa using hm
    exact absurd (this ▸ Heap.lt_size eb) (Nat.lt_irrefl _)
theorem ev_any {lb : Option (List Bool)} (ea : EV K ta σ G lb) : EV K (tCB (rAnyB K) (tCons ta tNil)) σ G (lb.bind fun bs => some (bs.any id)) := by
  intro G1 s1 c hc H sH Q k
  obtain ⟨a, ha, hc⟩ := Option.bind_eq_some_iff.mp hc
  cases hc
  refine ea G1 s1 a ha H sH _ fun v G2 H2 x2 r2 => ?_
  obtain ⟨l, xs, rfl, h, z, p⟩ := r2
  obtain rfl := paired_bools p
  exact ⟨l, a, rfl, .inl (x2.gh.rd h), k _ _ _ x2 rfl⟩
end
end L2

set_option Elab.async false
set_option linter.all false
set_option maxRecDepth 100000
set_option maxHeartbeats 4000000
namespace L2
open PySem PySem.Spec PyProof.Rows
def isTps (K : PySem.W.Frag) {α : Type} (R : Hp → V → α → Prop) : Hp → V → Tp α → Prop := fun H x a => ∃ t xs, x = .ref t ∧ SqT K H t xs ∧ Paired (R H) xs a.l
theorem tp_dec {α : Type} [DecidableEq α] {as bs : Tp α} {n m : Nat} (hn : n = as.l.length) (hm : m = bs.l.length) : ((List.range (min n m)).all (fun j => decide (as.l[j]? = bs.l[j]?)) && n == m) = decide (as = bs) := by
  obtain ⟨as⟩ := as
  obtain ⟨bs⟩ := bs
  subst hn
  subst hm
  by_cases hl : as.length = bs.length
  · show ((List.range (min as.length bs.length)).all (fun j => decide (as[j]? = bs[j]?)) && as.length == bs.length) = _
    rw [← hl, Nat.min_self, beq_self_eq_true, Bool.and_true, all_dec as bs hl]
    exact decide_eq_decide.mpr ⟨fun e => by rw [e], fun e => by cases e; rfl⟩
  · have h : (as.length == bs.length) = false := by simpa using hl
    have ne : Tp.mk as ≠ Tp.mk bs := fun e => by
      cases e
      exact hl rfl
    show (_ && as.length == bs.length) = _
    rw [h, Bool.and_false, decide_eq_false ne]
theorem eqTp {K : PySem.W.Frag} {k : Nat} {α : Type} [DecidableEq α] {R : Hp → V → α → Prop} (E : EqTy K k R) : EqTy K (k + 1) (isTps K R) := by
  have fn : ∀ {X : Cx} {pins : List (Addr × Obj)} {σ : St} {H : Hp} {s : Shared} {x : V} {a b : Tp α}, X.K = K → Inv X pins σ H s → isTps K R H x a → isTps K R H x b → a = b := by
    intro X pins σ H s x a b hK I ha hb
    obtain ⟨a⟩ := a
    obtain ⟨b⟩ := b
    obtain ⟨l, xs, rfl, h1, p1⟩ := ha
    obtain ⟨l', ys, e, h2, p2⟩ := hb
    cases e
    subst hK
    have := I.tuple_inj h1 h2
    subst this
    exact congrArg Tp.mk (paired_fn (F := R H) (fun _ _ _ p q => E.fn rfl I p q) p1 p2)
  have rc : ∀ {X : Cx} {pins : List (Addr × Obj)} {σ : St} {H : Hp} {s : Shared} {x y : V} {u v : Value} {a b : Tp α} (A : Around), X.K = K → Inv X pins σ H s → A.units + (k + 1) < cLine → RelV x u → RelV y v → isTps K R H x a → isTps K R H y b →
      SeqAt.RcAt A s u v (decide (a = b)) ∧ SeqAt.RcNeAt A s u v (!decide (a = b)) := by
    intro X pins σ H s x y u v a b A hK I hu r1 r2 ha hb
    obtain ⟨l, xs, rfl, h1, p1⟩ := ha
    obtain ⟨l', ys, rfl, h2, p2⟩ := hb
    cases r1; cases r2
    subst hK
    obtain ⟨us, rx, plx, _⟩ := I.tuple h1
    obtain ⟨vs, ry, ply, _⟩ := I.tuple h2
    have lx := rx.length
    have ly := ry.length
    have lpx := Paired.length p1
    have lpy := Paired.length p2
    have it := items_eqAt E rfl I hu rx ry p1 p2
    rw [← tp_dec (as := a) (bs := b) (n := us.toArray.size) (m := vs.toArray.size) (by simp; omega) (by simp; omega)]
    exact ⟨SeqAt.RcAt.tuples plx ply (by omega) it, SeqAt.RcNeAt.tuples plx ply (by omega) it⟩
  refine ⟨fn, ?_, rc⟩
  intro X pins σ H s x y u v a b A hK I hu r1 r2 ha hb
  have h := (rc A hK I hu r1 r2 ha hb).1
  obtain ⟨l, xs, rfl, h1, p1⟩ := id ha
  obtain ⟨l', ys, rfl, h2, p2⟩ := id hb
  cases r1; cases r2
  by_cases e : l = l'
  · subst e
    have : a = b := fn hK I ha hb
    rw [decide_eq_true this]
    exact SeqAt.EqAt.same _
  · exact SeqAt.EqAt.of_refs e h
theorem vals3' {x y z : V} {us : List Value} (h : Vals [x, y, z] us) : ∃ a b c, us = [a, b, c] ∧ RelV x a ∧ RelV y b ∧ RelV z c := by
  cases h with
  | cons r t => cases t with
    | cons r' t' => cases t' with
      | cons r'' t'' => cases t''; exact ⟨_, _, _, rfl, r, r', r''⟩
def isT3 (K : PySem.W.Frag) {α β γ : Type} (R : Hp → V → α → Prop) (S : Hp → V → β → Prop) (T : Hp → V → γ → Prop) : Hp → V → T3 α β γ → Prop := fun H x p => ∃ t a b c, x = .ref t ∧ SqT K H t [a, b, c] ∧ R H a p.a ∧ S H b p.b ∧ T H c p.c
theorem eqT3 {K : PySem.W.Frag} {k : Nat} {α β γ : Type} [DecidableEq α] [DecidableEq β] [DecidableEq γ] {R : Hp → V → α → Prop} {S : Hp → V → β → Prop} {T : Hp → V → γ → Prop} (E : EqTy K k R) (G : EqTy K k S) (F : EqTy K k T) : EqTy K (k + 1) (isT3 K R S T) := by
  have fn : ∀ {X : Cx} {pins : List (Addr × Obj)} {σ : St} {H : Hp} {s : Shared} {x : V} {a b : T3 α β γ}, X.K = K → Inv X pins σ H s → isT3 K R S T H x a → isT3 K R S T H x b → a = b := by
    intro X pins σ H s x a b hK I ha hb
    obtain ⟨l, x1, x2, x3, rfl, h1, p1, p2, p3⟩ := ha
    obtain ⟨l', y1, y2, y3, e, h2, q1, q2, q3⟩ := hb
    cases e
    subst hK
    have := I.tuple_inj h1 h2
    cases this
    obtain ⟨a1, a2, a3⟩ := a
    obtain ⟨b1, b2, b3⟩ := b
    have e1 : a1 = b1 := E.fn rfl I p1 q1
    have e2 : a2 = b2 := G.fn rfl I p2 q2
    have e3 : a3 = b3 := F.fn rfl I p3 q3
    rw [e1, e2, e3]
  have rc : ∀ {X : Cx} {pins : List (Addr × Obj)} {σ : St} {H : Hp} {s : Shared} {x y : V} {u v : Value} {a b : T3 α β γ} (A : Around), X.K = K → Inv X pins σ H s → A.units + (k + 1) < cLine → RelV x u → RelV y v → isT3 K R S T H x a → isT3 K R S T H y b →
      SeqAt.RcAt A s u v (decide (a = b)) ∧ SeqAt.RcNeAt A s u v (!decide (a = b)) := by
    intro X pins σ H s x y u v a b A hK I hu r1 r2 ha hb
    obtain ⟨l, x1, x2, x3, rfl, h1, p1, p2, p3⟩ := ha
    obtain ⟨l', y1, y2, y3, rfl, h2, q1, q2, q3⟩ := hb
    cases r1; cases r2
    subst hK
    obtain ⟨us, rx, plx, _⟩ := I.tuple h1
    obtain ⟨vs, ry, ply, _⟩ := I.tuple h2
    obtain ⟨u1, u2, u3, rfl, ru1, ru2, ru3⟩ := vals3' rx
    obtain ⟨v1, v2, v3, rfl, rv1, rv2, rv3⟩ := vals3' ry
    have e1 := E.eq A.in1 rfl I (show A.units + 1 + k < cLine by omega) ru1 rv1 p1 q1
    have e2 := G.eq A.in1 rfl I (show A.units + 1 + k < cLine by omega) ru2 rv2 p2 q2
    have e3 := F.eq A.in1 rfl I (show A.units + 1 + k < cLine by omega) ru3 rv3 p3 q3
    have it : ∀ j (h1 : j < [u1, u2, u3].toArray.size) (h2 : j < [v1, v2, v3].toArray.size), SeqAt.EqAt A.in1 s [u1, u2, u3].toArray[j] [v1, v2, v3].toArray[j] ((fun j => if j = 0 then decide (a.a = b.a) else if j = 1 then decide (a.b = b.b) else decide (a.c = b.c)) j) := by
      intro j h1 h2
      match j, h1 with
      | 0, _ => exact e1
      | 1, _ => exact e2
      | 2, _ => exact e3
      | j + 3, h => exact absurd h (by simp)
    have ed : ((List.range (min [u1, u2, u3].toArray.size [v1, v2, v3].toArray.size)).all (fun j => if j = 0 then decide (a.a = b.a) else if j = 1 then decide (a.b = b.b) else decide (a.c = b.c)) && [u1, u2, u3].toArray.size == [v1, v2, v3].toArray.size) = decide (a = b) := by
      apply Bool.eq_iff_iff.mpr
      rw [decide_eq_true_iff]
      constructor
      · intro h
        have h : (decide (a.a = b.a) && (decide (a.b = b.b) && (decide (a.c = b.c) && true)) && true) = true := h
        simp only [Bool.and_true, Bool.and_eq_true, decide_eq_true_iff] at h
        obtain ⟨a1, a2, a3⟩ := a
        obtain ⟨b1, b2, b3⟩ := b
        obtain ⟨h1, h2, h3⟩ := h
        dsimp only at h1 h2 h3
        rw [h1, h2, h3]
      · rintro rfl
        show (decide (a.a = a.a) && (decide (a.b = a.b) && (decide (a.c = a.c) && true)) && true) = true
        simp
    rw [← ed]
    exact ⟨SeqAt.RcAt.tuples plx ply (by omega) it, SeqAt.RcNeAt.tuples plx ply (by omega) it⟩
  refine ⟨fn, ?_, rc⟩
  intro X pins σ H s x y u v a b A hK I hu r1 r2 ha hb
  have h := (rc A hK I hu r1 r2 ha hb).1
  obtain ⟨l, x1, x2, x3, rfl, h1, p1, p2, p3⟩ := id ha
  obtain ⟨l', y1, y2, y3, rfl, h2, q1, q2, q3⟩ := id hb
  cases r1; cases r2
  by_cases e : l = l'
  · subst e
    have : a = b := fn hK I ha hb
    rw [decide_eq_true this]
    exact SeqAt.EqAt.same _
  · exact SeqAt.EqAt.of_refs e h
/-- no such thing is None, nor equal to it -/
class NoN (α : Type) [Rp α] : Prop where
  no_non : ∀ {K : PySem.W.Frag} {H : Hp} {x : V} {a : α}, Rp.rel K H x a → x ≠ .non
  ne : ∀ {K : PySem.W.Frag} {X : Cx} {pins : List (Addr × Obj)} {σ : St} {H : Hp} {s : Shared} {x : V} {u : Value} {a : α} (A : Around), X.K = K → Inv X pins σ H s → A.units < cLine → RelV x u → Rp.rel K H x a →
    (SeqAt.EqAt A s .none u false ∧ SeqAt.RcAt A s .none u false ∧ SeqAt.RcNeAt A s .none u true) ∧ SeqAt.EqAt A s u .none false ∧ SeqAt.RcAt A s u .none false ∧ SeqAt.RcNeAt A s u .none true
instance nnInt : NoN Int := ⟨fun h => (by cases h; exact fun z => (nomatch z)), fun A hK I hu r h => by
  cases h
  obtain ⟨t, rfl⟩ := r
  exact ⟨⟨SeqAt.EqAt.none_int _ _, SeqAt.RcAt.none_int _ _, SeqAt.RcNeAt.none_int _ _⟩, SeqAt.EqAt.int_none _ _, SeqAt.RcAt.int_none _ _, SeqAt.RcNeAt.int_none _ _⟩⟩
instance nnPair {α β : Type} [Rp α] [Rp β] : NoN (α × β) := ⟨fun h => (by obtain ⟨_, _, _, rfl, _⟩ := h; exact fun z => (nomatch z)), fun A hK I hu r h => by
  obtain ⟨t, x, y, rfl, h, _⟩ := h
  cases r
  subst hK
  obtain ⟨us, rx, pl, _⟩ := I.tuple h
  exact ⟨⟨SeqAt.EqAt.none_tuple pl hu, SeqAt.RcAt.none_tuple pl hu, SeqAt.RcNeAt.none_tuple pl hu⟩, SeqAt.EqAt.tuple_none pl hu, SeqAt.RcAt.tuple_none pl hu, SeqAt.RcNeAt.tuple_none pl hu⟩⟩
theorem eqOpt {K : PySem.W.Frag} {k : Nat} {α : Type} [Rp α] [DecidableEq α] [NoN α] (E : EqTy K k (Rp.rel (α := α) K)) : EqTy K k (Rp.rel (α := Option α) K) where
  fn := by
    intro X pins σ H s x a b hK I ha hb
    cases a with
    | none =>
      cases b with
      | none => rfl
      | some b =>

        have ha : x = .non := ha
        subst ha
        exact absurd rfl (NoN.no_non (α := α) hb)
    | some a =>
      cases b with
      | none =>
        have hb : x = .non := hb
        subst hb
        exact absurd rfl (NoN.no_non (α := α) ha)
      | some b => exact congrArg some (E.fn hK I ha hb)
  eq := by
    intro X pins σ H s x y u v a b A hK I hu r1 r2 ha hb
    cases a with
    | none =>
      have ha : x = .non := ha
      subst ha
      cases r1
      cases b with
      | none =>
        have hb : y = .non := hb
        subst hb
        cases r2
        exact SeqAt.EqAt.same _
      | some b => exact (NoN.ne (α := α) A hK I (by omega) r2 hb).1.1
    | some a =>
      cases b with
      | none =>
        have hb : y = .non := hb
        subst hb
        cases r2
        exact (NoN.ne (α := α) A hK I (by omega) r1 ha).2.1
      | some b =>
        have := E.eq A hK I hu r1 r2 ha hb
        have e3 : decide (some a = some b) = decide (a = b) := by simp
        rw [e3]
        exact this
  rc := by
    intro X pins σ H s x y u v a b A hK I hu r1 r2 ha hb
    cases a with
    | none =>
      have ha : x = .non := ha
      subst ha
      cases r1
      cases b with
      | none =>
        have hb : y = .non := hb
        subst hb
        cases r2
        exact ⟨SeqAt.RcAt.none_none, SeqAt.RcNeAt.none_none⟩
      | some b => exact (NoN.ne (α := α) A hK I (by omega) r2 hb).1.2
    | some a =>
      cases b with
      | none =>
        have hb : y = .non := hb
        subst hb
        cases r2
        exact (NoN.ne (α := α) A hK I (by omega) r1 ha).2.2
      | some b =>
        have := E.rc A hK I hu r1 r2 ha hb
        have e3 : decide (some a = some b) = decide (a = b) := by simp
        rw [e3]
        exact this
instance reTp {α : Type} [Rp α] [DecidableEq α] [RpE α] : RpE (Tp α) := ⟨RpE.k α + 1, fun K => (eqTp (RpE.ty K)).imp fun _ _ _ ⟨l, xs, e, h, _, p⟩ => ⟨l, xs, e, h, p⟩⟩
instance reT3 {α β γ : Type} [Rp α] [DecidableEq α] [RpE α] [Rp β] [DecidableEq β] [RpE β] [Rp γ] [DecidableEq γ] [RpE γ] : RpE (T3 α β γ) :=
  ⟨max (RpE.k α) (max (RpE.k β) (RpE.k γ)) + 1, fun K => eqT3 ((RpE.ty (α := α) K).up (Nat.le_max_left _ _)) ((RpE.ty (α := β) K).up (Nat.le_trans (Nat.le_max_left _ _) (Nat.le_max_right _ _))) ((RpE.ty (α := γ) K).up (Nat.le_trans (Nat.le_max_right _ _) (Nat.le_max_right _ _)))⟩
instance reOpt {α : Type} [Rp α] [DecidableEq α] [RpE α] [NoN α] : RpE (Option α) := ⟨RpE.k α, fun K => eqOpt (RpE.ty K)⟩
class Fix (α : Type) [Rp α] : Prop where
  fx : ∀ {K : PySem.W.Frag} {G G' : Hp} {v : V} {a : α}, Rp.rel K G v a → Rp.rel K G' v a
instance fxInt : Fix Int := ⟨fun h => h⟩
instance fxBool : Fix Bool := ⟨fun h => h⟩
instance fxStr : Fix Str := ⟨fun h => h⟩
section
variable {K : PySem.W.Frag} {σ : St} {G Gx H G1 H1 G0 H0 : Hp} {α β γ : Type} [Rp α] [Rp β] [Rp γ] {te ta tb tc ti : TE} {tt : TT} {t u rest : TS} {D : Ends} {i j : Nat} {as : List α} {bs : List β} {v w : V} {p q : Addr} {vs ws : List V}
structure Own3 (K : PySem.W.Frag) {α β γ : Type} [Rp α] [Rp β] [Rp γ] (G H : Hp) (v : V) (p : Addr) (vs : List V) (a : T3 α (List β) γ) : Prop where
  t : ∃ t x z, v = .ref t ∧ G t = some (.tup [x, .ref p, z]) ∧ Rp.rel K G x a.a ∧ Rp.rel K G z a.c
  o : Own K G H (.ref p) p vs a.b
variable {a : T3 α (List β) γ}
theorem Own3.ext (o : Own3 K G H v p vs a) (x : Ext G H G1 H1) : Own3 K G1 H1 v p vs a :=
  ⟨let ⟨t, y, z, e, h, r1, r2⟩ := o.t; ⟨t, y, z, e, x.gg _ _ h, Rp.mono x.gg r1, Rp.mono x.gg r2⟩, o.o.ext x⟩
theorem Own3.put {ho : HO} (o : Own3 K G H v p vs a) (h : p ≠ q) : Own3 K G (upd H q ho) v p vs a := ⟨o.t, o.o.put h⟩
theorem Own3.g (o : Own3 K G H v p vs a) : G p = none := o.o.g
theorem Own3.h (o : Own3 K G H v p vs a) : H p = some (.lst vs) := o.o.h
theorem Own3.same (o : Own3 K G H v p vs a) (s : Same G H) : Same (upd G p (.lst vs)) H := o.o.same s
theorem Own3.tell (o : Own3 K G H v p vs a) : Rp.rel K (upd G p (.lst vs)) v a := by
  obtain ⟨t, y, z, rfl, h, r1, r2⟩ := o.t
  exact ⟨t, y, .ref p, z, rfl, SqT.of (Same.new o.o.g _ _ h), Rp.mono (Same.new o.o.g) r1, o.o.tell, Rp.mono (Same.new o.o.g) r2⟩
def NT (K : PySem.W.Frag) {α β γ : Type} [Rp α] [Rp β] [Rp γ] (te : TE) (σ : St) (G : Hp) (m : Option (T3 α (List β) γ)) : Prop :=
  ∀ G1, Same G G1 → ∀ a, m = some a → ∀ H, Same G1 H → ∀ Q : VK, (∀ v p vs G2 H2, Ext G1 H G2 H2 → H p = none → Own3 K G2 H2 v p vs a → Q v H2) → te σ H Q
end
end L2

set_option Elab.async false
set_option linter.all false
set_option maxRecDepth 100000
set_option maxHeartbeats 4000000
namespace L2
open PySem PySem.Spec PyProof.Rows
def Itd (lo : Int) (n : Nat) : It := ⟨fun i _ => i < n, fun i H x H' => H' = H ∧ x = .int (lo - i), fun i _ => n ≤ i⟩
def iRngD (ta : TA) : TI := fun σ H R => ta σ H fun vs H1 => ∃ i j : Int, vs = [.int i, .int j, .int (-1)] ∧ (-(2 ^ 62) ≤ i ∧ i < 2 ^ 62 ∧ -(2 ^ 62) ≤ j ∧ j < 2 ^ 62) ∧ R (Itd i (i - j).toNat) H1
def rngD (lo hi : Int) : Option (List Int) := if (-(2 ^ 62) ≤ lo ∧ lo < 2 ^ 62 ∧ -(2 ^ 62) ≤ hi ∧ hi < 2 ^ 62) ∧ (lo - hi).toNat ≤ sizeLine then some ((List.range (lo - hi).toNat).map fun (i : Nat) => lo - (i : Int)) else none
section
variable {K : PySem.W.Frag} {σ : St} {G : Hp} {ta tb : TE}
end
end L2

set_option Elab.async false
set_option linter.all false
set_option maxRecDepth 100000
set_option maxHeartbeats 4000000
namespace L3
open PySem
section
variable {prog : Program} {w : World} {A : Around} {E : Value → Shared → Prop} {s : Shared}
abbrev Steps (a c : Int) (i : Nat) (v : Value) : Prop := ∃ t, v = .int (a + i * c) t
end
section
variable {prog : Program} {w : World} {A : Around} {E : Value → Shared → Prop} {s : Shared}
end
end L3

set_option Elab.async false
set_option linter.all false
set_option maxRecDepth 100000
set_option maxHeartbeats 4000000
namespace L2
open PySem PySem.Spec PyProof.Rows
def rRng1 : List V → Hp → VK → Prop := fun xs H Q => ∃ j : Int, xs = [.int j] ∧ ∀ p, H p = none → Q (.ref p) (upd H p (.rng 0 j))
def rRng2 : List V → Hp → VK → Prop := fun xs H Q => ∃ i j : Int, xs = [.int i, .int j] ∧ ∀ p, H p = none → Q (.ref p) (upd H p (.rng i j))
def intsV (lo hi : Int) : List V := (List.range (hi - lo).toNat).map fun (i : Nat) => V.int (lo + (i : Int))
def rngB (lo hi : Int) : Prop := (-(2 ^ 62) ≤ lo ∧ lo < 2 ^ 62 ∧ -(2 ^ 62) ≤ hi ∧ hi < 2 ^ 62) ∧ (hi - lo).toNat ≤ sizeLine
def rTupR : List V → Hp → VK → Prop := fun xs H Q => ∃ p lo hi, xs = [.ref p] ∧ H p = some (.rng lo hi) ∧ rngB lo hi ∧ ∀ l, H l = none → Q (.ref l) (upd H l (.tup (intsV lo hi)))
def rLstR : List V → Hp → VK → Prop := fun xs H Q => ∃ p lo hi, xs = [.ref p] ∧ H p = some (.rng lo hi) ∧ rngB lo hi ∧ ∀ l, H l = none → Q (.ref l) (upd H l (.lst (intsV lo hi)))
section
variable {K : PySem.W.Frag} {σ : St} {G : Hp} {ta tb : TE} {ia ib : Option Int}
end
end L2

set_option Elab.async false
set_option linter.all false
set_option maxRecDepth 100000
set_option maxHeartbeats 4000000
namespace L2
open PySem PySem.Spec PyProof.Rows
def inner2 (cap : List Nat) (σ : St) : St := none :: none :: cap.map fun i => (σ[i]?).join
abbrev gTwo (K : PySem.W.Frag) : TG := gTup K 2 (gCons (gName 0) (gCons (gName 1) gNil))
def tComp2 (K : PySem.W.Frag) (cap : List Nat) (wi : TI) (tc : TT) (te : TE) : TE := fun σ H Q => wi σ H fun J H1 => ∀ p, H1 p = none →
  ∃ W : Nat → Nat → List V → Hp → Prop, (∃ m, W 0 m [] (upd H1 p (.lst []))) ∧ ∀ i m xs H2, W i m xs H2 →
    (J.stop i H2 ∧ Q (.ref p) H2) ∨ (J.go i H2 ∧ ∃ N : List V → Hp → Prop, (∀ xs' H', N xs' H' → ∃ m', m' < m ∧ W (i + 1) m' xs' H') ∧
      ∀ x H3, J.yld i H2 x H3 → gTwo K x (inner2 cap σ) H3 fun σ2 H4 => tc σ2 H4 fun b H5 => if b = true then te σ2 H5 fun v H6 => H6 p = some (.lst xs) ∧ xs.length < sizeLine ∧ N (xs ++ [v]) (upd H6 p (.lst (xs ++ [v]))) else N xs H5)
section
variable {X : Cx} {pins : List (Addr × Obj)} {σ : St}
end
end L2

set_option Elab.async false
set_option linter.all false
set_option maxRecDepth 100000
set_option maxHeartbeats 4000000
namespace L2
open PySem PySem.Spec PyProof.Rows
def Itns (x : Str) : It :=
  ⟨fun i _ => i < x.cps.size, fun i H y H' => ∃ t v, y = .ref t ∧ H t = none ∧ H' = upd H t (.tup [.int i, v]) ∧ (signsV x)[i]? = some v, fun i _ => i = x.cps.size⟩
def iEnumS (ta : TA) : TI := fun σ H R => ta σ H fun vs H1 => ∃ x, vs = [.str x] ∧ R (Itns x) H1
structure YieldsE (J : It) (H : Hp) (xs : List V) : Prop where
  go : ∀ i H', Same H H' → i < xs.length → J.go i H'
  stop : ∀ H', Same H H' → J.stop xs.length H'
  yld : ∀ (i : Nat) (H' : Hp) (x : V) (H'' : Hp), Same H H' → i < xs.length → J.yld i H' x H'' → ∃ t v, x = .ref t ∧ H' t = none ∧ H'' = upd H' t (.tup [.int i, v]) ∧ xs[i]? = some v
section
variable {K : PySem.W.Frag} {σ : St} {G : Hp} {α β : Type} [Rp α] [Rp β] {ta : TE}
def IF (K : PySem.W.Frag) {α : Type} [Rp α] (wi : TI) (σ : St) (G : Hp) (m : Option (List α)) : Prop :=
  ∀ G1, Same G G1 → ∀ a, m = some a → ∀ H, Same G1 H → ∀ R : It → Hp → Prop, (∀ J vs G2 H2, Ext G1 H G2 H2 → YieldsE J G2 vs → vs.length ≤ sizeLine → Paired (Rp.rel K G2) vs a → R J H2) → wi σ H R
end
end L2

set_option Elab.async false
set_option linter.all false
set_option maxRecDepth 100000
set_option maxHeartbeats 4000000
namespace L2
open PySem PySem.Spec PyProof.Rows
inductive SI where
  | s (x : Str)
  | i (n : Int)
  deriving DecidableEq
def RelSI (v : V) : SI → Prop
  | .s x => v = .str x ∧ x.length ≤ sizeLine
  | .i n => v = .int n
instance rpSI : Rp SI := ⟨fun _ _ v a => RelSI v a, fun _ h => h⟩
instance imSI : Imm SI := ⟨fun _ h => h⟩
theorem eqSI {K : PySem.W.Frag} : EqTy K 0 (Rp.rel (α := SI) K) where
  fn := fun {X pins σ H s x a b} hK I h1 h2 => by
    cases a with
    | s y => cases b with
      | s z => obtain ⟨rfl, _⟩ := h1; obtain ⟨e, _⟩ := h2; cases e; rfl
      | i n => obtain ⟨rfl, _⟩ := h1; cases h2
    | i m => cases b with
      | s z => obtain ⟨rfl, _⟩ := h2; cases h1
      | i n =>
        have h1 : x = .int m := h1
        have h2 : x = .int n := h2
        subst h1
        cases h2
        rfl
  eq := fun {X pins σ H s x y u v a b} A hK I hu r1 r2 h1 h2 => by
    cases a with
    | s p => cases b with
      | s q =>
        obtain ⟨rfl, _⟩ := h1
        obtain ⟨rfl, _⟩ := h2
        have := eqStr.eq (K := K) (a := p) (b := q) A hK I hu r1 r2 rfl rfl
        rwa [show decide (SI.s p = SI.s q) = decide (p = q) from decide_eq_decide.mpr ⟨fun e => by cases e; rfl, fun e => by rw [e]⟩]
      | i n =>
        obtain ⟨rfl, _⟩ := h1
        have h2 : y = .int n := h2
        subst h2
        obtain ⟨t, rfl⟩ := r1
        obtain ⟨t', rfl⟩ := r2
        rw [decide_eq_false (fun e => by cases e)]
        exact SeqAt.EqAt.str_int _ _ _ _
    | i m => cases b with
      | s q =>
        obtain ⟨rfl, _⟩ := h2
        have h1 : x = .int m := h1
        subst h1
        obtain ⟨t, rfl⟩ := r1
        obtain ⟨t', rfl⟩ := r2
        rw [decide_eq_false (fun e => by cases e)]
        exact SeqAt.EqAt.int_str _ _ _ _
      | i n =>
        have := eqInt.eq (K := K) (a := m) (b := n) A hK I hu r1 r2 h1 h2
        rwa [show decide (SI.i m = SI.i n) = decide (m = n) from decide_eq_decide.mpr ⟨fun e => by cases e; rfl, fun e => by rw [e]⟩]
  rc := fun {X pins σ H s x y u v a b} A hK I hu r1 r2 h1 h2 => by
    cases a with
    | s p => cases b with
      | s q =>
        obtain ⟨rfl, _⟩ := h1
        obtain ⟨rfl, _⟩ := h2
        have := eqStr.rc (K := K) (a := p) (b := q) A hK I hu r1 r2 rfl rfl
        rwa [show decide (SI.s p = SI.s q) = decide (p = q) from decide_eq_decide.mpr ⟨fun e => by cases e; rfl, fun e => by rw [e]⟩]
      | i n =>
        obtain ⟨rfl, _⟩ := h1
        have h2 : y = .int n := h2
        subst h2
        obtain ⟨t, rfl⟩ := r1
        obtain ⟨t', rfl⟩ := r2
        rw [decide_eq_false (fun e => by cases e)]
        exact ⟨SeqAt.RcAt.str_int _ _ _ _, SeqAt.RcNeAt.str_int _ _ _ _⟩
    | i m => cases b with
      | s q =>
        obtain ⟨rfl, _⟩ := h2
        have h1 : x = .int m := h1
        subst h1
        obtain ⟨t, rfl⟩ := r1
        obtain ⟨t', rfl⟩ := r2
        rw [decide_eq_false (fun e => by cases e)]
        exact ⟨SeqAt.RcAt.int_str _ _ _ _, SeqAt.RcNeAt.int_str _ _ _ _⟩
      | i n =>
        have := eqInt.rc (K := K) (a := m) (b := n) A hK I hu r1 r2 h1 h2
        rwa [show decide (SI.i m = SI.i n) = decide (m = n) from decide_eq_decide.mpr ⟨fun e => by cases e; rfl, fun e => by rw [e]⟩]
instance reSI : RpE SI := ⟨0, fun _ => eqSI⟩
def asS : SI → Option Str
  | .s x => some x
  | .i _ => none
def asI : SI → Option Int
  | .s _ => none
  | .i n => some n
section
variable {K : PySem.W.Frag} {σ : St} {G H : Hp} {ta tb te td ti : TE} {α : Type} [Rp α] {md : Option SI} {rest : TS} {D : Ends} {i : Nat}
end
def rInE (K : PySem.W.Frag) (α : Type) [Rp α] [DecidableEq α] (neg : Bool) : R2 := fun x y H Q => ∃ p xs a as, y = .ref p ∧ SqL K H p xs ∧ Rp.rel (α := α) K H x a ∧ Paired (Rp.rel (α := α) K H) xs as ∧ Q (.bl (if neg then !decide (a ∈ as) else decide (a ∈ as))) H
open Classical in
noncomputable def eqW {α : Type} [Rp α] (K : PySem.W.Frag) (H : Hp) (a : α) (u : Value) : Bool := decide (∃ y, RelV y u ∧ Rp.rel K H y a)
theorem eqW_of {α : Type} [Rp α] [DecidableEq α] [RpE α] {X : Cx} {pins : List (Addr × Obj)} {σ : St} {H : Hp} {s : Shared} (I : Inv X pins σ H s) {a b : α} {y : V} {u : Value} (r : RelV y u) (h : Rp.rel X.K H y b) : eqW X.K H a u = decide (b = a) := by
  unfold eqW
  classical
  by_cases e : b = a
  · subst e
    rw [decide_eq_true rfl, decide_eq_true]
    exact ⟨y, r, h⟩
  · rw [decide_eq_false e, decide_eq_false]
    rintro ⟨z, rz, hz⟩
    have := RelV.inj r rz
    subst this
    exact e ((RpE.ty X.K).fn rfl I h hz)
theorem any_eqW {α : Type} [Rp α] [DecidableEq α] [RpE α] {X : Cx} {pins : List (Addr × Obj)} {σ : St} {H : Hp} {s : Shared} (I : Inv X pins σ H s) {a : α} : ∀ {xs : List V} {us : List Value} {as : List α}, Vals xs us → Paired (Rp.rel X.K H) xs as → us.any (eqW X.K H a) = decide (a ∈ as)
  | _, _, _, .nil, .nil => by simp
  | y :: xs, u :: us, b :: as, .cons r t, .cons h p => by
    rw [List.any_cons, eqW_of I r h, any_eqW I t p]
    by_cases e : b = a
    · subst e; simp
    · rw [decide_eq_false e, Bool.false_or]
      exact decide_eq_decide.mpr ⟨fun m => List.mem_cons_of_mem _ m, fun m => by
        rcases List.mem_cons.mp m with rfl | m
        · exact absurd rfl e
        · exact m⟩
theorem mem_eqW {α : Type} [Rp α] [DecidableEq α] [RpE α] {X : Cx} {A : Around} {pins : List (Addr × Obj)} {σ : St} {H : Hp} {s : Shared} (I : Inv X pins σ H s) (hA : A.units + RpE.k α < cLine) {a : α} {x : V} {v : Value} (rx : RelV x v) (hx : Rp.rel X.K H x a) : ∀ {xs : List V} {us : List Value} {as : List α}, Vals xs us → Paired (Rp.rel X.K H) xs as → ∀ u ∈ us, SeqAt.EqAt A s u v (eqW X.K H a u)
  | _, _, _, .nil, .nil => fun u hu => by cases hu
  | y :: xs, u :: us, b :: as, .cons r t, .cons h p => fun u' hu => by
    rcases List.mem_cons.mp hu with rfl | hu
    · rw [eqW_of I r h]
      exact (RpE.ty X.K).eq A rfl I hA r rx h hx
    · exact mem_eqW I hA rx hx t p u' hu
theorem op_inE {X : Cx} {K : PySem.W.Frag} {j : Nat} (hK : X.K = K) (α : Type) [Rp α] [DecidableEq α] [RpE α] (hr : Room j X.A) (hk : RpE.k α ≤ 40) : OpR X (compareOp .In) (rInE K α false) := by
  subst hK
  intro pins s σ H x y v u Q I rx ry h
  obtain ⟨p, xs, a, as, rfl, hq, hx, pr, q⟩ := h
  cases ry
  obtain ⟨its, r, pl, hz⟩ := I.list hq
  refine SeqAt.in_listAt (eqW X.K H a) pl.isList (fun w hw => mem_eqW I (by have := hr.un; rw [Around.in1_units]; omega) rx hx r pr w (by simpa using hw)) ⟨.bl _, H, I, rfl, ?_⟩
  rw [show its.toArray.any (eqW X.K H a) = its.any (eqW X.K H a) by simp, any_eqW I r pr]
  exact q
theorem op_notInE {X : Cx} {K : PySem.W.Frag} {j : Nat} (hK : X.K = K) (α : Type) [Rp α] [DecidableEq α] [RpE α] (hr : Room j X.A) (hk : RpE.k α ≤ 40) : OpR X (compareOp .NotIn) (rInE K α true) := by
  subst hK
  intro pins s σ H x y v u Q I rx ry h
  obtain ⟨p, xs, a, as, rfl, hq, hx, pr, q⟩ := h
  cases ry
  obtain ⟨its, r, pl, hz⟩ := I.list hq
  refine SeqAt.notIn_listAt (eqW X.K H a) pl.isList (fun w hw => mem_eqW I (by have := hr.un; rw [Around.in1_units]; omega) rx hx r pr w (by simpa using hw)) ⟨.bl _, H, I, rfl, ?_⟩
  rw [show its.toArray.any (eqW X.K H a) = its.any (eqW X.K H a) by simp, any_eqW I r pr]
  exact q
section
variable {K : PySem.W.Frag} {σ : St} {G H : Hp} {ta tb te td ti : TE} {α : Type} [Rp α]
theorem ev_inE [DecidableEq α] {ma : Option α} {ml : Option (List α)} (ea : EV K ta σ G ma) (eb : EV K tb σ G ml) : EV K (tOp (rInE K α false) ta tb) σ G (ma.bind fun a => ml.bind fun l => some (decide (a ∈ l))) :=
  ev_bin (fun {G' H' x y a b c} s ra rb e Q k => by
    cases e
    obtain ⟨l, xs, rfl, h, z, p⟩ := rb
    exact ⟨l, xs, a, b, rfl, .inl (s.rd h), Rp.mono s ra, Paired.imp' (fun _ _ r => Rp.mono s r) p, k _ _ _ (.refl s) rfl⟩) ea eb
theorem ev_notInE [DecidableEq α] {ma : Option α} {ml : Option (List α)} (ea : EV K ta σ G ma) (eb : EV K tb σ G ml) : EV K (tOp (rInE K α true) ta tb) σ G (ma.bind fun a => ml.bind fun l => some (!decide (a ∈ l))) :=
  ev_bin (fun {G' H' x y a b c} s ra rb e Q k => by
    cases e
    obtain ⟨l, xs, rfl, h, z, p⟩ := rb
    exact ⟨l, xs, a, b, rfl, .inl (s.rd h), Rp.mono s ra, Paired.imp' (fun _ _ r => Rp.mono s r) p, k _ _ _ (.refl s) rfl⟩) ea eb
end
def sumO (ns : List Int) : Option Int := if ns.length ≤ 1000 ∧ ∀ n ∈ ns, 0 ≤ n ∧ n ≤ 1000000000 then some ns.sum else none
def rSumI (K : PySem.W.Frag) : List V → Hp → VK → Prop := fun vs H Q => ∃ (l : Addr) (ns : List Int) (m : Int), vs = [.ref l] ∧ SqL K H l (ns.map V.int) ∧ sumO ns = some m ∧ Q (.int m) H
theorem paired_intsR {K : PySem.W.Frag} {H : Hp} : ∀ {xs : List V} {ns : List Int}, Paired (Rp.rel K H) xs ns → xs = ns.map V.int
  | _, _, .nil => rfl
  | _, _, .cons h t => by
    cases h
    rw [List.map_cons, paired_intsR t]
section
variable {K : PySem.W.Frag} {σ : St} {G H : Hp} {ta tb te td ti : TE} {α : Type} [Rp α]
end
structure Mp (α : Type) where
  l : List (Int × α)
def getM {α : Type} : List (Int × α) → Int → Option α
  | [], _ => none
  | (j, a) :: r, k => if j = k then some a else getM r k
def putM {α : Type} (l : List (Int × α)) (k : Int) (a : α) : List (Int × α) := if (l.any fun q => decide (q.1 = k)) = true then l.map (fun q => if q.1 = k then (q.1, a) else q) else l ++ [(k, a)]
def putO {α : Type} (m : Mp α) (k : Int) (a : α) : Option (Mp α) := if m.l.length < sizeLine then some ⟨putM m.l k a⟩ else none
def RelE (K : PySem.W.Frag) {α : Type} [Rp α] (H : Hp) (kv : Key × V) (q : Int × α) : Prop := kv.1 = .inl q.1 ∧ Rp.rel K H kv.2 q.2
instance rpMp {α : Type} [Rp α] : Rp (Mp α) := ⟨fun K H v a => ∃ p kvs, v = .ref p ∧ H p = some (.dK kvs) ∧ Paired (RelE K H) kvs a.l,
  fun s ⟨p, kvs, e, h, pr⟩ => ⟨p, kvs, e, s _ _ h, Paired.imp' (fun _ _ r => ⟨r.1, Rp.mono s r.2⟩) pr⟩⟩
structure OwnM (K : PySem.W.Frag) {α : Type} [Rp α] (G H : Hp) (v : V) (p : Addr) (kvs : List (Key × V)) (a : Mp α) : Prop where
  v : v = .ref p
  g : G p = none
  h : H p = some (.dK kvs)
  p : Paired (RelE K G) kvs a.l
section
variable {K : PySem.W.Frag} {σ : St} {G H G1 H1 G0 H0 : Hp} {α β : Type} [Rp α] [Rp β] {td te ti : TE} {rest : TS} {D : Ends} {i : Nat} {a : Mp α} {v : V} {p q : Addr} {kvs : List (Key × V)}
theorem OwnM.ext (o : OwnM K G H v p kvs a) (x : Ext G H G1 H1) : OwnM K G1 H1 v p kvs a :=
  ⟨o.v, x.no p o.g (by rw [o.h]; exact fun z => nomatch z), x.hh _ _ o.h, Paired.imp' (fun _ _ r => ⟨r.1, Rp.mono x.gg r.2⟩) o.p⟩
theorem OwnM.put {ho : HO} (o : OwnM K G H v p kvs a) (h : p ≠ q) : OwnM K G (upd H q ho) v p kvs a := ⟨o.v, o.g, by rw [upd_ne h]; exact o.h, o.p⟩
theorem OwnM.tell (o : OwnM K G H v p kvs a) : Rp.rel K (upd G p (.dK kvs)) v a := ⟨p, kvs, o.v, upd_same, Paired.imp' (fun _ _ r => ⟨r.1, Rp.mono (Same.new o.g) r.2⟩) o.p⟩
end
section
variable {K : PySem.W.Frag} {σ : St} {G H : Hp} {α : Type} [Rp α] {te : TE} {rest : TS} {D : Ends} {i : Nat} {a : α} {m : Option α} {as : List α} {v : V} {p : Addr} {vs : List V}
end
end L2

set_option Elab.async false
set_option linter.all false
set_option maxRecDepth 100000
set_option maxHeartbeats 4000000
namespace L2
open PySem PySem.Spec PyProof.Rows
def pickA {α : Type} (l : List α) (lo hi : Option Int) (st : Int) : List α :=
  (sliceRange (sliceBounds lo hi (some st) l.length).1 (sliceBounds lo hi (some st) l.length).2.1 (sliceBounds lo hi (some st) l.length).2.2).filterMap fun i => l[i]?
def SlR3 (X : Cx) (r : V → Option Int → Option Int → Option Int → Hp → VK → Prop) : Prop :=
  ∀ (pins : List (Addr × Obj)) (s : Shared) (σ : St) (H : Hp) (x : V) (v vl vu vs : Value) (lo hi st : Option Int) (sl : Addr) (Q : VK), Inv X pins σ H s → RelV x v → s.heap.IsSliceOf sl vl vu vs → IsPart vl lo → IsPart vu hi → IsPart vs st → r x lo hi st H Q →
    ∃ T id, typeLookup (.type T) "__getitem__" = pure (some (.builtin id)) ∧ s.TypeIs v T ∧ wpAny (model X.prog X.w) X.A (getItem v (.ref sl)) (EP X pins σ Q) X.xe s
abbrev tSl3 (r : V → Option Int → Option Int → Option Int → Hp → VK → Prop) (te : TE) (tl th ts : TO) : TE := fun σ H Q => te σ H fun x H1 => tl σ H1 fun l H2 => th σ H2 fun u H3 => ts σ H3 fun c H4 => r x l u c H4 Q
def rSl3 (K : PySem.W.Frag) : V → Option Int → Option Int → Option Int → Hp → VK → Prop := fun x lo hi st H Q => ∃ a xs c, x = .ref a ∧ SqL K H a xs ∧ st = some c ∧ c ≠ 0 ∧ ∀ p, H p = none → Q (.ref p) (upd H p (.lst (pickA xs lo hi c)))
section
variable {X : Cx} {e : Expr} {te : TE} {lo hi : Option Expr} {se : Expr} {tl th ts : TO} {pos p2 : Pos}
end
def pickX (x : Scr) (lo hi : Option Int) (c : Int) : Option (List Int) := if x.l.length ≤ sizeLine then some (pickA x.l lo hi c) else none
section
variable {K : PySem.W.Frag} {σ : St} {G H : Hp} {ta t3 : TE} {t1 t2 : TO} {α : Type} [Rp α] {m1 m2 : Option (Option Int)} {c : Int}
end
end L2

set_option Elab.async false
set_option linter.all false
set_option maxRecDepth 100000
set_option maxHeartbeats 4000000
namespace L2
open PySem PySem.Spec PyProof.Rows
def Itz (K : PySem.W.Frag) (a b : Addr) : It :=
  ⟨fun i H => ∃ xs ys x y, SqL K H a xs ∧ SqL K H b ys ∧ xs[i]? = some x ∧ ys[i]? = some y,
   fun i H z H' => ∃ t v w, z = .ref t ∧ H t = none ∧ H' = upd H t (.tup [v, w]) ∧ (∀ xs, SqL K H a xs → xs[i]? = some v) ∧ ∀ ys, SqL K H b ys → ys[i]? = some w,
   fun i H => ∃ xs ys, SqL K H a xs ∧ SqL K H b ys ∧ (xs.length ≤ i ∨ ys.length ≤ i)⟩
def iZip (K : PySem.W.Frag) (ta : TA) : TI := fun σ H R => ta σ H fun vs H1 => ∃ a b, vs = [.ref a, .ref b] ∧ (∃ xs, SqL K H1 a xs) ∧ (∃ ys, SqL K H1 b ys) ∧ R (Itz K a b) H1
structure YieldsZ (J : It) (H : Hp) (xs ys : List V) : Prop where
  go : ∀ i H', Same H H' → i < min xs.length ys.length → J.go i H'
  stop : ∀ H', Same H H' → J.stop (min xs.length ys.length) H'
  yld : ∀ (i : Nat) (H' : Hp) (x : V) (H'' : Hp), Same H H' → i < min xs.length ys.length → J.yld i H' x H'' → ∃ t v w, x = .ref t ∧ H' t = none ∧ H'' = upd H' t (.tup [v, w]) ∧ xs[i]? = some v ∧ ys[i]? = some w
section
variable {K : PySem.W.Frag} {σ : St} {G : Hp} {α β γ : Type} [Rp α] [Rp β] [Rp γ] {ta tb : TE}
def IZ (K : PySem.W.Frag) {α β : Type} [Rp α] [Rp β] (wi : TI) (σ : St) (G : Hp) (m : Option (List (α × β))) : Prop :=
  ∀ G1, Same G G1 → ∀ ps, m = some ps → ∀ H, Same G1 H → ∀ R : It → Hp → Prop, (∀ J vs ws as bs G2 H2, Ext G1 H G2 H2 → YieldsZ J G2 vs ws → vs.length ≤ sizeLine → Paired (Rp.rel K G2) vs as → Paired (Rp.rel K G2) ws bs → ps = as.zip bs → R J H2) → wi σ H R
end
end L2
namespace L2
open PySem PySem.Spec PyProof.Rows
def idxO (xs : List Str) (y : Str) : Option Int := if y ∈ xs ∧ xs.length ≤ 1000 then some ((xs.idxOf y : Nat) : Int) else none
def rIndexS (K : PySem.W.Frag) : V → List V → Hp → VK → Prop := fun x vs H Q => ∃ (l : Addr) (ys : List Str) (y : Str) (k : Int), x = .ref l ∧ vs = [.str y] ∧ SqL K H l (ys.map V.str) ∧ idxO ys y = some k ∧ Q (.int k) H
section
variable {K : PySem.W.Frag} {σ : St} {G H : Hp} {ta tb te : TE} {rest : TS} {D : Ends} {i : Nat} {v : V} {p : Addr} {vs : List V}
theorem paired_strsR {G : Hp} : ∀ {xs : List V} {ys : List Str}, Paired (Rp.rel K G) xs ys → xs = ys.map V.str
  | _, _, .nil => rfl
  | _, _, .cons h t => by
    obtain ⟨rfl, _⟩ := h
    rw [List.map_cons, paired_strsR t]
end
end L2

set_option Elab.async false
set_option linter.all false
set_option maxRecDepth 100000
set_option maxHeartbeats 4000000
namespace L2
open PySem PySem.Spec PyProof.Rows
def leS (a b : Str) : Bool := !decide (b.cps.toList < a.cps.toList)
theorem leS_iff {a b : Str} : leS a b = true ↔ a.cps.toList ≤ b.cps.toList := by
  unfold leS
  rw [Bool.not_eq_true', decide_eq_false_iff_not]
  exact List.not_lt
theorem leS_trans (a b c : Str) (h1 : leS a b = true) (h2 : leS b c = true) : leS a c = true := leS_iff.mpr (List.le_trans (leS_iff.mp h1) (leS_iff.mp h2))
theorem leS_total (a b : Str) : (leS a b || leS b a) = true := by
  rw [Bool.or_eq_true, leS_iff, leS_iff]
  exact List.le_total _ _
theorem leS_anti {a b : Str} (h1 : leS a b = true) (h2 : leS b a = true) : a = b := by
  have := List.le_antisymm (leS_iff.mp h1) (leS_iff.mp h2)
  cases a
  cases b
  congr 1
  exact Array.toList_inj.mp this
def sortS (ys : List Str) : List Str := ys.mergeSort leS
theorem sortS_perm (ys : List Str) : (sortS ys).Perm ys := List.mergeSort_perm ys leS
theorem rising_pw : ∀ (p : Str) (l : List Str), risingS p l = true → (p :: l).Pairwise fun a b => leS a b = true
  | p, [], _ => by simp
  | p, x :: r, h => by
    have h : (!ltCps x.cps.toList p.cps.toList && risingS x r) = true := h
    rw [Bool.and_eq_true, ltCps_eq] at h
    have h1 : leS p x = true := h.1
    have ih := rising_pw x r h.2
    refine List.pairwise_cons.mpr ⟨fun y hy => ?_, ih⟩
    rcases List.mem_cons.mp hy with rfl | hy
    · exact h1
    · exact leS_trans _ _ _ h1 (List.rel_of_pairwise_cons ih hy)
theorem sortS_of {ss ss' : List Str} (hp : ss'.Perm ss) (hs : sortedS ss' = true) : ss' = sortS ss := by
  have pw : ss'.Pairwise fun a b => leS a b = true := by
    cases ss' with
    | nil => exact .nil
    | cons x r => exact rising_pw x r hs
  exact List.Perm.eq_of_pairwise (fun a b _ _ h1 h2 => leS_anti h1 h2) pw (List.pairwise_mergeSort leS_trans leS_total ss) (hp.trans (sortS_perm ss).symm)
def sortO (ys : List Str) : Option (List Str) := if ys.length < 64 then some (sortS ys) else none
theorem vals_strs : ∀ {vs : List Value} {ss : List Str}, StrsAre vs ss → Vals (ss.map V.str) vs
  | _, _, .nil => .nil
  | _, _, .cons x t r => .cons ⟨t, rfl⟩ (vals_strs r)
def rSortS (K : PySem.W.Frag) : List V → Hp → VK → Prop := fun vs H Q => ∃ (l : Addr) (ys : List Str), vs = [.ref l] ∧ SqL K H l (ys.map V.str) ∧ ys.length < 64 ∧ ∀ p, H p = none → Q (.ref p) (upd H p (.lst ((sortS ys).map V.str)))
theorem call_sortedS {X : Cx} {K : PySem.W.Frag} (h : X.K = K) : CallR X (.builtin "sorted") (rSortS K) := by
  subst h
  intro pins s σ H vs us Q I r h
  obtain ⟨l, ys, rfl, hl, h64, q⟩ := h
  obtain ⟨u, rfl, ru⟩ := vals1 r
  cases ru
  obtain ⟨its, rv, pl, _⟩ := I.list hl
  have hlen := rv.length
  rw [List.length_map] at hlen
  refine sorted_strs pl.isList (strsAre_of rv) (by omega) fun out ss' a1 a2 a3 => ?_
  have e := sortS_of a2 a3
  subst e
  obtain ⟨n, he⟩ := sortedAll_at s.heap its out
  refine ⟨.ref (s.heap.objs.size + 1), _, I.laid (a := s.heap.objs.size + 1) (t' := s.toks) (o := .lst ((sortS ys).map V.str)) (fun b ob q => sortedAll_old q) (Nat.le_succ _) ?_, rfl, q _ (I.hok.fresh (Nat.le_succ _))⟩
  refine ⟨?_, out.toList, n, vals_strs a1, he⟩
  rw [List.length_map, (sortS_perm ys).length_eq, sizeLine_eq]
  omega
theorem paired_len {K : PySem.W.Frag} {G : Hp} : ∀ {xs : List V} {ys : List Str}, Paired (Rp.rel K G) xs ys → ∀ y ∈ ys, y.length ≤ sizeLine
  | _, _, .nil => fun y hy => by cases hy
  | _, _, .cons h t => fun y hy => by
    rcases List.mem_cons.mp hy with rfl | hy
    · exact h.2
    · exact paired_len t y hy
section
variable {K : PySem.W.Frag} {σ : St} {G : Hp} {ta : TE}
theorem fv_sortS {la : Option (List Str)} (ea : EV K ta σ G la) : FV K (tCB (rSortS K) (tCons ta tNil)) σ G (la.bind fun ys => sortO ys) := by
  intro G1 s1 c hc H sH Q k
  obtain ⟨a, ha, hc⟩ := Option.bind_eq_some_iff.mp hc
  obtain ⟨h64, rfl⟩ := ite_some hc
  refine ea G1 s1 a ha H sH _ fun v G2 H2 x2 r2 => ?_
  obtain ⟨l, xs, rfl, h, z, p⟩ := r2
  have e := paired_strsR p
  subst e
  refine ⟨l, a, rfl, .inl (x2.gh.rd h), h64, ?_⟩
  refine fv_of x2.gh ?_ ?_ (FV.mono x2 k)
  · rw [List.length_map, (sortS_perm a).length_eq, sizeLine_eq]
    omega
  · have hl : ∀ y ∈ a, y.length ≤ sizeLine := fun y hy => by
      have := paired_len p y hy
      exact this
    have : ∀ zs : List Str, (∀ y ∈ zs, y.length ≤ sizeLine) → Paired (Rp.rel K G2) (zs.map V.str) zs := fun zs => by
      induction zs with
      | nil => intro _; exact .nil
      | cons y zs ih => intro h; exact .cons ⟨rfl, h y List.mem_cons_self⟩ (ih fun w hw => h w (List.mem_cons_of_mem _ hw))
    exact this _ fun y hy => hl y ((sortS_perm a).mem_iff.mp hy)
end
end L2

set_option Elab.async false
set_option linter.all false
set_option maxRecDepth 100000
set_option maxHeartbeats 4000000
namespace L2
open PySem PySem.Spec PyProof.Rows
def rCatTp (K : PySem.W.Frag) : R2 := fun x y H Q => ∃ a b xs ys, x = .ref a ∧ y = .ref b ∧ SqT K H a xs ∧ SqT K H b ys ∧ xs.length + ys.length ≤ sizeLine ∧ (xs = [] → Q (.ref b) H) ∧ (ys = [] → Q (.ref a) H) ∧ ∀ p, H p = none → Q (.ref p) (upd H p (.tup (xs ++ ys)))
def catTO {α : Type} (a b : Tp α) : Option (Tp α) := if a.l.length + b.l.length ≤ sizeLine then some ⟨a.l ++ b.l⟩ else none
section
variable {K : PySem.W.Frag} {σ : St} {G : Hp} {α : Type} [Rp α] {ta tb : TE}
end
end L2

set_option Elab.async false
set_option linter.all false
set_option maxRecDepth 100000
namespace L2
open PySem PySem.Spec PyProof.Rows
structure CompScopeC (X : Cx) (scope : Scope) (x : Str) : Prop where
  one : ∀ n cl, cellsFrom n scope.names cl = (x, n) :: cl
  push : ∀ h, pushCells h scope.names = h.push { cls := .type "cell", data := .cell none }
  cell : ∀ y ∈ scope.names, y.2 = .cell → y.1 = x
  kind : scope.kind = .function
  names : ∀ y ∈ scope.names, y.2 = .local → scope.names.lookup y.1 = some .local
  free : ∀ y ∈ scope.names, y.2 = .free → X.env.scope.names.lookup y.1 = some .cell ∨ X.env.scope.names.lookup y.1 = some .free
theorem CompScopeC.clos {X : Cx} {pins : List (Addr × Obj)} {σ : St} {scope : Scope} {x : Str} {H : Hp} {s : Shared} (S : CompScopeC X scope x) (I : Inv X pins σ H s) : closureFor scope X.env = pure (clOf scope X.env) :=
  closureFor_eq fun y hy hf => I.ok.has y.1 (S.free y hy hf)
def cxCompC (X : Cx) (N : List Str) (scope : Scope) (x : Str) (C : Addr) (s : Shared) (H : Hp) (fp : List Addr) : Cx where
  prog := X.prog
  w := X.w
  K := X.K
  mg := X.mg
  base := X.base
  A := X.A
  N := N
  s₀ := s
  H₀ := H
  env := compEnvC scope ((x, C + 1) :: clOf scope X.env) C X.env
  outer := X.stack
  stack := X.stack
  ex := fp
  fn := fun y => y == x
  calm := true
  pn := []
  xe := fun _ _ => False
section
variable {X : Cx} {pins : List (Addr × Obj)} {σ : St}
end
end L2

set_option Elab.async false
set_option linter.all false
set_option maxRecDepth 100000
set_option maxHeartbeats 4000000
namespace L2
open PySem PySem.Spec PyProof.Rows
def Ris (xs : Array Nat) : Prop := ∀ i j, i < j → (hj : j < xs.size) → xs.getD i 0 < xs.getD j 0
structure RT (t : SetTable) : Prop where
  ris : Ris t.place
  dum : t.dummies = #[]
end L2

set_option Elab.async false
set_option linter.all false
set_option maxRecDepth 100000
set_option maxHeartbeats 4000000
namespace L2
open PySem PySem.Spec PyProof.Rows
def byT (w : World) : Bool := w.params.followText "set-order"
/-- an entry and its key -/
def Ent (w : World) (e : Int × Value) (k : Key) : Prop := keyIs k e.2 = true ∧ e.1 = keyH w k
structure SObj (w : World) (o : Obj) (es : Array (Int × Value)) (ep : Nat) (t : SetTable) (ks : List Key) : Prop where
  exact' : o.ExactSet
  data : o.data = .set es ep t
  ent : Paired (Ent w) es.toList ks
  few : ks.length < scanBound
  fit : t.fits es.size = true
  rt : RT t
  led : t.led = !byT w
def SetIs (w : World) (h : Heap) (a : Addr) (ks : List Key) : Prop := ∃ o es ep t, h.get? a = some o ∧ SObj w o es ep t ks
theorem paired_len2 {α β : Type} {F : α → β → Prop} : ∀ {l₁ : List α} {l₂ : List β}, Paired F l₁ l₂ → l₁.length = l₂.length
  | _, _, .nil => rfl
  | _, _, .cons _ t => congrArg (· + 1) (paired_len2 t)
theorem SObj.size {w : World} {o es ep t ks} (S : SObj w o es ep t ks) : es.size = ks.length := by
  have := paired_len2 S.ent
  rwa [Array.length_toList] at this
def addK (ks : List Key) (k : Key) : List Key := if ks.any (fun y => decide (y = k)) then ks else ks ++ [k]
section
variable {prog : Program} {w : World} {A : Around} {E : Value → Shared → Prop} {s : Shared}
end
end L2

set_option Elab.async false
set_option linter.all false
set_option maxRecDepth 100000
set_option maxHeartbeats 4000000
namespace L2
open PySem PySem.Spec PyProof.Rows
def dedK (ks : List Key) : List Key := ks.foldl addK []
def SetP (w : World) (h : Heap) (a : Addr) (ks : List Key) : Prop := ∃ ks', SetIs w h a ks' ∧ ks'.Perm ks
theorem SetIs.at {w : World} {h h' : Heap} {a : Addr} {ks : List Key} (x : SetIs w h a ks) (k : ∀ o, h.get? a = some o → h'.get? a = some o) : SetIs w h' a ks := by
  obtain ⟨o, es, ep, t, g, S⟩ := x
  exact ⟨o, es, ep, t, k _ g, S⟩
theorem SetP.at {w : World} {h h' : Heap} {a : Addr} {ks : List Key} (x : SetP w h a ks) (k : ∀ o, h.get? a = some o → h'.get? a = some o) : SetP w h' a ks := by
  obtain ⟨ks', g, e⟩ := x
  exact ⟨ks', g.at k, e⟩
theorem SetP.lt {w : World} {h : Heap} {a : Addr} {ks : List Key} (x : SetP w h a ks) : a < h.objs.size := by
  obtain ⟨_, ⟨_, _, _, _, g, _⟩, _⟩ := x
  exact Heap.lt_size g
theorem SetP.type {w : World} {s : Shared} {a : Addr} {ks : List Key} (x : SetP w s.heap a ks) : s.TypeIs (.ref a) "set" := by
  obtain ⟨_, ⟨o, _, _, _, g, S⟩, _⟩ := x
  exact ⟨o, g, S.exact'.1⟩
def freshSet (w : World) : Obj := { cls := .type "set", dict := none, data := .set #[] 0 (.fresh 0 0 (!byT w)) }
section
variable {prog : Program} {w : World} {A : Around} {R : Result → Shared → Prop} {I : Addr} {fp wr : List Addr} {G : Array GenState → Array GenState → Prop} {n : Nat} {P : Nat → Value → Prop} {St : Nat → Shared → Prop}
end
/-- a thing that can be walked, by what its iterator does -/
def Src (prog : Program) (w : World) (x : Value) (h0 : Heap) (n : Nat) (P : Nat → Value → Prop) : Prop :=
  ∀ s₁ : Shared, (∀ b o, h0.get? b = some o → s₁.heap.get? b = some o) → ∃ (oI : Obj) (fp : List Addr) (St : Nat → Heap → Prop), oI.isFreed = false ∧ (∀ b ∈ fp, b = s₁.heap.objs.size ∨ b < h0.objs.size) ∧ St 0 (s₁.heap.push oI) ∧
    (∀ (A' : Around) (Q : Value → Shared → Prop) (E : Value → Shared → Prop), A'.handled = none → Q (.ref s₁.heap.objs.size) { s₁ with heap := s₁.heap.push oI } → wpAny (model prog w) A' (pyIter x) Q E s₁) ∧
    ∀ A' : Around, A'.handled = none → Walks prog w A' s₁.heap.objs.size fp [s₁.heap.objs.size] n P St
section
variable {prog : Program} {w : World} {A : Around} {E : Value → Shared → Prop} {s : Shared}
end
end L2

set_option Elab.async false
set_option linter.all false
set_option maxRecDepth 100000
set_option maxHeartbeats 4000000
namespace L2
open PySem PySem.Spec PyProof.Rows
section
variable {prog : Program} {w : World} {A : Around} {E : Value → Shared → Prop} {s : Shared}
end
end L2

set_option Elab.async false
set_option linter.all false
set_option maxRecDepth 100000
set_option maxHeartbeats 4000000
namespace L2
open PySem PySem.Spec PyProof.Rows
def SIter (h : Heap) (I : Addr) (f : Value) (i : Nat) (a : Addr) (n ep : Nat) : Prop := ∃ o, h.get? I = some o ∧ o.cls = .type "set_iterator" ∧ o.data = .fields #[f, rawInt i, .ref a, rawInt n, rawInt ep]
theorem SIter.type {s : Shared} {I f i a n ep} (x : SIter s.heap I f i a n ep) : s.TypeIs (.ref I) "set_iterator" := by
  obtain ⟨o, g, c, _⟩ := x
  exact ⟨o, g, c⟩
def SAt (w : World) (h : Heap) (a : Addr) (es : Array (Int × Value)) (ep : Nat) (t : SetTable) (ks : List Key) : Prop := ∃ o, h.get? a = some o ∧ SObj w o es ep t ks
section
variable {prog : Program} {w : World} {A : Around} {E : Value → Shared → Prop} {s : Shared}
def TupAt (h : Heap) (T : Addr) (ps : List Nat) : Prop := ∃ o n, h.get? T = some o ∧ o.data = .seq (ps.map fun (p : Nat) => rawInt p).toArray n
end
end L2

set_option Elab.async false
set_option linter.all false
set_option maxRecDepth 100000
set_option maxHeartbeats 4000000
namespace L2
open PySem PySem.Spec PyProof.Rows
theorem SAt.at {w : World} {h h' : Heap} {a : Addr} {es ep t ks} (x : SAt w h a es ep t ks) (k : ∀ o, h.get? a = some o → h'.get? a = some o) : SAt w h' a es ep t ks := by
  obtain ⟨o, g, S⟩ := x
  exact ⟨o, k _ g, S⟩
theorem SIter.at {h h' : Heap} {I f i a n ep} (x : SIter h I f i a n ep) (k : ∀ o, h.get? I = some o → h'.get? I = some o) : SIter h' I f i a n ep := by
  obtain ⟨o, g, r⟩ := x
  exact ⟨o, k _ g, r⟩
theorem TupAt.at {h h' : Heap} {T ps} (x : TupAt h T ps) (k : ∀ o, h.get? T = some o → h'.get? T = some o) : TupAt h' T ps := by
  obtain ⟨o, n, g, r⟩ := x
  exact ⟨o, n, k _ g, r⟩
section
variable {prog : Program} {w : World} {A : Around} {E : Value → Shared → Prop} {s : Shared} {I a T : Addr} {es xs : Array (Int × Value)} {ep : Nat} {t : SetTable} {ks : List Key}
def slP (t : SetTable) : Nat → Nat
  | 0 => 0
  | i + 1 => t.place.getD i 0 + 1
end
end L2

set_option Elab.async false
set_option linter.all false
set_option maxRecDepth 100000
set_option maxHeartbeats 4000000
namespace L2
open PySem PySem.Spec PyProof.Rows
section
variable {prog : Program} {w : World} {A : Around} {E : Value → Shared → Prop} {s : Shared} {a : Addr} {es : Array (Int × Value)} {ep : Nat} {t : SetTable} {ks : List Key}
/-- what a walk of the set has told: values whose keys are the set's, in some order -/
def KeysAre (vs : List Value) (ks : List Key) : Prop := Paired (fun v k => keyIs k v = true) vs ks
end
end L2

set_option Elab.async false
set_option linter.all false
set_option maxRecDepth 100000
set_option maxHeartbeats 4000000
namespace L2
open PySem PySem.Spec PyProof.Rows
def SetO (w : World) (p : Addr) (ks : List Key) : HO := .ext fun h => SetP w h p ks
section
variable {X : Cx} {pins : List (Addr × Obj)} {σ : List (Option V)} {H : Hp} {s s' : Shared}
theorem Inv.same (I : Inv X pins σ H s) (e1 : s'.heap = s.heap) (e2 : s'.gens = s.gens) (e3 : s'.os = s.os) : Inv X pins σ H s' := by
  obtain ⟨h, g, d, t, o⟩ := s
  obtain ⟨h', g', d', t', o'⟩ := s'
  dsimp only at e1 e2 e3
  subst e1; subst e2; subst e3
  exact ⟨I.ok, I.os, I.bare, I.base, I.loc, I.cell, I.free, I.freeC, I.pin, I.hok, I.len⟩
end
def rSetK (w : World) (K : PySem.W.Frag) : List V → Hp → VK → Prop := fun vs H Q => ∃ (l : Addr) (ks : List Key), vs = [.ref l] ∧ SqL K H l (ks.map kV) ∧ ks.length < 4000 ∧ ∀ p, H p = none → Q (.ref p) (upd H p (SetO w p (dedK ks)))
def rSetSg (w : World) : List V → Hp → VK → Prop := fun vs H Q => ∃ x : Str, vs = [.str x] ∧ x.length < 4000 ∧ ∀ p, H p = none → Q (.ref p) (upd H p (SetO w p (dedK ((signsO x).map Sum.inr))))
def leZ (a b : Int) : Bool := decide (a ≤ b)
def sortZ (ys : List Int) : List Int := ys.mergeSort leZ
theorem sortZ_of {ss ss' : List Int} (hp : ss'.Perm ss) (hs : ss'.Pairwise (· ≤ ·)) : ss' = sortZ ss := by
  refine List.Perm.eq_of_pairwise (le := fun a b => leZ a b = true) (fun a b _ _ h1 h2 => Int.le_antisymm (of_decide_eq_true h1) (of_decide_eq_true h2)) (hs.imp fun h => decide_eq_true h) (List.pairwise_mergeSort (le := leZ) (fun a b c h1 h2 => decide_eq_true (Int.le_trans (of_decide_eq_true h1) (of_decide_eq_true h2))) (fun a b => ?_) ss) (hp.trans (List.mergeSort_perm ss leZ).symm)
  unfold leZ
  rcases Int.le_total a b with h | h <;> simp [h]
def rSortPS (w : World) : List V → Hp → VK → Prop := fun vs H Q => ∃ (l : Addr) (ys : List Str), vs = [.ref l] ∧ H l = some (SetO w l (ys.map Sum.inr)) ∧ ys.length < 64 ∧ ∀ p, H p = none → Q (.ref p) (upd H p (.lst ((sortS ys).map V.str)))
def rSortPI (w : World) : List V → Hp → VK → Prop := fun vs H Q => ∃ (l : Addr) (ys : List Int), vs = [.ref l] ∧ H l = some (SetO w l (ys.map Sum.inl)) ∧ ys.length < 64 ∧ ∀ p, H p = none → Q (.ref p) (upd H p (.lst ((sortZ ys).map V.int)))
def addA {α : Type} [DecidableEq α] (ks : List α) (k : α) : List α := if ks.any (fun y => decide (y = k)) then ks else ks ++ [k]
def dedA {α : Type} [DecidableEq α] (ks : List α) : List α := ks.foldl addA []
def sortSetS (ys : List Str) : Option (List Str) := if ys.length < 4000 ∧ (dedA ys).length < 64 then some (sortS (dedA ys)) else none
section
variable {K : PySem.W.Frag} {σ : St} {G : Hp} {ta tb : TE} {w : World}
end
end L2

set_option Elab.async false
set_option linter.all false
set_option maxRecDepth 100000
set_option maxHeartbeats 4000000
namespace L2
open PySem PySem.Spec PyProof.Rows
def lcg : Nat → Nat → Nat
  | 0, x => x
  | n + 1, x => lcg n (5 * x + 1)
def sumP : Nat → Nat
  | 0 => 0
  | n + 1 => sumP n + 5 ^ n
end L2

set_option Elab.async false
set_option linter.all false
set_option maxRecDepth 100000
set_option maxHeartbeats 4000000
namespace L2
open PySem PySem.Spec PyProof.Rows
def leaps (mask : Nat) : Nat → Nat × Nat → Nat × Nat
  | 0, p => p
  | n + 1, p => leaps mask n (SetTable.leap mask p.1 p.2)
/-- who sits where, as far as it is laid -/
structure LaidTo (mask n : Nat) (ow : Array (Option Nat)) : Prop where
  size : ow.size = mask + 1
  perm : (ow.toList.filterMap id).Perm (List.range n)
end L2

set_option Elab.async false
set_option linter.all false
set_option maxRecDepth 100000
set_option maxHeartbeats 4000000
namespace L2
open PySem PySem.Spec PyProof.Rows
def Pw (t : SetTable) : Prop := ∃ k, t.mask + 1 = 2 ^ k
/-- a set that others may be put into -/
def SetM (w : World) (h : Heap) (a : Addr) (ks : List Key) : Prop := ∃ o es ep t, h.get? a = some o ∧ SObj w o es ep t ks ∧ (ks = [] → Pw t)
theorem SetM.is {w : World} {h : Heap} {a : Addr} {ks : List Key} (x : SetM w h a ks) : SetIs w h a ks := by
  obtain ⟨o, es, ep, t, g, S, _⟩ := x
  exact ⟨o, es, ep, t, g, S⟩
theorem SetM.of {w : World} {h : Heap} {a : Addr} {ks : List Key} (x : SetIs w h a ks) (hn : ks ≠ []) : SetM w h a ks := by
  obtain ⟨o, es, ep, t, g, S⟩ := x
  exact ⟨o, es, ep, t, g, S, fun e => absurd e hn⟩
section
variable {prog : Program} {w : World} {A : Around} {E : Value → Shared → Prop} {s : Shared}
end
end L2

set_option Elab.async false
set_option linter.all false
set_option maxRecDepth 100000
set_option maxHeartbeats 4000000
namespace L2
open PySem PySem.Spec PyProof.Rows
section
variable {prog : Program} {w : World} {A : Around} {E : Value → Shared → Prop} {s : Shared}
end
end L2

set_option Elab.async false
set_option linter.all false
set_option maxRecDepth 100000
set_option maxHeartbeats 4000000
namespace L2
open PySem PySem.Spec PyProof.Rows
section
variable {prog : Program} {w : World} {A : Around} {E : Value → Shared → Prop} {s : Shared}
end
end L2

set_option Elab.async false
set_option linter.all false
set_option maxRecDepth 100000
set_option maxHeartbeats 4000000
namespace L2
open PySem PySem.Spec PyProof.Rows
section
variable {prog : Program} {w : World} {A : Around} {E : Value → Shared → Prop} {s : Shared}
end
end L2

set_option Elab.async false
set_option linter.all false
set_option maxRecDepth 100000
set_option maxHeartbeats 4000000
namespace L2
open PySem PySem.Spec PyProof.Rows
def rOrK (w : World) : R2 := fun x y H Q => ∃ (p q : Addr) (ka kb : List Key), x = .ref p ∧ y = .ref q ∧ p ≠ q ∧ H p = some (SetO w p ka) ∧ H q = some (SetO w q kb) ∧ ka.Nodup ∧ kb.Nodup ∧ ka.length + kb.length < 4000 ∧ ∀ r, H r = none → Q (.ref r) (upd H r (SetO w r (dedK (ka ++ kb))))
def sortOrZ (xs ys : List Int) : Option (List Int) := if xs.length < 1900 ∧ ys.length < 1900 ∧ (dedA (xs ++ ys)).length < 64 then some (sortZ (dedA (xs ++ ys))) else none
def sortOrT (x y : Str) : Option (List Str) := if x.length < 1900 ∧ y.length < 1900 ∧ (dedA (signsO x ++ signsO y)).length < 64 then some (sortS (dedA (signsO x ++ signsO y))) else none
def sortSetZ (ys : List Int) : Option (List Int) := if ys.length < 4000 ∧ (dedA ys).length < 64 then some (sortZ (dedA ys)) else none
section
variable {K : PySem.W.Frag} {σ : St} {G : Hp} {ta tb : TE} {w : World}
theorem ints_rel {G2 : Hp} : ∀ zs : List Int, Paired (Rp.rel K G2) (zs.map V.int) zs
  | [] => .nil
  | z :: zs => .cons rfl (ints_rel zs)
theorem sortZ_len (ys : List Int) : (sortZ ys).length = ys.length := (List.mergeSort_perm ys leZ).length_eq
end
end L2

set_option Elab.async false
set_option linter.all false
set_option maxRecDepth 100000
set_option maxHeartbeats 4000000
namespace L2
open PySem PySem.Spec PyProof.Rows
structure MpF (α : Type) where
  l : List (Int × α)
instance rpMpF {α : Type} [Rp α] : Rp (MpF α) := ⟨fun K H v a => ∃ p o kvs, v = .ref p ∧ H p = some (.frz o (.dK kvs)) ∧ Paired (RelE K H) kvs a.l,
  fun s ⟨p, o, kvs, e, h, pr⟩ => ⟨p, o, kvs, e, s _ _ h, Paired.imp' (fun _ _ r => ⟨r.1, Rp.mono s r.2⟩) pr⟩⟩
def tFrz (i : Nat) : TE := fun σ H Q => ∃ v p kvs, σ[i]? = some (some v) ∧ v = .ref p ∧ H p = some (.dK kvs) ∧ ∀ o, Q v (upd H p (.frz o (.dK kvs)))
section
variable {K : PySem.W.Frag} {σ : St} {G H G0 H0 : Hp} {α β : Type} [Rp α] [Rp β] {ta td ti : TE} {rest : TS} {D : Ends} {i : Nat} {a : Mp α} {v : V} {p : Addr} {kvs : List (Key × V)}
end
def epOf (o : Obj) : Nat := match o.data with
  | .dict _ ep => ep
  | _ => 0
def ItF (p : Addr) (o : Obj) (kvs : List (Key × V)) : It :=
  ⟨fun i H => H p = some (.frz o (.dK kvs)) ∧ i < kvs.length, fun i H x H' => H' = H ∧ (kvs.map fun q => kV q.1)[i]? = some x, fun i H => H p = some (.frz o (.dK kvs)) ∧ kvs.length ≤ i⟩
def iFrz (tl : TE) : TI := fun σ H R => tl σ H fun v H1 => ∃ p o kvs, v = .ref p ∧ H1 p = some (.frz o (.dK kvs)) ∧ R (ItF p o kvs) H1
def rLenF : List V → Hp → VK → Prop := fun vs H Q => ∃ p o kvs, vs = [.ref p] ∧ H p = some (.frz o (.dK kvs)) ∧ Q (.int (kvs.length : Int)) H
section
variable {K : PySem.W.Frag} {σ : St} {G : Hp} {α : Type} [Rp α] {ta : TE}
def keysO (m : MpF α) : Option (List Int) := if m.l.length ≤ sizeLine then some (m.l.map (·.1)) else none
end
end L2

set_option Elab.async false
set_option linter.all false
set_option maxRecDepth 100000
set_option maxHeartbeats 4000000
namespace L2
open PySem PySem.Spec PyProof.Rows
def rotO {α : Type} : List α → Option (List α)
  | [] => none
  | a :: r => if r.length < sizeLine then some (r ++ [a]) else none
section
variable {K : PySem.W.Frag} {σ : St} {G H : Hp} {α : Type} [Rp α] {rest : TS} {D : Ends} {i : Nat} {as as' : List α} {v : V} {p : Addr} {vs : List V}
end
end L2

set_option Elab.async false
set_option linter.all false
set_option maxRecDepth 100000
set_option maxHeartbeats 4000000
namespace L2
open PySem PySem.Spec PyProof.Rows
def rExtendT (K : PySem.W.Frag) : V → List V → Hp → VK → Prop := fun x vs H Q => ∃ l b xs zs, x = .ref l ∧ vs = [.ref b] ∧ H l = some (.lst xs) ∧ SqT K H b zs ∧ xs.length + zs.length ≤ sizeLine ∧ Q .non (upd H l (.lst (xs ++ zs)))
section
variable {K : PySem.W.Frag} {σ : St} {G H : Hp} {α : Type} [Rp α] {te : TE} {rest : TS} {D : Ends} {i : Nat} {m : Option (Tp α)} {b : Tp α} {as as' : List α} {v : V} {p : Addr} {vs : List V}
end
structure MpS (α : Type) where
  l : List (Str × α)
def putSM {α : Type} (l : List (Str × α)) (k : Str) (a : α) : List (Str × α) := if (l.any fun q => decide (q.1 = k)) = true then l.map (fun q => if q.1 = k then (q.1, a) else q) else l ++ [(k, a)]
def putSO {α : Type} (m : MpS α) (k : Str) (a : α) : Option (MpS α) := if m.l.length < sizeLine then some ⟨putSM m.l k a⟩ else none
def hasS {α : Type} (l : List (Str × α)) (k : Str) : Bool := l.any fun q => decide (q.1 = k)
def RelS (K : PySem.W.Frag) {α : Type} [Rp α] (H : Hp) (kv : Key × V) (q : Str × α) : Prop := kv.1 = .inr q.1 ∧ Rp.rel K H kv.2 q.2
instance rpMpS {α : Type} [Rp α] : Rp (MpS α) := ⟨fun K H v a => ∃ p kvs, v = .ref p ∧ H p = some (.dK kvs) ∧ Paired (RelS K H) kvs a.l,
  fun s ⟨p, kvs, e, h, pr⟩ => ⟨p, kvs, e, s _ _ h, Paired.imp' (fun _ _ r => ⟨r.1, Rp.mono s r.2⟩) pr⟩⟩
structure OwnS (K : PySem.W.Frag) {α : Type} [Rp α] (G H : Hp) (v : V) (p : Addr) (kvs : List (Key × V)) (a : MpS α) : Prop where
  v : v = .ref p
  g : G p = none
  h : H p = some (.dK kvs)
  p : Paired (RelS K G) kvs a.l
section
variable {K : PySem.W.Frag} {σ : St} {G H G1 H1 G0 H0 : Hp} {α β : Type} [Rp α] [Rp β] {td te ti : TE} {rest : TS} {D : Ends} {i : Nat} {a : MpS α} {v : V} {p q : Addr} {kvs : List (Key × V)}
theorem OwnS.ext (o : OwnS K G H v p kvs a) (x : Ext G H G1 H1) : OwnS K G1 H1 v p kvs a :=
  ⟨o.v, x.no p o.g (by rw [o.h]; exact fun z => nomatch z), x.hh _ _ o.h, Paired.imp' (fun _ _ r => ⟨r.1, Rp.mono x.gg r.2⟩) o.p⟩
theorem OwnS.put {ho : HO} (o : OwnS K G H v p kvs a) (h : p ≠ q) : OwnS K G (upd H q ho) v p kvs a := ⟨o.v, o.g, by rw [upd_ne h]; exact o.h, o.p⟩
theorem OwnS.tell (o : OwnS K G H v p kvs a) : Rp.rel K (upd G p (.dK kvs)) v a := ⟨p, kvs, o.v, upd_same, Paired.imp' (fun _ _ r => ⟨r.1, Rp.mono (Same.new o.g) r.2⟩) o.p⟩
end
section
variable {X : Cx} {i o : Expr} {ty td : TE} {pos : Pos}
end
end L2

set_option Elab.async false
set_option linter.all false
set_option maxRecDepth 100000
set_option maxHeartbeats 4000000
namespace L2
open PySem PySem.Spec PyProof.Rows
section
variable {prog : Program} {w : World} {A : Around} {E : Value → Shared → Prop} {s : Shared}
def ZObj (f0 f1 : Value) (TI TO : Addr) : Obj := { cls := .type "zip", dict := none, data := .fields #[f0, f1, .bool false, .ref TI, .ref TO], slots := #[] }
structure ZAp (z TI TO i1 i2 l t : Addr) : Prop where
  a : TI ≠ z ∧ TO ≠ z ∧ i1 ≠ z ∧ i2 ≠ z
  b : TI ≠ TO ∧ TI ≠ i1 ∧ TI ≠ i2 ∧ TO ≠ i1 ∧ TO ≠ i2 ∧ i1 ≠ i2
  c : l ≠ z ∧ l ≠ TO ∧ l ≠ i1 ∧ l ≠ i2
  d : t ≠ z ∧ t ≠ TO ∧ t ≠ i1 ∧ t ≠ i2
/-- a zip that has told k pairs -/
structure ZS (h : Heap) (z TI TO i1 i2 l t : Addr) (xs ys : Array Value) (k : Nat) : Prop where
  z : ∃ f0 f1, h.get? z = some (ZObj f0 f1 TI TO) ∧ (f0 = .none ∨ ∃ (T : Addr) (o : Obj), f0 = rawInt T ∧ h.get? T = some o)
  ti : IsPair h TI (.ref i1) (.ref i2)
  to : ∃ a b, IsPair h TO a b
  i1 : h.IsListIter i1 l k
  i2 : h.IsTupleIter i2 t k
  l : h.IsList l xs
  t : h.IsTuple t ys
theorem ZS.keep {h h' : Heap} {z TI TO i1 i2 l t : Addr} {xs ys : Array Value} {k : Nat} (Z : ZS h z TI TO i1 i2 l t xs ys k) (e : ∀ c o, h.get? c = some o → h'.get? c = some o) : ZS h' z TI TO i1 i2 l t xs ys k := by
  obtain ⟨⟨f0, f1, gz, hf⟩, ti, ⟨a, b, to⟩, j1, j2, hl, ht⟩ := Z
  refine ⟨⟨f0, f1, e _ _ gz, hf.imp id fun ⟨T, o, q1, q2⟩ => ⟨T, o, q1, e _ _ q2⟩⟩, e _ _ ti, ⟨a, b, e _ _ to⟩, j1.at fun o q => e _ _ q, ?_, hl.at fun o q => e _ _ q, ?_⟩
  · obtain ⟨o, g, r⟩ := j2; exact ⟨o, e _ _ g, r⟩
  · obtain ⟨o, g, r⟩ := ht; exact ⟨o, e _ _ g, r⟩
theorem wp_alive {a : Addr} {Q : Option Obj → Shared → Prop} (h : Q (s.heap.get? a) s) : wpAny (model prog w) A (loadIfAlive a) Q E s := fun Γ p hΓ => by
  show Sem.wp _ _ (.loadIfAlive a .pure) _ _ _ _
  rw [Sem.wp_loadIfAlive]
  exact h
theorem owned_busy {z TI TO T : Addr} {f1 : Value} {oT : Obj} {Q : Bool → Shared → Prop} (gz : s.heap.get? z = some (ZObj (rawInt T) f1 TI TO)) (gT : s.heap.get? T = some oT)
    (h : ∀ f1' h₁, h₁.get? z = some (ZObj (rawInt T) f1' TI TO) → Heap.SameBut z s.heap h₁ → Q false { s with heap := h₁ }) : wpAny (model prog w) A (Builtin.SmallTypes.ownedTupleIsFree (.ref z)) Q E s := by
  unfold Builtin.SmallTypes.ownedTupleIsFree
  refine wpAny_bind (wpAny_field gz rfl (x := rawInt T) rfl ?_)
  show wpAny _ _ (loadIfAlive ((T : Nat) : Int).toNat >>= _) _ _ _
  refine wpAny_bind (wp_alive ?_)
  rw [Int.toNat_natCast, gT]
  rw [if_neg (by simp)]
  refine wpAny_bind (wpAny_field gz rfl (x := f1) rfl ?_)
  dsimp only
  refine wpAny_ite_split (fun _ => ?_) fun _ => ?_
  · exact wpAny_bind (wpAny_setField_rec gz (by simp) fun h₁ z₁ s₁ => wpAny_pure (h _ h₁ z₁ s₁))
  · have e : s = { s with heap := s.heap } := by cases s; rfl
    have q := h f1 s.heap gz (Heap.SameBut.refl z s.heap)
    rw [← e] at q
    exact wpAny_pure q
end
end L2

set_option Elab.async false
set_option linter.all false
set_option maxRecDepth 100000
set_option maxHeartbeats 4000000
namespace L2
open PySem PySem.Spec PyProof.Rows
section
variable {prog : Program} {w : World} {A : Around} {E : Value → Shared → Prop} {s : Shared} {z TI TO : Addr} {f0 f1 : Value}
end
end L2

set_option Elab.async false
set_option linter.all false
set_option maxRecDepth 100000
set_option maxHeartbeats 4000000
namespace L2
open PySem PySem.Spec PyProof.Rows
section
variable {prog : Program} {w : World} {A : Around} {E : Value → Shared → Prop} {s : Shared}
/-- dict(zip): the pairs, one by one -/
def zipD (ks : List (Key × Value)) (m : List (Key × Value)) : List (Key × Value) := ks.foldl (fun m q => stored m q.1 q.2) m
end
end L2

set_option Elab.async false
set_option linter.all false
set_option maxRecDepth 100000
set_option maxHeartbeats 4000000
namespace L2
open PySem PySem.Spec PyProof.Rows
abbrev zT1 (h : Heap) (l : Addr) : Heap := h.push { cls := .type "list_iterator", data := .fields #[.ref l, .int 0 0] }
abbrev zT2 (h : Heap) (l t : Addr) : Heap := (zT1 h l).push { cls := .type "tuple_iterator", data := .fields #[.ref t, .int 0 0] }
abbrev zT3 (h : Heap) (l t : Addr) : Heap := (zT2 h l t).push { cls := .type "tuple", data := .seq #[.ref h.objs.size, .ref (zT1 h l).objs.size] }
abbrev zT4 (h : Heap) (l t : Addr) : Heap := (zT3 h l t).push { cls := .type "tuple", data := .seq #[.none, .none] }
abbrev zT5 (h : Heap) (l t : Addr) : Heap := (zT4 h l t).push { cls := .type "zip", data := .fields #[.none, .bool false, .bool false, .ref (zT2 h l t).objs.size, .ref (zT3 h l t).objs.size] }
section
variable {prog : Program} {w : World} {A : Around} {E : Value → Shared → Prop} {s : Shared}
theorem iter_zip {z TI TO : Addr} {f0 f1 : Value} {Q : Value → Shared → Prop} (hz : s.heap.get? z = some (ZObj f0 f1 TI TO)) (h : Q (.ref z) s) : wpAny (model prog w) A (pyIter (.ref z)) Q E s := by
  have hT : s.TypeIs (.ref z) "zip" := ⟨_, hz, rfl⟩
  refine wpAny_pyIter_slot hT F.slot_zip_iter (wpAny_call_entry F.slot_zip_iter hT F.entry_zip_iter ?_ (F.args_zip_iter_1 _))
  exact wpAny_pure ⟨_, rfl, "zip", _, hT, F.slot_zip_next.lookup, h⟩
end
def tDictZ (K : PySem.W.Frag) (ta : TA) : TE := fun σ H Q => ta σ H fun us H1 => ∃ (l t : Addr) (ns : List Int) (ys : List V), us = [.ref l, .ref t] ∧ SqL K H1 l (ns.map V.int) ∧ SqT K H1 t ys ∧ ns.length = ys.length ∧ ns.length < 4000 ∧
  ∀ p, H1 p = none → Q (.ref p) (upd H1 p (.dK (((ns.map Sum.inl).zip ys).foldl (fun m q => putK m q.1 q.2) [])))
theorem zap_new {n l t : Nat} (h1 : l < n) (h2 : t < n) : ZAp (n + 4) (n + 2) (n + 3) n (n + 1) l t := by
  refine ⟨⟨?_, ?_, ?_, ?_⟩, ⟨?_, ?_, ?_, ?_, ?_, ?_⟩, ⟨?_, ?_, ?_, ?_⟩, ⟨?_, ?_, ?_, ?_⟩⟩ <;> (intro e; replace e : @Eq Nat _ _ := e; omega)
end L2

set_option Elab.async false
set_option linter.all false
set_option maxRecDepth 100000
set_option maxHeartbeats 4000000
namespace L2
open PySem PySem.Spec PyProof.Rows
def dictZ {α : Type} (ns : List Int) (bs : List α) : Option (Mp α) := if ns.length = bs.length ∧ ns.length < 4000 then some ⟨(ns.zip bs).foldl (fun m q => putM m q.1 q.2) []⟩ else none
section
variable {K : PySem.W.Frag} {σ : St} {G H G0 H0 : Hp} {α β : Type} [Rp α] [Rp β] {ta tb : TE}
end
end L2

set_option Elab.async false
set_option linter.all false
set_option maxRecDepth 100000
set_option maxHeartbeats 4000000
namespace L2
open PySem PySem.Spec PyProof.Rows
def getC : List (Str × Int) → Str → Option Int
  | [], _ => none
  | (y, i) :: r, x => cond (decide (y = x)) (some i) (getC r x)
def EntC : List DictEntry → List (Str × Int) → Prop
  | [], [] => True
  | e :: es, q :: l => (∃ t u, e.key = .str q.1 t ∧ e.val = .int q.2 u) ∧ EntC es l
  | _, _ => False
structure CDict (w : World) (K : PySem.W.Frag) (a : Addr) (l : List (Str × Int)) : Prop where
  lo : (a == sysModules) = false
  ex : ∃ es n, K.lookup a = some ⟨.type "dict", none, .dict es n, #[]⟩ ∧ PySem.W.KeysLit w.params es.toList ∧ EntC es.toList l
theorem find_ent : ∀ {es : List DictEntry} {l : List (Str × Int)} (x : Str), EntC es l →
    match getC l x with
    | some i => ∃ u, (es.find? fun e => Value.isStrOf x e.key).map (·.val) = some (.int i u)
    | none => (es.find? fun e => Value.isStrOf x e.key).map (·.val) = none
  | [], [], x, _ => rfl
  | e :: es, (y, i) :: l, x, ⟨⟨t, u, h1, h2⟩, r⟩ => by
    have ih := find_ent x r
    have hk : Value.isStrOf x e.key = decide (y = x) := by
      rw [h1]
      show Value.isStrOf x (.str y t) = _
      by_cases q : y = x
      · subst q; simp [Value.isStrOf]
      · rw [decide_eq_false q]
        simp [Value.isStrOf, q]
    unfold getC
    rw [List.find?_cons, hk]
    by_cases q : y = x
    · rw [decide_eq_true q]
      exact ⟨u, by rw [← h2]; rfl⟩
    · rw [decide_eq_false q]
      exact ih
section
variable {X : Cx} {i o : Expr} {ty : TE} {pos : Pos} {a : Addr} {w : World} {K : PySem.W.Frag} {l : List (Str × Int)}
theorem CDict.map {prog : Program} {h : Heap} (C : CDict w K a l) (X : K.In h) : ∃ f, h.MapOf (strKind prog w) a f ∧ ∀ x, match getC l x with
    | some i => ∃ u, f x = some (.int i u)
    | none => f x = none := by
  obtain ⟨es, n, hl, hk, he⟩ := C.ex
  refine ⟨_, PySem.W.mapOf_K X hl hk, fun x => ?_⟩
  have := find_ent x he
  obtain ⟨es⟩ := es
  show match getC l x with
    | some i => ∃ u, findBy Value.isStrOf _ x = some (.int i u)
    | none => findBy Value.isStrOf _ x = none
  unfold findBy
  rw [List.find?_toArray]
  exact this
def tInC (l : List (Str × Int)) (ty : TE) : TE := fun σ H Q => ty σ H fun y H1 => ∃ z, y = .str z ∧ Q (.bl (getC l z).isSome) H1
def tGetC (l : List (Str × Int)) (ty : TE) : TE := fun σ H Q => ty σ H fun y H1 => ∃ z v, y = .str z ∧ getC l z = some v ∧ Q (.int v) H1
end
section
variable {K : PySem.W.Frag} {σ : St} {G : Hp} {ty : TE} {l : List (Str × Int)}
end
end L2

set_option Elab.async false
set_option linter.all false
set_option maxRecDepth 100000
set_option maxHeartbeats 4000000
namespace HT
open PySem PySem.Spec PyProof.Rows
section
variable {prog : Program} {w : World} {A : Around} {E : Value → Shared → Prop} {s : Shared}
end
end HT
namespace L2
open PySem PySem.Spec PyProof.Rows
def rSlA (K : PySem.W.Frag) : V → Option Int → Option Int → Hp → VK → Prop := fun x lo hi H Q => ∃ a xs, x = .ref a ∧ SqT K H a xs ∧
  ((HT.sIx xs.length 0 lo = 0 ∧ HT.sIx xs.length xs.length hi = xs.length) → Q (.ref a) H) ∧
  (¬ (HT.sIx xs.length 0 lo = 0 ∧ HT.sIx xs.length xs.length hi = xs.length) → ∀ p, H p = none → Q (.ref p) (upd H p (.tup (cutV xs lo hi))))
section
variable {K : PySem.W.Frag} {σ : St} {G : Hp} {α : Type} [Rp α] {ta tb tc te : TE} {t1 t2 : TO} {sa sb sc : Option Str} {m1 m2 : Option (Option Int)}
end
end L2

set_option Elab.async false
set_option linter.all false
set_option maxRecDepth 100000
set_option maxHeartbeats 4000000
namespace L2
open PySem PySem.Spec PyProof.Rows
section
variable {prog : Program} {w : World} {A : Around} {E : Value → Shared → Prop} {s : Shared}
/-- a zip that has told k pairs -/
structure ZL (h : Heap) (z TI TO i1 i2 l t : Addr) (xs ys : Array Value) (k : Nat) : Prop where
  z : ∃ f0 f1, h.get? z = some (ZObj f0 f1 TI TO) ∧ (f0 = .none ∨ ∃ (T : Addr) (o : Obj), f0 = rawInt T ∧ h.get? T = some o)
  ti : IsPair h TI (.ref i1) (.ref i2)
  to : ∃ a b, IsPair h TO a b
  i1 : h.IsListIter i1 l k
  i2 : h.IsListIter i2 t k
  l : h.IsList l xs
  t : h.IsList t ys
theorem ZL.keep {h h' : Heap} {z TI TO i1 i2 l t : Addr} {xs ys : Array Value} {k : Nat} (Z : ZL h z TI TO i1 i2 l t xs ys k) (e : ∀ c o, h.get? c = some o → h'.get? c = some o) : ZL h' z TI TO i1 i2 l t xs ys k := by
  obtain ⟨⟨f0, f1, gz, hf⟩, ti, ⟨a, b, to⟩, j1, j2, hl, ht⟩ := Z
  refine ⟨⟨f0, f1, e _ _ gz, hf.imp id fun ⟨T, o, q1, q2⟩ => ⟨T, o, q1, e _ _ q2⟩⟩, e _ _ ti, ⟨a, b, e _ _ to⟩, j1.at fun o q => e _ _ q, ?_, hl.at fun o q => e _ _ q, ?_⟩
  · obtain ⟨o, g, r⟩ := j2; exact ⟨o, e _ _ g, r⟩
  · obtain ⟨o, g, r⟩ := ht; exact ⟨o, e _ _ g, r⟩
theorem zip_itemL {z TI TO i1 i2 l t : Addr} {xs ys : Array Value} {k : Nat} {x y : Value} {Q : Option Value → Shared → Prop} (D : ZAp z TI TO i1 i2 l t) (Z : ZL s.heap z TI TO i1 i2 l t xs ys k) (hx : xs[k]? = some x) (hy : ys[k]? = some y)
    (hQ : ∀ h', ZL h' z TI TO i1 i2 l t xs ys (k + 1) → IsPair h' s.heap.objs.size x y → (∀ c o, c ∉ [z, TO, i1, i2] → s.heap.get? c = some o → h'.get? c = some o) → Q (some (.ref s.heap.objs.size)) { s with heap := h' }) :
    wpAny (model prog w) A (pyNext (.ref z)) Q E s := by
  obtain ⟨⟨f0, f1, gz, hf⟩, ti, ⟨a, b, to⟩, j1, j2, hl, ht⟩ := Z
  obtain ⟨⟨d1, d2, d3, d4⟩, ⟨d5, d6, d7, d8, d9, d10⟩, ⟨d11, d12, d13, d14⟩, ⟨d15, d16, d17, d18⟩⟩ := D
  have hT : s.TypeIs (.ref z) "zip" := ⟨_, gz, rfl⟩
  have tk : ∀ {h h' : Heap} {c : Addr} {j : Nat}, h.IsListIter i2 t j → Heap.SameBut c h h' → i2 ≠ c → h'.IsListIter i2 t j := fun ⟨o, g, r⟩ e n => ⟨o, (e.2 _ n).trans g, r⟩
  have tt : ∀ {h h' : Heap} {c : Addr}, h.IsList t ys → Heap.SameBut c h h' → t ≠ c → h'.IsList t ys := fun ⟨o, g, r⟩ e n => ⟨o, (e.2 _ n).trans g, r⟩
  unfold pyNext
  refine wpAny_bind (wpAny_attempt (wpAny_callSpecial?_slot (name := Str.ofString "__next__") hT F.slot_zip_next (wpAny_call_entry F.slot_zip_next hT F.entry_zip_next ?_ (F.args_zip_next_1 _))))
  show wpAny _ _ (field (.ref z) 2 >>= _) _ _ _; refine wpAny_bind (wpAny_field gz rfl (x := .bool false) rfl ?_)
  show wpAny _ _ (field (.ref z) 3 >>= _) _ _ _; refine wpAny_bind (wpAny_field gz rfl (x := .ref TI) rfl ?_)
  refine wpAny_bind (wpAny_seqItems ti rfl ?_); show wpAny _ _ (Builtin.SmallTypes.ownedTupleIsFree (.ref z) >>= _) _ _ _
  rcases hf with rfl | ⟨T, oT, rfl, gT⟩
  · refine wpAny_bind ?_
    unfold Builtin.SmallTypes.ownedTupleIsFree
    refine wpAny_bind (wpAny_field gz rfl (x := .none) rfl (wpAny_pure ?_)); simp only [if_true]
    refine wpAny_bind (wpAny_rule (wpAny_bind (wpAny_field gz rfl (x := .ref TO) rfl ?_)))
    refine wpAny_bind (wpAny_setField_rec gz (by simp) fun h₁ z₁ s₁ => ?_)
    replace z₁ : h₁.get? z = some (ZObj .ellipsis f1 TI TO) := z₁
    refine wpAny_bind ?_
    simp only [List.zipIdx_cons, List.zipIdx_nil, List.forIn_cons, List.forIn_nil]
    refine wpAny_bind (wpAny_bind (wpAny_onRaise ?_)); show wpAny _ _ (Builtin.SmallTypes.nextOf (.ref i1) >>= _) _ _ _
    refine wpAny_bind (wpAny_nextOf_list_item (s := { s with heap := h₁ }) (j1.extBut s₁.extBut d3) (hl.extBut s₁.extBut d11) hx fun h₂ j₂ s₂ => wpAny_pure ?_)
    replace s₂ : Heap.SameBut i1 h₁ h₂ := s₂
    have to₂ : IsPair h₂ TO a b := s₂.extBut _ _ d8 (s₁.extBut _ _ d2 to)
    refine wpAny_bind (wpAny_seqItems (s := { s with heap := h₂ }) to₂ rfl (wpAny_bind (wpAny_updateSeq_pair (s := { s with heap := h₂ }) to₂ fun h₃ to₃ s₃ => ?_)))
    replace to₃ : IsPair h₃ TO x b := to₃
    replace s₃ : Heap.SameBut TO h₂ h₃ := s₃
    refine wpAny_bind (wpAny_letGo (wpAny_pure ?_))
    refine wpAny_bind (wpAny_bind (wpAny_onRaise ?_)); show wpAny _ _ (Builtin.SmallTypes.nextOf (.ref i2) >>= _) _ _ _
    refine wpAny_bind (wpAny_nextOf_list_item (s := { s with heap := h₃ }) (tk (tk (tk j2 s₁ d4) s₂ (Ne.symm d10)) s₃ (Ne.symm d9)) (tt (tt (tt ht s₁ d15) s₂ d17) s₃ d16) hy fun h₄ j₄ s₄ => wpAny_pure ?_)
    replace s₄ : Heap.SameBut i2 h₃ h₄ := s₄
    have to₄ : IsPair h₄ TO x b := s₄.extBut _ _ d9 to₃
    refine wpAny_bind (wpAny_seqItems (s := { s with heap := h₄ }) to₄ rfl (wpAny_bind (wpAny_updateSeq_pair (s := { s with heap := h₄ }) to₄ fun h₅ to₅ s₅ => ?_)))
    replace to₅ : IsPair h₅ TO x y := to₅
    replace s₅ : Heap.SameBut TO h₄ h₅ := s₅
    refine wpAny_bind (wpAny_letGo (wpAny_pure (wpAny_pure ?_)))
    refine wpAny_bind (wpAny_seqItems (s := { s with heap := h₅ }) to₅ rfl (wpAny_bind (wpAny_newTuple ?_)))
    have hsz : h₅.objs.size = s.heap.objs.size := by rw [s₅.1, s₄.1, s₃.1, s₂.1, s₁.1]
    have z₅ : h₅.get? z = some (ZObj .ellipsis f1 TI TO) := s₅.extBut _ _ (Ne.symm d2) (s₄.extBut _ _ (Ne.symm d4) (s₃.extBut _ _ (Ne.symm d2) (s₂.extBut _ _ (Ne.symm d3) z₁)))
    have zl : z < h₅.objs.size := Heap.lt_size z₅
    show wpAny _ _ (Builtin.SmallTypes.ownedTupleHandOut (.ref z) (.ref h₅.objs.size) >>= _) _ _ _
    refine wpAny_bind ?_
    unfold Builtin.SmallTypes.ownedTupleHandOut
    have z₆ : (h₅.push { cls := .type "tuple", data := .seq #[x, y] }).get? z = some (ZObj .ellipsis f1 TI TO) := Heap.get?_push_of_some _ z₅
    refine wpAny_bind (wpAny_setField_rec (s := { s with heap := h₅.push { cls := .type "tuple", data := .seq #[x, y] } }) z₆ (by simp) fun h₇ z₇ s₇ => ?_)
    replace s₇ : Heap.SameBut z (h₅.push { cls := .type "tuple", data := .seq #[x, y] }) h₇ := s₇
    refine wpAny_setField_rec (s := { s with heap := h₇ }) z₇ (by simp) fun h₈ z₈ s₈ => ?_
    replace z₈ : h₈.get? z = some (ZObj (rawInt h₅.objs.size) (.bool false) TI TO) := z₈
    replace s₈ : Heap.SameBut z h₇ h₈ := s₈
    have up : ∀ c o, c ≠ z → h₅.get? c = some o → h₈.get? c = some o := fun c o c1 e => s₈.extBut _ _ c1 (s₇.extBut _ _ c1 (Heap.get?_push_of_some _ e))
    have T₈ : IsPair h₈ h₅.objs.size x y := s₈.extBut _ _ (Nat.ne_of_gt zl) (s₇.extBut _ _ (Nat.ne_of_gt zl) (Heap.get?_push_size _ rfl))
    refine wpAny_pure ⟨_, rfl, wpAny_pure ?_⟩
    show Q (some (.ref h₅.objs.size)) _
    rw [hsz] at z₈ T₈ ⊢
    have kp : ∀ c o, c ∉ [z, TO, i1, i2] → s.heap.get? c = some o → h₈.get? c = some o := fun c o hc e => by
      simp only [List.mem_cons, List.not_mem_nil, or_false, not_or] at hc
      exact up c o hc.1 (s₅.extBut _ _ hc.2.1 (s₄.extBut _ _ hc.2.2.2 (s₃.extBut _ _ hc.2.1 (s₂.extBut _ _ hc.2.2.1 (s₁.extBut _ _ hc.1 e)))))
    refine hQ h₈ ⟨⟨_, _, z₈, .inr ⟨_, _, rfl, T₈⟩⟩, kp _ _ (by simp [d1, d5, d6, d7]) ti, ⟨x, y, up _ _ d2 to₅⟩, ?_, ?_, ?_, ?_⟩ T₈ kp
    · exact (((j₂.extBut s₃.extBut (Ne.symm d8)).extBut s₄.extBut d10).extBut s₅.extBut (Ne.symm d8)).at fun o e => up _ o d3 e
    · obtain ⟨o, g, r⟩ := tk j₄ s₅ (Ne.symm d9)
      exact ⟨o, up _ _ d4 g, r⟩
    · exact hl.at fun o e => kp _ _ (by simp [d11, d12, d13, d14]) e
    · obtain ⟨o, g, r⟩ := ht
      exact ⟨o, kp _ _ (by simp [d15, d16, d17, d18]) g, r⟩
  · refine wpAny_bind (owned_busy gz gT fun f1' h₁ z₁ s₁ => ?_)
    simp only [Bool.false_eq_true, if_false]
    rw [← Array.forIn_toList]
    simp only [List.forIn_cons, List.forIn_nil]
    refine wpAny_bind (wpAny_bind (wpAny_bind (wpAny_holding ?_))); show wpAny _ _ (Builtin.SmallTypes.nextOf (.ref i1) >>= _) _ _ _
    refine wpAny_bind (wpAny_nextOf_list_item (s := { s with heap := h₁ }) (j1.extBut s₁.extBut d3) (hl.extBut s₁.extBut d11) hx fun h₂ j₂ s₂ => wpAny_pure (wpAny_pure ?_))
    replace s₂ : Heap.SameBut i1 h₁ h₂ := s₂
    dsimp only
    refine wpAny_bind (wpAny_bind (wpAny_holding ?_)); show wpAny _ _ (Builtin.SmallTypes.nextOf (.ref i2) >>= _) _ _ _
    refine wpAny_bind (wpAny_nextOf_list_item (s := { s with heap := h₂ }) (tk (tk j2 s₁ d4) s₂ (Ne.symm d10)) (tt (tt ht s₁ d15) s₂ d17) hy fun h₃ j₃ s₃ => wpAny_pure (wpAny_pure ?_))
    replace s₃ : Heap.SameBut i2 h₂ h₃ := s₃
    dsimp only
    refine wpAny_pure (wpAny_bind (wpAny_newTuple ?_ (by show 2 ≤ sizeLine; rw [sizeLine_eq]; omega)))
    have hsz : h₃.objs.size = s.heap.objs.size := by rw [s₃.1, s₂.1, s₁.1]
    refine wpAny_pure ⟨_, rfl, wpAny_pure ?_⟩
    show Q (some (.ref h₃.objs.size)) _
    have T₄ : IsPair (h₃.push { cls := .type "tuple", data := .seq #[x, y] }) h₃.objs.size x y := Heap.get?_push_size _ rfl
    have up : ∀ c o, h₃.get? c = some o → (h₃.push { cls := .type "tuple", data := .seq #[x, y] }).get? c = some o := fun c o e => Heap.get?_push_of_some _ e
    have z₃ : h₃.get? z = some (ZObj (rawInt T) f1' TI TO) := s₃.extBut _ _ (Ne.symm d4) (s₂.extBut _ _ (Ne.symm d3) z₁)
    have kp : ∀ c o, c ∉ [z, TO, i1, i2] → s.heap.get? c = some o → (h₃.push { cls := .type "tuple", data := .seq #[x, y] }).get? c = some o := fun c o hc e => by
      simp only [List.mem_cons, List.not_mem_nil, or_false, not_or] at hc
      exact up c o (s₃.extBut _ _ hc.2.2.2 (s₂.extBut _ _ hc.2.2.1 (s₁.extBut _ _ hc.1 e)))
    have any : ∀ c o, s.heap.get? c = some o → ∃ o', h₃.get? c = some o' := fun c o e => by
      have e1 : ∃ o', h₁.get? c = some o' := by
        by_cases q : c = z
        · rw [q]; exact ⟨_, z₁⟩
        · exact ⟨o, s₁.extBut _ _ q e⟩
      obtain ⟨o1, e1⟩ := e1
      have e2 : ∃ o', h₂.get? c = some o' := by
        by_cases q : c = i1
        · rw [q]; obtain ⟨o', g, _⟩ := j₂; exact ⟨o', g⟩
        · exact ⟨o1, s₂.extBut _ _ q e1⟩
      obtain ⟨o2, e2⟩ := e2
      by_cases q : c = i2
      · rw [q]; obtain ⟨o', g, _⟩ := j₃; exact ⟨o', g⟩
      · exact ⟨o2, s₃.extBut _ _ q e2⟩
    obtain ⟨oT', gT'⟩ := any T _ gT
    rw [hsz] at T₄ ⊢
    refine hQ _ ⟨⟨_, _, up _ _ z₃, .inr ⟨T, oT', rfl, up _ _ gT'⟩⟩, kp _ _ (by simp [d1, d5, d6, d7]) ti, ⟨a, b, ?_⟩, ?_, ?_, ?_, ?_⟩ T₄ kp
    · exact up _ _ (s₃.extBut _ _ d9 (s₂.extBut _ _ d8 (s₁.extBut _ _ d2 to)))
    · exact (j₂.extBut s₃.extBut d10).at fun o e => up _ o e
    · obtain ⟨o, g, r⟩ := j₃
      exact ⟨o, up _ _ g, r⟩
    · exact hl.at fun o e => kp _ _ (by simp [d11, d12, d13, d14]) e
    · obtain ⟨o, g, r⟩ := ht
      exact ⟨o, kp _ _ (by simp [d15, d16, d17, d18]) g, r⟩
theorem zip_endL {z TI TO i1 i2 l t : Addr} {xs ys : Array Value} {k : Nat} {Q : Option Value → Shared → Prop} (hh : A.handled = none) (D : ZAp z TI TO i1 i2 l t) (Z : ZL s.heap z TI TO i1 i2 l t xs ys k) (hx : xs[k]? = none)
    (hQ : ∀ h', (∀ c o, c ∉ [z, TO, i1, i2] → s.heap.get? c = some o → h'.get? c = some o) → Q none { s with heap := h' }) : wpAny (model prog w) A (pyNext (.ref z)) Q E s := by
  obtain ⟨⟨f0, f1, gz, hf⟩, ti, ⟨a, b, to⟩, j1, j2, hl, ht⟩ := Z
  obtain ⟨⟨d1, d2, d3, d4⟩, ⟨d5, d6, d7, d8, d9, d10⟩, ⟨d11, d12, d13, d14⟩, ⟨d15, d16, d17, d18⟩⟩ := D
  have hT : s.TypeIs (.ref z) "zip" := ⟨_, gz, rfl⟩
  unfold pyNext
  refine wpAny_bind (wpAny_attempt (wpAny_callSpecial?_slot (name := Str.ofString "__next__") hT F.slot_zip_next (wpAny_call_entry F.slot_zip_next hT F.entry_zip_next ?_ (F.args_zip_next_1 _))))
  show wpAny _ _ (field (.ref z) 2 >>= _) _ _ _; refine wpAny_bind (wpAny_field gz rfl (x := .bool false) rfl ?_)
  show wpAny _ _ (field (.ref z) 3 >>= _) _ _ _; refine wpAny_bind (wpAny_field gz rfl (x := .ref TI) rfl ?_)
  refine wpAny_bind (wpAny_seqItems ti rfl ?_); show wpAny _ _ (Builtin.SmallTypes.ownedTupleIsFree (.ref z) >>= _) _ _ _
  rcases hf with rfl | ⟨T, oT, rfl, gT⟩
  · refine wpAny_bind ?_
    unfold Builtin.SmallTypes.ownedTupleIsFree
    refine wpAny_bind (wpAny_field gz rfl (x := .none) rfl (wpAny_pure ?_)); simp only [if_true]
    refine wpAny_bind (wpAny_rule (wpAny_bind (wpAny_field gz rfl (x := .ref TO) rfl ?_)))
    refine wpAny_bind (wpAny_setField_rec gz (by simp) fun h₁ z₁ s₁ => ?_)
    replace z₁ : h₁.get? z = some (ZObj .ellipsis f1 TI TO) := z₁
    refine wpAny_bind ?_
    simp only [List.zipIdx_cons, List.zipIdx_nil, List.forIn_cons, List.forIn_nil]
    refine wpAny_bind (wpAny_bind (wpAny_onRaise ?_)); show wpAny _ _ (Builtin.SmallTypes.nextOf (.ref i1) >>= _) _ _ _
    refine wpAny_bind (wpAny_nextOf_list_end (s := { s with heap := h₁ }) hh (j1.extBut s₁.extBut d3) (hl.extBut s₁.extBut d11) hx fun h₂ e s₂ he => ?_)
    replace s₂ : Heap.ExtBut i1 h₁ h₂ := s₂
    obtain ⟨oe, ge, ce⟩ := he
    have z₂ : h₂.get? z = some (ZObj .ellipsis f1 TI TO) := s₂ _ _ (Ne.symm d3) z₁
    have ez : e ≠ z := fun q => by subst q; rw [z₂] at ge; cases ge; have ce : Value.type "zip" = Value.type "StopIteration" := ce; simp at ce
    refine wpAny_setField_rec (s := { s with heap := h₂ }) z₂ (by simp) fun h₃ _ s₃ => ?_
    replace s₃ : Heap.SameBut z h₂ h₃ := s₃
    refine wpAny_bind (wpAny_isInstance (T := "StopIteration") (b := true) ⟨oe, s₃.extBut _ _ ez ge, ce⟩ isSubtype_stop (wpAny_pure (hQ h₃ fun c o hc q => ?_)))
    simp only [List.mem_cons, List.not_mem_nil, or_false, not_or] at hc
    exact s₃.extBut _ _ hc.1 (s₂ _ _ hc.2.2.1 (s₁.extBut _ _ hc.1 q))
  · refine wpAny_bind (owned_busy gz gT fun f1' h₁ z₁ s₁ => ?_)
    simp only [Bool.false_eq_true, if_false]
    rw [← Array.forIn_toList]
    simp only [List.forIn_cons, List.forIn_nil]
    refine wpAny_bind (wpAny_bind (wpAny_bind (wpAny_holding ?_))); show wpAny _ _ (Builtin.SmallTypes.nextOf (.ref i1) >>= _) _ _ _
    refine wpAny_bind (wpAny_nextOf_list_end (s := { s with heap := h₁ }) hh (j1.extBut s₁.extBut d3) (hl.extBut s₁.extBut d11) hx fun h₂ e s₂ he => ?_)
    replace s₂ : Heap.ExtBut i1 h₁ h₂ := s₂
    obtain ⟨oe, ge, ce⟩ := he
    refine wpAny_bind (wpAny_isInstance (s := { s with heap := h₂ }) (T := "StopIteration") (b := true) ⟨oe, ge, ce⟩ isSubtype_stop (wpAny_pure (hQ h₂ fun c o hc q => ?_)))
    simp only [List.mem_cons, List.not_mem_nil, or_false, not_or] at hc
    exact s₂ _ _ hc.2.2.1 (s₁.extBut _ _ hc.1 q)
end
end L2

set_option Elab.async false
set_option linter.all false
set_option maxRecDepth 100000
set_option maxHeartbeats 4000000
namespace L2
open PySem PySem.Spec PyProof.Rows
inductive PairsAt (h : Heap) : List Addr → List Value → List Value → Prop where
  | nil : PairsAt h [] [] []
  | cons {T : Addr} {x y : Value} {Ts : List Addr} {xs ys : List Value} : IsPair h T x y → PairsAt h Ts xs ys → PairsAt h (T :: Ts) (x :: xs) (y :: ys)
def LObj (acc : Array Value) (c : Nat) : Obj := { cls := .type "list", dict := none, data := .seq acc c, slots := #[] }
section
variable {prog : Program} {w : World} {A : Around} {E : Value → Shared → Prop} {s : Shared}
theorem ZL.size {h : Heap} {z TI TO i1 i2 l t : Addr} {xs ys : Array Value} {k : Nat} (Z : ZL h z TI TO i1 i2 l t xs ys k) : ∀ c ∈ [z, TI, TO, i1, i2, l, t], c < h.objs.size := by
  intro c hc
  have a1 : z < h.objs.size := by obtain ⟨_, _, g, _⟩ := Z.z; exact Heap.lt_size g
  have a2 : TI < h.objs.size := Heap.lt_size Z.ti
  have a3 : TO < h.objs.size := by obtain ⟨_, _, g⟩ := Z.to; exact Heap.lt_size g
  have a4 : i1 < h.objs.size := by obtain ⟨_, g, _⟩ := Z.i1; exact Heap.lt_size g
  have a5 : i2 < h.objs.size := by obtain ⟨_, g, _⟩ := Z.i2; exact Heap.lt_size g
  have a6 : l < h.objs.size := by obtain ⟨_, g, _⟩ := Z.l; exact Heap.lt_size g
  have a7 : t < h.objs.size := by obtain ⟨_, g, _⟩ := Z.t; exact Heap.lt_size g
  simp only [List.mem_cons, List.not_mem_nil, or_false] at hc
  rcases hc with q | q | q | q | q | q | q <;> (rw [q]; assumption)
theorem ZL.but {h h' : Heap} {z TI TO i1 i2 l t S : Addr} {xs ys : Array Value} {k : Nat} (Z : ZL h z TI TO i1 i2 l t xs ys k) (hS : S ∉ [z, TI, TO, i1, i2, l, t]) (e : ∀ c o, c ≠ S → h.get? c = some o → h'.get? c = some o) (eS : ∃ o, h'.get? S = some o) : ZL h' z TI TO i1 i2 l t xs ys k := by
  obtain ⟨⟨f0, f1, gz, hf⟩, ti, ⟨a, b, to⟩, j1, j2, hl', ht'⟩ := Z
  have kk : ∀ c, c ∈ [z, TI, TO, i1, i2, l, t] → ∀ o, h.get? c = some o → h'.get? c = some o := fun c hc o q => e c o (fun z => hS (z ▸ hc)) q
  have hf' : f0 = .none ∨ ∃ (T : Addr) (o : Obj), f0 = rawInt T ∧ h'.get? T = some o := by
    rcases hf with q | ⟨T, o, q1, q2⟩
    · exact .inl q
    · by_cases q : T = S
      · obtain ⟨o', g'⟩ := eS
        exact .inr ⟨T, o', q1, by rw [q]; exact g'⟩
      · exact .inr ⟨T, o, q1, e T o q q2⟩
  exact ⟨⟨f0, f1, kk _ (by simp) _ gz, hf'⟩, kk _ (by simp) _ ti, ⟨a, b, kk _ (by simp) _ to⟩, j1.at fun o q => kk _ (by simp) _ q, j2.at fun o q => kk _ (by simp) _ q, hl'.at fun o q => kk _ (by simp) _ q, ht'.at fun o q => kk _ (by simp) _ q⟩
theorem el_loop {R : Result → Shared → Prop} {z TI TO i1 i2 l t S : Addr} {xs ys : Array Value} {res : Value} (hh : A.handled = none) (D : ZAp z TI TO i1 i2 l t) (hS : S ∉ [z, TI, TO, i1, i2, l, t]) (hxy : xs.size = ys.size) (hb : xs.size ≤ 4000) :
    ∀ (n i : Nat) (s : Shared) (acc : Array Value) (c : Nat), xs.size - i = n → i ≤ xs.size → ZL s.heap z TI TO i1 i2 l t xs ys i → s.heap.get? S = some (LObj acc c) → acc.size = i →
      (∀ h' tk acc' c' (Ts : List Addr), (∀ c o, c ∉ [z, TO, i1, i2, S] → s.heap.get? c = some o → h'.get? c = some o) → h'.get? S = some (LObj acc' c') → acc'.toList = acc.toList ++ Ts.map Value.ref → Ts.Pairwise (· < ·) → (∀ T ∈ Ts, s.heap.objs.size ≤ T) →
        PairsAt h' Ts (xs.toList.drop i) (ys.toList.drop i) → R (.ok (.ret res)) { s with heap := h', toks := tk }) →
      codeAny (model prog w) A (.builtin "list.extend.loop" ⟨[.ref S, .ref z, res], []⟩) R s := by
  have hs : sizeLine = 16777216 := sizeLine_eq
  intro n
  induction n with
  | zero =>
    intro i s acc c e1 e2 Z gS e3 hR
    have ei : i = xs.size := by omega
    subst ei
    refine codeAny_builtin PySem.F.entry_extend_loop ?_; rw [Around.under_plainId PySem.F.plain_extend_loop _]
    show wpAny _ A.in1 (pyNext (.ref z) >>= _) _ _ s
    refine wpAny_bind (zip_endL (by simpa using hh) D Z (Array.getElem?_eq_none (Nat.le_refl _)) fun h' kp => ?_)
    have kp' : ∀ c o, c ∉ [z, TO, i1, i2, S] → s.heap.get? c = some o → h'.get? c = some o := fun c o hc e => kp c o (fun q => hc (by
      simp only [List.mem_cons, List.not_mem_nil, or_false] at q ⊢
      rcases q with q | q | q | q <;> simp [q])) e
    refine wpAny_pure (hR h' s.toks acc c [] kp' (kp S _ (fun q => hS (by
      simp only [List.mem_cons, List.not_mem_nil, or_false] at q ⊢
      rcases q with q | q | q | q <;> simp [q])) gS) (by simp) .nil (fun T hT => by cases hT) ?_)
    have q1 : xs.toList.drop xs.size = [] := List.drop_of_length_le (Nat.le_of_eq rfl)
    have q2 : ys.toList.drop xs.size = [] := List.drop_of_length_le (Nat.le_of_eq hxy.symm)
    rw [q1, q2]
    exact .nil
  | succ n ih =>
    intro i s acc c e1 e2 Z gS e3 hR
    have hi : i < xs.size := by omega
    have hx : xs[i]? = some xs[i] := Array.getElem?_eq_getElem (by omega)
    have hy : ys[i]? = some ys[i] := Array.getElem?_eq_getElem (by omega)
    have szs := Z.size
    have lS : S < s.heap.objs.size := Heap.lt_size gS
    refine codeAny_builtin PySem.F.entry_extend_loop ?_; rw [Around.under_plainId PySem.F.plain_extend_loop _]
    show wpAny _ A.in1 (pyNext (.ref z) >>= _) _ _ s
    refine wpAny_bind (zip_itemL D Z hx hy fun h₁ Z₁ P₁ kp => ?_)
    have gS₁ : h₁.get? S = some (LObj acc c) := kp S _ (fun q => hS (by
      simp only [List.mem_cons, List.not_mem_nil, or_false] at q ⊢
      rcases q with q | q | q | q <;> simp [q])) gS
    have l₁ : s.heap.objs.size < h₁.objs.size := Heap.lt_size P₁
    show wpAny _ A.in1 (updateSeq S (·.push (Value.ref s.heap.objs.size)) >>= _) _ _ _
    refine wpAny_bind ?_
    have oth : ∀ c o, c ≠ S → h₁.get? c = some o → (h₁.update S (Obj.mapSeq (·.push (Value.ref s.heap.objs.size)))).get? c = some o := fun c o hc e => (Heap.get?_update_other _ _ (Ne.symm hc)).trans e
    have gS₂ := Heap.get?_update_self (Obj.mapSeq (·.push (Value.ref s.heap.objs.size))) gS₁ rfl
    refine wpAny_updateSeq (s := { s with heap := h₁ }) gS₁ rfl (wpAny_pure ⟨plainId_quiet PySem.F.plain_extend_loop _, ih (i + 1) _ (acc.push (Value.ref s.heap.objs.size)) _ (by omega) hi (Z₁.but hS oth ⟨_, gS₂⟩) gS₂ (by rw [Array.size_push, e3]) fun h' tk acc' c' Ts k1 k2 k3 k4 k5 k6 => ?_⟩) (by omega) (by show (acc.push _).size ≤ sizeLine + 1; rw [Array.size_push]; omega)
    replace k5 : ∀ T ∈ Ts, h₁.objs.size ≤ T := fun T hT => by
      have := k5 T hT
      rwa [Heap.size_update] at this
    have fresh : s.heap.objs.size ∉ [z, TO, i1, i2, S] := fun q => by
      simp only [List.mem_cons, List.not_mem_nil, or_false] at q
      rcases q with q | q | q | q | q
      · exact absurd (szs z (by simp)) (by rw [q]; exact Nat.lt_irrefl _)
      · exact absurd (szs TO (by simp)) (by rw [q]; exact Nat.lt_irrefl _)
      · exact absurd (szs i1 (by simp)) (by rw [q]; exact Nat.lt_irrefl _)
      · exact absurd (szs i2 (by simp)) (by rw [q]; exact Nat.lt_irrefl _)
      · exact absurd lS (by rw [q]; exact Nat.lt_irrefl _)
    have nS : s.heap.objs.size ≠ S := fun q => fresh (by simp [q])
    refine hR h' tk acc' c' (s.heap.objs.size :: Ts) (fun c o hc e => k1 c o hc (oth c o (fun q => hc (by simp [q])) (kp c o (fun q => hc (by
      simp only [List.mem_cons, List.not_mem_nil, or_false] at q ⊢
      rcases q with q | q | q | q <;> simp [q])) e))) k2 (by rw [k3]; simp) (.cons (fun T hT => Nat.lt_of_lt_of_le l₁ (k5 T hT)) k4) (fun T hT => ?_) ?_
    · rcases List.mem_cons.mp hT with q | q
      · rw [q]; exact Nat.le_refl _
      · exact Nat.le_trans (Nat.le_of_lt l₁) (k5 T q)
    · have q1 : xs.toList.drop i = xs[i] :: xs.toList.drop (i + 1) := by
        rw [List.drop_eq_getElem_cons (by simpa using hi)]
        simp
      have q2 : ys.toList.drop i = ys[i] :: ys.toList.drop (i + 1) := by
        rw [List.drop_eq_getElem_cons (by simpa using (by omega : i < ys.size))]
        simp
      rw [q1, q2]
      exact .cons (k1 _ _ fresh (oth _ _ nS P₁)) k6
end
end L2

set_option Elab.async false
set_option linter.all false
set_option maxRecDepth 100000
set_option maxHeartbeats 4000000
namespace L2
open PySem PySem.Spec PyProof.Rows
theorem zip_no_len : typeLookup (.type "zip") "__len__" = pure none := by rw [typeLookup_type, builtinLookup_eq_fast]; kernel_rfl
theorem zip_no_hint : typeLookup (.type "zip") "__length_hint__" = pure none := by rw [typeLookup_type, builtinLookup_eq_fast]; kernel_rfl
section
variable {prog : Program} {w : World} {A : Around} {E : Value → Shared → Prop} {s : Shared}
theorem call_zipL {l t : Addr} {xs ys : Array Value} {Q : Value → Shared → Prop} (hl : s.heap.IsList l xs) (ht : s.heap.IsList t ys)
    (h : ∀ h', ZL h' (s.heap.objs.size + 4) (s.heap.objs.size + 2) (s.heap.objs.size + 3) s.heap.objs.size (s.heap.objs.size + 1) l t xs ys 0 → h'.objs.size = s.heap.objs.size + 5 → (∀ c o, s.heap.get? c = some o → h'.get? c = some o) → Q (.ref (s.heap.objs.size + 4)) { s with heap := h' }) :
    wpAny (model prog w) A (call (.type "zip") [.ref l, .ref t]) Q E s :=
  call_zip_2 hl ht fun h' z ti to i1 i2 sz kp => h h' ⟨⟨.none, .bool false, z, .inl rfl⟩, ti, ⟨_, _, to⟩, i1, i2, hl.at fun o q => kp _ _ q, ht.at fun o q => kp _ _ q⟩ sz kp
theorem call_listOfZ {Q : Value → Shared → Prop} {z TI TO i1 i2 l t : Addr} {xs ys : Array Value} (hh : A.handled = none) (D : ZAp z TI TO i1 i2 l t) (Z : ZL s.heap z TI TO i1 i2 l t xs ys 0) (hxy : xs.size = ys.size) (hb : xs.size ≤ 4000)
    (h : ∀ h' tk acc' c' (Ts : List Addr), (∀ c o, c ∉ [z, TO, i1, i2] → s.heap.get? c = some o → h'.get? c = some o) → h'.get? s.heap.objs.size = some (LObj acc' c') → acc'.toList = Ts.map Value.ref → Ts.Pairwise (· < ·) → (∀ T ∈ Ts, s.heap.objs.size < T) →
      PairsAt h' Ts xs.toList ys.toList → Q (.ref s.heap.objs.size) { s with heap := h', toks := tk }) :
    wpAny (model prog w) A (call (.type "list") [.ref z]) Q E s := by
  refine callType_codes (Q₁ := fun obj s₁ => obj = .ref s.heap.objs.size ∧ s₁ = { s with heap := s.heap.push { cls := .type "list", data := .seq #[] } }) PySem.F.called_list (PySem.F.typeCall_list_1 _) PySem.F.entry_list_init (code_list_new _ ⟨rfl, rfl⟩) fun obj s₁ h₁ => ?_
  obtain ⟨rfl, rfl⟩ := h₁
  have hS : (s.heap.push { cls := .type "list", data := .seq #[] }).get? s.heap.objs.size = some (LObj #[] 0) := Heap.get?_push_size _ rfl
  have Z1 := Z.size
  have nS : s.heap.objs.size ∉ [z, TI, TO, i1, i2, l, t] := fun q => absurd (Z1 _ q) (Nat.lt_irrefl _)
  have up : ∀ c o, s.heap.get? c = some o → (s.heap.push { cls := .type "list", data := .seq #[] }).get? c = some o := fun c o q => Heap.get?_push_of_some _ q
  have Zp : ZL (s.heap.push { cls := .type "list", data := .seq #[] }) z TI TO i1 i2 l t xs ys 0 := Z.but nS (fun c o _ q => up c o q) ⟨_, hS⟩
  have ne : s.heap.objs.size ≠ z := fun q => nS (by simp [q])
  refine ⟨⟨_, hS, rfl⟩, PySem.F.args_list_init_2 _ _, ?_⟩
  show wpAny _ _ (do let old ← Builtin.List.listItems (.ref s.heap.objs.size); Builtin.List.listUpdate (.ref s.heap.objs.size) (fun _ => #[]); letGo old.toList.reverse; Builtin.List.listExtendWith (.ref s.heap.objs.size) (.ref z) .none) _ _ _
  refine wpAny_bind ?_
  unfold Builtin.List.listItems
  refine wpAny_bind (wpAny_seqItems hS rfl (wpAny_pure ?_))
  show wpAny _ _ (updateSeq s.heap.objs.size (fun _ => #[]) >>= fun _ => letGo (#[] : Array Value).toList.reverse >>= fun _ => Builtin.List.listExtendWith (.ref s.heap.objs.size) (.ref z) .none) _ _ _
  refine wpAny_bind (wpAny_updateSeq (s := { s with heap := s.heap.push { cls := .type "list", data := .seq #[] } }) hS rfl ?_)
  have hS₂ := Heap.get?_update_self (Obj.mapSeq (fun _ => (#[] : Array Value))) hS rfl
  have oth₂ : ∀ b o, b ≠ s.heap.objs.size → (s.heap.push { cls := .type "list", data := .seq #[] }).get? b = some o → ((s.heap.push { cls := .type "list", data := .seq #[] }).update s.heap.objs.size (Obj.mapSeq (fun _ => (#[] : Array Value)))).get? b = some o := fun b o hb e => (Heap.get?_update_other _ _ (Ne.symm hb)).trans e
  have Z₂ := Zp.but nS oth₂ ⟨_, hS₂⟩
  refine wpAny_bind (wpAny_letGo ?_)
  obtain ⟨f0, f1, gz, _⟩ := Z₂.z
  unfold Builtin.List.listExtendWith
  refine wpAny_bind (wpAny_typeOf (T := "zip") ⟨_, gz, rfl⟩ ?_)
  have h1 : Builtin.List.listSameRef (.ref s.heap.objs.size) (.ref z) = false := by simp [Builtin.List.listSameRef, ne]
  have h2 : (Value.type "zip" == Value.type "list") = false := by decide
  have h3 : (Value.type "zip" == Value.type "tuple") = false := by decide
  simp only [h1, h2, h3, Bool.or_false, Bool.false_eq_true, if_false]
  refine wpAny_bind (iter_zip (s := _) gz ?_)
  refine wpAny_bind (wpAny_holding ?_)
  unfold Builtin.List.listLengthHint
  refine wpAny_bind (wpAny_specialOf (T := "zip") ⟨_, gz, rfl⟩ zip_no_len ?_)
  show wpAny _ _ (specialOf (Value.ref z) (Str.ofString "__length_hint__") >>= _) _ _ _
  refine wpAny_bind (wpAny_specialOf (T := "zip") ⟨_, gz, rfl⟩ zip_no_hint ?_)
  refine wpAny_pure ?_
  show wpAny _ _ (rule "list.extend.makes-room" >>= fun _ => Builtin.List.listTouch (.ref s.heap.objs.size) >>= fun _ => again (.builtin "list.extend.loop" ⟨[.ref s.heap.objs.size, .ref z, .none], []⟩)) _ _ _
  refine wpAny_bind (wpAny_rule ?_)
  refine wpAny_bind ?_
  show wpAny _ _ (updateSeq s.heap.objs.size (·.push .none) >>= fun _ => updateSeq s.heap.objs.size (·.pop)) _ _ _
  refine wpAny_bind (wpAny_updateSeq hS₂ rfl ?_)
  have hS₃ := Heap.get?_update_self (Obj.mapSeq (·.push Value.none)) hS₂ rfl
  refine wpAny_updateSeq (hz := by seq_fits) hS₃ rfl ?_
  have hS₄ := Heap.get?_update_self (Obj.mapSeq (·.pop)) hS₃ rfl
  have oth₄ : ∀ b o, b ≠ s.heap.objs.size → ((s.heap.push { cls := .type "list", data := .seq #[] }).update s.heap.objs.size (Obj.mapSeq (fun _ => (#[] : Array Value)))).get? b = some o → ((((s.heap.push { cls := .type "list", data := .seq #[] }).update s.heap.objs.size (Obj.mapSeq (fun _ => (#[] : Array Value)))).update s.heap.objs.size (Obj.mapSeq (·.push Value.none))).update s.heap.objs.size (Obj.mapSeq (·.pop))).get? b = some o :=
    fun b o hb e => (Heap.get?_update_other _ _ (Ne.symm hb)).trans ((Heap.get?_update_other _ _ (Ne.symm hb)).trans e)
  refine wpAny_pure ⟨plainId_quiet PySem.F.plain_extend_loop _, el_loop (by simpa using hh) D nS hxy hb _ 0 _ #[] _ rfl (Nat.zero_le _) (Z₂.but nS oth₄ ⟨_, hS₄⟩) hS₄ rfl fun h' tk acc' c' Ts k1 k2 k3 k4 k5 k6 => ?_⟩
  refine ⟨rfl, h h' tk acc' c' Ts (fun c o hc e => k1 c o (fun q => ?_) (oth₄ c o ?_ (oth₂ c o ?_ (up c o e)))) k2 (by simpa using k3) k4 (fun T hT => ?_) (by simpa using k6)⟩
  · simp only [List.mem_cons, List.not_mem_nil, or_false] at q
    rcases q with q | q | q | q | q
    · exact hc (by simp [q])
    · exact hc (by simp [q])
    · exact hc (by simp [q])
    · exact hc (by simp [q])
    · rw [q] at e; exact absurd (Heap.lt_size e) (Nat.lt_irrefl _)
  · intro q; rw [q] at e; exact absurd (Heap.lt_size e) (Nat.lt_irrefl _)
  · intro q; rw [q] at e; exact absurd (Heap.lt_size e) (Nat.lt_irrefl _)
  · have := k5 T hT
    simp only [Heap.size_update, Heap.size_push] at this
    exact this
end
end L2

set_option Elab.async false
set_option linter.all false
set_option maxRecDepth 100000
set_option maxHeartbeats 4000000
namespace L2
open PySem PySem.Spec PyProof.Rows
/-- several new objects at once -/
theorem Inv.lays {X : Cx} {pins : List (Addr × Obj)} {σ : List (Option V)} {H H' : Hp} {s : Shared} {h' : Heap} {t' : Nat} (I : Inv X pins σ H s) (k : ∀ b u, s.heap.get? b = some u → h'.get? b = some u) (lo : ∀ b, b < s.heap.objs.size → H' b = H b)
    (new : ∀ b u, s.heap.objs.size ≤ b → H' b = some u → ObjOk X.prog X.w H' h' b u) : Inv X pins σ H' { s with heap := h', toks := t' } := by
  have lt : ∀ b u, H b = some u → b < s.heap.objs.size := fun b u e => Nat.lt_of_not_le fun z => by rw [I.hok.fresh z] at e; cases e
  have same : ∀ b u, H b = some u → H' b = some u := fun b u e => (lo b (lt b u e)).trans e
  refine I.un ⟨fun b o q _ _ _ => k b o q, fun b o q _ _ _ => ⟨o.slots, k b o q⟩, fun b o q n _ => (lo b (Heap.lt_size q)).trans n, fun b o q _ => ⟨o, k b o q⟩, fun b xs q => same b _ q, fun b o u q => same b _ q, fun b ps q => ⟨#[], by rw [same b _ q]; simp⟩⟩ fun b u e => ?_
  by_cases hb : b < s.heap.objs.size
  · rw [lo b hb] at e
    exact (I.hok b u e).stay (fun c v _ q => k c v q) (fun c q => same c _ q) fun c xs q => same c _ q
  · exact new b u (Nat.le_of_not_lt hb) e
def upT : Hp → List Addr → List (V × V) → Hp
  | H, t :: ts, p :: ps => upT (upd H t (.tup [p.1, p.2])) ts ps
  | H, _, _ => H
theorem upT_ne : ∀ {ts : List Addr} {ps : List (V × V)} {H : Hp} {b : Addr}, b ∉ ts → upT H ts ps b = H b
  | [], _, _, _, _ => by cases ‹List (V × V)› <;> rfl
  | t :: ts, [], _, _, _ => rfl
  | t :: ts, p :: ps, H, b, h => by
    show upT (upd H t _) ts ps b = _
    rw [upT_ne (fun z => h (List.mem_cons_of_mem _ z)), upd_ne (fun z : b = t => h (by rw [z]; exact List.mem_cons_self))]
theorem upT_in : ∀ {ts : List Addr} {ps : List (V × V)} {H : Hp} {b : Addr} {u : HO}, upT H ts ps b = some u → (∃ p, (b, p) ∈ ts.zip ps ∧ u = .tup [p.1, p.2]) ∨ H b = some u
  | [], ps, H, b, u, h => .inr (by rwa [upT_ne (by simp)] at h)
  | t :: ts, [], H, b, u, h => .inr h
  | t :: ts, p :: ps, H, b, u, h => by
    rcases upT_in (ts := ts) (ps := ps) (H := upd H t (.tup [p.1, p.2])) h with ⟨q, hq, e⟩ | h
    · exact .inl ⟨q, List.mem_cons_of_mem _ hq, e⟩
    · by_cases e : b = t
      · subst e
        rw [upd_same] at h
        cases h
        exact .inl ⟨p, List.mem_cons_self, rfl⟩
      · rw [upd_ne e] at h
        exact .inr h
theorem pairs_rel : ∀ {h : Heap} {Ts : List Addr} {xs ys : List Value} {vs ws : List V}, PairsAt h Ts xs ys → Vals vs xs → Vals ws ys → ∀ b p, (b, p) ∈ Ts.zip (vs.zip ws) → ∃ x y, RelV p.1 x ∧ RelV p.2 y ∧ IsPair h b x y
  | _, _, _, _, _, _, .nil, .nil, .nil, b, p, h => by cases h
  | _, _, _, _, _, _, .cons i r, .cons h1 r1, .cons h2 r2, b, p, h => by
    rcases List.mem_cons.mp h with e | e
    · cases e
      exact ⟨_, _, h1, h2, i⟩
    · exact pairs_rel r r1 r2 b p e
theorem pairs_len : ∀ {h : Heap} {Ts : List Addr} {xs ys : List Value}, PairsAt h Ts xs ys → Ts.length = xs.length
  | _, _, _, _, .nil => rfl
  | _, _, _, _, .cons _ r => by rw [List.length_cons, List.length_cons, pairs_len r]
theorem vals_refs : ∀ Ts : List Addr, Vals (Ts.map V.ref) (Ts.map Value.ref)
  | [] => .nil
  | t :: ts => .cons rfl (vals_refs ts)
def tListZ (K : PySem.W.Frag) (ta : TA) : TE := fun σ H Q => ta σ H fun us H1 => ∃ (a b : Addr) (xs ys : List V), us = [.ref a, .ref b] ∧ SqL K H1 a xs ∧ SqL K H1 b ys ∧ xs.length = ys.length ∧ xs.length ≤ 4000 ∧
  ∀ (ts : List Addr) (l : Addr), ts.Nodup → l ∉ ts → (∀ t ∈ l :: ts, H1 t = none) → ts.length = xs.length → Q (.ref l) (upd (upT H1 ts (xs.zip ys)) l (.lst (ts.map V.ref)))
theorem pe_listZ {X : Cx} {K : PySem.W.Frag} {a b : Expr} {ta : TA} {p p2 pos pos2 : Pos} (hc : X.calm = true) (hK : X.K = K) (hg : Gl X "list") (hm : X.mg "list" = none) (hg2 : Gl X "zip") (hm2 : X.mg "zip" = none) (ha : PA X [a, b] ta)
    (hs : starEach [a, b] X.env = [(false, eval a X.env), (false, eval b X.env)] := by rfl) (hs2 : starEach [b] X.env = [(false, eval b X.env)] := by rfl)
    (hs3 : starEach [.Call (.Name "zip" p2) [a, b] [] pos2] X.env = [(false, eval (.Call (.Name "zip" p2) [a, b] [] pos2) X.env)] := by rfl) :
    PE X (.Call (.Name "list" p) [.Call (.Name "zip" p2) [a, b] [] pos2] [] pos) (tListZ K ta) := by
  subst hK
  intro pins s σ H R I h
  refine Call_ (ld_blt I hg hm bt_list (PyProof.Rows.callWith_type1 ?_ (by rw [hs3]; rfl) rfl))
  rw [hs3]
  refine Calls.spliced_cons ?_
  refine Call_ (ld_blt I hg2 hm2 boot_zip (PyProof.Rows.callWith_type1 (thn (ha pos2 pins s σ H _ I h) fun us s1 ⟨vs, H1, I1, r1, q1⟩ => ?_) (by rw [hs, hs2]) (by rw [hs2]; rfl)))
  obtain ⟨l, t, xs, ys, e, hq1, hq2, hle, hlt, q⟩ := q1
  subst e
  obtain ⟨u1, u2, rfl, r1, r2⟩ := vals2 r1
  cases r1
  cases r2
  obtain ⟨its1, rv1, pl1, _⟩ := I1.list hq1
  obtain ⟨its2, rv2, pl2, _⟩ := I1.list hq2
  have lt1 : l < s1.heap.objs.size := by obtain ⟨_, e, _⟩ := pl1.isList; exact Heap.lt_size e
  have lt2 : t < s1.heap.objs.size := by obtain ⟨_, e, _⟩ := pl2.isList; exact Heap.lt_size e
  refine call_zipL pl1.isList pl2.isList fun h' Z sz kp => ?_
  refine Calls.spliced_nil ?_
  have e1 : its1.length = xs.length := rv1.length.symm
  have e2 : its2.length = ys.length := rv2.length.symm
  refine call_listOfZ (s := { s1 with heap := h' }) (I1.ok.hd hc) (zap_new lt1 lt2) Z (by simp only [List.size_toArray]; omega) (by simp only [List.size_toArray]; omega) fun h2 tk acc' c' Ts k1 k2 k3 k4 k5 k6 => ?_
  have g0 : s1.heap.objs.size ≤ h'.objs.size := by rw [sz]; exact Nat.le_add_right _ 5
  have k6' : PairsAt h2 Ts its1 its2 := by simpa using k6
  have tl : Ts.length = xs.length := (pairs_len k6').trans e1
  have hS : h'.objs.size ∉ Ts := fun z => absurd (k5 _ z) (Nat.lt_irrefl _)
  have nd : Ts.Nodup := k4.imp fun h => Nat.ne_of_lt h
  have fr : ∀ T ∈ h'.objs.size :: Ts, s1.heap.objs.size ≤ T := fun T hT => by
    rcases List.mem_cons.mp hT with z | z
    · rw [z]; exact g0
    · exact Nat.le_trans g0 (Nat.le_of_lt (k5 T z))
  refine ⟨.ref h'.objs.size, _, ?_, rfl, q Ts h'.objs.size nd hS (fun T hT => I1.hok.fresh (fr T hT)) tl⟩
  refine I1.lays (t' := tk) (fun b u e => k1 b u (fun z => ?_) (kp b u e)) (fun b hb => ?_) fun b u hb e => ?_
  · have lt := Heap.lt_size e
    simp only [List.mem_cons, List.not_mem_nil, or_false] at z
    rcases z with z | z | z | z
    · rw [z] at lt; exact absurd lt (Nat.not_lt.mpr (Nat.le_add_right _ 4))
    · rw [z] at lt; exact absurd lt (Nat.not_lt.mpr (Nat.le_add_right _ 3))
    · rw [z] at lt; exact absurd lt (Nat.not_lt.mpr (Nat.le_refl _))
    · rw [z] at lt; exact absurd lt (Nat.not_lt.mpr (Nat.le_add_right _ 1))
  · rw [upd_ne (fun z => absurd hb (by rw [z]; exact Nat.not_lt.mpr g0)), upT_ne (fun z => absurd hb (Nat.not_lt.mpr (fr b (List.mem_cons_of_mem _ z))))]
  · by_cases z : b = h'.objs.size
    · subst z
      rw [upd_same] at e
      cases e
      have hz : (Ts.map V.ref).length ≤ sizeLine := by rw [List.length_map, tl]; exact Nat.le_trans hlt (by decide)
      exact ⟨hz, acc'.toList, c', by rw [k3]; exact vals_refs Ts, k2⟩
    · rw [upd_ne z] at e
      rcases upT_in e with ⟨p, hp, rfl⟩ | e
      · obtain ⟨x, y, rx, ry, ip⟩ := pairs_rel k6' rv1 rv2 b p hp
        exact ⟨by show 2 ≤ sizeLine; decide, [x, y], .cons rx (.cons ry .nil), ⟨_, ip, rfl, _, rfl⟩⟩
      · rw [I1.hok.fresh hb] at e
        cases e
def zipO {α β : Type} (a : List α) (b : List β) : Option (List (α × β)) := if a.length = b.length ∧ a.length ≤ 4000 then some (a.zip b) else none
section
variable {K : PySem.W.Frag} {σ : St} {G H : Hp} {α β : Type} [Rp α] [Rp β] {ta tb : TE}
theorem ext_upT : ∀ {ts : List Addr} {ps : List (V × V)} {G H : Hp}, Same G H → ts.Nodup → (∀ t ∈ ts, H t = none) → Ext G H (upT G ts ps) (upT H ts ps)
  | [], ps, G, H, s, _, _ => by cases ps <;> exact Ext.refl s
  | t :: ts, [], G, H, s, _, _ => Ext.refl s
  | t :: ts, p :: ps, G, H, s, nd, h => by
    rw [List.nodup_cons] at nd
    refine (Ext.new (o := .tup [p.1, p.2]) s (h t List.mem_cons_self)).trans (ext_upT s.both nd.2 fun t' ht => ?_)
    rw [upd_ne (fun z : t' = t => nd.1 (by rw [← z]; exact ht))]
    exact h t' (List.mem_cons_of_mem _ ht)
theorem rel_upT : ∀ {ts : List Addr} {xs ys : List V} {as : List α} {bs : List β} {G : Hp}, ts.Nodup → (∀ t ∈ ts, G t = none) → ts.length = xs.length → Paired (Rp.rel K G) xs as → Paired (Rp.rel K G) ys bs → xs.length = ys.length → Paired (Rp.rel K (upT G ts (xs.zip ys))) (ts.map V.ref) (as.zip bs)
  | [], [], [], _, _, _, _, _, _, .nil, .nil, _ => .nil
  | t :: ts, x :: xs, y :: ys, a :: as, b :: bs, G, nd, hn, hl, .cons ra pa, .cons rb pb, he => by
    rw [List.nodup_cons] at nd
    have g : G t = none := hn t List.mem_cons_self
    have s1 : Same G (upd G t (.tup [x, y])) := Same.new g
    have hn' : ∀ t' ∈ ts, upd G t (.tup [x, y]) t' = none := fun t' ht => by
      rw [upd_ne (fun z : t' = t => nd.1 (by rw [← z]; exact ht))]
      exact hn t' (List.mem_cons_of_mem _ ht)
    have s2 : Same (upd G t (.tup [x, y])) (upT (upd G t (.tup [x, y])) ts (xs.zip ys)) := (ext_upT (ps := xs.zip ys) (Same.refl (upd G t (.tup [x, y]))) nd.2 hn').gg
    refine .cons ⟨t, x, y, rfl, .inl (.inl (s2 _ _ upd_same)), Rp.mono (s1.trans s2) ra, Rp.mono (s1.trans s2) rb⟩ ?_
    exact rel_upT nd.2 hn' (by simpa using hl) (Paired.imp' (fun _ _ r => Rp.mono s1 r) pa) (Paired.imp' (fun _ _ r => Rp.mono s1 r) pb) (by simpa using he)
theorem ev_listZ {la : Option (List α)} {lb : Option (List β)} (ea : EV K ta σ G la) (eb : EV K tb σ G lb) : EV K (tListZ K (tCons ta (tCons tb tNil))) σ G (la.bind fun a => lb.bind fun b => zipO a b) := by
  intro G1 s1 c hc H sH Q k
  obtain ⟨a, ha, hc⟩ := Option.bind_eq_some_iff.mp hc
  obtain ⟨b, hb, hc⟩ := Option.bind_eq_some_iff.mp hc
  obtain ⟨hl, rfl⟩ := ite_some hc
  refine ea G1 s1 a ha H sH _ fun v G2 H2 x2 r2 => ?_
  refine eb G2 (s1.trans x2.gg) b hb H2 x2.gh _ fun u G3 H3 x3 r3 => ?_
  obtain ⟨l, xs, rfl, h, z, p⟩ := Rp.mono x3.gg r2
  obtain ⟨t, ys, rfl, h', z', p'⟩ := r3
  have hx : xs.length = a.length := paired_len2 p
  have hy : ys.length = b.length := paired_len2 p'
  refine ⟨l, t, xs, ys, rfl, .inl (x3.gh.rd h), .inl (x3.gh.rd h'), by rw [hx, hy]; exact hl.1, by rw [hx]; exact hl.2, fun ts q nd hq hn htl => ?_⟩
  have ht : ∀ t ∈ ts, H3 t = none := fun t' h => hn t' (List.mem_cons_of_mem _ h)
  have x4 := ext_upT (ps := xs.zip ys) x3.gh nd ht
  have hq4 : upT H3 ts (xs.zip ys) q = none := by rw [upT_ne hq]; exact hn q List.mem_cons_self
  have x5 := Ext.new (o := .lst (ts.map V.ref)) x4.gh hq4
  refine k _ _ _ (((x2.trans x3).trans x4).trans x5) ⟨q, _, rfl, .inl upd_same, ?_, Paired.imp' (fun _ _ r => Rp.mono x5.gg r) (rel_upT nd (fun t' h => x3.gh.free (ht t' h)) htl p p' (by rw [hx, hy]; exact hl.1))⟩
  rw [List.length_map, htl]
  exact z
end
end L2

set_option Elab.async false
set_option linter.all false
set_option maxRecDepth 100000
set_option maxHeartbeats 4000000
namespace L2
open PySem PySem.Spec PyProof.Rows
def idxZ (xs : List Int) (y : Int) : Option Int := if y ∈ xs ∧ xs.length ≤ 1000 then some ((xs.idxOf y : Nat) : Int) else none
def rIndexI (K : PySem.W.Frag) : V → List V → Hp → VK → Prop := fun x vs H Q => ∃ (l : Addr) (ys : List Int) (y : Int) (k : Int), x = .ref l ∧ vs = [.int y] ∧ SqL K H l (ys.map V.int) ∧ idxZ ys y = some k ∧ Q (.int k) H
theorem flat_ints : ∀ ys : List Int, (ys.map V.int).all flatV = true
  | [] => rfl
  | y :: ys => by rw [List.map_cons, List.all_cons, flat_ints ys]; rfl
theorem eqU_int {ys : List Int} {its : List Value} (r : Vals (ys.map V.int) its) (y : Int) (j : Nat) (hj : j < its.length) (hy : j < ys.length) : eqU (V.int y) its[j] = (ys[j] == y) := by
  obtain ⟨u, hu, ru⟩ := r.get (i := j) (x := V.int ys[j]) (by simp [hy])
  have : its[j] = u := by rw [List.getElem?_eq_getElem hj] at hu; exact Option.some.inj hu
  rw [this, eqU_of ru rfl]
  rfl
theorem mt_indexI {X : Cx} {K : PySem.W.Frag} (h : X.K = K) : MtR X "list.index" (rIndexI K) := by
  subst h
  intro pins s σ H x vs v us Q I rx rv h
  obtain ⟨l, ys, y, k, rfl, rfl, hl, hk, q⟩ := h
  obtain ⟨⟨hm, hn⟩, rfl⟩ := ite_some hk
  cases rx
  obtain ⟨u, rfl, ru⟩ := vals1 rv
  obtain ⟨its, r, pl, _⟩ := I.list hl
  have hlen := r.length
  rw [List.length_map] at hlen
  have hj : ys.idxOf y < ys.length := List.idxOf_lt_length_iff.mpr hm
  obtain ⟨⟨cls, dd, data, sl⟩, ho, hc, n, hd⟩ := pl.isList
  simp only at hc hd
  subst hc hd
  refine call_meets PySem.F.slot_list_index ⟨_, ho, rfl⟩ PySem.F.entry_list_index (PySem.F.args_list_index_2 _ _) (SeqAt.list_indexAt l its.toArray n dd sl u (eqU (V.int y)) (ys.idxOf y) (by rw [List.size_toArray]; omega) (by omega) ?_ ?_) ⟨ho, fun w hw => mem_eqAt ru rfl r (flat_ints ys) w (by simpa using hw), ?_⟩
  · show eqU (V.int y) its[ys.idxOf y] = true
    rw [eqU_int r y _ (by omega) hj]
    simpa using List.getElem_idxOf hj
  · intro j hjs hlt
    show eqU (V.int y) its[j] = false
    rw [eqU_int r y j (by simpa using hjs) (by omega)]
    have := List.not_of_lt_findIdx (p := (· == y)) (xs := ys) hlt
    simpa using this
  · exact ⟨.int _, H, I.tok _, ⟨_, rfl⟩, q⟩
def sortRO (ys : List Int) : Option (List Int) := if ys.length < 64 then some (sortZ ys).reverse else none
def tSortR (K : PySem.W.Frag) (ta : TA) : TE := fun σ H Q => ta σ H fun us H1 => ∃ (l : Addr) (ns : List Int), us = [.ref l] ∧ SqL K H1 l (ns.map V.int) ∧ ns.length < 64 ∧ ∀ p, H1 p = none → Q (.ref p) (upd H1 p (.lst ((sortZ ns).reverse.map V.int)))
theorem sortR_of {ns ns' : List Int} (hp : ns'.Perm ns) (ho : Ordered true ns') : ns' = (sortZ ns).reverse := by
  have h1 : ns'.reverse.Pairwise (· ≤ ·) := List.pairwise_reverse.mpr (by unfold Ordered at ho; simpa using ho)
  have h2 := sortZ_of (ss := ns) (ss' := ns'.reverse) ((List.reverse_perm ns').trans hp) h1
  rw [← h2, List.reverse_reverse]
theorem pe_sortR {X : Cx} {K : PySem.W.Frag} {a : Expr} {ta : TA} {p pos cp kp : Pos} (hK : X.K = K) (hg : Gl X "sorted") (hm : X.mg "sorted" = none) (ha : PA X [a] ta)
    (hs : starEach [a] X.env = [(false, eval a X.env)] := by rfl) :
    PE X (.Call (.Name "sorted" p) [a] [⟨some "reverse", .Constant (.bool true) 0 cp, kp⟩] pos) (tSortR K ta) := by
  subst hK
  intro pins s σ H R I h
  refine wpAny_Call_Name_kw (ld_blt I hg hm bt_sorted ?_)
  refine PyProof.Rows.callWith_kw (thn (ha pos pins s σ H _ I h) fun us s1 ⟨vs, H1, I1, r1, q1⟩ => ?_) (by rw [hs]; rfl) (by rw [hs]; rfl)
  refine PyProof.Rows.kwAll_cons (thn (pe_bl (b := true) pins s1 σ H1 (fun v H' => v = .bl true ∧ H' = H1) I1 ⟨rfl, rfl⟩) fun u s2 ⟨x, H2, I2, r2, e1, e2⟩ => ?_)
  subst e1 e2
  cases r2
  refine PyProof.Rows.kwAll_nil ?_
  obtain ⟨l, ns, e, hq, hl, q⟩ := q1
  subst e
  obtain ⟨u1, rfl, ru⟩ := vals1 r1
  cases ru
  obtain ⟨its, r, pl, _⟩ := I2.list hq
  have hlen := r.length
  rw [List.length_map] at hlen
  refine sorted_ints_rev (b := true) pl.isList (intsAre_of r) (by omega) fun out ns' a1 a2 a3 => ?_
  have e := sortR_of a2 a3
  subst e
  obtain ⟨c, hc⟩ := sortedAll_at s2.heap its out
  refine ⟨.ref (s2.heap.objs.size + 1), _, I2.laid (t' := s2.toks) (o := .lst ((sortZ ns).reverse.map V.int)) (fun b o e => sortedAll_old e) (Nat.le_succ _) ⟨?_, out.toList, c, vals_ints a1, by simpa using hc⟩, rfl, q _ (I2.hok.fresh (Nat.le_succ _))⟩
  rw [List.length_map, List.length_reverse, sortZ_len, sizeLine_eq]
  omega
section
variable {K : PySem.W.Frag} {σ : St} {G H : Hp} {ta tb te : TE} {rest : TS} {D : Ends} {i : Nat} {v : V} {p : Addr} {vs : List V} {β : Type} [Rp β]
theorem ev_indexI {la : Option (List Int)} {sb : Option Int} (ea : EV K ta σ G la) (eb : EV K tb σ G sb) : EV K (tBM K "list" (rIndexI K) ta (tCons tb tNil)) σ G (la.bind fun xs => sb.bind fun y => idxZ xs y) := by
  intro G1 s1 c hc H sH Q k
  obtain ⟨a, ha, hc⟩ := Option.bind_eq_some_iff.mp hc
  obtain ⟨b, hb, hc⟩ := Option.bind_eq_some_iff.mp hc
  refine ea G1 s1 a ha H sH _ fun v G2 H2 x2 r2 => ?_
  obtain ⟨l, xs, rfl, h, z, p⟩ := r2
  refine ⟨.inl ⟨rfl, xs, .inl (x2.gh.rd h)⟩, ?_⟩
  refine eb G2 (s1.trans x2.gg) b hb H2 x2.gh _ fun w G3 H3 x3 r3 => ?_
  cases r3
  have e := paired_intsR p
  subst e
  exact ⟨l, a, b, c, rfl, rfl, .inl (x3.gh.rd (x3.gg.rd h)), hc, k _ _ _ (x2.trans x3) rfl⟩
theorem fv_sortR {la : Option (List Int)} (ea : EV K ta σ G la) : FV K (tSortR K (tCons ta tNil)) σ G (la.bind fun ys => sortRO ys) := by
  intro G1 s1 c hc H sH Q k
  obtain ⟨a, ha, hc⟩ := Option.bind_eq_some_iff.mp hc
  obtain ⟨hl, rfl⟩ := ite_some hc
  refine ea G1 s1 a ha H sH _ fun v G2 H2 x2 r2 => ?_
  obtain ⟨l, xs, rfl, h, z, p⟩ := r2
  have e := paired_intsR p
  subst e
  refine ⟨l, a, rfl, .inl (x2.gh.rd h), hl, fv_of x2.gh ?_ (ints_rel _) (FV.mono x2 k)⟩
  rw [List.length_map, List.length_reverse, sortZ_len, sizeLine_eq]
  omega
/-- x = a new list that is told from an own one -/
theorem sv_setFB {δ : Type} [Rp δ] [Imm δ] {b : List δ} {m : Option (List δ)} {as : List β} (o : Own K G H v p vs as) (e : FV K te σ (upd G p (.lst vs)) m) (hm : m = some b) (s : Same G H) (k : ∀ w G2 H2, Ext G H G2 H2 → Rp.rel K G2 w b → rest D (σ.set i (some w)) H2) : tSeq (tAsg te (gName i)) rest D σ H := by
  refine e _ (.refl _) b hm H (o.same s) _ fun l ys G2 H2 x h0 hg hh hz hpr => ?_
  have gp : G2 p = some (.lst vs) := x.gg _ _ upd_same
  have gl : L2.del G2 p l = none := by
    unfold L2.del
    split
    · rfl
    · exact hg
  have x3 : Ext G H (upd (L2.del G2 p) l (.lst ys)) H2 := (x.del o.g).frz h0 gl hh
  exact k (.ref l) _ H2 x3 ⟨l, ys, rfl, .inl upd_same, hz, Paired.imp' (fun _ _ r => Rp.mono (Same.new gl) (Imm.del gp r)) hpr⟩
end
end L2

set_option Elab.async false
set_option linter.all false
set_option maxRecDepth 100000
set_option maxHeartbeats 4000000
namespace L2
open PySem PySem.Spec PyProof.Rows
def memE {α : Type} [DecidableEq α] (a : α) (l : List α) : Bool := decide (a ∈ l)
section
variable {K : PySem.W.Frag} {σ : St} {G : Hp} {α : Type} [Rp α] [DecidableEq α] {ta tb : TE} {ma : Option α} {ml : Option (List α)}
theorem ev_inEm (ea : EV K ta σ G ma) (eb : EV K tb σ G ml) : EV K (tOp (rInE K α false) ta tb) σ G (ma.bind fun a => ml.bind fun l => some (memE a l)) := ev_inE ea eb
theorem ev_notInEm (ea : EV K ta σ G ma) (eb : EV K tb σ G ml) : EV K (tOp (rInE K α true) ta tb) σ G (ma.bind fun a => ml.bind fun l => some (!memE a l)) := ev_notInE ea eb
end
theorem vals4' {x y z w : V} {us : List Value} (h : Vals [x, y, z, w] us) : ∃ a b c d, us = [a, b, c, d] ∧ RelV x a ∧ RelV y b ∧ RelV z c ∧ RelV w d := by
  cases h with
  | cons r t =>
    obtain ⟨a, b, c, rfl, h1, h2, h3⟩ := vals3' t
    exact ⟨_, _, _, _, rfl, r, h1, h2, h3⟩
def isT4 (K : PySem.W.Frag) {α β γ δ : Type} (R : Hp → V → α → Prop) (S : Hp → V → β → Prop) (T : Hp → V → γ → Prop) (U : Hp → V → δ → Prop) : Hp → V → T4 α β γ δ → Prop := fun H x p => ∃ t a b c d, x = .ref t ∧ SqT K H t [a, b, c, d] ∧ R H a p.a ∧ S H b p.b ∧ T H c p.c ∧ U H d p.d
theorem eqT4 {K : PySem.W.Frag} {k : Nat} {α β γ δ : Type} [DecidableEq α] [DecidableEq β] [DecidableEq γ] [DecidableEq δ] {R : Hp → V → α → Prop} {S : Hp → V → β → Prop} {T : Hp → V → γ → Prop} {U : Hp → V → δ → Prop} (E : EqTy K k R) (G : EqTy K k S) (F : EqTy K k T) (D : EqTy K k U) : EqTy K (k + 1) (isT4 K R S T U) := by
  have fn : ∀ {X : Cx} {pins : List (Addr × Obj)} {σ : St} {H : Hp} {s : Shared} {x : V} {a b : T4 α β γ δ}, X.K = K → Inv X pins σ H s → isT4 K R S T U H x a → isT4 K R S T U H x b → a = b := by
    intro X pins σ H s x a b hK I ha hb
    obtain ⟨l, x1, x2, x3, x4, rfl, h1, p1, p2, p3, p4⟩ := ha
    obtain ⟨l', y1, y2, y3, y4, e, h2, q1, q2, q3, q4⟩ := hb
    cases e
    subst hK
    have := I.tuple_inj h1 h2
    cases this
    obtain ⟨a1, a2, a3, a4⟩ := a
    obtain ⟨b1, b2, b3, b4⟩ := b
    have e1 : a1 = b1 := E.fn rfl I p1 q1
    have e2 : a2 = b2 := G.fn rfl I p2 q2
    have e3 : a3 = b3 := F.fn rfl I p3 q3
    have e4 : a4 = b4 := D.fn rfl I p4 q4
    rw [e1, e2, e3, e4]
  have rc : ∀ {X : Cx} {pins : List (Addr × Obj)} {σ : St} {H : Hp} {s : Shared} {x y : V} {u v : Value} {a b : T4 α β γ δ} (A : Around), X.K = K → Inv X pins σ H s → A.units + (k + 1) < cLine → RelV x u → RelV y v → isT4 K R S T U H x a → isT4 K R S T U H y b →
      SeqAt.RcAt A s u v (decide (a = b)) ∧ SeqAt.RcNeAt A s u v (!decide (a = b)) := by
    intro X pins σ H s x y u v a b A hK I hu r1 r2 ha hb
    obtain ⟨l, x1, x2, x3, x4, rfl, h1, p1, p2, p3, p4⟩ := ha
    obtain ⟨l', y1, y2, y3, y4, rfl, h2, q1, q2, q3, q4⟩ := hb
    cases r1; cases r2
    subst hK
    obtain ⟨us, rx, plx, _⟩ := I.tuple h1
    obtain ⟨vs, ry, ply, _⟩ := I.tuple h2
    obtain ⟨u1, u2, u3, u4, rfl, ru1, ru2, ru3, ru4⟩ := vals4' rx
    obtain ⟨v1, v2, v3, v4, rfl, rv1, rv2, rv3, rv4⟩ := vals4' ry
    have e1 := E.eq A.in1 rfl I (show A.units + 1 + k < cLine by omega) ru1 rv1 p1 q1
    have e2 := G.eq A.in1 rfl I (show A.units + 1 + k < cLine by omega) ru2 rv2 p2 q2
    have e3 := F.eq A.in1 rfl I (show A.units + 1 + k < cLine by omega) ru3 rv3 p3 q3
    have e4 := D.eq A.in1 rfl I (show A.units + 1 + k < cLine by omega) ru4 rv4 p4 q4
    have it : ∀ j (h1 : j < [u1, u2, u3, u4].toArray.size) (h2 : j < [v1, v2, v3, v4].toArray.size), SeqAt.EqAt A.in1 s [u1, u2, u3, u4].toArray[j] [v1, v2, v3, v4].toArray[j] ((fun j => if j = 0 then decide (a.a = b.a) else if j = 1 then decide (a.b = b.b) else if j = 2 then decide (a.c = b.c) else decide (a.d = b.d)) j) := by
      intro j h1 h2
      match j, h1 with
      | 0, _ => exact e1
      | 1, _ => exact e2
      | 2, _ => exact e3
      | 3, _ => exact e4
      | j + 4, h => exact absurd h (by simp)
    have ed : ((List.range (min [u1, u2, u3, u4].toArray.size [v1, v2, v3, v4].toArray.size)).all (fun j => if j = 0 then decide (a.a = b.a) else if j = 1 then decide (a.b = b.b) else if j = 2 then decide (a.c = b.c) else decide (a.d = b.d)) && [u1, u2, u3, u4].toArray.size == [v1, v2, v3, v4].toArray.size) = decide (a = b) := by
      apply Bool.eq_iff_iff.mpr
      rw [decide_eq_true_iff]
      constructor
      · intro h
        have h : (decide (a.a = b.a) && (decide (a.b = b.b) && (decide (a.c = b.c) && (decide (a.d = b.d) && true))) && true) = true := h
        simp only [Bool.and_true, Bool.and_eq_true, decide_eq_true_iff] at h
        obtain ⟨a1, a2, a3, a4⟩ := a
        obtain ⟨b1, b2, b3, b4⟩ := b
        obtain ⟨h1, h2, h3, h4⟩ := h
        dsimp only at h1 h2 h3 h4
        rw [h1, h2, h3, h4]
      · rintro rfl
        show (decide (a.a = a.a) && (decide (a.b = a.b) && (decide (a.c = a.c) && (decide (a.d = a.d) && true))) && true) = true
        simp
    rw [← ed]
    exact ⟨SeqAt.RcAt.tuples plx ply (by omega) it, SeqAt.RcNeAt.tuples plx ply (by omega) it⟩
  refine ⟨fn, ?_, rc⟩
  intro X pins σ H s x y u v a b A hK I hu r1 r2 ha hb
  have h := (rc A hK I hu r1 r2 ha hb).1
  obtain ⟨l, x1, x2, x3, x4, rfl, h1, p1, p2, p3, p4⟩ := id ha
  obtain ⟨l', y1, y2, y3, y4, rfl, h2, q1, q2, q3, q4⟩ := id hb
  cases r1; cases r2
  by_cases e : l = l'
  · subst e
    have : a = b := fn hK I ha hb
    rw [decide_eq_true this]
    exact SeqAt.EqAt.same _
  · exact SeqAt.EqAt.of_refs e h
instance reT4 {α β γ δ : Type} [Rp α] [DecidableEq α] [RpE α] [Rp β] [DecidableEq β] [RpE β] [Rp γ] [DecidableEq γ] [RpE γ] [Rp δ] [DecidableEq δ] [RpE δ] : RpE (T4 α β γ δ) :=
  ⟨max (max (RpE.k α) (RpE.k β)) (max (RpE.k γ) (RpE.k δ)) + 1, fun K => eqT4 ((RpE.ty (α := α) K).up (Nat.le_trans (Nat.le_max_left _ _) (Nat.le_max_left _ _))) ((RpE.ty (α := β) K).up (Nat.le_trans (Nat.le_max_right _ _) (Nat.le_max_left _ _))) ((RpE.ty (α := γ) K).up (Nat.le_trans (Nat.le_max_left _ _) (Nat.le_max_right _ _))) ((RpE.ty (α := δ) K).up (Nat.le_trans (Nat.le_max_right _ _) (Nat.le_max_right _ _)))⟩
end L2

set_option Elab.async false
set_option linter.all false
set_option maxRecDepth 100000
set_option maxHeartbeats 4000000
namespace L2
open PySem PySem.Spec PyProof.Rows
theorem se_int {i : Int} {j : Nat} {p : Pos} {es : List Expr} {env : Env} : starEach (.Constant (.int i) j p :: es) env = (false, eval (.Constant (.int i) j p) env) :: starEach es env := by
  rw [starEach]
  intro _ _ h
  cases h
theorem se_un {a : Expr} {p : Pos} {o : UnaryOp} {es : List Expr} {env : Env} : starEach (.UnaryOp o a p :: es) env = (false, eval (.UnaryOp o a p) env) :: starEach es env := by
  rw [starEach]
  intro _ _ h
  cases h
theorem se_bin {a b : Expr} {p : Pos} {o : Operator} {es : List Expr} {env : Env} : starEach (.BinOp a o b p :: es) env = (false, eval (.BinOp a o b p) env) :: starEach es env := by
  rw [starEach]
  intro _ _ h
  cases h
theorem nxt_ {D : Ends} {σ : St} {H : Hp} (h : D.nx σ H) : tNext D σ H := h
section
variable {X : Cx} {es : List Expr} {t : TA} {te : TE} {p : Pos}
theorem pa_cI {i : Int} {j : Nat} (hr : PA X es t) : PA X (.Constant (.int i) j p :: es) (tCons (tC (.int i)) t) := pa_cons pe_int hr se_int
theorem pa_cU {o : UnaryOp} {a : Expr} (h : PE X (.UnaryOp o a p) te) (hr : PA X es t) : PA X (.UnaryOp o a p :: es) (tCons te t) := pa_cons h hr se_un
theorem pa_cB {o : Operator} {a b : Expr} (h : PE X (.BinOp a o b p) te) (hr : PA X es t) : PA X (.BinOp a o b p :: es) (tCons te t) := pa_cons h hr se_bin
end
end L2

set_option Elab.async false
set_option linter.all false
set_option maxRecDepth 100000
set_option maxHeartbeats 4000000
namespace My
open PySem PySem.Spec PyProof.Rows L2
def m_law_states (cell_here_ : Int) : Option Int :=
  (some (decide (((cell_here_ / (8 : Int)) % (4 : Int)) = (3 : Int)))).bind fun b1 => cond b1
    ((some ((1 : Int) + (cell_here_ % (8 : Int)))))
    ((some ((1 : Int) + (cell_here_ % (4 : Int)))))
abbrev mm_law_states (x : Int × Unit) : Option Int := m_law_states x.1
def m_law_chosen (cell_here_ : Int) (many_ : Int) : Option (List Int) :=
  (some ([] : List Int)).bind fun chosen_here_ =>
  ((some many_).bind fun t9 => rngO 0 t9).bind fun as10 => (forO (S := (Int × (List Int))) (ρ := (List Int)) (fun (k_ : Int) s17 =>
      (some (decide ((s17.1 % (2 : Int)) = (1 : Int)))).bind fun b32 => (cond b32
        ((some k_).bind fun a41 => (pushO s17.2 a41).bind fun z49 =>
        some z49)
        (some s17.2)).bind fun s37 =>
      (some (s17.1 / (2 : Int))).bind fun cell_here_ =>
      some (Fl.nx (cell_here_, s37))) as10 (cell_here_, chosen_here_)).bind fun fl12 => match fl12 with
    | .nx s17 =>
      (some s17.2)
    | .rt r => some r
    | .bk _ => none
abbrev mm_law_chosen (x : Int × Int × Unit) : Option (List Int) := m_law_chosen x.1 x.2.1
def m_law_cell (script_ : Scr) (k_ : Int) : Option Int :=
  (some (decide (k_ < (script_.l.length : Int)))).bind fun b1 => cond b1
    (((some script_).bind fun t6 => (some k_).bind fun t7 => atI t6.l t7))
    ((some ((k_ * (7919 : Int)) + (5 : Int))).bind fun number_ =>
    (some (decide ((0 : Int) < (script_.l.length : Int)))).bind fun b19 => (cond b19
      ((((((some script_).bind fun t32 => ((some (k_ * (7 : Int))).bind fun t30 => (some (script_.l.length : Int)).bind fun t31 => modO t30 t31).bind fun t33 => atI t32.l t33).bind fun t34 => (some (t34 * (48271 : Int)))).bind fun t35 => (some (t35 + (k_ * (7919 : Int))))).bind fun t36 => (some (t36 % (2147483647 : Int)))).bind fun number_ =>
      some number_)
      (some number_)).bind fun s24 =>
    (((some s24).bind fun t46 => (some s24).bind fun t47 => mulO t46 t47).bind fun t48 => (some (t48 % (2147483629 : Int)))))
abbrev mm_law_cell (x : Scr × Int × Unit) : Option Int := m_law_cell x.1 x.2.1
def m_law_lit (letters_here_ : (List Str)) (bits_ : Int) : Option Str :=
  (some ("" : Str)).bind fun text_ =>
  ((some letters_here_).bind fun t7 => sortO t7).bind fun as8 => (forO (S := (Int × Str)) (ρ := Str) (fun (letter_ : Str) s15 =>
      (some (decide ((s15.1 % (2 : Int)) = (1 : Int)))).bind fun b32 => (cond b32
        (((some s15.2).bind fun t43 => (some letter_).bind fun t44 => catS t43 t44).bind fun text_ =>
        some text_)
        (some s15.2)).bind fun s37 =>
      (some (s15.1 / (2 : Int))).bind fun bits_ =>
      some (Fl.nx (bits_, s37))) as8 (bits_, text_)).bind fun fl10 => match fl10 with
    | .nx s15 =>
      (some s15.2)
    | .rt r => some r
    | .bk _ => none
abbrev mm_law_lit (x : (List Str) × Int × Unit) : Option Str := m_law_lit x.1 x.2.1
def m_law_machine (script_ : Scr) (letters_here_ : (List Str)) : Option (T4 (List Str) (List (Int × Int)) (List Int) (List (List Int))) :=
  (((some script_).bind fun t1 => (some (1 : Int)).bind fun t2 => m_law_cell t1 t2).bind fun t3 => m_law_states t3).bind fun many_ =>
  (some ((3 : Int) * many_)).bind fun most_ =>
  (((((some script_).bind fun t16 => (some (2 : Int)).bind fun t17 => m_law_cell t16 t17).bind fun t18 => (some (t18 / (25 : Int)))).bind fun t19 => (some (t19 % (4 : Int)))).bind fun t20 => (some (decide (t20 = (3 : Int))))).bind fun b21 => (cond b21
    (((some many_).bind fun t32 => (some many_).bind fun t33 => mulO t32 t33).bind fun most_ =>
    some most_)
    (some most_)).bind fun s26 =>
  (some ([] : List (Int × Int))).bind fun ways_ =>
  ((((some script_).bind fun t51 => (some (2 : Int)).bind fun t52 => m_law_cell t51 t52).bind fun t53 => (some ((if s26 < (24 : Int) then s26 else (24 : Int)) + (1 : Int))).bind fun t54 => modO t53 t54).bind fun t55 => rngO 0 t55).bind fun as56 => (forO (S := ((List (Int × Int)))) (ρ := (T4 (List Str) (List (Int × Int)) (List Int) (List (List Int)))) (fun (k_ : Int) s63 =>
      ((some script_).bind fun t78 => (some ((8 : Int) + k_)).bind fun t79 => m_law_cell t78 t79).bind fun cell_here_ =>
      (((some (cell_here_ / (9 : Int))).bind fun t86 => (some many_).bind fun t87 => modO t86 t87).bind fun t90 => ((some cell_here_).bind fun t88 => (some many_).bind fun t89 => modO t88 t89).bind fun t91 => (some (t90, t91))).bind fun way_ =>
      (some (decide (k_ < many_))).bind fun b98 => (cond b98
        (((some k_).bind fun t112 => ((some cell_here_).bind fun t109 => (some many_).bind fun t110 => modO t109 t110).bind fun t113 => some (t112, t113)).bind fun way_ =>
        some way_)
        (some way_)).bind fun s103 =>
      (some (!memE s103 s63)).bind fun b123 => cond b123
        ((some s103).bind fun a128 => (pushO s63 a128).bind fun z136 =>
        some (Fl.nx z136))
        (some (Fl.nx s63))) as56 ways_).bind fun fl58 => match fl58 with
    | .nx s63 =>
      (((some many_).bind fun t143 => rngO 0 t143).bind fun t153 => mapO (fun (k_ : Int) => ((some letters_here_).bind fun t151 => (((some script_).bind fun t148 => (some ((32 : Int) + k_)).bind fun t149 => m_law_cell t148 t149).bind fun t150 => (some (t150 % (16 : Int)))).bind fun t152 => m_law_lit t151 t152)) t153).bind fun lit_here_ =>
      (((some script_).bind fun t160 => (some (3 : Int)).bind fun t161 => m_law_cell t160 t161).bind fun t162 => (some many_).bind fun t163 => m_law_chosen t162 t163).bind fun starts_ =>
      (((((some script_).bind fun t170 => (some (3 : Int)).bind fun t171 => m_law_cell t170 t171).bind fun t172 => (some (t172 / (256 : Int)))).bind fun t173 => (some (t173 % (2 : Int)))).bind fun t174 => (some (decide (t174 = (1 : Int))))).bind fun b175 => (cond b175
        (((some starts_).bind fun t186 => sortRO t186).bind fun starts_ =>
        some starts_)
        (some starts_)).bind fun s180 =>
      (((((some script_).bind fun t210 => (some (4 : Int)).bind fun t211 => m_law_cell t210 t211).bind fun t212 => (some (t212 % (4 : Int)))).bind fun t213 => rngO 0 t213).bind fun t222 => mapO (fun (k_ : Int) => (((some script_).bind fun t218 => (some ((5 : Int) + k_)).bind fun t219 => m_law_cell t218 t219).bind fun t220 => (some (s63.length : Int)).bind fun t221 => m_law_chosen t220 t221)) t222).bind fun marks_ =>
      (some (T4.mk lit_here_ s63 s180 marks_))
    | .rt r => some r
    | .bk _ => none
abbrev mm_law_machine (x : Scr × (List Str) × Unit) : Option (T4 (List Str) (List (Int × Int)) (List Int) (List (List Int))) := m_law_machine x.1 x.2.1
def m_law_strolled (script_ : Scr) (machine_here_ : (T4 (List Str) (List (Int × Int)) (List Int) (List (List Int)))) (at_ : Int) : Option ((List Int) × (List Int)) :=
  (some [(0 : Int)]).bind fun states_here_ =>
  (some (!decide (machine_here_.c = ([] : List Int)))).bind fun b9 => (cond b9
    ((((some machine_here_.c).bind fun t24 => (((some script_).bind fun t20 => (some at_).bind fun t21 => m_law_cell t20 t21).bind fun t22 => (some (machine_here_.c.length : Int)).bind fun t23 => modO t22 t23).bind fun t25 => atI t24 t25).bind fun t26 => (some [t26])).bind fun states_here_ =>
    some states_here_)
    (some states_here_)).bind fun s14 =>
  ((some (14 : Int)).bind fun t42 => rngO 0 t42).bind fun as43 => (forO (S := ((List Int))) (ρ := ((List Int) × (List Int))) (fun (k_ : Int) s50 =>
      ((some machine_here_.b).bind fun t85 => compO (fun (way_ : (Int × Int)) => ((some way_.1).bind fun t83 => ((some s50).bind fun t81 => (some (-(1 : Int))).bind fun t82 => atI t81 t82).bind fun t84 => some (decide (t83 = t84)))) (fun (way_ : (Int × Int)) => (some way_.2)) t85).bind fun outs_ =>
      (some (!decide (outs_ = ([] : List Int)))).bind fun b92 => cond b92
        (((some outs_).bind fun t102 => ((((some script_).bind fun t97 => (some (at_ + k_)).bind fun t98 => m_law_cell t97 t98).bind fun t99 => (some (t99 / (7 : Int)))).bind fun t100 => (some (outs_.length : Int)).bind fun t101 => modO t100 t101).bind fun t103 => atI t102 t103).bind fun a104 => (pushO s50 a104).bind fun z112 =>
        some (Fl.nx z112))
        (some (Fl.nx s50))) as43 s14).bind fun fl45 => match fl45 with
    | .nx s50 =>
      (some ((s50.length : Int) - (1 : Int))).bind fun last_ =>
      (whileN (S := (Int)) (ρ := ((List Int) × (List Int))) (fun s127 => ((some (decide ((0 : Int) < s127))).bind fun t136 => cond t136 (((some s50).bind fun t133 => (some s127).bind fun t134 => atI t133 t134).bind fun t135 => (some (!decide (t135 ∈ (cutA s50 none (some s127)))))) (some false))) (fun s127 =>
          (some (s127 - (1 : Int))).bind fun last_ =>
          some (Fl.nx last_)) fuelW last_).bind fun fl125 => match fl125 with
        | .nx s127 =>
          ((some s50).bind fun t160 => ((some s50).bind fun t158 => (some s127).bind fun t159 => atI t158 t159).bind fun t161 => idxZ t160 t161).bind fun begin_ =>
          (some ((cutA s50 none (some begin_)), (cutA s50 (some begin_) (some s127))))
        | .rt r => some r
        | .bk _ => none
    | .rt r => some r
    | .bk _ => none
abbrev mm_law_strolled (x : Scr × (T4 (List Str) (List (Int × Int)) (List Int) (List (List Int))) × Int × Unit) : Option ((List Int) × (List Int)) := m_law_strolled x.1 x.2.1 x.2.2.1
def m_law_is_walked (machine_here_ : (T4 (List Str) (List (Int × Int)) (List Int) (List (List Int)))) (stem_ : (List Int)) (ring_ : (List Int)) : Option Bool :=
  (some machine_here_.b).bind fun ways_ =>
  ((some stem_).bind fun t7 => (some ring_).bind fun t8 => catL t7 t8).bind fun states_here_ =>
  ((some (decide (ring_ = ([] : List Int)))).bind fun t18 => cond t18 (some true) (((some states_here_).bind fun t15 => (some (0 : Int)).bind fun t16 => atI t15 t16).bind fun t17 => (some (!decide (t17 ∈ machine_here_.c))))).bind fun b19 => cond b19
    ((some false))
    ((some ([] : List (Int × Int))).bind fun gone_ =>
    ((some (states_here_.length : Int)).bind fun t37 => rngO 0 t37).bind fun as38 => (forO (S := ((List (Int × Int)))) (ρ := Bool) (fun (k_ : Int) s45 =>
        (((some states_here_).bind fun t59 => (some ring_).bind fun t60 => catL t59 t60).bind fun t61 => (some (k_ + (1 : Int))).bind fun t62 => atI t61 t62).bind fun behind_ =>
        ((((some states_here_).bind fun t69 => (some k_).bind fun t70 => atI t69 t70).bind fun t71 => (some (t71, behind_))).bind fun t72 => (some (!memE t72 ways_))).bind fun b73 => cond b73
          ((some false).bind fun rr83 => some (Fl.rt rr83))
          (((some (decide ((stem_.length : Int) ≤ k_))).bind fun t94 => cond t94 ((((some states_here_).bind fun t90 => (some k_).bind fun t91 => atI t90 t91).bind fun t92 => (some (t92, behind_))).bind fun t93 => (some (!memE t93 s45))) (some false)).bind fun b95 => cond b95
            ((((some states_here_).bind fun t100 => (some k_).bind fun t101 => atI t100 t101).bind fun t102 => (some (t102, behind_))).bind fun a103 => (pushO s45 a103).bind fun z111 =>
            some (Fl.nx z111))
            (some (Fl.nx s45)))) as38 gone_).bind fun fl40 => match fl40 with
      | .nx s45 =>
        (some machine_here_.d).bind fun as118 => (forO (S := Unit) (ρ := Bool) (fun (mark_ : (List Int)) s125 =>
            (((some mark_).bind fun t145 => compO (fun (k_ : Int) => (((some ways_).bind fun t142 => (some k_).bind fun t143 => atI t142 t143).bind fun t144 => (some (memE t144 s45)))) (fun (k_ : Int) => (some k_)) t145).bind fun t146 => (some (decide (t146 = ([] : List Int))))).bind fun b147 => cond b147
              ((some false).bind fun rr157 => some (Fl.rt rr157))
              (some (Fl.nx ()))) as118 ()).bind fun fl120 => match fl120 with
          | .nx s125 =>
            (some true)
          | .rt r => some r
          | .bk _ => none
      | .rt r => some r
      | .bk _ => none)
abbrev mm_law_is_walked (x : (T4 (List Str) (List (Int × Int)) (List Int) (List (List Int))) × (List Int) × (List Int) × Unit) : Option Bool := m_law_is_walked x.1 x.2.1 x.2.2.1
def m_steps_along (states_ : (List Int)) (following_ : Int) : Option (List (Int × Int)) :=
  ((some states_).bind fun t3 => ((some (cutA states_ (some (1 : Int)) none)).bind fun t1 => (some [following_]).bind fun t2 => catL t1 t2).bind fun t4 => zipO t3 t4)
abbrev mm_steps_along (x : (List Int) × Int × Unit) : Option (List (Int × Int)) := m_steps_along x.1 x.2.1
def m_is_gone (ways_ : (List (Int × Int))) (mark_ : (List Int)) (steps_ : (List (Int × Int))) : Option Bool :=
  (((some mark_).bind fun t8 => mapO (fun (number_ : Int) => (((some ways_).bind fun t5 => (some number_).bind fun t6 => atI t5 t6).bind fun t7 => (some (memE t7 steps_)))) t8).bind fun t9 => (some (t9.any id)))
abbrev mm_is_gone (x : (List (Int × Int)) × (List Int) × (List (Int × Int)) × Unit) : Option Bool := m_is_gone x.1 x.2.1 x.2.2.1
def m_is_walk (machine_ : (T4 (List Str) (List (Int × Int)) (List Int) (List (List Int)))) (stem_ : (List Int)) (ring_ : (List Int)) : Option Bool :=
  (some machine_.b).bind fun ways_ =>
  ((some (decide ((ring_.length : Int) = (0 : Int)))).bind fun t12 => cond t12 (some true) ((((some stem_).bind fun t7 => (some ring_).bind fun t8 => catL t7 t8).bind fun t9 => (some (0 : Int)).bind fun t10 => atI t9 t10).bind fun t11 => (some (!decide (t11 ∈ machine_.c))))).bind fun b13 => cond b13
    ((some false))
    (((((((some stem_).bind fun t23 => (some ring_).bind fun t24 => catL t23 t24).bind fun t27 => ((some ring_).bind fun t25 => (some (0 : Int)).bind fun t26 => atI t25 t26).bind fun t28 => m_steps_along t27 t28).bind fun t33 => mapO (fun (step_ : (Int × Int)) => (some (memE step_ ways_))) t33).bind fun t34 => (some (t34.all id))).bind fun t35 => (some (!t35))).bind fun b36 => cond b36
      ((some false))
      (((some ring_).bind fun t48 => ((some ring_).bind fun t46 => (some (0 : Int)).bind fun t47 => atI t46 t47).bind fun t49 => m_steps_along t48 t49).bind fun around_ =>
      (((some machine_.d).bind fun t63 => mapO (fun (mark_ : (List Int)) => ((some ways_).bind fun t60 => (some mark_).bind fun t61 => (some around_).bind fun t62 => m_is_gone t60 t61 t62)) t63).bind fun t64 => (some (t64.all id)))))
abbrev mm_is_walk (x : (T4 (List Str) (List (Int × Int)) (List Int) (List (List Int))) × (List Int) × (List Int) × Unit) : Option Bool := m_is_walk x.1 x.2.1 x.2.2.1
def m_law_letters (cell_here_ : Int) : Option (List Str) :=
  (some ("abcdefghijklmnopqrstuvwxyz" : Str)).bind fun row_ =>
  (some [cell_here_, ((cell_here_ + (1 : Int)) + ((cell_here_ / (26 : Int)) % (8 : Int))), ((cell_here_ + (9 : Int)) + ((cell_here_ / (208 : Int)) % (8 : Int))), ((cell_here_ + (17 : Int)) + ((cell_here_ / (1664 : Int)) % (9 : Int)))]).bind fun places_ =>
  ((some places_).bind fun t19 => mapO (fun (at_ : Int) => ((some row_).bind fun t17 => (some (at_ % (26 : Int))).bind fun t18 => (atI t17.cps.toList t18).bind fun z => some (⟨#[z]⟩ : Str))) t19)
abbrev mm_law_letters (x : Int × Unit) : Option (List Str) := m_law_letters x.1
def m_law_spoiled (stem_ : (List Int)) (ring_ : (List Int)) (way_ : Int) (cell_here_ : Int) : Option ((List Int) × (List Int)) :=
  ((some stem_).bind fun t1 => (some ring_).bind fun t2 => catL t1 t2).bind fun states_here_ =>
  ((some (!decide (states_here_ = ([] : List Int)))).bind fun t11 => cond t11 ((some cell_here_).bind fun t9 => (some (states_here_.length : Int)).bind fun t10 => modO t9 t10) (some (0 : Int))).bind fun at_ =>
  ((some [(0 : Int), (1 : Int), (2 : Int), (3 : Int), (4 : Int), (5 : Int), (6 : Int), (7 : Int), (8 : Int), (-(1 : Int)), (100000000000000000000000000000000000000000000000000000000000 : Int), (-(8 : Int))]).bind fun t18 => (some ((cell_here_ / (16 : Int)) % (12 : Int))).bind fun t19 => atI t18 t19).bind fun new_ =>
  (some (decide (way_ = (0 : Int)))).bind fun b26 => cond b26
    ((((some stem_).bind fun t31 => (some ring_).bind fun t32 => catL t31 t32).bind fun t33 => (some (t33, ([] : List Int)))))
    ((some (decide (way_ = (1 : Int)))).bind fun b39 => cond b39
      (((some stem_).bind fun t47 => ((some ring_).bind fun t44 => (some ring_).bind fun t45 => catL t44 t45).bind fun t48 => some (t47, t48)))
      ((some (decide (way_ = (2 : Int)))).bind fun b54 => cond b54
        ((some (ring_, stem_)))
        ((some (decide (way_ = (3 : Int)))).bind fun b64 => (cond b64
          ((((some (cutA states_here_ none (some at_))).bind fun t75 => (some [new_]).bind fun t76 => catL t75 t76).bind fun t77 => (some (cutA states_here_ (some (at_ + (1 : Int))) none)).bind fun t78 => catL t77 t78).bind fun states_here_ =>
          some states_here_)
          (some states_here_)).bind fun s69 =>
        (some (decide (way_ = (4 : Int)))).bind fun b88 => (cond b88
          ((((some (cutA s69 none (some at_))).bind fun t99 => (some [new_]).bind fun t100 => catL t99 t100).bind fun t101 => (some (cutA s69 (some at_) none)).bind fun t102 => catL t101 t102).bind fun states_here_ =>
          some states_here_)
          (some s69)).bind fun s93 =>
        (some (decide (way_ = (5 : Int)))).bind fun b112 => (cond b112
          (((some (cutA s93 none (some at_))).bind fun t123 => (some (cutA s93 (some (at_ + (1 : Int))) none)).bind fun t124 => catL t123 t124).bind fun states_here_ =>
          some states_here_)
          (some s93)).bind fun s117 =>
        (some ((cutA s117 none (some (stem_.length : Int))), (cutA s117 (some (stem_.length : Int)) none))))))
abbrev mm_law_spoiled (x : (List Int) × (List Int) × Int × Int × Unit) : Option ((List Int) × (List Int)) := m_law_spoiled x.1 x.2.1 x.2.2.1 x.2.2.2.1
def m_law (script_ : Scr) : Option Bool :=
  ((some script_).bind fun t5 => ((((some script_).bind fun t1 => (some (0 : Int)).bind fun t2 => m_law_cell t1 t2).bind fun t3 => (some (t3 % (14976 : Int)))).bind fun t4 => m_law_letters t4).bind fun t6 => m_law_machine t5 t6).bind fun machine_here_ =>
  ((some script_).bind fun t13 => (some machine_here_).bind fun t14 => (some (40 : Int)).bind fun t15 => m_law_strolled t13 t14 t15).bind fun p16 =>
  ((((some script_).bind fun t25 => (some (60 : Int)).bind fun t26 => m_law_cell t25 t26).bind fun t27 => (some (t27 % (5 : Int)))).bind fun t28 => (some (decide ((1 : Int) < t28)))).bind fun b29 => (cond b29
    ((((some script_).bind fun t44 => (some (61 : Int)).bind fun t45 => m_law_cell t44 t45).bind fun t46 => (some (t46 % (1000000007 : Int)))).bind fun cell_here_ =>
    ((some p16.1).bind fun t57 => (some p16.2).bind fun t58 => ((((some script_).bind fun t53 => (some (60 : Int)).bind fun t54 => m_law_cell t53 t54).bind fun t55 => (some (t55 / (5 : Int)))).bind fun t56 => (some (t56 % (6 : Int)))).bind fun t59 => (some cell_here_).bind fun t60 => m_law_spoiled t57 t58 t59 t60).bind fun p61 =>
    some (p61.1, p61.2))
    (some (p16.1, p16.2))).bind fun s34 =>
  (((some machine_here_.d).bind fun t77 => mapO (fun (mark_ : (List Int)) => (some mark_)) t77).bind fun t78 => (some (T4.mk machine_here_.a machine_here_.b machine_here_.c t78))).bind fun copies_ =>
  (some (s34.1, s34.2)).bind fun handed_ =>
  ((some machine_here_).bind fun t91 => (some s34.1).bind fun t92 => (some s34.2).bind fun t93 => m_law_is_walked t91 t92 t93).bind fun due_ =>
  ((some copies_).bind fun t100 => (some handed_.1).bind fun t101 => (some handed_.2).bind fun t102 => m_is_walk t100 t101 t102).bind fun found_ =>
  (some ((!true) || ((!decide (found_ = due_)) || ((!decide (copies_ = machine_here_)) || (!decide (handed_ = (s34.1, s34.2))))))).bind fun b109 => cond b109
    ((some false))
    ((some (T4.mk machine_here_.a machine_here_.b machine_here_.c ([] : List (List Int)))).bind fun bare_ =>
    (((some bare_).bind fun t125 => (some s34.1).bind fun t126 => (some s34.2).bind fun t127 => m_is_walk t125 t126 t127).bind fun t134 => ((some bare_).bind fun t131 => (some s34.1).bind fun t132 => (some s34.2).bind fun t133 => m_law_is_walked t131 t132 t133).bind fun t135 => (some (!decide (t134 = t135)))).bind fun b136 => cond b136
      ((some false))
      ((((some machine_here_).bind fun t146 => (some s34.2).bind fun t147 => (some s34.1).bind fun t148 => m_is_walk t146 t147 t148).bind fun t155 => ((some machine_here_).bind fun t152 => (some s34.2).bind fun t153 => (some s34.1).bind fun t154 => m_law_is_walked t152 t153 t154).bind fun t156 => (some (!decide (t155 = t156)))).bind fun b157 => cond b157
        ((some false))
        ((((some copies_).bind fun t167 => (some handed_.1).bind fun t168 => (some handed_.2).bind fun t169 => m_is_walk t167 t168 t169).bind fun t170 => (some (decide (t170 = due_)))))))
abbrev mm_law (x : Scr × Unit) : Option Bool := m_law x.1
end My

set_option Elab.async false
set_option linter.all false
set_option maxRecDepth 100000
set_option maxHeartbeats 4000000
namespace My
open PySem PySem.Spec PyProof.Rows L2
def top (i : Nat) : Stmt := PySem.Challenge.pw_lassoscribe_k51_what_is_a_walk.main.body.getD i (.Pass ⟨0, 0, 0, 0⟩)
abbrev s_steps_along : Stmt := top 1
abbrev s_is_gone : Stmt := top 2
abbrev s_is_walk : Stmt := top 3
abbrev s_law_cell : Stmt := top 5
abbrev s_law_letters : Stmt := top 6
abbrev s_law_lit : Stmt := top 7
abbrev s_law_chosen : Stmt := top 8
abbrev s_law_states : Stmt := top 9
abbrev s_law_machine : Stmt := top 10
abbrev s_law_strolled : Stmt := top 11
abbrev s_law_is_walked : Stmt := top 12
abbrev s_law_spoiled : Stmt := top 13
abbrev s_law : Stmt := top 14
/-- the names that the text leaves to the built-in ones, and its constants -/
structure Txt (mg : Str → Option Value) : Prop where
  all_ : mg "all" = none
  any_ : mg "any" = none
  bool_ : mg "bool" = none
  isinstance_ : mg "isinstance" = none
  len_ : mg "len" = none
  list_ : mg "list" = none
  min_ : mg "min" = none
  range_ : mg "range" = none
  sorted_ : mg "sorted" = none
  zip_ : mg "zip" = none
theorem sc_steps_along : FnScope ["states", "following"] ["states", "following"] (defScope s_steps_along) := ⟨rfl, rfl, rfl, by decide +kernel, rfl, by decide +kernel, by decide +kernel⟩
theorem sc_is_gone : FnScope ["ways", "mark", "steps"] ["ways", "mark", "steps"] (defScope s_is_gone) := ⟨rfl, rfl, rfl, by decide +kernel, rfl, by decide +kernel, by decide +kernel⟩
theorem sc_is_walk : FnScope ["machine", "stem", "ring", "ways", "around"] ["machine", "stem", "ring"] (defScope s_is_walk) := ⟨rfl, rfl, rfl, by decide +kernel, rfl, by decide +kernel, by decide +kernel⟩
theorem sc_law_cell : FnScope ["_law_script", "_law_k", "_law_number"] ["_law_script", "_law_k"] (defScope s_law_cell) := ⟨rfl, rfl, rfl, by decide +kernel, rfl, by decide +kernel, by decide +kernel⟩
theorem sc_law_letters : FnScope ["_law_cell_here", "_law_row", "_law_places"] ["_law_cell_here"] (defScope s_law_letters) := ⟨rfl, rfl, rfl, by decide +kernel, rfl, by decide +kernel, by decide +kernel⟩
theorem sc_law_lit : FnScope ["_law_letters_here", "_law_bits", "_law_text", "_law_letter"] ["_law_letters_here", "_law_bits"] (defScope s_law_lit) := ⟨rfl, rfl, rfl, by decide +kernel, rfl, by decide +kernel, by decide +kernel⟩
theorem sc_law_chosen : FnScope ["_law_cell_here", "_law_many", "_law_chosen_here", "_law_k"] ["_law_cell_here", "_law_many"] (defScope s_law_chosen) := ⟨rfl, rfl, rfl, by decide +kernel, rfl, by decide +kernel, by decide +kernel⟩
theorem sc_law_states : FnScope ["_law_cell_here"] ["_law_cell_here"] (defScope s_law_states) := ⟨rfl, rfl, rfl, by decide +kernel, rfl, by decide +kernel, by decide +kernel⟩
theorem sc_law_machine : FnScope ["_law_script", "_law_letters_here", "_law_many", "_law_most", "_law_ways", "_law_k", "_law_cell_here", "_law_way", "_law_lit_here", "_law_starts", "_law_marks"] ["_law_script", "_law_letters_here"] (defScope s_law_machine) := ⟨rfl, rfl, rfl, by decide +kernel, rfl, by decide +kernel, by decide +kernel⟩
theorem sc_law_strolled : FnScope ["_law_script", "_law_machine_here", "_law_at", "_law_states_here", "_law_k", "_law_outs", "_law_last", "_law_begin"] ["_law_script", "_law_machine_here", "_law_at"] (defScope s_law_strolled) := ⟨rfl, rfl, rfl, by decide +kernel, rfl, by decide +kernel, by decide +kernel⟩
theorem sc_law_is_walked : FnScope ["_law_machine_here", "_law_stem", "_law_ring", "_law_ways", "_law_states_here", "_law_gone", "_law_k", "_law_behind", "_law_mark"] ["_law_machine_here", "_law_stem", "_law_ring"] (defScope s_law_is_walked) := ⟨rfl, rfl, rfl, by decide +kernel, rfl, by decide +kernel, by decide +kernel⟩
theorem sc_law_spoiled : FnScope ["_law_stem", "_law_ring", "_law_way", "_law_cell_here", "_law_states_here", "_law_at", "_law_new"] ["_law_stem", "_law_ring", "_law_way", "_law_cell_here"] (defScope s_law_spoiled) := ⟨rfl, rfl, rfl, by decide +kernel, rfl, by decide +kernel, by decide +kernel⟩
theorem sc_law : FnScope ["_law_script", "_law_machine_here", "_law_stem", "_law_ring", "_law_cell_here", "_law_copies", "_law_handed", "_law_due", "_law_found", "_law_bare"] ["_law_script"] (defScope s_law) := ⟨rfl, rfl, rfl, by decide +kernel, rfl, by decide +kernel, by decide +kernel⟩
def sp_law (K : PySem.W.Frag) : Sp := fun vs H Q _ => ∃ (a : Addr) (ns : List Int), vs = [.ref a] ∧ SqL K H a (ns.map V.int) ∧ ns.length ≤ 63 ∧ ∀ H', Q (.bl true) H'
section
variable {P : Program} {w : World} {K : PySem.W.Frag} {mg : Str → Option Value} {base : Heap}
theorem ok_law_states {f : Addr} {fd : FuncData} (F : Fun K "_law_states" "_law_states" s_law_states f fd) (T : Txt mg) : FnOk P w K mg base CX0 1 f fd ["_law_cell_here"] (spM K mm_law_states) := by
  refine F.ok sc_law_states (fun vs H Q E h => (spM_len h).trans rfl) (fun cdv A outer s H0 vs Q E hr h => ?_)
  obtain ⟨G0, ⟨cell_here_, ⟨⟩⟩, res, sg0, ⟨v_cell_here_, _, rfl, r_cell_here_, rfl⟩, hm, q⟩ := h
  replace r_cell_here_ : Rp.rel K G0 v_cell_here_ cell_here_ := r_cell_here_
  replace hm : m_law_states cell_here_ = some res := hm
  unfold m_law_states at hm
  have xt : Ext G0 H0 G0 H0 := Ext.refl sg0
  refine ⟨_, (pss_cons (ps_if (pt_cmpR op_eq (pe_op op_mod (pe_op op_fdiv (pv 0) pe_int) pe_int) pe_int (nomark _)) (pss_cons (ps_ret (pe_op (op_plusK (K := K) rfl) pe_int (pe_op op_mod (pv 0) pe_int)))
      pss_nil) pss_nil)
      (pss_cons (ps_ret (pe_op (op_plusK (K := K) rfl) pe_int (pe_op op_mod (pv 0) pe_int)))
      pss_nil)), ?_⟩
  obtain ⟨b1, h2, hm⟩ := Option.bind_eq_some_iff.mp hm
  refine sv_if (tv_test (K := K) (ev_eqI (ev_modR (ev_divR (ev_var rfl r_cell_here_))) ev_i)) h2 xt.gh fun G3 H4 x5 => ?_
  have xt := xt.trans x5
  have r_cell_here_ := Rp.mono x5.gg r_cell_here_
  cases b1 with
  | true =>
    replace hm := cT hm
    refine iteT ?_
    exact sv_ret (K := K) (ev_add ev_i (ev_modR (ev_var rfl r_cell_here_))) hm xt.gh fun v6 G7 H8 x9 r10 => q v6 G7 H8 (xt.trans x9) r10
  | false =>
    replace hm := cF hm
    refine iteF ?_
    exact sv_ret (K := K) (ev_add ev_i (ev_modR (ev_var rfl r_cell_here_))) hm xt.gh fun v11 G12 H13 x14 r15 => q v11 G12 H13 (xt.trans x14) r15
theorem ok_law_chosen {f : Addr} {fd : FuncData} (F : Fun K "_law_chosen" "_law_chosen" s_law_chosen f fd) (T : Txt mg) : FnOk P w K mg base CX0 1 f fd ["_law_cell_here", "_law_many"] (spM K mm_law_chosen) := by
  refine F.ok sc_law_chosen (fun vs H Q E h => (spM_len h).trans rfl) (fun cdv A outer s H0 vs Q E hr h => ?_)
  obtain ⟨G0, ⟨cell_here_, ⟨many_, ⟨⟩⟩⟩, res, sg0, ⟨v_cell_here_, _, rfl, r_cell_here_, ⟨v_many_, _, rfl, r_many_, rfl⟩⟩, hm, q⟩ := h
  replace r_cell_here_ : Rp.rel K G0 v_cell_here_ cell_here_ := r_cell_here_
  replace r_many_ : Rp.rel K G0 v_many_ many_ := r_many_
  replace hm : m_law_chosen cell_here_ many_ = some res := hm
  unfold m_law_chosen at hm
  have xt : Ext G0 H0 G0 H0 := Ext.refl sg0
  refine ⟨_, (pss_cons (ps_set (i := 2) sc_law_chosen.nd rfl (Or.inl rfl) (pe_lst pa_nil))
      (pss_cons (ps_for PassesOwn.never rfl (pi_range1 rfl T.range_ (pa_cons (pv 1) pa_nil)) (pg_name (i := 3) sc_law_chosen.nd rfl (Or.inl rfl)) (pss_cons (ps_if (pt_cmpR op_eq (pe_op op_mod (pv 0) pe_int) pe_int (nomark _)) (pss_cons (ps_expr (pe_bmK (K := K) rfl PySem.F.plainAttrs_list PySem.F.slot_list_append PySem.F.type_list_append mt_append (pv 2) (pa_cons (pv 3) pa_nil)))
      pss_nil) pss_nil)
      (pss_cons (ps_set (i := 0) sc_law_chosen.nd rfl (Or.inl rfl) (pe_op op_fdiv (pv 0) pe_int))
      pss_nil)))
      (pss_cons (ps_ret (pv 2))
      pss_nil))), ?_⟩
  obtain ⟨chosen_here_, h8, hm⟩ := Option.bind_eq_some_iff.mp hm
  refine sv_own (K := K) (fv_lst (lv_nil (α := Int))) h8 xt.gh fun p1 vs2 G3 H4 x5 hz6 o7 => ?_
  have hz6 := xt.hh.free hz6
  have xt := xt.trans x5
  have r_cell_here_ := Rp.mono x5.gg r_cell_here_
  have r_many_ := Rp.mono x5.gg r_many_
  obtain ⟨as10, h11, hm⟩ := Option.bind_eq_some_iff.mp hm
  obtain ⟨fl12, h13, hm⟩ := Option.bind_eq_some_iff.mp hm
  refine sv_for (K := K) (RR := fun r v G' H' => Ext G0 H0 G' H' ∧ Rp.rel K G' v r) (iw_rng1 (ev_var rfl r_many_)) h11 h13 xt.gh fun G14 H15 x16 => ⟨fun s17 S' G' H' => ∃ (v18 : V) (v19 : Option V), Ext G0 H0 G' H' ∧ Same G14 G' ∧ S' = [some v18, some v_many_, some (V.ref p1), v19] ∧ Rp.rel K G' v18 (s17.1 : Int) ∧ (∃ vs, Own K G' H' (V.ref p1) p1 vs s17.2), ?_, ?_, ?_, ?_, ?_⟩
  · have xt := xt.trans x16
    have r_cell_here_ := Rp.mono x16.gg r_cell_here_
    have r_many_ := Rp.mono x16.gg r_many_
    have o7 := o7.ext x16
    exact ⟨v_cell_here_, _, xt, (Same.refl _), rfl, r_cell_here_, ⟨_, o7⟩⟩
  · rintro _ S' G' H' ⟨v18, v19, xt, mk20, rfl, r21, ⟨vs2, o7⟩⟩
    exact ⟨mk20, xt.gh⟩
  · rintro xv22 a23 s17 _ G26 H27 fl24 - ⟨v18, v19, xt, mk20, rfl, r21, ⟨vs2, o7⟩⟩ rx25 hm D' kN28 kC29 kB30 kR31
    have r_many_ := Rp.mono (x16.gg.trans mk20) r_many_
    refine sv_turn ?_
    obtain ⟨b32, h33, hm⟩ := Option.bind_eq_some_iff.mp hm
    obtain ⟨s37, h38, hm⟩ := Option.bind_eq_some_iff.mp hm
    try (with_reducible refine nxt_ ?_; dsimp only)
    refine sv_join (t := tIfS _ _ _) (fun S52 H51 => ∃ (G50 : Hp) , Ext G0 H0 G50 H51 ∧ Same G26 G50 ∧ S52 = [some v18, some v_many_, some (V.ref p1), some xv22] ∧ (∃ vs, Own K G50 H51 (V.ref p1) p1 vs s37)) (fun nx kn40 => ?_) ?_
    · refine sv_if (tv_test (K := K) (ev_eqI (ev_modR (ev_var rfl r21)) ev_i)) h33 xt.gh fun G34 H35 x36 => ?_
      have xt := xt.trans x36
      have mk20 := mk20.trans x36.gg
      have r21 := Rp.mono x36.gg r21
      have r_many_ := Rp.mono x36.gg r_many_
      have o7 := o7.ext x36
      have rx25 := Rp.mono x36.gg rx25
      have mk39 : Same G26 G34 := x36.gg
      have hm := h38
      cases b32 with
      | true =>
        replace hm := cT hm
        refine iteT ?_
        obtain ⟨a41, h42, hm⟩ := Option.bind_eq_some_iff.mp hm
        obtain ⟨z49, h43, hm⟩ := Option.bind_eq_some_iff.mp hm
        refine sv_append (K := K) rfl o7 (ev_var rfl rx25) h42 h43 xt.gh fun G44 H45 w46 x47 o48 => ?_
        have xt : Ext G0 H0 G44 (upd H45 p1 (.lst (vs2 ++ [w46]))) := (xt.trans x47).put hz6 o48.g
        have mk20 := mk20.trans x47.gg
        have mk39 := mk39.trans x47.gg
        have r21 := Rp.mono x47.gg r21
        have r_many_ := Rp.mono x47.gg r_many_
        have rx25 := Rp.mono x47.gg rx25
        cases hm
        exact kn40 _ _ ⟨G44, xt, mk39, rfl, ⟨_, o48⟩⟩
      | false =>
        replace hm := cF hm
        refine iteF ?_
        cases hm
        exact kn40 _ _ ⟨G34, xt, mk39, rfl, ⟨_, o7⟩⟩
    · rintro _ H51 ⟨G50, xt, mk39, rfl, ⟨vs2, o7⟩⟩
      have mk20 := mk20.trans mk39
      have r21 := Rp.mono mk39 r21
      have r_many_ := Rp.mono mk39 r_many_
      have rx25 := Rp.mono mk39 rx25
      obtain ⟨cell_here_, h58, hm⟩ := Option.bind_eq_some_iff.mp hm
      refine sv_set (K := K) (ev_divR (ev_var rfl r21)) h58 xt.gh fun v53 G54 H55 x56 r57 => ?_
      have xt := xt.trans x56
      have mk20 := mk20.trans x56.gg
      have r21 := Rp.mono x56.gg r21
      have r_many_ := Rp.mono x56.gg r_many_
      have o7 := o7.ext x56
      have rx25 := Rp.mono x56.gg rx25
      cases hm
      exact kN28 _ _ _ _ rfl ⟨v53, _, xt, mk20, rfl, r57, ⟨_, o7⟩⟩
  · rintro s17 _ G63 H64 rfl ⟨v59, v60, xt, mk61, rfl, r62, ⟨vs2, o7⟩⟩
    refine sv_nx ?_
    have r_many_ := Rp.mono (x16.gg.trans mk61) r_many_
    have sf := Same.new (o := .lst vs2) o7.g
    have xt := xt.frz hz6 o7.g o7.h
    have r65 := o7.tell
    have r62 := Rp.mono sf r62
    have r_many_ := Rp.mono sf r_many_
    exact sv_ret (K := K) (ev_var rfl r65) hm xt.gh fun v66 G67 H68 x69 r70 => q v66 G67 H68 (xt.trans x69) r70
  · rintro r' v' G' H' rfl rl
    cases hm
    exact q v' G' H' rl.1 rl.2
theorem ok_law_cell {f : Addr} {fd : FuncData} (F : Fun K "_law_cell" "_law_cell" s_law_cell f fd) (T : Txt mg) : FnOk P w K mg base CX0 1 f fd ["_law_script", "_law_k"] (spM K mm_law_cell) := by
  refine F.ok sc_law_cell (fun vs H Q E h => (spM_len h).trans rfl) (fun cdv A outer s H0 vs Q E hr h => ?_)
  obtain ⟨G0, ⟨script_, ⟨k_, ⟨⟩⟩⟩, res, sg0, ⟨v_script_, _, rfl, r_script_, ⟨v_k_, _, rfl, r_k_, rfl⟩⟩, hm, q⟩ := h
  replace r_script_ : Rp.rel K G0 v_script_ script_ := r_script_
  replace r_k_ : Rp.rel K G0 v_k_ k_ := r_k_
  replace hm : m_law_cell script_ k_ = some res := hm
  unfold m_law_cell at hm
  have xt : Ext G0 H0 G0 H0 := Ext.refl sg0
  refine ⟨_, (pss_cons (ps_if (pt_cmpR op_ltU (pv 1) (pe_callB (call_lenK (K := K) rfl) (by rfl) T.len_ bt_len (pa_cons (pv 0) pa_nil)) (nomark _)) (pss_cons (ps_ret (pe_ix (ix_anyK (K := K) rfl) (pv 0) (pv 1) (fun _ _ => rfl)))
      pss_nil) pss_nil)
      (pss_cons (ps_set (i := 2) sc_law_cell.nd rfl (Or.inl rfl) (pe_op (op_plusK (K := K) rfl) (pe_op (op_mulK (K := K) rfl) (pv 1) pe_int) pe_int))
      (pss_cons (ps_if (pt_cmpR op_gtU (pe_callB (call_lenK (K := K) rfl) (by rfl) T.len_ bt_len (pa_cons (pv 0) pa_nil)) pe_int (nomark _)) (pss_cons (ps_set (i := 2) sc_law_cell.nd rfl (Or.inl rfl) (pe_op op_mod (pe_op (op_plusK (K := K) rfl) (pe_op (op_mulK (K := K) rfl) (pe_ix (ix_anyK (K := K) rfl) (pv 0) (pe_op op_mod (pe_op (op_mulK (K := K) rfl) (pv 1) pe_int) (pe_callB (call_lenK (K := K) rfl) (by rfl) T.len_ bt_len (pa_cons (pv 0) pa_nil))) (fun _ _ => rfl)) pe_int) (pe_op (op_mulK (K := K) rfl) (pv 1) pe_int)) pe_int))
      pss_nil) pss_nil)
      (pss_cons (ps_ret (pe_op op_mod (pe_op (op_mulK (K := K) rfl) (pv 2) (pv 2)) pe_int))
      pss_nil)))), ?_⟩
  obtain ⟨b1, h2, hm⟩ := Option.bind_eq_some_iff.mp hm
  refine sv_if (tv_test (K := K) (ev_ord (ev_var rfl r_k_) (ev_lenX (ev_var rfl r_script_)))) h2 xt.gh fun G3 H4 x5 => ?_
  have xt := xt.trans x5
  have r_script_ := Rp.mono x5.gg r_script_
  have r_k_ := Rp.mono x5.gg r_k_
  cases b1 with
  | true =>
    replace hm := cT hm
    refine iteT ?_
    exact sv_ret (K := K) (ev_atX (ev_var rfl r_script_) (ev_var rfl r_k_)) hm xt.gh fun v8 G9 H10 x11 r12 => q v8 G9 H10 (xt.trans x11) r12
  | false =>
    replace hm := cF hm
    refine iteF ?_
    obtain ⟨number_, h18, hm⟩ := Option.bind_eq_some_iff.mp hm
    refine sv_set (K := K) (ev_add (ev_mulR (ev_var rfl r_k_)) ev_i) h18 xt.gh fun v13 G14 H15 x16 r17 => ?_
    have xt := xt.trans x16
    have r_script_ := Rp.mono x16.gg r_script_
    have r_k_ := Rp.mono x16.gg r_k_
    obtain ⟨b19, h20, hm⟩ := Option.bind_eq_some_iff.mp hm
    obtain ⟨s24, h25, hm⟩ := Option.bind_eq_some_iff.mp hm
    try (with_reducible refine nxt_ ?_; dsimp only)
    refine sv_join (t := tIfS _ _ _) (fun S45 H44 => ∃ (G43 : Hp) (v27 : V), Ext G0 H0 G43 H44 ∧ Same G14 G43 ∧ S45 = [some v_script_, some v_k_, some v27] ∧ Rp.rel K G43 v27 (s24 : Int)) (fun nx kn29 => ?_) ?_
    · refine sv_if (tv_test (K := K) (ev_ord (ev_lenX (ev_var rfl r_script_)) ev_i)) h20 xt.gh fun G21 H22 x23 => ?_
      have xt := xt.trans x23
      have r_script_ := Rp.mono x23.gg r_script_
      have r_k_ := Rp.mono x23.gg r_k_
      have r17 := Rp.mono x23.gg r17
      have mk26 : Same G14 G21 := x23.gg
      have hm := h25
      cases b19 with
      | true =>
        replace hm := cT hm
        refine iteT ?_
        obtain ⟨number_, h42, hm⟩ := Option.bind_eq_some_iff.mp hm
        refine sv_set (K := K) (ev_modR (ev_add (ev_mulR (ev_atX (ev_var rfl r_script_) (ev_mod (ev_mulR (ev_var rfl r_k_)) (ev_lenX (ev_var rfl r_script_))))) (ev_mulR (ev_var rfl r_k_)))) h42 xt.gh fun v37 G38 H39 x40 r41 => ?_
        have xt := xt.trans x40
        have mk26 := mk26.trans x40.gg
        have r_script_ := Rp.mono x40.gg r_script_
        have r_k_ := Rp.mono x40.gg r_k_
        have r17 := Rp.mono x40.gg r17
        cases hm
        exact kn29 _ _ ⟨G38, v37, xt, mk26, rfl, r41⟩
      | false =>
        replace hm := cF hm
        refine iteF ?_
        cases hm
        exact kn29 _ _ ⟨G21, v13, xt, mk26, rfl, r17⟩
    · rintro _ H44 ⟨G43, v27, xt, mk26, rfl, r28⟩
      have r_script_ := Rp.mono mk26 r_script_
      have r_k_ := Rp.mono mk26 r_k_
      exact sv_ret (K := K) (ev_modR (ev_mul (ev_var rfl r28) (ev_var rfl r28))) hm xt.gh fun v49 G50 H51 x52 r53 => q v49 G50 H51 (xt.trans x52) r53
theorem ok_law_lit {f : Addr} {fd : FuncData} (F : Fun K "_law_lit" "_law_lit" s_law_lit f fd) (T : Txt mg) : FnOk P w K mg base CX0 1 f fd ["_law_letters_here", "_law_bits"] (spM K mm_law_lit) := by
  refine F.ok sc_law_lit (fun vs H Q E h => (spM_len h).trans rfl) (fun cdv A outer s H0 vs Q E hr h => ?_)
  obtain ⟨G0, ⟨letters_here_, ⟨bits_, ⟨⟩⟩⟩, res, sg0, ⟨v_letters_here_, _, rfl, r_letters_here_, ⟨v_bits_, _, rfl, r_bits_, rfl⟩⟩, hm, q⟩ := h
  replace r_letters_here_ : Rp.rel K G0 v_letters_here_ letters_here_ := r_letters_here_
  replace r_bits_ : Rp.rel K G0 v_bits_ bits_ := r_bits_
  replace hm : m_law_lit letters_here_ bits_ = some res := hm
  unfold m_law_lit at hm
  have xt : Ext G0 H0 G0 H0 := Ext.refl sg0
  refine ⟨_, (pss_cons (ps_set (i := 2) sc_law_lit.nd rfl (Or.inl rfl) pe_str)
      (pss_cons (ps_for PassesOwn.never rfl (pi_anyK (K := K) rfl (pe_callB (call_sortedS (K := K) rfl) (by rfl) T.sorted_ bt_sorted (pa_cons (pv 0) pa_nil))) (pg_name (i := 3) sc_law_lit.nd rfl (Or.inl rfl)) (pss_cons (ps_if (pt_cmpR op_eq (pe_op op_mod (pv 1) pe_int) pe_int (nomark _)) (pss_cons (ps_set (i := 2) sc_law_lit.nd rfl (Or.inl rfl) (pe_op (op_plusK (K := K) rfl) (pv 2) (pv 3)))
      pss_nil) pss_nil)
      (pss_cons (ps_set (i := 1) sc_law_lit.nd rfl (Or.inl rfl) (pe_op op_fdiv (pv 1) pe_int))
      pss_nil)))
      (pss_cons (ps_ret (pv 2))
      pss_nil))), ?_⟩
  obtain ⟨text_, h6, hm⟩ := Option.bind_eq_some_iff.mp hm
  refine sv_set (K := K) ev_s h6 xt.gh fun v1 G2 H3 x4 r5 => ?_
  have xt := xt.trans x4
  have r_letters_here_ := Rp.mono x4.gg r_letters_here_
  have r_bits_ := Rp.mono x4.gg r_bits_
  obtain ⟨as8, h9, hm⟩ := Option.bind_eq_some_iff.mp hm
  obtain ⟨fl10, h11, hm⟩ := Option.bind_eq_some_iff.mp hm
  refine sv_for (K := K) (RR := fun r v G' H' => Ext G0 H0 G' H' ∧ Rp.rel K G' v r) (iw_list (FV.ev (fv_sortS (ev_var rfl r_letters_here_)))) h9 h11 xt.gh fun G12 H13 x14 => ⟨fun s15 S' G' H' => ∃ (v16 : V) (v17 : V) (v18 : Option V), Ext G0 H0 G' H' ∧ Same G12 G' ∧ S' = [some v_letters_here_, some v16, some v17, v18] ∧ Rp.rel K G' v16 (s15.1 : Int) ∧ Rp.rel K G' v17 (s15.2 : Str), ?_, ?_, ?_, ?_, ?_⟩
  · have xt := xt.trans x14
    have r_letters_here_ := Rp.mono x14.gg r_letters_here_
    have r_bits_ := Rp.mono x14.gg r_bits_
    have r5 := Rp.mono x14.gg r5
    exact ⟨v_bits_, v1, _, xt, (Same.refl _), rfl, r_bits_, r5⟩
  · rintro _ S' G' H' ⟨v16, v17, v18, xt, mk19, rfl, r20, r21⟩
    exact ⟨mk19, xt.gh⟩
  · rintro xv22 a23 s15 _ G26 H27 fl24 - ⟨v16, v17, v18, xt, mk19, rfl, r20, r21⟩ rx25 hm D' kN28 kC29 kB30 kR31
    have r_letters_here_ := Rp.mono (x14.gg.trans mk19) r_letters_here_
    refine sv_turn ?_
    obtain ⟨b32, h33, hm⟩ := Option.bind_eq_some_iff.mp hm
    obtain ⟨s37, h38, hm⟩ := Option.bind_eq_some_iff.mp hm
    try (with_reducible refine nxt_ ?_; dsimp only)
    refine sv_join (t := tIfS _ _ _) (fun S53 H52 => ∃ (G51 : Hp) (v40 : V), Ext G0 H0 G51 H52 ∧ Same G26 G51 ∧ S53 = [some v_letters_here_, some v16, some v40, some xv22] ∧ Rp.rel K G51 v40 (s37 : Str)) (fun nx kn42 => ?_) ?_
    · refine sv_if (tv_test (K := K) (ev_eqI (ev_modR (ev_var rfl r20)) ev_i)) h33 xt.gh fun G34 H35 x36 => ?_
      have xt := xt.trans x36
      have mk19 := mk19.trans x36.gg
      have r_letters_here_ := Rp.mono x36.gg r_letters_here_
      have r20 := Rp.mono x36.gg r20
      have r21 := Rp.mono x36.gg r21
      have rx25 := Rp.mono x36.gg rx25
      have mk39 : Same G26 G34 := x36.gg
      have hm := h38
      cases b32 with
      | true =>
        replace hm := cT hm
        refine iteT ?_
        obtain ⟨text_, h50, hm⟩ := Option.bind_eq_some_iff.mp hm
        refine sv_set (K := K) (ev_catS (ev_var rfl r21) (ev_var rfl rx25)) h50 xt.gh fun v45 G46 H47 x48 r49 => ?_
        have xt := xt.trans x48
        have mk19 := mk19.trans x48.gg
        have mk39 := mk39.trans x48.gg
        have r_letters_here_ := Rp.mono x48.gg r_letters_here_
        have r20 := Rp.mono x48.gg r20
        have r21 := Rp.mono x48.gg r21
        have rx25 := Rp.mono x48.gg rx25
        cases hm
        exact kn42 _ _ ⟨G46, v45, xt, mk39, rfl, r49⟩
      | false =>
        replace hm := cF hm
        refine iteF ?_
        cases hm
        exact kn42 _ _ ⟨G34, v17, xt, mk39, rfl, r21⟩
    · rintro _ H52 ⟨G51, v40, xt, mk39, rfl, r41⟩
      have mk19 := mk19.trans mk39
      have r_letters_here_ := Rp.mono mk39 r_letters_here_
      have r20 := Rp.mono mk39 r20
      have rx25 := Rp.mono mk39 rx25
      obtain ⟨bits_, h59, hm⟩ := Option.bind_eq_some_iff.mp hm
      refine sv_set (K := K) (ev_divR (ev_var rfl r20)) h59 xt.gh fun v54 G55 H56 x57 r58 => ?_
      have xt := xt.trans x57
      have mk19 := mk19.trans x57.gg
      have r_letters_here_ := Rp.mono x57.gg r_letters_here_
      have r20 := Rp.mono x57.gg r20
      have r41 := Rp.mono x57.gg r41
      have rx25 := Rp.mono x57.gg rx25
      cases hm
      exact kN28 _ _ _ _ rfl ⟨v54, v40, _, xt, mk19, rfl, r58, r41⟩
  · rintro s15 _ G66 H67 rfl ⟨v60, v61, v62, xt, mk63, rfl, r64, r65⟩
    refine sv_nx ?_
    have r_letters_here_ := Rp.mono (x14.gg.trans mk63) r_letters_here_
    exact sv_ret (K := K) (ev_var rfl r65) hm xt.gh fun v68 G69 H70 x71 r72 => q v68 G69 H70 (xt.trans x71) r72
  · rintro r' v' G' H' rfl rl
    cases hm
    exact q v' G' H' rl.1 rl.2
theorem ok_law_machine {f : Addr} {fd : FuncData} (F : Fun K "_law_machine" "_law_machine" s_law_machine f fd) (T : Txt mg) (D_law_states : DefOk P w K mg base "_law_states" 1 ["_law_cell_here"] (spM K mm_law_states)) (D_law_chosen : DefOk P w K mg base "_law_chosen" 1 ["_law_cell_here", "_law_many"] (spM K mm_law_chosen)) (D_law_cell : DefOk P w K mg base "_law_cell" 1 ["_law_script", "_law_k"] (spM K mm_law_cell)) (D_law_lit : DefOk P w K mg base "_law_lit" 1 ["_law_letters_here", "_law_bits"] (spM K mm_law_lit)) : FnOk P w K mg base CX0 2 f fd ["_law_script", "_law_letters_here"] (spM K mm_law_machine) := by
  refine F.ok sc_law_machine (fun vs H Q E h => (spM_len h).trans rfl) (fun cdv A outer s H0 vs Q E hr h => ?_)
  obtain ⟨G0, ⟨script_, ⟨letters_here_, ⟨⟩⟩⟩, res, sg0, ⟨v_script_, _, rfl, r_script_, ⟨v_letters_here_, _, rfl, r_letters_here_, rfl⟩⟩, hm, q⟩ := h
  replace r_script_ : Rp.rel K G0 v_script_ script_ := r_script_
  replace r_letters_here_ : Rp.rel K G0 v_letters_here_ letters_here_ := r_letters_here_
  replace hm : m_law_machine script_ letters_here_ = some res := hm
  unfold m_law_machine at hm
  have xt : Ext G0 H0 G0 H0 := Ext.refl sg0
  refine ⟨_, (pss_cons (ps_set (i := 2) sc_law_machine.nd rfl (Or.inl rfl) (pe_def D_law_states hr (by decide) rfl (pa_cons (pe_def D_law_cell hr (by decide) rfl (pa_cons (pv 0) (pa_cons pe_int pa_nil))) pa_nil)))
      (pss_cons (ps_set (i := 3) sc_law_machine.nd rfl (Or.inl rfl) (pe_op (op_mulK (K := K) rfl) pe_int (pv 2)))
      (pss_cons (ps_if (pt_cmpR op_eq (pe_op op_mod (pe_op op_fdiv (pe_def D_law_cell hr (by decide) rfl (pa_cons (pv 0) (pa_cons pe_int pa_nil))) pe_int) pe_int) pe_int (nomark _)) (pss_cons (ps_set (i := 3) sc_law_machine.nd rfl (Or.inl rfl) (pe_op (op_mulK (K := K) rfl) (pv 2) (pv 2)))
      pss_nil) pss_nil)
      (pss_cons (ps_set (i := 4) sc_law_machine.nd rfl (Or.inr rfl) (pe_lst pa_nil))
      (pss_cons (ps_for PassesOwn.never rfl (pi_range1 rfl T.range_ (pa_cons (pe_op op_mod (pe_def D_law_cell hr (by decide) rfl (pa_cons (pv 0) (pa_cons pe_int pa_nil))) (pe_op (op_plusK (K := K) rfl) (pe_callB (call_min2 rfl) (by rfl) T.min_ bt_min (pa_cons pe_int (pa_cons (pv 3) pa_nil))) pe_int)) pa_nil)) (pg_name (i := 5) sc_law_machine.nd rfl (Or.inl rfl)) (pss_cons (ps_set (i := 6) sc_law_machine.nd rfl (Or.inl rfl) (pe_def D_law_cell hr (by decide) rfl (pa_cons (pv 0) (pa_cons (pe_op (op_plusK (K := K) rfl) pe_int (pv 5)) pa_nil))))
      (pss_cons (ps_set (i := 7) sc_law_machine.nd rfl (Or.inl rfl) (pe_tup (pa_cons (pe_op op_mod (pe_op op_fdiv (pv 6) pe_int) (pv 2)) (pa_cons (pe_op op_mod (pv 6) (pv 2)) pa_nil))))
      (pss_cons (ps_if (pt_cmpR op_ltU (pv 5) (pv 2) (nomark _)) (pss_cons (ps_set (i := 7) sc_law_machine.nd rfl (Or.inl rfl) (pe_tup (pa_cons (pv 5) (pa_cons (pe_op op_mod (pv 6) (pv 2)) pa_nil))))
      pss_nil) pss_nil)
      (pss_cons (ps_if (pt_cmpR (op_notInE (K := K) rfl (Int × Int) hr (by decide)) (pv 7) (pv 4) rfl) (pss_cons (ps_expr (pe_bmK (K := K) rfl PySem.F.plainAttrs_list PySem.F.slot_list_append PySem.F.type_list_append mt_append (pv 4) (pa_cons (pv 7) pa_nil)))
      pss_nil) pss_nil)
      pss_nil)))))
      (pss_cons (ps_setcomp (i := 8) sc_law_machine.nd rfl (Or.inl rfl) (cn := ["_law_letters_here", "_law_script"]) (cap := [1, 0]) rfl ⟨by decide +kernel, rfl, by decide +kernel, free_of rfl⟩ rfl (by decide +kernel) ⟨⟨rfl, .inl rfl, rfl⟩, ⟨rfl, .inl rfl, rfl⟩, trivial⟩ (pi_range1 rfl T.range_ (pa_cons (pv 2) pa_nil)) (fun C s0 H0 fp => ⟨pts_nil, (pe_def D_law_lit hr (by decide) rfl (pa_cons (pv 1) (pa_cons (pe_op op_mod (pe_def D_law_cell hr (by decide) rfl (pa_cons (pv 2) (pa_cons (pe_op (op_plusK (K := K) rfl) pe_int (pv 0)) pa_nil))) pe_int) pa_nil)))⟩))
      (pss_cons (ps_set (i := 9) sc_law_machine.nd rfl (Or.inl rfl) (pe_def D_law_chosen hr (by decide) rfl (pa_cons (pe_def D_law_cell hr (by decide) rfl (pa_cons (pv 0) (pa_cons pe_int pa_nil))) (pa_cons (pv 2) pa_nil))))
      (pss_cons (ps_if (pt_cmpR op_eq (pe_op op_mod (pe_op op_fdiv (pe_def D_law_cell hr (by decide) rfl (pa_cons (pv 0) (pa_cons pe_int pa_nil))) pe_int) pe_int) pe_int (nomark _)) (pss_cons (ps_set (i := 9) sc_law_machine.nd rfl (Or.inl rfl) (pe_sortR (K := K) rfl (by rfl) T.sorted_ (pa_cons (pv 9) pa_nil)))
      pss_nil) pss_nil)
      (pss_cons (ps_setcomp (i := 10) sc_law_machine.nd rfl (Or.inl rfl) (cn := ["_law_script", "_law_ways"]) (cap := [0, 4]) rfl ⟨by decide +kernel, rfl, by decide +kernel, free_of rfl⟩ rfl (by decide +kernel) ⟨⟨rfl, .inl rfl, rfl⟩, ⟨rfl, .inl rfl, rfl⟩, trivial⟩ (pi_range1 rfl T.range_ (pa_cons (pe_op op_mod (pe_def D_law_cell hr (by decide) rfl (pa_cons (pv 0) (pa_cons pe_int pa_nil))) pe_int) pa_nil)) (fun C s0 H0 fp => ⟨pts_nil, (pe_def D_law_chosen hr (by decide) rfl (pa_cons (pe_def D_law_cell hr (by decide) rfl (pa_cons (pv 1) (pa_cons (pe_op (op_plusK (K := K) rfl) pe_int (pv 0)) pa_nil))) (pa_cons (pe_callB (call_lenK (K := K) rfl) (by rfl) T.len_ bt_len (pa_cons (pv 2) pa_nil)) pa_nil)))⟩))
      (pss_cons (ps_ret (pe_tup (pa_cons (pv 8) (pa_cons (pv 4) (pa_cons (pv 9) (pa_cons (pv 10) pa_nil))))))
      pss_nil)))))))))), ?_⟩
  obtain ⟨many_, h9, hm⟩ := Option.bind_eq_some_iff.mp hm
  refine sv_set (K := K) (ev_def1 (m := mm_law_states) (ev_def2 (m := mm_law_cell) (ev_var rfl r_script_) ev_i)) h9 xt.gh fun v4 G5 H6 x7 r8 => ?_
  have xt := xt.trans x7
  have r_script_ := Rp.mono x7.gg r_script_
  have r_letters_here_ := Rp.mono x7.gg r_letters_here_
  obtain ⟨most_, h15, hm⟩ := Option.bind_eq_some_iff.mp hm
  refine sv_set (K := K) (ev_mulL (ev_var rfl r8)) h15 xt.gh fun v10 G11 H12 x13 r14 => ?_
  have xt := xt.trans x13
  have r_script_ := Rp.mono x13.gg r_script_
  have r_letters_here_ := Rp.mono x13.gg r_letters_here_
  have r8 := Rp.mono x13.gg r8
  obtain ⟨b21, h22, hm⟩ := Option.bind_eq_some_iff.mp hm
  obtain ⟨s26, h27, hm⟩ := Option.bind_eq_some_iff.mp hm
  try (with_reducible refine nxt_ ?_; dsimp only)
  refine sv_join (t := tIfS _ _ _) (fun S42 H41 => ∃ (G40 : Hp) (v29 : V), Ext G0 H0 G40 H41 ∧ Same G11 G40 ∧ S42 = [some v_script_, some v_letters_here_, some v4, some v29, none, none, none, none, none, none, none] ∧ Rp.rel K G40 v29 (s26 : Int)) (fun nx kn31 => ?_) ?_
  · refine sv_if (tv_test (K := K) (ev_eqI (ev_modR (ev_divR (ev_def2 (m := mm_law_cell) (ev_var rfl r_script_) ev_i))) ev_i)) h22 xt.gh fun G23 H24 x25 => ?_
    have xt := xt.trans x25
    have r_script_ := Rp.mono x25.gg r_script_
    have r_letters_here_ := Rp.mono x25.gg r_letters_here_
    have r8 := Rp.mono x25.gg r8
    have r14 := Rp.mono x25.gg r14
    have mk28 : Same G11 G23 := x25.gg
    have hm := h27
    cases b21 with
    | true =>
      replace hm := cT hm
      refine iteT ?_
      obtain ⟨most_, h39, hm⟩ := Option.bind_eq_some_iff.mp hm
      refine sv_set (K := K) (ev_mul (ev_var rfl r8) (ev_var rfl r8)) h39 xt.gh fun v34 G35 H36 x37 r38 => ?_
      have xt := xt.trans x37
      have mk28 := mk28.trans x37.gg
      have r_script_ := Rp.mono x37.gg r_script_
      have r_letters_here_ := Rp.mono x37.gg r_letters_here_
      have r8 := Rp.mono x37.gg r8
      have r14 := Rp.mono x37.gg r14
      cases hm
      exact kn31 _ _ ⟨G35, v34, xt, mk28, rfl, r38⟩
    | false =>
      replace hm := cF hm
      refine iteF ?_
      cases hm
      exact kn31 _ _ ⟨G23, v10, xt, mk28, rfl, r14⟩
  · rintro _ H41 ⟨G40, v29, xt, mk28, rfl, r30⟩
    have r_script_ := Rp.mono mk28 r_script_
    have r_letters_here_ := Rp.mono mk28 r_letters_here_
    have r8 := Rp.mono mk28 r8
    obtain ⟨ways_, h50, hm⟩ := Option.bind_eq_some_iff.mp hm
    refine sv_own (K := K) (fv_lst (lv_nil (α := (Int × Int)))) h50 xt.gh fun p43 vs44 G45 H46 x47 hz48 o49 => ?_
    have hz48 := xt.hh.free hz48
    have xt := xt.trans x47
    have r_script_ := Rp.mono x47.gg r_script_
    have r_letters_here_ := Rp.mono x47.gg r_letters_here_
    have r8 := Rp.mono x47.gg r8
    have r30 := Rp.mono x47.gg r30
    obtain ⟨as56, h57, hm⟩ := Option.bind_eq_some_iff.mp hm
    obtain ⟨fl58, h59, hm⟩ := Option.bind_eq_some_iff.mp hm
    refine sv_for (K := K) (RR := fun r v G' H' => Ext G0 H0 G' H' ∧ Rp.rel K G' v r) (iw_rng1 (ev_mod (ev_def2 (m := mm_law_cell) (ev_var rfl r_script_) ev_i) (ev_add (ev_min ev_i (ev_var rfl r30)) ev_i))) h57 h59 xt.gh fun G60 H61 x62 => ⟨fun s63 S' G' H' => ∃ (v64 : Option V) (v65 : Option V) (v66 : Option V), Ext G0 H0 G' H' ∧ Same G60 G' ∧ S' = [some v_script_, some v_letters_here_, some v4, some v29, some (V.ref p43), v64, v65, v66, none, none, none] ∧ (∃ vs, Own K G' H' (V.ref p43) p43 vs s63), ?_, ?_, ?_, ?_, ?_⟩
    · have xt := xt.trans x62
      have r_script_ := Rp.mono x62.gg r_script_
      have r_letters_here_ := Rp.mono x62.gg r_letters_here_
      have r8 := Rp.mono x62.gg r8
      have r30 := Rp.mono x62.gg r30
      have o49 := o49.ext x62
      exact ⟨_, _, _, xt, (Same.refl _), rfl, ⟨_, o49⟩⟩
    · rintro _ S' G' H' ⟨v64, v65, v66, xt, mk67, rfl, ⟨vs44, o49⟩⟩
      exact ⟨mk67, xt.gh⟩
    · rintro xv68 a69 s63 _ G72 H73 fl70 - ⟨v64, v65, v66, xt, mk67, rfl, ⟨vs44, o49⟩⟩ rx71 hm D' kN74 kC75 kB76 kR77
      have r_script_ := Rp.mono (x62.gg.trans mk67) r_script_
      have r_letters_here_ := Rp.mono (x62.gg.trans mk67) r_letters_here_
      have r8 := Rp.mono (x62.gg.trans mk67) r8
      have r30 := Rp.mono (x62.gg.trans mk67) r30
      refine sv_turn ?_
      obtain ⟨cell_here_, h85, hm⟩ := Option.bind_eq_some_iff.mp hm
      refine sv_set (K := K) (ev_def2 (m := mm_law_cell) (ev_var rfl r_script_) (ev_add ev_i (ev_var rfl rx71))) h85 xt.gh fun v80 G81 H82 x83 r84 => ?_
      have xt := xt.trans x83
      have mk67 := mk67.trans x83.gg
      have r_script_ := Rp.mono x83.gg r_script_
      have r_letters_here_ := Rp.mono x83.gg r_letters_here_
      have r8 := Rp.mono x83.gg r8
      have r30 := Rp.mono x83.gg r30
      have o49 := o49.ext x83
      have rx71 := Rp.mono x83.gg rx71
      obtain ⟨way_, h97, hm⟩ := Option.bind_eq_some_iff.mp hm
      refine sv_set (K := K) (ev_tup2 (ev_mod (ev_divR (ev_var rfl r84)) (ev_var rfl r8)) (ev_mod (ev_var rfl r84) (ev_var rfl r8))) h97 xt.gh fun v92 G93 H94 x95 r96 => ?_
      have xt := xt.trans x95
      have mk67 := mk67.trans x95.gg
      have r_script_ := Rp.mono x95.gg r_script_
      have r_letters_here_ := Rp.mono x95.gg r_letters_here_
      have r8 := Rp.mono x95.gg r8
      have r30 := Rp.mono x95.gg r30
      have o49 := o49.ext x95
      have rx71 := Rp.mono x95.gg rx71
      have r84 := Rp.mono x95.gg r84
      obtain ⟨b98, h99, hm⟩ := Option.bind_eq_some_iff.mp hm
      obtain ⟨s103, h104, hm⟩ := Option.bind_eq_some_iff.mp hm
      try (with_reducible refine nxt_ ?_; dsimp only)
      refine sv_join (t := tIfS _ _ _) (fun S122 H121 => ∃ (G120 : Hp) (v106 : V), Ext G0 H0 G120 H121 ∧ Same G93 G120 ∧ S122 = [some v_script_, some v_letters_here_, some v4, some v29, some (V.ref p43), some xv68, some v80, some v106, none, none, none] ∧ Rp.rel K G120 v106 (s103 : (Int × Int)) ∧ Own K G120 H121 (V.ref p43) p43 vs44 s63) (fun nx kn108 => ?_) ?_
      · refine sv_if (tv_test (K := K) (ev_ord (ev_var rfl rx71) (ev_var rfl r8))) h99 xt.gh fun G100 H101 x102 => ?_
        have xt := xt.trans x102
        have mk67 := mk67.trans x102.gg
        have r_script_ := Rp.mono x102.gg r_script_
        have r_letters_here_ := Rp.mono x102.gg r_letters_here_
        have r8 := Rp.mono x102.gg r8
        have r30 := Rp.mono x102.gg r30
        have o49 := o49.ext x102
        have rx71 := Rp.mono x102.gg rx71
        have r84 := Rp.mono x102.gg r84
        have r96 := Rp.mono x102.gg r96
        have mk105 : Same G93 G100 := x102.gg
        have hm := h104
        cases b98 with
        | true =>
          replace hm := cT hm
          refine iteT ?_
          obtain ⟨way_, h119, hm⟩ := Option.bind_eq_some_iff.mp hm
          refine sv_set (K := K) (ev_tup2 (ev_var rfl rx71) (ev_mod (ev_var rfl r84) (ev_var rfl r8))) h119 xt.gh fun v114 G115 H116 x117 r118 => ?_
          have xt := xt.trans x117
          have mk67 := mk67.trans x117.gg
          have mk105 := mk105.trans x117.gg
          have r_script_ := Rp.mono x117.gg r_script_
          have r_letters_here_ := Rp.mono x117.gg r_letters_here_
          have r8 := Rp.mono x117.gg r8
          have r30 := Rp.mono x117.gg r30
          have o49 := o49.ext x117
          have rx71 := Rp.mono x117.gg rx71
          have r84 := Rp.mono x117.gg r84
          have r96 := Rp.mono x117.gg r96
          cases hm
          exact kn108 _ _ ⟨G115, v114, xt, mk105, rfl, r118, o49⟩
        | false =>
          replace hm := cF hm
          refine iteF ?_
          cases hm
          exact kn108 _ _ ⟨G100, v92, xt, mk105, rfl, r96, o49⟩
      · rintro _ H121 ⟨G120, v106, xt, mk105, rfl, r107, o49⟩
        have mk67 := mk67.trans mk105
        have r_script_ := Rp.mono mk105 r_script_
        have r_letters_here_ := Rp.mono mk105 r_letters_here_
        have r8 := Rp.mono mk105 r8
        have r30 := Rp.mono mk105 r30
        have rx71 := Rp.mono mk105 rx71
        have r84 := Rp.mono mk105 r84
        obtain ⟨b123, h124, hm⟩ := Option.bind_eq_some_iff.mp hm
        refine sv_ifB o49 (tv_test (K := K) (ev_notInEm (ev_var rfl (Rp.mono (Same.new o49.g) r107)) (ev_var rfl o49.tell))) h124 xt.gh fun G125 H126 x127 => ?_
        have xt := xt.trans x127
        have mk67 := mk67.trans x127.gg
        have r_script_ := Rp.mono x127.gg r_script_
        have r_letters_here_ := Rp.mono x127.gg r_letters_here_
        have r8 := Rp.mono x127.gg r8
        have r30 := Rp.mono x127.gg r30
        have o49 := o49.ext x127
        have rx71 := Rp.mono x127.gg rx71
        have r84 := Rp.mono x127.gg r84
        have r107 := Rp.mono x127.gg r107
        cases b123 with
        | true =>
          replace hm := cT hm
          refine iteT ?_
          obtain ⟨a128, h129, hm⟩ := Option.bind_eq_some_iff.mp hm
          obtain ⟨z136, h130, hm⟩ := Option.bind_eq_some_iff.mp hm
          refine sv_append (K := K) rfl o49 (ev_var rfl r107) h129 h130 xt.gh fun G131 H132 w133 x134 o135 => ?_
          have xt : Ext G0 H0 G131 (upd H132 p43 (.lst (vs44 ++ [w133]))) := (xt.trans x134).put hz48 o135.g
          have mk67 := mk67.trans x134.gg
          have r_script_ := Rp.mono x134.gg r_script_
          have r_letters_here_ := Rp.mono x134.gg r_letters_here_
          have r8 := Rp.mono x134.gg r8
          have r30 := Rp.mono x134.gg r30
          have rx71 := Rp.mono x134.gg rx71
          have r84 := Rp.mono x134.gg r84
          have r107 := Rp.mono x134.gg r107
          cases hm
          exact kN74 _ _ _ _ rfl ⟨_, _, _, xt, mk67, rfl, ⟨_, o135⟩⟩
        | false =>
          replace hm := cF hm
          refine iteF ?_
          cases hm
          exact kN74 _ _ _ _ rfl ⟨_, _, _, xt, mk67, rfl, ⟨_, o49⟩⟩
    · rintro s63 _ G141 H142 rfl ⟨v137, v138, v139, xt, mk140, rfl, ⟨vs44, o49⟩⟩
      refine sv_nx ?_
      have r_script_ := Rp.mono (x62.gg.trans mk140) r_script_
      have r_letters_here_ := Rp.mono (x62.gg.trans mk140) r_letters_here_
      have r8 := Rp.mono (x62.gg.trans mk140) r8
      have r30 := Rp.mono (x62.gg.trans mk140) r30
      obtain ⟨lit_here_, h159, hm⟩ := Option.bind_eq_some_iff.mp hm
      refine sv_set (K := K) (FV.ev (fv_map (cap := [1, 0]) (fe := fun (k_ : Int) => ((some letters_here_).bind fun t151 => (((some script_).bind fun t148 => (some ((32 : Int) + k_)).bind fun t149 => m_law_cell t148 t149).bind fun t150 => (some (t150 % (16 : Int)))).bind fun t152 => m_law_lit t151 t152)) (iw_rng1 (ev_var rfl r8)) fun xc147 k_ Gc144 sc145 rc146 => (ev_def2 (m := mm_law_lit) (ev_var rfl (Rp.mono sc145 r_letters_here_)) (ev_modR (ev_def2 (m := mm_law_cell) (ev_var rfl (Rp.mono sc145 r_script_)) (ev_add ev_i (ev_var rfl rc146))))))) h159 xt.gh fun v154 G155 H156 x157 r158 => ?_
      have xt := xt.trans x157
      have r_script_ := Rp.mono x157.gg r_script_
      have r_letters_here_ := Rp.mono x157.gg r_letters_here_
      have r8 := Rp.mono x157.gg r8
      have r30 := Rp.mono x157.gg r30
      have o49 := o49.ext x157
      obtain ⟨starts_, h169, hm⟩ := Option.bind_eq_some_iff.mp hm
      refine sv_set (K := K) (ev_def2 (m := mm_law_chosen) (ev_def2 (m := mm_law_cell) (ev_var rfl r_script_) ev_i) (ev_var rfl r8)) h169 xt.gh fun v164 G165 H166 x167 r168 => ?_
      have xt := xt.trans x167
      have r_script_ := Rp.mono x167.gg r_script_
      have r_letters_here_ := Rp.mono x167.gg r_letters_here_
      have r8 := Rp.mono x167.gg r8
      have r30 := Rp.mono x167.gg r30
      have o49 := o49.ext x167
      have r158 := Rp.mono x167.gg r158
      obtain ⟨b175, h176, hm⟩ := Option.bind_eq_some_iff.mp hm
      obtain ⟨s180, h181, hm⟩ := Option.bind_eq_some_iff.mp hm
      try (with_reducible refine nxt_ ?_; dsimp only)
      refine sv_join (t := tIfS _ _ _) (fun S195 H194 => ∃ (G193 : Hp) (v183 : V), Ext G0 H0 G193 H194 ∧ Same G165 G193 ∧ S195 = [some v_script_, some v_letters_here_, some v4, some v29, some (V.ref p43), v137, v138, v139, some v154, some v183, none] ∧ Rp.rel K G193 v183 (s180 : (List Int)) ∧ Own K G193 H194 (V.ref p43) p43 vs44 s63) (fun nx kn185 => ?_) ?_
      · refine sv_if (tv_test (K := K) (ev_eqI (ev_modR (ev_divR (ev_def2 (m := mm_law_cell) (ev_var rfl r_script_) ev_i))) ev_i)) h176 xt.gh fun G177 H178 x179 => ?_
        have xt := xt.trans x179
        have r_script_ := Rp.mono x179.gg r_script_
        have r_letters_here_ := Rp.mono x179.gg r_letters_here_
        have r8 := Rp.mono x179.gg r8
        have r30 := Rp.mono x179.gg r30
        have o49 := o49.ext x179
        have r158 := Rp.mono x179.gg r158
        have r168 := Rp.mono x179.gg r168
        have mk182 : Same G165 G177 := x179.gg
        have hm := h181
        cases b175 with
        | true =>
          replace hm := cT hm
          refine iteT ?_
          obtain ⟨starts_, h192, hm⟩ := Option.bind_eq_some_iff.mp hm
          refine sv_set (K := K) (FV.ev (fv_sortR (ev_var rfl r168))) h192 xt.gh fun v187 G188 H189 x190 r191 => ?_
          have xt := xt.trans x190
          have mk182 := mk182.trans x190.gg
          have r_script_ := Rp.mono x190.gg r_script_
          have r_letters_here_ := Rp.mono x190.gg r_letters_here_
          have r8 := Rp.mono x190.gg r8
          have r30 := Rp.mono x190.gg r30
          have o49 := o49.ext x190
          have r158 := Rp.mono x190.gg r158
          have r168 := Rp.mono x190.gg r168
          cases hm
          exact kn185 _ _ ⟨G188, v187, xt, mk182, rfl, r191, o49⟩
        | false =>
          replace hm := cF hm
          refine iteF ?_
          cases hm
          exact kn185 _ _ ⟨G177, v164, xt, mk182, rfl, r168, o49⟩
      · rintro _ H194 ⟨G193, v183, xt, mk182, rfl, r184, o49⟩
        have r_script_ := Rp.mono mk182 r_script_
        have r_letters_here_ := Rp.mono mk182 r_letters_here_
        have r8 := Rp.mono mk182 r8
        have r30 := Rp.mono mk182 r30
        have r158 := Rp.mono mk182 r158
        have sf := Same.new (o := .lst vs44) o49.g
        have xt := xt.frz hz48 o49.g o49.h
        have r209 := o49.tell
        have r_script_ := Rp.mono sf r_script_
        have r_letters_here_ := Rp.mono sf r_letters_here_
        have r8 := Rp.mono sf r8
        have r30 := Rp.mono sf r30
        have r158 := Rp.mono sf r158
        have r184 := Rp.mono sf r184
        obtain ⟨marks_, h228, hm⟩ := Option.bind_eq_some_iff.mp hm
        refine sv_set (K := K) (FV.ev (fv_map (cap := [0, 4]) (fe := fun (k_ : Int) => (((some script_).bind fun t218 => (some ((5 : Int) + k_)).bind fun t219 => m_law_cell t218 t219).bind fun t220 => (some (s63.length : Int)).bind fun t221 => m_law_chosen t220 t221)) (iw_rng1 (ev_modR (ev_def2 (m := mm_law_cell) (ev_var rfl r_script_) ev_i))) fun xc217 k_ Gc214 sc215 rc216 => (ev_def2 (m := mm_law_chosen) (ev_def2 (m := mm_law_cell) (ev_var rfl (Rp.mono sc215 r_script_)) (ev_add ev_i (ev_var rfl rc216))) (ev_len (ev_var rfl (Rp.mono sc215 r209)))))) h228 xt.gh fun v223 G224 H225 x226 r227 => ?_
        have xt := xt.trans x226
        have r_script_ := Rp.mono x226.gg r_script_
        have r_letters_here_ := Rp.mono x226.gg r_letters_here_
        have r8 := Rp.mono x226.gg r8
        have r30 := Rp.mono x226.gg r30
        have r209 := Rp.mono x226.gg r209
        have r158 := Rp.mono x226.gg r158
        have r184 := Rp.mono x226.gg r184
        exact sv_ret (K := K) (ev_tup4 (ev_var rfl r158) (ev_var rfl r209) (ev_var rfl r184) (ev_var rfl r227)) hm xt.gh fun v229 G230 H231 x232 r233 => q v229 G230 H231 (xt.trans x232) r233
    · rintro r' v' G' H' rfl rl
      cases hm
      exact q v' G' H' rl.1 rl.2
theorem ok_law_strolled {f : Addr} {fd : FuncData} (F : Fun K "_law_strolled" "_law_strolled" s_law_strolled f fd) (T : Txt mg) (D_law_cell : DefOk P w K mg base "_law_cell" 1 ["_law_script", "_law_k"] (spM K mm_law_cell)) : FnOk P w K mg base CX0 2 f fd ["_law_script", "_law_machine_here", "_law_at"] (spM K mm_law_strolled) := by
  refine F.ok sc_law_strolled (fun vs H Q E h => (spM_len h).trans rfl) (fun cdv A outer s H0 vs Q E hr h => ?_)
  obtain ⟨G0, ⟨script_, ⟨machine_here_, ⟨at_, ⟨⟩⟩⟩⟩, res, sg0, ⟨v_script_, _, rfl, r_script_, ⟨v_machine_here_, _, rfl, r_machine_here_, ⟨v_at_, _, rfl, r_at_, rfl⟩⟩⟩, hm, q⟩ := h
  replace r_script_ : Rp.rel K G0 v_script_ script_ := r_script_
  replace r_machine_here_ : Rp.rel K G0 v_machine_here_ machine_here_ := r_machine_here_
  replace r_at_ : Rp.rel K G0 v_at_ at_ := r_at_
  replace hm : m_law_strolled script_ machine_here_ at_ = some res := hm
  unfold m_law_strolled at hm
  have xt : Ext G0 H0 G0 H0 := Ext.refl sg0
  refine ⟨_, (pss_cons (ps_set (i := 3) sc_law_strolled.nd rfl (Or.inr rfl) (pe_lst (pa_cons pe_int pa_nil)))
      (pss_cons (ps_if (pt_cmpR (op_neK (K := K) rfl (List Int) hr (by decide)) (pe_ix (ix_anyK (K := K) rfl) (pv 1) pe_int (fun _ _ => rfl)) (pe_lst pa_nil) (nomark _)) (pss_cons (ps_set (i := 3) sc_law_strolled.nd rfl (Or.inr rfl) (pe_lst (pa_cons (pe_ix (ix_anyK (K := K) rfl) (pe_ix (ix_anyK (K := K) rfl) (pv 1) pe_int (fun _ _ => rfl)) (pe_op op_mod (pe_def D_law_cell hr (by decide) rfl (pa_cons (pv 0) (pa_cons (pv 2) pa_nil))) (pe_callB (call_lenK (K := K) rfl) (by rfl) T.len_ bt_len (pa_cons (pe_ix (ix_anyK (K := K) rfl) (pv 1) pe_int (fun _ _ => rfl)) pa_nil))) (fun _ _ => rfl)) pa_nil)))
      pss_nil) pss_nil)
      (pss_cons (ps_for PassesOwn.never rfl (pi_range1 rfl T.range_ (pa_cons pe_int pa_nil)) (pg_name (i := 4) sc_law_strolled.nd rfl (Or.inl rfl)) (pss_cons (ps_setcomp (i := 5) sc_law_strolled.nd rfl (Or.inl rfl) (cn := ["_law_states_here"]) (cap := [3]) rfl ⟨by decide +kernel, rfl, by decide +kernel, free_of rfl⟩ rfl (by decide +kernel) ⟨⟨rfl, .inl rfl, rfl⟩, trivial⟩ (pi_anyK (K := K) rfl (pe_ix (ix_anyK (K := K) rfl) (pv 1) pe_int (fun _ _ => rfl))) (fun C s0 H0 fp => ⟨(pts_one (pt_cmpR op_eq (pe_ix (ix_anyK (K := K) rfl) (pv 0) pe_int (fun _ _ => rfl)) (pe_ix (ix_anyK (K := K) rfl) (pv 1) (pe_un un_neg pe_int) (fun _ _ => rfl)) (nomark _))), (pe_ix (ix_anyK (K := K) rfl) (pv 0) pe_int (fun _ _ => rfl))⟩))
      (pss_cons (ps_if (pt_cmpR (op_neK (K := K) rfl (List Int) hr (by decide)) (pv 5) (pe_lst pa_nil) (nomark _)) (pss_cons (ps_expr (pe_bmK (K := K) rfl PySem.F.plainAttrs_list PySem.F.slot_list_append PySem.F.type_list_append mt_append (pv 3) (pa_cons (pe_ix (ix_anyK (K := K) rfl) (pv 5) (pe_op op_mod (pe_op op_fdiv (pe_def D_law_cell hr (by decide) rfl (pa_cons (pv 0) (pa_cons (pe_op (op_plusK (K := K) rfl) (pv 2) (pv 4)) pa_nil))) pe_int) (pe_callB (call_lenK (K := K) rfl) (by rfl) T.len_ bt_len (pa_cons (pv 5) pa_nil))) (fun _ _ => rfl)) pa_nil)))
      pss_nil) pss_nil)
      pss_nil)))
      (pss_cons (ps_set (i := 6) sc_law_strolled.nd rfl (Or.inl rfl) (pe_op op_sub (pe_callB (call_lenK (K := K) rfl) (by rfl) T.len_ bt_len (pa_cons (pv 3) pa_nil)) pe_int))
      (pss_cons (ps_while PassesOwn.never (PW.pt (pw_and (pt_cmpR op_gtU (pv 6) pe_int (nomark _)) (pw_and1 (pt_cmpR (op_notInK (K := K) rfl) (pe_ix (ix_anyK (K := K) rfl) (pv 3) (pv 6) (fun _ _ => rfl)) (pe_slice (sl_anyK (K := K) rfl) (pv 3) po_none (po_some (pv 6))) rfl)))) (pss_cons (ps_set (i := 6) sc_law_strolled.nd rfl (Or.inl rfl) (pe_op op_sub (pv 6) pe_int))
      pss_nil))
      (pss_cons (ps_set (i := 7) sc_law_strolled.nd rfl (Or.inl rfl) (pe_bmK (K := K) rfl PySem.F.plainAttrs_list PySem.F.slot_list_index PySem.F.type_list_index (mt_indexI (K := K) rfl) (pv 3) (pa_cons (pe_ix (ix_anyK (K := K) rfl) (pv 3) (pv 6) (fun _ _ => rfl)) pa_nil)))
      (pss_cons (ps_ret (pe_tup (pa_cons (pe_slice (sl_anyK (K := K) rfl) (pv 3) po_none (po_some (pv 7))) (pa_cons (pe_slice (sl_anyK (K := K) rfl) (pv 3) (po_some (pv 7)) (po_some (pv 6))) pa_nil))))
      pss_nil))))))), ?_⟩
  obtain ⟨states_here_, h8, hm⟩ := Option.bind_eq_some_iff.mp hm
  refine sv_own (K := K) (fv_lst (lv_cons ev_i (lv_nil (α := Int)))) h8 xt.gh fun p1 vs2 G3 H4 x5 hz6 o7 => ?_
  have hz6 := xt.hh.free hz6
  have xt := xt.trans x5
  have r_script_ := Rp.mono x5.gg r_script_
  have r_machine_here_ := Rp.mono x5.gg r_machine_here_
  have r_at_ := Rp.mono x5.gg r_at_
  obtain ⟨b9, h10, hm⟩ := Option.bind_eq_some_iff.mp hm
  obtain ⟨s14, h15, hm⟩ := Option.bind_eq_some_iff.mp hm
  try (with_reducible refine nxt_ ?_; dsimp only)
  refine sv_join (t := tIfS _ _ _) (fun S37 H36 => ∃ (G35 : Hp) (v17 : V), Ext G0 H0 G35 H36 ∧ Same G3 G35 ∧ S37 = [some v_script_, some v_machine_here_, some v_at_, some v17, none, none, none, none] ∧ (∃ p vs, H0 p = none ∧ Own K G35 H36 v17 p vs s14)) (fun nx kn19 => ?_) ?_
  · refine sv_if (tv_test (K := K) (ev_ne (ev_p43 (ev_var rfl r_machine_here_)) (FV.ev (fv_lst (lv_nil (α := Int)))))) h10 xt.gh fun G11 H12 x13 => ?_
    have xt := xt.trans x13
    have r_script_ := Rp.mono x13.gg r_script_
    have r_machine_here_ := Rp.mono x13.gg r_machine_here_
    have r_at_ := Rp.mono x13.gg r_at_
    have o7 := o7.ext x13
    have mk16 : Same G3 G11 := x13.gg
    have hm := h15
    cases b9 with
    | true =>
      replace hm := cT hm
      refine iteT ?_
      obtain ⟨states_here_, h34, hm⟩ := Option.bind_eq_some_iff.mp hm
      refine sv_own (K := K) (fv_lst (lv_cons (ev_at (ev_p43 (ev_var rfl r_machine_here_)) (ev_mod (ev_def2 (m := mm_law_cell) (ev_var rfl r_script_) (ev_var rfl r_at_)) (ev_len (ev_p43 (ev_var rfl r_machine_here_))))) (lv_nil (α := Int)))) h34 xt.gh fun p27 vs28 G29 H30 x31 hz32 o33 => ?_
      have hz32 := xt.hh.free hz32
      have xt := xt.trans x31
      have mk16 := mk16.trans x31.gg
      have r_script_ := Rp.mono x31.gg r_script_
      have r_machine_here_ := Rp.mono x31.gg r_machine_here_
      have r_at_ := Rp.mono x31.gg r_at_
      have o7 := o7.ext x31
      cases hm
      exact kn19 _ _ ⟨G29, (V.ref p27), xt, mk16, rfl, ⟨_, _, hz32, o33⟩⟩
    | false =>
      replace hm := cF hm
      refine iteF ?_
      cases hm
      exact kn19 _ _ ⟨G11, (V.ref p1), xt, mk16, rfl, ⟨_, _, hz6, o7⟩⟩
  · rintro _ H36 ⟨G35, v17, xt, mk16, rfl, ⟨p38, vs39, hz40, o41⟩⟩
    have r_script_ := Rp.mono mk16 r_script_
    have r_machine_here_ := Rp.mono mk16 r_machine_here_
    have r_at_ := Rp.mono mk16 r_at_
    obtain ⟨as43, h44, hm⟩ := Option.bind_eq_some_iff.mp hm
    obtain ⟨fl45, h46, hm⟩ := Option.bind_eq_some_iff.mp hm
    refine sv_for (K := K) (RR := fun r v G' H' => Ext G0 H0 G' H' ∧ Rp.rel K G' v r) (iw_rng1 ev_i) h44 h46 xt.gh fun G47 H48 x49 => ⟨fun s50 S' G' H' => ∃ (v51 : Option V) (v52 : Option V), Ext G0 H0 G' H' ∧ Same G47 G' ∧ S' = [some v_script_, some v_machine_here_, some v_at_, some v17, v51, v52, none, none] ∧ (∃ vs, Own K G' H' v17 p38 vs s50), ?_, ?_, ?_, ?_, ?_⟩
    · have xt := xt.trans x49
      have r_script_ := Rp.mono x49.gg r_script_
      have r_machine_here_ := Rp.mono x49.gg r_machine_here_
      have r_at_ := Rp.mono x49.gg r_at_
      have o41 := o41.ext x49
      exact ⟨_, _, xt, (Same.refl _), rfl, ⟨_, o41⟩⟩
    · rintro _ S' G' H' ⟨v51, v52, xt, mk53, rfl, ⟨vs39, o41⟩⟩
      exact ⟨mk53, xt.gh⟩
    · rintro xv54 a55 s50 _ G58 H59 fl56 - ⟨v51, v52, xt, mk53, rfl, ⟨vs39, o41⟩⟩ rx57 hm D' kN60 kC61 kB62 kR63
      have r_script_ := Rp.mono (x49.gg.trans mk53) r_script_
      have r_machine_here_ := Rp.mono (x49.gg.trans mk53) r_machine_here_
      have r_at_ := Rp.mono (x49.gg.trans mk53) r_at_
      refine sv_turn ?_
      obtain ⟨outs_, h91, hm⟩ := Option.bind_eq_some_iff.mp hm
      refine sv_setFB (K := K) o41 (fv_comp (cap := [3]) (fc := fun (way_ : (Int × Int)) => ((some way_.1).bind fun t83 => ((some s50).bind fun t81 => (some (-(1 : Int))).bind fun t82 => atI t81 t82).bind fun t84 => some (decide (t83 = t84)))) (fe := fun (way_ : (Int × Int)) => (some way_.2)) (iw_list (ev_p42 (ev_var rfl (Rp.mono (Same.new o41.g) r_machine_here_)))) fun xc78 way_ Gc75 sc76 rc77 => ⟨(tv_test (K := K) (ev_eqI (ev_fst (ev_var rfl rc77)) (ev_at (ev_var rfl (Rp.mono sc76 o41.tell)) (ev_neg ev_i)))), (ev_snd (ev_var rfl rc77))⟩) h91 xt.gh fun v86 G87 H88 x89 r90 => ?_
      have xt := xt.trans x89
      have mk53 := mk53.trans x89.gg
      have r_script_ := Rp.mono x89.gg r_script_
      have r_machine_here_ := Rp.mono x89.gg r_machine_here_
      have r_at_ := Rp.mono x89.gg r_at_
      have o41 := o41.ext x89
      have rx57 := Rp.mono x89.gg rx57
      obtain ⟨b92, h93, hm⟩ := Option.bind_eq_some_iff.mp hm
      refine sv_if (tv_test (K := K) (ev_ne (ev_var rfl r90) (FV.ev (fv_lst (lv_nil (α := Int)))))) h93 xt.gh fun G94 H95 x96 => ?_
      have xt := xt.trans x96
      have mk53 := mk53.trans x96.gg
      have r_script_ := Rp.mono x96.gg r_script_
      have r_machine_here_ := Rp.mono x96.gg r_machine_here_
      have r_at_ := Rp.mono x96.gg r_at_
      have o41 := o41.ext x96
      have rx57 := Rp.mono x96.gg rx57
      have r90 := Rp.mono x96.gg r90
      cases b92 with
      | true =>
        replace hm := cT hm
        refine iteT ?_
        obtain ⟨a104, h105, hm⟩ := Option.bind_eq_some_iff.mp hm
        obtain ⟨z112, h106, hm⟩ := Option.bind_eq_some_iff.mp hm
        refine sv_append (K := K) rfl o41 (ev_at (ev_var rfl r90) (ev_mod (ev_divR (ev_def2 (m := mm_law_cell) (ev_var rfl r_script_) (ev_add (ev_var rfl r_at_) (ev_var rfl rx57)))) (ev_len (ev_var rfl r90)))) h105 h106 xt.gh fun G107 H108 w109 x110 o111 => ?_
        have xt : Ext G0 H0 G107 (upd H108 p38 (.lst (vs39 ++ [w109]))) := (xt.trans x110).put hz40 o111.g
        have mk53 := mk53.trans x110.gg
        have r_script_ := Rp.mono x110.gg r_script_
        have r_machine_here_ := Rp.mono x110.gg r_machine_here_
        have r_at_ := Rp.mono x110.gg r_at_
        have rx57 := Rp.mono x110.gg rx57
        have r90 := Rp.mono x110.gg r90
        cases hm
        exact kN60 _ _ _ _ rfl ⟨_, _, xt, mk53, rfl, ⟨_, o111⟩⟩
      | false =>
        replace hm := cF hm
        refine iteF ?_
        cases hm
        exact kN60 _ _ _ _ rfl ⟨_, _, xt, mk53, rfl, ⟨_, o41⟩⟩
    · rintro s50 _ G116 H117 rfl ⟨v113, v114, xt, mk115, rfl, ⟨vs39, o41⟩⟩
      refine sv_nx ?_
      have r_script_ := Rp.mono (x49.gg.trans mk115) r_script_
      have r_machine_here_ := Rp.mono (x49.gg.trans mk115) r_machine_here_
      have r_at_ := Rp.mono (x49.gg.trans mk115) r_at_
      have sf := Same.new (o := .lst vs39) o41.g
      have xt := xt.frz hz40 o41.g o41.h
      have r118 := o41.tell
      have r_script_ := Rp.mono sf r_script_
      have r_machine_here_ := Rp.mono sf r_machine_here_
      have r_at_ := Rp.mono sf r_at_
      obtain ⟨last_, h124, hm⟩ := Option.bind_eq_some_iff.mp hm
      refine sv_set (K := K) (ev_sub (ev_len (ev_var rfl r118)) ev_i) h124 xt.gh fun v119 G120 H121 x122 r123 => ?_
      have xt := xt.trans x122
      have r_script_ := Rp.mono x122.gg r_script_
      have r_machine_here_ := Rp.mono x122.gg r_machine_here_
      have r_at_ := Rp.mono x122.gg r_at_
      have r118 := Rp.mono x122.gg r118
      obtain ⟨fl125, h126, hm⟩ := Option.bind_eq_some_iff.mp hm
      refine sv_while (K := K) (G := G120) (RR := fun r v G' H' => Ext G0 H0 G' H' ∧ Rp.rel K G' v r) h126 (fun s127 S' G' H' => ∃ (v128 : V), Ext G0 H0 G' H' ∧ Same G120 G' ∧ S' = [some v_script_, some v_machine_here_, some v_at_, some v17, v113, v114, some v128, none] ∧ Rp.rel K G' v128 (s127 : Int)) ⟨?_, ?_, ?_, ?_, ?_, ?_⟩
      · exact ⟨v119, xt, (Same.refl _), rfl, r123⟩
      · rintro _ S' G' H' ⟨v128, xt, mk129, rfl, r130⟩
        exact xt.gh
      · rintro s127 _ G131 H132 b' ⟨v128, xt, mk129, rfl, r130⟩ hc Q' k'
        have r_script_ := Rp.mono mk129 r_script_
        have r_machine_here_ := Rp.mono mk129 r_machine_here_
        have r_at_ := Rp.mono mk129 r_at_
        have r118 := Rp.mono mk129 r118
        refine TV.run (tv_and (tv_test (K := K) (ev_ord (ev_var rfl r130) ev_i)) (tv_test (K := K) (ev_notInL (ev_at (ev_var rfl r118) (ev_var rfl r130)) (FV.ev (fv_slice (ev_var rfl r118) ov_none (ov_some (K := K) (ev_var rfl r130))))))) hc xt.gh fun G137 H138 x139 => ?_
        have xt := xt.trans x139
        have mk129 := mk129.trans x139.gg
        have r_script_ := Rp.mono x139.gg r_script_
        have r_machine_here_ := Rp.mono x139.gg r_machine_here_
        have r_at_ := Rp.mono x139.gg r_at_
        have r118 := Rp.mono x139.gg r118
        have r130 := Rp.mono x139.gg r130
        exact k' _ _ ⟨v128, xt, mk129, rfl, r130⟩
      · rintro s127 _ G141 H142 fl140 ⟨v128, xt, mk129, rfl, r130⟩ hm - D' kN143 kC144 kB145 kR146
        have r_script_ := Rp.mono mk129 r_script_
        have r_machine_here_ := Rp.mono mk129 r_machine_here_
        have r_at_ := Rp.mono mk129 r_at_
        have r118 := Rp.mono mk129 r118
        obtain ⟨last_, h152, hm⟩ := Option.bind_eq_some_iff.mp hm
        refine sv_set (K := K) (ev_sub (ev_var rfl r130) ev_i) h152 xt.gh fun v147 G148 H149 x150 r151 => ?_
        have xt := xt.trans x150
        have mk129 := mk129.trans x150.gg
        have r_script_ := Rp.mono x150.gg r_script_
        have r_machine_here_ := Rp.mono x150.gg r_machine_here_
        have r_at_ := Rp.mono x150.gg r_at_
        have r118 := Rp.mono x150.gg r118
        have r130 := Rp.mono x150.gg r130
        cases hm
        exact kN143 _ _ _ _ rfl ⟨v147, xt, mk129, rfl, r151⟩
      · rintro s127 _ G156 H157 rfl ⟨v153, xt, mk154, rfl, r155⟩
        refine sv_nx ?_
        have r_script_ := Rp.mono mk154 r_script_
        have r_machine_here_ := Rp.mono mk154 r_machine_here_
        have r_at_ := Rp.mono mk154 r_at_
        have r118 := Rp.mono mk154 r118
        obtain ⟨begin_, h167, hm⟩ := Option.bind_eq_some_iff.mp hm
        refine sv_set (K := K) (ev_indexI (ev_var rfl r118) (ev_at (ev_var rfl r118) (ev_var rfl r155))) h167 xt.gh fun v162 G163 H164 x165 r166 => ?_
        have xt := xt.trans x165
        have r_script_ := Rp.mono x165.gg r_script_
        have r_machine_here_ := Rp.mono x165.gg r_machine_here_
        have r_at_ := Rp.mono x165.gg r_at_
        have r118 := Rp.mono x165.gg r118
        have r155 := Rp.mono x165.gg r155
        exact sv_ret (K := K) (ev_tup2 (FV.ev (fv_slice (ev_var rfl r118) ov_none (ov_some (K := K) (ev_var rfl r166)))) (FV.ev (fv_slice (ev_var rfl r118) (ov_some (K := K) (ev_var rfl r166)) (ov_some (K := K) (ev_var rfl r155))))) hm xt.gh fun v168 G169 H170 x171 r172 => q v168 G169 H170 (xt.trans x171) r172
      · rintro r' v' G' H' rfl rl
        cases hm
        exact q v' G' H' rl.1 rl.2
    · rintro r' v' G' H' rfl rl
      cases hm
      exact q v' G' H' rl.1 rl.2
theorem ok_law_is_walked {f : Addr} {fd : FuncData} (F : Fun K "_law_is_walked" "_law_is_walked" s_law_is_walked f fd) (T : Txt mg) : FnOk P w K mg base CX0 1 f fd ["_law_machine_here", "_law_stem", "_law_ring"] (spM K mm_law_is_walked) := by
  refine F.ok sc_law_is_walked (fun vs H Q E h => (spM_len h).trans rfl) (fun cdv A outer s H0 vs Q E hr h => ?_)
  obtain ⟨G0, ⟨machine_here_, ⟨stem_, ⟨ring_, ⟨⟩⟩⟩⟩, res, sg0, ⟨v_machine_here_, _, rfl, r_machine_here_, ⟨v_stem_, _, rfl, r_stem_, ⟨v_ring_, _, rfl, r_ring_, rfl⟩⟩⟩, hm, q⟩ := h
  replace r_machine_here_ : Rp.rel K G0 v_machine_here_ machine_here_ := r_machine_here_
  replace r_stem_ : Rp.rel K G0 v_stem_ stem_ := r_stem_
  replace r_ring_ : Rp.rel K G0 v_ring_ ring_ := r_ring_
  replace hm : m_law_is_walked machine_here_ stem_ ring_ = some res := hm
  unfold m_law_is_walked at hm
  have xt : Ext G0 H0 G0 H0 := Ext.refl sg0
  refine ⟨_, (pss_cons (ps_set (i := 3) sc_law_is_walked.nd rfl (Or.inr rfl) (pe_ix (ix_anyK (K := K) rfl) (pv 0) pe_int (fun _ _ => rfl)))
      (pss_cons (ps_set (i := 4) sc_law_is_walked.nd rfl (Or.inl rfl) (pe_op (op_plusK (K := K) rfl) (pv 1) (pv 2)))
      (pss_cons (ps_if (PW.pt (pw_or (pt_cmpR (op_eqK (K := K) rfl (List Int) hr (by decide)) (pv 2) (pe_lst pa_nil) (nomark _)) (pw_or1 (pt_cmpR (op_notInK (K := K) rfl) (pe_ix (ix_anyK (K := K) rfl) (pv 4) pe_int (fun _ _ => rfl)) (pe_ix (ix_anyK (K := K) rfl) (pv 0) pe_int (fun _ _ => rfl)) rfl)))) (pss_cons (ps_ret pe_bl)
      pss_nil) pss_nil)
      (pss_cons (ps_set (i := 5) sc_law_is_walked.nd rfl (Or.inr rfl) (pe_lst pa_nil))
      (pss_cons (ps_for PassesOwn.never rfl (pi_range1 rfl T.range_ (pa_cons (pe_callB (call_lenK (K := K) rfl) (by rfl) T.len_ bt_len (pa_cons (pv 4) pa_nil)) pa_nil)) (pg_name (i := 6) sc_law_is_walked.nd rfl (Or.inl rfl)) (pss_cons (ps_set (i := 7) sc_law_is_walked.nd rfl (Or.inl rfl) (pe_ix (ix_anyK (K := K) rfl) (pe_op (op_plusK (K := K) rfl) (pv 4) (pv 2)) (pe_op (op_plusK (K := K) rfl) (pv 6) pe_int) (fun _ _ => rfl)))
      (pss_cons (ps_if (pt_cmpR (op_notInE (K := K) rfl (Int × Int) hr (by decide)) (pe_tup (pa_cons (pe_ix (ix_anyK (K := K) rfl) (pv 4) (pv 6) (fun _ _ => rfl)) (pa_cons (pv 7) pa_nil))) (pv 3) rfl) (pss_cons (ps_ret pe_bl)
      pss_nil) pss_nil)
      (pss_cons (ps_if (PW.pt (pw_and (pt_cmpR op_geU (pv 6) (pe_callB (call_lenK (K := K) rfl) (by rfl) T.len_ bt_len (pa_cons (pv 1) pa_nil)) (nomark _)) (pw_and1 (pt_cmpR (op_notInE (K := K) rfl (Int × Int) hr (by decide)) (pe_tup (pa_cons (pe_ix (ix_anyK (K := K) rfl) (pv 4) (pv 6) (fun _ _ => rfl)) (pa_cons (pv 7) pa_nil))) (pv 5) rfl)))) (pss_cons (ps_expr (pe_bmK (K := K) rfl PySem.F.plainAttrs_list PySem.F.slot_list_append PySem.F.type_list_append mt_append (pv 5) (pa_cons (pe_tup (pa_cons (pe_ix (ix_anyK (K := K) rfl) (pv 4) (pv 6) (fun _ _ => rfl)) (pa_cons (pv 7) pa_nil))) pa_nil)))
      pss_nil) pss_nil)
      pss_nil))))
      (pss_cons (ps_for PassesOwn.never rfl (pi_anyK (K := K) rfl (pe_ix (ix_anyK (K := K) rfl) (pv 0) pe_int (fun _ _ => rfl))) (pg_name (i := 8) sc_law_is_walked.nd rfl (Or.inl rfl)) (pss_cons (ps_if (pt_cmpR (op_eqK (K := K) rfl (List Int) hr (by decide)) (pe_comp (cn := ["_law_gone", "_law_ways"]) (cap := [5, 3]) rfl ⟨by decide +kernel, rfl, by decide +kernel, free_of rfl⟩ rfl (by decide +kernel) ⟨⟨rfl, .inl rfl, rfl⟩, ⟨rfl, .inl rfl, rfl⟩, trivial⟩ (pi_anyK (K := K) rfl (pv 8)) (fun C s0 H0 fp => ⟨(pts_one (pt_cmpR (op_inE (K := K) rfl (Int × Int) hr (by decide)) (pe_ix (ix_anyK (K := K) rfl) (pv 2) (pv 0) (fun _ _ => rfl)) (pv 1) rfl)), (pv 0)⟩)) (pe_lst pa_nil) (nomark _)) (pss_cons (ps_ret pe_bl)
      pss_nil) pss_nil)
      pss_nil))
      (pss_cons (ps_ret pe_bl)
      pss_nil))))))), ?_⟩
  obtain ⟨ways_, h6, hm⟩ := Option.bind_eq_some_iff.mp hm
  refine sv_set (K := K) (ev_p42 (ev_var rfl r_machine_here_)) h6 xt.gh fun v1 G2 H3 x4 r5 => ?_
  have xt := xt.trans x4
  have r_machine_here_ := Rp.mono x4.gg r_machine_here_
  have r_stem_ := Rp.mono x4.gg r_stem_
  have r_ring_ := Rp.mono x4.gg r_ring_
  obtain ⟨states_here_, h14, hm⟩ := Option.bind_eq_some_iff.mp hm
  refine sv_set (K := K) (FV.ev (fv_cat (ev_var rfl r_stem_) (ev_var rfl r_ring_))) h14 xt.gh fun v9 G10 H11 x12 r13 => ?_
  have xt := xt.trans x12
  have r_machine_here_ := Rp.mono x12.gg r_machine_here_
  have r_stem_ := Rp.mono x12.gg r_stem_
  have r_ring_ := Rp.mono x12.gg r_ring_
  have r5 := Rp.mono x12.gg r5
  obtain ⟨b19, h20, hm⟩ := Option.bind_eq_some_iff.mp hm
  refine sv_if (tv_or (tv_test (K := K) (ev_eq (ev_var rfl r_ring_) (FV.ev (fv_lst (lv_nil (α := Int)))))) (tv_test (K := K) (ev_notInL (ev_at (ev_var rfl r13) ev_i) (ev_p43 (ev_var rfl r_machine_here_))))) h20 xt.gh fun G21 H22 x23 => ?_
  have xt := xt.trans x23
  have r_machine_here_ := Rp.mono x23.gg r_machine_here_
  have r_stem_ := Rp.mono x23.gg r_stem_
  have r_ring_ := Rp.mono x23.gg r_ring_
  have r5 := Rp.mono x23.gg r5
  have r13 := Rp.mono x23.gg r13
  cases b19 with
  | true =>
    replace hm := cT hm
    refine iteT ?_
    exact sv_ret (K := K) (rest := tNext) (σ := [some v_machine_here_, some v_stem_, some v_ring_, some v1, some v9, none, none, none, none]) ev_b hm xt.gh fun v24 G25 H26 x27 r28 => q v24 G25 H26 (xt.trans x27) r28
  | false =>
    replace hm := cF hm
    refine iteF ?_
    obtain ⟨gone_, h36, hm⟩ := Option.bind_eq_some_iff.mp hm
    refine sv_own (K := K) (fv_lst (lv_nil (α := (Int × Int)))) h36 xt.gh fun p29 vs30 G31 H32 x33 hz34 o35 => ?_
    have hz34 := xt.hh.free hz34
    have xt := xt.trans x33
    have r_machine_here_ := Rp.mono x33.gg r_machine_here_
    have r_stem_ := Rp.mono x33.gg r_stem_
    have r_ring_ := Rp.mono x33.gg r_ring_
    have r5 := Rp.mono x33.gg r5
    have r13 := Rp.mono x33.gg r13
    obtain ⟨as38, h39, hm⟩ := Option.bind_eq_some_iff.mp hm
    obtain ⟨fl40, h41, hm⟩ := Option.bind_eq_some_iff.mp hm
    refine sv_for (K := K) (RR := fun r v G' H' => Ext G0 H0 G' H' ∧ Rp.rel K G' v r) (iw_rng1 (ev_len (ev_var rfl r13))) h39 h41 xt.gh fun G42 H43 x44 => ⟨fun s45 S' G' H' => ∃ (v46 : Option V) (v47 : Option V), Ext G0 H0 G' H' ∧ Same G42 G' ∧ S' = [some v_machine_here_, some v_stem_, some v_ring_, some v1, some v9, some (V.ref p29), v46, v47, none] ∧ (∃ vs, Own K G' H' (V.ref p29) p29 vs s45), ?_, ?_, ?_, ?_, ?_⟩
    · have xt := xt.trans x44
      have r_machine_here_ := Rp.mono x44.gg r_machine_here_
      have r_stem_ := Rp.mono x44.gg r_stem_
      have r_ring_ := Rp.mono x44.gg r_ring_
      have r5 := Rp.mono x44.gg r5
      have r13 := Rp.mono x44.gg r13
      have o35 := o35.ext x44
      exact ⟨_, _, xt, (Same.refl _), rfl, ⟨_, o35⟩⟩
    · rintro _ S' G' H' ⟨v46, v47, xt, mk48, rfl, ⟨vs30, o35⟩⟩
      exact ⟨mk48, xt.gh⟩
    · rintro xv49 a50 s45 _ G53 H54 fl51 - ⟨v46, v47, xt, mk48, rfl, ⟨vs30, o35⟩⟩ rx52 hm D' kN55 kC56 kB57 kR58
      have r_machine_here_ := Rp.mono (x44.gg.trans mk48) r_machine_here_
      have r_stem_ := Rp.mono (x44.gg.trans mk48) r_stem_
      have r_ring_ := Rp.mono (x44.gg.trans mk48) r_ring_
      have r5 := Rp.mono (x44.gg.trans mk48) r5
      have r13 := Rp.mono (x44.gg.trans mk48) r13
      refine sv_turn ?_
      obtain ⟨behind_, h68, hm⟩ := Option.bind_eq_some_iff.mp hm
      refine sv_set (K := K) (ev_at (FV.ev (fv_cat (ev_var rfl r13) (ev_var rfl r_ring_))) (ev_add (ev_var rfl rx52) ev_i)) h68 xt.gh fun v63 G64 H65 x66 r67 => ?_
      have xt := xt.trans x66
      have mk48 := mk48.trans x66.gg
      have r_machine_here_ := Rp.mono x66.gg r_machine_here_
      have r_stem_ := Rp.mono x66.gg r_stem_
      have r_ring_ := Rp.mono x66.gg r_ring_
      have r5 := Rp.mono x66.gg r5
      have r13 := Rp.mono x66.gg r13
      have o35 := o35.ext x66
      have rx52 := Rp.mono x66.gg rx52
      obtain ⟨b73, h74, hm⟩ := Option.bind_eq_some_iff.mp hm
      refine sv_if (tv_test (K := K) (ev_notInEm (ev_tup2 (ev_at (ev_var rfl r13) (ev_var rfl rx52)) (ev_var rfl r67)) (ev_var rfl r5))) h74 xt.gh fun G75 H76 x77 => ?_
      have xt := xt.trans x77
      have mk48 := mk48.trans x77.gg
      have r_machine_here_ := Rp.mono x77.gg r_machine_here_
      have r_stem_ := Rp.mono x77.gg r_stem_
      have r_ring_ := Rp.mono x77.gg r_ring_
      have r5 := Rp.mono x77.gg r5
      have r13 := Rp.mono x77.gg r13
      have o35 := o35.ext x77
      have rx52 := Rp.mono x77.gg rx52
      have r67 := Rp.mono x77.gg r67
      cases b73 with
      | true =>
        replace hm := cT hm
        refine iteT ?_
        obtain ⟨rr83, h84, hm⟩ := Option.bind_eq_some_iff.mp hm
        cases hm
        exact sv_ret (K := K) (rest := tNext) (σ := [some v_machine_here_, some v_stem_, some v_ring_, some v1, some v9, some (V.ref p29), some xv49, some v63, none]) ev_b h84 xt.gh fun v78 G79 H80 x81 r82 => kR58 _ v78 G79 H80 rfl ⟨xt.trans x81, r82⟩
      | false =>
        replace hm := cF hm
        refine iteF ?_
        obtain ⟨b95, h96, hm⟩ := Option.bind_eq_some_iff.mp hm
        refine sv_ifB o35 (tv_and (tv_test (K := K) (ev_ord (ev_var rfl (Rp.mono (Same.new o35.g) rx52)) (ev_len (ev_var rfl (Rp.mono (Same.new o35.g) r_stem_))))) (tv_test (K := K) (ev_notInEm (ev_tup2 (ev_at (ev_var rfl (Rp.mono (Same.new o35.g) r13)) (ev_var rfl (Rp.mono (Same.new o35.g) rx52))) (ev_var rfl (Rp.mono (Same.new o35.g) r67))) (ev_var rfl o35.tell)))) h96 xt.gh fun G97 H98 x99 => ?_
        have xt := xt.trans x99
        have mk48 := mk48.trans x99.gg
        have r_machine_here_ := Rp.mono x99.gg r_machine_here_
        have r_stem_ := Rp.mono x99.gg r_stem_
        have r_ring_ := Rp.mono x99.gg r_ring_
        have r5 := Rp.mono x99.gg r5
        have r13 := Rp.mono x99.gg r13
        have o35 := o35.ext x99
        have rx52 := Rp.mono x99.gg rx52
        have r67 := Rp.mono x99.gg r67
        cases b95 with
        | true =>
          replace hm := cT hm
          refine iteT ?_
          obtain ⟨a103, h104, hm⟩ := Option.bind_eq_some_iff.mp hm
          obtain ⟨z111, h105, hm⟩ := Option.bind_eq_some_iff.mp hm
          refine sv_append (K := K) rfl o35 (ev_tup2 (ev_at (ev_var rfl r13) (ev_var rfl rx52)) (ev_var rfl r67)) h104 h105 xt.gh fun G106 H107 w108 x109 o110 => ?_
          have xt : Ext G0 H0 G106 (upd H107 p29 (.lst (vs30 ++ [w108]))) := (xt.trans x109).put hz34 o110.g
          have mk48 := mk48.trans x109.gg
          have r_machine_here_ := Rp.mono x109.gg r_machine_here_
          have r_stem_ := Rp.mono x109.gg r_stem_
          have r_ring_ := Rp.mono x109.gg r_ring_
          have r5 := Rp.mono x109.gg r5
          have r13 := Rp.mono x109.gg r13
          have rx52 := Rp.mono x109.gg rx52
          have r67 := Rp.mono x109.gg r67
          cases hm
          exact kN55 _ _ _ _ rfl ⟨_, _, xt, mk48, rfl, ⟨_, o110⟩⟩
        | false =>
          replace hm := cF hm
          refine iteF ?_
          cases hm
          exact kN55 _ _ _ _ rfl ⟨_, _, xt, mk48, rfl, ⟨_, o35⟩⟩
    · rintro s45 _ G115 H116 rfl ⟨v112, v113, xt, mk114, rfl, ⟨vs30, o35⟩⟩
      refine sv_nx ?_
      have r_machine_here_ := Rp.mono (x44.gg.trans mk114) r_machine_here_
      have r_stem_ := Rp.mono (x44.gg.trans mk114) r_stem_
      have r_ring_ := Rp.mono (x44.gg.trans mk114) r_ring_
      have r5 := Rp.mono (x44.gg.trans mk114) r5
      have r13 := Rp.mono (x44.gg.trans mk114) r13
      have sf := Same.new (o := .lst vs30) o35.g
      have xt := xt.frz hz34 o35.g o35.h
      have r117 := o35.tell
      have r_machine_here_ := Rp.mono sf r_machine_here_
      have r_stem_ := Rp.mono sf r_stem_
      have r_ring_ := Rp.mono sf r_ring_
      have r5 := Rp.mono sf r5
      have r13 := Rp.mono sf r13
      obtain ⟨as118, h119, hm⟩ := Option.bind_eq_some_iff.mp hm
      obtain ⟨fl120, h121, hm⟩ := Option.bind_eq_some_iff.mp hm
      refine sv_for (K := K) (RR := fun r v G' H' => Ext G0 H0 G' H' ∧ Rp.rel K G' v r) (iw_list (ev_p44 (ev_var rfl r_machine_here_))) h119 h121 xt.gh fun G122 H123 x124 => ⟨fun s125 S' G' H' => ∃ (v126 : Option V), Ext G0 H0 G' H' ∧ Same G122 G' ∧ S' = [some v_machine_here_, some v_stem_, some v_ring_, some v1, some v9, some (V.ref p29), v112, v113, v126], ?_, ?_, ?_, ?_, ?_⟩
      · have xt := xt.trans x124
        have r_machine_here_ := Rp.mono x124.gg r_machine_here_
        have r_stem_ := Rp.mono x124.gg r_stem_
        have r_ring_ := Rp.mono x124.gg r_ring_
        have r5 := Rp.mono x124.gg r5
        have r13 := Rp.mono x124.gg r13
        have r117 := Rp.mono x124.gg r117
        exact ⟨_, xt, (Same.refl _), rfl⟩
      · rintro _ S' G' H' ⟨v126, xt, mk127, rfl⟩
        exact ⟨mk127, xt.gh⟩
      · rintro xv128 a129 s125 _ G132 H133 fl130 - ⟨v126, xt, mk127, rfl⟩ rx131 hm D' kN134 kC135 kB136 kR137
        have r_machine_here_ := Rp.mono (x124.gg.trans mk127) r_machine_here_
        have r_stem_ := Rp.mono (x124.gg.trans mk127) r_stem_
        have r_ring_ := Rp.mono (x124.gg.trans mk127) r_ring_
        have r5 := Rp.mono (x124.gg.trans mk127) r5
        have r13 := Rp.mono (x124.gg.trans mk127) r13
        have r117 := Rp.mono (x124.gg.trans mk127) r117
        refine sv_turn ?_
        obtain ⟨b147, h148, hm⟩ := Option.bind_eq_some_iff.mp hm
        refine sv_if (tv_test (K := K) (ev_eq (FV.ev (fv_comp (cap := [5, 3]) (fc := fun (k_ : Int) => (((some ways_).bind fun t142 => (some k_).bind fun t143 => atI t142 t143).bind fun t144 => (some (memE t144 s45)))) (fe := fun (k_ : Int) => (some k_)) (iw_list (ev_var rfl rx131)) fun xc141 k_ Gc138 sc139 rc140 => ⟨(tv_test (K := K) (ev_inEm (ev_at (ev_var rfl (Rp.mono sc139 r5)) (ev_var rfl rc140)) (ev_var rfl (Rp.mono sc139 r117)))), (ev_var rfl rc140)⟩)) (FV.ev (fv_lst (lv_nil (α := Int)))))) h148 xt.gh fun G149 H150 x151 => ?_
        have xt := xt.trans x151
        have mk127 := mk127.trans x151.gg
        have r_machine_here_ := Rp.mono x151.gg r_machine_here_
        have r_stem_ := Rp.mono x151.gg r_stem_
        have r_ring_ := Rp.mono x151.gg r_ring_
        have r5 := Rp.mono x151.gg r5
        have r13 := Rp.mono x151.gg r13
        have r117 := Rp.mono x151.gg r117
        have rx131 := Rp.mono x151.gg rx131
        cases b147 with
        | true =>
          replace hm := cT hm
          refine iteT ?_
          obtain ⟨rr157, h158, hm⟩ := Option.bind_eq_some_iff.mp hm
          cases hm
          exact sv_ret (K := K) (rest := tNext) (σ := [some v_machine_here_, some v_stem_, some v_ring_, some v1, some v9, some (V.ref p29), v112, v113, some xv128]) ev_b h158 xt.gh fun v152 G153 H154 x155 r156 => kR137 _ v152 G153 H154 rfl ⟨xt.trans x155, r156⟩
        | false =>
          replace hm := cF hm
          refine iteF ?_
          cases hm
          exact kN134 _ _ _ _ rfl ⟨_, xt, mk127, rfl⟩
      · rintro s125 _ G161 H162 rfl ⟨v159, xt, mk160, rfl⟩
        refine sv_nx ?_
        have r_machine_here_ := Rp.mono (x124.gg.trans mk160) r_machine_here_
        have r_stem_ := Rp.mono (x124.gg.trans mk160) r_stem_
        have r_ring_ := Rp.mono (x124.gg.trans mk160) r_ring_
        have r5 := Rp.mono (x124.gg.trans mk160) r5
        have r13 := Rp.mono (x124.gg.trans mk160) r13
        have r117 := Rp.mono (x124.gg.trans mk160) r117
        exact sv_ret (K := K) (rest := tNext) (σ := [some v_machine_here_, some v_stem_, some v_ring_, some v1, some v9, some (V.ref p29), v112, v113, v159]) ev_b hm xt.gh fun v163 G164 H165 x166 r167 => q v163 G164 H165 (xt.trans x166) r167
      · rintro r' v' G' H' rfl rl
        cases hm
        exact q v' G' H' rl.1 rl.2
    · rintro r' v' G' H' rfl rl
      cases hm
      exact q v' G' H' rl.1 rl.2
theorem ok_steps_along {f : Addr} {fd : FuncData} (F : Fun K "steps_along" "steps_along" s_steps_along f fd) (T : Txt mg) : FnOk P w K mg base CX0 1 f fd ["states", "following"] (spM K mm_steps_along) := by
  refine F.ok sc_steps_along (fun vs H Q E h => (spM_len h).trans rfl) (fun cdv A outer s H0 vs Q E hr h => ?_)
  obtain ⟨G0, ⟨states_, ⟨following_, ⟨⟩⟩⟩, res, sg0, ⟨v_states_, _, rfl, r_states_, ⟨v_following_, _, rfl, r_following_, rfl⟩⟩, hm, q⟩ := h
  replace r_states_ : Rp.rel K G0 v_states_ states_ := r_states_
  replace r_following_ : Rp.rel K G0 v_following_ following_ := r_following_
  replace hm : m_steps_along states_ following_ = some res := hm
  unfold m_steps_along at hm
  have xt : Ext G0 H0 G0 H0 := Ext.refl sg0
  refine ⟨_, (pss_cons (ps_ret (pe_listZ (K := K) rfl rfl (by rfl) T.list_ (by rfl) T.zip_ (pa_cons (pv 0) (pa_cons (pe_op (op_plusK (K := K) rfl) (pe_slice (sl_anyK (K := K) rfl) (pv 0) (po_some pe_int) po_none) (pe_lst (pa_cons (pv 1) pa_nil))) pa_nil))))
      pss_nil), ?_⟩
  exact sv_ret (K := K) (ev_listZ (ev_var rfl r_states_) (FV.ev (fv_cat (FV.ev (fv_slice (ev_var rfl r_states_) (ov_some (K := K) ev_i) ov_none)) (FV.ev (fv_lst (lv_cons (ev_var rfl r_following_) (lv_nil (α := Int)))))))) hm xt.gh fun v5 G6 H7 x8 r9 => q v5 G6 H7 (xt.trans x8) r9
theorem ok_is_gone {f : Addr} {fd : FuncData} (F : Fun K "is_gone" "is_gone" s_is_gone f fd) (T : Txt mg) : FnOk P w K mg base CX0 1 f fd ["ways", "mark", "steps"] (spM K mm_is_gone) := by
  refine F.ok sc_is_gone (fun vs H Q E h => (spM_len h).trans rfl) (fun cdv A outer s H0 vs Q E hr h => ?_)
  obtain ⟨G0, ⟨ways_, ⟨mark_, ⟨steps_, ⟨⟩⟩⟩⟩, res, sg0, ⟨v_ways_, _, rfl, r_ways_, ⟨v_mark_, _, rfl, r_mark_, ⟨v_steps_, _, rfl, r_steps_, rfl⟩⟩⟩, hm, q⟩ := h
  replace r_ways_ : Rp.rel K G0 v_ways_ ways_ := r_ways_
  replace r_mark_ : Rp.rel K G0 v_mark_ mark_ := r_mark_
  replace r_steps_ : Rp.rel K G0 v_steps_ steps_ := r_steps_
  replace hm : m_is_gone ways_ mark_ steps_ = some res := hm
  unfold m_is_gone at hm
  have xt : Ext G0 H0 G0 H0 := Ext.refl sg0
  refine ⟨_, (pss_cons (ps_ret (pe_callB (call_anyK (K := K) rfl rfl) (by rfl) T.any_ bt_any (pa_cons (pe_comp (cn := ["steps", "ways"]) (cap := [2, 0]) rfl ⟨by decide +kernel, rfl, by decide +kernel, free_of rfl⟩ rfl (by decide +kernel) ⟨⟨rfl, .inl rfl, rfl⟩, ⟨rfl, .inl rfl, rfl⟩, trivial⟩ (pi_anyK (K := K) rfl (pv 1)) (fun C s0 H0 fp => ⟨pts_nil, (pe_cmpR (op_inE (K := K) rfl (Int × Int) hr (by decide)) (pe_ix (ix_anyK (K := K) rfl) (pv 2) (pv 0) (fun _ _ => rfl)) (pv 1) rfl)⟩)) pa_nil)))
      pss_nil), ?_⟩
  exact sv_ret (K := K) (ev_any (FV.ev (fv_map (cap := [2, 0]) (fe := fun (number_ : Int) => (((some ways_).bind fun t5 => (some number_).bind fun t6 => atI t5 t6).bind fun t7 => (some (memE t7 steps_)))) (iw_list (ev_var rfl r_mark_)) fun xc4 number_ Gc1 sc2 rc3 => (ev_inEm (ev_at (ev_var rfl (Rp.mono sc2 r_ways_)) (ev_var rfl rc3)) (ev_var rfl (Rp.mono sc2 r_steps_)))))) hm xt.gh fun v10 G11 H12 x13 r14 => q v10 G11 H12 (xt.trans x13) r14
theorem ok_is_walk {f : Addr} {fd : FuncData} (F : Fun K "is_walk" "is_walk" s_is_walk f fd) (T : Txt mg) (D_steps_along : DefOk P w K mg base "steps_along" 1 ["states", "following"] (spM K mm_steps_along)) (D_is_gone : DefOk P w K mg base "is_gone" 1 ["ways", "mark", "steps"] (spM K mm_is_gone)) : FnOk P w K mg base CX0 2 f fd ["machine", "stem", "ring"] (spM K mm_is_walk) := by
  refine F.ok sc_is_walk (fun vs H Q E h => (spM_len h).trans rfl) (fun cdv A outer s H0 vs Q E hr h => ?_)
  obtain ⟨G0, ⟨machine_, ⟨stem_, ⟨ring_, ⟨⟩⟩⟩⟩, res, sg0, ⟨v_machine_, _, rfl, r_machine_, ⟨v_stem_, _, rfl, r_stem_, ⟨v_ring_, _, rfl, r_ring_, rfl⟩⟩⟩, hm, q⟩ := h
  replace r_machine_ : Rp.rel K G0 v_machine_ machine_ := r_machine_
  replace r_stem_ : Rp.rel K G0 v_stem_ stem_ := r_stem_
  replace r_ring_ : Rp.rel K G0 v_ring_ ring_ := r_ring_
  replace hm : m_is_walk machine_ stem_ ring_ = some res := hm
  unfold m_is_walk at hm
  have xt : Ext G0 H0 G0 H0 := Ext.refl sg0
  refine ⟨_, (pss_cons (ps_set (i := 3) sc_is_walk.nd rfl (Or.inr rfl) (pe_ix (ix_anyK (K := K) rfl) (pv 0) pe_int (fun _ _ => rfl)))
      (pss_cons (ps_if (PW.pt (pw_or (pt_cmpR op_eq (pe_callB (call_lenK (K := K) rfl) (by rfl) T.len_ bt_len (pa_cons (pv 2) pa_nil)) pe_int (nomark _)) (pw_or1 (pt_cmpR (op_notInK (K := K) rfl) (pe_ix (ix_anyK (K := K) rfl) (pe_op (op_plusK (K := K) rfl) (pv 1) (pv 2)) pe_int (fun _ _ => rfl)) (pe_ix (ix_anyK (K := K) rfl) (pv 0) pe_int (fun _ _ => rfl)) rfl)))) (pss_cons (ps_ret pe_bl)
      pss_nil) pss_nil)
      (pss_cons (ps_if (pt_not (pt_truthK (K := K) rfl (pe_callB (call_allK (K := K) rfl rfl) (by rfl) T.all_ bt_all (pa_cons (pe_comp (cn := ["ways"]) (cap := [3]) rfl ⟨by decide +kernel, rfl, by decide +kernel, free_of rfl⟩ rfl (by decide +kernel) ⟨⟨rfl, .inl rfl, rfl⟩, trivial⟩ (pi_anyK (K := K) rfl (pe_def D_steps_along hr (by decide) rfl (pa_cons (pe_op (op_plusK (K := K) rfl) (pv 1) (pv 2)) (pa_cons (pe_ix (ix_anyK (K := K) rfl) (pv 2) pe_int (fun _ _ => rfl)) pa_nil)))) (fun C s0 H0 fp => ⟨pts_nil, (pe_cmpR (op_inE (K := K) rfl (Int × Int) hr (by decide)) (pv 0) (pv 1) rfl)⟩)) pa_nil)) (fun _ => rfl))) (pss_cons (ps_ret pe_bl)
      pss_nil) pss_nil)
      (pss_cons (ps_set (i := 4) sc_is_walk.nd rfl (Or.inr rfl) (pe_def D_steps_along hr (by decide) rfl (pa_cons (pv 2) (pa_cons (pe_ix (ix_anyK (K := K) rfl) (pv 2) pe_int (fun _ _ => rfl)) pa_nil))))
      (pss_cons (ps_ret (pe_callB (call_allK (K := K) rfl rfl) (by rfl) T.all_ bt_all (pa_cons (pe_comp (cn := ["ways", "around"]) (cap := [3, 4]) rfl ⟨by decide +kernel, rfl, by decide +kernel, free_of rfl⟩ rfl (by decide +kernel) ⟨⟨rfl, .inl rfl, rfl⟩, ⟨rfl, .inl rfl, rfl⟩, trivial⟩ (pi_anyK (K := K) rfl (pe_ix (ix_anyK (K := K) rfl) (pv 0) pe_int (fun _ _ => rfl))) (fun C s0 H0 fp => ⟨pts_nil, (pe_def D_is_gone hr (by decide) rfl (pa_cons (pv 1) (pa_cons (pv 0) (pa_cons (pv 2) pa_nil))))⟩)) pa_nil)))
      pss_nil))))), ?_⟩
  obtain ⟨ways_, h6, hm⟩ := Option.bind_eq_some_iff.mp hm
  refine sv_set (K := K) (ev_p42 (ev_var rfl r_machine_)) h6 xt.gh fun v1 G2 H3 x4 r5 => ?_
  have xt := xt.trans x4
  have r_machine_ := Rp.mono x4.gg r_machine_
  have r_stem_ := Rp.mono x4.gg r_stem_
  have r_ring_ := Rp.mono x4.gg r_ring_
  obtain ⟨b13, h14, hm⟩ := Option.bind_eq_some_iff.mp hm
  refine sv_if (tv_or (tv_test (K := K) (ev_eqI (ev_len (ev_var rfl r_ring_)) ev_i)) (tv_test (K := K) (ev_notInL (ev_at (FV.ev (fv_cat (ev_var rfl r_stem_) (ev_var rfl r_ring_))) ev_i) (ev_p43 (ev_var rfl r_machine_))))) h14 xt.gh fun G15 H16 x17 => ?_
  have xt := xt.trans x17
  have r_machine_ := Rp.mono x17.gg r_machine_
  have r_stem_ := Rp.mono x17.gg r_stem_
  have r_ring_ := Rp.mono x17.gg r_ring_
  have r5 := Rp.mono x17.gg r5
  cases b13 with
  | true =>
    replace hm := cT hm
    refine iteT ?_
    exact sv_ret (K := K) (rest := tNext) (σ := [some v_machine_, some v_stem_, some v_ring_, some v1, none]) ev_b hm xt.gh fun v18 G19 H20 x21 r22 => q v18 G19 H20 (xt.trans x21) r22
  | false =>
    replace hm := cF hm
    refine iteF ?_
    obtain ⟨b36, h37, hm⟩ := Option.bind_eq_some_iff.mp hm
    refine sv_if (tv_not (tv_b (K := K) (ev_all (FV.ev (fv_map (cap := [3]) (fe := fun (step_ : (Int × Int)) => (some (memE step_ ways_))) (iw_list (ev_def2 (m := mm_steps_along) (FV.ev (fv_cat (ev_var rfl r_stem_) (ev_var rfl r_ring_))) (ev_at (ev_var rfl r_ring_) ev_i))) fun xc32 step_ Gc29 sc30 rc31 => (ev_inEm (ev_var rfl rc31) (ev_var rfl (Rp.mono sc30 r5)))))))) h37 xt.gh fun G38 H39 x40 => ?_
    have xt := xt.trans x40
    have r_machine_ := Rp.mono x40.gg r_machine_
    have r_stem_ := Rp.mono x40.gg r_stem_
    have r_ring_ := Rp.mono x40.gg r_ring_
    have r5 := Rp.mono x40.gg r5
    cases b36 with
    | true =>
      replace hm := cT hm
      refine iteT ?_
      exact sv_ret (K := K) (rest := tNext) (σ := [some v_machine_, some v_stem_, some v_ring_, some v1, none]) ev_b hm xt.gh fun v41 G42 H43 x44 r45 => q v41 G42 H43 (xt.trans x44) r45
    | false =>
      replace hm := cF hm
      refine iteF ?_
      obtain ⟨around_, h55, hm⟩ := Option.bind_eq_some_iff.mp hm
      refine sv_set (K := K) (ev_def2 (m := mm_steps_along) (ev_var rfl r_ring_) (ev_at (ev_var rfl r_ring_) ev_i)) h55 xt.gh fun v50 G51 H52 x53 r54 => ?_
      have xt := xt.trans x53
      have r_machine_ := Rp.mono x53.gg r_machine_
      have r_stem_ := Rp.mono x53.gg r_stem_
      have r_ring_ := Rp.mono x53.gg r_ring_
      have r5 := Rp.mono x53.gg r5
      exact sv_ret (K := K) (ev_all (FV.ev (fv_map (cap := [3, 4]) (fe := fun (mark_ : (List Int)) => ((some ways_).bind fun t60 => (some mark_).bind fun t61 => (some around_).bind fun t62 => m_is_gone t60 t61 t62)) (iw_list (ev_p44 (ev_var rfl r_machine_))) fun xc59 mark_ Gc56 sc57 rc58 => (ev_def3 (m := mm_is_gone) (ev_var rfl (Rp.mono sc57 r5)) (ev_var rfl rc58) (ev_var rfl (Rp.mono sc57 r54)))))) hm xt.gh fun v65 G66 H67 x68 r69 => q v65 G66 H67 (xt.trans x68) r69
theorem ok_law_letters {f : Addr} {fd : FuncData} (F : Fun K "_law_letters" "_law_letters" s_law_letters f fd) (T : Txt mg) : FnOk P w K mg base CX0 1 f fd ["_law_cell_here"] (spM K mm_law_letters) := by
  refine F.ok sc_law_letters (fun vs H Q E h => (spM_len h).trans rfl) (fun cdv A outer s H0 vs Q E hr h => ?_)
  obtain ⟨G0, ⟨cell_here_, ⟨⟩⟩, res, sg0, ⟨v_cell_here_, _, rfl, r_cell_here_, rfl⟩, hm, q⟩ := h
  replace r_cell_here_ : Rp.rel K G0 v_cell_here_ cell_here_ := r_cell_here_
  replace hm : m_law_letters cell_here_ = some res := hm
  unfold m_law_letters at hm
  have xt : Ext G0 H0 G0 H0 := Ext.refl sg0
  refine ⟨_, (pss_cons (ps_set (i := 1) sc_law_letters.nd rfl (Or.inr rfl) pe_str)
      (pss_cons (ps_set (i := 2) sc_law_letters.nd rfl (Or.inl rfl) (pe_lst (pa_cons (pv 0) (pa_cons (pe_op (op_plusK (K := K) rfl) (pe_op (op_plusK (K := K) rfl) (pv 0) pe_int) (pe_op op_mod (pe_op op_fdiv (pv 0) pe_int) pe_int)) (pa_cons (pe_op (op_plusK (K := K) rfl) (pe_op (op_plusK (K := K) rfl) (pv 0) pe_int) (pe_op op_mod (pe_op op_fdiv (pv 0) pe_int) pe_int)) (pa_cons (pe_op (op_plusK (K := K) rfl) (pe_op (op_plusK (K := K) rfl) (pv 0) pe_int) (pe_op op_mod (pe_op op_fdiv (pv 0) pe_int) pe_int)) pa_nil))))))
      (pss_cons (ps_ret (pe_comp (cn := ["_law_row"]) (cap := [1]) rfl ⟨by decide +kernel, rfl, by decide +kernel, free_of rfl⟩ rfl (by decide +kernel) ⟨⟨rfl, .inl rfl, rfl⟩, trivial⟩ (pi_anyK (K := K) rfl (pv 2)) (fun C s0 H0 fp => ⟨pts_nil, (pe_ix (ix_anyK (K := K) rfl) (pv 1) (pe_op op_mod (pv 0) pe_int) (fun _ _ => rfl))⟩)))
      pss_nil))), ?_⟩
  obtain ⟨row_, h6, hm⟩ := Option.bind_eq_some_iff.mp hm
  refine sv_set (K := K) ev_s h6 xt.gh fun v1 G2 H3 x4 r5 => ?_
  have xt := xt.trans x4
  have r_cell_here_ := Rp.mono x4.gg r_cell_here_
  obtain ⟨places_, h12, hm⟩ := Option.bind_eq_some_iff.mp hm
  refine sv_set (K := K) (FV.ev (fv_lst (lv_cons (ev_var rfl r_cell_here_) (lv_cons (ev_add (ev_add (ev_var rfl r_cell_here_) ev_i) (ev_modR (ev_divR (ev_var rfl r_cell_here_)))) (lv_cons (ev_add (ev_add (ev_var rfl r_cell_here_) ev_i) (ev_modR (ev_divR (ev_var rfl r_cell_here_)))) (lv_cons (ev_add (ev_add (ev_var rfl r_cell_here_) ev_i) (ev_modR (ev_divR (ev_var rfl r_cell_here_)))) (lv_nil (α := Int)))))))) h12 xt.gh fun v7 G8 H9 x10 r11 => ?_
  have xt := xt.trans x10
  have r_cell_here_ := Rp.mono x10.gg r_cell_here_
  have r5 := Rp.mono x10.gg r5
  exact sv_ret (K := K) (FV.ev (fv_map (cap := [1]) (fe := fun (at_ : Int) => ((some row_).bind fun t17 => (some (at_ % (26 : Int))).bind fun t18 => (atI t17.cps.toList t18).bind fun z => some (⟨#[z]⟩ : Str))) (iw_list (ev_var rfl r11)) fun xc16 at_ Gc13 sc14 rc15 => (ev_atS (ev_var rfl (Rp.mono sc14 r5)) (ev_modR (ev_var rfl rc15))))) hm xt.gh fun v20 G21 H22 x23 r24 => q v20 G21 H22 (xt.trans x23) r24
seal eval in
theorem ok_law_spoiled {f : Addr} {fd : FuncData} (F : Fun K "_law_spoiled" "_law_spoiled" s_law_spoiled f fd) (T : Txt mg) : FnOk P w K mg base CX0 1 f fd ["_law_stem", "_law_ring", "_law_way", "_law_cell_here"] (spM K mm_law_spoiled) := by
  refine F.ok sc_law_spoiled (fun vs H Q E h => (spM_len h).trans rfl) (fun cdv A outer s H0 vs Q E hr h => ?_)
  obtain ⟨G0, ⟨stem_, ⟨ring_, ⟨way_, ⟨cell_here_, ⟨⟩⟩⟩⟩⟩, res, sg0, ⟨v_stem_, _, rfl, r_stem_, ⟨v_ring_, _, rfl, r_ring_, ⟨v_way_, _, rfl, r_way_, ⟨v_cell_here_, _, rfl, r_cell_here_, rfl⟩⟩⟩⟩, hm, q⟩ := h
  replace r_stem_ : Rp.rel K G0 v_stem_ stem_ := r_stem_
  replace r_ring_ : Rp.rel K G0 v_ring_ ring_ := r_ring_
  replace r_way_ : Rp.rel K G0 v_way_ way_ := r_way_
  replace r_cell_here_ : Rp.rel K G0 v_cell_here_ cell_here_ := r_cell_here_
  replace hm : m_law_spoiled stem_ ring_ way_ cell_here_ = some res := hm
  unfold m_law_spoiled at hm
  have xt : Ext G0 H0 G0 H0 := Ext.refl sg0
  refine ⟨_, (pss_cons (ps_set (i := 4) sc_law_spoiled.nd rfl (Or.inl rfl) (pe_op (op_plusK (K := K) rfl) (pv 0) (pv 1)))
      (pss_cons (ps_set (i := 5) sc_law_spoiled.nd rfl (Or.inl rfl) (pe_ifExp (pt_cmpR (op_neK (K := K) rfl (List Int) hr (by decide)) (pv 4) (pe_lst pa_nil) (nomark _)) (pe_op op_mod (pv 3) (pe_callB (call_lenK (K := K) rfl) (by rfl) T.len_ bt_len (pa_cons (pv 4) pa_nil))) pe_int))
      (pss_cons (ps_set (i := 6) sc_law_spoiled.nd rfl (Or.inl rfl) (pe_ix (ix_anyK (K := K) rfl) (pe_lst (pa_cI (pa_cI (pa_cI (pa_cI (pa_cI (pa_cI (pa_cI (pa_cI (pa_cI (pa_cU (pe_un un_neg pe_int) (pa_cB (pe_op op_pow pe_int pe_int) (pa_cU (pe_un un_neg pe_int) pa_nil))))))))))))) (pe_op op_mod (pe_op op_fdiv (pv 3) pe_int) pe_int) (fun _ _ => rfl)))
      (pss_cons (ps_if (pt_cmpR op_eq (pv 2) pe_int (nomark _)) (pss_cons (ps_ret (pe_tup (pa_cons (pe_op (op_plusK (K := K) rfl) (pv 0) (pv 1)) (pa_cons (pe_lst pa_nil) pa_nil))))
      pss_nil) pss_nil)
      (pss_cons (ps_if (pt_cmpR op_eq (pv 2) pe_int (nomark _)) (pss_cons (ps_ret (pe_tup (pa_cons (pv 0) (pa_cons (pe_op (op_plusK (K := K) rfl) (pv 1) (pv 1)) pa_nil))))
      pss_nil) pss_nil)
      (pss_cons (ps_if (pt_cmpR op_eq (pv 2) pe_int (nomark _)) (pss_cons (ps_ret (pe_tup (pa_cons (pv 1) (pa_cons (pv 0) pa_nil))))
      pss_nil) pss_nil)
      (pss_cons (ps_if (pt_cmpR op_eq (pv 2) pe_int (nomark _)) (pss_cons (ps_set (i := 4) sc_law_spoiled.nd rfl (Or.inl rfl) (pe_op (op_plusK (K := K) rfl) (pe_op (op_plusK (K := K) rfl) (pe_slice (sl_anyK (K := K) rfl) (pv 4) po_none (po_some (pv 5))) (pe_lst (pa_cons (pv 6) pa_nil))) (pe_slice (sl_anyK (K := K) rfl) (pv 4) (po_some (pe_op (op_plusK (K := K) rfl) (pv 5) pe_int)) po_none)))
      pss_nil) pss_nil)
      (pss_cons (ps_if (pt_cmpR op_eq (pv 2) pe_int (nomark _)) (pss_cons (ps_set (i := 4) sc_law_spoiled.nd rfl (Or.inl rfl) (pe_op (op_plusK (K := K) rfl) (pe_op (op_plusK (K := K) rfl) (pe_slice (sl_anyK (K := K) rfl) (pv 4) po_none (po_some (pv 5))) (pe_lst (pa_cons (pv 6) pa_nil))) (pe_slice (sl_anyK (K := K) rfl) (pv 4) (po_some (pv 5)) po_none)))
      pss_nil) pss_nil)
      (pss_cons (ps_if (pt_cmpR op_eq (pv 2) pe_int (nomark _)) (pss_cons (ps_set (i := 4) sc_law_spoiled.nd rfl (Or.inl rfl) (pe_op (op_plusK (K := K) rfl) (pe_slice (sl_anyK (K := K) rfl) (pv 4) po_none (po_some (pv 5))) (pe_slice (sl_anyK (K := K) rfl) (pv 4) (po_some (pe_op (op_plusK (K := K) rfl) (pv 5) pe_int)) po_none)))
      pss_nil) pss_nil)
      (pss_cons (ps_ret (pe_tup (pa_cons (pe_slice (sl_anyK (K := K) rfl) (pv 4) po_none (po_some (pe_callB (call_lenK (K := K) rfl) (by rfl) T.len_ bt_len (pa_cons (pv 0) pa_nil)))) (pa_cons (pe_slice (sl_anyK (K := K) rfl) (pv 4) (po_some (pe_callB (call_lenK (K := K) rfl) (by rfl) T.len_ bt_len (pa_cons (pv 0) pa_nil))) po_none) pa_nil))))
      pss_nil)))))))))), ?_⟩
  obtain ⟨states_here_, h8, hm⟩ := Option.bind_eq_some_iff.mp hm
  refine sv_set (K := K) (FV.ev (fv_cat (ev_var rfl r_stem_) (ev_var rfl r_ring_))) h8 xt.gh fun v3 G4 H5 x6 r7 => ?_
  have xt := xt.trans x6
  have r_stem_ := Rp.mono x6.gg r_stem_
  have r_ring_ := Rp.mono x6.gg r_ring_
  have r_way_ := Rp.mono x6.gg r_way_
  have r_cell_here_ := Rp.mono x6.gg r_cell_here_
  obtain ⟨at_, h17, hm⟩ := Option.bind_eq_some_iff.mp hm
  refine sv_set (K := K) (ev_ifx (tv_test (K := K) (ev_ne (ev_var rfl r7) (FV.ev (fv_lst (lv_nil (α := Int)))))) (ev_mod (ev_var rfl r_cell_here_) (ev_len (ev_var rfl r7))) ev_i) h17 xt.gh fun v12 G13 H14 x15 r16 => ?_
  have xt := xt.trans x15
  have r_stem_ := Rp.mono x15.gg r_stem_
  have r_ring_ := Rp.mono x15.gg r_ring_
  have r_way_ := Rp.mono x15.gg r_way_
  have r_cell_here_ := Rp.mono x15.gg r_cell_here_
  have r7 := Rp.mono x15.gg r7
  obtain ⟨new_, h25, hm⟩ := Option.bind_eq_some_iff.mp hm
  refine sv_set (K := K) (ev_at (FV.ev (fv_lst (lv_cons (ev_i (i := 0)) (lv_cons (ev_i (i := 1)) (lv_cons (ev_i (i := 2)) (lv_cons (ev_i (i := 3)) (lv_cons (ev_i (i := 4)) (lv_cons (ev_i (i := 5)) (lv_cons (ev_i (i := 6)) (lv_cons (ev_i (i := 7)) (lv_cons (ev_i (i := 8)) (lv_cons (ev_neg (ev_i (i := 1))) (lv_cons (EV.of (m' := some (100000000000000000000000000000000000000000000000000000000000 : Int)) (ev_pow (ev_i (i := 10)) (ev_i (i := 59))) (by decide +kernel)) (lv_cons (ev_neg (ev_i (i := 8))) (lv_nil (α := Int)))))))))))))))) (ev_modR (ev_divR (ev_var rfl r_cell_here_)))) h25 xt.gh fun v20 G21 H22 x23 r24 => ?_
  have xt := xt.trans x23
  have r_stem_ := Rp.mono x23.gg r_stem_
  have r_ring_ := Rp.mono x23.gg r_ring_
  have r_way_ := Rp.mono x23.gg r_way_
  have r_cell_here_ := Rp.mono x23.gg r_cell_here_
  have r7 := Rp.mono x23.gg r7
  have r16 := Rp.mono x23.gg r16
  obtain ⟨b26, h27, hm⟩ := Option.bind_eq_some_iff.mp hm
  refine sv_if (tv_test (K := K) (ev_eqI (ev_var rfl r_way_) ev_i)) h27 xt.gh fun G28 H29 x30 => ?_
  have xt := xt.trans x30
  have r_stem_ := Rp.mono x30.gg r_stem_
  have r_ring_ := Rp.mono x30.gg r_ring_
  have r_way_ := Rp.mono x30.gg r_way_
  have r_cell_here_ := Rp.mono x30.gg r_cell_here_
  have r7 := Rp.mono x30.gg r7
  have r16 := Rp.mono x30.gg r16
  have r24 := Rp.mono x30.gg r24
  cases b26 with
  | true =>
    replace hm := cT hm
    refine iteT ?_
    exact sv_ret (K := K) (ev_tup2 (FV.ev (fv_cat (ev_var rfl r_stem_) (ev_var rfl r_ring_))) (FV.ev (fv_lst (lv_nil (α := Int))))) hm xt.gh fun v34 G35 H36 x37 r38 => q v34 G35 H36 (xt.trans x37) r38
  | false =>
    replace hm := cF hm
    refine iteF ?_
    obtain ⟨b39, h40, hm⟩ := Option.bind_eq_some_iff.mp hm
    refine sv_if (tv_test (K := K) (ev_eqI (ev_var rfl r_way_) ev_i)) h40 xt.gh fun G41 H42 x43 => ?_
    have xt := xt.trans x43
    have r_stem_ := Rp.mono x43.gg r_stem_
    have r_ring_ := Rp.mono x43.gg r_ring_
    have r_way_ := Rp.mono x43.gg r_way_
    have r_cell_here_ := Rp.mono x43.gg r_cell_here_
    have r7 := Rp.mono x43.gg r7
    have r16 := Rp.mono x43.gg r16
    have r24 := Rp.mono x43.gg r24
    cases b39 with
    | true =>
      replace hm := cT hm
      refine iteT ?_
      exact sv_ret (K := K) (ev_tup2 (ev_var rfl r_stem_) (FV.ev (fv_cat (ev_var rfl r_ring_) (ev_var rfl r_ring_)))) hm xt.gh fun v49 G50 H51 x52 r53 => q v49 G50 H51 (xt.trans x52) r53
    | false =>
      replace hm := cF hm
      refine iteF ?_
      obtain ⟨b54, h55, hm⟩ := Option.bind_eq_some_iff.mp hm
      refine sv_if (tv_test (K := K) (ev_eqI (ev_var rfl r_way_) ev_i)) h55 xt.gh fun G56 H57 x58 => ?_
      have xt := xt.trans x58
      have r_stem_ := Rp.mono x58.gg r_stem_
      have r_ring_ := Rp.mono x58.gg r_ring_
      have r_way_ := Rp.mono x58.gg r_way_
      have r_cell_here_ := Rp.mono x58.gg r_cell_here_
      have r7 := Rp.mono x58.gg r7
      have r16 := Rp.mono x58.gg r16
      have r24 := Rp.mono x58.gg r24
      cases b54 with
      | true =>
        replace hm := cT hm
        refine iteT ?_
        exact sv_ret (K := K) (ev_tup2 (ev_var rfl r_ring_) (ev_var rfl r_stem_)) hm xt.gh fun v59 G60 H61 x62 r63 => q v59 G60 H61 (xt.trans x62) r63
      | false =>
        replace hm := cF hm
        refine iteF ?_
        obtain ⟨b64, h65, hm⟩ := Option.bind_eq_some_iff.mp hm
        obtain ⟨s69, h70, hm⟩ := Option.bind_eq_some_iff.mp hm
        try (with_reducible refine nxt_ ?_; dsimp only)
        refine sv_join (t := tIfS _ _ _) (fun S87 H86 => ∃ (G85 : Hp) (v72 : V), Ext G0 H0 G85 H86 ∧ Same G56 G85 ∧ S87 = [some v_stem_, some v_ring_, some v_way_, some v_cell_here_, some v72, some v12, some v20] ∧ Rp.rel K G85 v72 (s69 : (List Int))) (fun nx kn74 => ?_) ?_
        · refine sv_if (tv_test (K := K) (ev_eqI (ev_var rfl r_way_) ev_i)) h65 xt.gh fun G66 H67 x68 => ?_
          have xt := xt.trans x68
          have r_stem_ := Rp.mono x68.gg r_stem_
          have r_ring_ := Rp.mono x68.gg r_ring_
          have r_way_ := Rp.mono x68.gg r_way_
          have r_cell_here_ := Rp.mono x68.gg r_cell_here_
          have r7 := Rp.mono x68.gg r7
          have r16 := Rp.mono x68.gg r16
          have r24 := Rp.mono x68.gg r24
          have mk71 : Same G56 G66 := x68.gg
          have hm := h70
          cases b64 with
          | true =>
            replace hm := cT hm
            refine iteT ?_
            obtain ⟨states_here_, h84, hm⟩ := Option.bind_eq_some_iff.mp hm
            refine sv_set (K := K) (FV.ev (fv_cat (FV.ev (fv_cat (FV.ev (fv_slice (ev_var rfl r7) ov_none (ov_some (K := K) (ev_var rfl r16)))) (FV.ev (fv_lst (lv_cons (ev_var rfl r24) (lv_nil (α := Int))))))) (FV.ev (fv_slice (ev_var rfl r7) (ov_some (K := K) (ev_add (ev_var rfl r16) ev_i)) ov_none)))) h84 xt.gh fun v79 G80 H81 x82 r83 => ?_
            have xt := xt.trans x82
            have mk71 := mk71.trans x82.gg
            have r_stem_ := Rp.mono x82.gg r_stem_
            have r_ring_ := Rp.mono x82.gg r_ring_
            have r_way_ := Rp.mono x82.gg r_way_
            have r_cell_here_ := Rp.mono x82.gg r_cell_here_
            have r7 := Rp.mono x82.gg r7
            have r16 := Rp.mono x82.gg r16
            have r24 := Rp.mono x82.gg r24
            cases hm
            exact kn74 _ _ ⟨G80, v79, xt, mk71, rfl, r83⟩
          | false =>
            replace hm := cF hm
            refine iteF ?_
            cases hm
            exact kn74 _ _ ⟨G66, v3, xt, mk71, rfl, r7⟩
        · rintro _ H86 ⟨G85, v72, xt, mk71, rfl, r73⟩
          have r_stem_ := Rp.mono mk71 r_stem_
          have r_ring_ := Rp.mono mk71 r_ring_
          have r_way_ := Rp.mono mk71 r_way_
          have r_cell_here_ := Rp.mono mk71 r_cell_here_
          have r16 := Rp.mono mk71 r16
          have r24 := Rp.mono mk71 r24
          obtain ⟨b88, h89, hm⟩ := Option.bind_eq_some_iff.mp hm
          obtain ⟨s93, h94, hm⟩ := Option.bind_eq_some_iff.mp hm
          try (with_reducible refine nxt_ ?_; dsimp only)
          refine sv_join (t := tIfS _ _ _) (fun S111 H110 => ∃ (G109 : Hp) (v96 : V), Ext G0 H0 G109 H110 ∧ Same G85 G109 ∧ S111 = [some v_stem_, some v_ring_, some v_way_, some v_cell_here_, some v96, some v12, some v20] ∧ Rp.rel K G109 v96 (s93 : (List Int))) (fun nx kn98 => ?_) ?_
          · refine sv_if (tv_test (K := K) (ev_eqI (ev_var rfl r_way_) ev_i)) h89 xt.gh fun G90 H91 x92 => ?_
            have xt := xt.trans x92
            have r_stem_ := Rp.mono x92.gg r_stem_
            have r_ring_ := Rp.mono x92.gg r_ring_
            have r_way_ := Rp.mono x92.gg r_way_
            have r_cell_here_ := Rp.mono x92.gg r_cell_here_
            have r73 := Rp.mono x92.gg r73
            have r16 := Rp.mono x92.gg r16
            have r24 := Rp.mono x92.gg r24
            have mk95 : Same G85 G90 := x92.gg
            have hm := h94
            cases b88 with
            | true =>
              replace hm := cT hm
              refine iteT ?_
              obtain ⟨states_here_, h108, hm⟩ := Option.bind_eq_some_iff.mp hm
              refine sv_set (K := K) (FV.ev (fv_cat (FV.ev (fv_cat (FV.ev (fv_slice (ev_var rfl r73) ov_none (ov_some (K := K) (ev_var rfl r16)))) (FV.ev (fv_lst (lv_cons (ev_var rfl r24) (lv_nil (α := Int))))))) (FV.ev (fv_slice (ev_var rfl r73) (ov_some (K := K) (ev_var rfl r16)) ov_none)))) h108 xt.gh fun v103 G104 H105 x106 r107 => ?_
              have xt := xt.trans x106
              have mk95 := mk95.trans x106.gg
              have r_stem_ := Rp.mono x106.gg r_stem_
              have r_ring_ := Rp.mono x106.gg r_ring_
              have r_way_ := Rp.mono x106.gg r_way_
              have r_cell_here_ := Rp.mono x106.gg r_cell_here_
              have r73 := Rp.mono x106.gg r73
              have r16 := Rp.mono x106.gg r16
              have r24 := Rp.mono x106.gg r24
              cases hm
              exact kn98 _ _ ⟨G104, v103, xt, mk95, rfl, r107⟩
            | false =>
              replace hm := cF hm
              refine iteF ?_
              cases hm
              exact kn98 _ _ ⟨G90, v72, xt, mk95, rfl, r73⟩
          · rintro _ H110 ⟨G109, v96, xt, mk95, rfl, r97⟩
            have r_stem_ := Rp.mono mk95 r_stem_
            have r_ring_ := Rp.mono mk95 r_ring_
            have r_way_ := Rp.mono mk95 r_way_
            have r_cell_here_ := Rp.mono mk95 r_cell_here_
            have r16 := Rp.mono mk95 r16
            have r24 := Rp.mono mk95 r24
            obtain ⟨b112, h113, hm⟩ := Option.bind_eq_some_iff.mp hm
            obtain ⟨s117, h118, hm⟩ := Option.bind_eq_some_iff.mp hm
            try (with_reducible refine nxt_ ?_; dsimp only)
            refine sv_join (t := tIfS _ _ _) (fun S133 H132 => ∃ (G131 : Hp) (v120 : V), Ext G0 H0 G131 H132 ∧ Same G109 G131 ∧ S133 = [some v_stem_, some v_ring_, some v_way_, some v_cell_here_, some v120, some v12, some v20] ∧ Rp.rel K G131 v120 (s117 : (List Int))) (fun nx kn122 => ?_) ?_
            · refine sv_if (tv_test (K := K) (ev_eqI (ev_var rfl r_way_) ev_i)) h113 xt.gh fun G114 H115 x116 => ?_
              have xt := xt.trans x116
              have r_stem_ := Rp.mono x116.gg r_stem_
              have r_ring_ := Rp.mono x116.gg r_ring_
              have r_way_ := Rp.mono x116.gg r_way_
              have r_cell_here_ := Rp.mono x116.gg r_cell_here_
              have r97 := Rp.mono x116.gg r97
              have r16 := Rp.mono x116.gg r16
              have r24 := Rp.mono x116.gg r24
              have mk119 : Same G109 G114 := x116.gg
              have hm := h118
              cases b112 with
              | true =>
                replace hm := cT hm
                refine iteT ?_
                obtain ⟨states_here_, h130, hm⟩ := Option.bind_eq_some_iff.mp hm
                refine sv_set (K := K) (FV.ev (fv_cat (FV.ev (fv_slice (ev_var rfl r97) ov_none (ov_some (K := K) (ev_var rfl r16)))) (FV.ev (fv_slice (ev_var rfl r97) (ov_some (K := K) (ev_add (ev_var rfl r16) ev_i)) ov_none)))) h130 xt.gh fun v125 G126 H127 x128 r129 => ?_
                have xt := xt.trans x128
                have mk119 := mk119.trans x128.gg
                have r_stem_ := Rp.mono x128.gg r_stem_
                have r_ring_ := Rp.mono x128.gg r_ring_
                have r_way_ := Rp.mono x128.gg r_way_
                have r_cell_here_ := Rp.mono x128.gg r_cell_here_
                have r97 := Rp.mono x128.gg r97
                have r16 := Rp.mono x128.gg r16
                have r24 := Rp.mono x128.gg r24
                cases hm
                exact kn122 _ _ ⟨G126, v125, xt, mk119, rfl, r129⟩
              | false =>
                replace hm := cF hm
                refine iteF ?_
                cases hm
                exact kn122 _ _ ⟨G114, v96, xt, mk119, rfl, r97⟩
            · rintro _ H132 ⟨G131, v120, xt, mk119, rfl, r121⟩
              have r_stem_ := Rp.mono mk119 r_stem_
              have r_ring_ := Rp.mono mk119 r_ring_
              have r_way_ := Rp.mono mk119 r_way_
              have r_cell_here_ := Rp.mono mk119 r_cell_here_
              have r16 := Rp.mono mk119 r16
              have r24 := Rp.mono mk119 r24
              exact sv_ret (K := K) (ev_tup2 (FV.ev (fv_slice (ev_var rfl r121) ov_none (ov_some (K := K) (ev_len (ev_var rfl r_stem_))))) (FV.ev (fv_slice (ev_var rfl r121) (ov_some (K := K) (ev_len (ev_var rfl r_stem_))) ov_none))) hm xt.gh fun v134 G135 H136 x137 r138 => q v134 G135 H136 (xt.trans x137) r138
theorem ok_law {f : Addr} {fd : FuncData} (F : Fun K "law" "law" s_law f fd) (T : Txt mg) (D_law_machine : DefOk P w K mg base "_law_machine" 2 ["_law_script", "_law_letters_here"] (spM K mm_law_machine)) (D_law_strolled : DefOk P w K mg base "_law_strolled" 2 ["_law_script", "_law_machine_here", "_law_at"] (spM K mm_law_strolled)) (D_law_is_walked : DefOk P w K mg base "_law_is_walked" 1 ["_law_machine_here", "_law_stem", "_law_ring"] (spM K mm_law_is_walked)) (D_is_walk : DefOk P w K mg base "is_walk" 2 ["machine", "stem", "ring"] (spM K mm_is_walk)) (D_law_letters : DefOk P w K mg base "_law_letters" 1 ["_law_cell_here"] (spM K mm_law_letters)) (D_law_spoiled : DefOk P w K mg base "_law_spoiled" 1 ["_law_stem", "_law_ring", "_law_way", "_law_cell_here"] (spM K mm_law_spoiled)) (D_law_cell : DefOk P w K mg base "_law_cell" 1 ["_law_script", "_law_k"] (spM K mm_law_cell)) : FnOk P w K mg base CX0 3 f fd ["_law_script"] (spM K mm_law) := by
  refine F.ok sc_law (fun vs H Q E h => (spM_len h).trans rfl) (fun cdv A outer s H0 vs Q E hr h => ?_)
  obtain ⟨G0, ⟨script_, ⟨⟩⟩, res, sg0, ⟨v_script_, _, rfl, r_script_, rfl⟩, hm, q⟩ := h
  replace r_script_ : Rp.rel K G0 v_script_ script_ := r_script_
  replace hm : m_law script_ = some res := hm
  unfold m_law at hm
  have xt : Ext G0 H0 G0 H0 := Ext.refl sg0
  refine ⟨_, (pss_cons (ps_set (i := 1) sc_law.nd rfl (Or.inl rfl) (pe_def D_law_machine hr (by decide) rfl (pa_cons (pv 0) (pa_cons (pe_def D_law_letters hr (by decide) rfl (pa_cons (pe_op op_mod (pe_def D_law_cell hr (by decide) rfl (pa_cons (pv 0) (pa_cons pe_int pa_nil))) pe_int) pa_nil)) pa_nil))))
      (pss_cons (ps_asg (pe_def D_law_strolled hr (by decide) rfl (pa_cons (pv 0) (pa_cons (pv 1) (pa_cons pe_int pa_nil)))) (pg_tup rfl (pgs_cons (pg_name (i := 2) sc_law.nd rfl (Or.inl rfl)) (pgs_cons (pg_name (i := 3) sc_law.nd rfl (Or.inl rfl)) pgs_nil))))
      (pss_cons (ps_if (pt_cmpR op_gtU (pe_op op_mod (pe_def D_law_cell hr (by decide) rfl (pa_cons (pv 0) (pa_cons pe_int pa_nil))) pe_int) pe_int (nomark _)) (pss_cons (ps_set (i := 4) sc_law.nd rfl (Or.inl rfl) (pe_op op_mod (pe_def D_law_cell hr (by decide) rfl (pa_cons (pv 0) (pa_cons pe_int pa_nil))) pe_int))
      (pss_cons (ps_asg (pe_def D_law_spoiled hr (by decide) rfl (pa_cons (pv 2) (pa_cons (pv 3) (pa_cons (pe_op op_mod (pe_op op_fdiv (pe_def D_law_cell hr (by decide) rfl (pa_cons (pv 0) (pa_cons pe_int pa_nil))) pe_int) pe_int) (pa_cons (pv 4) pa_nil))))) (pg_tup rfl (pgs_cons (pg_name (i := 2) sc_law.nd rfl (Or.inl rfl)) (pgs_cons (pg_name (i := 3) sc_law.nd rfl (Or.inl rfl)) pgs_nil))))
      pss_nil)) pss_nil)
      (pss_cons (ps_set (i := 5) sc_law.nd rfl (Or.inl rfl) (pe_tup (pa_cons (pe_callTy (call_listK (K := K) rfl) (by rfl) T.list_ bt_list (pa_cons (pe_ix (ix_anyK (K := K) rfl) (pv 1) pe_int (fun _ _ => rfl)) pa_nil)) (pa_cons (pe_callTy (call_listK (K := K) rfl) (by rfl) T.list_ bt_list (pa_cons (pe_ix (ix_anyK (K := K) rfl) (pv 1) pe_int (fun _ _ => rfl)) pa_nil)) (pa_cons (pe_callTy (call_listK (K := K) rfl) (by rfl) T.list_ bt_list (pa_cons (pe_ix (ix_anyK (K := K) rfl) (pv 1) pe_int (fun _ _ => rfl)) pa_nil)) (pa_cons (pe_comp (cn := []) (cap := []) rfl ⟨by decide +kernel, rfl, by decide +kernel, free_of rfl⟩ rfl (by decide +kernel) trivial (pi_anyK (K := K) rfl (pe_ix (ix_anyK (K := K) rfl) (pv 1) pe_int (fun _ _ => rfl))) (fun C s0 H0 fp => ⟨pts_nil, (pe_callTy (call_listK (K := K) rfl) (by rfl) T.list_ bt_list (pa_cons (pv 0) pa_nil))⟩)) pa_nil))))))
      (pss_cons (ps_set (i := 6) sc_law.nd rfl (Or.inl rfl) (pe_tup (pa_cons (pe_callTy (call_listK (K := K) rfl) (by rfl) T.list_ bt_list (pa_cons (pv 2) pa_nil)) (pa_cons (pe_callTy (call_listK (K := K) rfl) (by rfl) T.list_ bt_list (pa_cons (pv 3) pa_nil)) pa_nil))))
      (pss_cons (ps_set (i := 7) sc_law.nd rfl (Or.inl rfl) (pe_def D_law_is_walked hr (by decide) rfl (pa_cons (pv 1) (pa_cons (pv 2) (pa_cons (pv 3) pa_nil)))))
      (pss_cons (ps_set (i := 8) sc_law.nd rfl (Or.inl rfl) (pe_def D_is_walk hr (by decide) rfl (pa_cons (pv 5) (pa_cons (pe_ix (ix_anyK (K := K) rfl) (pv 6) pe_int (fun _ _ => rfl)) (pa_cons (pe_ix (ix_anyK (K := K) rfl) (pv 6) pe_int (fun _ _ => rfl)) pa_nil)))))
      (pss_cons (ps_if (PW.pt (pw_or (pt_not (pt_truthK (K := K) rfl (pe_callB (call_instK (K := K) rfl) (by rfl) T.isinstance_ bt_isinstance (pa_cons (pv 8) (pa_cons (pe_bltn (v := .ty "bool") rfl T.bool_ bt_bool rfl) pa_nil))) (fun _ => rfl))) (pw_or (pt_cmpR op_ne (pv 8) (pv 7) (nomark _)) (pw_or (pt_cmpR (op_neK (K := K) rfl (T4 (List Str) (List (Int × Int)) (List Int) (List (List Int))) hr (by decide)) (pv 5) (pv 1) (nomark _)) (pw_or1 (pt_cmpR (op_neK (K := K) rfl ((List Int) × (List Int)) hr (by decide)) (pv 6) (pe_tup (pa_cons (pv 2) (pa_cons (pv 3) pa_nil))) (nomark _))))))) (pss_cons (ps_ret pe_bl)
      pss_nil) pss_nil)
      (pss_cons (ps_set (i := 9) sc_law.nd rfl (Or.inl rfl) (pe_tup (pa_cons (pe_ix (ix_anyK (K := K) rfl) (pv 1) pe_int (fun _ _ => rfl)) (pa_cons (pe_ix (ix_anyK (K := K) rfl) (pv 1) pe_int (fun _ _ => rfl)) (pa_cons (pe_ix (ix_anyK (K := K) rfl) (pv 1) pe_int (fun _ _ => rfl)) (pa_cons (pe_lst pa_nil) pa_nil))))))
      (pss_cons (ps_if (pt_cmpR op_ne (pe_def D_is_walk hr (by decide) rfl (pa_cons (pv 9) (pa_cons (pe_callTy (call_listK (K := K) rfl) (by rfl) T.list_ bt_list (pa_cons (pv 2) pa_nil)) (pa_cons (pe_callTy (call_listK (K := K) rfl) (by rfl) T.list_ bt_list (pa_cons (pv 3) pa_nil)) pa_nil)))) (pe_def D_law_is_walked hr (by decide) rfl (pa_cons (pv 9) (pa_cons (pv 2) (pa_cons (pv 3) pa_nil)))) (nomark _)) (pss_cons (ps_ret pe_bl)
      pss_nil) pss_nil)
      (pss_cons (ps_if (pt_cmpR op_ne (pe_def D_is_walk hr (by decide) rfl (pa_cons (pv 1) (pa_cons (pe_callTy (call_listK (K := K) rfl) (by rfl) T.list_ bt_list (pa_cons (pv 3) pa_nil)) (pa_cons (pe_callTy (call_listK (K := K) rfl) (by rfl) T.list_ bt_list (pa_cons (pv 2) pa_nil)) pa_nil)))) (pe_def D_law_is_walked hr (by decide) rfl (pa_cons (pv 1) (pa_cons (pv 3) (pa_cons (pv 2) pa_nil)))) (nomark _)) (pss_cons (ps_ret pe_bl)
      pss_nil) pss_nil)
      (pss_cons (ps_ret (pe_cmpR op_eq (pe_def D_is_walk hr (by decide) rfl (pa_cons (pv 5) (pa_cons (pe_ix (ix_anyK (K := K) rfl) (pv 6) pe_int (fun _ _ => rfl)) (pa_cons (pe_ix (ix_anyK (K := K) rfl) (pv 6) pe_int (fun _ _ => rfl)) pa_nil)))) (pv 7) (nomark _)))
      pss_nil)))))))))))), ?_⟩
  obtain ⟨machine_here_, h12, hm⟩ := Option.bind_eq_some_iff.mp hm
  refine sv_set (K := K) (ev_def2 (m := mm_law_machine) (ev_var rfl r_script_) (ev_def1 (m := mm_law_letters) (ev_modR (ev_def2 (m := mm_law_cell) (ev_var rfl r_script_) ev_i)))) h12 xt.gh fun v7 G8 H9 x10 r11 => ?_
  have xt := xt.trans x10
  have r_script_ := Rp.mono x10.gg r_script_
  obtain ⟨p16, h17, hm⟩ := Option.bind_eq_some_iff.mp hm
  refine sv_unpack (K := K) (ev_def3 (m := mm_law_strolled) (ev_var rfl r_script_) (ev_var rfl r11) ev_i) h17 xt.gh fun v21 v22 G18 H19 x20 r23 r24 => ?_
  have xt := xt.trans x20
  have r_script_ := Rp.mono x20.gg r_script_
  have r11 := Rp.mono x20.gg r11
  obtain ⟨b29, h30, hm⟩ := Option.bind_eq_some_iff.mp hm
  obtain ⟨s34, h35, hm⟩ := Option.bind_eq_some_iff.mp hm
  try (with_reducible refine nxt_ ?_; dsimp only)
  refine sv_join (t := tIfS _ _ _) (fun S72 H71 => ∃ (G70 : Hp) (v37 : V) (v39 : V) (v41 : Option V), Ext G0 H0 G70 H71 ∧ Same G18 G70 ∧ S72 = [some v_script_, some v7, some v37, some v39, v41, none, none, none, none, none] ∧ Rp.rel K G70 v37 (s34.1 : (List Int)) ∧ Rp.rel K G70 v39 (s34.2 : (List Int))) (fun nx kn43 => ?_) ?_
  · refine sv_if (tv_test (K := K) (ev_ord (ev_modR (ev_def2 (m := mm_law_cell) (ev_var rfl r_script_) ev_i)) ev_i)) h30 xt.gh fun G31 H32 x33 => ?_
    have xt := xt.trans x33
    have r_script_ := Rp.mono x33.gg r_script_
    have r11 := Rp.mono x33.gg r11
    have r23 := Rp.mono x33.gg r23
    have r24 := Rp.mono x33.gg r24
    have mk36 : Same G18 G31 := x33.gg
    have hm := h35
    cases b29 with
    | true =>
      replace hm := cT hm
      refine iteT ?_
      obtain ⟨cell_here_, h52, hm⟩ := Option.bind_eq_some_iff.mp hm
      refine sv_set (K := K) (ev_modR (ev_def2 (m := mm_law_cell) (ev_var rfl r_script_) ev_i)) h52 xt.gh fun v47 G48 H49 x50 r51 => ?_
      have xt := xt.trans x50
      have mk36 := mk36.trans x50.gg
      have r_script_ := Rp.mono x50.gg r_script_
      have r11 := Rp.mono x50.gg r11
      have r23 := Rp.mono x50.gg r23
      have r24 := Rp.mono x50.gg r24
      obtain ⟨p61, h62, hm⟩ := Option.bind_eq_some_iff.mp hm
      refine sv_unpack (K := K) (ev_def4 (m := mm_law_spoiled) (ev_var rfl r23) (ev_var rfl r24) (ev_modR (ev_divR (ev_def2 (m := mm_law_cell) (ev_var rfl r_script_) ev_i))) (ev_var rfl r51)) h62 xt.gh fun v66 v67 G63 H64 x65 r68 r69 => ?_
      have xt := xt.trans x65
      have mk36 := mk36.trans x65.gg
      have r_script_ := Rp.mono x65.gg r_script_
      have r11 := Rp.mono x65.gg r11
      have r23 := Rp.mono x65.gg r23
      have r24 := Rp.mono x65.gg r24
      have r51 := Rp.mono x65.gg r51
      cases hm
      exact kn43 _ _ ⟨G63, v66, v67, _, xt, mk36, rfl, r68, r69⟩
    | false =>
      replace hm := cF hm
      refine iteF ?_
      cases hm
      exact kn43 _ _ ⟨G31, v21, v22, _, xt, mk36, rfl, r23, r24⟩
  · rintro _ H71 ⟨G70, v37, v39, v41, xt, mk36, rfl, r38, r40⟩
    have r_script_ := Rp.mono mk36 r_script_
    have r11 := Rp.mono mk36 r11
    obtain ⟨copies_, h84, hm⟩ := Option.bind_eq_some_iff.mp hm
    refine sv_set (K := K) (ev_tup4 (FV.ev (fv_list (ev_p41 (ev_var rfl r11)))) (FV.ev (fv_list (ev_p42 (ev_var rfl r11)))) (FV.ev (fv_list (ev_p43 (ev_var rfl r11)))) (FV.ev (fv_map (cap := []) (fe := fun (mark_ : (List Int)) => (some mark_)) (iw_list (ev_p44 (ev_var rfl r11))) fun xc76 mark_ Gc73 sc74 rc75 => (FV.ev (fv_list (ev_var rfl rc75)))))) h84 xt.gh fun v79 G80 H81 x82 r83 => ?_
    have xt := xt.trans x82
    have r_script_ := Rp.mono x82.gg r_script_
    have r11 := Rp.mono x82.gg r11
    have r38 := Rp.mono x82.gg r38
    have r40 := Rp.mono x82.gg r40
    obtain ⟨handed_, h90, hm⟩ := Option.bind_eq_some_iff.mp hm
    refine sv_set (K := K) (ev_tup2 (FV.ev (fv_list (ev_var rfl r38))) (FV.ev (fv_list (ev_var rfl r40)))) h90 xt.gh fun v85 G86 H87 x88 r89 => ?_
    have xt := xt.trans x88
    have r_script_ := Rp.mono x88.gg r_script_
    have r11 := Rp.mono x88.gg r11
    have r38 := Rp.mono x88.gg r38
    have r40 := Rp.mono x88.gg r40
    have r83 := Rp.mono x88.gg r83
    obtain ⟨due_, h99, hm⟩ := Option.bind_eq_some_iff.mp hm
    refine sv_set (K := K) (ev_def3 (m := mm_law_is_walked) (ev_var rfl r11) (ev_var rfl r38) (ev_var rfl r40)) h99 xt.gh fun v94 G95 H96 x97 r98 => ?_
    have xt := xt.trans x97
    have r_script_ := Rp.mono x97.gg r_script_
    have r11 := Rp.mono x97.gg r11
    have r38 := Rp.mono x97.gg r38
    have r40 := Rp.mono x97.gg r40
    have r83 := Rp.mono x97.gg r83
    have r89 := Rp.mono x97.gg r89
    obtain ⟨found_, h108, hm⟩ := Option.bind_eq_some_iff.mp hm
    refine sv_set (K := K) (ev_def3 (m := mm_is_walk) (ev_var rfl r83) (ev_fst (ev_var rfl r89)) (ev_snd (ev_var rfl r89))) h108 xt.gh fun v103 G104 H105 x106 r107 => ?_
    have xt := xt.trans x106
    have r_script_ := Rp.mono x106.gg r_script_
    have r11 := Rp.mono x106.gg r11
    have r38 := Rp.mono x106.gg r38
    have r40 := Rp.mono x106.gg r40
    have r83 := Rp.mono x106.gg r83
    have r89 := Rp.mono x106.gg r89
    have r98 := Rp.mono x106.gg r98
    obtain ⟨b109, h110, hm⟩ := Option.bind_eq_some_iff.mp hm
    refine sv_if (tv_orP (tv_not (tv_b (K := K) (ev_inst (b := true) (by decide +kernel) (ev_var rfl r107)))) (tv_orP (tv_test (K := K) (ev_neB (ev_var rfl r107) (ev_var rfl r98))) (tv_orP (tv_test (K := K) (ev_ne (ev_var rfl r83) (ev_var rfl r11))) (tv_test (K := K) (ev_ne (ev_var rfl r89) (ev_tup2 (ev_var rfl r38) (ev_var rfl r40))))))) h110 xt.gh fun G111 H112 x113 => ?_
    have xt := xt.trans x113
    have r_script_ := Rp.mono x113.gg r_script_
    have r11 := Rp.mono x113.gg r11
    have r38 := Rp.mono x113.gg r38
    have r40 := Rp.mono x113.gg r40
    have r83 := Rp.mono x113.gg r83
    have r89 := Rp.mono x113.gg r89
    have r98 := Rp.mono x113.gg r98
    have r107 := Rp.mono x113.gg r107
    cases b109 with
    | true =>
      replace hm := cT hm
      refine iteT ?_
      exact sv_ret (K := K) (rest := tNext) (σ := [some v_script_, some v7, some v37, some v39, v41, some v79, some v85, some v94, some v103, none]) ev_b hm xt.gh fun v114 G115 H116 x117 r118 => q v114 G115 H116 (xt.trans x117) r118
    | false =>
      replace hm := cF hm
      refine iteF ?_
      obtain ⟨bare_, h124, hm⟩ := Option.bind_eq_some_iff.mp hm
      refine sv_set (K := K) (ev_tup4 (ev_p41 (ev_var rfl r11)) (ev_p42 (ev_var rfl r11)) (ev_p43 (ev_var rfl r11)) (FV.ev (fv_lst (lv_nil (α := (List Int)))))) h124 xt.gh fun v119 G120 H121 x122 r123 => ?_
      have xt := xt.trans x122
      have r_script_ := Rp.mono x122.gg r_script_
      have r11 := Rp.mono x122.gg r11
      have r38 := Rp.mono x122.gg r38
      have r40 := Rp.mono x122.gg r40
      have r83 := Rp.mono x122.gg r83
      have r89 := Rp.mono x122.gg r89
      have r98 := Rp.mono x122.gg r98
      have r107 := Rp.mono x122.gg r107
      obtain ⟨b136, h137, hm⟩ := Option.bind_eq_some_iff.mp hm
      refine sv_if (tv_test (K := K) (ev_neB (ev_def3 (m := mm_is_walk) (ev_var rfl r123) (FV.ev (fv_list (ev_var rfl r38))) (FV.ev (fv_list (ev_var rfl r40)))) (ev_def3 (m := mm_law_is_walked) (ev_var rfl r123) (ev_var rfl r38) (ev_var rfl r40)))) h137 xt.gh fun G138 H139 x140 => ?_
      have xt := xt.trans x140
      have r_script_ := Rp.mono x140.gg r_script_
      have r11 := Rp.mono x140.gg r11
      have r38 := Rp.mono x140.gg r38
      have r40 := Rp.mono x140.gg r40
      have r83 := Rp.mono x140.gg r83
      have r89 := Rp.mono x140.gg r89
      have r98 := Rp.mono x140.gg r98
      have r107 := Rp.mono x140.gg r107
      have r123 := Rp.mono x140.gg r123
      cases b136 with
      | true =>
        replace hm := cT hm
        refine iteT ?_
        exact sv_ret (K := K) (rest := tNext) (σ := [some v_script_, some v7, some v37, some v39, v41, some v79, some v85, some v94, some v103, some v119]) ev_b hm xt.gh fun v141 G142 H143 x144 r145 => q v141 G142 H143 (xt.trans x144) r145
      | false =>
        replace hm := cF hm
        refine iteF ?_
        obtain ⟨b157, h158, hm⟩ := Option.bind_eq_some_iff.mp hm
        refine sv_if (tv_test (K := K) (ev_neB (ev_def3 (m := mm_is_walk) (ev_var rfl r11) (FV.ev (fv_list (ev_var rfl r40))) (FV.ev (fv_list (ev_var rfl r38)))) (ev_def3 (m := mm_law_is_walked) (ev_var rfl r11) (ev_var rfl r40) (ev_var rfl r38)))) h158 xt.gh fun G159 H160 x161 => ?_
        have xt := xt.trans x161
        have r_script_ := Rp.mono x161.gg r_script_
        have r11 := Rp.mono x161.gg r11
        have r38 := Rp.mono x161.gg r38
        have r40 := Rp.mono x161.gg r40
        have r83 := Rp.mono x161.gg r83
        have r89 := Rp.mono x161.gg r89
        have r98 := Rp.mono x161.gg r98
        have r107 := Rp.mono x161.gg r107
        have r123 := Rp.mono x161.gg r123
        cases b157 with
        | true =>
          replace hm := cT hm
          refine iteT ?_
          exact sv_ret (K := K) (rest := tNext) (σ := [some v_script_, some v7, some v37, some v39, v41, some v79, some v85, some v94, some v103, some v119]) ev_b hm xt.gh fun v162 G163 H164 x165 r166 => q v162 G163 H164 (xt.trans x165) r166
        | false =>
          replace hm := cF hm
          refine iteF ?_
          exact sv_ret (K := K) (ev_eqB (ev_def3 (m := mm_is_walk) (ev_var rfl r83) (ev_fst (ev_var rfl r89)) (ev_snd (ev_var rfl r89))) (ev_var rfl r98)) hm xt.gh fun v171 G172 H173 x174 r175 => q v171 G172 H173 (xt.trans x174) r175
end
end My

set_option Elab.async false
set_option linter.all false
set_option maxRecDepth 100000
set_option maxHeartbeats 4000000
namespace My
open PySem PySem.Spec PyProof.Rows L2
def abcN : List Nat := List.range' 97 26
def one (c : Nat) : Str := ⟨#[c]⟩
theorem abc_pw : abcN.Pairwise (· < ·) := List.pairwise_lt_range'
def Mom (x : Str) : Prop := x.cps.toList.Sublist abcN
theorem Mom.pw {x : Str} (h : Mom x) : x.cps.toList.Pairwise (· < ·) := abc_pw.sublist h
theorem Mom.len {x : Str} (h : Mom x) : x.length ≤ 26 := by
  have := List.Sublist.length_le h
  exact this
theorem rng_at {n i : Nat} {a : Int} (h : ((List.range n).map fun (i : Nat) => (0 : Int) + (i : Int))[i]? = some a) : i < n ∧ a = (i : Int) := by
  have hi : i < n := by simpa using (List.getElem?_eq_some_iff.mp h).1
  refine ⟨hi, ?_⟩
  simp [hi] at h
  omega
theorem rng_len (n : Nat) : ((List.range n).map fun (i : Nat) => (0 : Int) + (i : Int)).length = n := by rw [List.length_map, List.length_range]
theorem cell_ok (s : Scr) (k : Int) (h0 : 0 ≤ k) (h1 : k ≤ 100) {P : Int → Prop} (hp : ∀ n, P n) : OK (m_law_cell s k) P := by
  unfold m_law_cell
  simp only [Option.bind_assoc, bindS, bind_self]
  refine ok_cond (fun h => ok_at h0 (of_decide_eq_true h) fun x _ => hp x) fun _ => ?_
  refine ok_by (P := fun z : Int => -(2 ^ 64) < z ∧ z < 2 ^ 64) (ok_cond (fun h => ?_) fun _ => ok_some (by omega)) fun z hz => ok_bind (ok_mul (.inl hz) (ok_some (hp _)))
  have h := of_decide_eq_true h
  refine ok_bind (ok_mod h (ok_bind (ok_at (Int.emod_nonneg _ (by omega)) (Int.emod_lt_of_pos _ h) fun x _ => ok_some ?_)))
  have a0 := Int.emod_nonneg (x * 48271 + k * 7919) (b := 2147483647) (by decide)
  have a1 := Int.emod_lt_of_pos (x * 48271 + k * 7919) (b := 2147483647) (by decide)
  omega
theorem memE_eq (x : Int × Int) (l : List (Int × Int)) : memE x l = decide (x ∈ l) := decide_eq_decide.mpr Iff.rfl
def hd (r : List Int) : Int := r.headD 0
theorem at_hd {r : List Int} (h : r ≠ []) : atI r (0 : Int) = some (hd r) := by
  cases r with
  | nil => exact absurd rfl h
  | cons a r => exact atI_nat (j := 0) rfl
def stp (st : List Int) (f : Int) : List (Int × Int) := st.zip (st.drop 1 ++ [f])
theorem cut_drop1 (st : List Int) (h : st ≠ []) : cutA st (some (1 : Int)) none = st.drop 1 := by
  have hl : 1 ≤ st.length := List.length_pos_iff.mpr h
  unfold cutA
  have h1 : HT.sIx st.length 0 (some (1 : Int)) = 1 := (HT.sIx_nat st.length 0 1).trans (by omega)
  have h2 : HT.sIx st.length st.length none = st.length := rfl
  rw [h1, h2]
  exact List.take_of_length_le (by rw [List.length_drop]; omega)
theorem steps_eq {st : List Int} (h : st ≠ []) (hl : st.length ≤ 4000) (f : Int) : m_steps_along st f = some (stp st f) := by
  have hs : sizeLine = 16777216 := sizeLine_eq
  have hp : 1 ≤ st.length := List.length_pos_iff.mpr h
  refine OK.eq ?_
  unfold m_steps_along
  simp only [Option.bind_assoc, bindS, bind_self, cut_drop1 st h]
  refine ok_bind (ok_catL (by rw [List.length_drop, List.length_singleton]; omega) ⟨_, if_pos ⟨?_, hl⟩, rfl⟩)
  rw [List.length_append, List.length_drop, List.length_singleton]
  omega
def gb (W A : List (Int × Int)) (mark : List Int) : Bool := mark.any fun n => decide (W.getD n.toNat (0, 0) ∈ A)
def Ok1 (W : List (Int × Int)) (mark : List Int) : Prop := ∀ n ∈ mark, 0 ≤ n ∧ n < (W.length : Int)
theorem at_W {W : List (Int × Int)} {n : Int} (h : 0 ≤ n ∧ n < (W.length : Int)) : atI W n = some (W.getD n.toNat (0, 0)) := by
  obtain ⟨k, rfl⟩ := Int.eq_ofNat_of_zero_le h.1
  have : k < W.length := by omega
  exact atI_nat (by simp [this])
theorem gone_eq {W A : List (Int × Int)} {mark : List Int} (h : Ok1 W mark) : m_is_gone W mark A = some (gb W A mark) := by
  refine OK.eq ?_
  unfold m_is_gone
  simp only [Option.bind_assoc, bindS, bind_self, memE_eq]
  refine ok_bind (ok_map (g := fun n : Int => decide (W.getD n.toNat (0, 0) ∈ A)) (fun n hn => by rw [at_W (h n hn)]; rfl) (ok_some ?_))
  rw [List.any_map]
  rfl
abbrev Mac := T4 (List Str) (List (Int × Int)) (List Int) (List (List Int))
def PP (stem ring : List Int) : List (Int × Int) := stp (stem ++ ring) (hd ring)
def bw (M : Mac) (stem ring : List Int) : Bool :=
  !decide (ring = []) && (decide (hd (stem ++ ring) ∈ M.c) && ((PP stem ring).all (fun p => decide (p ∈ M.b)) && M.d.all (gb M.b ((PP stem ring).drop stem.length))))
theorem around_eq {stem ring : List Int} (h : ring ≠ []) : stp ring (hd ring) = (PP stem ring).drop stem.length := by
  have hl : 1 ≤ ring.length := List.length_pos_iff.mpr h
  unfold PP stp
  rw [List.zip_eq_zipWith, List.zip_eq_zipWith, List.drop_zipWith, List.drop_left, List.drop_append_of_le_length (by rw [List.length_drop, List.length_append]; omega), List.drop_drop]
  congr 2
  rw [Nat.add_comm, ← List.drop_drop, List.drop_left]
theorem walk_eq (M : Mac) (hM : ∀ mark ∈ M.d, Ok1 M.b mark) (stem ring : List Int) (hl : stem.length + ring.length ≤ 1000) : m_is_walk M stem ring = some (bw M stem ring) := by
  have hs : sizeLine = 16777216 := sizeLine_eq
  refine OK.eq ?_
  unfold m_is_walk bw
  simp only [Option.bind_assoc, bindS, bind_self, memE_eq]
  by_cases hr : ring = []
  · refine ok_by (P := fun b => b = true) (ok_cond (fun _ => ok_some rfl) fun h => ?_) fun b hb => ok_cond (fun _ => ok_some ?_) fun h => by rw [hb] at h; cases h
    · exact absurd (by rw [hr]; rfl) (of_decide_eq_false h)
    · rw [decide_eq_true hr]; rfl
  · have hne : stem ++ ring ≠ [] := fun e => hr (List.append_eq_nil_iff.mp e).2
    have hlr : 1 ≤ ring.length := List.length_pos_iff.mpr hr
    have ec : catL stem ring = some (stem ++ ring) := if_pos (by omega)
    simp only [ec, bindS, at_hd hne, at_hd hr, steps_eq hne (by rw [List.length_append]; omega), steps_eq hr (by omega)]
    rw [decide_eq_false hr]
    refine ok_by (P := fun b => b = !decide (hd (stem ++ ring) ∈ M.c)) (ok_cond (fun h => ?_) fun _ => ok_some rfl) fun b hb => ok_cond (fun h => ok_some ?_) fun h => ?_
    · have h := of_decide_eq_true h
      omega
    · rw [hb] at h
      have : decide (hd (stem ++ ring) ∈ M.c) = false := by simpa using h
      rw [this]; rfl
    · rw [hb] at h
      have : decide (hd (stem ++ ring) ∈ M.c) = true := by simpa using h
      rw [this]
      refine ok_bind (ok_map (g := fun p : Int × Int => decide (p ∈ M.b)) (fun _ _ => rfl) ?_)
      have e1 : ((stp (stem ++ ring) (hd ring)).map fun p : Int × Int => decide (p ∈ M.b)).all id = (PP stem ring).all fun p => decide (p ∈ M.b) := by
        rw [List.all_map]; rfl
      rw [e1]
      refine ok_cond (fun h => ok_some ?_) fun h => ?_
      · have : ((PP stem ring).all fun p => decide (p ∈ M.b)) = false := by simpa using h
        rw [this]; rfl
      · have : ((PP stem ring).all fun p => decide (p ∈ M.b)) = true := by simpa using h
        rw [this]
        refine ok_bind (ok_map (g := fun mark : List Int => gb M.b (stp ring (hd ring)) mark) (fun mark hm => gone_eq (hM mark hm)) (ok_some ?_))
        rw [List.all_map, around_eq (stem := stem) hr]
        rfl
theorem get_at {l : List Int} {k : Nat} (h : k < l.length) : l[k]? = some (l.getD k 0) := by
  rw [List.getD_eq_getElem?_getD, List.getElem?_eq_getElem h]
  rfl
theorem behind_at {stem ring : List Int} {k : Nat} (hr : ring ≠ []) (hk : k < (stem ++ ring).length) : (PP stem ring)[k]? = some ((stem ++ ring).getD k 0, (stem ++ ring ++ ring).getD (k + 1) 0) := by
  have hlr : 1 ≤ ring.length := List.length_pos_iff.mpr hr
  have hl : (stem ++ ring).length = stem.length + ring.length := List.length_append
  unfold PP stp
  rw [List.getElem?_zip_eq_some]
  refine ⟨get_at hk, ?_⟩
  show _ = some ((stem ++ ring ++ ring).getD (k + 1) 0)
  rw [← get_at (l := stem ++ ring ++ ring) (by rw [List.length_append]; omega)]
  by_cases h : k + 1 < (stem ++ ring).length
  · rw [List.getElem?_append_left (l₁ := List.drop 1 (stem ++ ring)) (by rw [List.length_drop]; omega), List.getElem?_drop, Nat.add_comm 1 k, List.getElem?_append_left (l₁ := stem ++ ring) h]
  · have e : k + 1 = (stem ++ ring).length := by omega
    have e0 : k - ((stem ++ ring).length - 1) = 0 := by omega
    rw [List.getElem?_append_right (l₁ := List.drop 1 (stem ++ ring)) (by rw [List.length_drop]; omega), List.length_drop, List.getElem?_append_right (l₁ := stem ++ ring) (by omega), e, Nat.sub_self, e0]
    cases ring with
    | nil => exact absurd rfl hr
    | cons a r => rfl
theorem walked_eq (M : Mac) (hM : ∀ mark ∈ M.d, Ok1 M.b mark) (stem ring : List Int) (hl : stem.length + ring.length ≤ 1000) : m_law_is_walked M stem ring = some (bw M stem ring) := by
  have hs : sizeLine = 16777216 := sizeLine_eq
  refine OK.eq ?_
  unfold m_law_is_walked bw
  simp only [Option.bind_assoc, bindS, bind_self, memE_eq]
  have ec : catL stem ring = some (stem ++ ring) := if_pos (by omega)
  simp only [ec, bindS]
  by_cases hr : ring = []
  · refine ok_by (P := fun b => b = true) (ok_cond (fun _ => ok_some rfl) fun h => absurd hr (of_decide_eq_false h)) fun b hb => ok_cond (fun _ => ok_some ?_) fun h => by rw [hb] at h; cases h
    rw [decide_eq_true hr]; rfl
  · have hne : stem ++ ring ≠ [] := fun e => hr (List.append_eq_nil_iff.mp e).2
    have hlr : 1 ≤ ring.length := List.length_pos_iff.mpr hr
    have hlS : (stem ++ ring).length = stem.length + ring.length := List.length_append
    have ec2 : catL (stem ++ ring) ring = some (stem ++ ring ++ ring) := if_pos (by omega)
    simp only [at_hd hne, bindS, ec2]
    rw [decide_eq_false hr]
    refine ok_by (P := fun b => b = !decide (hd (stem ++ ring) ∈ M.c)) (ok_cond (fun h => by cases h) fun _ => ok_some rfl) fun b hb => ok_cond (fun h => ok_some ?_) fun h => ?_
    · rw [hb] at h
      have : decide (hd (stem ++ ring) ∈ M.c) = false := by simpa using h
      rw [this]; rfl
    · rw [hb] at h
      have : decide (hd (stem ++ ring) ∈ M.c) = true := by simpa using h
      rw [this]
      have plen : (PP stem ring).length = (stem ++ ring).length := by
        have z : ((stem ++ ring).drop 1 ++ [hd ring]).length = (stem ++ ring).length := by
          rw [List.length_append, List.length_drop, List.length_singleton]
          omega
        unfold PP stp
        rw [List.length_zip, z, Nat.min_self]
      refine ok_bind (ok_rng (n := (stem ++ ring).length) (by omega) (by omega) (by omega) ?_)
      refine ok_bind (ok_for (fun i (s : List (Int × Int)) => (∀ k < i, ∀ p, (PP stem ring)[k]? = some p → p ∈ M.b) ∧ s.length ≤ i ∧ ∀ x, x ∈ s ↔ ∃ k, stem.length ≤ k ∧ k < i ∧ (PP stem ring)[k]? = some x) (fun _ => False) (fun r => r = false ∧ ∃ p ∈ PP stem ring, p ∉ M.b) ⟨fun k hk => absurd hk (Nat.not_lt_zero _), Nat.le_refl _, fun x => ⟨fun h => (by cases h), fun ⟨k, _, h, _⟩ => absurd h (Nat.not_lt_zero _)⟩⟩ (fun i a s ha ⟨h1, h2, h3⟩ => ?_) (fun s ⟨h1, h2, h3⟩ => ?_) (fun _ h => h.elim) fun r ⟨h1, p, hp, hq⟩ => ?_)
      · obtain ⟨hi, rfl⟩ := rng_at ha
        have e1 : atI (stem ++ ring) (i : Int) = some ((stem ++ ring).getD i 0) := atI_nat (get_at hi)
        have e2 : atI (stem ++ ring ++ ring) ((i : Int) + 1) = some ((stem ++ ring ++ ring).getD (i + 1) 0) := by
          have hi2 : i + 1 < (stem ++ ring ++ ring).length := by rw [List.length_append]; omega
          have := atI_nat (j := i + 1) (get_at hi2)
          rwa [show ((i + 1 : Nat) : Int) = (i : Int) + 1 by omega] at this
        have e3 := behind_at (stem := stem) hr hi
        simp only [e1, e2, bindS]
        generalize hpq : ((stem ++ ring).getD i 0, (stem ++ ring ++ ring).getD (i + 1) 0) = pq at e3
        refine ok_cond (fun h => ok_some ⟨rfl, pq, List.mem_of_getElem? e3, ?_⟩) fun h => ?_
        · have : decide (pq ∈ M.b) = false := by simpa using h
          exact of_decide_eq_false this
        · have hin : pq ∈ M.b := by
            have : decide (pq ∈ M.b) = true := by simpa using h
            exact of_decide_eq_true this
          have g1 : ∀ k < i + 1, ∀ p, (PP stem ring)[k]? = some p → p ∈ M.b := fun k hk p hp => by
            by_cases e : k = i
            · rw [e, e3] at hp
              cases hp
              exact hin
            · exact h1 k (by omega) p hp
          refine ok_by (P := fun b => (b = true → stem.length ≤ i ∧ pq ∉ s) ∧ (b = false → i < stem.length ∨ pq ∈ s)) (ok_cond (fun h => ok_some ⟨fun q => ?_, fun q => ?_⟩) fun h => ok_some ⟨fun q => (by cases q), fun _ => ?_⟩) fun b ⟨b1, b2⟩ => ok_cond (fun h => ok_bind (ok_push (by omega) (ok_some ⟨g1, ?_, fun x => ?_⟩))) fun h => ok_some ⟨g1, by omega, fun x => ?_⟩
          · have h := of_decide_eq_true h
            exact ⟨by omega, by simpa using q⟩
          · right; simpa using q
          · have h := of_decide_eq_false h
            left; omega
          · rw [List.length_append, List.length_singleton]; omega
          · obtain ⟨c1, c2⟩ := b1 h
            rw [List.mem_append, List.mem_singleton, h3 x]
            constructor
            · rintro (⟨k, k1, k2, k3⟩ | e)
              · exact ⟨k, k1, by omega, k3⟩
              · exact ⟨i, c1, by omega, by rw [e]; exact e3⟩
            · rintro ⟨k, k1, k2, k3⟩
              by_cases e : k = i
              · rw [e, e3] at k3
                cases k3
                exact .inr rfl
              · exact .inl ⟨k, k1, by omega, k3⟩
          · rw [h3 x]
            constructor
            · rintro ⟨k, k1, k2, k3⟩
              exact ⟨k, k1, by omega, k3⟩
            · rintro ⟨k, k1, k2, k3⟩
              by_cases e : k = i
              · rcases b2 h with q | q
                · omega
                · rw [e, e3] at k3
                  cases k3
                  exact (h3 _).mp q
              · exact ⟨k, k1, by omega, k3⟩
      · rw [rng_len] at h1 h2 h3
        have hall : ((PP stem ring).all fun p => decide (p ∈ M.b)) = true := List.all_eq_true.mpr fun p hp => by
          obtain ⟨k, hk⟩ := List.mem_iff_getElem?.mp hp
          exact decide_eq_true (h1 k (by rw [← plen]; exact (List.getElem?_eq_some_iff.mp hk).1) p hk)
        rw [hall]
        have hmem : ∀ x, x ∈ s ↔ x ∈ (PP stem ring).drop stem.length := fun x => by
          rw [h3 x, List.mem_iff_getElem?]
          constructor
          · rintro ⟨k, k1, k2, k3⟩
            exact ⟨k - stem.length, by rw [List.getElem?_drop, show stem.length + (k - stem.length) = k by omega]; exact k3⟩
          · rintro ⟨j, hj⟩
            rw [List.getElem?_drop] at hj
            exact ⟨stem.length + j, by omega, by rw [← plen]; exact (List.getElem?_eq_some_iff.mp hj).1, hj⟩
        have hgb : ∀ mark : List Int, (mark.any fun n => decide (M.b.getD n.toNat (0, 0) ∈ s)) = gb M.b ((PP stem ring).drop stem.length) mark := fun mark => by
          unfold gb
          congr 1
          funext n
          exact decide_eq_decide.mpr (hmem _)
        refine ok_bind (ok_for (fun i (_ : Unit) => ∀ k < i, ∀ mark, M.d[k]? = some mark → gb M.b ((PP stem ring).drop stem.length) mark = true) (fun _ => False) (fun r => r = false ∧ ∃ mark ∈ M.d, gb M.b ((PP stem ring).drop stem.length) mark = false) (fun k hk => absurd hk (Nat.not_lt_zero _)) (fun i mark u hm hI => ?_) (fun u hI => ok_some ?_) (fun _ h => h.elim) fun r ⟨e1, mark, m1, m2⟩ => ?_)
        · have hmk := hM mark (List.mem_of_getElem? hm)
          refine ok_bind (ok_comp (c := fun n : Int => decide (M.b.getD n.toNat (0, 0) ∈ s)) (g := fun n : Int => n) (fun n hn => by rw [at_W (hmk n hn)]; rfl) (fun n _ _ => rfl) ?_)
          refine ok_cond (fun h => ok_some ⟨rfl, mark, List.mem_of_getElem? hm, ?_⟩) fun h => ok_some fun k hk mk hmk' => ?_
          · have h := of_decide_eq_true h
            rw [← hgb mark, List.any_eq_false]
            intro n hn q
            have : n ∈ (mark.filter fun n : Int => decide (M.b.getD n.toNat (0, 0) ∈ s)).map fun n : Int => n := List.mem_map.mpr ⟨n, List.mem_filter.mpr ⟨hn, q⟩, rfl⟩
            rw [h] at this
            cases this
          · by_cases e : k = i
            · rw [e, hm] at hmk'
              cases hmk'
              have h := of_decide_eq_false h
              rw [← hgb mark]
              rw [← Bool.not_eq_false]
              intro q
              rw [List.any_eq_false] at q
              refine h ?_
              rw [List.map_eq_nil_iff, List.filter_eq_nil_iff]
              exact q
            · exact hI k (by omega) mk hmk'
        · have : M.d.all (gb M.b ((PP stem ring).drop stem.length)) = true := List.all_eq_true.mpr fun mark hm => by
            obtain ⟨k, hk⟩ := List.mem_iff_getElem?.mp hm
            exact hI k (List.getElem?_eq_some_iff.mp hk).1 mark hk
          rw [this]; rfl
        · have : M.d.all (gb M.b ((PP stem ring).drop stem.length)) = false := by
            rw [← Bool.not_eq_true, List.all_eq_true]
            intro q
            rw [q mark m1] at m2
            cases m2
          rw [this, e1]
          exact ok_some rfl
      · have : ((PP stem ring).all fun p => decide (p ∈ M.b)) = false := by
          rw [← Bool.not_eq_true, List.all_eq_true]
          intro q
          exact hq (of_decide_eq_true (q p hp))
        rw [this, h1]
        exact ok_some rfl
theorem abc_size : (("abcdefghijklmnopqrstuvwxyz" : Str).cps.toList).length = 26 := by decide +kernel
theorem letters_ok (c : Int) {P : List Str → Prop} (hp : ∀ l : List Str, l.length = 4 → (∀ y ∈ l, y.length = 1) → P l) : OK (m_law_letters c) P := by
  unfold m_law_letters
  simp only [Option.bind_assoc, bindS, bind_self]
  refine ok_mapR (R := fun _ b => b.length = 1) (fun a _ => ok_bind (ok_at (Int.emod_nonneg _ (by decide)) (by rw [abc_size]; exact Int.emod_lt_of_pos _ (by decide)) fun z _ => ok_some rfl)) fun bs h1 h2 _ => hp bs h1 fun y hy => ?_
  obtain ⟨a, _, h⟩ := h2 y hy
  exact h
theorem chosen_ok (c : Int) (m : Nat) (hm : m ≤ 100) {P : List Int → Prop} (hp : ∀ l : List Int, l.length ≤ m → (∀ n ∈ l, 0 ≤ n ∧ n < (m : Int)) → P l) : OK (m_law_chosen c (m : Int)) P := by
  have hs : sizeLine = 16777216 := sizeLine_eq
  unfold m_law_chosen
  simp only [Option.bind_assoc, bindS, bind_self]
  refine ok_bind (ok_rng (n := m) (by omega) (by omega) (by omega) ?_)
  refine ok_bind (ok_for' (fun i (s : Int × List Int) => s.2.length ≤ i ∧ ∀ n ∈ s.2, 0 ≤ n ∧ n < (i : Int)) ⟨Nat.le_refl _, fun n hn => (by cases hn)⟩ (fun i a s ha ⟨h1, h2⟩ => ?_) fun s ⟨h1, h2⟩ => ok_some (hp _ (by rw [rng_len] at h1; exact h1) fun n hn => by rw [rng_len] at h2; exact h2 n hn))
  obtain ⟨hi, rfl⟩ := rng_at ha
  have up : ∀ n ∈ s.2, 0 ≤ n ∧ n < ((i + 1 : Nat) : Int) := fun n hn => by have := h2 n hn; omega
  refine ok_by (P := fun z : List Int => z.length ≤ i + 1 ∧ ∀ n ∈ z, 0 ≤ n ∧ n < ((i + 1 : Nat) : Int)) (ok_cond (fun _ => ok_push (by omega) ⟨?_, fun n hn => ?_⟩) fun _ => ok_some ⟨by omega, up⟩) fun z ⟨z1, z2⟩ => ok_some ⟨_, rfl, z1, z2⟩
  · rw [List.length_append, List.length_singleton]; omega
  · rcases List.mem_append.mp hn with h | h
    · exact up n h
    · rw [List.mem_singleton.mp h]; omega
theorem lit_ok (letters : List Str) (h4 : letters.length = 4) (h1 : ∀ y ∈ letters, y.length = 1) (bits : Int) : OK (m_law_lit letters bits) fun _ => True := by
  have hs : sizeLine = 16777216 := sizeLine_eq
  unfold m_law_lit
  simp only [Option.bind_assoc, bindS, bind_self]
  have hlen : (sortS letters).length = 4 := by rw [(sortS_perm letters).length_eq, h4]
  refine ok_bind ⟨_, if_pos (by omega), ok_bind (ok_for' (fun i (s : Int × Str) => s.2.length ≤ i) (Nat.zero_le _) (fun i a s ha hI => ?_) fun s _ => ok_some trivial)⟩
  have hi := (List.getElem?_eq_some_iff.mp ha).1
  have ha1 := h1 a ((sortS_perm letters).mem_iff.mp (List.mem_of_getElem? ha))
  refine ok_by (P := fun z : Str => z.length ≤ i + 1) (ok_cond (fun _ => ok_catS (by omega) (by rw [len_app]; omega)) fun _ => ok_some (by omega)) fun z hz => ok_some ⟨_, rfl, hz⟩
theorem states_ok (c : Int) {P : Int → Prop} (hp : ∀ m : Nat, 1 ≤ m → m ≤ 8 → P (m : Int)) : OK (m_law_states c) P := by
  unfold m_law_states
  simp only [bindS]
  have a0 := Int.emod_nonneg c (b := 8) (by decide)
  have a1 := Int.emod_lt_of_pos c (b := 8) (by decide)
  have b0 := Int.emod_nonneg c (b := 4) (by decide)
  have b1 := Int.emod_lt_of_pos c (b := 4) (by decide)
  refine ok_cond (fun _ => ok_some ?_) fun _ => ok_some ?_
  · have := hp (1 + c % 8).toNat (by omega) (by omega)
    rwa [Int.toNat_of_nonneg (by omega)] at this
  · have := hp (1 + c % 4).toNat (by omega) (by omega)
    rwa [Int.toNat_of_nonneg (by omega)] at this
theorem machine_ok (s : Scr) (letters : List Str) (h4 : letters.length = 4) (h1 : ∀ y ∈ letters, y.length = 1) {P : Mac → Prop} (hp : ∀ M : Mac, (∀ mark ∈ M.d, Ok1 M.b mark) → P M) : OK (m_law_machine s letters) P := by
  have hs : sizeLine = 16777216 := sizeLine_eq
  unfold m_law_machine
  simp only [Option.bind_assoc, bindS, bind_self]
  refine ok_bind (cell_ok s 1 (by decide) (by decide) fun c1 => ok_bind (states_ok c1 fun m m1 m8 => ok_bind (cell_ok s 2 (by decide) (by decide) fun c2 => ?_)))
  refine ok_by (P := fun z : Int => 1 ≤ z) (ok_cond (fun _ => ok_mul (.inl ⟨by omega, by omega⟩) ?_) fun _ => ok_some (by omega)) fun most hmost => ?_
  · have : (1 : Int) * 1 ≤ (m : Int) * (m : Int) := Int.mul_le_mul (by omega) (by omega) (by decide) (by omega)
    omega
  · refine ok_bind (cell_ok s 2 (by decide) (by decide) fun c2' => ?_)
    have hpos : (0 : Int) < (if most < 24 then most else 24) + 1 := by split <;> omega
    have hle : (if most < 24 then most else 24) + 1 ≤ (25 : Int) := by split <;> omega
    refine ok_bind (ok_mod hpos ?_)
    have a0 := Int.emod_nonneg c2' (b := (if most < 24 then most else 24) + 1) (by omega)
    have a1 := Int.emod_lt_of_pos c2' hpos
    obtain ⟨n, hn⟩ := Int.eq_ofNat_of_zero_le a0
    rw [hn] at a1 ⊢
    refine ok_bind (ok_rng (n := n) (by omega) (by omega) (by omega) ?_)
    refine ok_bind (ok_for' (fun i (w : List (Int × Int)) => w.length ≤ i) (Nat.zero_le _) (fun i a w ha hI => ?_) fun W hW => ?_)
    · obtain ⟨hi, rfl⟩ := rng_at ha
      refine ok_bind (cell_ok s _ (by omega) (by omega) fun ck => ok_bind (ok_mod (by omega) (ok_bind (ok_mod (by omega) ?_))))
      refine ok_by (P := fun _ => True) (ok_cond (fun _ => ok_bind (ok_mod (by omega) (ok_some trivial))) fun _ => ok_some trivial) fun way _ => ?_
      exact ok_cond (fun _ => ok_bind (ok_push (by omega) (ok_some ⟨_, rfl, by rw [List.length_append, List.length_singleton]; omega⟩))) fun _ => ok_some ⟨_, rfl, by omega⟩
    · rw [rng_len] at hW
      refine ok_bind (ok_rng (n := m) (by omega) (by omega) (by omega) ?_)
      refine ok_bind (ok_mapR (R := fun _ _ => True) (fun a ha => ?_) fun lits _ _ _ => ?_)
      · obtain ⟨k, hk, rfl⟩ := List.mem_map.mp ha
        have := List.mem_range.mp hk
        exact ok_bind (cell_ok s _ (by omega) (by omega) fun ck => lit_ok letters h4 h1 _)
      · refine ok_bind (cell_ok s 3 (by decide) (by decide) fun c3 => ok_bind (chosen_ok c3 m (by omega) fun st s1 s2 => ok_bind (cell_ok s 3 (by decide) (by decide) fun c3' => ?_)))
        refine ok_by (P := fun _ => True) (ok_cond (fun _ => ⟨_, if_pos (by omega), trivial⟩) fun _ => ok_some trivial) fun starts _ => ?_
        refine ok_bind (cell_ok s 4 (by decide) (by decide) fun c4 => ?_)
        have d0 := Int.emod_nonneg c4 (b := 4) (by decide)
        have d1 := Int.emod_lt_of_pos c4 (b := 4) (by decide)
        obtain ⟨q, hq⟩ := Int.eq_ofNat_of_zero_le d0
        rw [hq] at d1 ⊢
        refine ok_bind (ok_rng (n := q) (by omega) (by omega) (by omega) ?_)
        refine ok_bind (ok_mapR (R := fun _ b => Ok1 W b) (fun a ha => ?_) fun marks _ hm _ => ok_some (hp _ fun mark hmk => ?_))
        · obtain ⟨k, hk, rfl⟩ := List.mem_map.mp ha
          have := List.mem_range.mp hk
          exact ok_bind (cell_ok s _ (by omega) (by omega) fun ck => chosen_ok ck W.length (by omega) fun l _ h => h)
        · obtain ⟨_, _, h⟩ := hm mark hmk
          exact h
theorem cut_le {α : Type} (l : List α) (lo hi : Option Int) : (cutA l lo hi).length ≤ l.length := by
  unfold cutA
  rw [List.length_take, List.length_drop]
  omega
theorem strolled_ok (s : Scr) (M : Mac) {P : List Int × List Int → Prop} (hp : ∀ p : List Int × List Int, p.1.length ≤ 20 → p.2.length ≤ 20 → P p) : OK (m_law_strolled s M 40) P := by
  have hs : sizeLine = 16777216 := sizeLine_eq
  unfold m_law_strolled
  simp only [Option.bind_assoc, bindS, bind_self]
  refine ok_by (P := fun z : List Int => z.length = 1) (ok_cond (fun h => ?_) fun _ => ok_some rfl) fun z hz => ?_
  · have hne : M.c ≠ [] := by simpa using h
    have hl : (0 : Int) < (M.c.length : Int) := by have := List.length_pos_iff.mpr hne; omega
    exact ok_bind (cell_ok s 40 (by decide) (by decide) fun c => ok_bind (ok_mod hl (ok_bind (ok_at (Int.emod_nonneg _ (by omega)) (Int.emod_lt_of_pos _ hl) fun x _ => ok_some rfl))))
  · refine ok_bind (ok_rng (n := 14) (by omega) (by omega) (by omega) ?_)
    refine ok_bind (ok_for' (fun i (w : List Int) => 1 ≤ w.length ∧ w.length ≤ i + 1) ⟨by omega, by omega⟩ (fun i a w ha ⟨h1, h2⟩ => ?_) fun w ⟨h1, h2⟩ => ?_)
    · obtain ⟨hi, rfl⟩ := rng_at ha
      have hne : w ≠ [] := List.length_pos_iff.mp (by omega)
      have eL : atI w (-(1 : Int)) = some (w.getLast hne) := OK.eq (ok_last hne rfl)
      simp only [eL, bindS]
      refine ok_bind (ok_comp (c := fun way : Int × Int => decide (way.1 = w.getLast hne)) (g := fun way : Int × Int => way.2) (fun _ _ => rfl) (fun _ _ _ => rfl) ?_)
      generalize (M.b.filter fun way : Int × Int => decide (way.1 = w.getLast hne)).map (fun way : Int × Int => way.2) = outs
      refine ok_cond (fun h => ?_) fun _ => ok_some ⟨_, rfl, h1, by omega⟩
      have ho : outs ≠ [] := by simpa using h
      have hl : (0 : Int) < (outs.length : Int) := by have := List.length_pos_iff.mpr ho; omega
      exact ok_bind (cell_ok s _ (by omega) (by omega) fun c => ok_bind (ok_mod hl (ok_bind (ok_at (Int.emod_nonneg _ (by omega)) (Int.emod_lt_of_pos _ hl) fun x _ => ok_bind (ok_push (by omega) (ok_some ⟨_, rfl, by rw [List.length_append, List.length_singleton]; omega, by rw [List.length_append, List.length_singleton]; omega⟩))))))
    · rw [rng_len] at h2
      refine ok_bind (ok_while (fun q : Int => 0 ≤ q ∧ q < (w.length : Int)) (fun _ => False) (fun _ => False) (fun q => q.toNat) ⟨by omega, by omega⟩ (by omega) (fun q ⟨q0, q1⟩ => ?_) (fun _ h => h.elim) fun _ h => h.elim)
      have fin : OK ((atI w q).bind fun t => (idxZ w t).bind fun b => some ((cutA w none (some b)), (cutA w (some b) (some q)))) P := by
        refine ok_bind (ok_at q0 q1 fun x hx => ok_bind ⟨_, if_pos ⟨List.mem_of_getElem? hx, by omega⟩, ok_some (hp _ ?_ ?_)⟩)
        · exact Nat.le_trans (cut_le ..) (by omega)
        · exact Nat.le_trans (cut_le ..) (by omega)
      refine ok_cond (fun h => ?_) fun h => ok_some ?_
      · have h := of_decide_eq_true h
        refine ok_bind (ok_at q0 q1 fun x _ => ok_some ?_)
        by_cases hb : (!decide (x ∈ cutA w none (some q))) = true
        · rw [if_pos hb]
          exact ok_some ⟨⟨by omega, by omega⟩, by omega⟩
        · rw [if_neg hb]
          exact fin
      · rw [if_neg Bool.false_ne_true]
        exact fin
theorem spoiled_ok (a b : List Int) (ha : a.length ≤ 20) (hb : b.length ≤ 20) (way c : Int) {P : List Int × List Int → Prop} (hp : ∀ p : List Int × List Int, p.1.length ≤ 326 → p.2.length ≤ 326 → P p) : OK (m_law_spoiled a b way c) P := by
  have hs : sizeLine = 16777216 := sizeLine_eq
  unfold m_law_spoiled
  simp only [Option.bind_assoc, bindS, bind_self]
  have ec : catL a b = some (a ++ b) := if_pos (by omega)
  have ec2 : catL b b = some (b ++ b) := if_pos (by omega)
  simp only [ec, ec2, bindS]
  have hl : (a ++ b).length = a.length + b.length := List.length_append
  refine ok_by (P := fun _ => True) (ok_cond (fun h => ?_) fun _ => ok_some trivial) fun at_ _ => ?_
  · have hne : a ++ b ≠ [] := fun e => by rw [e] at h; simp at h
    exact ok_mod (by have := List.length_pos_iff.mpr hne; omega) trivial
  · refine ok_bind (ok_at (Int.emod_nonneg _ (by decide)) (Int.emod_lt_of_pos _ (b := 12) (by decide)) fun new _ => ?_)
    refine ok_cond (fun _ => ok_some (hp _ (by dsimp only; omega) (Nat.zero_le _))) fun _ => ok_cond (fun _ => ok_some (hp _ (by dsimp only; omega) (by dsimp only; rw [List.length_append]; omega))) fun _ => ok_cond (fun _ => ok_some (hp _ (by dsimp only; omega) (by dsimp only; omega))) fun _ => ?_
    have three : ∀ (l : List Int) (x y : Option Int), l.length ≤ 100 → OK ((catL (cutA l none x) [new]).bind fun t => catL t (cutA l y none)) fun z => z.length ≤ 2 * l.length + 1 := fun l x y hl => by
      have c1 := cut_le l none x
      have c2 := cut_le l y none
      refine ok_bind (ok_catL (by rw [List.length_singleton]; omega) (ok_catL (by rw [List.length_append, List.length_singleton]; omega) ?_))
      rw [List.length_append, List.length_append, List.length_singleton]
      omega
    refine ok_by (P := fun z : List Int => z.length ≤ 81) (ok_cond (fun _ => (three (a ++ b) _ _ (by omega)).mono fun z hz => by omega) fun _ => ok_some (by omega)) fun z1 h1 => ?_
    refine ok_by (P := fun z : List Int => z.length ≤ 163) (ok_cond (fun _ => (three z1 _ _ (by omega)).mono fun z hz => by omega) fun _ => ok_some (by omega)) fun z2 h2 => ?_
    refine ok_by (P := fun z : List Int => z.length ≤ 326 ∧ True) (ok_cond (fun _ => ?_) fun _ => ok_some ⟨by omega, trivial⟩) fun z3 h3 => ok_some (hp _ ?_ ?_)
    · have c1 := cut_le z2 none (some at_)
      have c2 := cut_le z2 (some (at_ + 1)) none
      refine ok_catL (by omega) ⟨?_, trivial⟩
      rw [List.length_append]
      omega
    · exact Nat.le_trans (cut_le ..) h3.1
    · exact Nat.le_trans (cut_le ..) h3.1
theorem law_true (ns : List Int) (hl : ns.length ≤ 63) : m_law ⟨ns⟩ = some true := by
  refine OK.eq ?_
  unfold m_law
  simp only [Option.bind_assoc, bindS, bind_self]
  refine ok_bind (cell_ok _ 0 (by decide) (by decide) fun c0 => ok_bind (letters_ok _ fun ls l4 l1 => ok_bind (machine_ok _ ls l4 l1 fun M hM => ok_bind (strolled_ok _ M fun pq p20 q20 => ok_bind (cell_ok _ 60 (by decide) (by decide) fun c60 => ?_)))))
  refine ok_by (P := fun z : List Int × List Int => z.1.length ≤ 326 ∧ z.2.length ≤ 326) (ok_cond (fun _ => ok_bind (cell_ok _ 61 (by decide) (by decide) fun c61 => ok_bind (cell_ok _ 60 (by decide) (by decide) fun c60' => ?_))) fun _ => ok_some ⟨by dsimp only; omega, by dsimp only; omega⟩) fun z ⟨z1, z2⟩ => ?_
  · exact ok_by (P := fun z : List Int × List Int => z.1.length ≤ 326 ∧ z.2.length ≤ 326) (spoiled_ok _ _ p20 q20 _ _ fun p h1 h2 => ⟨h1, h2⟩) fun p hp => ok_some hp
  · refine ok_bind (ok_map (g := fun mark : List Int => mark) (fun _ _ => rfl) ?_)
    have e : (M.d.map fun mark : List Int => mark) = M.d := List.map_id' _
    have e4 : (T4.mk M.a M.b M.c M.d : Mac) = M := by cases M; rfl
    rw [e, e4]
    have hB : ∀ mark ∈ (T4.mk M.a M.b M.c ([] : List (List Int)) : Mac).d, Ok1 (T4.mk M.a M.b M.c ([] : List (List Int)) : Mac).b mark := fun mark h => (by cases h)
    simp only [walked_eq M hM z.1 z.2 (by omega), walk_eq M hM z.1 z.2 (by omega), walked_eq _ hB z.1 z.2 (by omega), walk_eq _ hB z.1 z.2 (by omega), walked_eq M hM z.2 z.1 (by omega), walk_eq M hM z.2 z.1 (by omega), bindS]
    refine ok_cond (fun h => by simp at h) fun _ => ok_cond (fun h => by simp at h) fun _ => ok_cond (fun h => by simp at h) fun _ => ok_some (by simp)
end My

set_option Elab.async false
set_option linter.all false
set_option maxRecDepth 100000
set_option maxHeartbeats 4000000
namespace My
open PySem PySem.Spec PyProof.Rows L2
theorem law_imp {K : PySem.W.Frag} {vs : List V} {H : Hp} {Q : VK} {E : XK} (h : sp_law K vs H Q E) : spM K mm_law vs H Q E := by
  obtain ⟨a, ns, rfl, hS, hl, q⟩ := h
  exact ⟨H, (⟨ns⟩, ()), true, Same.refl H, ⟨.ref a, [], rfl, ⟨a, rfl, hS⟩, rfl⟩, law_true ns hl, fun v G2 H2 x r => by cases r; exact q H2⟩
set_option maxHeartbeats 1000000 in
theorem all_mk {l : PySem.W.OpenLaw} {w : World} {K : PySem.W.Frag} {h : Heap} {mg : Str → Option Value} {fa : Addr} (X : K.In h) (G : h.Ns mainGlobals mg) (hfa : mg "law" = some (.ref fa))
    {f0 f1 f2 f3 f4 f5 f6 f7 f8 f9 f10 f11 f12 : Addr} {od0 an0 od1 an1 od2 an2 od3 an3 od4 an4 od5 an5 od6 an6 od7 an7 od8 an8 od9 an9 od10 an10 od11 an11 od12 an12 : Option Addr} {sl0 sl1 sl2 sl3 sl4 sl5 sl6 sl7 sl8 sl9 sl10 sl11 sl12 : Array (Option Value)} {oc0 kV0 dc0 pm0 cd0 ct0 oc1 kV1 dc1 pm1 cd1 ct1 oc2 kV2 dc2 pm2 cd2 ct2 oc3 kV3 dc3 pm3 cd3 ct3 oc4 kV4 dc4 pm4 cd4 ct4 oc5 kV5 dc5 pm5 cd5 ct5 oc6 kV6 dc6 pm6 cd6 ct6 oc7 kV7 dc7 pm7 cd7 ct7 oc8 kV8 dc8 pm8 cd8 ct8 oc9 kV9 dc9 pm9 cd9 ct9 oc10 kV10 dc10 pm10 cd10 ct10 oc11 kV11 dc11 pm11 cd11 ct11 oc12 kV12 dc12 pm12 cd12 ct12 : Value}
    (a0 : PySem.W.nsIn K mainGlobals "steps_along" = some (some (.ref f0))) (l0 : K.lookup f0 = some ⟨oc0, od0, .func (PySem.W.fnOf "steps_along" "steps_along" (defArgs s_steps_along) (defBody s_steps_along) (defScope s_steps_along) .none kV0 dc0 pm0 an0 cd0 ct0), sl0⟩) (c0 : PySem.W.codeIn K cd0 "steps_along" = true) (k0 : PySem.W.keepIn K (.ref f0) = true)
    (a1 : PySem.W.nsIn K mainGlobals "is_gone" = some (some (.ref f1))) (l1 : K.lookup f1 = some ⟨oc1, od1, .func (PySem.W.fnOf "is_gone" "is_gone" (defArgs s_is_gone) (defBody s_is_gone) (defScope s_is_gone) .none kV1 dc1 pm1 an1 cd1 ct1), sl1⟩) (c1 : PySem.W.codeIn K cd1 "is_gone" = true) (k1 : PySem.W.keepIn K (.ref f1) = true)
    (a2 : PySem.W.nsIn K mainGlobals "is_walk" = some (some (.ref f2))) (l2 : K.lookup f2 = some ⟨oc2, od2, .func (PySem.W.fnOf "is_walk" "is_walk" (defArgs s_is_walk) (defBody s_is_walk) (defScope s_is_walk) .none kV2 dc2 pm2 an2 cd2 ct2), sl2⟩) (c2 : PySem.W.codeIn K cd2 "is_walk" = true) (k2 : PySem.W.keepIn K (.ref f2) = true)
    (a3 : PySem.W.nsIn K mainGlobals "_law_cell" = some (some (.ref f3))) (l3 : K.lookup f3 = some ⟨oc3, od3, .func (PySem.W.fnOf "_law_cell" "_law_cell" (defArgs s_law_cell) (defBody s_law_cell) (defScope s_law_cell) .none kV3 dc3 pm3 an3 cd3 ct3), sl3⟩) (c3 : PySem.W.codeIn K cd3 "_law_cell" = true) (k3 : PySem.W.keepIn K (.ref f3) = true)
    (a4 : PySem.W.nsIn K mainGlobals "_law_letters" = some (some (.ref f4))) (l4 : K.lookup f4 = some ⟨oc4, od4, .func (PySem.W.fnOf "_law_letters" "_law_letters" (defArgs s_law_letters) (defBody s_law_letters) (defScope s_law_letters) .none kV4 dc4 pm4 an4 cd4 ct4), sl4⟩) (c4 : PySem.W.codeIn K cd4 "_law_letters" = true) (k4 : PySem.W.keepIn K (.ref f4) = true)
    (a5 : PySem.W.nsIn K mainGlobals "_law_lit" = some (some (.ref f5))) (l5 : K.lookup f5 = some ⟨oc5, od5, .func (PySem.W.fnOf "_law_lit" "_law_lit" (defArgs s_law_lit) (defBody s_law_lit) (defScope s_law_lit) .none kV5 dc5 pm5 an5 cd5 ct5), sl5⟩) (c5 : PySem.W.codeIn K cd5 "_law_lit" = true) (k5 : PySem.W.keepIn K (.ref f5) = true)
    (a6 : PySem.W.nsIn K mainGlobals "_law_chosen" = some (some (.ref f6))) (l6 : K.lookup f6 = some ⟨oc6, od6, .func (PySem.W.fnOf "_law_chosen" "_law_chosen" (defArgs s_law_chosen) (defBody s_law_chosen) (defScope s_law_chosen) .none kV6 dc6 pm6 an6 cd6 ct6), sl6⟩) (c6 : PySem.W.codeIn K cd6 "_law_chosen" = true) (k6 : PySem.W.keepIn K (.ref f6) = true)
    (a7 : PySem.W.nsIn K mainGlobals "_law_states" = some (some (.ref f7))) (l7 : K.lookup f7 = some ⟨oc7, od7, .func (PySem.W.fnOf "_law_states" "_law_states" (defArgs s_law_states) (defBody s_law_states) (defScope s_law_states) .none kV7 dc7 pm7 an7 cd7 ct7), sl7⟩) (c7 : PySem.W.codeIn K cd7 "_law_states" = true) (k7 : PySem.W.keepIn K (.ref f7) = true)
    (a8 : PySem.W.nsIn K mainGlobals "_law_machine" = some (some (.ref f8))) (l8 : K.lookup f8 = some ⟨oc8, od8, .func (PySem.W.fnOf "_law_machine" "_law_machine" (defArgs s_law_machine) (defBody s_law_machine) (defScope s_law_machine) .none kV8 dc8 pm8 an8 cd8 ct8), sl8⟩) (c8 : PySem.W.codeIn K cd8 "_law_machine" = true) (k8 : PySem.W.keepIn K (.ref f8) = true)
    (a9 : PySem.W.nsIn K mainGlobals "_law_strolled" = some (some (.ref f9))) (l9 : K.lookup f9 = some ⟨oc9, od9, .func (PySem.W.fnOf "_law_strolled" "_law_strolled" (defArgs s_law_strolled) (defBody s_law_strolled) (defScope s_law_strolled) .none kV9 dc9 pm9 an9 cd9 ct9), sl9⟩) (c9 : PySem.W.codeIn K cd9 "_law_strolled" = true) (k9 : PySem.W.keepIn K (.ref f9) = true)
    (a10 : PySem.W.nsIn K mainGlobals "_law_is_walked" = some (some (.ref f10))) (l10 : K.lookup f10 = some ⟨oc10, od10, .func (PySem.W.fnOf "_law_is_walked" "_law_is_walked" (defArgs s_law_is_walked) (defBody s_law_is_walked) (defScope s_law_is_walked) .none kV10 dc10 pm10 an10 cd10 ct10), sl10⟩) (c10 : PySem.W.codeIn K cd10 "_law_is_walked" = true) (k10 : PySem.W.keepIn K (.ref f10) = true)
    (a11 : PySem.W.nsIn K mainGlobals "_law_spoiled" = some (some (.ref f11))) (l11 : K.lookup f11 = some ⟨oc11, od11, .func (PySem.W.fnOf "_law_spoiled" "_law_spoiled" (defArgs s_law_spoiled) (defBody s_law_spoiled) (defScope s_law_spoiled) .none kV11 dc11 pm11 an11 cd11 ct11), sl11⟩) (c11 : PySem.W.codeIn K cd11 "_law_spoiled" = true) (k11 : PySem.W.keepIn K (.ref f11) = true)
    (a12 : PySem.W.nsIn K mainGlobals "law" = some (some (.ref f12))) (l12 : K.lookup f12 = some ⟨oc12, od12, .func (PySem.W.fnOf "law" "law" (defArgs s_law) (defBody s_law) (defScope s_law) .none kV12 dc12 pm12 an12 cd12 ct12), sl12⟩) (c12 : PySem.W.codeIn K cd12 "law" = true) (k12 : PySem.W.keepIn K (.ref f12) = true)
    (z0 : PySem.W.nsIn K mainGlobals "all" = some none)
    (z1 : PySem.W.nsIn K mainGlobals "any" = some none)
    (z2 : PySem.W.nsIn K mainGlobals "bool" = some none)
    (z3 : PySem.W.nsIn K mainGlobals "isinstance" = some none)
    (z4 : PySem.W.nsIn K mainGlobals "len" = some none)
    (z5 : PySem.W.nsIn K mainGlobals "list" = some none)
    (z6 : PySem.W.nsIn K mainGlobals "min" = some none)
    (z7 : PySem.W.nsIn K mainGlobals "range" = some none)
    (z8 : PySem.W.nsIn K mainGlobals "sorted" = some none)
    (z9 : PySem.W.nsIn K mainGlobals "zip" = some none) :
    ∃ fd : FuncData, (∀ (s : Shared) (v : Value), BindsTo s fd ⟨[v], []⟩ [("_law_script", v)]) ∧ ∀ base : Heap, K.In base → base.Ns mainGlobals mg → FnOk l.prog w K mg base CX0 3 fa fd ["_law_script"] (sp_law K) := by
  have e := hfa.symm.trans (PySem.W.mg_of X G a12)
  cases e
  have T : Txt mg := ⟨PySem.W.mg_none_of X G z0, PySem.W.mg_none_of X G z1, PySem.W.mg_none_of X G z2, PySem.W.mg_none_of X G z3, PySem.W.mg_none_of X G z4, PySem.W.mg_none_of X G z5, PySem.W.mg_none_of X G z6, PySem.W.mg_none_of X G z7, PySem.W.mg_none_of X G z8, PySem.W.mg_none_of X G z9⟩
  have F0 := fun_mk (st := s_steps_along) l0 c0 k0
  have b0 := F0.binds (ps := ["states", "following"]) fun _ _ _ _ _ _ us hl => match us, hl with | [_, _], _ => rfl
  have F1 := fun_mk (st := s_is_gone) l1 c1 k1
  have b1 := F1.binds (ps := ["ways", "mark", "steps"]) fun _ _ _ _ _ _ us hl => match us, hl with | [_, _, _], _ => rfl
  have F2 := fun_mk (st := s_is_walk) l2 c2 k2
  have b2 := F2.binds (ps := ["machine", "stem", "ring"]) fun _ _ _ _ _ _ us hl => match us, hl with | [_, _, _], _ => rfl
  have F3 := fun_mk (st := s_law_cell) l3 c3 k3
  have b3 := F3.binds (ps := ["_law_script", "_law_k"]) fun _ _ _ _ _ _ us hl => match us, hl with | [_, _], _ => rfl
  have F4 := fun_mk (st := s_law_letters) l4 c4 k4
  have b4 := F4.binds (ps := ["_law_cell_here"]) fun _ _ _ _ _ _ us hl => match us, hl with | [_], _ => rfl
  have F5 := fun_mk (st := s_law_lit) l5 c5 k5
  have b5 := F5.binds (ps := ["_law_letters_here", "_law_bits"]) fun _ _ _ _ _ _ us hl => match us, hl with | [_, _], _ => rfl
  have F6 := fun_mk (st := s_law_chosen) l6 c6 k6
  have b6 := F6.binds (ps := ["_law_cell_here", "_law_many"]) fun _ _ _ _ _ _ us hl => match us, hl with | [_, _], _ => rfl
  have F7 := fun_mk (st := s_law_states) l7 c7 k7
  have b7 := F7.binds (ps := ["_law_cell_here"]) fun _ _ _ _ _ _ us hl => match us, hl with | [_], _ => rfl
  have F8 := fun_mk (st := s_law_machine) l8 c8 k8
  have b8 := F8.binds (ps := ["_law_script", "_law_letters_here"]) fun _ _ _ _ _ _ us hl => match us, hl with | [_, _], _ => rfl
  have F9 := fun_mk (st := s_law_strolled) l9 c9 k9
  have b9 := F9.binds (ps := ["_law_script", "_law_machine_here", "_law_at"]) fun _ _ _ _ _ _ us hl => match us, hl with | [_, _, _], _ => rfl
  have F10 := fun_mk (st := s_law_is_walked) l10 c10 k10
  have b10 := F10.binds (ps := ["_law_machine_here", "_law_stem", "_law_ring"]) fun _ _ _ _ _ _ us hl => match us, hl with | [_, _, _], _ => rfl
  have F11 := fun_mk (st := s_law_spoiled) l11 c11 k11
  have b11 := F11.binds (ps := ["_law_stem", "_law_ring", "_law_way", "_law_cell_here"]) fun _ _ _ _ _ _ us hl => match us, hl with | [_, _, _, _], _ => rfl
  have F12 := fun_mk (st := s_law) l12 c12 k12
  refine ⟨PySem.W.fnOf "law" "law" (defArgs s_law) (defBody s_law) (defScope s_law) .none kV12 dc12 pm12 an12 cd12 ct12, fun s v => .of_eq rfl, fun base _ _ => ?_⟩
  have D_law_states : DefOk l.prog w K mg base "_law_states" 1 ["_law_cell_here"] (spM K mm_law_states) := def_of F7 (PySem.W.mg_of X G a7) b7 (ok_law_states F7 T)
  have D_law_chosen : DefOk l.prog w K mg base "_law_chosen" 1 ["_law_cell_here", "_law_many"] (spM K mm_law_chosen) := def_of F6 (PySem.W.mg_of X G a6) b6 (ok_law_chosen F6 T)
  have D_law_cell : DefOk l.prog w K mg base "_law_cell" 1 ["_law_script", "_law_k"] (spM K mm_law_cell) := def_of F3 (PySem.W.mg_of X G a3) b3 (ok_law_cell F3 T)
  have D_law_lit : DefOk l.prog w K mg base "_law_lit" 1 ["_law_letters_here", "_law_bits"] (spM K mm_law_lit) := def_of F5 (PySem.W.mg_of X G a5) b5 (ok_law_lit F5 T)
  have D_law_machine : DefOk l.prog w K mg base "_law_machine" 2 ["_law_script", "_law_letters_here"] (spM K mm_law_machine) := def_of F8 (PySem.W.mg_of X G a8) b8 (ok_law_machine F8 T D_law_states D_law_chosen D_law_cell D_law_lit)
  have D_law_strolled : DefOk l.prog w K mg base "_law_strolled" 2 ["_law_script", "_law_machine_here", "_law_at"] (spM K mm_law_strolled) := def_of F9 (PySem.W.mg_of X G a9) b9 (ok_law_strolled F9 T D_law_cell)
  have D_law_is_walked : DefOk l.prog w K mg base "_law_is_walked" 1 ["_law_machine_here", "_law_stem", "_law_ring"] (spM K mm_law_is_walked) := def_of F10 (PySem.W.mg_of X G a10) b10 (ok_law_is_walked F10 T)
  have D_steps_along : DefOk l.prog w K mg base "steps_along" 1 ["states", "following"] (spM K mm_steps_along) := def_of F0 (PySem.W.mg_of X G a0) b0 (ok_steps_along F0 T)
  have D_is_gone : DefOk l.prog w K mg base "is_gone" 1 ["ways", "mark", "steps"] (spM K mm_is_gone) := def_of F1 (PySem.W.mg_of X G a1) b1 (ok_is_gone F1 T)
  have D_is_walk : DefOk l.prog w K mg base "is_walk" 2 ["machine", "stem", "ring"] (spM K mm_is_walk) := def_of F2 (PySem.W.mg_of X G a2) b2 (ok_is_walk F2 T D_steps_along D_is_gone)
  have D_law_letters : DefOk l.prog w K mg base "_law_letters" 1 ["_law_cell_here"] (spM K mm_law_letters) := def_of F4 (PySem.W.mg_of X G a4) b4 (ok_law_letters F4 T)
  have D_law_spoiled : DefOk l.prog w K mg base "_law_spoiled" 1 ["_law_stem", "_law_ring", "_law_way", "_law_cell_here"] (spM K mm_law_spoiled) := def_of F11 (PySem.W.mg_of X G a11) b11 (ok_law_spoiled F11 T)
  exact (ok_law F12 T D_law_machine D_law_strolled D_law_is_walked D_is_walk D_law_letters D_law_spoiled D_law_cell).imp fun _ _ _ _ h => law_imp h
theorem walk {l : PySem.W.OpenLaw} {q : Program} {loose : List Str} {XP : (Str → Option Value) → Heap → Prop} {YP : World → Heap → Prop} {d : DefRec} {K : Params → PySem.W.Frag} (hn : l.most = some 63) (hdf : d.params.defaults = [])
    (hY : ∀ (w : World) (h : Heap), YP w h → (K w.params).In h)
    (F : ∀ (w : World) (mg : Str → Option Value) (fa : Addr) (h : Heap), (K w.params).In h → h.Ns mainGlobals mg → mg d.name = some (.ref fa) →
      ∃ fd : FuncData, (∀ (s : Shared) (u : Value), BindsTo s fd ⟨[u], []⟩ [("_law_script", u)]) ∧ ∀ base : Heap, (K w.params).In base → base.Ns mainGlobals mg → FnOk l.prog w (K w.params) mg base CX0 3 fa fd ["_law_script"] (sp_law (K w.params))) :
    PySem.W.WalkO q loose XP YP l.row.toRowW d [] (fun f vs => PySem.call f vs) :=
  L2.walk_of (n := 63) (k := 3) (x := "_law_script") (CX := fun _ => CX0) (sp := fun w => sp_law (K w.params)) hn (by decide) hdf ⟨rfl, by decide, by decide⟩ hY F (fun _ _ a ns hl _ hS => ⟨a, ns, rfl, hS, hl, fun _ => rfl⟩) fun _ _ _ _ _ z => z
end My
open PySem PySem.W PyProof.Rows
set_option maxRecDepth 100000 in
set_option maxHeartbeats 0 in
theorem PySem.Challenge.cw_lassoscribe_k51_what_is_a_walk_holds : PySem.Challenge.rw_lassoscribe_k51_what_is_a_walk.Holds := by
  w_on; o_law; k_head; (case hw => w_witness2)
  k_fill
  refine My.walk (l := PySem.Challenge.rw_lassoscribe_k51_what_is_a_walk) rfl rfl (fun w h Y => PySem.W.kIn_of Y) ?F
  case F =>
    intro w mg fa h KX G hmg
    refine' My.all_mk KX G hmg ?a0 ?l0 ?c0 ?k0 ?a1 ?l1 ?c1 ?k1 ?a2 ?l2 ?c2 ?k2 ?a3 ?l3 ?c3 ?k3 ?a4 ?l4 ?c4 ?k4 ?a5 ?l5 ?c5 ?k5 ?a6 ?l6 ?c6 ?k6 ?a7 ?l7 ?c7 ?k7 ?a8 ?l8 ?c8 ?k8 ?a9 ?l9 ?c9 ?k9 ?a10 ?l10 ?c10 ?k10 ?a11 ?l11 ?c11 ?k11 ?a12 ?l12 ?c12 ?k12 ?z0 ?z1 ?z2 ?z3 ?z4 ?z5 ?z6 ?z7 ?z8 ?z9
    (case a0 => k_is)
    (case l0 => k_is)
    (case c0 => k_is)
    (case k0 => k_is)
    (case a1 => k_is)
    (case l1 => k_is)
    (case c1 => k_is)
    (case k1 => k_is)
    (case a2 => k_is)
    (case l2 => k_is)
    (case c2 => k_is)
    (case k2 => k_is)
    (case a3 => k_is)
    (case l3 => k_is)
    (case c3 => k_is)
    (case k3 => k_is)
    (case a4 => k_is)
    (case l4 => k_is)
    (case c4 => k_is)
    (case k4 => k_is)
    (case a5 => k_is)
    (case l5 => k_is)
    (case c5 => k_is)
    (case k5 => k_is)
    (case a6 => k_is)
    (case l6 => k_is)
    (case c6 => k_is)
    (case k6 => k_is)
    (case a7 => k_is)
    (case l7 => k_is)
    (case c7 => k_is)
    (case k7 => k_is)
    (case a8 => k_is)
    (case l8 => k_is)
    (case c8 => k_is)
    (case k8 => k_is)
    (case a9 => k_is)
    (case l9 => k_is)
    (case c9 => k_is)
    (case k9 => k_is)
    (case a10 => k_is)
    (case l10 => k_is)
    (case c10 => k_is)
    (case k10 => k_is)
    (case a11 => k_is)
    (case l11 => k_is)
    (case c11 => k_is)
    (case k11 => k_is)
    (case a12 => k_is)
    (case l12 => k_is)
    (case c12 => k_is)
    (case k12 => k_is)
    (case z0 => k_is)
    (case z1 => k_is)
    (case z2 => k_is)
    (case z3 => k_is)
    (case z4 => k_is)
    (case z5 => k_is)
    (case z6 => k_is)
    (case z7 => k_is)
    (case z8 => k_is)
    (case z9 => k_is)

