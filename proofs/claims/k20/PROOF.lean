import PyProof.Rows.All
import Wide.All
import OpenK.AllK
import Wide.FinOn
import Lean
import PyProof.EqAt
import PyProof.EqKinds
import PyProof.TupleCall
import PyProof.NeKinds
import PyProof.EnumFor
import PyProof.EnumMake
import PyProof.Rows.EnumRows
import PyProof.Rows.Range3
import PyProof.NoPylong
import PyProof.ListRange
import PyProof.TupleOfSeq
import PyProof.TupleOfStr
import PyProof.Draws
import PyProof.ZipIter
import PyProof.Rows.ZipGen
import PyProof.Rows.SortStr
import PyProof.Rows.TupAdd
import PyProof.SetRoads
import PyProof.Rows.SetFrom
import PyProof.StrWalks
import PyProof.CollectWalk
import KE.KDictList
import PyProof.Tail
import PyProof.TupleIter
import PyProof.AttrMiss
import KE.KDictOf
import PySem.Challenge.RW_lassoscribe_k20_a_look
-- CHANGE: your row's module here, as the last of these rows
set_option Elab.async false
set_option linter.all false
set_option maxRecDepth 100000
namespace L2
open PySem PySem.Spec PyProof.Rows

/-- a key: an int or a str -/
abbrev Key := Sum Int Str
def keyIs : Key → Value → Bool
  | .inl k, v => Value.isInt k v
  | .inr x, v => Value.isStrOf x v
def keyH (w : World) : Key → Int
  | .inl k => hashInt k
  | .inr x => hashStr w x
theorem keyIs_shape : ∀ {k : Key} {v : Value}, keyIs k v = true → (∃ i t, k = Sum.inl i ∧ v = Value.int i t) ∨ (∃ x t, k = Sum.inr x ∧ v = Value.str x t)
  | .inl i, v, h => by
    obtain ⟨t, e⟩ := Value.isInt_shape (k := i) (v := v) h
    exact .inl ⟨i, t, rfl, e⟩
  | .inr x, v, h => by
    obtain ⟨t, e⟩ := Value.isStrOf_shape (x := x) (v := v) h
    exact .inr ⟨x, t, rfl, e⟩
theorem keyIs_int (i : Int) (t : Tok) : keyIs (.inl i) (.int i t) = true := by simp [keyIs, Value.isInt]
theorem keyIs_str (x : Str) (t : Tok) : keyIs (.inr x) (.str x t) = true := by simp [keyIs, Value.isStrOf]
theorem key_ll (a b : Int) : decide ((Sum.inl a : Key) = Sum.inl b) = (a == b) := by
  by_cases e : a = b
  · subst e; simp
  · have h : ¬ (Sum.inl a : Key) = Sum.inl b := fun q => e (Sum.inl.inj q)
    rw [decide_eq_false h]
    exact (beq_eq_false_iff_ne.mpr e).symm
theorem key_rr (a b : Str) : decide ((Sum.inr a : Key) = Sum.inr b) = decide (a = b) := by
  by_cases e : a = b
  · subst e; simp
  · have h : ¬ (Sum.inr a : Key) = Sum.inr b := fun q => e (Sum.inr.inj q)
    rw [decide_eq_false h, decide_eq_false e]
theorem key_lr (a : Int) (b : Str) : decide ((Sum.inl a : Key) = Sum.inr b) = false := decide_eq_false (fun q => nomatch q)
theorem key_rl (a : Str) (b : Int) : decide ((Sum.inr a : Key) = Sum.inl b) = false := decide_eq_false (fun q => nomatch q)

def mixKind (prog : Program) (w : World) : PySem.KeyKind prog w Key where
  is := keyIs
  hash := keyH w
  inj := fun v a b ha hb => by
    rcases keyIs_shape ha with ⟨i, t, rfl, rfl⟩ | ⟨x, t, rfl, rfl⟩
    · rcases keyIs_shape hb with ⟨j, u, rfl, e⟩ | ⟨y, u, rfl, e⟩
      · injection e with e1 _; rw [e1]
      · exact nomatch e
    · rcases keyIs_shape hb with ⟨j, u, rfl, e⟩ | ⟨y, u, rfl, e⟩
      · exact nomatch e
      · injection e with e1 _; rw [e1]
  byValue := fun k v h => by
    rcases keyIs_shape h with ⟨i, t, rfl, rfl⟩ | ⟨x, t, rfl, rfl⟩ <;> rfl
  pyHash := fun hv h => by
    rcases keyIs_shape hv with ⟨i, t, rfl, rfl⟩ | ⟨x, t, rfl, rfl⟩
    · exact wpAny_pyHash_int h
    · exact wpAny_pyHash_str h
  eqBool := fun hu hv h => by
    rcases keyIs_shape hu with ⟨i, t, rfl, rfl⟩ | ⟨x, t, rfl, rfl⟩
    · rcases keyIs_shape hv with ⟨j, u, rfl, rfl⟩ | ⟨y, u, rfl, rfl⟩
      · rw [key_ll] at h; exact wpAny_eqBool_int h
      · rw [key_lr] at h; exact SeqAt.EqAt.int_str i t y u _ _ _ _ h
    · rcases keyIs_shape hv with ⟨j, u, rfl, rfl⟩ | ⟨y, u, rfl, rfl⟩
      · rw [key_rl] at h; exact SeqAt.EqAt.str_int x t j u _ _ _ _ h
      · rw [key_rr] at h; exact wpAny_eqBool_str h
  «strs» := fun k x t v h => by
    rcases keyIs_shape h with ⟨i, u, rfl, e⟩ | ⟨y, u, rfl, e⟩
    · exact nomatch e
    · injection e with e1 _
      subst e1
      cases v <;> rfl

theorem mixKind_int (prog : Program) (w : World) (i : Int) (t : Tok) : (mixKind prog w).is (.inl i) (.int i t) = true := keyIs_int i t
theorem mixKind_str (prog : Program) (w : World) (x : Str) (t : Tok) : (mixKind prog w).is (.inr x) (.str x t) = true := keyIs_str x t
end L2

namespace L2
open PySem PySem.Spec PyProof.Rows

/-- a value, without the heap -/
inductive V where
  | non | bl (b : Bool) | int (i : Int) | str (x : Str) | byt (b : Array UInt8) | flt (b : UInt64) | ref (a : Addr) | ty (n : String)
  deriving DecidableEq

def RelV : V → Value → Prop
  | .non, u => u = Value.none
  | .bl b, u => u = Value.bool b
  | .int i, u => ∃ t, u = Value.int i t
  | .str x, u => ∃ t, u = Value.str x t
  | .byt b, u => ∃ t, u = Value.bytes b t
  | .flt b, u => ∃ t, u = Value.float b t
  | .ref a, u => u = Value.ref a
  | .ty n, u => u = Value.type n

abbrev Vals : List V → List Value → Prop := Paired RelV
theorem Vals.length {xs : List V} {us : List Value} (r : Vals xs us) : xs.length = us.length := Paired.length r
theorem Vals.get : ∀ {xs : List V} {us : List Value} {i : Nat} {x : V}, Vals xs us → xs[i]? = some x → ∃ u, us[i]? = some u ∧ RelV x u
  | _, _, _, _, .nil, e => by simp at e
  | _, _, 0, _, .cons r _, e => by simp at e; subst e; exact ⟨_, rfl, r⟩
  | _, _, i + 1, x, .cons _ t, e => by
    obtain ⟨u, h1, h2⟩ := Vals.get (i := i) (x := x) t (by simpa using e)
    exact ⟨u, by simpa using h1, h2⟩
theorem Vals.set {x : V} {u : Value} (r : RelV x u) : ∀ {xs : List V} {us : List Value} (i : Nat), Vals xs us → Vals (xs.set i x) (us.set i u)
  | _, _, _, .nil => .nil
  | _, _, 0, .cons _ t => .cons r t
  | _, _, i + 1, .cons q t => .cons q (Vals.set r i t)
theorem Vals.append : ∀ {xs ys : List V} {us ws : List Value}, Vals xs us → Vals ys ws → Vals (xs ++ ys) (us ++ ws)
  | _, _, _, _, .nil, s => s
  | _, _, _, _, .cons r t, s => .cons r (Vals.append t s)
theorem Vals.take : ∀ {xs : List V} {us : List Value} (n : Nat), Vals xs us → Vals (xs.take n) (us.take n)
  | _, _, 0, _ => .nil
  | _, _, _ + 1, .nil => .nil
  | _, _, n + 1, .cons r t => .cons r (Vals.take n t)
theorem Vals.drop : ∀ {xs : List V} {us : List Value} (n : Nat), Vals xs us → Vals (xs.drop n) (us.drop n)
  | _, _, 0, r => r
  | _, _, _ + 1, .nil => .nil
  | _, _, n + 1, .cons _ t => Vals.drop n t
def RelO : Option V → Option Value → Prop
  | some v, some u => RelV v u
  | none, none => True
  | _, _ => False
def KV {κ : Type} : List (κ × V) → List (κ × Value) → Prop := Paired fun (p : κ × V) (q : κ × Value) => p.1 = q.1 ∧ RelV p.2 q.2

/-- a key of a dict (00_mix): an int or a text -/
def kV : Key → V
  | .inl i => .int i
  | .inr x => .str x

/-- what stands at a tracked address -/
inductive HO where
  /-- a list -/
  | lst (xs : List V)
  /-- a tuple (never changes) -/
  | tup (xs : List V)
  /-- a dict whose keys are ints and texts; one whose keys are tuples of ints and texts (the empty one is both) -/
  | dK (kvs : List (Key × V)) | dT (kvs : List (List Key × V))
  /-- a set of ints: its members, its size -/
  | set (S : Int → Bool) (n : Nat)
  /-- an instance of the class at C, its dict at dx, its attributes -/
  | ins (C dx : Addr) (fs : List (Str × V))
  /-- the dict of the instance at x -/
  | own (x : Addr)
  /-- the dict of an exception -/
  | xd (fs : List (Str × V))
  /-- a bound method, f of x -/
  | met (f x : Addr)
  /-- a range object lo, lo + 1, .. below hi -/
  | rng (lo hi : Int)
  /-- a thing that is known to the object (the script; a dict while a loop walks it): read, never written while it is so -/
  | frz (o : Obj) (u : HO)
  /-- a code object's table -/
  | tbl (ps : Array Value)
  /-- any other thing, by what is true of its one object (a def of one's own: SetO a S n := HO.ext fun h => ..) -/
  | ext (φ : Heap → Prop)

abbrev Hp := Addr → Option HO
def upd (H : Hp) (a : Addr) (o : HO) : Hp := fun b => if b = a then some o else H b
theorem upd_same {H : Hp} {a : Addr} {o : HO} : upd H a o a = some o := by unfold upd; rw [if_pos rfl]
theorem upd_ne {H : Hp} {a b : Addr} {o : HO} (h : b ≠ a) : upd H a o b = H b := by unfold upd; rw [if_neg h]
/-- two objects of different content stand apart -/
theorem ne_of {H : Hp} {a b : Addr} {o u : HO} (h : H a = some o) (h' : H b = some u) (d : o ≠ u) : a ≠ b := by
  intro e; subst e; rw [h] at h'; exact d (Option.some.inj h')
theorem ne_of_none {H : Hp} {a b : Addr} {o : HO} (h : H a = some o) (h' : H b = none) : a ≠ b := by
  intro e; subst e; rw [h] at h'; cases h'

section
variable (P : Program) (w : World)
def ObjOk (H : Hp) (h : Heap) (a : Addr) : HO → Prop
  | .lst xs => xs.length ≤ sizeLine ∧ ∃ (its : List Value) (n : Nat), Vals xs its ∧ h.get? a = some { cls := .type "list", data := .seq its.toArray n }
  | .tup xs => xs.length ≤ sizeLine ∧ ∃ its : List Value, Vals xs its ∧ IsTup h a its.toArray
  | .dK kvs => kvs.length ≤ sizeLine ∧ (a == sysModules) = false ∧ ∃ vs, KV kvs vs ∧ h.DictOf (mixKind P w) a vs
  | .dT kvs => kvs.length ≤ sizeLine ∧ (a == sysModules) = false ∧ ∃ xs : List (List Key × Addr × Value),
      Paired (fun (p : List Key × V) (q : List Key × Addr × Value) => p.1 = q.1 ∧ H q.2.1 = some (.tup (p.1.map kV)) ∧ RelV p.2 q.2.2) kvs xs ∧
      ∃ o es ep, h.get? a = some o ∧ o.ExactDict ∧ o.data = .dict es ep ∧ es.toList = xs.map (entryOfKey (tupleKind (mixKind P w))) ∧ (xs.map (·.1)).Nodup
  | .set S n => h.SetOf (intKind P w) a S n
  | .ins C dx fs => H dx = some (.own a) ∧ fs.length ≤ 1000 ∧ dx ≠ a ∧ h.get? a = some (PySem.W.instObj C dx) ∧
      ∃ mA, h.Ns1 dx mA ∧ (∀ f, RelO (fs.lookup f) (mA f)) ∧ PySem.Within mA (fs.map (·.1))
  | .own _ => ∃ o, h.get? a = some o
  | .xd fs => ∃ mA, h.Ns1 a mA ∧ ∀ f, RelO (fs.lookup f) (mA f)
  | .rng lo hi => ∃ t u v, h.get? a = some { cls := .type "range", data := .fields #[.int lo t, .int hi u, .int 1 v] }
  | .frz o u => h.get? a = some o ∧ ObjOk H h a u
  | .tbl ps => h.get? a = some { cls := .none, data := .fields ps }
  | .met f x => h.get? a = some (PySem.W.methodObj (.ref f) (.ref x))
  | .ext φ => φ h ∧ (∃ o, h.get? a = some o) ∧ ∀ h1 h2 : Heap, φ h1 → (∀ o, h1.get? a = some o → h2.get? a = some o) → φ h2
/-- the abstract heap is held -/
def HOk (H : Hp) (h : Heap) : Prop := ∀ a o, H a = some o → ObjOk P w H h a o
end

section
variable {P : Program} {w : World} {H H' : Hp} {h h' : Heap} {a : Addr} {o : HO}
theorem ObjOk.lt (x : ObjOk P w H h a o) : a < h.objs.size := by
  cases o with
  | lst xs => obtain ⟨_, _, _, _, e⟩ := x; exact Heap.lt_size e
  | tup xs => obtain ⟨_, _, _, p⟩ := x; exact p.lt
  | dK kvs => obtain ⟨_, _, _, _, o, _, _, e, _⟩ := x; exact Heap.lt_size e
  | dT kvs => obtain ⟨_, _, _, _, o, _, _, e, _⟩ := x; exact Heap.lt_size e
  | set S n => obtain ⟨o, _, _, _, e, _⟩ := x; exact Heap.lt_size e
  | ins C dx fs => obtain ⟨_, _, _, e, _⟩ := x; exact Heap.lt_size e
  | own y => obtain ⟨_, e⟩ := x; exact Heap.lt_size e
  | xd fs => obtain ⟨_, ⟨_, _, _, e, _⟩, _⟩ := x; exact Heap.lt_size e
  | rng lo hi => obtain ⟨_, _, _, e⟩ := x; exact Heap.lt_size e
  | frz ob u => obtain ⟨e, _⟩ := x; exact Heap.lt_size e
  | tbl ps => exact Heap.lt_size (show h.get? a = some _ from x)
  | met f y => exact Heap.lt_size (show h.get? a = some _ from x)
  | ext φ => obtain ⟨_, ⟨_, e⟩, _⟩ := x; exact Heap.lt_size e
theorem Paired.mapP {α β : Type} {F G : α → β → Prop} : ∀ {l₁ : List α} {l₂ : List β}, Paired F l₁ l₂ → (∀ a b, F a b → G a b) → Paired G l₁ l₂
  | _, _, .nil, _ => .nil
  | _, _, .cons r t, f => .cons (f _ _ r) (Paired.mapP t f)
theorem Paired.imp' {α β : Type} {F G : α → β → Prop} (f : ∀ a b, F a b → G a b) {l₁ : List α} {l₂ : List β} (r : Paired F l₁ l₂) : Paired G l₁ l₂ := Paired.mapP r f
/-- what an object's description leans on: its own object, its own dict, the tuples -/
theorem ObjOk.stay (x : ObjOk P w H h a o) (k : ∀ b u, (b = a ∨ H b = some (.own a)) → h.get? b = some u → h'.get? b = some u)
    (ho : ∀ b, H b = some (.own a) → H' b = some (.own a)) (ht : ∀ b xs, H b = some (.tup xs) → H' b = some (.tup xs)) : ObjOk P w H' h' a o := by
  induction o with
  | lst xs => obtain ⟨z, its, n, r, e⟩ := x; exact ⟨z, its, n, r, k _ _ (.inl rfl) e⟩
  | tup xs => obtain ⟨z, its, r, ob, e, c⟩ := x; exact ⟨z, its, r, ob, k _ _ (.inl rfl) e, c⟩
  | dK kvs => obtain ⟨z, y, vs, r, ob, es, ep, e, c⟩ := x; exact ⟨z, y, vs, r, ob, es, ep, k _ _ (.inl rfl) e, c⟩
  | dT kvs =>
    obtain ⟨z, y, xs, r, ob, es, ep, e, c⟩ := x
    exact ⟨z, y, xs, Paired.mapP r fun p q z => ⟨z.1, ht _ _ z.2.1, z.2.2⟩, ob, es, ep, k _ _ (.inl rfl) e, c⟩
  | set S n => obtain ⟨ob, es, ep, t, e, c⟩ := x; exact ⟨ob, es, ep, t, k _ _ (.inl rfl) e, c⟩
  | ins C dx fs =>
    obtain ⟨d, z, ne, e, mA, ⟨od, es, ep, e2, c⟩, r⟩ := x
    exact ⟨ho _ d, z, ne, k _ _ (.inl rfl) e, mA, ⟨od, es, ep, k _ _ (.inr d) e2, c⟩, r⟩
  | own y => obtain ⟨ob, e⟩ := x; exact ⟨ob, k _ _ (.inl rfl) e⟩
  | xd fs => obtain ⟨mA, ⟨od, es, ep, e, c⟩, r⟩ := x; exact ⟨mA, ⟨od, es, ep, k _ _ (.inl rfl) e, c⟩, r⟩
  | rng lo hi => obtain ⟨t, u, v, e⟩ := x; exact ⟨t, u, v, k _ _ (.inl rfl) e⟩
  | frz ob u ih => obtain ⟨e, q⟩ := x; exact ⟨k _ _ (.inl rfl) e, ih q⟩
  | tbl ps =>
    have e : h.get? a = some { cls := .none, data := .fields ps } := x
    show h'.get? a = some { cls := .none, data := .fields ps }
    exact k a _ (.inl rfl) e
  | met f y =>
    have e : h.get? a = some (PySem.W.methodObj (.ref f) (.ref y)) := x
    show h'.get? a = some (PySem.W.methodObj (.ref f) (.ref y))
    exact k a _ (.inl rfl) e
  | ext φ => obtain ⟨p, ⟨o, e⟩, st⟩ := x; exact ⟨st _ _ p fun o q => k _ _ (.inl rfl) q, ⟨o, k _ _ (.inl rfl) e⟩, st⟩
theorem HOk.lt (x : HOk P w H h) (e : H a = some o) : a < h.objs.size := (x a o e).lt
theorem HOk.fresh (x : HOk P w H h) (e : h.objs.size ≤ a) : H a = none := by
  cases q : H a with
  | none => rfl
  | some u => exact absurd (Nat.lt_of_lt_of_le (x.lt q) e) (Nat.lt_irrefl _)
/-- every object of the heap is kept -/
theorem HOk.kept (x : HOk P w H h) (k : ∀ b u, h.get? b = some u → h'.get? b = some u) : HOk P w H h' := fun a o e =>
  (x a o e).stay (fun b u _ q => k b u q) (fun _ q => q) fun _ _ q => q
/-- a new object is laid and tracked -/
theorem HOk.laid (x : HOk P w H h) (k : ∀ b u, h.get? b = some u → h'.get? b = some u) (hp : h.objs.size ≤ a) (new : ObjOk P w (upd H a o) h' a o) : HOk P w (upd H a o) h' := fun b u e => by
  have hn := x.fresh hp
  by_cases hb : b = a
  · subst hb; rw [upd_same] at e; cases e; exact new
  · rw [upd_ne hb] at e
    exact (x b u e).stay (fun c v _ q => k c v q) (fun c q => by rw [upd_ne (ne_of_none q hn)]; exact q) fun c xs q => by rw [upd_ne (ne_of_none q hn)]; exact q
end

/-- what may be read as u: it is u, or a known u -/
def Rd (H : Hp) (a : Addr) (u : HO) : Prop := H a = some u ∨ ∃ o, H a = some (.frz o u)
theorem Rd.of {H : Hp} {a : Addr} {u : HO} (h : H a = some u) : Rd H a u := .inl h
theorem Rd.ok {P : Program} {w : World} {H : Hp} {h : Heap} {a : Addr} {u : HO} (r : Rd H a u) (x : HOk P w H h) : ObjOk P w H h a u := by
  rcases r with r | ⟨o, r⟩
  · exact x a u r
  · obtain ⟨_, q⟩ := x a _ r
    exact q
/-- what may be written -/
def Mut : Option HO → Prop
  | some (.lst _) => True
  | some (.dK _) => True
  | some (.dT _) => True
  | some (.set _ _) => True
  | some (.ins _ _ _) => True
  | some (.ext _) => True
  | _ => False
section
variable {P : Program} {w : World} {H : Hp} {h h' : Heap} {x e : Addr} {o' : HO}
/-- the object at e is changed: x itself, or the dict of the instance x -/
theorem HOk.write (ok : HOk P w H h) (mu : Mut (H x)) (he : e = x ∨ H e = some (.own x)) (k : ∀ b u, b ≠ e → h.get? b = some u → h'.get? b = some u) (heo : ∃ u, h'.get? e = some u)
    (new : ObjOk P w (upd H x o') h' x o') : HOk P w (upd H x o') h' := fun b u q => by
  have nown : ∀ c y, H c = some (.own y) → c ≠ x := fun c y r z => by subst z; rw [r] at mu; exact mu
  have ntup : ∀ c xs, H c = some (.tup xs) → c ≠ x := fun c xs r z => by subst z; rw [r] at mu; exact mu
  by_cases hb : b = x
  · subst hb; rw [upd_same] at q; cases q; exact new
  · rw [upd_ne hb] at q
    by_cases hbe : b = e
    · have q' : H b = some (.own x) := by
        rcases he with z | z
        · exact absurd (hbe.trans z) hb
        · rw [hbe]; exact z
      rw [q] at q'; cases q'
      obtain ⟨v, hv⟩ := heo
      exact ⟨v, by rw [hbe]; exact hv⟩
    · refine (ok b u q).stay (fun c v hc r => k c v ?_ r) (fun c r => by rw [upd_ne (nown c b r)]; exact r) fun c xs r => by rw [upd_ne (ntup c xs r)]; exact r
      rcases hc with rfl | hc
      · exact hbe
      · rintro rfl
        rcases he with z | z
        · exact nown c b hc z
        · rw [hc] at z; cases z; exact hb rfl
end

structure Un (fs ex : List Addr) (H H' : Hp) (h h' : Heap) : Prop where
  keep : ∀ b o, h.get? b = some o → H b = none → b ∉ fs → b ∉ ex → h'.get? b = some o
  slot : ∀ b o, h.get? b = some o → H b = none → b ∈ fs → b ∉ ex → ∃ sl, h'.get? b = some { o with slots := sl }
  free : ∀ b o, h.get? b = some o → H b = none → b ∉ ex → H' b = none
  there : ∀ b o, h.get? b = some o → b ∉ ex → ∃ o', h'.get? b = some o'
  tups : ∀ b xs, H b = some (.tup xs) → H' b = some (.tup xs)
  frzs : ∀ b o u, H b = some (.frz o u) → H' b = some (.frz o u)
  tbls : ∀ b ps, H b = some (.tbl ps) → ∃ more, H' b = some (.tbl (ps ++ more))
section
variable {fs fs' ex ex' : List Addr} {H H1 H2 : Hp} {h h1 h2 h' : Heap} {a x e : Addr} {o : HO}
theorem Un.any (u : Un fs ex H H1 h h1) {b : Addr} {ob : Obj} (q : h.get? b = some ob) (n : H b = none) (hx : b ∉ ex) : ∃ sl, h1.get? b = some { ob with slots := sl } := by
  by_cases hb : b ∈ fs
  · exact u.slot b ob q n hb hx
  · exact ⟨ob.slots, u.keep b ob q n hb hx⟩
theorem Un.trans (a : Un fs ex H H1 h h1) (b : Un fs ex H1 H2 h1 h2) : Un fs ex H H2 h h2 where
  keep := fun c ob q n hc hx => b.keep c ob (a.keep c ob q n hc hx) (a.free c ob q n hx) hc hx
  slot := fun c ob q n hc hx => by
    obtain ⟨sl, e1⟩ := a.slot c ob q n hc hx
    obtain ⟨sl', e2⟩ := b.slot c _ e1 (a.free c ob q n hx) hc hx
    exact ⟨sl', e2⟩
  free := fun c ob q n hx => by
    obtain ⟨o', e1⟩ := a.there c ob q hx
    exact b.free c o' e1 (a.free c ob q n hx) hx
  there := fun c ob q hx => by
    obtain ⟨o', e1⟩ := a.there c ob q hx
    exact b.there c o' e1 hx
  tups := fun c xs q => b.tups c xs (a.tups c xs q)
  frzs := fun c ob xs q => b.frzs c ob xs (a.frzs c ob xs q)
  tbls := fun c ps q => by
    obtain ⟨m1, e1⟩ := a.tbls c ps q
    obtain ⟨m2, e2⟩ := b.tbls c _ e1
    exact ⟨m1 ++ m2, by rw [e2, Array.append_assoc]⟩
theorem Un.kept (k : ∀ b u, h.get? b = some u → h'.get? b = some u) : Un fs ex H H h h' :=
  ⟨fun b ob q _ _ _ => k b ob q, fun b ob q _ _ _ => ⟨ob.slots, k b ob q⟩, fun _ _ _ n _ => n, fun b ob q _ => ⟨ob, k b ob q⟩, fun _ _ q => q, fun _ _ _ q => q, fun _ ps q => ⟨#[], by rw [q]; simp⟩⟩
theorem Un.refl : Un fs ex H H h h := Un.kept fun _ _ q => q
theorem Un.laid (k : ∀ b u, h.get? b = some u → h'.get? b = some u) (hp : h.objs.size ≤ a) (hn : H a = none) : Un fs ex H (upd H a o) h h' where
  keep := fun b u q _ _ _ => k b u q
  slot := fun b u q _ _ _ => ⟨u.slots, k b u q⟩
  free := fun b u q n _ => by rw [upd_ne (Nat.ne_of_lt (Nat.lt_of_lt_of_le (Heap.lt_size q) hp))]; exact n
  there := fun b u q _ => ⟨u, k b u q⟩
  tups := fun b xs q => by rw [upd_ne (ne_of_none q hn)]; exact q
  frzs := fun b u xs q => by rw [upd_ne (ne_of_none q hn)]; exact q
  tbls := fun b ps q => ⟨#[], by rw [upd_ne (ne_of_none q hn), q]; simp⟩
theorem Un.write (mu : Mut (H x)) (he : e = x ∨ H e = some (.own x)) (k : ∀ b u, b ≠ e → h.get? b = some u → h'.get? b = some u) (heo : ∃ u, h'.get? e = some u) : Un fs ex H (upd H x o) h h' := by
  have hx : ∀ b, H b = none → b ≠ x := fun b n z => by subst z; rw [n] at mu; exact mu
  have hb : ∀ b, H b = none → b ≠ e := fun b n z => by
    subst z
    rcases he with r | r
    · exact hx b n r
    · rw [n] at r; cases r
  have hm : ∀ b u, H b = some u → ¬ Mut (some u) → b ≠ x := fun b u q nm z => by subst z; rw [q] at mu; exact nm mu
  refine ⟨fun b u q n _ _ => k b u (hb b n) q, fun b u q n _ _ => ⟨u.slots, k b u (hb b n) q⟩, fun b u q n _ => by rw [upd_ne (hx b n)]; exact n, fun b u q _ => ?_,
    fun b xs q => by rw [upd_ne (hm b _ q fun z => z)]; exact q, fun b u xs q => by rw [upd_ne (hm b _ q fun z => z)]; exact q, fun b ps q => ⟨#[], by rw [upd_ne (hm b _ q fun z => z), q]; simp⟩⟩
  by_cases hbe : b = e
  · subst hbe; exact heo
  · exact ⟨u, k b u hbe q⟩
theorem Un.mono (u : Un fs ex H H1 h h1) (hs : ∀ b ∈ fs, b ∈ fs') (hx : ∀ b ∈ ex, b ∈ ex') : Un fs' ex' H H1 h h1 :=
  ⟨fun b ob q n hb he => u.keep b ob q n (fun z => hb (hs b z)) fun z => he (hx b z), fun _ _ q n _ he => u.any q n fun z => he (hx _ z), fun b ob q n he => u.free b ob q n fun z => he (hx b z), fun b ob q he => u.there b ob q fun z => he (hx b z), u.tups, u.frzs, u.tbls⟩
end

def trk (h : Heap) (H : Hp) : List Addr := (List.range h.objs.size).filter fun a => (H a).isSome
def hidT (h : Heap) (H : Hp) : Heap := PySem.W.hideAll h (trk h H)
theorem hidT_size (h : Heap) (H : Hp) : (hidT h H).objs.size = h.objs.size := PySem.W.hideAll_size _ _
theorem hidT_get {h : Heap} {H : Hp} {b : Addr} {o : Obj} (e : h.get? b = some o) (n : H b = none) : (hidT h H).get? b = some o :=
  PySem.W.hideAll_get _ e fun hm => by
    have q : (H b).isSome = true := (List.mem_filter.mp hm).2
    rw [n] at q; simp at q
theorem of_hidT {h : Heap} {H : Hp} {b : Addr} {o : Obj} (e : (hidT h H).get? b = some o) : h.get? b = some o ∧ H b = none := by
  have e' : h.get? b = some o := PySem.W.of_hideAll (trk h H) e
  refine ⟨e', ?_⟩
  cases q : H b with
  | none => rfl
  | some x =>
    have hm : b ∈ trk h H := List.mem_filter.mpr ⟨List.mem_range.mpr (Heap.lt_size e'), by simp [q]⟩
    have z : (hidT h H).get? b = none := PySem.W.hideAll_none (trk h H) hm
    rw [z] at e; cases e

def allNews (g h : Heap) (L : Addr) : List (Addr × Obj) := (List.range h.objs.size).filterMap fun a => if a = L ∨ (g.get? a).isSome = true then none else (h.get? a).map fun o => (a, o)
def rest (g h : Heap) (L d : Addr) : List (Addr × Obj) := (allNews g h L).filter fun p => decide (p.1 ≠ d)
end L2

namespace L2
open PySem PySem.Spec PyProof.Rows

/-- the module's facts, over the base: the heap at the law's entry without what is tracked there -/
structure Mod (K : PySem.W.Frag) (mg : Str → Option Value) (base : Heap) : Prop where
  kin : K.In base
  glob : base.Ns mainGlobals mg
  blt : ∃ mb, base.Ns builtinsNs mb ∧ ∀ x : Str, x ≠ "__name__" → mb x = bootBuiltins x
  nolimit : base.NoLimit

/-- the context: a def's body (or a comprehension's block) running. base: fixed through the whole law; s₀, H₀: the entry; outer: the frames whose slots others may change (a def's callers); stack: all frames that run;
   ex: iterators that were made ahead of the entry and are walked here (a comprehension's); fn: the names whose cells were made at the entry (a def: all; a comprehension's block: its own); calm: not within an except suite; pn: pins that every state bears; xe: what is wanted of an exception that leaves the code -/
structure Cx where
  prog : Program
  w : World
  K : PySem.W.Frag
  mg : Str → Option Value
  base : Heap
  A : Around
  N : List Str
  s₀ : Shared
  H₀ : Hp
  env : Env
  outer : List Env
  stack : List Env
  ex : List Addr
  fn : Str → Bool
  calm : Bool
  pn : List (Addr × Obj)
  xe : Value → Shared → Prop
/-- the callers' frames -/
def frs (l : List Env) : List Addr := l.filterMap (·.frame)
abbrev Cx.fs (X : Cx) : List Addr := frs X.outer

def Vis (sc : Scope) (x : Str) : Prop := sc.names.lookup x = some .local ∨ sc.names.lookup x = some .cell ∨ sc.names.lookup x = some .free
def Loc (sc : Scope) (x : Str) : Prop := sc.names.lookup x = some .local ∨ sc.names.lookup x = some .cell
def Look (env : Env) (h : Heap) (m : Str → Option Value) (x : Str) (u : Value) : Prop :=
  (env.kindOf x = some .local ∧ m x = some u) ∨ ((env.kindOf x = some .cell ∨ env.kindOf x = some .free) ∧ ∃ c, env.cells.lookup x = some c ∧ h.IsCell c (some u))

structure Cx.Ok (X : Cx) : Prop where
  mod : Mod X.K X.mg X.base
  kind : X.env.scope.kind = .function
  glob : X.env.globals = mainGlobals
  blt : X.env.builtins = builtinsNs
  above : X.s₀.heap.objs.size ≤ X.env.locals
  inj : ∀ x y c, X.env.cells.lookup x = some c → X.env.cells.lookup y = some c → x = y
  has : ∀ x, (X.env.kindOf x = some .cell ∨ X.env.kindOf x = some .free) → ∃ c, X.env.cells.lookup x = some c
  cab : ∀ x c, X.fn x = true → X.env.cells.lookup x = some c → X.s₀.heap.objs.size ≤ c
  hd : X.calm = true → X.A.handled = none
  frames : X.A.frames = some X.stack
  stk : X.stack = X.outer ∨ (X.stack = X.env :: X.outer ∧ X.env.frame = some X.env.locals)
  exf : ∀ b ∈ X.ex, b ≠ X.env.locals ∧ ∀ x c, X.env.cells.lookup x = some c → c ≠ b
  bs : ∀ b o, X.base.get? b = some o → X.s₀.heap.get? b = some o ∧ X.H₀ b = none
  bsz : X.base.objs.size ≤ X.s₀.heap.objs.size
  noex : ∀ b o, X.base.get? b = some o → b ∉ X.ex
  exfs : ∀ b ∈ X.ex, b ∉ X.fs
  funs : X.s₀.heap.FunFrames X.base X.outer
  frf : ∀ b ∈ X.fs, X.H₀ b = none

structure Inv (X : Cx) (pins : List (Addr × Obj)) (σ : List (Option V)) (H : Hp) (s : Shared) : Prop where
  ok : X.Ok
  os : s.os = X.s₀.os
  bare : AllBare s.gens
  base : Un X.fs X.ex X.H₀ H X.s₀.heap s.heap
  loc : ∃ m, s.heap.Ns X.env.locals m ∧ ∀ (i : Nat) (x : Str) (v : V), X.N[i]? = some x → σ[i]? = some (some v) → Vis X.env.scope x → ∃ u, RelV v u ∧ Look X.env s.heap m x u
  cell : ∀ x c, X.env.cells.lookup x = some c → ∃ v, s.heap.IsCell c v
  free : H X.env.locals = none
  freeC : ∀ x c, X.env.cells.lookup x = some c → H c = none
  pin : ∀ p ∈ X.pn ++ pins, s.heap.get? p.1 = some p.2 ∧ H p.1 = none ∧ p.1 ≠ X.env.locals ∧ p.1 ∉ X.fs ∧ ∀ v, p.2.data ≠ .cell v
  hok : HOk X.prog X.w H s.heap
  len : σ.length = X.N.length

section
variable {X : Cx} {pins : List (Addr × Obj)} {σ : List (Option V)} {H H' : Hp} {s : Shared} {h' : Heap}

theorem Cx.Ok.nofr (ok : X.Ok) {b : Addr} {o : Obj} (e : X.base.get? b = some o) : b ∉ X.fs := fun hb => by
  have := (ok.funs.mem hb).1
  rw [e] at this; cases this
theorem Inv.bs (I : Inv X pins σ H s) : ∀ b o, X.base.get? b = some o → s.heap.get? b = some o ∧ H b = none := fun b o e =>
  ⟨I.base.keep b o (I.ok.bs b o e).1 (I.ok.bs b o e).2 (I.ok.nofr e) (I.ok.noex b o e), I.base.free b o (I.ok.bs b o e).1 (I.ok.bs b o e).2 (I.ok.noex b o e)⟩
theorem Inv.bk (I : Inv X pins σ H s) : ∀ b o, X.base.get? b = some o → s.heap.get? b = some o := fun b o e => (I.bs b o e).1
theorem Inv.mod (I : Inv X pins σ H s) : Mod X.K X.mg X.base := I.ok.mod
theorem Inv.kIn (I : Inv X pins σ H s) : X.K.In s.heap := I.ok.mod.kin.keeps I.bk
theorem Inv.nolimit (I : Inv X pins σ H s) : s.heap.NoLimit := I.ok.mod.nolimit.keeps I.bk
theorem Inv.lt (I : Inv X pins σ H s) : X.env.locals < s.heap.objs.size := let ⟨_, hn, _⟩ := I.loc; hn.lt
theorem Inv.sz (I : Inv X pins σ H s) : X.s₀.heap.objs.size ≤ s.heap.objs.size := Nat.le_trans I.ok.above (Nat.le_of_lt I.lt)
theorem Inv.nofs (I : Inv X pins σ H s) {a : Addr} (h : s.heap.objs.size ≤ a) : a ∉ X.fs := fun hb => by
  obtain ⟨_, o, ho, _⟩ := I.ok.funs.mem hb
  exact absurd (Nat.lt_of_lt_of_le (Heap.lt_size ho) (Nat.le_trans I.sz h)) (Nat.lt_irrefl _)
theorem Inv.cne (I : Inv X pins σ H s) : ∀ x c, X.env.cells.lookup x = some c → c ≠ X.env.locals := fun x c e z => by
  obtain ⟨v, o, ho, hd⟩ := I.cell x c e
  obtain ⟨m, ⟨o', es, ep, ho', hd', _⟩, _⟩ := I.loc
  rw [z, ho'] at ho; cases ho; rw [hd'] at hd; cases hd
theorem Inv.funs (I : Inv X pins σ H s) : s.heap.FunFrames X.base X.outer := by
  have all : ∀ (l : List Env), (∀ b ∈ frs l, b ∈ X.fs) → X.s₀.heap.FunFrames X.base l → s.heap.FunFrames X.base l := by
    intro l
    induction l with
    | nil => intro _ _; trivial
    | cons env r ih =>
      intro hs hl
      obtain ⟨hk, ⟨L, o, hf, hn, ho, hd⟩, hr⟩ := hl
      have hL : L ∈ X.fs := hs L (by unfold frs; rw [List.filterMap_cons, hf]; exact List.mem_cons_self)
      obtain ⟨sl, e⟩ := I.base.slot L o ho (I.ok.frf L hL) hL fun z => I.ok.exfs L z hL
      exact ⟨hk, ⟨L, _, hf, hn, e, hd⟩, ih (fun b hb => hs b (by unfold frs; rw [List.filterMap_cons, hf]; exact List.mem_cons_of_mem _ hb)) hr⟩
  exact all X.outer (fun _ hb => hb) I.ok.funs

/-- the frames that run, for a call -/
theorem Inv.stack (I : Inv X pins σ H s) : s.heap.FunFrames X.base X.stack := by
  rcases I.ok.stk with e | ⟨e, hf⟩
  · rw [e]; exact I.funs
  · rw [e]
    obtain ⟨m, hn, _⟩ := I.loc
    refine .cons (by rw [I.ok.kind]; decide) hf hn ?_ I.funs
    exact Heap.get?_none_of_le (Nat.le_trans I.ok.bsz I.ok.above)
theorem Inv.stkSub (I : Inv X pins σ H s) : ∀ b ∈ frs X.stack, b ∈ X.env.locals :: X.fs := fun b hb => by
  rcases I.ok.stk with e | ⟨e, hf⟩
  · rw [e] at hb; exact List.mem_cons_of_mem _ hb
  · rw [e] at hb
    unfold frs at hb
    rw [List.filterMap_cons, hf] at hb
    exact hb
theorem Inv.stkFree (I : Inv X pins σ H s) : ∀ b ∈ frs X.stack, H b = none := fun b hb => by
  rcases List.mem_cons.mp (I.stkSub b hb) with e | hb
  · rw [e]; exact I.free
  · obtain ⟨_, o, ho, _⟩ := I.ok.funs.mem hb
    exact I.base.free b o ho (I.ok.frf b hb) fun z => I.ok.exfs b z hb

/-- THE STEP: the untracked objects but the frame and the records at ch are kept (the callers' frames up to slots), the frame's map is kept, the new abstract heap is held -/
theorem Inv.step {g' : Array GenState} {t' : Nat} {d' : Drawn} {ch : List Addr} (I : Inv X pins σ H s)
    (hch : ∀ b ∈ ch, (b ∈ X.ex ∨ X.s₀.heap.objs.size ≤ b) ∧ b ≠ X.env.locals ∧ (∀ x c, X.env.cells.lookup x = some c → c ≠ b) ∧ ∀ p ∈ X.pn ++ pins, p.1 ≠ b)
    (keep : ∀ b o, b ≠ X.env.locals → b ∉ X.fs → b ∉ ch → s.heap.get? b = some o → H b = none → h'.get? b = some o)
    (slot : ∀ b o, b ≠ X.env.locals → b ∈ X.fs → b ∉ ch → s.heap.get? b = some o → H b = none → ∃ sl, h'.get? b = some { o with slots := sl }) (free : ∀ b o, b ∉ ch → s.heap.get? b = some o → H b = none → H' b = none)
    (there : ∀ b o, b ∉ ch → s.heap.get? b = some o → ∃ o', h'.get? b = some o')
    (tups : ∀ b xs, H b = some (.tup xs) → H' b = some (.tup xs)) (frzs : ∀ b o u, H b = some (.frz o u) → H' b = some (.frz o u)) (tbls : ∀ b ps, H b = some (.tbl ps) → ∃ more, H' b = some (.tbl (ps ++ more)))
    (ns : ∀ m, s.heap.Ns X.env.locals m → h'.Ns X.env.locals m) (hok : HOk X.prog X.w H' h') (hg : AllBare g') :
    Inv X pins σ H' { s with heap := h', gens := g', drawn := d', toks := t' } := by
  have neL : ∀ b o, X.s₀.heap.get? b = some o → b ≠ X.env.locals := fun b o e => Nat.ne_of_lt (Nat.lt_of_lt_of_le (Heap.lt_size e) I.ok.above)
  have neC : ∀ b o, X.s₀.heap.get? b = some o → b ∉ X.ex → b ∉ ch := fun b o e hx hb => by
    rcases (hch b hb).1 with z | z
    · exact hx z
    · exact absurd (Nat.lt_of_lt_of_le (Heap.lt_size e) z) (Nat.lt_irrefl _)
  have cellK : ∀ x c, X.env.cells.lookup x = some c → ∀ v, s.heap.IsCell c v → h'.IsCell c v := fun x c e v ⟨o, ho, hd⟩ => by
    have nch : c ∉ ch := fun z => (hch c z).2.2.1 x c e rfl
    by_cases hc : c ∈ X.fs
    · obtain ⟨sl, q⟩ := slot c o (I.cne x c e) hc nch ho (I.freeC x c e)
      exact ⟨_, q, hd⟩
    · exact ⟨o, keep c o (I.cne x c e) hc nch ho (I.freeC x c e), hd⟩
  refine ⟨I.ok, I.os, hg, ⟨fun b o e n hb hx => ?_, fun b o e n hb hx => ?_, fun b o e n hx => ?_, fun b o e hx => ?_, fun b xs e => tups b xs (I.base.tups b xs e), fun b o xs e => frzs b o xs (I.base.frzs b o xs e), fun b ps e => ?_⟩, ?_, fun x c e => ?_, ?_, fun x c e => ?_, fun p hp => ?_, hok, I.len⟩
  · exact keep b o (neL b o e) hb (neC b o e hx) (I.base.keep b o e n hb hx) (I.base.free b o e n hx)
  · obtain ⟨sl, e1⟩ := I.base.slot b o e n hb hx
    obtain ⟨sl', e2⟩ := slot b _ (neL b o e) hb (neC b o e hx) e1 (I.base.free b o e n hx)
    exact ⟨sl', e2⟩
  · obtain ⟨o', e1⟩ := I.base.there b o e hx
    exact free b o' (neC b o e hx) e1 (I.base.free b o e n hx)
  · obtain ⟨o', e1⟩ := I.base.there b o e hx
    exact there b o' (neC b o e hx) e1
  · obtain ⟨m1, e1⟩ := I.base.tbls b ps e
    obtain ⟨m2, e2⟩ := tbls b _ e1
    exact ⟨m1 ++ m2, by rw [e2, Array.append_assoc]⟩
  · obtain ⟨m, hn, hl⟩ := I.loc
    refine ⟨m, ns m hn, fun i x v e1 e2 e3 => ?_⟩
    obtain ⟨u, r, l⟩ := hl i x v e1 e2 e3
    refine ⟨u, r, ?_⟩
    rcases l with l | ⟨k, c, e, z⟩
    · exact .inl l
    · exact .inr ⟨k, c, e, cellK x c e _ z⟩
  · obtain ⟨v, z⟩ := I.cell x c e
    exact ⟨v, cellK x c e v z⟩
  · obtain ⟨m, ⟨o, _, _, ho, _⟩, _⟩ := I.loc
    exact free _ o (fun z => (hch _ z).2.1 rfl) ho I.free
  · obtain ⟨v, o, ho, hd⟩ := I.cell x c e
    exact free c o (fun z => (hch c z).2.2.1 x c e rfl) ho (I.freeC x c e)
  · obtain ⟨e, n, ne, nf, d⟩ := I.pin p hp
    have nch : p.1 ∉ ch := fun z => (hch p.1 z).2.2.2 p hp rfl
    exact ⟨keep p.1 p.2 ne nf nch e n, free p.1 p.2 nch e n, ne, nf, d⟩
/-- .. where the frame's own object is kept too -/
theorem Inv.un {t' : Nat} (I : Inv X pins σ H s) (u : Un X.fs [] H H' s.heap h') (hok : HOk X.prog X.w H' h') : Inv X pins σ H' { s with heap := h', toks := t' } := by
  obtain ⟨m, ⟨o, es, ep, ho, r⟩, _⟩ := id I.loc
  obtain ⟨sl, hL⟩ := u.any ho I.free (by simp)
  exact I.step (g' := s.gens) (d' := s.drawn) (ch := []) (fun _ z => nomatch z) (fun b o _ hb _ e n => u.keep b o e n hb (by simp)) (fun b o _ hb _ e n => u.slot b o e n hb (by simp)) (fun b o _ e n => u.free b o e n (by simp)) (fun b o _ e => u.there b o e (by simp)) u.tups u.frzs u.tbls (fun m' hm => by
    obtain ⟨o', es', ep', ho', r'⟩ := hm
    rw [ho] at ho'; cases ho'
    exact ⟨_, es', ep', hL, r'⟩) hok I.bare
/-- behind a call (or a comprehension's block): the slots of this frame may have changed too, the records at ch may have turned -/
theorem Inv.call {g' : Array GenState} {t' : Nat} {d' : Drawn} {ch : List Addr} (I : Inv X pins σ H s) (u : Un (frs X.stack) ch H H' s.heap h') (hok : HOk X.prog X.w H' h') (hg : AllBare g')
    (hch : ∀ b ∈ ch, (b ∈ X.ex ∨ X.s₀.heap.objs.size ≤ b) ∧ b ≠ X.env.locals ∧ (∀ x c, X.env.cells.lookup x = some c → c ≠ b) ∧ ∀ p ∈ X.pn ++ pins, p.1 ≠ b) :
    Inv X pins σ H' { s with heap := h', gens := g', drawn := d', toks := t' } := by
  obtain ⟨m, ⟨o, es, ep, ho, r⟩, _⟩ := id I.loc
  obtain ⟨sl, hL⟩ := u.any ho I.free fun z => (hch _ z).2.1 rfl
  exact I.step (ch := ch) hch (fun b o hL hb hc e n => u.keep b o e n (fun z => (List.mem_cons.mp (I.stkSub b z)).elim hL hb) hc) (fun b o _ _ hc e n => u.any e n hc) (fun b o hc e n => u.free b o e n hc) (fun b o hc e => u.there b o e hc) u.tups u.frzs u.tbls (fun m' hm => by
    obtain ⟨o', es', ep', ho', r'⟩ := hm
    rw [ho] at ho'; cases ho'
    exact ⟨_, es', ep', hL, r'⟩) hok hg
/-- an untracked record of ours (an iterator) has turned -/
theorem Inv.turned {t' : Nat} {it : Addr} (I : Inv X pins σ H s) (k : ∀ b o, b ≠ it → s.heap.get? b = some o → h'.get? b = some o) (hn : H it = none) (hL : it ≠ X.env.locals)
    (h1 : it ∈ X.ex ∨ X.s₀.heap.objs.size ≤ it) (h2 : ∀ x c, X.env.cells.lookup x = some c → c ≠ it) (h3 : ∀ p ∈ X.pn ++ pins, p.1 ≠ it) : Inv X pins σ H { s with heap := h', toks := t' } := by
  have nit : ∀ b u, H b = some u → b ≠ it := fun b u e z => by rw [z, hn] at e; cases e
  refine I.step (g' := s.gens) (d' := s.drawn) (ch := [it]) (fun b hb => ?_) (fun b o _ _ hc e _ => k b o (fun z => hc (by simp [z])) e) (fun b o _ _ hc e _ => ⟨o.slots, k b o (fun z => hc (by simp [z])) e⟩) (fun _ _ _ _ n => n)
    (fun b o hc e => ⟨o, k b o (fun z => hc (by simp [z])) e⟩) (fun _ _ e => e) (fun _ _ _ e => e) (fun b ps e => ⟨#[], by rw [e]; simp⟩) (fun m hm => ?_) (fun b u e => ?_) I.bare
  · have e : b = it := by simpa using hb
    subst e
    exact ⟨h1, hL, h2, h3⟩
  · obtain ⟨o, es, ep, ho, r⟩ := hm
    exact ⟨o, es, ep, k _ o (Ne.symm hL) ho, r⟩
  · refine (I.hok b u e).stay (fun c v hc q => k c v ?_ q) (fun _ q => q) fun _ _ q => q
    rcases hc with z | z
    · rw [z]; exact nit b u e
    · exact nit c _ z
theorem Inv.tok (I : Inv X pins σ H s) (t : Nat) : Inv X pins σ H { s with toks := t } := I.un (h' := s.heap) (t' := t) Un.refl I.hok
/-- all objects kept -/
theorem Inv.kept {t' : Nat} (I : Inv X pins σ H s) (k : ∀ b u, s.heap.get? b = some u → h'.get? b = some u) : Inv X pins σ H { s with heap := h', toks := t' } := I.un (Un.kept k) (I.hok.kept k)
/-- a new object laid and tracked -/
theorem Inv.laid {a : Addr} {o : HO} {t' : Nat} (I : Inv X pins σ H s) (k : ∀ b u, s.heap.get? b = some u → h'.get? b = some u) (hp : s.heap.objs.size ≤ a) (new : ObjOk X.prog X.w (upd H a o) h' a o) :
    Inv X pins σ (upd H a o) { s with heap := h', toks := t' } := I.un (Un.laid k hp (I.hok.fresh hp)) (I.hok.laid k hp new)
/-- an object written -/
theorem Inv.write {x e : Addr} {o : HO} {t' : Nat} (I : Inv X pins σ H s) (mu : Mut (H x)) (he : e = x ∨ H e = some (.own x)) (k : ∀ b u, b ≠ e → s.heap.get? b = some u → h'.get? b = some u) (heo : ∃ u, h'.get? e = some u)
    (new : ObjOk X.prog X.w (upd H x o) h' x o) : Inv X pins σ (upd H x o) { s with heap := h', toks := t' } := I.un (Un.write mu he k heo) (I.hok.write mu he k heo new)
/-- forgetting slots, pins -/
theorem Inv.weak {σ' : List (Option V)} (I : Inv X pins σ H s) (hl : σ'.length = σ.length) (w : ∀ (i : Nat) v, σ'[i]? = some (some v) → σ[i]? = some (some v)) : Inv X pins σ' H s :=
  ⟨I.ok, I.os, I.bare, I.base, let ⟨m, hn, hl'⟩ := I.loc; ⟨m, hn, fun i x v e1 e2 e3 => hl' i x v e1 (w i v e2) e3⟩, I.cell, I.free, I.freeC, I.pin, I.hok, hl.trans I.len⟩
theorem Inv.pins_of {pins' : List (Addr × Obj)} (I : Inv X pins σ H s) (h : ∀ p ∈ pins', s.heap.get? p.1 = some p.2 ∧ H p.1 = none ∧ p.1 ≠ X.env.locals ∧ p.1 ∉ X.fs ∧ ∀ v, p.2.data ≠ .cell v) : Inv X pins' σ H s :=
  ⟨I.ok, I.os, I.bare, I.base, I.loc, I.cell, I.free, I.freeC, fun p hp => (List.mem_append.mp hp).elim (fun z => I.pin p (List.mem_append_left _ z)) (h p), I.hok, I.len⟩

theorem nodup_ix {N : List Str} (hN : N.Nodup) {i j : Nat} {x : Str} (a : N[i]? = some x) (b : N[j]? = some x) : i = j := by
  obtain ⟨h1, e1⟩ := List.getElem?_eq_some_iff.mp a
  obtain ⟨h2, e2⟩ := List.getElem?_eq_some_iff.mp b
  exact (List.getElem_inj hN).mp (e1.trans e2.symm)

/-- a name is stored; what changed -/
theorem store_ok2 {M : Model} {A : Around} {E : Value → Shared → Prop} {i : Nat} {x : Str} {v : V} {u : Value} {Q : Unit → Shared → Prop} (I : Inv X pins σ H s) (hN : X.N.Nodup) (hi : X.N[i]? = some x) (hx : Loc X.env.scope x) (r : RelV v u)
    (h : ∀ s', Inv X pins (σ.set i (some v)) H s' → (∃ a, Heap.SameBut a s.heap s'.heap ∧ (a = X.env.locals ∨ X.env.cells.lookup x = some a)) → Q () s') (hf : X.fn x = true ∨ X.env.scope.names.lookup x = some .local := by first | exact .inl rfl | exact .inr rfl | assumption) : wpAny M A (storeName X.env x u) Q E s := by
  obtain ⟨m, hn, hl⟩ := id I.loc
  have hcls : (X.env.scope.kind == .class || (X.env.scope.kind == .module && X.env.locals != X.env.globals)) = false := by rw [I.ok.kind]; rfl
  have hiσ : i < σ.length := by rw [I.len]; exact (List.getElem?_eq_some_iff.mp hi).1
  have cne := I.cne
  have tracked : ∀ {a : Addr} {h' : Heap}, (∃ o, s.heap.get? a = some o ∧ H a = none) → Heap.SameBut a s.heap h' → HOk X.prog X.w H h' := fun {a h'} ha hs b ob e => by
    obtain ⟨_, _, hfree⟩ := ha
    refine (I.hok b ob e).stay (fun c w' hc q => (hs.2 c ?_).trans q) (fun _ q => q) fun _ _ q => q
    rintro rfl
    rcases hc with rfl | hc
    · rw [hfree] at e; cases e
    · rw [hfree] at hc; cases hc
  rcases hx with hk | hk
  · refine wpAny_storeName_local hk hn (fun h' hn' hs => ?_) hcls
    obtain ⟨oL, _, _, hoL, _⟩ := id hn
    refine h _ ⟨I.ok, I.os, I.bare, ⟨fun b o e n hb hx => ?_, fun b o e n hb hx => ?_, I.base.free, fun b o e hx => ?_, I.base.tups, I.base.frzs, I.base.tbls⟩, ⟨_, hn', fun j y v' e1 e2 e3 => ?_⟩, fun y c e => ?_, I.free, I.freeC, fun p hp => ?_, tracked ⟨oL, hoL, I.free⟩ hs, by simpa using I.len⟩ ⟨_, hs, .inl rfl⟩
    · exact (hs.2 b (Nat.ne_of_lt (Nat.lt_of_lt_of_le (Heap.lt_size e) I.ok.above))).trans (I.base.keep b o e n hb hx)
    · obtain ⟨sl, e1⟩ := I.base.slot b o e n hb hx
      exact ⟨sl, (hs.2 b (Nat.ne_of_lt (Nat.lt_of_lt_of_le (Heap.lt_size e) I.ok.above))).trans e1⟩
    · obtain ⟨o', e1⟩ := I.base.there b o e hx
      exact ⟨o', (hs.2 b (Nat.ne_of_lt (Nat.lt_of_lt_of_le (Heap.lt_size e) I.ok.above))).trans e1⟩
    · by_cases hj : j = i
      · subst hj
        rw [hi] at e1; cases e1
        rw [List.getElem?_set_self hiσ] at e2
        cases e2
        exact ⟨u, r, .inl ⟨hk, by simp⟩⟩
      · rw [List.getElem?_set_ne (Ne.symm hj)] at e2
        obtain ⟨u', r', q⟩ := hl j y v' e1 e2 e3
        refine ⟨u', r', ?_⟩
        rcases q with ⟨k, e⟩ | ⟨k, c, e, z⟩
        · refine .inl ⟨k, ?_⟩
          have : y ≠ x := fun e => hj (nodup_ix hN e1 (e ▸ hi))
          simp [this, e]
        · exact .inr ⟨k, c, e, z.sameBut hs (cne y c e)⟩
    · obtain ⟨w', z⟩ := I.cell y c e
      exact ⟨w', z.sameBut hs (cne y c e)⟩
    · obtain ⟨e, n, ne, nf, d⟩ := I.pin p hp
      exact ⟨(hs.2 p.1 ne).trans e, n, ne, nf, d⟩
  · have hfn : X.fn x = true := by
      rcases hf with z | z
      · exact z
      · rw [z] at hk; cases hk
    obtain ⟨c, hc⟩ := I.ok.has x (.inl hk)
    obtain ⟨w', z⟩ := I.cell x c hc
    refine wpAny_storeName_cell I.ok.kind hk hc z (fun h' hc' hs => ?_)
    obtain ⟨oc, hoc, hocd⟩ := id z
    refine h { s with heap := h' } ⟨I.ok, I.os, I.bare, ⟨fun b o e n hb hx => ?_, fun b o e n hb hx => ?_, I.base.free, fun b o e hx => ?_, I.base.tups, I.base.frzs, I.base.tbls⟩, ⟨m, hn.sameBut hs (Ne.symm (cne x c hc)), fun j y v' e1 e2 e3 => ?_⟩, fun y c' e => ?_, I.free, I.freeC, fun p hp => ?_, tracked ⟨oc, hoc, I.freeC x c hc⟩ hs, by simpa using I.len⟩ ⟨c, hs, .inr hc⟩
    · exact (hs.2 b (Nat.ne_of_lt (Nat.lt_of_lt_of_le (Heap.lt_size e) (I.ok.cab x c hfn hc)))).trans (I.base.keep b o e n hb hx)
    · obtain ⟨sl, e1⟩ := I.base.slot b o e n hb hx
      exact ⟨sl, (hs.2 b (Nat.ne_of_lt (Nat.lt_of_lt_of_le (Heap.lt_size e) (I.ok.cab x c hfn hc)))).trans e1⟩
    · obtain ⟨o', e1⟩ := I.base.there b o e hx
      exact ⟨o', (hs.2 b (Nat.ne_of_lt (Nat.lt_of_lt_of_le (Heap.lt_size e) (I.ok.cab x c hfn hc)))).trans e1⟩
    · by_cases hj : j = i
      · subst hj
        rw [hi] at e1; cases e1
        rw [List.getElem?_set_self hiσ] at e2
        cases e2
        exact ⟨u, r, .inr ⟨.inl hk, c, hc, hc'⟩⟩
      · rw [List.getElem?_set_ne (Ne.symm hj)] at e2
        obtain ⟨u', r', q⟩ := hl j y v' e1 e2 e3
        refine ⟨u', r', ?_⟩
        rcases q with q | ⟨k, c', e, z'⟩
        · exact .inl q
        · refine .inr ⟨k, c', e, z'.sameBut hs ?_⟩
          rintro rfl
          exact hj (nodup_ix hN e1 (I.ok.inj _ _ _ e hc ▸ hi))
    · by_cases hcc : c' = c
      · subst hcc; exact ⟨_, hc'⟩
      · obtain ⟨w2, z2⟩ := I.cell y c' e
        exact ⟨w2, z2.sameBut hs hcc⟩
    · obtain ⟨e, n, ne, nf, d⟩ := I.pin p hp
      refine ⟨(hs.2 p.1 ?_).trans e, n, ne, nf, d⟩
      intro q
      rw [q, hoc] at e
      have q' : oc = p.2 := Option.some.inj e
      exact d w' (by rw [← q']; exact hocd)
theorem store_ok {M : Model} {A : Around} {E : Value → Shared → Prop} {i : Nat} {x : Str} {v : V} {u : Value} {Q : Unit → Shared → Prop} (I : Inv X pins σ H s) (hN : X.N.Nodup) (hi : X.N[i]? = some x) (hx : Loc X.env.scope x) (r : RelV v u)
    (h : ∀ s', Inv X pins (σ.set i (some v)) H s' → Q () s') (hf : X.fn x = true ∨ X.env.scope.names.lookup x = some .local := by first | exact .inl rfl | exact .inr rfl | assumption) : wpAny M A (storeName X.env x u) Q E s :=
  store_ok2 I hN hi hx r (fun s' I' _ => h s' I') hf
/-- behind a call or a block, the state as it is -/
theorem Inv.call' {s' : Shared} {ch : List Addr} (I : Inv X pins σ H s) (ho : s'.os = s.os) (u : Un (frs X.stack) ch H H' s.heap s'.heap) (hok : HOk X.prog X.w H' s'.heap) (hg : AllBare s'.gens)
    (hch : ∀ b ∈ ch, (b ∈ X.ex ∨ X.s₀.heap.objs.size ≤ b) ∧ b ≠ X.env.locals ∧ (∀ x c, X.env.cells.lookup x = some c → c ≠ b) ∧ ∀ p ∈ X.pn ++ pins, p.1 ≠ b) : Inv X pins σ H' s' := by
  obtain ⟨h', g', d', t', o'⟩ := s'
  have e : o' = s.os := ho
  subst e
  exact I.call (g' := g') (t' := t') (d' := d') u hok hg hch
end

/-- an exception: its class, its own dict's address (where it has one), the abstract heap behind it -/
abbrev XK := Value → Option Addr → Hp → Prop
abbrev St := List (Option V)
abbrev VK := V → Hp → Prop
/-- an expression's reading; a test's; an argument list's -/
abbrev TE := St → Hp → VK → Prop
abbrev TT := St → Hp → (Bool → Hp → Prop) → Prop
abbrev TA := St → Hp → (List V → Hp → Prop) → Prop
/-- what is wanted behind a statement -/
structure Ends where
  nx : St → Hp → Prop
  rt : VK
  bk : St → Hp → Prop := fun _ _ => False
  ct : St → Hp → Prop := fun _ _ => False
abbrev TS := Ends → St → Hp → Prop

def EP (X : Cx) (pins : List (Addr × Obj)) (σ : St) (Q : VK) (u : Value) (s' : Shared) : Prop := ∃ v H', Inv X pins σ H' s' ∧ RelV v u ∧ Q v H'
def TP (X : Cx) (pins : List (Addr × Obj)) (σ : St) (Q : Bool → Hp → Prop) (b : Bool) (s' : Shared) : Prop := ∃ H', Inv X pins σ H' s' ∧ Q b H'
def AP (X : Cx) (pins : List (Addr × Obj)) (σ : St) (Q : List V → Hp → Prop) (us : List Value) (s' : Shared) : Prop := ∃ vs H', Inv X pins σ H' s' ∧ Vals vs us ∧ Q vs H'
def SP (X : Cx) (pins : List (Addr × Obj)) (D : Ends) (f : Flow) (s' : Shared) : Prop :=
  match f with
  | .next => ∃ σ' H', Inv X pins σ' H' s' ∧ D.nx σ' H'
  | .brk => ∃ σ' H', Inv X pins σ' H' s' ∧ D.bk σ' H'
  | .cont => ∃ σ' H', Inv X pins σ' H' s' ∧ D.ct σ' H'
  | .ret u => ∃ v σ' H', Inv X pins σ' H' s' ∧ RelV v u ∧ D.rt v H'

def PE (X : Cx) (e : Expr) (t : TE) : Prop :=
  ∀ (pins : List (Addr × Obj)) (s : Shared) (σ : St) (H : Hp) (Q : VK), Inv X pins σ H s → t σ H Q → wpAny (model X.prog X.w) X.A (eval e X.env) (EP X pins σ Q) X.xe s
def PT (X : Cx) (e : Expr) (t : TT) : Prop :=
  ∀ (pins : List (Addr × Obj)) (s : Shared) (σ : St) (H : Hp) (Q : Bool → Hp → Prop), Inv X pins σ H s → t σ H Q → wpAny (model X.prog X.w) X.A (isTrue e X.env (eval e X.env)) (TP X pins σ Q) X.xe s
/-- a test whatever its 'whole' is (and, or) -/
def PW (X : Cx) (e : Expr) (t : TT) : Prop :=
  ∀ (whole : Sem Value) (pins : List (Addr × Obj)) (s : Shared) (σ : St) (H : Hp) (Q : Bool → Hp → Prop), Inv X pins σ H s → t σ H Q → wpAny (model X.prog X.w) X.A (isTrue e X.env whole) (TP X pins σ Q) X.xe s
theorem PW.pt {X : Cx} {e : Expr} {t : TT} (h : PW X e t) : PT X e t := h _
/-- an argument list (no star), from the left -/
def PA (X : Cx) (es : List Expr) (t : TA) : Prop :=
  ∀ (pos : Pos) (pins : List (Addr × Obj)) (s : Shared) (σ : St) (H : Hp) (Q : List V → Hp → Prop), Inv X pins σ H s → t σ H Q → wpAny (model X.prog X.w) X.A (spliced (backTo pos (starEach es X.env))) (AP X pins σ Q) X.xe s
def PS (X : Cx) (st : Stmt) (t : TS) : Prop :=
  ∀ (pins : List (Addr × Obj)) (s : Shared) (σ : St) (H : Hp) (D : Ends), Inv X pins σ H s → t D σ H → wpAny (model X.prog X.w) X.A (exec st X.env) (SP X pins D) X.xe s
def PSs (X : Cx) (st : List Stmt) (t : TS) : Prop :=
  ∀ (pins : List (Addr × Obj)) (s : Shared) (σ : St) (H : Hp) (D : Ends), Inv X pins σ H s → t D σ H → wpAny (model X.prog X.w) X.A (execs st X.env) (SP X pins D) X.xe s
/-- weaken the end -/
theorem thn {α : Type} {t : Sem α} {Q Q' : α → Shared → Prop} {M : Model} {A : Around} {E : Value → Shared → Prop} {s : Shared} (h : wpAny M A t Q E s) (hQ : ∀ a s, Q a s → Q' a s) : wpAny M A t Q' E s := wpAny_mono h hQ fun _ _ x => x
end L2

namespace L2
open PySem PySem.Spec PyProof.Rows
section
variable {X : Cx}

abbrev tVar (i : Nat) : TE := fun σ H Q => ∃ v, σ[i]? = some (some v) ∧ Q v H
abbrev tC (v : V) : TE := fun _ H Q => Q v H
theorem pe_var {i : Nat} {x : Str} {pos : Pos} (hN : X.N[i]? = some x) (hv : Vis X.env.scope x) (hd : (x == ("__debug__" : Str)) = false := by decide) (hcd : (x == ("__classdict__" : Str)) = false := by decide) : PE X (.Name x pos) (tVar i) := by
  intro pins s σ H Q I h
  obtain ⟨v, e, h⟩ := h
  obtain ⟨m, hn, hl⟩ := I.loc
  obtain ⟨u, r, l⟩ := hl i x v hN e hv
  have fin : EP X pins σ Q u s := ⟨v, H, I, r, h⟩
  rcases l with ⟨hk, hm⟩ | ⟨hk, c, hc, hcell⟩
  · exact wpAny_Name (wpAny_loadName_local I.ok.kind hk hn hm fin) hd
  · rcases hk with hk | hk
    · exact wpAny_Name (wpAny_loadName_cell I.ok.kind hk hc hcell fin) hd
    · exact wpAny_Name (wpAny_loadName_free I.ok.kind hk hc hcell fin hcd) hd
theorem pe_int {i j pos} : PE X (.Constant (.int i) j pos) (tC (.int i)) := fun _ _ _ H _ I h => wpAny_Constant_int ⟨.int i, H, I.tok _, ⟨_, rfl⟩, h⟩
theorem pe_bl {b j pos} : PE X (.Constant (.bool b) j pos) (tC (.bl b)) := fun _ _ _ H _ I h => Constant_bool ⟨.bl b, H, I, rfl, h⟩
theorem pe_str {x j pos} : PE X (.Constant (.str x) j pos) (tC (.str x)) := fun _ _ _ H _ I h => Calls.Constant_str ⟨.str x, H, I.tok _, ⟨_, rfl⟩, h⟩

/-- a global name of the def -/
def Gl (X : Cx) (x : Str) : Prop := X.env.kindOf x = some .globalImplicit
theorem ld_glob {E : Value → Shared → Prop} {pins : List (Addr × Obj)} {s : Shared} {σ : St} {H : Hp} {x : Str} {u : Value} {pos : Pos} {Q : Value → Shared → Prop} (I : Inv X pins σ H s) (hg : Gl X x) (hm : X.mg x = some u) (h : Q u s)
    (hd : (x == ("__debug__" : Str)) = false := by decide) : wpAny (model X.prog X.w) X.A (eval (.Name x pos) X.env) Q E s :=
  Calls.Name_function_global I.ok.kind hg (Calls.loadGlobal_global (by rw [I.ok.glob]; exact I.mod.glob.keeps I.bk) hm h) hd
theorem ld_blt {E : Value → Shared → Prop} {pins : List (Addr × Obj)} {s : Shared} {σ : St} {H : Hp} {x : Str} {u : Value} {pos : Pos} {Q : Value → Shared → Prop} (I : Inv X pins σ H s) (hg : Gl X x) (hm : X.mg x = none) (hv : bootBuiltins x = some u) (h : Q u s)
    (hn : x ≠ "__name__" := by decide) (hd : (x == ("__debug__" : Str)) = false := by decide) : wpAny (model X.prog X.w) X.A (eval (.Name x pos) X.env) Q E s := by
  obtain ⟨mb, h1, h2⟩ := I.mod.blt
  exact Calls.Name_function_global I.ok.kind hg (Calls.loadGlobal_builtin (by rw [I.ok.glob]; exact I.mod.glob.keeps I.bk) hm (by rw [I.ok.blt]; exact h1.keeps I.bk) ((h2 x hn).trans hv) h) hd
theorem pe_bltn {x : Str} {v : V} {u : Value} {pos : Pos} (hg : Gl X x) (hm : X.mg x = none) (hv : bootBuiltins x = some u) (r : RelV v u) (hn : x ≠ "__name__" := by decide) (hd : (x == ("__debug__" : Str)) = false := by decide) : PE X (.Name x pos) (tC v) :=
  fun _ _ _ H _ I h => ld_blt I hg hm hv ⟨v, H, I, r, h⟩ hn hd

/-- two ints -/
def t2I (ta tb : TE) (k : Int → Int → Hp → Prop) : St → Hp → Prop := fun σ H => ta σ H fun x H1 => tb σ H1 fun y H2 => ∃ i j, x = .int i ∧ y = .int j ∧ k i j H2
def tAdd (ta tb : TE) : TE := fun σ H Q => t2I ta tb (fun i j H2 => Q (.int (i + j)) H2) σ H
def tSub (ta tb : TE) : TE := fun σ H Q => t2I ta tb (fun i j H2 => Q (.int (i - j)) H2) σ H
/-- the left factor below 2^64 -/
def tMul (ta tb : TE) : TE := fun σ H Q => t2I ta tb (fun i j H2 => (-(2 ^ 64) < i ∧ i < 2 ^ 64) ∧ Q (.int (i * j)) H2) σ H
variable {a b : Expr} {ta tb : TE} {pos : Pos}
def PC (X : Cx) (op : CmpOp) (a b : Expr) (t : TE) : Prop :=
  ∀ (pins : List (Addr × Obj)) (s : Shared) (σ : St) (H : Hp) (Q : VK), Inv X pins σ H s → t σ H Q →
    wpAny (model X.prog X.w) X.A (eval a X.env) (fun v s₁ => wpAny (model X.prog X.w) X.A (eval b X.env) (fun u s₂ => wpAny (model X.prog X.w) X.A (compareOp op v u) (EP X pins σ Q) X.xe s₂) X.xe s₁) X.xe s
def tCmp (p : Int → Int → Bool) (ta tb : TE) : TE := fun σ H Q => t2I ta tb (fun i j H2 => Q (.bl (p i j)) H2) σ H
abbrev tLt : TE → TE → TE := tCmp fun i j => decide (i < j)
abbrev tLe : TE → TE → TE := tCmp fun i j => decide (i ≤ j)
abbrev tGt : TE → TE → TE := tCmp fun i j => decide (j < i)
abbrev tGe : TE → TE → TE := tCmp fun i j => decide (j ≤ i)
abbrev tEqI : TE → TE → TE := tCmp fun i j => decide (i = j)
abbrev tNeI : TE → TE → TE := tCmp fun i j => !decide (i = j)
/-- is None -/
def tIsN (ta : TE) : TE := fun σ H Q => ta σ H fun x H1 => Q (.bl (decide (x = .non))) H1
def tNotN (ta : TE) : TE := fun σ H Q => ta σ H fun x H1 => Q (.bl (!decide (x = .non))) H1
/-- a comparison as a value, as a test -/
def tB (t : TE) : TT := fun σ H Q => t σ H fun x H1 => ∃ c, x = .bl c ∧ Q c H1
variable {tA tB' : TT} {rest : List Expr}
abbrev tAnd (t u : TT) : TT := fun σ H Q => t σ H fun c H1 => if c = true then u σ H1 Q else Q false H1
abbrev tOr (t u : TT) : TT := fun σ H Q => t σ H fun c H1 => if c = true then Q true H1 else u σ H1 Q
abbrev tNot (t : TT) : TT := fun σ H Q => t σ H fun c H1 => Q (!c) H1
theorem pw_and1 (ha : PT X a tA) : PW X (.BoolOp .And [a] pos) tA := by
  intro wh pins s σ H Q I h
  refine isTrue_and (thn (ha pins s σ H Q I h) fun c s1 e => ?_)
  cases c with
  | true => exact isTrue_and_nil e
  | false => exact e
theorem pw_or1 (ha : PT X a tA) : PW X (.BoolOp .Or [a] pos) tA := by
  intro wh pins s σ H Q I h
  refine isTrue_or (thn (ha pins s σ H Q I h) fun c s1 e => ?_)
  cases c with
  | false => exact isTrue_or_nil e
  | true => exact e
theorem pw_and (ha : PT X a tA) (hb : PW X (.BoolOp .And (b :: rest) pos) tB') : PW X (.BoolOp .And (a :: b :: rest) pos) (tAnd tA tB') := by
  intro wh pins s σ H Q I h
  refine isTrue_and (thn (ha pins s σ H _ I h) fun c s1 ⟨H1, I1, q1⟩ => ?_)
  cases c with
  | true => exact hb wh pins s1 σ H1 Q I1 q1
  | false => exact ⟨H1, I1, q1⟩
theorem pw_or (ha : PT X a tA) (hb : PW X (.BoolOp .Or (b :: rest) pos) tB') : PW X (.BoolOp .Or (a :: b :: rest) pos) (tOr tA tB') := by
  intro wh pins s σ H Q I h
  refine isTrue_or (thn (ha pins s σ H _ I h) fun c s1 ⟨H1, I1, q1⟩ => ?_)
  cases c with
  | true => exact ⟨H1, I1, q1⟩
  | false => exact hb wh pins s1 σ H1 Q I1 q1
theorem pt_not (ha : PT X a tA) : PT X (.UnaryOp .Not a pos) (tNot tA) := by
  intro pins s σ H Q I h
  exact isTrue_not (ha pins s σ H (fun c H1 => Q (!c) H1) I h)
/-- .. as values (bools) -/
abbrev tAndV (ta tb : TE) : TE := fun σ H Q => ta σ H fun x H1 => ∃ c, x = .bl c ∧ if c = true then tb σ H1 Q else Q (.bl false) H1
abbrev tOrV (ta tb : TE) : TE := fun σ H Q => ta σ H fun x H1 => ∃ c, x = .bl c ∧ if c = true then Q (.bl true) H1 else tb σ H1 Q
abbrev tNotV (ta : TE) : TE := fun σ H Q => ta σ H fun x H1 => ∃ c, x = .bl c ∧ Q (.bl (!c)) H1
theorem pe_one {op} {t : TE} (h : PE X a t) : PE X (.BoolOp op [a] pos) t := fun pins s σ H Q I hw => BoolOp_one (h pins s σ H Q I hw)
theorem pe_and (ha : PE X a ta) (hb : PE X (.BoolOp .And (b :: rest) pos) tb) : PE X (.BoolOp .And (a :: b :: rest) pos) (tAndV ta tb) := by
  intro pins s σ H Q I h
  refine BoolOp_and (thn (ha pins s σ H _ I h) fun v s1 ⟨x, H1, I1, r1, q1⟩ => ?_)
  obtain ⟨c, rfl, q1⟩ := q1
  cases r1
  refine wpAny_truthy_bool ?_
  cases c with
  | true => exact hb pins s1 σ H1 Q I1 q1
  | false => exact ⟨.bl false, H1, I1, rfl, q1⟩
theorem pe_or (ha : PE X a ta) (hb : PE X (.BoolOp .Or (b :: rest) pos) tb) : PE X (.BoolOp .Or (a :: b :: rest) pos) (tOrV ta tb) := by
  intro pins s σ H Q I h
  refine BoolOp_or (thn (ha pins s σ H _ I h) fun v s1 ⟨x, H1, I1, r1, q1⟩ => ?_)
  obtain ⟨c, rfl, q1⟩ := q1
  cases r1
  refine wpAny_truthy_bool ?_
  cases c with
  | false => exact hb pins s1 σ H1 Q I1 q1
  | true => exact ⟨.bl true, H1, I1, rfl, q1⟩
theorem pe_not (ha : PE X a ta) : PE X (.UnaryOp .Not a pos) (tNotV ta) := by
  intro pins s σ H Q I h
  refine UnaryOp_ (thn (ha pins s σ H _ I h) fun v s1 ⟨x, H1, I1, r1, q1⟩ => ?_)
  obtain ⟨c, rfl, q1⟩ := q1
  cases r1
  exact not_of (wpAny_truthy_bool ⟨.bl (!c), H1, I1, rfl, q1⟩)
/-- a if t else b -/
def tIf (t : TT) (ta tb : TE) : TE := fun σ H Q => t σ H fun c H1 => if c = true then ta σ H1 Q else tb σ H1 Q
end
end L2

namespace L2
open PySem PySem.Spec PyProof.Rows

def SqL (K : PySem.W.Frag) (H : Hp) (a : Addr) (xs : List V) : Prop :=
  Rd H a (.lst xs) ∨
    ∃ (o : Obj) (its : Array Value) (n : Nat), K.lookup a = some o ∧ o.cls = .type "list" ∧ o.dict = none ∧ o.data = .seq its n ∧ its.size ≤ sizeLine ∧ Vals xs its.toList
def SqT (K : PySem.W.Frag) (H : Hp) (a : Addr) (xs : List V) : Prop :=
  Rd H a (.tup xs) ∨
    ∃ (o : Obj) (its : Array Value) (n : Nat), K.lookup a = some o ∧ o.cls = .type "tuple" ∧ o.data = .seq its n ∧ its.size ≤ sizeLine ∧ Vals xs its.toList
def absV : Value → Option V
  | .none => some .non
  | .bool b => some (.bl b)
  | .int i _ => some (.int i)
  | .str x _ => some (.str x)
  | .bytes b _ => some (.byt b)
  | .float b _ => some (.flt b)
  | .ref a => some (.ref a)
  | .type n => some (.ty n)
  | _ => none
theorem RelV.abs {x : V} {u : Value} (r : RelV x u) : absV u = some x := by
  cases x with
  | non => cases r; rfl
  | bl _ => cases r; rfl
  | int _ => obtain ⟨t, rfl⟩ := r; rfl
  | str _ => obtain ⟨t, rfl⟩ := r; rfl
  | byt _ => obtain ⟨t, rfl⟩ := r; rfl
  | flt _ => obtain ⟨t, rfl⟩ := r; rfl
  | ref _ => cases r; rfl
  | ty _ => cases r; rfl
theorem RelV.inj {x y : V} {u : Value} (r : RelV x u) (q : RelV y u) : x = y := Option.some.inj (r.abs.symm.trans q.abs)
theorem Vals.inj : ∀ {xs ys : List V} {us : List Value}, Vals xs us → Vals ys us → xs = ys
  | _, _, _, .nil, .nil => rfl
  | _, _, _, .cons r t, .cons r' t' => by rw [r.inj r', Vals.inj t t']
section
variable {X : Cx} {pins : List (Addr × Obj)} {σ : St} {H : Hp} {s : Shared} {a : Addr} {xs ys : List V}
theorem SqL.of {K : PySem.W.Frag} (h : H a = some (.lst xs)) : SqL K H a xs := .inl (.inl h)
theorem SqT.of {K : PySem.W.Frag} (h : H a = some (.tup xs)) : SqT K H a xs := .inl (.inl h)
theorem Inv.list (I : Inv X pins σ H s) (h : SqL X.K H a xs) : ∃ its : List Value, Vals xs its ∧ PlainL s.heap a its.toArray ∧ xs.length ≤ sizeLine := by
  rcases h with h | ⟨o, its, n, hk, hc, hd, hs, hz, r⟩
  · obtain ⟨z, its, n, r, e⟩ := h.ok I.hok
    exact ⟨its, r, ⟨_, n, e, rfl, rfl, rfl⟩, z⟩
  · refine ⟨its.toList, r, ⟨o, n, I.kIn a o hk, hc, hd, by simpa using hs⟩, ?_⟩
    have e := r.length
    simp only [Array.length_toList] at e
    omega
theorem Inv.tuple (I : Inv X pins σ H s) (h : SqT X.K H a xs) : ∃ its : List Value, Vals xs its ∧ IsTup s.heap a its.toArray ∧ xs.length ≤ sizeLine := by
  rcases h with h | ⟨o, its, n, hk, hc, hs, hz, r⟩
  · obtain ⟨z, its, r, p⟩ := h.ok I.hok
    exact ⟨its, r, p, z⟩
  · refine ⟨its.toList, r, ⟨o, I.kIn a o hk, hc, n, by simpa using hs⟩, ?_⟩
    have e := r.length
    simp only [Array.length_toList] at e
    omega
theorem Inv.list_inj (I : Inv X pins σ H s) (h : SqL X.K H a xs) (h' : SqL X.K H a ys) : xs = ys := by
  obtain ⟨its, r, ⟨o, n, e, _, _, d⟩, _⟩ := I.list h
  obtain ⟨its', r', ⟨o', n', e', _, _, d'⟩, _⟩ := I.list h'
  rw [e] at e'; cases e'
  rw [d] at d'
  injection d' with d1 _
  have : its = its' := by simpa using congrArg Array.toList d1
  subst this
  exact r.inj r'
theorem Inv.tuple_inj (I : Inv X pins σ H s) (h : SqT X.K H a xs) (h' : SqT X.K H a ys) : xs = ys := by
  obtain ⟨its, r, ⟨o, e, _, n, d⟩, _⟩ := I.tuple h
  obtain ⟨its', r', ⟨o', e', _, n', d'⟩, _⟩ := I.tuple h'
  rw [e] at e'; cases e'
  rw [d] at d'
  injection d' with d1 _
  have : its = its' := by simpa using congrArg Array.toList d1
  subst this
  exact r.inj r'
end

abbrev Cx.wish (X : Cx) (E : Value → Shared → Prop) : Cx := { X with xe := E }
/-- no exception leaves -/
abbrev Cx.nox (X : Cx) : Cx := X.wish fun _ _ => False
theorem Cx.Ok.wish {X : Cx} (ok : X.Ok) (E : Value → Shared → Prop) : (X.wish E).Ok :=
  ⟨ok.mod, ok.kind, ok.glob, ok.blt, ok.above, ok.inj, ok.has, ok.cab, ok.hd, ok.frames, ok.stk, ok.exf, ok.bs, ok.bsz, ok.noex, ok.exfs, ok.funs, ok.frf⟩
theorem Cx.Ok.unwish {X : Cx} {E : Value → Shared → Prop} (ok : (X.wish E).Ok) : X.Ok :=
  ⟨ok.mod, ok.kind, ok.glob, ok.blt, ok.above, ok.inj, ok.has, ok.cab, ok.hd, ok.frames, ok.stk, ok.exf, ok.bs, ok.bsz, ok.noex, ok.exfs, ok.funs, ok.frf⟩
section
variable {X : Cx} {pins : List (Addr × Obj)} {σ : St} {H : Hp} {s : Shared} {E : Value → Shared → Prop}
theorem Inv.wish (I : Inv X pins σ H s) (E : Value → Shared → Prop) : Inv (X.wish E) pins σ H s := ⟨I.ok.wish E, I.os, I.bare, I.base, I.loc, I.cell, I.free, I.freeC, I.pin, I.hok, I.len⟩
theorem Inv.unwish (I : Inv (X.wish E) pins σ H s) : Inv X pins σ H s := ⟨I.ok.unwish, I.os, I.bare, I.base, I.loc, I.cell, I.free, I.freeC, I.pin, I.hok, I.len⟩
theorem SP.unwish {D : Ends} {f : Flow} {s' : Shared} (h : SP (X.wish E) pins D f s') : SP X pins D f s' := by
  cases f with
  | next => obtain ⟨σ', H', I, q⟩ := h; exact ⟨σ', H', I.unwish, q⟩
  | brk => obtain ⟨σ', H', I, q⟩ := h; exact ⟨σ', H', I.unwish, q⟩
  | cont => obtain ⟨σ', H', I, q⟩ := h; exact ⟨σ', H', I.unwish, q⟩
  | ret u => obtain ⟨v, σ', H', I, r, q⟩ := h; exact ⟨v, σ', H', I.unwish, r, q⟩
theorem PE.nox {e : Expr} {t : TE} (h : PE X.nox e t) : PE X e t := fun pins s σ H Q I hw =>
  wpAny_mono (h pins s σ H Q (I.wish _) hw) (fun _ _ ⟨v, H', I', r, q⟩ => ⟨v, H', I'.unwish, r, q⟩) fun _ _ z => False.elim z
theorem PT.nox {e : Expr} {t : TT} (h : PT X.nox e t) : PT X e t := fun pins s σ H Q I hw =>
  wpAny_mono (h pins s σ H Q (I.wish _) hw) (fun _ _ ⟨H', I', q⟩ => ⟨H', I'.unwish, q⟩) fun _ _ z => False.elim z
theorem PSs.nox {st : List Stmt} {t : TS} (h : PSs X.nox st t) : PSs X st t := fun pins s σ H D I hw =>
  wpAny_mono (h pins s σ H D (I.wish _) hw) (fun _ _ q => q.unwish) fun _ _ z => False.elim z
end

section
variable {X : Cx} {st : Stmt} {rest : List Stmt} {t u : TS} {e : Expr} {te : TE} {pos : Pos}
abbrev tNext : TS := fun D σ H => D.nx σ H
abbrev tSeq (t u : TS) : TS := fun D σ H => t { D with nx := u D } σ H
theorem pss_nil : PSs X [] tNext := fun _ _ σ H _ I h => wpAny_execs_nil ⟨σ, H, I, h⟩
theorem pss_cons (h1 : PS X st t) (h2 : PSs X rest u) : PSs X (st :: rest) (tSeq t u) := by
  intro pins s σ H D I h
  refine wpAny_execs_cons (thn (h1 pins s σ H { D with nx := u D } I h) fun f s1 q => ?_)
  cases f with
  | next =>
    obtain ⟨σ', H', I', q⟩ := q
    exact h2 pins s1 σ' H' D I' q
  | ret v => exact q
  | brk => exact q
  | cont => exact q
def tBreak : TS := fun D σ H => D.bk σ H
def tCont : TS := fun D σ H => D.ct σ H
/-- in a def's body nothing is shown -/
theorem Inv.quiet {pins : List (Addr × Obj)} {σ : St} {H : Hp} {s : Shared} (I : Inv X pins σ H s) : interactive X.env = false := by simp [interactive, I.ok.kind]
/-- an expression whose value is dropped -/
abbrev tDrop (te : TE) : TS := fun D σ H => te σ H fun _ H1 => D.nx σ H1
theorem ps_expr (he : PE X e te) (hs : swapsWith e none pos.line X.env = pure false := by rfl) : PS X (.Expr e pos) (tDrop te) := by
  intro pins s σ H D I h
  exact wpAny_Expr_any (thn (he pins s σ H _ I h) fun v s1 ⟨x, H1, I1, r1, q1⟩ => ⟨σ, H1, I1, q1⟩) I.quiet hs
abbrev tRet (te : TE) : TS := fun D σ H => te σ H D.rt
theorem ps_ret (he : PE X e te) : PS X (.Return (some e) pos) (tRet te) := by
  intro pins s σ H D I h
  exact wpAny_Return_some (thn (he pins s σ H _ I h) fun v s1 ⟨x, H1, I1, r1, q1⟩ => ⟨x, σ, H1, I1, r1, q1⟩)
def tRetN : TS := fun D _ H => D.rt .non H
abbrev tIfS (c : TT) (t u : TS) : TS := fun D σ H => c σ H fun b H1 => if b = true then t D σ H1 else u D σ H1
theorem ps_if {c : Expr} {a b : List Stmt} {tc : TT} (hc : PT X c tc) (ha : PSs X a t) (hb : PSs X b u) : PS X (.If c a b pos) (tIfS tc t u) := by
  intro pins s σ H D I h
  refine wpAny_If (thn (hc pins s σ H _ I h) fun d s1 ⟨H1, I1, q1⟩ => ?_)
  cases d with
  | true => exact ha pins s1 σ H1 D I1 q1
  | false => exact hb pins s1 σ H1 D I1 q1
/-- code that the proof never comes to -/
def tNever : TS := fun _ _ _ => False
end

abbrev TG := V → St → Hp → (St → Hp → Prop) → Prop
abbrev TGs := List V → St → Hp → (St → Hp → Prop) → Prop
def PG (X : Cx) (target : Expr) (t : TG) : Prop :=
  ∀ (pins : List (Addr × Obj)) (s : Shared) (σ : St) (H : Hp) (v : V) (u : Value) (Q : St → Hp → Prop), Inv X pins σ H s → RelV v u → t v σ H Q →
    wpAny (model X.prog X.w) X.A (assign target X.env u) (fun _ s' => ∃ σ' H', Inv X pins σ' H' s' ∧ Q σ' H') X.xe s
/-- several targets, one after another -/
def PGs (X : Cx) (ts : List Expr) (t : TGs) : Prop :=
  ∀ (pins : List (Addr × Obj)) (s : Shared) (σ : St) (H : Hp) (vs : List V) (us : List Value) (Q : St → Hp → Prop), Inv X pins σ H s → Vals vs us → t vs σ H Q →
    wpAny (model X.prog X.w) X.A (assignInOrder ((assignEach ts X.env).map (·.2)) us) (fun _ s' => ∃ σ' H', Inv X pins σ' H' s' ∧ Q σ' H') X.xe s
/-- o[i] = v, by values -/
abbrev TSet := V → V → V → Hp → (Hp → Prop) → Prop
def PSet (X : Cx) (t : TSet) : Prop :=
  ∀ (pins : List (Addr × Obj)) (s : Shared) (σ : St) (H : Hp) (o i v : V) (ov iv u : Value) (Q : Hp → Prop), Inv X pins σ H s → RelV o ov → RelV i iv → RelV v u → t o i v H Q →
    wpAny (model X.prog X.w) X.A (setItem ov iv u) (fun _ s' => ∃ H', Inv X pins σ H' s' ∧ Q H') X.xe s
/-- a op= b, by values -/
abbrev TIp := V → V → Hp → VK → Prop
def PIp (X : Cx) (op : Operator) (t : TIp) : Prop :=
  ∀ (pins : List (Addr × Obj)) (s : Shared) (σ : St) (H : Hp) (x y : V) (v u : Value) (Q : VK), Inv X pins σ H s → RelV x v → RelV y u → t x y H Q →
    wpAny (model X.prog X.w) X.A (inplaceOp op v u) (EP X pins σ Q) X.xe s
section
variable {X : Cx} {pos : Pos}
abbrev gName (i : Nat) : TG := fun v σ H Q => Q (σ.set i (some v)) H
theorem pg_name {i : Nat} {x : Str} (hN : X.N.Nodup) (hi : X.N[i]? = some x) (hx : Loc X.env.scope x) (hf : X.fn x = true ∨ X.env.scope.names.lookup x = some .local := by first | exact .inl rfl | exact .inr rfl | assumption) : PG X (.Name x pos) (gName i) := by
  intro pins s σ H v u Q I r h
  exact wpAny_assign_Name (store_ok I hN hi hx r (fun s' I' => ⟨_, H, I', h⟩) hf)
def gNil : TGs := fun vs σ H Q => vs = [] ∧ Q σ H
def gCons (t : TG) (u : TGs) : TGs := fun vs σ H Q => ∃ v r, vs = v :: r ∧ t v σ H fun σ' H' => u r σ' H' Q
theorem pgs_nil : PGs X [] gNil := by
  intro pins s σ H vs us Q I r h
  obtain ⟨e, h⟩ := h
  subst e
  cases r
  exact assignInOrder_nil ⟨σ, H, I, h⟩
theorem pgs_cons {e : Expr} {es : List Expr} {t : TG} {u : TGs} (h1 : PG X e t) (h2 : PGs X es u)
    (hs : (assignEach (e :: es) X.env).map (·.2) = assign e X.env :: (assignEach es X.env).map (·.2) := by rfl) : PGs X (e :: es) (gCons t u) := by
  intro pins s σ H vs us Q I r h
  obtain ⟨v, vr, e1, h⟩ := h
  subst e1
  cases r with
  | cons r rr =>
    rw [hs]
    refine assignInOrder_cons (thn (h1 pins s σ H _ _ _ I r h) fun _ s1 ⟨σ1, H1, I1, q1⟩ => ?_)
    exact h2 pins s1 σ1 H1 _ _ Q I1 rr q1
/-- (a, b, ..) = a tuple of that length -/
def gTup (K : PySem.W.Frag) (n : Nat) (t : TGs) : TG := fun v σ H Q => ∃ a xs, v = .ref a ∧ SqT K H a xs ∧ xs.length = n ∧ t xs σ H Q
theorem pg_tup {es : List Expr} {k : Nat} {t : TGs} {n : Nat} (hc : X.calm = true) (h : PGs X es t)
    (hn : (assignEach es X.env).length = n := by rfl) (hst : (assignEach es X.env).findIdx? (·.1) = none := by rfl) : PG X (.Tuple es k pos) (gTup X.K n t) := by
  intro pins s σ H v u Q I r hw
  obtain ⟨a, xs, e1, hq, hl, hw⟩ := hw
  subst e1
  cases r
  obtain ⟨its, rv, ht, hz⟩ := I.tuple hq
  refine assign_Tuple_tuple (I.ok.hd hc) ht (by simp [hn, ← hl, rv.length]) hst fun h' hx => ?_
  have I1 : Inv X pins σ H { s with heap := h' } := I.kept (t' := s.toks) fun b o e => hx b o (Nat.ne_of_lt (Heap.lt_size e)) e
  exact h pins _ σ H xs _ Q I1 (by simpa using rv) hw
/-- o[i] = .. -/
def gSub (to ti : TE) (t : TSet) : TG := fun v σ H Q => to σ H fun o H1 => ti σ H1 fun i H2 => t o i v H2 fun H3 => Q σ H3
/-- target = value -/
abbrev tAsg (te : TE) (g : TG) : TS := fun D σ H => te σ H fun x H1 => g x σ H1 D.nx
/-- name = value -/
theorem ps_set {i : Nat} {x : Str} {e : Expr} {te : TE} {pos' : Pos} (hN : X.N.Nodup) (hi : X.N[i]? = some x) (hx : Loc X.env.scope x) (he : PE X e te) (hs : swapsWith e (some (.Name x pos')) pos.line X.env = pure false := by rfl) (hf : X.fn x = true ∨ X.env.scope.names.lookup x = some .local := by first | exact .inl rfl | exact .inr rfl | assumption) :
    PS X (.Assign [.Name x pos'] e pos) (tAsg te (gName i)) := by
  intro pins s σ H D I h
  refine wpAny_Assign_Name (thn (he pins s σ H _ I h) fun v s1 ⟨y, H1, I1, r1, q1⟩ => ?_) hs
  exact store_ok I1 hN hi hx r1 (fun s2 I2 => ⟨_, H1, I2, q1⟩) hf
/-- a, b = x, y with plain local names: stored from the right; the pair itself is not tracked (the opening rows as in PyProof/Rows/TupAssign.lean:23) -/
def tPar (i j : Nat) (ta : TA) : TS := fun D σ H => ta σ H fun vs H1 => ∃ v w, vs = [v, w] ∧ D.nx ((σ.set i (some v)).set j (some w)) H1
/-- name op= e -/
def tAug (i : Nat) (te : TE) (ti : TIp) : TS := fun D σ H => ∃ x, σ[i]? = some (some x) ∧ te σ H fun y H1 => ti x y H1 fun z H2 => D.nx (σ.set i (some z)) H2
/-- o[i] op= e -/
def tAugS (to ti te : TE) (tget : V → V → Hp → VK → Prop) (tip : TIp) (tset : TSet) : TS := fun D σ H => to σ H fun o H1 => ti σ H1 fun i H2 => tget o i H2 fun x H3 => te σ H3 fun y H4 => tip x y H4 fun z H5 => tset o i z H5 fun H6 => D.nx σ H6
/-- o[i], by values -/
def PGet (X : Cx) (t : V → V → Hp → VK → Prop) : Prop :=
  ∀ (pins : List (Addr × Obj)) (s : Shared) (σ : St) (H : Hp) (o i : V) (ov iv : Value) (Q : VK), Inv X pins σ H s → RelV o ov → RelV i iv → t o i H Q →
    wpAny (model X.prog X.w) X.A (getItem ov iv) (EP X pins σ Q) X.xe s
/-- ints -/
def ipI (f : Int → Int → Int) : TIp := fun x y H Q => ∃ i j, x = .int i ∧ y = .int j ∧ Q (.int (f i j)) H
end

section
variable {X : Cx} {pos : Pos}
/-- the invariant W with its measure -/
def tWhile (c : TT) (tb : TS) : TS := fun D σ H => ∃ W : Nat → St → Hp → Prop, (∃ m, W m σ H) ∧ ∀ m σ H, W m σ H →
  c σ H fun b H1 => if b = true then ∃ N : St → Hp → Prop, (∀ σ' H', N σ' H' → ∃ m', m' < m ∧ W m' σ' H') ∧ tb { D with nx := N, ct := N, bk := D.nx } σ H1 else D.nx σ H1
end

/-- at turn i: it yields x (the heap may grow), or it stops -/
structure It where
  go : Nat → Hp → Prop
  yld : Nat → Hp → V → Hp → Prop
  stop : Nat → Hp → Prop
/-- the iterator's own objects may turn: they are not the frame's, not pinned, younger than the entry (or a comprehension's own) -/
def FpOk (X : Cx) (pins : List (Addr × Obj)) (H : Hp) (b : Addr) : Prop :=
  H b = none ∧ b ≠ X.env.locals ∧ b ∉ X.fs ∧ (b ∈ X.ex ∨ X.s₀.heap.objs.size ≤ b) ∧ (∀ x c, X.env.cells.lookup x = some c → c ≠ b) ∧ ∀ p ∈ X.pn ++ pins, p.1 ≠ b
theorem Inv.fpOk {X : Cx} {pins : List (Addr × Obj)} {σ : St} {H H' : Hp} {s : Shared} {b : Addr} (I : Inv X pins σ H s) (hb : s.heap.objs.size ≤ b) (hn : H' b = none) : FpOk X pins H' b := by
  refine ⟨hn, Nat.ne_of_gt (Nat.lt_of_lt_of_le I.lt hb), I.nofs hb, .inr (Nat.le_trans I.sz hb), fun x c e z => ?_, fun p hp z => ?_⟩
  · obtain ⟨v, q⟩ := I.cell x c e
    exact absurd (Nat.lt_of_lt_of_le q.lt (by rw [z]; exact hb)) (Nat.lt_irrefl _)
  · exact absurd (Nat.lt_of_lt_of_le (Heap.lt_size (I.pin p hp).1) (by rw [z]; exact hb)) (Nat.lt_irrefl _)
structure Turn (P : Program) (w : World) (K : PySem.W.Frag) (tg : Expr) (J : It) (fp : List Addr) (it : Addr) (tn : Nat → Heap → Prop) : Prop where
  mem : it ∈ fp
  obj : ∀ i h, tn i h → ∀ b ∈ fp, ∃ o, h.get? b = some o ∧ ∀ v, o.data ≠ .cell v
  keep : ∀ i h h', tn i h → (∀ b ∈ fp, ∀ o, h.get? b = some o → h'.get? b = some o) → tn i h'
  item : ∀ (X : Cx), X.prog = P → X.w = w → X.K = K → X.calm = true → ∀ (i : Nat) (pins : List (Addr × Obj)) (s : Shared) (σ : St) (H : Hp) (E : Value → Shared → Prop), Inv X pins σ H s → (∀ b ∈ fp, FpOk X pins H b) → tn i s.heap → J.go i H →
    wpAny (model P w) X.A (pyNext (.ref it)) (fun r s1 => ∃ u, r = some u ∧
      wpAny (model P w) X.A (letOwnedTupleGo tg (.ref it) u) (fun _ s2 => ∃ x H', Inv X pins σ H' s2 ∧ RelV x u ∧ J.yld i H x H' ∧ tn (i + 1) s2.heap ∧ ∀ b ∈ fp, H' b = none) E s1) E s
  done : ∀ (X : Cx), X.prog = P → X.w = w → X.K = K → X.calm = true → ∀ (i : Nat) (pins : List (Addr × Obj)) (s : Shared) (σ : St) (H : Hp) (E : Value → Shared → Prop), Inv X pins σ H s → (∀ b ∈ fp, FpOk X pins H b) → tn i s.heap → J.stop i H →
    wpAny (model P w) X.A (pyNext (.ref it)) (fun r s1 => r = none ∧ Inv X pins σ H s1) E s
  self : ∀ (A : Around) (i : Nat) (s : Shared) (Q : Value → Shared → Prop) (E : Value → Shared → Prop), tn i s.heap → Q (.ref it) s → wpAny (model P w) A (pyIter (.ref it)) Q E s
abbrev TI := St → Hp → (It → Hp → Prop) → Prop
/-- an iterator has come -/
def PIE (X : Cx) (pins : List (Addr × Obj)) (σ : St) (tg : Expr) (R : It → Hp → Prop) (itv : Value) (s2 : Shared) : Prop :=
  ∃ (it : Addr) (fp : List Addr) (tn : Nat → Heap → Prop) (J : It) (H' : Hp), itv = .ref it ∧ Inv X pins σ H' s2 ∧ Turn X.prog X.w X.K tg J fp it tn ∧ tn 0 s2.heap ∧ (∀ b ∈ fp, FpOk X pins H' b) ∧ R J H'
def PI (X : Cx) (tg iter : Expr) (wi : TI) : Prop :=
  ∀ (pins : List (Addr × Obj)) (s : Shared) (σ : St) (H : Hp) (R : It → Hp → Prop), Inv X pins σ H s → wi σ H R →
    wpAny (model X.prog X.w) X.A (eval iter X.env) (fun v s1 => wpAny (model X.prog X.w) X.A (pyIter v) (PIE X pins σ tg R) X.xe s1) X.xe s

/-- the step ahead of the store is nothing for an iterator that keeps no tuple -/
theorem go_of {M : Model} {A : Around} {E : Value → Shared → Prop} {s : Shared} {tg : Expr} {it : Addr} {u : Value} {o : Obj} {n : String} {vs : Array Value} {Q : Unit → Shared → Prop} (ho : s.heap.get? it = some o) (hc : o.cls = .type n) (hd : o.data = .fields vs)
    (hn : ["enumerate", "zip", "dict_itemiterator", "dict_reverseitemiterator", "odict_iterator", "itertools.zip_longest", "itertools.pairwise"].contains n = false) (hQ : Q () s) : wpAny M A (letOwnedTupleGo tg (.ref it) u) Q E s := by
  unfold letOwnedTupleGo
  cases tg <;> first
    | exact wpAny_pure hQ
    | (cases u <;> first
        | exact wpAny_pure hQ
        | (refine wpAny_bind (wpAny_load ho ?_)
           rw [hc, hd]
           show wpAny M A (if (["enumerate", "zip", "dict_itemiterator", "dict_reverseitemiterator", "odict_iterator", "itertools.zip_longest", "itertools.pairwise"].contains n && vs[0]? == some (rawInt _)) = true then _ else _) Q E s
           rw [if_neg (by intro h; rw [hn, Bool.false_and] at h; cases h)]
           exact wpAny_pure hQ))

/-- the list at a, as it stands at each turn (a loop may append to it) -/
def Itl (K : PySem.W.Frag) (a : Addr) : It :=
  ⟨fun i H => ∃ xs x, SqL K H a xs ∧ xs[i]? = some x, fun i H x H' => H' = H ∧ ∀ xs, SqL K H a xs → xs[i]? = some x, fun i H => ∃ xs, SqL K H a xs ∧ xs.length ≤ i⟩
def Itt (K : PySem.W.Frag) (a : Addr) : It :=
  ⟨fun i H => ∃ xs x, SqT K H a xs ∧ xs[i]? = some x, fun i H x H' => H' = H ∧ ∀ xs, SqT K H a xs → xs[i]? = some x, fun i H => ∃ xs, SqT K H a xs ∧ xs.length ≤ i⟩
/-- lo, lo + 1, .. (n of them) -/
def Itr (lo : Int) (n : Nat) : It := ⟨fun i _ => i < n, fun i H x H' => H' = H ∧ x = .int (lo + i), fun i _ => n ≤ i⟩
theorem turn_list {P : Program} {w : World} {K : PySem.W.Frag} {tg : Expr} (a it : Addr) : Turn P w K tg (Itl K a) [it] it (fun i h => h.IsListIter it a i) where
  mem := by simp
  obj := fun i h st b hb => by
    have e : b = it := by simpa using hb
    subst e
    obtain ⟨o, e, c, d⟩ := st
    exact ⟨o, e, fun v z => by rw [d] at z; cases z⟩
  keep := fun i h h' st k => st.at fun o e => k it (by simp) o e
  item := by
    intro X hP hw hK hc i pins s σ H E I hf st hg
    subst hP hw hK
    obtain ⟨xs, x, hq, hx⟩ := hg
    obtain ⟨its, rv, p, hz⟩ := I.list hq
    obtain ⟨u, hu, ru⟩ := rv.get hx
    obtain ⟨f0, f1, f2, f3, f4, f5⟩ := hf it (by simp)
    refine wpAny_pyNext_list_item st p.isList (x := u) (by simpa using hu) fun h' st' sb => ?_
    have I1 : Inv X pins σ H { s with heap := h' } := I.turned (t' := s.toks) (fun b o hb e => (sb.2 b hb).trans e) f0 f1 f3 f4 f5
    obtain ⟨o, e, c, d⟩ := id st'
    exact ⟨u, rfl, go_of (s := { s with heap := h' }) e c d (by decide) ⟨x, H, I1, ru, ⟨rfl, fun ys hy => by rw [I.list_inj hy hq]; exact hx⟩, st', fun b hb => (hf b hb).1⟩⟩
  done := by
    intro X hP hw hK hc i pins s σ H E I hf st hg
    subst hP hw hK
    obtain ⟨xs, hq, hx⟩ := hg
    obtain ⟨its, rv, p, hz⟩ := I.list hq
    obtain ⟨f0, f1, f2, f3, f4, f5⟩ := hf it (by simp)
    have hl := rv.length
    exact wpAny_pyNext_list_end (I.ok.hd hc) st p.isList (by simp; omega) fun h' eb => ⟨rfl, I.turned (t' := s.toks) (fun b o hb e => eb b o hb e) f0 f1 f3 f4 f5⟩
  self := fun _ _ _ _ _ st h => wpAny_pyIter_listiter st h
theorem turn_tuple {P : Program} {w : World} {K : PySem.W.Frag} {tg : Expr} (a it : Addr) : Turn P w K tg (Itt K a) [it] it (fun i h => h.IsTupleIter it a i) where
  mem := by simp
  obj := fun i h st b hb => by
    have e : b = it := by simpa using hb
    subst e
    obtain ⟨o, e, c, d⟩ := st
    exact ⟨o, e, fun v z => by rw [d] at z; cases z⟩
  keep := fun i h h' st k => st.at fun o e => k it (by simp) o e
  item := by
    intro X hP hw hK hc i pins s σ H E I hf st hg
    subst hP hw hK
    obtain ⟨xs, x, hq, hx⟩ := hg
    obtain ⟨its, rv, p, hz⟩ := I.tuple hq
    obtain ⟨u, hu, ru⟩ := rv.get hx
    obtain ⟨f0, f1, f2, f3, f4, f5⟩ := hf it (by simp)
    refine wpAny_pyNext_tuple_item st (show s.heap.IsTuple a its.toArray from p) (x := u) (by simpa using hu) fun h' st' sb => ?_
    have I1 : Inv X pins σ H { s with heap := h' } := I.turned (t' := s.toks) (fun b o hb e => (sb.2 b hb).trans e) f0 f1 f3 f4 f5
    obtain ⟨o, e, c, d⟩ := id st'
    exact ⟨u, rfl, go_of (s := { s with heap := h' }) e c d (by decide) ⟨x, H, I1, ru, ⟨rfl, fun ys hy => by rw [I.tuple_inj hy hq]; exact hx⟩, st', fun b hb => (hf b hb).1⟩⟩
  done := by
    intro X hP hw hK hc i pins s σ H E I hf st hg
    subst hP hw hK
    obtain ⟨xs, hq, hx⟩ := hg
    obtain ⟨its, rv, p, hz⟩ := I.tuple hq
    obtain ⟨f0, f1, f2, f3, f4, f5⟩ := hf it (by simp)
    have hl := rv.length
    exact wpAny_pyNext_tuple_end (I.ok.hd hc) st (show s.heap.IsTuple a its.toArray from p) (by simp; omega) fun h' eb => ⟨rfl, I.turned (t' := s.toks) (fun b o hb e => eb b o hb e) f0 f1 f3 f4 f5⟩
  self := fun _ _ _ _ _ st h => wpAny_pyIter_tupleiter st h
theorem turn_range {P : Program} {w : World} {K : PySem.W.Frag} {tg : Expr} (it : Addr) (lo : Int) (n : Nat) : Turn P w K tg (Itr lo n) [it] it (fun i h => IsRangeIter h it (lo + (i : Nat) * 1) ((n : Int) - (i : Nat)) 1) where
  mem := by simp
  obj := fun i h st b hb => by
    have e : b = it := by simpa using hb
    subst e
    exact ⟨_, st, fun v z => by
      have z' : Data.fields _ = Data.cell v := z
      cases z'⟩
  keep := fun i h h' st k => k it (by simp) _ st
  item := by
    intro X hP hw hK hc i pins s σ H E I hf st hg
    subst hP hw hK
    obtain ⟨f0, f1, f2, f3, f4, f5⟩ := hf it (by simp)
    have W := Walks.range (prog := X.prog) (w := X.w) (I.ok.hd hc) it lo 1 n
    refine W.item i s _ _ hg st fun v h' tk hv st' kk => ?_
    obtain ⟨t, rfl⟩ := hv
    have I1 : Inv X pins σ H { s with heap := h', toks := tk } := I.turned (fun b o hb e => kk b o (by simpa using hb) e) f0 f1 f3 f4 f5
    refine ⟨_, rfl, go_of (s := { s with heap := h', toks := tk }) (n := "range_iterator") st' rfl rfl (by decide) ⟨.int (lo + i), H, I1, ⟨t, ?_⟩, ⟨rfl, rfl⟩, st', fun b hb => (hf b hb).1⟩⟩
    rw [Int.mul_one]
  done := by
    intro X hP hw hK hc i pins s σ H E I hf st hg
    subst hP hw hK
    obtain ⟨f0, f1, f2, f3, f4, f5⟩ := hf it (by simp)
    exact wpAny_pyNext_range_end (I.ok.hd hc) st (by have : n ≤ i := hg; omega) fun h' eb => ⟨rfl, I.turned (t' := s.toks) (fun b o hb e => eb b o hb e) f0 f1 f3 f4 f5⟩
  self := fun _ _ _ _ _ st h => wpAny_pyIter_rangeiter st h
end L2

namespace L2
open PySem PySem.Spec PyProof.Rows
section
variable {X : Cx} {tg : Expr}
def iList (K : PySem.W.Frag) (tl : TE) : TI := fun σ H R => tl σ H fun x H1 => ∃ a, x = .ref a ∧ (∃ xs, SqL K H1 a xs) ∧ R (Itl K a) H1
def iTup (K : PySem.W.Frag) (tl : TE) : TI := fun σ H R => tl σ H fun x H1 => ∃ a, x = .ref a ∧ (∃ xs, SqT K H1 a xs) ∧ R (Itt K a) H1
/-- a range object just made, walked -/
theorem range_it {pins : List (Addr × Obj)} {σ : St} {H : Hp} {s : Shared} {R : It → Hp → Prop} {E : Value → Shared → Prop} {lo hi : Int} {t u v : Tok} {tk : Nat} (I : Inv X pins σ H s) (h1 : -(2 ^ 62) ≤ lo) (h2 : lo < 2 ^ 62) (h3 : -(2 ^ 62) ≤ hi) (h4 : hi < 2 ^ 62)
    (q : R (Itr lo (hi - lo).toNat) H) : wpAny (model X.prog X.w) X.A (pyIter (.ref s.heap.objs.size)) (PIE X pins σ tg R) E { s with heap := s.heap.push { cls := .type "range", data := .fields #[.int lo t, .int hi u, .int 1 v] }, toks := tk } := by
  refine wpAny_pyIter_range (IsRange.new ..) (small_one h1 h2 h3 h4) ?_
  have I1 : Inv X pins σ H { s with heap := s.heap.push { cls := .type "range", data := .fields #[.int lo t, .int hi u, .int 1 v] }, toks := tk } := I.kept fun b o e => Heap.get?_push_of_some _ e
  refine ⟨(s.heap.push { cls := .type "range", data := .fields #[.int lo t, .int hi u, .int 1 v] }).objs.size, [(s.heap.push { cls := .type "range", data := .fields #[.int lo t, .int hi u, .int 1 v] }).objs.size], _, _, H, rfl,
    I1.kept (t' := tk) fun b o e => Heap.get?_push_of_some _ e, turn_range _ lo (hi - lo).toNat, ?_, fun b hb => ?_, q⟩
  · have e1 : lo + ((0 : Nat) : Int) * 1 = lo := by simp
    have e2 : (((hi - lo).toNat : Nat) : Int) - ((0 : Nat) : Int) = Builtin.Range.rangeSize lo hi 1 := by rw [rangeSize_one]; split <;> omega
    show IsRangeIter _ _ (lo + ((0 : Nat) : Int) * 1) ((((hi - lo).toNat : Nat) : Int) - ((0 : Nat) : Int)) 1
    rw [e1, e2]
    exact Heap.get?_push_size _ rfl
  · have e : b = (s.heap.push { cls := .type "range", data := .fields #[.int lo t, .int hi u, .int 1 v] }).objs.size := by simpa using hb
    subst e
    exact I1.fpOk (Nat.le_refl _) (I1.hok.fresh (Nat.le_refl _))
def iRng1 (ta : TA) : TI := fun σ H R => ta σ H fun vs H1 => ∃ j : Int, vs = [.int j] ∧ -(2 ^ 62) ≤ j ∧ j < 2 ^ 62 ∧ R (Itr 0 j.toNat) H1
def iRng2 (ta : TA) : TI := fun σ H R => ta σ H fun vs H1 => ∃ i j : Int, vs = [.int i, .int j] ∧ (-(2 ^ 62) ≤ i ∧ i < 2 ^ 62 ∧ -(2 ^ 62) ≤ j ∧ j < 2 ^ 62) ∧ R (Itr i (j - i).toNat) H1
theorem pi_range1 {a : Expr} {ta : TA} {p pos : Pos} (hg : Gl X "range") (hm : X.mg "range" = none) (ha : PA X [a] ta) (hs : starEach [a] X.env = [(false, eval a X.env)] := by rfl) : PI X tg (.Call (.Name "range" p) [a] [] pos) (iRng1 ta) := by
  intro pins s σ H R I h
  refine Call_ (ld_blt I hg hm boot_range (PyProof.Rows.callWith_type1 (thn (ha pos pins s σ H _ I h) fun us s1 ⟨vs, H1, I1, r1, q1⟩ => ?_) hs rfl))
  obtain ⟨j, e, q1, q2, q⟩ := q1
  subst e
  cases r1 with
  | cons r rr =>
    cases rr
    obtain ⟨t, rfl⟩ := r
    exact call_range_1 (range_it I1 (by omega) (by omega) q1 q2 (by simpa using q))
/-- W: the invariant by the turn and a measure; N: what the body is to reach -/
def tFor (wi : TI) (g : TG) (tb : TS) : TS := fun D σ H => wi σ H fun J H1 => ∃ W : Nat → Nat → St → Hp → Prop, (∃ m, W 0 m σ H1) ∧ ∀ i m σ H, W i m σ H →
  (J.stop i H ∧ D.nx σ H) ∨ (J.go i H ∧ ∃ N : St → Hp → Prop, (∀ σ' H', N σ' H' → ∃ m', m' < m ∧ W (i + 1) m' σ' H') ∧ ∀ x H', J.yld i H x H' → g x σ H' fun σ2 H2 => tb { D with nx := N, ct := N, bk := D.nx } σ2 H2)
/-- the records at fp as they stand -/
def pinsAt (fp : List Addr) (h : Heap) : List (Addr × Obj) := fp.filterMap fun b => (h.get? b).map fun o => (b, o)
theorem mem_pinsAt {fp : List Addr} {h : Heap} {b : Addr} {o : Obj} (hb : b ∈ fp) (e : h.get? b = some o) : (b, o) ∈ pinsAt fp h := List.mem_filterMap.mpr ⟨b, hb, by rw [e]; rfl⟩
theorem of_pinsAt {fp : List Addr} {h : Heap} {p : Addr × Obj} (hp : p ∈ pinsAt fp h) : p.1 ∈ fp ∧ h.get? p.1 = some p.2 := by
  obtain ⟨b, hb, e⟩ := List.mem_filterMap.mp hp
  cases q : h.get? b with
  | none => rw [q] at e; cases e
  | some o =>
    rw [q] at e
    have e' : (b, o) = p := Option.some.inj e
    subst e'
    exact ⟨hb, q⟩
theorem Inv.pinned {pins : List (Addr × Obj)} {σ : St} {H : Hp} {s : Shared} {fp : List Addr} (I : Inv X pins σ H s) (hf : ∀ b ∈ fp, FpOk X pins H b) (ho : ∀ b ∈ fp, ∃ o, s.heap.get? b = some o ∧ ∀ v, o.data ≠ .cell v) : Inv X (pins ++ pinsAt fp s.heap) σ H s :=
  I.pins_of fun p hp => (List.mem_append.mp hp).elim (fun z => I.pin p (List.mem_append_right _ z)) fun z => by
    obtain ⟨hb, e⟩ := of_pinsAt z
    obtain ⟨f0, f1, f2, _⟩ := hf p.1 hb
    obtain ⟨o, e', d⟩ := ho p.1 hb
    rw [e] at e'; cases e'
    exact ⟨e, f0, f1, f2, d⟩
theorem Inv.unpinned {pins pl : List (Addr × Obj)} {σ : St} {H : Hp} {s : Shared} (I : Inv X (pins ++ pl) σ H s) : Inv X pins σ H s := I.pins_of fun p hp => I.pin p (List.mem_append_right _ (List.mem_append_left _ hp))
theorem ps_for {iter : Expr} {body : List Stmt} {wi : TI} {g : TG} {tb : TS} {pos : Pos} (hp : PassesOwn (model X.prog X.w) X.A X.env X.xe) (hc : X.calm = true) (hi : PI X tg iter wi) (hg : PG X tg g) (hb : PSs X body tb)
    (hs : ∀ x, foldedSetIterable iter X.env x = pure x := by intro _; rfl) : PS X (.For tg iter body [] pos) (tFor wi g tb) := by
  intro pins s σ H D I h
  refine wpAny_For (thn (hi pins s σ H _ I h) fun v s1 h1 => thn h1 fun itv s2 h2 => ?_) hs
  obtain ⟨it, fp, tn, J, H2, e, I2, T, st2, f2, W, ⟨m0, w0⟩, turn⟩ := h2
  subst e
  -- what stays true of the iterator's objects through the loop
  have stat : ∀ {H' : Hp}, (∀ b ∈ fp, H' b = none) → ∀ b ∈ fp, FpOk X pins H' b := fun hn b hb => ⟨hn b hb, (f2 b hb).2⟩
  refine codeAny_forLoop_any (fun n s' => ∃ i σ' H', Inv X pins σ' H' s' ∧ tn i s'.heap ∧ (∀ b ∈ fp, H' b = none) ∧ W i n σ' H') ?_ m0 ⟨0, σ, H2, I2, st2, fun b hb => (f2 b hb).1, w0⟩
  rintro n s3 ⟨i, σ3, H3, I3, st3, fr3, w3⟩
  rcases turn i n σ3 H3 w3 with ⟨stop, qn⟩ | ⟨go, N, hN, step⟩
  · refine wpAny_passesOwn hp (thn (T.done X rfl rfl rfl hc i pins s3 σ3 H3 X.xe I3 (stat fr3) st3 stop) fun r s4 ⟨hr, I4⟩ => ?_)
    subst hr
    exact wpAny_execs_nil ⟨σ3, H3, I4, qn⟩
  · refine wpAny_passesOwn hp (thn (T.item X rfl rfl rfl hc i pins s3 σ3 H3 X.xe I3 (stat fr3) st3 go) fun r s4 ⟨u, hr, h4⟩ => ?_)
    subst hr
    refine wpAny_passesOwn hp (thn h4 fun _ s5 ⟨x, H5, I5, r5, y5, st5, fr5⟩ => ?_)
    have I5' := I5.pinned (stat fr5) (T.obj _ _ st5)
    refine wpAny_passesOwn hp (thn (hg _ s5 σ3 H5 x u _ I5' r5 (step x H5 y5)) fun _ s6 ⟨σ6, H6, I6, q6⟩ => ?_)
    refine wpAny_passesOwn hp (thn (hb _ s6 σ6 H6 _ I6 q6) fun f s7 q7 => ?_)
    have again : ∀ {σ7 : St} {H7 : Hp}, Inv X (pins ++ pinsAt fp s5.heap) σ7 H7 s7 → N σ7 H7 → ∃ m, m < n ∧ ∃ i σ' H', Inv X pins σ' H' s7 ∧ tn i s7.heap ∧ (∀ b ∈ fp, H' b = none) ∧ W i m σ' H' := fun {σ7 H7} I7 n7 => by
      obtain ⟨m', hm, w7⟩ := hN σ7 H7 n7
      refine ⟨m', hm, i + 1, σ7, H7, I7.unpinned, T.keep _ _ _ st5 fun b hb o e => (I7.pin (b, o) (List.mem_append_right _ (List.mem_append_right _ (mem_pinsAt hb e)))).1, fun b hb => ?_, w7⟩
      obtain ⟨o, e, d⟩ := T.obj _ _ st5 b hb
      exact (I7.pin (b, o) (List.mem_append_right _ (List.mem_append_right _ (mem_pinsAt hb e)))).2.1
    cases f with
    | next => obtain ⟨σ7, H7, I7, n7⟩ := q7; exact again I7 n7
    | cont => obtain ⟨σ7, H7, I7, n7⟩ := q7; exact again I7 n7
    | brk => obtain ⟨σ7, H7, I7, q7⟩ := q7; exact ⟨σ7, H7, I7.unpinned, q7⟩
    | ret v => obtain ⟨x7, σ7, H7, I7, r7, q7⟩ := q7; exact ⟨x7, σ7, H7, I7.unpinned, r7, q7⟩
end

end L2

namespace L2
open PySem PySem.Spec PyProof.Rows

abbrev R2 := V → V → Hp → VK → Prop
/-- a two-place operation on values: f is binaryOp op, inplaceOp op or compareOp op -/
def OpR (X : Cx) (f : Value → Value → Sem Value) (r : R2) : Prop :=
  ∀ (pins : List (Addr × Obj)) (s : Shared) (σ : St) (H : Hp) (x y : V) (v u : Value) (Q : VK), Inv X pins σ H s → RelV x v → RelV y u → r x y H Q →
    wpAny (model X.prog X.w) X.A (f v u) (EP X pins σ Q) X.xe s
/-- a one-place operation -/
def UnR (X : Cx) (f : Value → Sem Value) (r : V → Hp → VK → Prop) : Prop :=
  ∀ (pins : List (Addr × Obj)) (s : Shared) (σ : St) (H : Hp) (x : V) (v : Value) (Q : VK), Inv X pins σ H s → RelV x v → r x H Q →
    wpAny (model X.prog X.w) X.A (f v) (EP X pins σ Q) X.xe s
/-- a call of a value that is known (a builtin, a type) with values -/
def CallR (X : Cx) (f : Value) (r : List V → Hp → VK → Prop) : Prop :=
  ∀ (pins : List (Addr × Obj)) (s : Shared) (σ : St) (H : Hp) (xs : List V) (us : List Value) (Q : VK), Inv X pins σ H s → Vals xs us → r xs H Q →
    wpAny (model X.prog X.w) X.A (call f us) (EP X pins σ Q) X.xe s
/-- a value's truth -/
def TruR (X : Cx) (r : V → Hp → (Bool → Hp → Prop) → Prop) : Prop :=
  ∀ (pins : List (Addr × Obj)) (s : Shared) (σ : St) (H : Hp) (x : V) (v : Value) (Q : Bool → Hp → Prop), Inv X pins σ H s → RelV x v → r x H Q →
    wpAny (model X.prog X.w) X.A (truthy v) (TP X pins σ Q) X.xe s

abbrev tOp (r : R2) (ta tb : TE) : TE := fun σ H Q => ta σ H fun x H1 => tb σ H1 fun y H2 => r x y H2 Q
abbrev tUn (r : V → Hp → VK → Prop) (ta : TE) : TE := fun σ H Q => ta σ H fun x H1 => r x H1 Q
/-- ints in, under C, and a value out -/
def rI (C : Int → Int → Prop) (g : Int → Int → V) : R2 := fun x y H Q => ∃ i j, x = .int i ∧ y = .int j ∧ C i j ∧ Q (g i j) H
def rI0 (g : Int → Int → V) : R2 := fun x y H Q => ∃ i j, x = .int i ∧ y = .int j ∧ Q (g i j) H
def rU (g : Int → V) : V → Hp → VK → Prop := fun x H Q => ∃ i, x = .int i ∧ Q (g i) H

section
variable {X : Cx} {a b c : Expr} {ta tb tc : TE} {pos : Pos}

theorem binT (ha : PE X a ta) (hb : PE X b tb) {pins : List (Addr × Obj)} {s : Shared} {σ : St} {H : Hp} {R : V → V → Hp → Prop} (I : Inv X pins σ H s)
    (h : ta σ H fun x H1 => tb σ H1 fun y H2 => R x y H2) {Q : Value → Shared → Prop} {f : Value → Value → Sem Value}
    (hf : ∀ v u s2 x y H2, Inv X pins σ H2 s2 → RelV x v → RelV y u → R x y H2 → wpAny (model X.prog X.w) X.A (f v u) Q X.xe s2) :
    wpAny (model X.prog X.w) X.A (eval a X.env) (fun v s₁ => wpAny (model X.prog X.w) X.A (eval b X.env) (fun u s₂ => wpAny (model X.prog X.w) X.A (f v u) Q X.xe s₂) X.xe s₁) X.xe s := by
  refine thn (ha pins s σ H _ I h) fun v s1 ⟨x, H1, I1, r1, q1⟩ => ?_
  refine thn (hb pins s1 σ H1 _ I1 q1) fun u s2 ⟨y, H2, I2, r2, q2⟩ => ?_
  exact hf v u s2 x y H2 I2 r1 r2 q2

theorem pe_op {op : Operator} {r : R2} (ho : OpR X (binaryOp op) r) (ha : PE X a ta) (hb : PE X b tb) : PE X (.BinOp a op b pos) (tOp r ta tb) := by
  intro pins s σ H Q I h
  exact wpAny_BinOp (binT ha hb I h fun v u s2 x y H2 I2 rx ry q => ho pins s2 σ H2 x y v u Q I2 rx ry q)
theorem pe_un {op : UnaryOp} {r : V → Hp → VK → Prop} (ho : UnR X (unaryOp op) r) (ha : PE X a ta) : PE X (.UnaryOp op a pos) (tUn r ta) := by
  intro pins s σ H Q I h
  exact UnaryOp_ (thn (ha pins s σ H _ I h) fun v s1 ⟨x, H1, I1, r1, q1⟩ => ho pins s1 σ H1 x v Q I1 r1 q1)
theorem opI {f : Value → Value → Sem Value} {C : Int → Int → Prop} {g : Int → Int → Int}
    (rule : ∀ (i j : Int) (t u : Tok) (s : Shared) (Q : Value → Shared → Prop) (E : Value → Shared → Prop), C i j → Q (.int (g i j) s.toks) { s with toks := s.toks + 1 } → wpAny (model X.prog X.w) X.A (f (.int i t) (.int j u)) Q E s) :
    OpR X f (rI C fun i j => .int (g i j)) := by
  intro pins s σ H x y v u Q I rx ry h
  obtain ⟨i, j, rfl, rfl, hc, q⟩ := h
  obtain ⟨t, rfl⟩ := rx
  obtain ⟨t', rfl⟩ := ry
  exact rule i j t t' s _ _ hc ⟨.int (g i j), H, I.tok _, ⟨_, rfl⟩, q⟩
theorem opI0 {f : Value → Value → Sem Value} {g : Int → Int → Int}
    (rule : ∀ (i j : Int) (t u : Tok) (s : Shared) (Q : Value → Shared → Prop) (E : Value → Shared → Prop), Q (.int (g i j) s.toks) { s with toks := s.toks + 1 } → wpAny (model X.prog X.w) X.A (f (.int i t) (.int j u)) Q E s) :
    OpR X f (rI0 fun i j => .int (g i j)) := by
  intro pins s σ H x y v u Q I rx ry h
  obtain ⟨i, j, rfl, rfl, q⟩ := h
  obtain ⟨t, rfl⟩ := rx
  obtain ⟨t', rfl⟩ := ry
  exact rule i j t t' s _ _ ⟨.int (g i j), H, I.tok _, ⟨_, rfl⟩, q⟩
theorem opB0 {f : Value → Value → Sem Value} {g : Int → Int → Bool}
    (rule : ∀ (i j : Int) (t u : Tok) (s : Shared) (Q : Value → Shared → Prop) (E : Value → Shared → Prop), Q (.bool (g i j)) s → wpAny (model X.prog X.w) X.A (f (.int i t) (.int j u)) Q E s) :
    OpR X f (rI0 fun i j => .bl (g i j)) := by
  intro pins s σ H x y v u Q I rx ry h
  obtain ⟨i, j, rfl, rfl, q⟩ := h
  obtain ⟨t, rfl⟩ := rx
  obtain ⟨t', rfl⟩ := ry
  exact rule i j t t' s _ _ ⟨.bl (g i j), H, I, rfl, q⟩

def CDiv (i j : Int) : Prop := 0 < j ∧ j < 1073741824
def CDivN (i j : Int) : Prop := j ≠ 0 ∧ j.natAbs < 1073741824
def CPow (i j : Int) : Prop := 0 ≤ j ∧ j ≤ 1000000 ∧ i.natAbs < 2 ^ 64
def CMul (i j : Int) : Prop := (-(2 ^ 64) < i ∧ i < 2 ^ 64) ∨ (-(2 ^ 64) < j ∧ j < 2 ^ 64)
theorem CMul.ok {i j : Int} (h : CMul i j) : IntMulOk i j := by
  rcases h with ⟨h1, h2⟩ | ⟨h1, h2⟩
  · exact .of_left (intBits_le_64 h1 h2)
  · exact .of_right (intBits_le_64 h1 h2)
theorem op_add : OpR X (binaryOp .Add) (rI0 fun i j => .int (i + j)) := opI0 fun _ _ _ _ _ _ _ q => add_int q
theorem op_sub : OpR X (binaryOp .Sub) (rI0 fun i j => .int (i - j)) := opI0 fun _ _ _ _ _ _ _ q => sub_int q
theorem op_mul : OpR X (binaryOp .Mult) (rI CMul fun i j => .int (i * j)) := opI fun _ _ _ _ _ _ _ hc q => mul_int q hc.ok
/-- // by a positive divisor -/
theorem op_fdiv : OpR X (binaryOp .FloorDiv) (rI CDiv fun i j => .int (i / j)) := opI fun i j _ _ _ _ _ hc q => by
  have h1 : (0 : Int) < j := hc.1
  have h2 : j < 1073741824 := hc.2
  exact floordiv_int (by omega) (by rw [Int.fdiv_eq_ediv_of_nonneg i (by omega)]; exact q) (.inl (PyProof.noPylong_small (by omega)))
/-- % by a positive divisor of any size -/
theorem op_mod : OpR X (binaryOp .Mod) (rI (fun _ j => 0 < j) fun i j => .int (i % j)) := opI fun i j _ _ _ _ _ hc q => by
  have h1 : (0 : Int) < j := hc
  exact mod_int' (by omega) (by rw [Int.fmod_eq_emod_of_nonneg i (by omega)]; exact q)
theorem op_pow : OpR X (binaryOp .Pow) (rI CPow fun i j => .int (i ^ j.toNat)) := opI fun _ _ _ _ _ _ _ hc q => pow_int_small hc.1 hc.2.1 hc.2.2 q
theorem unI {f : Value → Sem Value} {g : Int → Int}
    (rule : ∀ (i : Int) (t : Tok) (s : Shared) (Q : Value → Shared → Prop) (E : Value → Shared → Prop), Q (.int (g i) s.toks) { s with toks := s.toks + 1 } → wpAny (model X.prog X.w) X.A (f (.int i t)) Q E s) :
    UnR X f (rU fun i => .int (g i)) := by
  intro pins s σ H x v Q I rx h
  obtain ⟨i, rfl, q⟩ := h
  obtain ⟨t, rfl⟩ := rx
  exact rule i t s _ _ ⟨.int (g i), H, I.tok _, ⟨_, rfl⟩, q⟩
theorem un_neg : UnR X (unaryOp .USub) (rU fun i => .int (-i)) := unI fun _ _ _ _ _ q => neg_int q
end

/-- the scalars that == tells apart as data does -/
def scal : V → V → Bool
  | .non, .non => true | .non, .int _ => true | .int _, .non => true | .non, .bl _ => true | .bl _, .non => true | .non, .str _ => true | .str _, .non => true
  | .int _, .int _ => true | .bl _, .bl _ => true | .str _, .str _ => true | .byt _, .byt _ => true
  | .int _, .str _ => true | .str _, .int _ => true | .bl _, .str _ => true | .str _, .bl _ => true
  | _, _ => false
def rEq : R2 := fun x y H Q => scal x y = true ∧ Q (.bl (decide (x = y))) H
def rNe : R2 := fun x y H Q => scal x y = true ∧ Q (.bl (!decide (x = y))) H

theorem dec_int {i j : Int} : decide (V.int i = V.int j) = (i == j) := by
  rw [Bool.eq_iff_iff]
  simp
theorem dec_bl {i j : Bool} : decide (V.bl i = V.bl j) = (i == j) := by
  rw [Bool.eq_iff_iff]
  simp
theorem dec_str {i j : Str} : decide (V.str i = V.str j) = (i == j) := by
  rw [Bool.eq_iff_iff]
  simp
theorem dec_byt {i j : Array UInt8} : decide (V.byt i = V.byt j) = (i.toList == j.toList) := by
  rw [Bool.eq_iff_iff]
  cases i
  cases j
  simp

section
variable {X : Cx} {a b c : Expr} {ta tb tc : TE} {pos : Pos}
theorem fin_bl {pins : List (Addr × Obj)} {σ : St} {H : Hp} {s : Shared} {Q : VK} {k k' : Bool} (I : Inv X pins σ H s) (q : Q (.bl k) H) (e : k = k') : EP X pins σ Q (.bool k') s := by
  subst e
  exact ⟨.bl k, H, I, rfl, q⟩
theorem op_eq : OpR X (compareOp .Eq) rEq := by
  intro pins s σ H x y v u Q I rx ry h
  obtain ⟨hs, q⟩ := h
  cases x with
  | non =>
    cases rx
    cases y with
    | non => cases ry; exact PySem.EqNone.eq_none_none (fin_bl I q (by simp))
    | bl j => cases ry; exact PySem.EqNone.eq_none_bool (fin_bl I q (by simp))
    | int j => obtain ⟨t', rfl⟩ := ry; exact PySem.EqNone.eq_none_int (fin_bl I q (by simp))
    | str j => obtain ⟨t', rfl⟩ := ry; exact PySem.EqNone.eq_none_str (fin_bl I q (by simp))
    | _ => exact absurd (show false = true from hs) Bool.false_ne_true
  | bl i =>
    cases rx
    cases y with
    | non => cases ry; exact PySem.EqNone.eq_bool_none (fin_bl I q (by simp))
    | bl j => cases ry; exact eq_bool (fin_bl I q dec_bl)
    | str j => obtain ⟨t', rfl⟩ := ry; exact PySem.EqMixed.eq_bool_str (fin_bl I q (by simp))
    | _ => exact absurd (show false = true from hs) Bool.false_ne_true
  | int i =>
    obtain ⟨t, rfl⟩ := rx
    cases y with
    | non => cases ry; exact PySem.EqNone.eq_int_none (fin_bl I q (by simp))
    | int j => obtain ⟨t', rfl⟩ := ry; exact eq_int (fin_bl I q dec_int)
    | str j => obtain ⟨t', rfl⟩ := ry; exact PySem.EqMixed.eq_int_str (fin_bl I q (by simp))
    | _ => exact absurd (show false = true from hs) Bool.false_ne_true
  | str i =>
    obtain ⟨t, rfl⟩ := rx
    cases y with
    | non => cases ry; exact PySem.EqNone.eq_str_none (fin_bl I q (by simp))
    | bl j => cases ry; exact PySem.EqMixed.eq_str_bool (fin_bl I q (by simp))
    | int j => obtain ⟨t', rfl⟩ := ry; exact PySem.EqMixed.eq_str_int (fin_bl I q (by simp))
    | str j => obtain ⟨t', rfl⟩ := ry; exact eq_str (fin_bl I q dec_str)
    | _ => exact absurd (show false = true from hs) Bool.false_ne_true
  | byt i =>
    obtain ⟨t, rfl⟩ := rx
    cases y with
    | byt j => obtain ⟨t', rfl⟩ := ry; exact PySem.W.eq_bytes (fin_bl I q dec_byt)
    | _ => exact absurd (show false = true from hs) Bool.false_ne_true
  | _ => cases y <;> exact absurd (show false = true from hs) Bool.false_ne_true
theorem op_ne : OpR X (compareOp .NotEq) rNe := by
  intro pins s σ H x y v u Q I rx ry h
  obtain ⟨hs, q⟩ := h
  cases x with
  | non =>
    cases rx
    cases y with
    | non => cases ry; exact PySem.EqNone.ne_none_none (fin_bl I q (by simp))
    | bl j => cases ry; exact PySem.EqNone.ne_none_bool (fin_bl I q (by simp))
    | int j => obtain ⟨t', rfl⟩ := ry; exact PySem.EqNone.ne_none_int (fin_bl I q (by simp))
    | str j => obtain ⟨t', rfl⟩ := ry; exact PySem.EqNone.ne_none_str (fin_bl I q (by simp))
    | _ => exact absurd (show false = true from hs) Bool.false_ne_true
  | bl i =>
    cases rx
    cases y with
    | non => cases ry; exact PySem.EqNone.ne_bool_none (fin_bl I q (by simp))
    | bl j => cases ry; exact ne_bool (fin_bl I q (congrArg not dec_bl))
    | str j => obtain ⟨t', rfl⟩ := ry; exact PySem.EqMixed.ne_bool_str (fin_bl I q (by simp))
    | _ => exact absurd (show false = true from hs) Bool.false_ne_true
  | int i =>
    obtain ⟨t, rfl⟩ := rx
    cases y with
    | non => cases ry; exact PySem.EqNone.ne_int_none (fin_bl I q (by simp))
    | int j => obtain ⟨t', rfl⟩ := ry; exact ne_int (fin_bl I q (congrArg not dec_int))
    | str j => obtain ⟨t', rfl⟩ := ry; exact PySem.EqMixed.ne_int_str (fin_bl I q (by simp))
    | _ => exact absurd (show false = true from hs) Bool.false_ne_true
  | str i =>
    obtain ⟨t, rfl⟩ := rx
    cases y with
    | non => cases ry; exact PySem.EqNone.ne_str_none (fin_bl I q (by simp))
    | bl j => cases ry; exact PySem.EqMixed.ne_str_bool (fin_bl I q (by simp))
    | int j => obtain ⟨t', rfl⟩ := ry; exact PySem.EqMixed.ne_str_int (fin_bl I q (by simp))
    | str j => obtain ⟨t', rfl⟩ := ry; exact ne_str (fin_bl I q (congrArg not dec_str))
    | _ => exact absurd (show false = true from hs) Bool.false_ne_true
  | byt i =>
    obtain ⟨t, rfl⟩ := rx
    cases y with
    | byt j => obtain ⟨t', rfl⟩ := ry; exact PySem.W.ne_bytes (fin_bl I q (congrArg not dec_byt))
    | _ => exact absurd (show false = true from hs) Bool.false_ne_true
  | _ => cases y <;> exact absurd (show false = true from hs) Bool.false_ne_true

theorem op_lt : OpR X (compareOp .Lt) (rI0 fun i j => .bl (decide (i < j))) := opB0 fun _ _ _ _ _ _ _ q => lt_int q
/-- the one string within the other -/
theorem op_in_str : OpR X (compareOp .In) (fun x y H Q => ∃ i j, x = .str i ∧ y = .str j ∧ Q (.bl (!(Builtin.Str.occurrences j i 0 j.length 1).isEmpty)) H) := by
  intro pins s σ H x y v u Q I rx ry h
  obtain ⟨i, j, rfl, rfl, q⟩ := h
  obtain ⟨t, rfl⟩ := rx
  obtain ⟨t', rfl⟩ := ry
  exact in_str (fin_bl I q rfl)

/-- is, is not of two objects that are tracked lists or instances -/
def isObj : HO → Bool
  | .lst _ => true
  | .ins _ _ _ => true
  | _ => false
theorem nomark (b : Expr) {op : CmpOp} (h : op ≠ .In := by decide) (h2 : op ≠ .NotIn := by decide) : behindInMarks op b = false := by
  have e1 : (op == CmpOp.In) = false := by cases op <;> first | rfl | exact absurd rfl h
  have e2 : (op == CmpOp.NotIn) = false := by cases op <;> first | rfl | exact absurd rfl h2
  cases b <;> simp [behindInMarks, e1, e2]
/-- a comparison as a value; hm: nomark b, or (for in, not in) by with_unfolding_all rfl -/
theorem pe_cmpR {op : CmpOp} {r : R2} (ho : OpR X (compareOp op) r) (ha : PE X a ta) (hb : PE X b tb) (hm : behindInMarks op b = false) : PE X (.Compare a [op] [b] pos) (tOp r ta tb) := by
  intro pins s σ H Q I h
  exact wpAny_Compare1 (binT ha hb I h fun v u s2 x y H2 I2 rx ry q => ho pins s2 σ H2 x y v u Q I2 rx ry q) hm
/-- a reading of a value as a test -/
abbrev tTest (t : TE) : TT := fun σ H Q => t σ H fun x H' => ∃ k, x = .bl k ∧ Q k H'
theorem pt_cmpR {op : CmpOp} {r : R2} (ho : OpR X (compareOp op) r) (ha : PE X a ta) (hb : PE X b tb) (hm : behindInMarks op b = false) : PT X (.Compare a [op] [b] pos) (tTest (tOp r ta tb)) := by
  intro pins s σ H Q I h
  refine wpAny_isTrue_Compare1 (thn (ha pins s σ H _ I h) fun v s1 ⟨x, H1, I1, r1, q1⟩ => thn (hb pins s1 σ H1 _ I1 q1) fun u s2 ⟨y, H2, I2, r2, q2⟩ =>
    thn (ho pins s2 σ H2 x y v u _ I2 r1 r2 q2) fun c s3 ⟨z, H3, I3, r3, k, e, q3⟩ => ?_) hm
  subst e
  cases r3
  exact wpAny_truthy_bool ⟨H3, I3, q3⟩
/-- a op1 b op2 c -/
def tChain (r r' : R2) (ta tb tc : TE) : TE := fun σ H Q => ta σ H fun x H1 => tb σ H1 fun y H2 => r x y H2 fun z H3 => ∃ k, z = .bl k ∧
  (if k = true then tc σ H3 fun w' H4 => r' y w' H4 Q else Q (.bl false) H3)
/-- a value's truth by the abstract heap -/
def TruV (K : PySem.W.Frag) (x : V) (H : Hp) (k : Bool) : Prop :=
  match x with
  | .non => k = false
  | .bl b => k = b
  | .int i => k = (i != 0)
  | .str y => y.length ≤ sizeLine ∧ k = ((y.length : Int) != 0)
  | .byt y => y.size ≤ sizeLine ∧ k = ((y.size : Int) != 0)
  | .ref p => (∃ xs, SqL K H p xs ∧ k = !xs.isEmpty) ∨ (∃ xs, SqT K H p xs ∧ k = !xs.isEmpty) ∨ ∃ kvs, H p = some (.dK kvs) ∧ k = !kvs.isEmpty
  | _ => False
theorem isEmpty_kv {κ : Type} {kvs : List (κ × V)} {vs : List (κ × Value)} (r : KV kvs vs) : (!vs.isEmpty) = !kvs.isEmpty := by
  cases r <;> rfl
theorem isEmpty_of {xs : List V} {its : List Value} (r : Vals xs its) : (!its.toArray.isEmpty) = !xs.isEmpty := by
  cases r <;> simp
theorem line63 : (sizeLine : Nat) < 2 ^ 63 := by rw [sizeLine_eq]; decide
theorem tru_ok : TruR X (fun x H Q => ∃ k, TruV X.K x H k ∧ Q k H) := by
  intro pins s σ H x v Q I rx h
  obtain ⟨k, e, q⟩ := h
  have hl := line63
  have hs : sizeLine = 16777216 := sizeLine_eq
  cases x with
  | non =>
    cases rx
    have e' : k = false := e
    subst e'
    exact truthy_none ⟨H, I, q⟩
  | bl b =>
    cases rx
    have e' : k = b := e
    subst e'
    exact wpAny_truthy_bool ⟨H, I, q⟩
  | int i =>
    obtain ⟨t, rfl⟩ := rx
    have e' : k = (i != 0) := e
    subst e'
    exact PySem.P.truthy_int ⟨H, I, q⟩
  | str y =>
    obtain ⟨t, rfl⟩ := rx
    obtain ⟨hy, e'⟩ : y.length ≤ sizeLine ∧ k = ((y.length : Int) != 0) := e
    subst e'
    exact PySem.P.truthy_str (by omega) ⟨H, I.tok _, q⟩
  | byt y =>
    obtain ⟨t, rfl⟩ := rx
    obtain ⟨hy, e'⟩ : y.size ≤ sizeLine ∧ k = ((y.size : Int) != 0) := e
    subst e'
    exact PySem.W.truthy_bytes (by omega) ⟨H, I.tok _, q⟩
  | ref p =>
    cases rx
    have e' : (∃ xs, SqL X.K H p xs ∧ k = !xs.isEmpty) ∨ (∃ xs, SqT X.K H p xs ∧ k = !xs.isEmpty) ∨ ∃ kvs, H p = some (.dK kvs) ∧ k = !kvs.isEmpty := e
    rcases e' with ⟨xs, hx, e'⟩ | ⟨xs, hx, e'⟩ | ⟨kvs, hx, e'⟩
    · subst e'
      obtain ⟨its, r, pl, hz⟩ := I.list hx
      have hlen := r.length
      exact wpAny_truthy_list pl.isList (by simp only [List.size_toArray]; omega) ⟨H, I.tok _, by rw [isEmpty_of r]; exact q⟩
    · subst e'
      obtain ⟨its, r, pl, hz⟩ := I.tuple hx
      have hlen := r.length
      exact truthy_tuple pl (by simp only [List.size_toArray]; omega) ⟨H, I.tok _, by rw [isEmpty_of r]; exact q⟩
    · subst e'
      obtain ⟨hz, hS, vs, r, m⟩ : kvs.length ≤ sizeLine ∧ (p == sysModules) = false ∧ ∃ vs, KV kvs vs ∧ s.heap.DictOf (mixKind X.prog X.w) p vs := I.hok p _ hx
      have hlen : kvs.length = vs.length := Paired.length r
      exact wpAny_truthy_dict hS m (by omega) ⟨H, I.tok _, by rw [isEmpty_kv r]; exact q⟩
  | _ => exact (show False from e).elim
/-- any expression whose test is its value's truth (a name, a call, a subscript, a field ..: he by fun _ => rfl) -/
theorem pt_truth (ha : PE X a ta) (he : ∀ whole, isTrue a X.env whole = (do let v ← whole; standAt a.pos; holding [v] (truthy v))) :
    PT X a (fun σ H Q => ta σ H fun x H' => ∃ k, TruV X.K x H' k ∧ Q k H') := by
  intro pins s σ H Q I h
  exact isTrue_plain (thn (ha pins s σ H _ I h) fun v s1 ⟨x, H1, I1, r1, q1⟩ => tru_ok pins s1 σ H1 x v Q I1 r1 q1) (he _)

theorem op_add_str : OpR X (binaryOp .Add) (fun x y H Q => ∃ i j, x = .str i ∧ y = .str j ∧ i.length + j.length ≤ sizeLine ∧ Q (.str (i ++ j)) H) := by
  intro pins s σ H x y v u Q I rx ry h
  obtain ⟨i, j, rfl, rfl, hz, q⟩ := h
  obtain ⟨t, rfl⟩ := rx
  obtain ⟨t', rfl⟩ := ry
  exact add_str (fun t' tk => ⟨.str (i ++ j), H, I.tok _, ⟨_, rfl⟩, q⟩) hz
def PlainIxT (b : Expr) : Prop := ∀ o i, subscripted b false o i = operate [o, i] (getItem o i)
theorem vals1 {x : V} {us : List Value} (r : Vals [x] us) : ∃ u, us = [u] ∧ RelV x u := by
  cases r with
  | cons r1 r2 => cases r2; exact ⟨_, rfl, r1⟩
theorem vals2 {x y : V} {us : List Value} (r : Vals [x, y] us) : ∃ u w', us = [u, w'] ∧ RelV x u ∧ RelV y w' := by
  cases r with
  | cons r1 r2 =>
    cases r2 with
    | cons r3 r4 => cases r4; exact ⟨_, _, rfl, r1, r3⟩
/-- len of a str, a bytes, a list, a tuple -/
def LenV (K : PySem.W.Frag) (x : V) (H : Hp) (n : Nat) : Prop :=
  match x with
  | .str y => y.length ≤ sizeLine ∧ n = y.length
  | .byt y => y.size ≤ sizeLine ∧ n = y.size
  | .ref p => (∃ xs, SqL K H p xs ∧ n = xs.length) ∨ ∃ xs, SqT K H p xs ∧ n = xs.length
  | _ => False
end
end L2

namespace L2
open PySem PySem.Spec PyProof.Rows

structure ObjM (h : Heap) (x dx C : Addr) (mA : Str → Option Value) : Prop where
  obj : h.get? x = some (PySem.W.instObj C dx)
  ns : h.Ns1 dx mA
  ne : dx ≠ x

theorem lookIn_ns {h : Heap} {dx : Addr} {mA : Str → Option Value} (n : h.Ns1 dx mA) : ∃ od, h.get? dx = some od ∧ ∀ name, PySem.W.lookIn name od = some (mA name) := by
  obtain ⟨o, es, ep, ho, hd, hk, _, hm⟩ := n
  refine ⟨o, ho, fun name => ?_⟩
  have e := hm name
  unfold nsFind findBy at e
  rw [← Array.find?_toList] at e
  unfold PySem.W.lookIn
  rw [hd]
  dsimp only
  split
  · rename_i y q
    rw [q] at e
    exact congrArg some e
  · rename_i q
    rw [q] at e
    have a : es.toList.any (·.refKey) = false := by
      rw [List.any_eq_false]
      intro y hy
      obtain ⟨z, t, hkey⟩ := hk y (Array.mem_toList_iff.mp hy)
      simp [DictEntry.refKey, hkey]
    have a' : ¬ es.toList.any (·.refKey) = true := by rw [a]; exact Bool.false_ne_true
    rw [if_neg a']
    exact congrArg some e

theorem ObjM.look {h : Heap} {x dx C : Addr} {mA : Str → Option Value} (I : ObjM h x dx C mA) : ∃ od, PySem.W.InstAt h x (PySem.W.instObj C dx) C (some od) ∧ ∀ name, PySem.W.lookIn name od = some (mA name) :=
  let ⟨od, ho, hl⟩ := lookIn_ns I.ns
  ⟨od, ⟨I.obj, rfl, rfl, ho⟩, hl⟩

section
variable {prog : Program} {w : World} {A : Around} {E : Value → Shared → Prop} {s : Shared} {K : PySem.W.Frag} {x dx C f : Addr} {mA : Str → Option Value} {name : Str} {v : Value}

end

def putF (f : Str) (v : V) : List (Str × V) → List (Str × V)
  | [] => [(f, v)]
  | (g, x) :: r => if g = f then (g, v) :: r else (g, x) :: putF f v r
theorem RelO.some_of {v : V} {o : Option Value} (r : RelO (some v) o) : ∃ u, o = some u ∧ RelV v u := by
  cases o with
  | none => exact (show False from r).elim
  | some u => exact ⟨u, rfl, r⟩
section
variable {P : Program} {w : World} {H H' : Hp} {h h' : Heap} {a C dx : Addr} {fs fs' : List (Str × V)}
end

structure Cls (K : PySem.W.Frag) (C : Addr) : Prop where
  pg : PySem.W.plainGet K C Str.empty = true
  hd : PySem.W.hasDictIn K C = true
  po : PySem.W.plainOver K C = true
  sa : PySem.W.findIn K (.ref C) "__setattr__" = some (some (.builtin "object.__setattr__"))
theorem Cls.get {K : PySem.W.Frag} {C : Addr} (c : Cls K C) (f : Str) : PySem.W.plainGet K C f = true := c.pg
/-- no class of it has the name -/
def NoAttr (K : PySem.W.Frag) (C : Addr) (f : Str) : Prop := PySem.W.findIn K (.ref C) f = some none
/-- a constant of the class -/
structure Con (K : PySem.W.Frag) (C : Addr) (f : Str) (v : V) (u : Value) : Prop where
  at_ : PySem.W.findIn K (.ref C) f = some (some u)
  rel : RelV v u
  get : PySem.W.specialIn K u "__get__" = some none
  cp : PySem.W.copiedNames.contains f = false
/-- a method: a plain def of the class or of one above it -/
structure Meth (K : PySem.W.Frag) (C : Addr) (m : Str) (f : Addr) : Prop where
  at_ : PySem.W.findIn K (.ref C) m = some (some (.ref f))
  fn : PySem.W.isFn K (.ref f) = true
  kp : PySem.W.keepIn K (.ref f) = true

section
variable {X : Cx} {pins : List (Addr × Obj)} {σ : St} {H : Hp} {s : Shared} {a C dx : Addr} {fs : List (Str × V)} {f : Str} {v : V} {A : Around} {E : Value → Shared → Prop}

/-- a new instance, tracked, without attributes -/
theorem Inv.made (I : Inv X pins σ H s) : Inv X pins σ (upd (upd H s.heap.objs.size (.own (s.heap.objs.size + 1))) (s.heap.objs.size + 1) (.ins C s.heap.objs.size []))
    { s with heap := (s.heap.push PySem.W.emptyDict).push (PySem.W.instObj C s.heap.objs.size) } := by
  have e1 : (s.heap.push PySem.W.emptyDict).get? s.heap.objs.size = some PySem.W.emptyDict := Heap.get?_push_size s.heap rfl
  have e2 : ((s.heap.push PySem.W.emptyDict).push (PySem.W.instObj C s.heap.objs.size)).get? (s.heap.objs.size + 1) = some (PySem.W.instObj C s.heap.objs.size) := by
    have := Heap.get?_push_size (s.heap.push PySem.W.emptyDict) (o := PySem.W.instObj C s.heap.objs.size) rfl
    rwa [Heap.size_push] at this
  have e3 : (s.heap.push PySem.W.emptyDict).Ns s.heap.objs.size (fun _ => none) := ⟨PySem.W.emptyDict, #[], _, e1, rfl, (fun e he => absurd he (by simp)), fun _ => rfl⟩
  have I1 := I.laid (a := s.heap.objs.size) (o := .own (s.heap.objs.size + 1)) (h' := s.heap.push PySem.W.emptyDict) (t' := s.toks) (fun b u q => Heap.get?_push_of_some _ q) (Nat.le_refl _) ⟨_, e1⟩
  refine I1.laid (a := s.heap.objs.size + 1) (o := .ins C s.heap.objs.size []) (t' := s.toks) (fun b u q => Heap.get?_push_of_some _ q) (Nat.le_of_eq (Heap.size_push _ _)) ?_
  have ne : s.heap.objs.size ≠ s.heap.objs.size + 1 := Nat.ne_of_lt (Nat.lt_succ_self _)
  refine ⟨by rw [upd_ne ne, upd_same], Nat.zero_le _, ne, e2, fun _ => none, (Heap.Ns1.of_empty e3).at fun o q => Heap.get?_push_of_some _ q, fun _ => True.intro, fun y hy => absurd rfl hy⟩

end

/-- e.f, an attribute of the instance -/
def tFld (K : PySem.W.Frag) (ta : TE) (f : Str) : TE := fun σ H Q => ta σ H fun x H1 => ∃ a C dx fs v, x = .ref a ∧ H1 a = some (.ins C dx fs) ∧ Cls K C ∧ NoAttr K C f ∧ fs.lookup f = some v ∧ Q v H1
/-- e.f, a constant of the class -/
def tCon (K : PySem.W.Frag) (ta : TE) (f : Str) : TE := fun σ H Q => ta σ H fun x H1 => ∃ a C dx fs v u, x = .ref a ∧ H1 a = some (.ins C dx fs) ∧ Cls K C ∧ Con K C f v u ∧ fs.lookup f = none ∧ Q v H1
/-- e.f = value -/
def sFld (K : PySem.W.Frag) (ta tv : TE) (f : Str) : TS := fun D σ H => tv σ H fun y H1 => ta σ H1 fun x H2 => ∃ a C dx fs, x = .ref a ∧ H2 a = some (.ins C dx fs) ∧ Cls K C ∧ NoAttr K C f ∧ fs.length < 1000 ∧
  D.nx σ (upd H2 a (.ins C dx (putF f y fs)))
/-- an augmented operator on two values -/
def InOp (X : Cx) (op : Operator) (rd : V → V → Hp → VK → Prop) : Prop :=
  ∀ (pins : List (Addr × Obj)) (s : Shared) (σ : St) (H : Hp) (x y : V) (u v : Value) (Q : VK), Inv X pins σ H s → RelV x u → RelV y v → rd x y H Q → wpAny (model X.prog X.w) X.A (inplaceOp op u v) (EP X pins σ Q) X.xe s
/-- e.f op= value -/
def sFldAug (K : PySem.W.Frag) (ta tv : TE) (rd : V → V → Hp → VK → Prop) (f : Str) : TS := fun D σ H => ta σ H fun x H1 => ∃ a C dx fs v, x = .ref a ∧ H1 a = some (.ins C dx fs) ∧ Cls K C ∧ NoAttr K C f ∧ fs.lookup f = some v ∧
  tv σ H1 fun y H2 => rd v y H2 fun z H3 => ∃ dx' fs', H3 a = some (.ins C dx' fs') ∧ fs'.length < 1000 ∧ D.nx σ (upd H3 a (.ins C dx' (putF f z fs')))

section
variable {X : Cx} {o e value : Expr} {f : Str} {pos pos' tpos : Pos} {ta tv : TE}
def rAdd : V → V → Hp → VK → Prop := fun x y H Q => ∃ i j, x = .int i ∧ y = .int j ∧ Q (.int (i + j)) H
def rSub : V → V → Hp → VK → Prop := fun x y H Q => ∃ i j, x = .int i ∧ y = .int j ∧ Q (.int (i - j)) H
end

section
variable {X : Cx} {pins : List (Addr × Obj)} {σ : St} {H : Hp} {s : Shared} {A : Around} {E : Value → Shared → Prop} {Q : Value → Shared → Prop} {c : Value} {b : Bool}
/-- the type of a value, as the fragment's deciders take it; for an instance its class -/
inductive TyOf (K : PySem.W.Frag) (H : Hp) : V → Value → Prop where
  | non : TyOf K H .non (.type "NoneType")
  | bl (x : Bool) : TyOf K H (.bl x) (.type "bool")
  | int (i : Int) : TyOf K H (.int i) (.type "int")
  | str (x : Str) : TyOf K H (.str x) (.type "str")
  | flt (x : UInt64) : TyOf K H (.flt x) (.type "float")
  | lst {a : Addr} {xs : List V} (e : H a = some (.lst xs)) : TyOf K H (.ref a) (.type "list")
  | frz {a : Addr} {o : Obj} {xs : List V} (e : H a = some (.frz o (.lst xs))) : TyOf K H (.ref a) (.type "list")
  | tup {a : Addr} {xs : List V} (e : H a = some (.tup xs)) : TyOf K H (.ref a) (.type "tuple")
  | dK {a : Addr} {kvs : List (Key × V)} (e : H a = some (.dK kvs)) : TyOf K H (.ref a) (.type "dict")
  | dT {a : Addr} {kvs : List (List Key × V)} (e : H a = some (.dT kvs)) : TyOf K H (.ref a) (.type "dict")
  | ins {a C dx : Addr} {fs : List (Str × V)} (e : H a = some (.ins C dx fs)) (cl : Cls K C) (ha : PySem.W.findIn K (.ref C) "__class__" = some (some (.builtin "object.__class__")))
      (hn : PySem.W.specialIn K (.builtin "object.__class__") "__get__" = some (some (.builtin "getset_descriptor.__get__"))) (htk : PySem.W.takesIn K (.builtin "object.__class__") = some true)
      (hm : PySem.W.mroIn K C (.type "object") = some true) : TyOf K H (.ref a) (.ref C)
end
end L2

namespace L2
open PySem PySem.Spec PyProof.Rows

structure Room (k : Nat) (A : Around) : Prop where
  hd : A.handled = none
  dp : A.depth + 3 * k + 5 < recursionLimit
  un : A.units + 16 * k + 200 < cLine
theorem Room.mono {j k : Nat} {A : Around} (r : Room k A) (h : j ≤ k) : Room j A := ⟨r.hd, by have := r.dp; omega, by have := r.un; omega⟩
theorem Room.deeper {k : Nat} {A : Around} (r : Room (k + 1) A) (env : Env) : Room k (A.deeper env) :=
  ⟨r.hd, by have := r.dp; show A.depth + 1 + 3 * k + 5 < _; omega, by have := r.un; show A.units + 3 + 16 * k + 200 < _; omega⟩
theorem Room.in1 {k : Nat} {A : Around} (r : Room (k + 1) A) : Room k A.in1 :=
  ⟨r.hd, by have := r.dp; show A.depth + 3 * k + 5 < _; omega, by have := r.un; show A.units + 1 + 16 * k + 200 < _; omega⟩
theorem Room.depth {k : Nat} {A : Around} (r : Room k A) : A.depth < recursionLimit := by have := r.dp; omega
theorem Room.units {k : Nat} {A : Around} (r : Room k A) : A.units + 64 < cLine := by have := r.un; omega
abbrev tNil : TA := fun _ H Q => Q [] H
abbrev tCons (ta : TE) (tr : TA) : TA := fun σ H Q => ta σ H fun x H1 => tr σ H1 fun xs H2 => Q (x :: xs) H2
section
variable {X : Cx} {e : Expr} {es : List Expr} {te : TE} {t : TA} {pos : Pos}
theorem pa_nil : PA X [] tNil := fun _ _ _ _ H Q I h => Calls.spliced_nil ⟨[], H, I, .nil, h⟩
theorem pa_cons (ha : PE X e te) (hr : PA X es t) (hs : starEach (e :: es) X.env = (false, eval e X.env) :: starEach es X.env := by rfl) : PA X (e :: es) (tCons te t) := by
  intro pos pins s σ H Q I h
  rw [hs]
  show wpAny _ _ (spliced ((false, eval e X.env) :: backTo pos (starEach es X.env))) _ _ s
  refine Calls.spliced_cons (thn (ha pins s σ H _ I h) fun u s1 ⟨x, H1, I1, r1, q1⟩ => ?_)
  exact thn (hr pos pins s1 σ H1 _ I1 q1) fun us s2 ⟨xs, H2, I2, r2, q2⟩ => ⟨x :: xs, H2, I2, .cons r1 r2, q2⟩

/-- a tuple, a list of written items -/
abbrev tTup (t : TA) : TE := fun σ H Q => t σ H fun xs H1 => xs.length ≤ sizeLine ∧ ∀ p, H1 p = none → Q (.ref p) (upd H1 p (.tup xs))
abbrev tLst (t : TA) : TE := fun σ H Q => t σ H fun xs H1 => xs.length ≤ sizeLine ∧ ∀ p, H1 p = none → Q (.ref p) (upd H1 p (.lst xs))
theorem pe_tup {x1} (h : PA X es t) : PE X (.Tuple es x1 pos) (tTup t) := by
  intro pins s σ H Q I hq
  refine wpAny_Tuple_spliced (thn (h pos pins s σ H _ I hq) fun us s1 ⟨xs, H1, I1, r, z, q⟩ => ⟨by rw [← r.length]; exact z, ?_⟩)
  have hf : H1 s1.heap.objs.size = none := I1.hok.fresh (Nat.le_refl _)
  refine ⟨.ref s1.heap.objs.size, upd H1 s1.heap.objs.size (.tup xs), I1.laid (t' := s1.toks) (fun b u e => Heap.get?_push_of_some _ e) (Nat.le_refl _) ?_, rfl, q _ hf⟩
  exact ⟨z, us, r, ⟨_, Heap.get?_push_size _ rfl, rfl, _, rfl⟩⟩
theorem pe_lst (h : PA X es t) : PE X (.List es pos) (tLst t) := by
  intro pins s σ H Q I hq
  refine wpAny_List_spliced (thn (h pos pins s σ H _ I hq) fun us s1 ⟨xs, H1, I1, r, z, q⟩ => ⟨by rw [← r.length]; exact z, ?_⟩)
  have hf : H1 s1.heap.objs.size = none := I1.hok.fresh (Nat.le_refl _)
  refine ⟨.ref s1.heap.objs.size, upd H1 s1.heap.objs.size (.lst xs), I1.laid (t' := s1.toks) (fun b u e => Heap.get?_push_of_some _ e) (Nat.le_refl _) ?_, rfl, q _ hf⟩
  exact ⟨z, us, 0, r, Heap.get?_push_size _ rfl⟩
end

/-- a def's promise: the bound arguments in the parameters' order, the heap, the wanted end, the wanted exception -/
abbrev Sp := List V → Hp → VK → XK → Prop
/-- how an exception lies behind a call (file 08 gives it): the callers' frames, abstract heap and state ahead of the call, the wish, the exception, the state -/
abbrev CXT := List Env → Hp → Shared → XK → Value → Shared → Prop

/-- the state at a call -/
structure Env0 (P : Program) (w : World) (K : PySem.W.Frag) (mg : Str → Option Value) (base : Heap) (A : Around) (outer : List Env) (s : Shared) (H : Hp) : Prop where
  frames : A.frames = some outer
  mod : Mod K mg base
  bs : ∀ b o, base.get? b = some o → s.heap.get? b = some o ∧ H b = none
  bsz : base.objs.size ≤ s.heap.objs.size
  funs : s.heap.FunFrames base outer
  frf : ∀ b ∈ frs outer, H b = none
  hok : HOk P w H s.heap
  bare : AllBare s.gens
/-- a call's end -/
def CE (outer : List Env) (P : Program) (w : World) (H : Hp) (s : Shared) (Q : VK) (u : Value) (s' : Shared) : Prop :=
  ∃ v H', s'.os = s.os ∧ AllBare s'.gens ∧ Un (frs outer) [] H H' s.heap s'.heap ∧ HOk P w H' s'.heap ∧ RelV v u ∧ Q v H'
def CR (CX : CXT) (outer : List Env) (P : Program) (w : World) (H : Hp) (s : Shared) (Q : VK) (E : XK) (r : Result) (s' : Shared) : Prop :=
  match r with
  | .ok (.ret u) => CE outer P w H s Q u s'
  | .ok _ => False
  | .error e => CX outer H s E e s'
structure FnOk (P : Program) (w : World) (K : PySem.W.Frag) (mg : Str → Option Value) (base : Heap) (CX : CXT) (k : Nat) (f : Addr) (fd : FuncData) (ps : List Str) (sp : Sp) : Prop where
  len : ∀ vs H Q E, sp vs H Q E → vs.length = ps.length
  run : ∀ (A : Around) (outer : List Env) (s : Shared) (H : Hp) (args : Args) (us : List Value) (vs : List V) (Q : VK) (E : XK), Room k A → Env0 P w K mg base A outer s H → BindsTo s fd args (ps.zip us) → Vals vs us → sp vs H Q E →
    codeAny (model P w) A (.call (.ref f) args) (CR CX outer P w H s Q E) s
theorem FnOk.mono {P : Program} {w : World} {K : PySem.W.Frag} {mg : Str → Option Value} {base : Heap} {CX : CXT} {j k : Nat} {f : Addr} {fd : FuncData} {ps : List Str} {sp : Sp} (F : FnOk P w K mg base CX j f fd ps sp) (h : j ≤ k) :
    FnOk P w K mg base CX k f fd ps sp := ⟨F.len, fun A outer s H args us vs Q E hr => F.run A outer s H args us vs Q E (hr.mono h)⟩
/-- a weaker promise -/
theorem FnOk.imp {P : Program} {w : World} {K : PySem.W.Frag} {mg : Str → Option Value} {base : Heap} {CX : CXT} {k : Nat} {f : Addr} {fd : FuncData} {ps : List Str} {sp sp' : Sp} (F : FnOk P w K mg base CX k f fd ps sp)
    (h : ∀ vs H Q E, sp' vs H Q E → sp vs H Q E) : FnOk P w K mg base CX k f fd ps sp' :=
  ⟨fun vs H Q E q => F.len vs H Q E (h _ _ _ _ q), fun A outer s H args us vs Q E hr he hb hv hs => F.run A outer s H args us vs Q E hr he hb hv (h _ _ _ _ hs)⟩

theorem Env0.in1 {P : Program} {w : World} {K : PySem.W.Frag} {mg : Str → Option Value} {base : Heap} {A : Around} {outer : List Env} {s : Shared} {H : Hp} (e : Env0 P w K mg base A outer s H) :
    Env0 P w K mg base A.in1 outer s H := ⟨e.frames, e.mod, e.bs, e.bsz, e.funs, e.frf, e.hok, e.bare⟩

section
variable {X : Cx} {pins : List (Addr × Obj)} {σ : St} {H : Hp} {s s' : Shared}
/-- from a body: what a callee wants -/
theorem Inv.env0 (I : Inv X pins σ H s) : Env0 X.prog X.w X.K X.mg X.base X.A X.stack s H :=
  ⟨I.ok.frames, I.ok.mod, I.bs, Nat.le_trans I.ok.bsz I.sz, I.stack, I.stkFree, I.hok, I.bare⟩
/-- behind a call -/
theorem Inv.after {Q : VK} {u : Value} (I : Inv X pins σ H s) (h : CE X.stack X.prog X.w H s Q u s') : EP X pins σ Q u s' := by
  obtain ⟨v, H', os, bare, un, hok, r, q⟩ := h
  obtain ⟨hh, g, d, t, os'⟩ := s'
  obtain rfl : os' = s.os := os
  exact ⟨v, H', I.call (h' := hh) (g' := g) (d' := d) (t' := t) (ch := []) un hok bare (fun b z => absurd z (by simp)), r, q⟩
end

/-- f(..): the written arguments, then the defaults dvs; E: what is wanted of an exception -/
abbrev tCall (sp : Sp) (dvs : List V) (E : XK) (t : TA) : TE := fun σ H Q => t σ H fun vs H1 => sp (vs ++ dvs) H1 Q E
/-- o.m(..) of an instance of the class at C -/
def tMeth (C : Addr) (m : Str) (sp : Sp) (dvs : List V) (E : XK) (ta : TE) (t : TA) : TE := fun σ H Q => ta σ H fun x H1 => ∃ a dx fs, x = .ref a ∧ H1 a = some (.ins C dx fs) ∧ fs.lookup m = none ∧
  t σ H1 fun vs H2 => sp (x :: (vs ++ dvs)) H2 Q E
/-- C(..): a new instance and its dict, then __init__ -/
def tMake (C : Addr) (sp : Sp) (dvs : List V) (E : XK) (t : TA) : TE := fun σ H Q => t σ H fun vs H1 => ∀ x dx, H1 x = none → H1 dx = none → dx ≠ x →
  sp (.ref x :: (vs ++ dvs)) (upd (upd H1 dx (.own x)) x (.ins C dx [])) (fun v H2 => v = .non ∧ Q (.ref x) H2) E

/-- how the parameters are bound: us the positional arguments, kw the keywords' values by name, ds the defaults that fill up -/
def Binds (K : PySem.W.Frag) (fd : FuncData) (ps : List Str) (ds : List Value) : Prop :=
  ∀ (s : Shared) (us : List Value), K.In s.heap → (us ++ ds).length = ps.length → BindsTo s fd ⟨us, []⟩ (ps.zip (us ++ ds))
/-- every parameter is given -/
theorem Binds.all {K : PySem.W.Frag} {fd : FuncData} {ps : List Str} (h : ∀ us : List Value, us.length = ps.length → bindArgs fd ⟨us, []⟩ = pure (ps.zip us)) : Binds K fd ps [] := fun s us _ hl => by
  rw [List.append_nil] at hl ⊢
  exact .of_eq (h us hl)

/-- an exception of a callee reaches what this body wants of exceptions -/
def Passes (CX : CXT) (X : Cx) (E : XK) : Prop := ∀ (pins : List (Addr × Obj)) (σ : St) (H : Hp) (s : Shared) (e : Value) (s' : Shared), Inv X pins σ H s → CX X.stack H s E e s' → X.xe e s'

section
variable {X : Cx} {CX : CXT} {k : Nat} {f C : Addr} {fd : FuncData} {ps : List Str} {sp : Sp} {dvs : List V} {ds : List Value} {E : XK} {x m : Str} {p pos apos : Pos} {e o : Expr} {es : List Expr} {ta : TE} {t : TA}

/-- the callee runs -/
theorem run_fn {pins : List (Addr × Obj)} {σ : St} {H : Hp} {s : Shared} {Q : VK} {us : List Value} {vs : List V} (F : FnOk X.prog X.w X.K X.mg X.base CX k f fd ps sp) (hr : Room k X.A) (hb : Binds X.K fd ps ds) (hd : Vals dvs ds) (hx : Passes CX X E)
    (I : Inv X pins σ H s) (r : Vals vs us) (h : sp (vs ++ dvs) H Q E) : wpAny (model X.prog X.w) X.A (call (.ref f) us) (EP X pins σ Q) X.xe s := by
  have r2 : Vals (vs ++ dvs) (us ++ ds) := r.append hd
  have hl : (us ++ ds).length = ps.length := by rw [← r2.length]; exact F.len _ _ _ _ h
  refine wpAny_call (codeAny_mono (F.run X.A X.stack s H ⟨us, []⟩ (us ++ ds) (vs ++ dvs) Q E hr I.env0 (hb s us I.kIn hl) r2 h) fun r s' hq => ?_)
  cases r with
  | error e => exact hx pins σ H s e s' I hq
  | ok fl =>
    cases fl with
    | ret u => exact I.after hq
    | next => exact False.elim hq
    | brk => exact False.elim hq
    | cont => exact False.elim hq

theorem pe_call (F : FnOk X.prog X.w X.K X.mg X.base CX k f fd ps sp) (hr : Room k X.A) (hg : Gl X x) (hm : X.mg x = some (.ref f)) (hk : PySem.W.keepIn X.K (.ref f) = true) (hb : Binds X.K fd ps ds) (hd : Vals dvs ds) (hx : Passes CX X E)
    (ha : PA X (e :: es) t) (hdb : (x == ("__debug__" : Str)) = false := by decide) (he : starEach (e :: es) X.env = (false, eval e X.env) :: starEach es X.env := by rfl) (hpl : (backTo pos (starEach es X.env)).any (·.1) = false := by rfl) :
    PE X (.Call (.Name x p) (e :: es) [] pos) (tCall sp dvs E t) := by
  intro pins s σ H Q I h
  refine wpAny_Call_Name_kw (ld_glob I hg hm ?_ hdb)
  refine PySem.W.callWith_K (h₀ := X.base) I.ok.mod.kin hk (thn (ha pos pins s σ H _ I h) fun us s1 ⟨vs, H1, I1, r, q⟩ => ⟨I1.kIn, ?_⟩) he hpl
  exact run_fn F hr hb hd hx I1 r q
/-- what a class must have to be made -/
structure Mk (K : PySem.W.Frag) (C f : Addr) : Prop where
  makes : PySem.W.makesIn K C = true
  init : PySem.W.findIn K (.ref C) "__init__" = some (some (.ref f))
  fn : PySem.W.isFn K (.ref f) = true
  kp : PySem.W.keepIn K (.ref C) = true

end

/-- the values of the keywords, from the left -/
def PK (X : Cx) (kws : List Keyword) (t : TA) : Prop :=
  ∀ (pos : Pos) (pins : List (Addr × Obj)) (s : Shared) (σ : St) (H : Hp) (Q : List V → Hp → Prop), Inv X pins σ H s → t σ H Q → wpAny (model X.prog X.w) X.A (evalAll ((backToKw pos (keywordEach kws X.env)).map (·.2))) (AP X pins σ Q) X.xe s
section
variable {X : Cx} {CX : CXT} {k : Nat} {f C : Addr} {fd : FuncData} {ps ks : List Str} {sp : Sp} {E : XK} {x m : Str} {p pos apos kpos : Pos} {e o : Expr} {es : List Expr} {kws : List Keyword} {te ta : TE} {t tk : TA} {nm : Option Str}
/-- how a call with keywords binds: g puts the positional values us and the keywords' values ws (names ks) in the parameters' order, defaults among them -/
structure KBinds (K : PySem.W.Frag) (fd : FuncData) (ps ks : List Str) (g : List Value → List Value → List Value) (gV : List V → List V → List V) : Prop where
  to : ∀ (s : Shared) (us ws : List Value), K.In s.heap → (g us ws).length = ps.length → BindsTo s fd ⟨us, ks.zip ws⟩ (ps.zip (g us ws))
  rel : ∀ {vs : List V} {us : List Value} {zs : List V} {ws : List Value}, Vals vs us → Vals zs ws → Vals (gV vs zs) (g us ws)
def tCallK (sp : Sp) (gV : List V → List V → List V) (E : XK) (t tk : TA) : TE := fun σ H Q => t σ H fun vs H1 => tk σ H1 fun zs H2 => sp (gV vs zs) H2 Q E
variable {g : List Value → List Value → List Value} {gV : List V → List V → List V}
end

/-- names: the parameters first -/
structure FnScope (N P : List Str) (sc : Scope) : Prop where
  kind : sc.kind = .function
  co : sc.isCoroutine = false
  gen : sc.isGenerator = false
  nd : N.Nodup
  pre : N.take P.length = P
  par : ∀ x ∈ P, sc.names.lookup x = some .local ∨ sc.names.lookup x = some .cell
  nofree : ∀ y ∈ sc.names, y.2 ≠ .free

theorem bindL_out {kindOf : Str → Option NameKind} {x : Str} : ∀ {binds : List (Str × Value)} {m : Str → Option Value}, (∀ v, (x, v) ∉ binds) → bindL kindOf binds m x = m x
  | [], _, _ => rfl
  | (n, v) :: r, m, h => by
    unfold bindL
    rw [bindL_out fun w hw => h w (List.mem_cons_of_mem _ hw)]
    split
    · have : x ≠ n := by rintro rfl; exact h v List.mem_cons_self
      simp [this]
    · rfl
theorem bindC_out {kindOf : Str → Option NameKind} {x : Str} : ∀ {binds : List (Str × Value)} {m : Str → Option Value}, (∀ v, (x, v) ∉ binds) → bindC kindOf binds m x = m x
  | [], _, _ => rfl
  | (n, v) :: r, m, h => by
    unfold bindC
    rw [bindC_out fun w hw => h w (List.mem_cons_of_mem _ hw)]
    split
    · rfl
    · have : x ≠ n := by rintro rfl; exact h v List.mem_cons_self
      simp [this]
theorem bindL_get {kindOf : Str → Option NameKind} {x : Str} {v : Value} : ∀ {P : List Str} {vs : List Value} {i : Nat} {m : Str → Option Value}, P.Nodup → P[i]? = some x → vs[i]? = some v → kindOf x = some .local →
    bindL kindOf (P.zip vs) m x = some v
  | [], _, _, _, _, h, _, _ => by simp at h
  | _ :: _, [], _, _, _, _, h, _ => by simp at h
  | p :: P, w :: vs, 0, m, nd, h1, h2, hk => by
    simp at h1 h2; subst h1; subst h2
    show bindL kindOf ((p, w) :: P.zip vs) m p = _
    unfold bindL
    rw [bindL_out fun v hv => (List.nodup_cons.mp nd).1 (List.of_mem_zip hv).1, if_pos hk]
    simp
  | p :: P, w :: vs, i + 1, m, nd, h1, h2, hk => by
    show bindL kindOf ((p, w) :: P.zip vs) m x = _
    unfold bindL
    exact bindL_get (i := i) (List.nodup_cons.mp nd).2 (by simpa using h1) (by simpa using h2) hk
theorem bindC_get {kindOf : Str → Option NameKind} {x : Str} {v : Value} : ∀ {P : List Str} {vs : List Value} {i : Nat} {m : Str → Option Value}, P.Nodup → P[i]? = some x → vs[i]? = some v → kindOf x ≠ some .local →
    bindC kindOf (P.zip vs) m x = some v
  | [], _, _, _, _, h, _, _ => by simp at h
  | _ :: _, [], _, _, _, _, h, _ => by simp at h
  | p :: P, w :: vs, 0, m, nd, h1, h2, hk => by
    simp at h1 h2; subst h1; subst h2
    show bindC kindOf ((p, w) :: P.zip vs) m p = _
    unfold bindC
    rw [bindC_out fun v hv => (List.nodup_cons.mp nd).1 (List.of_mem_zip hv).1, if_neg hk]
    simp
  | p :: P, w :: vs, i + 1, m, nd, h1, h2, hk => by
    show bindC kindOf ((p, w) :: P.zip vs) m x = _
    unfold bindC
    exact bindC_get (i := i) (List.nodup_cons.mp nd).2 (by simpa using h1) (by simpa using h2) hk

/-- the names' values at the entry -/
def start (N : List Str) (vs : List V) : St := vs.map some ++ List.replicate (N.length - vs.length) none

/-- the context of a def's body, at its entry; an exception leaves the frame, then lies as CX says -/
def cxOf (CX : CXT) (P : Program) (w : World) (K : PySem.W.Frag) (mg : Str → Option Value) (base : Heap) (N : List Str) (qual : Str) (scope : Scope) (f : Addr) (cd : Value) (A : Around) (outer : List Env) (s : Shared) (H : Hp) (E : XK) : Cx where
  prog := P
  w := w
  K := K
  mg := mg
  base := base
  A := A.deeper (envOfC qual scope s.heap.objs.size f cd)
  N := N
  s₀ := s
  H₀ := H
  env := envOfC qual scope s.heap.objs.size f cd
  outer := outer
  stack := envOfC qual scope s.heap.objs.size f cd :: outer
  ex := []
  calm := true
  fn := fun _ => true
  pn := []
  xe := fun e s' => wpAny (model P w) (A.deeper (envOfC qual scope s.heap.objs.size f cd)) (leaving (envOfC qual scope s.heap.objs.size f cd) e) (fun _ s'' => CX outer H s E e s'') (fun e' s'' => CX outer H s E e' s'') s'

theorem cell_has {sc : Scope} {n : Nat} {x : Str} (h : sc.names.lookup x = some .cell) : ∃ c, (cellsFrom n sc.names []).lookup x = some c := by
  have q := PySem.W.cellsFrom_some sc.names n [] (.inl h)
  exact Option.isSome_iff_exists.mp q

theorem inv_start {CX : CXT} {P : Program} {w : World} {K : PySem.W.Frag} {mg : Str → Option Value} {base : Heap} {N ps : List Str} {qual : Str} {scope : Scope} {f : Addr} {cd : Value} {A : Around} {outer : List Env} {s s1 : Shared} {H : Hp} {E : XK} {us : List Value} {vs : List V}
    (S : FnScope N ps scope) (hd : A.handled = none) (e0 : Env0 P w K mg base A outer s H) (hl : vs.length = ps.length) (r : Vals vs us)
    (x : InCallC s s.heap.objs.size (bindL (envOfC qual scope s.heap.objs.size f cd).kindOf (ps.zip us) fun _ => none) (cellsFrom (s.heap.objs.size + 1) scope.names []) (bindC (envOfC qual scope s.heap.objs.size f cd).kindOf (ps.zip us) fun _ => none) s1) :
    Inv (cxOf CX P w K mg base N qual scope f cd A outer s H E) [] (start N vs) H s1 := by
  have hpl : ps.length ≤ N.length := by have := congrArg List.length S.pre; rw [List.length_take] at this; omega
  obtain ⟨h1, tk, rfl, hk⟩ := x.done
  have noA : ∀ b : Addr, b ∉ (cxOf CX P w K mg base N qual scope f cd A outer s H E).ex := fun b z => absurd (show b ∈ ([] : List Addr) from z) (by simp)
  refine ⟨⟨e0.mod, S.kind, rfl, rfl, Nat.le_refl _, fun y z c h1 h2 => ?_, fun y hy => ?_, fun y c _ h => ?_, fun _ => hd, Around.frames_deeper e0.frames, .inr ⟨rfl, rfl⟩, fun b z => absurd z (noA b), e0.bs, e0.bsz, fun b _ _ => noA b, fun b z => absurd z (noA b), e0.funs, e0.frf⟩,
    rfl, e0.bare, Un.kept hk, ⟨_, x.toInCall.ns, fun i y v h1 h2 h3 => ?_⟩, fun y c h => ⟨_, x.cell y c h⟩, e0.hok.fresh (Nat.le_refl _), fun y c h => ?_, fun p hp => absurd (show p ∈ ([] : List (Addr × Obj)) from hp) (by simp), e0.hok.kept hk, ?_⟩
  · exact name_of_addr x.apart (PySem.mem_of_lookup h1) (PySem.mem_of_lookup h2)
  · have hy : scope.names.lookup y = some .cell ∨ scope.names.lookup y = some .free := hy
    rcases hy with hy | hy
    · exact cell_has hy
    · exact absurd rfl (S.nofree _ (PySem.mem_of_lookup hy))
  · exact Nat.le_of_lt (x.above y c (PySem.mem_of_lookup h))
  · have hi : i < vs.length := by
      unfold start at h2
      by_cases hi : i < vs.length
      · exact hi
      · rw [List.getElem?_append_right (by simpa using hi)] at h2
        rw [List.getElem?_replicate] at h2
        split at h2 <;> cases h2
    have ha : vs[i]? = some v := by
      unfold start at h2
      rw [List.getElem?_append_left (by simpa using hi), List.getElem?_map] at h2
      cases e : vs[i]? with
      | none => rw [e] at h2; cases h2
      | some a => rw [e] at h2; cases h2; rfl
    obtain ⟨u, hu, rv⟩ := r.get ha
    have hp : ps[i]? = some y := by
      rw [← S.pre, List.getElem?_take_of_lt (by omega)]; exact h1
    have ndP : ps.Nodup := by rw [← S.pre]; exact S.nd.sublist (List.take_sublist _ _)
    refine ⟨u, rv, ?_⟩
    rcases S.par y (List.mem_of_getElem? hp) with k | k
    · exact .inl ⟨k, bindL_get ndP hp hu k⟩
    · obtain ⟨c, e⟩ := cell_has (n := s.heap.objs.size + 1) k
      refine .inr ⟨.inl k, c, e, ?_⟩
      have q := x.cell y c e
      rw [bindC_get ndP hp hu (by show scope.names.lookup y ≠ _; rw [k]; decide)] at q
      exact q
  · exact e0.hok.fresh (Nat.le_of_lt (x.above y c (PySem.mem_of_lookup h)))
  · unfold start
    show _ = N.length
    rw [List.length_append, List.length_map, List.length_replicate]
    omega

/-- THE RULE: a def (or a method) of the text, by its body. The body's reading t is chosen for each entry; it is run at the parameters' values -/
theorem fn_of {CX : CXT} {P : Program} {w : World} {K : PySem.W.Frag} {mg : Str → Option Value} {base : Heap} {k : Nat} {f : Addr} {name qual : Str} {params : Arguments} {body : List Stmt} {scope : Scope} {dV kV doc pm cdv ct oc : Value} {an od : Option Addr}
    {osl : Array (Option Value)} {N ps : List Str} {sp : Sp} (lk : K.lookup f = some ⟨oc, od, .func (PySem.W.fnOf name qual params body scope dV kV doc pm an cdv ct), osl⟩) (hcd : PySem.W.codeIn K cdv qual = true) (S : FnScope N ps scope)
    (len : ∀ vs H Q E, sp vs H Q E → vs.length = ps.length)
    (hbody : ∀ (A : Around) (outer : List Env) (s : Shared) (H : Hp) (vs : List V) (Q : VK) (E : XK), Room k (A.deeper (envOfC qual scope s.heap.objs.size f cdv)) → sp vs H Q E →
      ∃ t, PSs (cxOf CX P w K mg base N qual scope f cdv A outer s H E) body t ∧ t { nx := fun _ H' => Q .non H', rt := Q } (start N vs) H) :
    FnOk P w K mg base CX (k + 1) f (PySem.W.fnOf name qual params body scope dV kV doc pm an cdv ct) ps sp := by
  refine ⟨len, fun A outer s H args us vs Q E hr e0 hb r hsp => ?_⟩
  have hl := len _ _ _ _ hsp
  have KX : K.In s.heap := e0.mod.kin.keeps fun b o e => (e0.bs b o e).1
  have lim : s.heap.NoLimit := e0.mod.nolimit.keeps fun b o e => (e0.bs b o e).1
  have hkind : ∀ y ∈ ps.zip us, scope.names.lookup y.1 = some .local ∨ (scope.names.lookup y.1 = some .cell ∧ ((cellsFrom (s.heap.objs.size + 1) scope.names []).lookup y.1).isSome = true) := fun ⟨n, v⟩ hy => by
    rcases S.par n (List.of_mem_zip hy).1 with q | q
    · exact .inl q
    · exact .inr ⟨q, PySem.W.cellsFrom_some _ _ _ (.inl q)⟩
  refine codeAny_call_function hr.depth (KX _ _ lk) rfl S.co S.gen rfl (PySem.W.codeRec_of KX hcd) (hb _ _ _ _ ?_)
  refine wpAny_newFunctionEnv_cells S.kind hkind fun env he s1 x => ?_
  subst he
  refine ⟨lim.keeps x.toInCall.keep, codeAny_func ?_⟩
  obtain ⟨t, ht, hq⟩ := hbody A outer s H vs Q E (hr.deeper _) hsp
  have I : Inv (cxOf CX P w K mg base N qual scope f cdv A outer s H E) [] (start N vs) H s1 := inv_start S hr.hd e0 hl r x
  refine wpAny_mono (ht [] s1 (start N vs) H _ I hq) (fun fl s' hs => ?_) fun e s' hs => hs
  have fin : ∀ {σ' : St} {H' : Hp} {v : V} {u : Value}, Inv (cxOf CX P w K mg base N qual scope f cdv A outer s H E) [] σ' H' s' → RelV v u → Q v H' → CE outer P w H s Q u s' :=
    fun {σ' H' v u} J rv q => ⟨v, H', J.os, J.bare, J.base, J.hok, rv, q⟩
  cases fl with
  | ret u =>
    obtain ⟨v, σ', H', J, rv, q⟩ := hs
    exact fin J rv q
  | next =>
    obtain ⟨σ', H', J, q⟩ := hs
    exact fin (v := V.non) (u := Value.none) J rfl q
  | brk =>
    obtain ⟨_, _, _, q⟩ := hs
    exact False.elim q
  | cont =>
    obtain ⟨_, _, _, q⟩ := hs
    exact False.elim q
end L2

namespace L2
open PySem PySem.Spec PyProof.Rows
section
variable {X : Cx} {x : Str} {p pos : Pos} {e : Expr} {es : List Expr} {t : TA} {id T : String} {r : List V → Hp → VK → Prop}

abbrev tCB (r : List V → Hp → VK → Prop) (t : TA) : TE := fun σ H Q => t σ H fun vs H1 => r vs H1 Q
/-- f(e, ..), f a built-in function -/
theorem pe_callB (hc : CallR X (.builtin id) r) (hg : Gl X x) (hm : X.mg x = none) (hv : bootBuiltins x = some (.builtin id)) (ha : PA X (e :: es) t) (hn : x ≠ "__name__" := by decide) (hdb : (x == ("__debug__" : Str)) = false := by decide)
    (he : starEach (e :: es) X.env = (false, eval e X.env) :: starEach es X.env := by rfl) (hpl : (backTo pos (starEach es X.env)).any (·.1) = false := by rfl) : PE X (.Call (.Name x p) (e :: es) [] pos) (tCB r t) := by
  intro pins s σ H Q I h
  refine wpAny_Call_Name_kw (ld_blt I hg hm hv ?_ hn hdb)
  exact PyProof.Rows.callWith_builtin1 (thn (ha pos pins s σ H _ I h) fun us s1 ⟨vs, H1, I1, r1, q1⟩ => hc pins s1 σ H1 vs us Q I1 r1 q1) he hpl
/-- T(e, ..), T a built-in type -/
theorem pe_callTy (hc : CallR X (.type T) r) (hg : Gl X x) (hm : X.mg x = none) (hv : bootBuiltins x = some (.type T)) (ha : PA X (e :: es) t) (hn : x ≠ "__name__" := by decide) (hdb : (x == ("__debug__" : Str)) = false := by decide)
    (he : starEach (e :: es) X.env = (false, eval e X.env) :: starEach es X.env := by rfl) (hpl : (backTo pos (starEach es X.env)).any (·.1) = false := by rfl) : PE X (.Call (.Name x p) (e :: es) [] pos) (tCB r t) := by
  intro pins s σ H Q I h
  refine wpAny_Call_Name_kw (ld_blt I hg hm hv ?_ hn hdb)
  exact PyProof.Rows.callWith_type1 (thn (ha pos pins s σ H _ I h) fun us s1 ⟨vs, H1, I1, r1, q1⟩ => hc pins s1 σ H1 vs us Q I1 r1 q1) he hpl
end
end L2

namespace HT
open PySem PyProof.Rows

/-- t < u of tuples of ints -/
def lexLt : List Int → List Int → Bool
  | [], [] => false
  | [], _ :: _ => true
  | _ :: _, [] => false
  | x :: xs, y :: ys => if x = y then lexLt xs ys else decide (x < y)
section
open PySem.SeqAt
open PySem.AutoSeq1 (wpAny_loadPart')
open PySem.MeetsSeq PySem.MeetsSeq2 PySem.MeetsSeq3

end

section
variable {prog : Program} {w : World} {A : Around} {E : Value → Shared → Prop} {s : Shared}

/-- a slice's bound as a place among n (d where it is left out) -/
def sIx (n d : Nat) : Option Int → Nat
  | none => d
  | some v => if v < 0 then (v + (n : Int)).toNat else min v.toNat n
theorem sIx_nat (n d k : Nat) : sIx n d (some (k : Int)) = min k n := by
  show (if (k : Int) < 0 then ((k : Int) + (n : Int)).toNat else min (k : Int).toNat n) = min k n
  rw [if_neg (by omega), Int.toNat_natCast]
theorem sIx_le (n d : Nat) (hd : d ≤ n) (o : Option Int) : sIx n d o ≤ n := by
  cases o with
  | none => exact hd
  | some v =>
    show (if v < 0 then (v + (n : Int)).toNat else min v.toNat n) ≤ n
    by_cases hv : v < 0
    · rw [if_pos hv]; omega
    · rw [if_neg hv]; exact Nat.min_le_right _ _
theorem clip_eq (v : Int) (n d : Nat) : (if v < 0 then max (v + (n : Int)) 0 else min v (n : Int)) = ((sIx n d (some v) : Nat) : Int) := by
  show (if v < 0 then max (v + (n : Int)) 0 else min v (n : Int)) = (((if v < 0 then (v + (n : Int)).toNat else min v.toNat n) : Nat) : Int)
  by_cases hv : v < 0
  · simp only [if_pos hv]; omega
  · simp only [if_neg hv]; omega
theorem adjust_gen (lo hi : Option Int) (n : Nat) : Builtin.Slice.sliceAdjust lo hi 1 (n : Int) = (((sIx n 0 lo : Nat) : Int), ((sIx n n hi : Nat) : Int)) := by
  have h1 : ¬ ((1 : Int) < 0) := by omega
  unfold Builtin.Slice.sliceAdjust
  simp only [h1, if_false]
  refine Prod.ext ?_ ?_
  · cases lo with
    | none => rfl
    | some v => exact clip_eq v n 0
  · cases hi with
    | none => rfl
    | some v => exact clip_eq v n n
theorem places_gen (i j : Nat) : Builtin.Slice.slicePlaces (i : Int) (j : Int) 1 = j - i := by
  unfold Builtin.Slice.slicePlaces
  have h1 : (1 : Int) > 0 := by omega
  simp only [h1, if_true, Int.ediv_one]
  split <;> omega
theorem slicePart_ {v : Value} {o : Option Int} {Q : Option Int → Shared → Prop} (p : IsPart v o) (h : Q o s) : wpAny (model prog w) A (Builtin.Slice.slicePartIndex v) Q E s := by
  cases p with
  | none => exact slicePart_none h
  | int i t => exact slicePart_int h
theorem sliceApplied_gen {sl : Addr} {vl vu : Value} {lo hi : Option Int} {n : Nat} {Q : Int × Int × Nat → Shared → Prop} (hs : s.heap.IsSliceOf sl vl vu .none) (pl : IsPart vl lo) (pu : IsPart vu hi)
    (h : Q (((sIx n 0 lo : Nat) : Int), 1, sIx n n hi - sIx n 0 lo) s) : wpAny (model prog w) A (Builtin.Slice.sliceApplied (.ref sl) (pure (n : Int))) Q E s := by
  obtain ⟨os, hos, hcs, hds⟩ := id hs
  unfold Builtin.Slice.sliceApplied Builtin.Slice.sliceFields
  refine wpAny_bind (wpAny_bind (wpAny_field hos hds (x := vl) rfl (wpAny_bind (wpAny_field hos hds (x := vu) rfl (wpAny_bind (wpAny_field hos hds (x := .none) rfl (wpAny_pure ?_)))))))
  refine wpAny_bind (slicePart_none ?_)
  show wpAny _ _ (if ((1 : Int) == 0) = true then _ else _) _ _ s
  rw [if_neg (by decide)]
  refine wpAny_bind (slicePart_ pl (wpAny_bind (slicePart_ pu (wpAny_bind (wpAny_pure ?_)))))
  show wpAny _ _ (match Builtin.Slice.sliceAdjust lo hi 1 (n : Int) with | (lo, hi) => pure (lo, (1 : Int), Builtin.Slice.slicePlaces lo hi 1)) _ _ s
  rw [adjust_gen lo hi n]
  show wpAny _ _ (pure (((sIx n 0 lo : Nat) : Int), (1 : Int), Builtin.Slice.slicePlaces ((sIx n 0 lo : Nat) : Int) ((sIx n n hi : Nat) : Int) 1)) _ _ s
  rw [places_gen]
  exact wpAny_pure h
theorem pick_gen (xs : Array Value) (i k : Nat) : ((List.range k).filterMap fun (m : Nat) => xs[((i : Int) + (m : Int) * 1).toNat]?).toArray = ((xs.toList.drop i).take k).toArray := by
  have e : (fun (m : Nat) => xs[((i : Int) + (m : Int) * 1).toNat]?) = fun m => xs[i + m]? := by
    funext m
    have : ((i : Int) + (m : Int) * 1).toNat = i + m := by omega
    rw [this]
  rw [e]
  have := pick_run xs i k
  rw [List.filterMap_map] at this
  have e2 : ((fun x => xs[x]?) ∘ fun x => i + x) = fun m => xs[i + m]? := rfl
  rw [e2] at this
  rw [this]

theorem getItem_tuple_cut {t sl : Addr} {items : Array Value} {vl vu : Value} {lo hi : Option Int} {Q : Value → Shared → Prop} (ht : IsTup s.heap t items) (hs : s.heap.IsSliceOf sl vl vu .none) (pl : IsPart vl lo) (pu : IsPart vu hi)
    (hw : ¬ (sIx items.size 0 lo = 0 ∧ sIx items.size items.size hi = items.size))
    (h : Q (.ref s.heap.objs.size) { s with heap := s.heap.push { cls := .type "tuple", data := .seq ((items.toList.drop (sIx items.size 0 lo)).take (sIx items.size items.size hi - sIx items.size 0 lo)).toArray } })
    (hsz : items.size ≤ sizeLine) : wpAny (model prog w) A (getItem (.ref t) (.ref sl)) Q E s := by
  have htake : sizeOk (.seq ((items.toList.drop (sIx items.size 0 lo)).take (sIx items.size items.size hi - sIx items.size 0 lo)).toArray) := by
    show ((items.toList.drop (sIx items.size 0 lo)).take (sIx items.size items.size hi - sIx items.size 0 lo)).toArray.size ≤ sizeLine
    rw [List.size_toArray, List.length_take, List.length_drop, Array.length_toList]
    omega
  have hj : sIx items.size items.size hi ≤ items.size := sIx_le _ _ (Nat.le_refl _) hi
  obtain ⟨os, hos, hcs, hds⟩ := id hs
  have hTs : s.TypeIs (.ref sl) "slice" := ⟨os, hos, hcs⟩
  unfold getItem
  try with_reducible refine wpAny_holding ?_
  first | refine wpAny_bind (wpAny_pure ?_) | skip
  refine wpAny_bind (wpAny_sequenceKey ht.typeIs (by decide) ?_)
  refine wpAny_bind (wpAny_callSpecial?_slot (name := Str.ofString "__getitem__") ht.typeIs PyProof.Rows.slot_tuple_getitem
    (wpAny_call_entry PyProof.Rows.slot_tuple_getitem ht.typeIs entry_tuple_getitem ?_ (args_tuple_getitem _ _)))
  show wpAny _ _ (Builtin.Tuple.tupleItemsOf (.ref t) >>= _) _ _ s
  refine wpAny_bind (tupleItemsOf_ ht ?_)
  refine wpAny_bind (wpAny_typeOf hTs ?_)
  rw [if_pos (by decide)]
  refine wpAny_bind (sliceApplied_gen hs pl pu ?_)
  have hno : ¬ ((((sIx items.size 0 lo : Nat) : Int) == 0 && (1 : Int) == 1 && (sIx items.size items.size hi - sIx items.size 0 lo) == items.size) = true) := by
    intro q
    rw [Bool.and_eq_true, Bool.and_eq_true] at q
    have q1 : ((sIx items.size 0 lo : Nat) : Int) = 0 := eq_of_beq q.1.1
    have q2 : sIx items.size items.size hi - sIx items.size 0 lo = items.size := eq_of_beq q.2
    exact hw ⟨by omega, by omega⟩
  show wpAny _ _ (if (((sIx items.size 0 lo : Nat) : Int) == 0 && (1 : Int) == 1 && (sIx items.size items.size hi - sIx items.size 0 lo) == items.size) = true then _ else _) _ _ s
  rw [if_neg hno, pick_gen]
  first
    | exact wpAny_bind (m := Builtin.Tuple.tupleExact _) (wpAny_newObj_type (wpAny_pure ⟨_, rfl, wpAny_pure h⟩) htake)
    | exact wpAny_bind (m := Builtin.Tuple.tupleExact _) (wpAny_newObj_type (wpAny_bind (wpAny_pure (wpAny_pure ⟨_, rfl, wpAny_pure h⟩))) htake)
    | exact wpAny_bind (wpAny_bind (m := Builtin.Tuple.tupleExact _) (wpAny_newObj_type (wpAny_pure (wpAny_pure ⟨_, rfl, wpAny_pure h⟩)) htake))
    | exact wpAny_bind (wpAny_bind (m := Builtin.Tuple.tupleExact _) (wpAny_newObj_type (wpAny_pure ⟨_, rfl, wpAny_pure h⟩) htake))
end
end HT

namespace L2
open PySem PySem.Spec PyProof.Rows

abbrev TO := St → Hp → (Option Int → Hp → Prop) → Prop
/-- a slice's part (left out, or an int) -/
def PO (X : Cx) (e : Option Expr) (t : TO) : Prop :=
  ∀ (pins : List (Addr × Obj)) (s : Shared) (σ : St) (H : Hp) (Q : Option Int → Hp → Prop), Inv X pins σ H s → t σ H Q →
    wpAny (model X.prog X.w) X.A (evalPart e X.env) (fun u s' => ∃ o H', Inv X pins σ H' s' ∧ IsPart u o ∧ Q o H') X.xe s
abbrev tNoPart : TO := fun _ H Q => Q none H
abbrev tPart (t : TE) : TO := fun σ H Q => t σ H fun x H1 => ∃ i, x = .int i ∧ Q (some i) H1

section
variable {X : Cx} {e : Expr} {te : TE} {lo hi : Option Expr} {tl th : TO} {pos p2 : Pos}

theorem po_none : PO X none tNoPart := by
  intro pins s σ H Q I h
  rw [evalPart_none]
  exact wpAny_pure ⟨none, H, I, .none, h⟩
theorem po_some (h : PE X e te) : PO X (some e) (tPart te) := by
  intro pins s σ H Q I hw
  rw [evalPart_some]
  refine thn (h pins s σ H _ I hw) fun u s1 ⟨x, H1, I1, r1, q1⟩ => ?_
  obtain ⟨i, rfl, q⟩ := q1
  obtain ⟨t, rfl⟩ := r1
  exact ⟨some i, H1, I1, .int i t, q⟩

/-- what a slice of a value is, by values: the slice object stands at sl -/
def SlR (X : Cx) (r : V → Option Int → Option Int → Hp → VK → Prop) : Prop :=
  ∀ (pins : List (Addr × Obj)) (s : Shared) (σ : St) (H : Hp) (x : V) (v vl vu : Value) (lo hi : Option Int) (sl : Addr) (Q : VK), Inv X pins σ H s → RelV x v → s.heap.IsSliceOf sl vl vu .none → IsPart vl lo → IsPart vu hi → r x lo hi H Q →
    ∃ T id, typeLookup (.type T) "__getitem__" = pure (some (.builtin id)) ∧ s.TypeIs v T ∧ wpAny (model X.prog X.w) X.A (getItem v (.ref sl)) (EP X pins σ Q) X.xe s
abbrev tSl (r : V → Option Int → Option Int → Hp → VK → Prop) (te : TE) (tl th : TO) : TE := fun σ H Q => te σ H fun x H1 => tl σ H1 fun l H2 => th σ H2 fun u H3 => r x l u H3 Q
/-- a[lo:hi], any a -/
theorem pe_slice {r : V → Option Int → Option Int → Hp → VK → Prop} (hr : SlR X r) (he : PE X e te) (hl : PO X lo tl) (hu : PO X hi th) : PE X (.Subscript e (.Slice lo hi none p2) pos) (tSl r te tl th) := by
  intro pins s σ H Q I h
  refine Subscript_ (thn (he pins s σ H _ I h) fun v s1 ⟨x, H1, I1, r1, q1⟩ => ?_)
  refine wpAny_Slice (thn (hl pins s1 σ H1 _ I1 q1) fun vl s2 ⟨l, H2, I2, pl, q2⟩ => thn (hu pins s2 σ H2 _ I2 q2) fun vu s3 ⟨u, H3, I3, pu, q3⟩ => ?_)
  rw [evalPart_none]
  refine wpAny_pure ?_
  have I4 : Inv X pins σ H3 { s3 with heap := s3.heap.push { cls := .type "slice", data := .fields #[vl, vu, .none] } } := I3.kept (t' := s3.toks) fun b ob q => Heap.get?_push_of_some _ q
  obtain ⟨T, id, hT, ht, hg⟩ := hr pins { s3 with heap := s3.heap.push { cls := .type "slice", data := .fields #[vl, vu, .none] } } σ H3 x v vl vu l u s3.heap.objs.size Q I4 r1 (Heap.IsSliceOf.new ..) pl pu q3
  show wpAny (model X.prog X.w) X.A (subscriptTail e (.Slice lo hi none p2) v (.ref s3.heap.objs.size)) (EP X pins σ Q) X.xe { s3 with heap := s3.heap.push { cls := .type "slice", data := .fields #[vl, vu, .none] } }
  exact tail_any (ops := [.ref s3.heap.objs.size, v]) ht hT hg (by with_unfolding_all rfl)

/-- the items of xs[lo:hi] -/
def cutV (xs : List V) (lo hi : Option Int) : List V := (xs.drop (HT.sIx xs.length 0 lo)).take (HT.sIx xs.length xs.length hi - HT.sIx xs.length 0 lo)
theorem cutV_length (xs : List V) (lo hi : Option Int) : (cutV xs lo hi).length ≤ xs.length := by
  unfold cutV
  rw [List.length_take, List.length_drop]
  omega
/-- t[lo:hi], not the whole of it (the whole would be t itself) -/
def rSlT (K : PySem.W.Frag) : V → Option Int → Option Int → Hp → VK → Prop := fun x lo hi H Q => ∃ a xs, x = .ref a ∧ SqT K H a xs ∧
  ¬ (HT.sIx xs.length 0 lo = 0 ∧ HT.sIx xs.length xs.length hi = xs.length) ∧ ∀ p, H p = none → Q (.ref p) (upd H p (.tup (cutV xs lo hi)))
theorem sl_tup : SlR X (rSlT X.K) := by
  intro pins s σ H x v vl vu lo hi sl Q I rx hs pl pu h
  obtain ⟨a, xs, rfl, hx, hw, q⟩ := h
  cases rx
  obtain ⟨its, r, ht, hz⟩ := I.tuple hx
  have hlen : its.toArray.size = xs.length := by rw [List.size_toArray]; exact r.length.symm
  refine ⟨"tuple", _, PyProof.Rows.slot_tuple_getitem.lookup, ht.typeIs, ?_⟩
  refine HT.getItem_tuple_cut ht hs pl pu (by rw [hlen]; exact hw) ?_ (by rw [hlen]; exact hz)
  rw [hlen]
  refine ⟨.ref s.heap.objs.size, _, I.laid (t' := s.toks) (o := .tup (cutV xs lo hi)) (fun b ob q => Heap.get?_push_of_some _ q) (Nat.le_refl _) ?_, rfl, q _ (I.hok.fresh (Nat.le_refl _))⟩
  exact ⟨Nat.le_trans (cutV_length xs lo hi) hz, _, (r.drop (HT.sIx xs.length 0 lo)).take (HT.sIx xs.length xs.length hi - HT.sIx xs.length 0 lo), IsTup.new _ _⟩

def rLtT (K : PySem.W.Frag) : R2 := fun x y H Q => ∃ a b ns ms, x = .ref a ∧ y = .ref b ∧ SqT K H a (ns.map V.int) ∧ SqT K H b (ms.map V.int) ∧ Q (.bl (HT.lexLt ns ms)) H
/-- t + u, t not empty: u empty gives t itself -/
def rCatT (K : PySem.W.Frag) : R2 := fun x y H Q => ∃ a b xs ys, x = .ref a ∧ y = .ref b ∧ SqT K H a xs ∧ SqT K H b ys ∧ xs ≠ [] ∧ xs.length + ys.length ≤ sizeLine ∧
  (ys = [] → Q (.ref a) H) ∧ (ys ≠ [] → ∀ p, H p = none → Q (.ref p) (upd H p (.tup (xs ++ ys))))
end
end L2

namespace L2
open PySem PySem.Spec PyProof.Rows

/-- the place that an index of any sign means -/
def ixN (n : Nat) (i : Int) : Option Nat := if 0 ≤ i then (if i < n then some i.toNat else none) else if -(n : Int) ≤ i then some (i + n).toNat else none
def atI {α : Type} (xs : List α) (i : Int) : Option α := (ixN xs.length i).bind fun j => xs[j]?
theorem ixN_seq {n : Nat} {i : Int} {j : Nat} (h : ixN n i = some j) : seqIndex? i n = some j ∧ j < n ∧ -(n : Int) ≤ i ∧ i < n := by
  unfold ixN at h
  by_cases h0 : 0 ≤ i
  · rw [if_pos h0] at h
    by_cases h1 : i < n
    · rw [if_pos h1] at h
      have e : i.toNat = j := Option.some.inj h
      exact ⟨by rw [seqIndex_of h0 h1, e], by omega, by omega, h1⟩
    · rw [if_neg h1] at h; cases h
  · rw [if_neg h0] at h
    by_cases h1 : -(n : Int) ≤ i
    · rw [if_pos h1] at h
      have e : (i + n).toNat = j := Option.some.inj h
      exact ⟨by rw [seqIndex_neg (by omega) h1, e], by omega, h1, by omega⟩
    · rw [if_neg h1] at h; cases h
theorem atI_get {α : Type} {xs : List α} {i : Int} {v : α} (h : atI xs i = some v) : ∃ j, seqIndex? i xs.length = some j ∧ xs[j]? = some v ∧ j < xs.length ∧ -(xs.length : Int) ≤ i ∧ i < xs.length := by
  unfold atI at h
  cases e : ixN xs.length i with
  | none => rw [e] at h; cases h
  | some j =>
    rw [e] at h
    obtain ⟨h1, h2, h3, h4⟩ := ixN_seq e
    exact ⟨j, h1, h, h2, h3, h4⟩
theorem atI_nat {α : Type} {xs : List α} {j : Nat} {v : α} (h : xs[j]? = some v) : atI xs (j : Int) = some v := by
  have hj : j < xs.length := (List.getElem?_eq_some_iff.mp h).1
  have e : ixN xs.length (j : Int) = some j := by
    unfold ixN
    rw [if_pos (by omega), if_pos (by omega)]; simp
  unfold atI; rw [e]; exact h
theorem atI_last {α : Type} (xs : List α) (v : α) : atI (xs ++ [v]) (-1) = some v := by
  have hl : (xs ++ [v]).length = xs.length + 1 := by simp
  have e : ixN (xs ++ [v]).length (-1) = some xs.length := by
    unfold ixN
    rw [hl, if_neg (by decide), if_pos (by omega)]
    congr 1
    omega
  unfold atI
  rw [e]
  show (xs ++ [v])[xs.length]? = some v
  simp

/-- what stands as an index of a plain subscript -/
def PlainIx (b : Expr) : Prop := ∀ o i, subscripted b false o i = operate [o, i] (getItem o i)
/-- a subscript by values -/
def IxR (X : Cx) (r : R2) : Prop :=
  ∀ (value slice : Expr) (pins : List (Addr × Obj)) (s : Shared) (σ : St) (H : Hp) (x y : V) (v u : Value) (Q : VK), Inv X pins σ H s → RelV x v → RelV y u → r x y H Q →
    subscripted slice false v u = operate [v, u] (getItem v u) → wpAny (model X.prog X.w) X.A (subscriptTail value slice v u) (EP X pins σ Q) X.xe s
/-- a call of a builtin's method by values: the receiver, the arguments -/
def MtR (X : Cx) (id : String) (r : V → List V → Hp → VK → Prop) : Prop :=
  ∀ (pins : List (Addr × Obj)) (s : Shared) (σ : St) (H : Hp) (x : V) (xs : List V) (v : Value) (us : List Value) (Q : VK), Inv X pins σ H s → RelV x v → Vals xs us → r x xs H Q →
    wpAny (model X.prog X.w) X.A (call (.builtin id) (v :: us)) (EP X pins σ Q) X.xe s
section
variable {X : Cx} {a b : Expr} {ta tb : TE} {pos : Pos}
/-- a[b] -/
theorem pe_ix {r : R2} (hr : IxR X r) (ha : PE X a ta) (hb : PE X b tb) (hs : PlainIx b) : PE X (.Subscript a b pos) (tOp r ta tb) := by
  intro pins s σ H Q I h
  exact Subscript_ (binT ha hb I h fun v u s2 x y H2 I2 rx ry q => hr a b pins s2 σ H2 x y v u Q I2 rx ry q (hs _ _))

def rIxL (K : PySem.W.Frag) : R2 := fun x y H Q => ∃ p xs i v, x = .ref p ∧ y = .int i ∧ SqL K H p xs ∧ atI xs i = some v ∧ Q v H
def rIxT (K : PySem.W.Frag) : R2 := fun x y H Q => ∃ p xs i v, x = .ref p ∧ y = .int i ∧ SqT K H p xs ∧ atI xs i = some v ∧ Q v H
def rIxS : R2 := fun x y H Q => ∃ z i c, x = .str z ∧ y = .int i ∧ z.length ≤ sizeLine ∧ atI z.cps.toList i = some c ∧ Q (.str ⟨#[c]⟩) H
theorem ix_list : IxR X (rIxL X.K) := by
  intro value slice pins s σ H x y v u Q I rx ry h hs
  obtain ⟨p, xs, i, z, rfl, rfl, hq, he, q⟩ := h
  cases rx
  obtain ⟨t, rfl⟩ := ry
  obtain ⟨its, r, pl, hz⟩ := I.list hq
  obtain ⟨j, h1, h2, h3, h4, h5⟩ := atI_get he
  obtain ⟨w, ew, rw'⟩ := r.get h2
  have hl := r.length
  have hn := line63
  have fin : EP X pins σ Q w s := ⟨z, H, I, rw', q⟩
  by_cases h0 : 0 ≤ i
  · have hj : i.toNat = j := by
      rw [seqIndex_of h0 h5] at h1
      exact Option.some.inj h1
    exact item_listR pl.isList h0 (by omega) (by rw [hj]; simpa using ew) fin hs
  · have hj : (i + (its.toArray.size : Int)).toNat = j := by
      rw [seqIndex_neg (by omega) h4] at h1
      rw [List.size_toArray, ← hl]
      exact Option.some.inj h1
    exact subscriptTail_builtinR (x := w) pl.isList.typeIs slot_list_getitem.lookup
      (wpAny_getItem_list_neg (Q := fun r s' => r = w ∧ EP X pins σ Q r s') pl.isList (by omega) (by rw [List.size_toArray] <;> omega) (by omega) (by rw [hj]; simpa using ew) ⟨rfl, fin⟩) hs
theorem ix_tup : IxR X (rIxT X.K) := by
  intro value slice pins s σ H x y v u Q I rx ry h hs
  obtain ⟨p, xs, i, z, rfl, rfl, hq, he, q⟩ := h
  cases rx
  obtain ⟨t, rfl⟩ := ry
  obtain ⟨its, r, pl, hz⟩ := I.tuple hq
  obtain ⟨j, h1, h2, h3, h4, h5⟩ := atI_get he
  obtain ⟨w, ew, rw'⟩ := r.get h2
  have hl := r.length
  have hn := line63
  have fin : EP X pins σ Q w s := ⟨z, H, I, rw', q⟩
  exact subscriptTail_builtinR (x := w) pl.typeIs slot_tuple_getitem.lookup
    (getItem_tuple (j := j) (Q := fun r s' => r = w ∧ EP X pins σ Q r s') pl (by omega) (by omega) (by rw [List.size_toArray, ← hl]; exact h1) (by simpa using ew) ⟨rfl, fin⟩) hs
theorem ix_str : IxR X rIxS := by
  intro value slice pins s σ H x y v u Q I rx ry h hs
  obtain ⟨z, i, c, rfl, rfl, hz, he, q⟩ := h
  obtain ⟨t, rfl⟩ := rx
  obtain ⟨t', rfl⟩ := ry
  obtain ⟨j, h1, h2, h3, h4, h5⟩ := atI_get he
  have hl : z.cps.toList.length = z.length := by simp [Str.length]
  rw [hl] at h1 h4 h5
  have hn := line63
  exact tail_any (typeIs_str s z t) slot_str_getitem.lookup (getItem_str (c := c) (by
    have e1 : decide (i < -(2 ^ 63 : Int)) = false := decide_eq_false (by omega)
    have e2 : decide (i ≥ 2 ^ 63) = false := decide_eq_false (by omega)
    rw [e1, e2, Bool.or_false]) (by rw [h1]; simpa using h2) ⟨.str ⟨#[c]⟩, H, I.tok _, ⟨_, rfl⟩, q⟩) hs
/-- list, tuple or str -/
def rIx (K : PySem.W.Frag) : R2 := fun x y H Q => rIxL K x y H Q ∨ rIxT K x y H Q ∨ rIxS x y H Q
theorem Inv.lst {pins : List (Addr × Obj)} {σ : St} {H : Hp} {s : Shared} {p : Addr} {xs : List V} (I : Inv X pins σ H s) (h : H p = some (.lst xs)) :
    ∃ (its : List Value) (n : Nat), Vals xs its ∧ s.heap.get? p = some { cls := .type "list", data := .seq its.toArray n } ∧ xs.length ≤ sizeLine := by
  obtain ⟨z, its, n, r, e⟩ := I.hok p _ h
  exact ⟨its, n, r, e, z⟩
def rSetL : V → V → V → Hp → (Hp → Prop) → Prop := fun o i v H Q => ∃ p xs k j, o = .ref p ∧ i = .int k ∧ H p = some (.lst xs) ∧ ixN xs.length k = some j ∧ Q (upd H p (.lst (xs.set j v)))
theorem slice_bounds (lo hi : Option Int) (n : Nat) : (sliceBounds lo hi none n).1 = ((HT.sIx n 0 lo : Nat) : Int) ∧ (sliceBounds lo hi none n).2.1 = ((HT.sIx n n hi : Nat) : Int) ∧ (sliceBounds lo hi none n).2.2 = 1 := by
  refine ⟨?_, ?_, rfl⟩
  · cases lo with
    | none => simp [sliceBounds, HT.sIx]
    | some i =>
      simp only [sliceBounds, HT.sIx, Option.getD_none, show (1 : Int) > 0 by decide, if_true]
      by_cases h : i < 0
      · simp only [h, if_true] <;> omega
      · simp only [h, if_false] <;> omega
  · cases hi with
    | none => simp [sliceBounds, HT.sIx]
    | some i =>
      simp only [sliceBounds, HT.sIx, Option.getD_none, show (1 : Int) > 0 by decide, if_true]
      by_cases h : i < 0
      · simp only [h, if_true] <;> omega
      · simp only [h, if_false] <;> omega
theorem slicePick_cut (its : List Value) (lo hi : Option Int) : slicePick its.toArray lo hi none = ((its.drop (HT.sIx its.length 0 lo)).take (HT.sIx its.length its.length hi - HT.sIx its.length 0 lo)).toArray := by
  obtain ⟨h1, h2, h3⟩ := slice_bounds lo hi its.toArray.size
  unfold slicePick
  rw [h1, h2, h3]
  simp only [sliceRange_one, pick_run, List.size_toArray] <;> rfl
/-- xs[lo:hi] of a list: a new list -/
def rSlL (K : PySem.W.Frag) : V → Option Int → Option Int → Hp → VK → Prop := fun x lo hi H Q => ∃ a xs, x = .ref a ∧ SqL K H a xs ∧ ∀ p, H p = none → Q (.ref p) (upd H p (.lst (cutV xs lo hi)))
theorem sl_list : SlR X (rSlL X.K) := by
  intro pins s σ H x v vl vu lo hi sl Q I rx hs pl pu h
  obtain ⟨a, xs, rfl, hx, q⟩ := h
  cases rx
  obtain ⟨its, r, ht, hz⟩ := I.list hx
  have hlen := r.length
  refine ⟨"list", _, slot_list_getitem.lookup, ht.isList.typeIs, ?_⟩
  refine wpAny_getItem_list_slice ht.isList hs pl pu .none (by simp) ?_ (by rw [List.size_toArray] <;> omega)
  rw [slicePick_cut, ← hlen]
  refine ⟨.ref s.heap.objs.size, _, I.laid (t' := s.toks) (o := .lst (cutV xs lo hi)) (fun b ob q => Heap.get?_push_of_some _ q) (Nat.le_refl _) ?_, rfl, q _ (I.hok.fresh (Nat.le_refl _))⟩
  exact ⟨Nat.le_trans (cutV_length xs lo hi) hz, _, 0, (r.drop (HT.sIx xs.length 0 lo)).take (HT.sIx xs.length xs.length hi - HT.sIx xs.length 0 lo), Heap.get?_push_size _ rfl⟩

def flatV : V → Bool
  | .non => true
  | .bl _ => true
  | .int _ => true
  | .str _ => true
  | _ => false
/-- == of flat values -/
def eqV : V → V → Bool
  | .non, .non => true
  | .bl a, .bl b => a == b
  | .bl a, .int b => (if a then 1 else 0) == b
  | .int a, .bl b => a == (if b then 1 else 0)
  | .int a, .int b => a == b
  | .str a, .str b => a == b
  | _, _ => false
/-- the items' answers, read off the values (a value's own answer does not lean on its token) -/
def eqU (x : V) (u : Value) : Bool := match u with
  | .none => eqV .non x
  | .bool b => eqV (.bl b) x
  | .int i _ => eqV (.int i) x
  | .str z _ => eqV (.str z) x
  | _ => false
def inV (x : V) (xs : List V) : Bool := xs.any fun y => eqV y x
/-- x in a list or tuple of flat items -/
def rIn (K : PySem.W.Frag) (neg : Bool) : R2 := fun x y H Q => ∃ p xs, y = .ref p ∧ (SqL K H p xs ∨ SqT K H p xs) ∧ flatV x = true ∧ xs.all flatV = true ∧ Q (.bl (if neg then !inV x xs else inV x xs)) H
theorem call_len_seq : CallR X (.builtin "len") (fun xs H Q => ∃ p ys, xs = [.ref p] ∧ (SqL X.K H p ys ∨ SqT X.K H p ys) ∧ Q (.int ys.length) H) := by
  intro pins s σ H xs us Q I r h
  obtain ⟨p, ys, rfl, hq, q⟩ := h
  obtain ⟨u, rfl, rx⟩ := vals1 r
  cases rx
  have hn := line63
  rcases hq with hq | hq
  · obtain ⟨its, r', pl, hz⟩ := I.list hq
    have hlen := r'.length
    exact Calls.call_len_list pl.isList (by simp only [List.size_toArray] <;> omega) ⟨.int ys.length, H, I.tok _, ⟨s.toks + 1, by rw [List.size_toArray, hlen]⟩, q⟩
  · obtain ⟨its, r', pl, hz⟩ := I.tuple hq
    have hlen := r'.length
    exact len_tuple pl (by simp only [List.size_toArray] <;> omega) ⟨.int ys.length, H, I.tok _, ⟨s.toks + 1, by rw [List.size_toArray, hlen]⟩, q⟩
theorem call_len_str : CallR X (.builtin "len") (fun xs H Q => ∃ z, xs = [.str z] ∧ z.length ≤ sizeLine ∧ Q (.int z.length) H) := by
  intro pins s σ H xs us Q I r h
  obtain ⟨z, rfl, hz, q⟩ := h
  obtain ⟨u, rfl, t, rfl⟩ := vals1 r
  have hn := line63
  exact len_str (by omega) ⟨.int z.length, H, I.tok _, ⟨_, rfl⟩, q⟩
theorem call_list_of : CallR X (.type "list") (fun xs H Q => ∃ p ys, xs = [.ref p] ∧ (SqL X.K H p ys ∨ SqT X.K H p ys) ∧ ∀ l, H l = none → Q (.ref l) (upd H l (.lst ys))) := by
  intro pins s σ H xs us Q I r h
  obtain ⟨p, ys, rfl, hq, q⟩ := h
  obtain ⟨u, rfl, rx⟩ := vals1 r
  cases rx
  have fin : ∀ (its : List Value), Vals ys its → ys.length ≤ sizeLine → ∀ (h' : Heap) (c' : Nat), (∀ b o', s.heap.get? b = some o' → h'.get? b = some o') →
      h'.get? s.heap.objs.size = some { cls := .type "list", dict := none, data := .seq its.toArray c', slots := #[] } → EP X pins σ Q (.ref s.heap.objs.size) { s with heap := h' } := fun its r' hz h' c' kp e =>
    ⟨.ref s.heap.objs.size, _, I.laid (t' := s.toks) kp (Nat.le_refl _) (show ObjOk X.prog X.w _ h' _ (.lst ys) from ⟨hz, its, c', r', e⟩), rfl, q _ (I.hok.fresh (Nat.le_refl _))⟩
  rcases hq with hq | hq
  · obtain ⟨its, r', pl, hz⟩ := I.list hq
    have hlen := r'.length
    obtain ⟨o, ho, hc, n, hd⟩ := pl.isList
    exact call_list_seq p (.inl rfl) ho hc hd (fun h' c' kp e => fin its r' hz h' c' kp e) (by simp only [List.size_toArray] <;> omega)
  · obtain ⟨its, r', pl, hz⟩ := I.tuple hq
    have hlen := r'.length
    obtain ⟨o, ho, hc, n, hd⟩ := pl
    exact call_list_seq p (.inr rfl) ho hc hd (fun h' c' kp e => fin its r' hz h' c' kp e) (by simp only [List.size_toArray] <;> omega)
theorem call_tuple_of : CallR X (.type "tuple") (fun xs H Q => ∃ p ys, xs = [.ref p] ∧ ((SqL X.K H p ys ∧ ∀ l, H l = none → Q (.ref l) (upd H l (.tup ys))) ∨ (SqT X.K H p ys ∧ Q (.ref p) H))) := by
  intro pins s σ H xs us Q I r h
  obtain ⟨p, ys, rfl, h⟩ := h
  obtain ⟨u, rfl, rx⟩ := vals1 r
  cases rx
  rcases h with ⟨hq, q⟩ | ⟨hq, q⟩
  · obtain ⟨its, r', pl, hz⟩ := I.list hq
    have hlen := r'.length
    refine call_tuple_list pl.isList (fun h' kp => ?_) (by simp only [List.size_toArray] <;> omega)
    have I1 : Inv X pins σ H { s with heap := h' } := I.kept (t' := s.toks) kp
    have I2 : Inv X pins σ (upd H h'.objs.size (.tup ys)) { s with heap := h'.push { cls := .type "tuple", data := .seq its.toArray } } :=
      I1.laid (t' := s.toks) (fun b o e => Heap.get?_push_of_some _ e) (Nat.le_refl _) (show ObjOk X.prog X.w _ _ _ (.tup ys) from ⟨hz, its, r', IsTup.new _ _⟩)
    exact ⟨.ref h'.objs.size, _, I2, rfl, q _ (I1.hok.fresh (Nat.le_refl _))⟩
  · obtain ⟨its, r', pl, hz⟩ := I.tuple hq
    exact call_tuple_same pl ⟨.ref p, H, I, rfl, q⟩

/-- the value is of that builtin type -/
def tyV (K : PySem.W.Frag) (T : String) (x : V) (H : Hp) : Prop := match x with
  | .str _ => T = "str"
  | .int _ => T = "int"
  | .ref p => (T = "list" ∧ ∃ xs, SqL K H p xs) ∨ (T = "tuple" ∧ ∃ o, K.lookup p = some o ∧ o.cls = .type "tuple" ∧ o.dict = none) ∨
      (T = "dict" ∧ ((∃ kvs, H p = some (.dK kvs)) ∨ ∃ kvs, H p = some (.dT kvs))) ∨ (T = "set" ∧ ∃ S n, H p = some (.set S n))
  | _ => False
theorem tyV_is {pins : List (Addr × Obj)} {σ : St} {H : Hp} {s : Shared} {T : String} {x : V} {v : Value} (I : Inv X pins σ H s) (r : RelV x v) (ty : tyV X.K T x H) :
    s.TypeIs v T ∧ ∀ a, v = .ref a → ∃ ob, s.heap.get? a = some ob ∧ ob.dict = none := by
  cases x with
  | str z =>
    obtain ⟨t, rfl⟩ := r
    cases (show T = "str" from ty)
    exact ⟨typeIs_str s z t, fun _ e => nomatch e⟩
  | int i =>
    obtain ⟨t, rfl⟩ := r
    cases (show T = "int" from ty)
    exact ⟨typeIs_int s i t, fun _ e => nomatch e⟩
  | ref p =>
    cases r
    rcases ty with ⟨rfl, xs, hq⟩ | ⟨rfl, o, hk, hc, hd⟩ | ⟨rfl, hk⟩ | ⟨rfl, S, n, hk⟩
    · obtain ⟨its, _, pl, _⟩ := I.list hq
      refine ⟨pl.isList.typeIs, fun a e => ?_⟩
      cases e
      obtain ⟨o, n, e, c, hd, _⟩ := pl
      exact ⟨o, e, hd⟩
    · refine ⟨⟨o, I.kIn p o hk, hc⟩, fun a e => ?_⟩
      cases e
      exact ⟨o, I.kIn _ o hk, hd⟩
    · have z : ∃ o, s.heap.get? p = some o ∧ o.ExactDict := by
        rcases hk with ⟨kvs, hk⟩ | ⟨kvs, hk⟩
        · obtain ⟨_, _, _, _, o, _, _, e, ex, _⟩ := I.hok p _ hk
          exact ⟨o, e, ex⟩
        · obtain ⟨_, _, _, _, o, _, _, e, ex, _⟩ := I.hok p _ hk
          exact ⟨o, e, ex⟩
      obtain ⟨o, e, ex⟩ := z
      refine ⟨⟨o, e, ex.1⟩, fun a e2 => ?_⟩
      cases e2
      exact ⟨o, e, ex.2.1⟩
    · obtain ⟨o, _, _, _, e, ex, _⟩ := I.hok p _ hk
      refine ⟨⟨o, e, ex.1⟩, fun a e2 => ?_⟩
      cases e2
      exact ⟨o, e, ex.2.1⟩
  | _ => exact False.elim ty
abbrev tBM0 (K : PySem.W.Frag) (T : String) (r : V → List V → Hp → VK → Prop) (to : TE) : TE := fun σ H Q => to σ H fun x H1 => tyV K T x H1 ∧ r x [] H1 Q
abbrev tBM (K : PySem.W.Frag) (T : String) (r : V → List V → Hp → VK → Prop) (to : TE) (t : TA) : TE := fun σ H Q => to σ H fun x H1 => tyV K T x H1 ∧ t σ H1 fun xs H2 => r x xs H2 Q
variable {o e : Expr} {es : List Expr} {to : TE} {t : TA} {name : Str} {apos cpos : Pos} {T id : String} {r : V → List V → Hp → VK → Prop}
theorem pe_bm (pa : PlainAttrs T) (slot : Slot T name id) (hty : typeOf (.builtin id) = pure (.type "method_descriptor")) (hm : MtR X id r) (ho : PE X o to) (ha : PA X (e :: es) t)
    (hbase : attributeBase o name X.env (eval o X.env) = eval o X.env := by rfl)
    (hfew : ((backTo cpos (starEach (e :: es) X.env)).all (fun x => !x.1) && (backToKw cpos (keywordEach [] X.env)).all (fun x => x.1.isSome)
      && decide ((e :: es).length + ([] : List Keyword).length + (if ([] : List Keyword).isEmpty then 0 else 1) < 30)) = true := by rfl)
    (hline : (apos.endLine == cpos.line) = true := by rfl) (hs : starEach (e :: es) X.env = (false, eval e X.env) :: starEach es X.env := by rfl) (hplain : (backTo cpos (starEach es X.env)).any (·.1) = false := by rfl) :
    PE X (.Call (.Attribute o name apos) (e :: es) [] cpos) (tBM X.K T r to t) := by
  intro pins s σ H Q I h
  refine wpAny_Call_method_late hbase hfew hline rfl (thn (ho pins s σ H _ I h) fun v s1 ⟨x, H1, I1, r1, ty, q1⟩ => ?_)
  obtain ⟨h1, h2⟩ := tyV_is I1 r1 ty
  refine ⟨T, id, pa, slot, hty, h1, h2, ?_⟩
  have hA := ha cpos pins s1 σ H1 _ I1 q1
  rw [hs] at hA ⊢
  refine Calls.callWith_builtin (by show (false || (backTo cpos (starEach es X.env)).any (·.1)) = false; rw [hplain] <;> rfl) (Calls.evalArgs_plain ?_)
  exact thn hA fun us s2 ⟨vs, H2, I2, r2, q2⟩ => hm pins s2 σ H2 x vs v us Q I2 r1 r2 q2
/- xs.append(e), list.index on a module's tuple .. are MtR facts of 06m -/
end
end L2

namespace L2
open PySem PySem.Spec PyProof.Rows

def MtM (X : Cx) (id : String) (r : V → List V → Hp → VK → Prop) : Prop :=
  ∀ (pins : List (Addr × Obj)) (s : Shared) (σ : St) (H : Hp) (x : V) (xs : List V) (v : Value) (us : List Value) (Q : VK), Inv X pins σ H s → RelV x v → Vals xs us → r x xs H Q →
    wpAny (model X.prog X.w) X.A (call (.builtin id) (v :: us)) (EP X pins σ Q) X.xe s

theorem Vals.one : ∀ {x : V} {us : List Value}, Vals [x] us → ∃ u, us = [u] ∧ RelV x u
  | _, _, .cons r .nil => ⟨_, rfl, r⟩
theorem Vals.two : ∀ {x y : V} {us : List Value}, Vals [x, y] us → ∃ u v, us = [u, v] ∧ RelV x u ∧ RelV y v
  | _, _, _, .cons r (.cons q .nil) => ⟨_, _, rfl, r, q⟩
theorem Vals.zero : ∀ {us : List Value}, Vals [] us → us = []
  | _, .nil => rfl
theorem Vals.dropLast {xs : List V} {us : List Value} (h : Vals xs us) : Vals xs.dropLast us.dropLast := by
  induction h with
  | nil => exact .nil
  | cons r t ih =>
    cases t with
    | nil => exact .nil
    | cons q t' => exact .cons r ih
theorem Vals.eraseIdx : ∀ {xs : List V} {us : List Value} (i : Nat), Vals xs us → Vals (xs.eraseIdx i) (us.eraseIdx i)
  | _, _, _, .nil => .nil
  | _, _, 0, .cons _ t => t
  | _, _, i + 1, .cons r t => .cons r (Vals.eraseIdx i t)
theorem Vals.reverse {xs : List V} {us : List Value} (h : Vals xs us) : Vals xs.reverse us.reverse := by
  induction h with
  | nil => exact .nil
  | cons r t ih => rw [List.reverse_cons, List.reverse_cons]; exact Vals.append ih (.cons r .nil)
theorem Vals.rep {xs : List V} {us : List Value} (h : Vals xs us) : ∀ k : Nat, Vals (List.replicate k xs).flatten (List.replicate k us).flatten
  | 0 => .nil
  | k + 1 => by
    rw [List.replicate_succ, List.replicate_succ, List.flatten_cons, List.flatten_cons]
    exact Vals.append h (Vals.rep h k)
theorem foldl_rep (its : List Value) : ∀ (k : Nat) (acc : List Value),
    List.foldl (fun x1 x2 => x1 ++ x2) acc.toArray (List.replicate k its.toArray) = (acc ++ (List.replicate k its).flatten).toArray
  | 0, acc => by simp
  | k + 1, acc => by
    have e : acc.toArray ++ its.toArray = (acc ++ its).toArray := by simp
    have e2 : (acc ++ its) ++ (List.replicate k its).flatten = acc ++ (List.replicate (k + 1) its).flatten := by
      rw [List.replicate_succ, List.flatten_cons, List.append_assoc]
    rw [← e2, ← foldl_rep its k (acc ++ its), ← e, List.replicate_succ, List.foldl_cons]

section
variable {X : Cx} {pins : List (Addr × Obj)} {σ : St} {H : Hp} {s : Shared} {l b : Addr} {xs ys zs : List V}

theorem Inv.lset {its its' : List Value} {n : Nat} {f : Array Value → Array Value} {t' : Nat} (I : Inv X pins σ H s) (hH : H l = some (.lst xs))
    (e : s.heap.get? l = some { cls := .type "list", data := .seq its.toArray n }) (hf : f its.toArray = its'.toArray) (hv : Vals ys its') (hz : ys.length ≤ sizeLine) :
    Inv X pins σ (upd H l (.lst ys)) { s with heap := s.heap.update l (Obj.mapSeq f), toks := t' } := by
  have q := PySem.IsL.update e f
  rw [hf] at q
  refine I.write (x := l) (e := l) (by rw [hH]; exact trivial) (.inl rfl) (fun b' u hb hu => (Heap.get?_update_other s.heap (Obj.mapSeq f) (Ne.symm hb)).trans hu) ⟨_, q⟩ ?_
  exact ⟨hz, its', _, hv, q⟩
theorem Inv.lnew {its : List Value} {t' : Nat} (I : Inv X pins σ H s) (hv : Vals ys its) (hz : ys.length ≤ sizeLine) :
    Inv X pins σ (upd H s.heap.objs.size (.lst ys)) { s with heap := s.heap.push { cls := .type "list", data := .seq its.toArray }, toks := t' } :=
  I.laid (fun _ _ q => Heap.get?_push_of_some _ q) (Nat.le_refl _) ⟨hz, its, 0, hv, Heap.get?_push_size _ rfl⟩
theorem Inv.fresh (I : Inv X pins σ H s) : H s.heap.objs.size = none := I.hok.fresh (Nat.le_refl _)
theorem Inv.lstM (I : Inv X pins σ H s) (hH : H l = some (.lst xs)) : xs.length ≤ sizeLine ∧ ∃ (its : List Value) (n : Nat), Vals xs its ∧ xs.length = its.length ∧ s.heap.get? l = some { cls := .type "list", data := .seq its.toArray n } := by
  obtain ⟨z, its, n, r, e⟩ := I.hok l _ hH
  exact ⟨z, its, n, r, r.length, e⟩

theorem notLongL {n : Nat} (h : n ≤ sizeLine) : Builtin.List.listTooLong n = false := by
  unfold Builtin.List.listTooLong
  exact decide_eq_false (by omega)
end

section
variable {X : Cx}

def rAppend : V → List V → Hp → VK → Prop := fun x vs H Q => ∃ l xs y, x = .ref l ∧ vs = [y] ∧ H l = some (.lst xs) ∧ xs.length < sizeLine ∧ Q .non (upd H l (.lst (xs ++ [y])))
theorem mt_append : MtM X "list.append" rAppend := by
  intro pins s σ H x vs v us Q I rx rv h
  obtain ⟨l, xs, y, rfl, rfl, hH, hz, q⟩ := h
  cases rx
  obtain ⟨u, rfl, ru⟩ := rv.one
  obtain ⟨z, its, n, r, hl, e⟩ := I.lstM hH
  refine call_meets F.slot_list_append ⟨_, e, rfl⟩ F.entry_list_append (F.args_list_append_2 _ _) (PySem.list_append l its.toArray n u (by rw [List.size_toArray]; omega)) ⟨e, ?_⟩
  refine ⟨.non, _, I.lset (its' := its ++ [u]) hH e (by simp) (r.append (.cons ru .nil)) ?_, rfl, q⟩
  rw [List.length_append, List.length_singleton]
  omega

def rExtend : V → List V → Hp → VK → Prop := fun x vs H Q => ∃ l b xs zs, x = .ref l ∧ vs = [.ref b] ∧ H l = some (.lst xs) ∧ H b = some (.lst zs) ∧ xs.length + zs.length ≤ sizeLine ∧ Q .non (upd H l (.lst (xs ++ zs)))
def rPop : V → List V → Hp → VK → Prop := fun x vs H Q => ∃ l xs y, x = .ref l ∧ vs = [] ∧ H l = some (.lst xs) ∧ xs[xs.length - 1]? = some y ∧ Q y (upd H l (.lst xs.dropLast))
def rPopAt : V → List V → Hp → VK → Prop := fun x vs H Q => ∃ l xs i k y, x = .ref l ∧ vs = [.int i] ∧ H l = some (.lst xs) ∧ -(2 ^ 63) ≤ i ∧ i < 2 ^ 63 ∧ seqIndex? i xs.length = some k ∧ xs[k]? = some y ∧ Q y (upd H l (.lst (xs.eraseIdx k)))
def rReverse : V → List V → Hp → VK → Prop := fun x vs H Q => ∃ l xs, x = .ref l ∧ vs = [] ∧ H l = some (.lst xs) ∧ Q .non (upd H l (.lst xs.reverse))
def rClear : V → List V → Hp → VK → Prop := fun x vs H Q => ∃ l xs, x = .ref l ∧ vs = [] ∧ H l = some (.lst xs) ∧ Q .non (upd H l (.lst []))
def rCat : R2 := fun x y H Q => ∃ l b xs zs, x = .ref l ∧ y = .ref b ∧ H l = some (.lst xs) ∧ H b = some (.lst zs) ∧ xs.length + zs.length ≤ sizeLine ∧ ∀ p, H p = none → Q (.ref p) (upd H p (.lst (xs ++ zs)))
/-- a list times an int (a negative one is nothing) -/
def rRep : R2 := fun x y H Q => ∃ l k xs, x = .ref l ∧ y = .int k ∧ H l = some (.lst xs) ∧ -(2 ^ 63) ≤ k ∧ k < 2 ^ 63 ∧ xs.length * k.toNat ≤ sizeLine ∧
  ∀ p, H p = none → Q (.ref p) (upd H p (.lst (List.replicate k.toNat xs).flatten))
theorem len_rep {α : Type} (xs : List α) (k : Nat) : (List.replicate k xs).flatten.length = k * xs.length := by
  induction k with
  | zero => simp
  | succ k ih => rw [List.replicate_succ, List.flatten_cons, List.length_append, ih, Nat.succ_mul, Nat.add_comm]
theorem op_rep : OpR X (binaryOp .Mult) rRep := by
  intro pins s σ H x y v u Q I rx ry h
  obtain ⟨l, k, xs, rfl, rfl, hH, h1, h2, hz, q⟩ := h
  cases rx
  obtain ⟨t, rfl⟩ := ry
  obtain ⟨z, its, n, r, hl, e⟩ := I.lstM hH
  have hlen : its.toArray.size * k.toNat ≤ sizeLine := by rw [List.size_toArray, ← hl]; exact hz
  have hcap : ¬ its.toArray.size * k.toNat > (2 ^ 63 - 1) / 8 := by
    have : (sizeLine : Nat) ≤ (2 ^ 63 - 1) / 8 := by decide
    omega
  have hfit : ¬ (!Builtin.List.listFitsIndex k) = true := by
    rw [fitsIndex_both h1 h2]
    exact Bool.false_ne_true
  have hlong : ¬ Builtin.List.listTooLong (its.toArray.size * k.toNat) = true := by
    rw [notLongL hlen]
    exact Bool.false_ne_true
  have hnew : List.foldl (fun x1 x2 => x1 ++ x2) #[] (List.replicate (if its.toArray.isEmpty = true then 0 else k.toNat) its.toArray) = (List.replicate k.toNat its).flatten.toArray := by
    have f0 : ∀ m : Nat, List.foldl (fun x1 x2 => x1 ++ x2) #[] (List.replicate m its.toArray) = (List.replicate m its).flatten.toArray := fun m => by
      have := foldl_rep its m []
      rw [List.nil_append] at this
      exact this
    rw [f0]
    cases its with
    | nil => simp
    | cons a r' => rw [if_neg (by simp)]
  refine wpAny_binaryOp_repeat_ref (T := "list") (U := "int") (by decide) ⟨_, e, rfl⟩ (fun s' => typeIs_int s' k t) noFill_list_mul F.fills_int_mul F.slot_int_rmul repeat_list F.slot_int_index.lookup
    (call_meets F.slot_int_rmul (typeIs_int s k t) F.entry_int_rmul (F.args_int_rmul_2 _ _) (int___rmul___int_list k t l its.toArray n)
      ⟨e, rfl, ⟨_, e, rfl⟩, call_meets F.slot_list_mul ⟨_, e, rfl⟩ F.entry_list_mul (F.args_list_mul_2 _ _) (AutoListH.list___mul___list_int_3 l its.toArray n k t hfit hcap hlong) ⟨e, ?_⟩⟩)
  rw [hnew]
  exact ⟨.ref _, _, I.lnew (t' := s.toks) (r.rep k.toNat) (by rw [len_rep, Nat.mul_comm]; exact hz), rfl, q _ I.fresh⟩

end

section
variable {prog : Program} {w : World} {A : Around} {E : Value → Shared → Prop} {s : Shared}
end

section
variable {X : Cx}
end
end L2

namespace Att
open PySem PySem.W PySem.Calls PyProof.Rows

theorem ints_of_wellAll {P : Params} {h : Heap} : ∀ (ns : List Int) (vs : List Value), WellAll P h vs (ns.map WData.int) → IntsAre vs ns := by
  intro ns
  induction ns with
  | nil =>
    intro vs w
    rw [List.map_nil] at w
    cases w
    exact .nil
  | cons n ns ih =>
    intro vs w
    rw [List.map_cons] at w
    cases w with
    | cons a b =>
      cases a
      exact .cons _ _ (ih _ b)

theorem script_of {l : OpenLaw} {n : Nat} (hn : l.most = some n) {P : Params} {h : Heap} {args : List WData} {vals : List Value}
    (hpre : l.row.toRowW.claim.pre args = true) (hwl : WellAll P h vals args) :
    ∃ a vs ns, vals = [Value.ref a] ∧ args = [WData.list (ns.map WData.int)] ∧ h.get? a = some { cls := .type "list", data := .seq vs.toArray } ∧ IntsAre vs ns ∧ ns.length ≤ n := by
  have hsh : WShape.hasAll [] args [.list .int] = true := (pre_splitW hpre).1
  have hc : l.pre.holds [] { args := args } = true := (pre_splitW hpre).2
  obtain ⟨d, r, rfl, h1, h2⟩ := hasAllW_cons hsh
  obtain rfl := hasAllW_nil h2
  obtain ⟨xs, rfl, h3⟩ := hasW_list h1
  obtain ⟨ns, rfl⟩ := items_int h3
  have hlen : ns.length ≤ n := by
    unfold OpenLaw.pre at hc
    have h4 : (WTm.not (.lt (.lit (.int (n : Int))) (.len (.arg 0)))).holds [] { args := [.list (ns.map .int)] } = true := by
      have h4 := (holds_andW hc).1
      rw [hn] at h4
      exact h4
    have h5 := condW_of h4 (w_not (w_lt w_lit (w_len_list (w_arg rfl))))
    rw [List.length_map] at h5
    refine Nat.le_of_not_lt fun q => ?_
    have q' : (n : Int) < ((ns.length : Nat) : Int) := by omega
    first
      | (rw [decide_eq_true q'] at h5; exact absurd h5 (by decide))
      | (simp at h5; omega)
  cases hwl with
  | cons w1 w2 =>
    cases w2
    cases w1 with
    | list ho hall => exact ⟨_, _, ns, rfl, rfl, ho, ints_of_wellAll ns _ hall, hlen⟩

theorem post_true (l : OpenLaw) (args : List WData) : l.row.toRowW.claim.post args (.bool true) args = true :=
  postW_of (r := l.row.toRowW) (X := (true == true))
    (show WShape.has [] (.bool true) .bool = true by first | rfl | decide | simp [WShape.has, WShape.arms, WShape.armsAll])
    (show (WTm.eq .res (.lit (.bool true))).value [] { args := args, res := some (.bool true), after := args } = some (.bool (true == true)) from w_eq_bool (w_res rfl) w_lit) rfl

/-- the same from a codeAny of the CALL (for a layer whose function contracts speak of calls) -/
theorem attach_call {l : OpenLaw} {n : Nat} {q : Program} {loose : List Str} {XP : (Str → Option Value) → Heap → Prop} {YP : World → Heap → Prop} {d : DefRec}
    (hn : l.most = some n) (hdf : d.params.defaults = [])
    (call : ∀ (w : World) (s₀ s₁ : Shared) (mg mb : Str → Option Value) (fa : Addr) (o : Obj) (pm cd doc : Value) (a : Addr) (vs : List Value) (ns : List Int),
      Ground q loose [] XP w s₀ mg mb s₁.heap → YP w s₁.heap →
      s₁.heap.get? fa = some o → o.data = .func (docDef d.name d.params d.body d.scope pm cd doc) → s₁.heap.CodeRec cd d.name → mg d.name = some (.ref fa) →
      s₁.heap.get? a = some { cls := .type "list", data := .seq vs.toArray } → IntsAre vs ns → ns.length ≤ n → s₁.gens = #[] →
      codeAny (model l.prog w) callerA (.call (.ref fa) ⟨[.ref a], []⟩) (fun r s' => r = .ok (.ret (.bool true)) ∧ OldK s₁.heap s'.heap ∧ s'.os = s₁.os ∧ AllBare s'.gens) s₁) :
    WalkO q loose XP YP l.row.toRowW d [] (fun f vs => PySem.call f vs) := by
  intro w s₀ s₁ mg mb G Y fa o pm cd doc dV kV ho hd hcd hD hmg hg args vals as hpre hlay hrd hwl hlo
  obtain rfl : dV = .none := Dflts.none hD hdf
  obtain rfl : kV = .none := Dflts.noKw hD
  obtain ⟨a, vs, ns, rfl, rfl, hobj, hints, hlen⟩ := script_of hn hpre hwl
  refine enter_call (codeAny_mono (call w s₀ s₁ mg mb fa o pm cd doc a vs ns G Y ho (fd_plain hd) hcd hmg hobj hints hlen hg) fun r s' hq => ?_)
  obtain ⟨rfl, h2, h3, h4⟩ := hq
  exact ⟨.inl ⟨.bool true, .bool true, [], rfl, fun _ => rfl, .bool true, post_true l _, fun _ => ⟨List.Pairwise.nil, fun _ hm => (nomatch hm)⟩⟩, h2, h3, h4⟩

section
variable {prog : Program} {w : World} {A : Around} {E : Value → Shared → Prop} {s : Shared} {K : Frag}

def noObjs (h : Heap) : Heap := { h with objs := #[] }
def ledger (h : Heap) (L d : Addr) : List (Addr × Obj) := (List.range h.objs.size).filterMap fun a => if a = L ∨ a = d then none else (h.get? a).map fun o => (a, o)
end
end Att

namespace L2
open PySem PySem.Spec PyProof.Rows

theorem vals_ints : ∀ {vs : List Value} {ns : List Int}, IntsAre vs ns → Vals (ns.map V.int) vs
  | _, _, .nil => .nil
  | _, _, .cons n t h => .cons ⟨t, rfl⟩ (vals_ints h)

/-- nothing is tracked but the script, known to the object (or it is an object of the module) -/
def Only (H : Hp) : Prop := ∀ b, H b = none ∨ ∃ o xs, H b = some (.frz o (.lst xs))

/-- THE HEAD: the law's promise, at the heap behind the top. F, the promise of the law's def, may use that base is part of the heap (so K.In base, base.Ns mainGlobals mg stand in Mod) -/
theorem law_call {P : Program} {w : World} {K : PySem.W.Frag} {mg mb : Str → Option Value} {CX : CXT} {k : Nat} {fa a : Addr} {fd : FuncData} {x : Str} {sp : Sp} {s₁ : Shared} {vs : List Value} {ns : List Int}
    (KX : K.In s₁.heap) (hns : s₁.heap.Ns mainGlobals mg) (hb : s₁.heap.Ns builtinsNs mb) (hbb : ∀ x : Str, x ≠ "__name__" → mb x = bootBuiltins x) (hlim : s₁.heap.NoLimit) (hg : s₁.gens = #[])
    (ha : s₁.heap.get? a = some { cls := .type "list", data := .seq vs.toArray }) (hi : IntsAre vs ns) (hl : ns.length ≤ sizeLine) (hr : Room k callerA)
    (F : ∀ base : Heap, K.In base → base.Ns mainGlobals mg → FnOk P w K mg base CX k fa fd [x] sp) (hbind : ∀ (s : Shared) (u : Value), BindsTo s fd ⟨[u], []⟩ [(x, u)])
    (hsp : ∀ H : Hp, Only H → SqL K H a (ns.map V.int) → sp [.ref a] H (fun v _ => v = .bl true) fun _ _ _ => False)
    (hCX : ∀ H e s', CX [] H s₁ (fun _ _ _ => False) e s' → False) :
    codeAny (model P w) callerA (.call (.ref fa) ⟨[.ref a], []⟩) (fun r s' => r = .ok (.ret (.bool true)) ∧ OldK s₁.heap s'.heap ∧ s'.os = s₁.os ∧ AllBare s'.gens) s₁ := by
  have rv := vals_ints hi
  have lenV := hi.length
  -- from an abstract heap in which nothing but the script may be tracked
  have core : ∀ H : Hp, Only H → SqL K H a (ns.map V.int) → HOk P w H s₁.heap → (∀ b, H b ≠ none → b = a) → (H a ≠ none → K.lookup a = none) →
      codeAny (model P w) callerA (.call (.ref fa) ⟨[.ref a], []⟩) (fun r s' => r = .ok (.ret (.bool true)) ∧ OldK s₁.heap s'.heap ∧ s'.os = s₁.os ∧ AllBare s'.gens) s₁ := by
    intro H hO hS hok hA hK
    have base_of : ∀ {b : Addr} {o : Obj}, s₁.heap.get? b = some o → H b = none → (hidT s₁.heap H).get? b = some o := fun e n => hidT_get e n
    have noA : ∀ {b : Addr} {o : Obj} {es : Array DictEntry} {ep : Nat}, s₁.heap.get? b = some o → o.data = .dict es ep → H b = none := fun {b o es ep} e d => by
      cases q : H b with
      | none => rfl
      | some u =>
        have e' : b = a := hA b (by rw [q]; simp)
        subst e'
        rw [ha] at e; cases e
        have d' : Data.seq vs.toArray _ = Data.dict es ep := d
        cases d'
    have nsK : ∀ {b : Addr} {m : Str → Option Value}, s₁.heap.Ns b m → (hidT s₁.heap H).Ns b m := fun {b m} ⟨o, es, ep, e, d, r⟩ => ⟨o, es, ep, base_of e (noA e d), d, r⟩
    have hKb : K.In (hidT s₁.heap H) := fun b o e => base_of (KX b o e) (by
      cases q : H b with
      | none => rfl
      | some u =>
        have e' : b = a := hA b (by rw [q]; simp)
        subst e'
        rw [hK (by rw [q]; simp)] at e; cases e)
    have hM : Mod K mg (hidT s₁.heap H) := ⟨hKb, nsK hns, ⟨mb, nsK hb, hbb⟩, let ⟨mc, h1, h2⟩ := hlim; ⟨mc, nsK h1, h2⟩⟩
    have e0 : Env0 P w K mg (hidT s₁.heap H) callerA [] s₁ H := ⟨rfl, hM, fun b o e => of_hidT e, Nat.le_of_eq (hidT_size _ _), trivial, fun b hb => absurd (show b ∈ ([] : List Addr) from hb) (by simp), hok, .of_eq hg⟩
    refine codeAny_mono ((F _ hKb (nsK hns)).run callerA [] s₁ H ⟨[.ref a], []⟩ [.ref a] [.ref a] _ _ hr e0 (hbind s₁ (.ref a)) (.cons rfl .nil) (hsp H hO hS)) fun r s' h => ?_
    cases r with
    | error e => exact (hCX H e s' h).elim
    | ok fl =>
      cases fl with
      | next => exact False.elim h
      | brk => exact False.elim h
      | cont => exact False.elim h
      | ret u =>
        obtain ⟨v, H', os, bare, un, hok', r', q⟩ := h
        have q' : v = .bl true := q
        subst q'
        obtain rfl : u = Value.bool true := r'
        refine ⟨rfl, OldK.of_keep fun b o e => ?_, os, bare⟩
        cases q : H b with
        | none => exact un.keep b o e q (by intro z; exact absurd (show b ∈ ([] : List Addr) from z) (by simp)) (by simp)
        | some u =>
          rcases hO b with z | ⟨ob, xs, z⟩
          · rw [q] at z; cases z
          · have z2 := un.frzs b ob _ z
            obtain ⟨e1, _⟩ := hok b _ z
            obtain ⟨e2, _⟩ := hok' b _ z2
            rw [e] at e1; cases e1
            exact e2
  cases hk : K.lookup a with
  | some o =>
    -- the script is one of the module's own objects
    have e := KX a o hk
    rw [ha] at e
    cases e
    refine core (fun _ => none) (fun _ => .inl rfl) (.inr ⟨_, vs.toArray, _, hk, rfl, rfl, rfl, by rw [List.size_toArray, lenV]; exact hl, by simpa using rv⟩) (fun b u z => by have z' : (none : Option HO) = some u := z; cases z') (fun b z => absurd rfl z) fun z => absurd rfl z
  | none =>
    refine core (fun b => if b = a then some (.frz { cls := .type "list", data := .seq vs.toArray } (.lst (ns.map V.int))) else none) (fun b => ?_) (.inl (.inr ⟨{ cls := .type "list", data := .seq vs.toArray }, if_pos rfl⟩)) (fun b u z => ?_) (fun b z => ?_) fun _ => hk
    · by_cases hb : b = a
      · exact .inr ⟨_, _, if_pos hb⟩
      · exact .inl (if_neg hb)
    · by_cases hb : b = a
      · have z' := (if_pos hb).symm.trans z
        cases z'
        subst hb
        exact ⟨ha, by rw [List.length_map]; exact hl, vs, _, rv, ha⟩
      · have z' := (if_neg hb).symm.trans z
        cases z'
    · by_cases hb : b = a
      · exact hb
      · exact absurd (if_neg hb) z
end L2

namespace L2
open PySem PySem.Spec PyProof.Rows

abbrev KOf {K : PySem.W.Frag} {h : Heap} (_ : K.In h) : PySem.W.Frag := K

/-- the goal that k_head leaves (case hc), from the law's promise. F gives the function object fd (K's own) once, then the promise over every base -/
theorem walk_of {l : PySem.W.OpenLaw} {n k : Nat} {q : Program} {loose : List Str} {XP : (Str → Option Value) → Heap → Prop} {YP : World → Heap → Prop} {d : DefRec} {K : Params → PySem.W.Frag} {CX : World → CXT} {sp : World → Sp} {x : Str}
    (hn : l.most = some n) (hn2 : n ≤ sizeLine) (hdf : d.params.defaults = []) (hr : Room k callerA)
    (hY : ∀ (w : World) (h : Heap), YP w h → (K w.params).In h)
    (F : ∀ (w : World) (mg : Str → Option Value) (fa : Addr) (h : Heap), (K w.params).In h → h.Ns mainGlobals mg → mg d.name = some (.ref fa) →
      ∃ fd : FuncData, (∀ (s : Shared) (u : Value), BindsTo s fd ⟨[u], []⟩ [(x, u)]) ∧
        ∀ base : Heap, (K w.params).In base → base.Ns mainGlobals mg → FnOk l.prog w (K w.params) mg base (CX w) k fa fd [x] (sp w))
    (hsp : ∀ (w : World) (H : Hp) (a : Addr) (ns : List Int), ns.length ≤ n → Only H → SqL (K w.params) H a (ns.map V.int) → sp w [.ref a] H (fun v _ => v = .bl true) fun _ _ _ => False)
    (hCX : ∀ (w : World) (H : Hp) (s : Shared) (e : Value) (s' : Shared), CX w [] H s (fun _ _ _ => False) e s' → False) :
    PySem.W.WalkO q loose XP YP l.row.toRowW d [] (fun f vs => PySem.call f vs) := by
  refine Att.attach_call hn hdf fun w s₀ s₁ mg mb fa o pm cd doc a vs ns G Y ho hd hcd hmg hobj hints hlen hg => ?_
  have KX := hY w _ Y
  obtain ⟨fd, hb, hF⟩ := F w mg fa _ KX G.T.g hmg
  exact law_call KX G.T.g G.T.b G.T.builtins G.T.nolimit hg hobj hints (Nat.le_trans hlen hn2) hr hF hb (fun H hO hS => hsp w H a ns hlen hO hS) fun H e s' => hCX w H s₁ e s'
end L2



namespace L2
open PySem PySem.Spec PyProof.Rows

/-- the j-th statement of a class's body -/
def inClass (s : Stmt) (j : Nat) : Stmt := match s with
  | .ClassDef _ _ _ body _ _ _ _ _ _ _ => body.getD j (.Pass ⟨0, 0, 0, 0⟩)
  | _ => .Pass ⟨0, 0, 0, 0⟩
def defArgs (s : Stmt) : Arguments := match s with
  | .FunctionDef _ a _ _ _ _ _ _ _ _ => a
  | _ => { posonlyargs := [], args := [], vararg := none, kwonlyargs := [], kw_defaults := [], kwarg := none, defaults := [] }
def defBody (s : Stmt) : List Stmt := match s with
  | .FunctionDef _ _ b _ _ _ _ _ _ _ => b
  | _ => []
def defScope (s : Stmt) : Scope := match s with
  | .FunctionDef _ _ _ _ _ _ sc _ _ _ => sc
  | _ => { kind := .function, names := [], isGenerator := false, isCoroutine := false }

abbrev CX0 : CXT := fun _ _ _ _ _ _ => False
abbrev E0 : XK := fun _ _ _ => False
theorem pass0 {X : Cx} : Passes CX0 X E0 := fun _ _ _ _ _ _ _ h => h.elim

structure Fun (K : PySem.W.Frag) (x qual : Str) (st : Stmt) (f : Addr) (fd : FuncData) : Prop where
  ex : ∃ (oc : Value) (od : Option Addr) (kV doc pm : Value) (an : Option Addr) (cdv ct : Value) (osl : Array (Option Value)),
    fd = PySem.W.fnOf x qual (defArgs st) (defBody st) (defScope st) .none kV doc pm an cdv ct ∧ K.lookup f = some ⟨oc, od, .func fd, osl⟩ ∧ PySem.W.codeIn K cdv qual = true
  kp : PySem.W.keepIn K (.ref f) = true
section
variable {P : Program} {w : World} {K : PySem.W.Frag} {mg : Str → Option Value} {base : Heap}
/-- THE RULE for a def: its body as a term of rules, and the reading of that term -/
theorem Fun.ok {x qual : Str} {st : Stmt} {f : Addr} {fd : FuncData} {N ps : List Str} {k : Nat} {sp : Sp} (F : Fun K x qual st f fd) (S : FnScope N ps (defScope st)) (len : ∀ vs H Q E, sp vs H Q E → vs.length = ps.length)
    (hbody : ∀ (cdv : Value) (A : Around) (outer : List Env) (s : Shared) (H : Hp) (vs : List V) (Q : VK) (E : XK), Room k (A.deeper (envOfC qual (defScope st) s.heap.objs.size f cdv)) → sp vs H Q E →
      ∃ t, PSs (cxOf CX0 P w K mg base N qual (defScope st) f cdv A outer s H E).nox (defBody st) t ∧ t { nx := fun _ H' => Q .non H', rt := Q } (start N vs) H) : FnOk P w K mg base CX0 (k + 1) f fd ps sp := by
  obtain ⟨oc, od, kV, doc, pm, an, cdv, ct, osl, rfl, lk, hcd⟩ := F.ex
  refine fn_of lk hcd S len fun A outer s H vs Q E hr hsp => ?_
  obtain ⟨t, h, q⟩ := hbody cdv A outer s H vs Q E hr hsp
  exact ⟨t, h.nox, q⟩
/-- how its arguments bind (no defaults): h is «fun _ _ _ _ _ _ us hl => match us, hl with | [_, _], _ => rfl», one _ a parameter -/
theorem Fun.binds {x qual : Str} {st : Stmt} {f : Addr} {fd : FuncData} {ps : List Str} (F : Fun K x qual st f fd)
    (h : ∀ (kV doc pm : Value) (an : Option Addr) (cdv ct : Value) (us : List Value), us.length = ps.length → bindArgs (PySem.W.fnOf x qual (defArgs st) (defBody st) (defScope st) .none kV doc pm an cdv ct) ⟨us, []⟩ = pure (ps.zip us)) : Binds K fd ps [] := by
  obtain ⟨oc, od, kV, doc, pm, an, cdv, ct, osl, rfl, lk, hcd⟩ := F.ex
  exact .all (h kV doc pm an cdv ct)
theorem fun_mk {x qual : Str} {st : Stmt} {f : Addr} {oc : Value} {od an : Option Addr} {osl : Array (Option Value)} {kV doc pm cdv ct : Value} (l : K.lookup f = some ⟨oc, od, .func (PySem.W.fnOf x qual (defArgs st) (defBody st) (defScope st) .none kV doc pm an cdv ct), osl⟩)
    (c : PySem.W.codeIn K cdv qual = true) (k : PySem.W.keepIn K (.ref f) = true) : Fun K x qual st f (PySem.W.fnOf x qual (defArgs st) (defBody st) (defScope st) .none kV doc pm an cdv ct) := ⟨⟨oc, od, kV, doc, pm, an, cdv, ct, osl, rfl, l, c⟩, k⟩
end
section
variable {X : Cx}
theorem pv (i : Nat) {x : Str} {pos : Pos} (hN : X.N[i]? = some x := by rfl) (hv : Vis X.env.scope x := by first | exact Or.inl rfl | exact Or.inr (Or.inl rfl) | exact Or.inr (Or.inr rfl)) (hd : (x == ("__debug__" : Str)) = false := by decide)
    (hcd : (x == ("__classdict__" : Str)) = false := by decide) : PE X (.Name x pos) (tVar i) := pe_var hN hv hd hcd
end

theorem iteF {A B : Prop} (h : B) : if false = true then A else B := by
  rw [if_neg Bool.false_ne_true]
  exact h
theorem iteT {A B : Prop} (h : A) : if true = true then A else B := by
  rw [if_pos rfl]
  exact h
/-- all that was tracked is as it was -/
def Same (H H' : Hp) : Prop := ∀ b o, H b = some o → H' b = some o
theorem Same.refl (H : Hp) : Same H H := fun _ _ h => h
theorem Same.trans {H H1 H2 : Hp} (a : Same H H1) (b : Same H1 H2) : Same H H2 := fun c o h => b c o (a c o h)
theorem Same.free {H H' : Hp} (e : Same H H') {l : Addr} (h : H' l = Option.none) : H l = Option.none := by
  cases q : H l with
  | none => rfl
  | some o =>
    rw [e l o q] at h
    cases h
theorem Same.seq {K : PySem.W.Frag} {H H' : Hp} {a : Addr} {xs : List V} (e : Same H H') (h : SqL K H a xs) : SqL K H' a xs := by
  rcases h with (h | ⟨o, h⟩) | h
  · exact .inl (.inl (e _ _ h))
  · exact .inl (.inr ⟨o, e _ _ h⟩)
  · exact .inr h

end L2
namespace L2
open PySem PySem.Spec PyProof.Rows

section
variable {κ : Type} [DecidableEq κ]
def valV (kvs : List (κ × V)) (k : κ) : Option V := (kvs.find? fun kv => decide (kv.1 = k)).map (·.2)
/-- in its place, or at the end -/
def putK (kvs : List (κ × V)) (k : κ) (v : V) : List (κ × V) :=
  if (kvs.any fun kv => decide (kv.1 = k)) = true then kvs.map (fun kv => if kv.1 = k then (kv.1, v) else kv) else kvs ++ [(k, v)]
def dropK (kvs : List (κ × V)) (k : κ) : List (κ × V) := kvs.filter fun kv => decide (kv.1 ≠ k)

theorem valV_pos {p : κ × V} {r : List (κ × V)} {k : κ} (e : p.1 = k) : valV (p :: r) k = some p.2 := by simp [valV, List.find?_cons, e]
theorem valV_neg {p : κ × V} {r : List (κ × V)} {k : κ} (e : ¬ p.1 = k) : valV (p :: r) k = valV r k := by simp [valV, List.find?_cons, e]
theorem valV_any (k : κ) : ∀ kvs : List (κ × V), (kvs.any fun kv => decide (kv.1 = k)) = (valV kvs k).isSome
  | [] => rfl
  | p :: r => by
    rw [List.any_cons]
    by_cases e : p.1 = k
    · simp only [valV_pos e, decide_eq_true e, Bool.true_or, Option.isSome_some]
    · rw [valV_neg e, decide_eq_false e, Bool.false_or]; exact valV_any k r
theorem length_putK (kvs : List (κ × V)) (k : κ) (v : V) : (putK kvs k v).length ≤ kvs.length + 1 := by
  unfold putK
  split
  · rw [List.length_map]; omega
  · rw [List.length_append, List.length_cons, List.length_nil]; omega
theorem RelO.isSome_eq {o : Option V} {u : Option Value} (r : RelO o u) : o.isSome = u.isSome := by
  cases o with
  | none => cases u with
    | none => rfl
    | some _ => exact (show False from r).elim
  | some _ => cases u with
    | none => exact (show False from r).elim
    | some _ => rfl
theorem RelO.getD {o : Option V} {u : Option Value} {d : V} {d' : Value} (r : RelO o u) (rd : RelV d d') : RelV (o.getD d) (u.getD d') := by
  cases o with
  | none => cases u with
    | none => exact rd
    | some _ => exact (show False from r).elim
  | some _ => cases u with
    | none => exact (show False from r).elim
    | some _ => exact r

/-- raw tables of the same keys -/
theorem KV.val {kvs : List (κ × V)} {vs : List (κ × Value)} (r : KV kvs vs) (k : κ) : RelO (valV kvs k) (valueAt vs k) := by
  unfold KV at r
  induction r with
  | nil => exact True.intro
  | @cons p q ps qs h t ih =>
    obtain ⟨h1, h2⟩ := h
    by_cases e : p.1 = k
    · have e' : q.1 = k := h1.symm.trans e
      have b : valueAt (q :: qs) k = some q.2 := by simp [valueAt, List.find?_cons, e']
      rw [valV_pos e, b]; exact h2
    · have e' : ¬ q.1 = k := fun z => e (h1.trans z)
      have b : valueAt (q :: qs) k = valueAt qs k := by simp [valueAt, List.find?_cons, e']
      rw [valV_neg e, b]; exact ih
theorem KV.any {kvs : List (κ × V)} {vs : List (κ × Value)} (r : KV kvs vs) (k : κ) : (kvs.any fun kv => decide (kv.1 = k)) = vs.any fun kv => decide (kv.1 = k) := by
  unfold KV at r
  induction r with
  | nil => rfl
  | cons h t ih => rw [List.any_cons, List.any_cons, ih, h.1]
theorem KV.repl {kvs : List (κ × V)} {vs : List (κ × Value)} (r : KV kvs vs) (k : κ) {y : V} {u : Value} (ry : RelV y u) :
    KV (kvs.map fun kv => if kv.1 = k then (kv.1, y) else kv) (vs.map fun kv => if kv.1 = k then (kv.1, u) else kv) := by
  unfold KV at r ⊢
  induction r with
  | nil => exact .nil
  | @cons p q ps qs h t ih =>
    rw [List.map_cons, List.map_cons]
    refine .cons ?_ ih
    obtain ⟨h1, h2⟩ := h
    by_cases e : p.1 = k
    · rw [if_pos e, if_pos (h1.symm.trans e)]; exact ⟨h1, ry⟩
    · rw [if_neg e, if_neg (fun z => e (h1.trans z))]; exact ⟨h1, h2⟩
theorem KV.put {kvs : List (κ × V)} {vs : List (κ × Value)} (r : KV kvs vs) (k : κ) {y : V} {u : Value} (ry : RelV y u) : KV (putK kvs k y) (stored vs k u) := by
  unfold putK stored
  rw [r.any k]
  by_cases e : (vs.any fun kv => decide (kv.1 = k)) = true
  · rw [if_pos e, if_pos e]; exact r.repl k ry
  · rw [if_neg e, if_neg e]; exact Paired.snoc r ⟨rfl, ry⟩
theorem KV.drop {kvs : List (κ × V)} {vs : List (κ × Value)} (r : KV kvs vs) (k : κ) : KV (dropK kvs k) (without vs k) := by
  unfold KV at r ⊢
  unfold dropK without
  induction r with
  | nil => exact .nil
  | @cons p q ps qs h t ih =>
    obtain ⟨h1, h2⟩ := h
    rw [List.filter_cons, List.filter_cons]
    by_cases e : p.1 = k
    · have a : ¬ decide (p.1 ≠ k) = true := by simp [e]
      have b : ¬ decide (q.1 ≠ k) = true := by simp [h1.symm.trans e]
      rw [if_neg a, if_neg b]; exact ih
    · have e' : ¬ q.1 = k := fun z => e (h1.trans z)
      have a : decide (p.1 ≠ k) = true := by simp [e]
      have b : decide (q.1 ≠ k) = true := by simp [e']
      rw [if_pos a, if_pos b]; exact .cons ⟨h1, h2⟩ ih
theorem KV.keys {kvs : List (κ × V)} {vs : List (κ × Value)} (r : KV kvs vs) : kvs.map (·.1) = vs.map (·.1) := by
  unfold KV at r
  induction r with
  | nil => rfl
  | cons h t ih => rw [List.map_cons, List.map_cons, ih, h.1]
theorem KV.length {kvs : List (κ × V)} {vs : List (κ × Value)} (r : KV kvs vs) : kvs.length = vs.length := Paired.length r
end


theorem kV_is {P : Program} {w : World} {k : Key} {u : Value} (r : RelV (kV k) u) : (mixKind P w).is k u = true := by
  cases k with
  | inl i => obtain ⟨t, e⟩ := (show ∃ t, u = Value.int i t from r); subst e; exact mixKind_int P w i t
  | inr x => obtain ⟨t, e⟩ := (show ∃ t, u = Value.str x t from r); subst e; exact mixKind_str P w x t
theorem items_are {P : Program} {w : World} : ∀ {ks : List Key} {us : List Value}, Vals (ks.map kV) us → ItemsAre (mixKind P w) ks us
  | [], _, r => by rw [List.map_nil] at r; cases r; exact .nil
  | k :: ks, _, r => by
    rw [List.map_cons] at r
    cases r with
    | cons h t => exact .cons (kV_is h) (items_are t)

/-- raw entries of a dict with tuple keys -/
abbrev KT (H : Hp) : List (List Key × V) → List (List Key × Addr × Value) → Prop := Paired fun p q => p.1 = q.1 ∧ H q.2.1 = some (.tup (p.1.map kV)) ∧ RelV p.2 q.2.2
theorem KT.val {H : Hp} {kvs : List (List Key × V)} {xs : List (List Key × Addr × Value)} (r : KT H kvs xs) (k : List Key) : RelO (valV kvs k) ((atKey xs k).map (·.2)) := by
  induction r with
  | nil => exact True.intro
  | @cons p q ps qs h t ih =>
    obtain ⟨h1, _, h2⟩ := h
    by_cases e : p.1 = k
    · have e' : q.1 = k := h1.symm.trans e
      have b : atKey (q :: qs) k = some q.2 := by simp [atKey, List.find?_cons, e']
      rw [valV_pos e, b]; exact h2
    · have e' : ¬ q.1 = k := fun z => e (h1.trans z)
      have b : atKey (q :: qs) k = atKey qs k := by simp [atKey, List.find?_cons, e']
      rw [valV_neg e, b]; exact ih
theorem KT.repl {H : Hp} {kvs : List (List Key × V)} {xs : List (List Key × Addr × Value)} (r : KT H kvs xs) (k : List Key) {y : V} {u : Value} (ry : RelV y u) :
    KT H (kvs.map fun kv => if kv.1 = k then (kv.1, y) else kv) (xs.map (putAt k u)) := by
  induction r with
  | nil => exact .nil
  | @cons p q ps qs h t ih =>
    rw [List.map_cons, List.map_cons]
    refine .cons ?_ ih
    obtain ⟨h1, h2, h3⟩ := h
    unfold putAt
    by_cases e : p.1 = k
    · rw [if_pos e, if_pos (h1.symm.trans e)]; exact ⟨h1, h2, ry⟩
    · rw [if_neg e, if_neg (fun z => e (h1.trans z))]; exact ⟨h1, h2, h3⟩
theorem KT.put {H : Hp} {kvs : List (List Key × V)} {xs : List (List Key × Addr × Value)} (r : KT H kvs xs) (k : List Key) {b : Addr} {y : V} {u : Value} (hb : H b = some (.tup (k.map kV))) (ry : RelV y u) :
    KT H (putK kvs k y) (storedH xs k b u) := by
  have e : (kvs.any fun kv => decide (kv.1 = k)) = (atKey xs k).isSome := by
    rw [valV_any, (r.val k).isSome_eq, Option.isSome_map]
  unfold putK storedH
  rw [e]
  by_cases q : (atKey xs k).isSome = true
  · rw [if_pos q, if_pos q]; exact r.repl k ry
  · rw [if_neg q, if_neg q]; exact Paired.snoc r ⟨rfl, hb, ry⟩
theorem KT.keeps {H H' : Hp} {kvs : List (List Key × V)} {xs : List (List Key × Addr × Value)} (r : KT H kvs xs) (ht : ∀ b ys, H b = some (.tup ys) → H' b = some (.tup ys)) : KT H' kvs xs :=
  Paired.mapP r fun _ _ z => ⟨z.1, ht _ _ z.2.1, z.2.2⟩

section
variable {P : Program} {w : World} {H : Hp} {h : Heap} {a : Addr}
theorem rd_of {u : HO} (ok : HOk P w H h) (e : Rd H a u) : ObjOk P w H h a u := e.ok ok
theorem dk_rd {kvs : List (Key × V)} (ok : HOk P w H h) (e : Rd H a (.dK kvs)) : kvs.length ≤ sizeLine ∧ (a == sysModules) = false ∧ ∃ vs, KV kvs vs ∧ h.DictOf (mixKind P w) a vs :=
  show ObjOk P w H h a (.dK kvs) from rd_of ok e
theorem dk_of {kvs : List (Key × V)} (ok : HOk P w H h) (e : H a = some (.dK kvs)) : kvs.length ≤ sizeLine ∧ (a == sysModules) = false ∧ ∃ vs, KV kvs vs ∧ h.DictOf (mixKind P w) a vs := dk_rd ok (.inl e)
/-- a tracked tuple of ints and texts is a key -/
theorem key_of {ks : List Key} (ok : HOk P w H h) (e : H a = some (.tup (ks.map kV))) : (tupleKind (mixKind P w)).is h ks a := by
  obtain ⟨_, its, r, o, h1, h2, n, h3⟩ := (show ObjOk P w H h a (.tup (ks.map kV)) from ok a _ e)
  exact ⟨o, its.toArray, n, h1, h2, h3, by simpa using items_are r⟩
theorem dt_rd {kvs : List (List Key × V)} (ok : HOk P w H h) (e : Rd H a (.dT kvs)) : kvs.length ≤ sizeLine ∧ (a == sysModules) = false ∧
    ∃ xs, KT H kvs xs ∧ h.DictOfH (tupleKind (mixKind P w)) a xs := by
  obtain ⟨z, y, xs, r, o, es, ep, h1, h2, h3, h4, h5⟩ := (show ObjOk P w H h a (.dT kvs) from rd_of ok e)
  refine ⟨z, y, xs, r, o, es, ep, h1, h2, h3, h4, fun x hx => ?_, h5⟩
  have all : ∀ {l : List (List Key × V)} {m : List (List Key × Addr × Value)}, KT H l m → ∀ x ∈ m, (tupleKind (mixKind P w)).is h x.1 x.2.1 := by
    intro l m q
    induction q with
    | nil => intro x hx; exact nomatch hx
    | @cons p q ps qs hq t ih =>
      intro x hx
      rcases List.mem_cons.mp hx with e | hx
      · subst e
        exact key_of ok (by rw [← hq.1]; exact hq.2.1)
      · exact ih x hx
  exact all r x hx
theorem dt_of {kvs : List (List Key × V)} (ok : HOk P w H h) (e : H a = some (.dT kvs)) : kvs.length ≤ sizeLine ∧ (a == sysModules) = false ∧
    ∃ xs, KT H kvs xs ∧ h.DictOfH (tupleKind (mixKind P w)) a xs := dt_rd ok (.inl e)
end

/-- what the dict at a holds at the key y -/
def DGet (H : Hp) (a : Addr) (y : V) (r : Option V) : Prop :=
  (∃ kvs k, Rd H a (.dK kvs) ∧ y = kV k ∧ r = valV kvs k) ∨ ∃ kvs k b, Rd H a (.dT kvs) ∧ y = .ref b ∧ H b = some (.tup (k.map kV)) ∧ r = valV kvs k
/-- the heap behind a[y] = v -/
def DPut (H : Hp) (a : Addr) (y v : V) (H' : Hp) : Prop :=
  (∃ kvs k, H a = some (.dK kvs) ∧ y = kV k ∧ kvs.length < sizeLine ∧ H' = upd H a (.dK (putK kvs k v))) ∨
  ∃ kvs k b, H a = some (.dT kvs) ∧ y = .ref b ∧ H b = some (.tup (k.map kV)) ∧ kvs.length < sizeLine ∧ H' = upd H a (.dT (putK kvs k v))
theorem DGet.k {H : Hp} {a : Addr} {kvs : List (Key × V)} {k : Key} (e : H a = some (.dK kvs)) : DGet H a (kV k) (valV kvs k) := .inl ⟨kvs, k, .inl e, rfl, rfl⟩
theorem DGet.t {H : Hp} {a b : Addr} {kvs : List (List Key × V)} {k : List Key} (e : H a = some (.dT kvs)) (eb : H b = some (.tup (k.map kV))) : DGet H a (.ref b) (valV kvs k) := .inr ⟨kvs, k, b, .inl e, rfl, eb, rfl⟩
theorem DPut.k {H : Hp} {a : Addr} {kvs : List (Key × V)} {k : Key} {v : V} (e : H a = some (.dK kvs)) (hl : kvs.length < sizeLine) : DPut H a (kV k) v (upd H a (.dK (putK kvs k v))) := .inl ⟨kvs, k, e, rfl, hl, rfl⟩
theorem DPut.t {H : Hp} {a b : Addr} {kvs : List (List Key × V)} {k : List Key} {v : V} (e : H a = some (.dT kvs)) (eb : H b = some (.tup (k.map kV))) (hl : kvs.length < sizeLine) :
    DPut H a (.ref b) v (upd H a (.dT (putK kvs k v))) := .inr ⟨kvs, k, b, e, rfl, eb, hl, rfl⟩


section
variable {X : Cx} {pins : List (Addr × Obj)} {σ : St} {H : Hp} {s : Shared} {a : Addr} {y v : V} {u r : Value} {o : Option V} {A : Around} {E : Value → Shared → Prop}

theorem Inv.big (I : Inv X pins σ H s) : sysModules < s.heap.objs.size := by
  have h : mainGlobals < s.heap.objs.size := (I.mod.glob.keeps I.bk).lt
  exact Nat.lt_trans (by decide) h

/-- d[y], there -/
theorem d_getItem {Q : Value → Shared → Prop} (hu : A.units + 1 < cLine) (I : Inv X pins σ H s) (g : DGet H a y (some v)) (ry : RelV y u) (h : ∀ w' s', Inv X pins σ H s' → RelV v w' → Q w' s') :
    wpAny (model X.prog X.w) A (getItem (.ref a) u) Q E s := by
  rcases g with ⟨kvs, k, e, ey, l⟩ | ⟨kvs, k, b, e, ey, eb, l⟩
  · subst ey
    obtain ⟨z, hd, vs, rel, dd⟩ := dk_rd I.hok e
    obtain ⟨w', hw, rw'⟩ := RelO.some_of (v := v) (o := valueAt vs k) (by rw [l]; exact rel.val k)
    exact wpAny_getItem_of (kV_is ry) dd.mapOf hw (h w' _ (I.tok _) rw')
  · subst ey
    cases (show u = Value.ref b from ry)
    obtain ⟨z, hd, xs, rel, dd⟩ := dt_rd I.hok e
    obtain ⟨w', hw, rw'⟩ := RelO.some_of (v := v) (o := (atKey xs k).map (·.2)) (by rw [l]; exact rel.val k)
    obtain ⟨p, hp, hp2⟩ := Option.map_eq_some_iff.mp hw
    refine wpAny_getItem_heap (tupleKind_room_in1 hu) (key_of I.hok eb) dd hp ?_
    rw [hp2]
    exact h w' _ (I.tok _) rw'
/-- a dict's object is replaced -/
theorem d_write {h' : Heap} {t' : Nat} {ob : HO} (I : Inv X pins σ H s) (mu : Mut (H a)) (hs : Heap.SameBut a s.heap h') (he : ∃ q, h'.get? a = some q) (new : ObjOk X.prog X.w (upd H a ob) h' a ob) :
    Inv X pins σ (upd H a ob) { s with heap := h', toks := t' } :=
  I.write (x := a) (e := a) mu (.inl rfl) (fun b q hb z => (hs.2 b hb).trans z) he new
theorem dk_new {P : Program} {w : World} {H' : Hp} {h' : Heap} {kvs : List (Key × V)} {vs : List (Key × Value)} (z : kvs.length ≤ sizeLine) (hd : (a == sysModules) = false) (rel : KV kvs vs) (dd : h'.DictOf (mixKind P w) a vs) :
    ObjOk P w H' h' a (.dK kvs) := ⟨z, hd, vs, rel, dd⟩
/-- d[y] = v -/
theorem d_setItem {H' : Hp} {Q : Unit → Shared → Prop} (hu : A.units + 1 < cLine) (I : Inv X pins σ H s) (g : DPut H a y v H') (ry : RelV y u) (rv : RelV v r) (h : ∀ s', Inv X pins σ H' s' → Q () s') :
    wpAny (model X.prog X.w) A (setItem (.ref a) u r) Q E s := by
  rcases g with ⟨kvs, k, e, ey, l, eH⟩ | ⟨kvs, k, b, e, ey, eb, l, eH⟩
  · subst ey eH
    obtain ⟨z, hd, vs, rel, dd⟩ := dk_of I.hok e
    have hz : vs.length ≤ sizeLine := by rw [← rel.length]; exact z
    have hl : (putK kvs k v).length ≤ sizeLine := by have := length_putK kvs k v; omega
    refine wpAny_setItem_pairs (hsz := hz) (kV_is ry) dd fun h' dd' hs => h _ ?_
    have he : ∃ q, h'.get? a = some q := let ⟨q, _, _, hq, _⟩ := dd'; ⟨q, hq⟩
    exact d_write I (by rw [e]; exact True.intro) hs he (dk_new hl hd (rel.put k rv) dd')
  · subst ey eH
    cases (show u = Value.ref b from ry)
    obtain ⟨z, hd, xs, rel, dd⟩ := dt_of I.hok e
    have hz : xs.length ≤ sizeLine := by rw [← Paired.length rel]; exact z
    have hl : (putK kvs k v).length ≤ sizeLine := by have := length_putK kvs k v; omega
    refine wpAny_setItem_heap (hsz := hz) (tupleKind_room_in1 hu) (key_of I.hok eb) dd fun h' dd' hs => h _ ?_
    obtain ⟨q, es, ep, hq, h2, h3, h4, _, h5⟩ := dd'
    refine d_write I (by rw [e]; exact True.intro) hs ⟨q, hq⟩ ⟨hl, hd, _, (rel.put k eb rv).keeps fun c ys ec => ?_, q, es, ep, hq, h2, h3, h4, h5⟩
    rw [upd_ne (ne_of ec e (fun z => nomatch z))]
    exact ec
end

section
variable {X : Cx} {pins : List (Addr × Obj)} {σ : St} {H : Hp} {s : Shared} {a : Addr} {kvs : List (Key × V)} {k : Key} {u : Value} {A : Around} {E : Value → Shared → Prop}
end


/-- the element of a subscription, not a slice -/
def NoSl (i : Expr) : Prop := ∀ ov iv, subscripted i false ov iv = operate [ov, iv] (getItem ov iv)
theorem subD_of {prog : Program} {w : World} {A : Around} {E : Value → Shared → Prop} {s : Shared} {env : Env} {value slice : Expr} {pos : Pos} {T id : String} {Q : Value → Shared → Prop}
    (hl : typeLookup (.type T) "__getitem__" = pure (some (.builtin id))) (hs : NoSl slice)
    (h : wpAny (model prog w) A (eval value env) (fun o s₁ => wpAny (model prog w) A (eval slice env) (fun i s₂ => s₂.TypeIs o T ∧ wpAny (model prog w) A (getItem o i) Q E s₂) E s₁) E s) :
    wpAny (model prog w) A (eval (.Subscript value slice pos) env) Q E s := by
  refine Subscript_ (wpAny_mono h (fun o s₁ h₁ => wpAny_mono h₁ (fun i s₂ h₂ => ?_) fun _ _ x => x) fun _ _ x => x)
  obtain ⟨hT, h₂⟩ := h₂
  unfold subscriptTail
  refine wpAny_bind ?_
  rw [getitemInPython_of_ne hT.not_modules]
  refine wpAny_bind (wpAny_specialOf hT hl ?_)
  have fin : wpAny (model prog w) A (subscripted slice false o i) (fun r s₃ => wpAny (model prog w) A (letTemporaryGo value o r >>= fun _ => pure r) Q E s₃) E s₂ := by
    rw [hs o i]
    exact wpAny_operating (wpAny_mono h₂ (fun r s₃ h₃ => wpAny_bind (wpAny_letTemporaryGo (wpAny_pure h₃))) fun _ _ x => x)
  first
    | exact wpAny_pure (wpAny_bind fin)
    | exact wpAny_bind (wpAny_pure (wpAny_bind fin))
    | exact wpAny_bind fin

theorem dict_typeIs {X : Cx} {pins : List (Addr × Obj)} {σ : St} {H : Hp} {s : Shared} {a : Addr} {y : V} {o : Option V} (I : Inv X pins σ H s) (g : DGet H a y o) : s.TypeIs (.ref a) "dict" := by
  rcases g with ⟨kvs, k, e, _, _⟩ | ⟨kvs, k, b, e, _, _, _⟩
  · obtain ⟨_, _, vs, _, dd⟩ := dk_rd I.hok e
    exact dd.typeIs
  · obtain ⟨_, _, xs, _, dd⟩ := dt_rd I.hok e
    exact dd.typeIs
/-- d[y] -/
def tDGet (td ty : TE) : TE := fun σ H Q => td σ H fun x H1 => ty σ H1 fun y H2 => ∃ a v, x = .ref a ∧ DGet H2 a y (some v) ∧ Q v H2
/-- y in d, y not in d -/
def tDIn (ty td : TE) : TE := fun σ H Q => ty σ H fun y H1 => td σ H1 fun x H2 => ∃ a o, x = .ref a ∧ DGet H2 a y o ∧ Q (.bl o.isSome) H2
def tDNotIn (ty td : TE) : TE := fun σ H Q => ty σ H fun y H1 => td σ H1 fun x H2 => ∃ a o, x = .ref a ∧ DGet H2 a y o ∧ Q (.bl (!o.isSome)) H2
/-- d[y] = v -/
def sDPut (td ty tv : TE) : TS := fun D σ H => tv σ H fun v H1 => td σ H1 fun x H2 => ty σ H2 fun y H3 => ∃ a H4, x = .ref a ∧ DPut H3 a y v H4 ∧ D.nx σ H4
/-- d[y] op= v -/
def sDAug (td ty tv : TE) (rd : V → V → Hp → VK → Prop) : TS := fun D σ H => td σ H fun x H1 => ty σ H1 fun y H2 => ∃ a v, x = .ref a ∧ DGet H2 a y (some v) ∧
  tv σ H2 fun y2 H3 => rd v y2 H3 fun z H4 => ∃ H5, DPut H4 a y z H5 ∧ D.nx σ H5
/-- del d[y] -/
def sDDel (td ty : TE) : TS := fun D σ H => td σ H fun x H1 => ty σ H1 fun y H2 => ∃ a kvs k, x = .ref a ∧ H2 a = some (.dK kvs) ∧ y = kV k ∧ (valV kvs k).isSome = true ∧ D.nx σ (upd H2 a (.dK (dropK kvs k)))

section
variable {X : Cx} {o i e value : Expr} {pos pos' tpos : Pos} {td ty tv : TE}
theorem pe_dget (hu : X.A.units + 1 < cLine) (ho : PE X o td) (hi : PE X i ty) (hs : NoSl i) : PE X (.Subscript o i pos) (tDGet td ty) := by
  intro pins s σ H Q I h
  refine subD_of PySem.F.slot_dict_getitem.lookup hs (thn (ho pins s σ H _ I h) fun u s1 ⟨x, H1, I1, rx, q1⟩ => thn (hi pins s1 σ H1 _ I1 q1) fun iv s2 ⟨y, H2, I2, ry, a, v, ex, g, q2⟩ => ?_)
  subst ex
  obtain rfl : u = Value.ref a := rx
  exact ⟨dict_typeIs I2 g, d_getItem hu I2 g ry fun w' s3 I3 rw' => ⟨v, H2, I3, rw', q2⟩⟩
theorem ps_dput (hu : X.A.units + 1 < cLine) (ho : PE X o td) (hi : PE X i ty) (hv : PE X value tv) (hs : swapsWith value (some (.Subscript o i pos')) pos.line X.env = pure false) :
    PS X (.Assign [.Subscript o i pos'] value pos) (sDPut td ty tv) := by
  intro pins s σ H D I h
  refine wpAny_Assign_Subscript (thn (hv pins s σ H _ I h) fun r s1 ⟨v, H1, I1, rv, q1⟩ => thn (ho pins s1 σ H1 _ I1 q1) fun u s2 ⟨x, H2, I2, rx, q2⟩ => thn (hi pins s2 σ H2 _ I2 q2) fun iv s3 ⟨y, H3, I3, ry, a, H4, ex, g, q3⟩ => ?_) hs
  subst ex
  obtain rfl : u = Value.ref a := rx
  exact d_setItem hu I3 g ry rv fun s4 I4 => ⟨σ, H4, I4, q3⟩
end


theorem dk_empty {P : Program} {w : World} {H : Hp} (h : Heap) (hb : sysModules < h.objs.size) : ObjOk P w H (h.push { cls := .type "dict", data := .dict #[] }) h.objs.size (.dK []) :=
  ⟨Nat.zero_le _, beq_eq_false_iff_ne.mpr (Ne.symm (Nat.ne_of_lt hb)), [], .nil, Heap.DictOf.new h⟩
/-- {}, to be a dict of the kind that is wanted -/
def tDNewK : TE := fun _ H Q => ∀ p, H p = none → Q (.ref p) (upd H p (.dK []))
def tDNewT : TE := fun _ H Q => ∀ p, H p = none → Q (.ref p) (upd H p (.dT []))
section
variable {X : Cx} {pos : Pos}
theorem pe_dnewK : PE X (.Dict [] [] pos) tDNewK := fun pins s σ H Q I h =>
  wpAny_Dict_empty ⟨.ref s.heap.objs.size, _, I.laid (a := s.heap.objs.size) (o := .dK []) (t' := s.toks) (fun _ _ q => Heap.get?_push_of_some _ q) (Nat.le_refl _) (dk_empty s.heap I.big), rfl, h _ (I.hok.fresh (Nat.le_refl _))⟩
end

/-- the pairs of a display, from the left -/
def tPairs : List (TE × TE) → St → Hp → (List (V × V) → Hp → Prop) → Prop
  | [], _, H, Q => Q [] H
  | (tk, tv) :: r, σ, H, Q => tk σ H fun x H1 => tv σ H1 fun y H2 => tPairs r σ H2 fun ps H3 => Q ((x, y) :: ps) H3
abbrev VV : List (V × V) → List (Value × Value) → Prop := Paired fun p q => RelV p.1 q.1 ∧ RelV p.2 q.2
def PPs (X : Cx) (pos : Pos) (keys : List (Option Expr)) (values : List Expr) (trs : List (TE × TE)) : Prop :=
  ∀ (pins : List (Addr × Obj)) (s : Shared) (σ : St) (H : Hp) (Q : List (V × V) → Hp → Prop), Inv X pins σ H s → tPairs trs σ H Q →
    wpAny (model X.prog X.w) X.A (evalPairs (pairTrees keys values X.env pos)) (fun vs s' => ∃ ps H', Inv X pins σ H' s' ∧ VV ps vs ∧ Q ps H') X.xe s
def mergeK (kvs more : List (Key × V)) : List (Key × V) := more.foldl (fun acc kv => putK acc kv.1 kv.2) kvs
theorem KV.merge : ∀ {more : List (Key × V)} {rs : List (Key × Value)} {kvs : List (Key × V)} {vs : List (Key × Value)}, KV more rs → KV kvs vs → KV (mergeK kvs more) (merged vs rs) := by
  intro more rs kvs vs r
  unfold KV at r
  induction r generalizing kvs vs with
  | nil => intro q; exact q
  | @cons p q ps qs h t ih =>
    intro r0
    have e : KV (putK kvs p.1 p.2) (stored vs q.1 q.2) := by
      have := r0.put p.1 h.2
      rw [← h.1]; exact this
    exact ih e
/-- {k: v, ..} with keys ints and texts; the new dict stands empty while the pairs are made -/
def tDisp (trs : List (TE × TE)) : TE := fun σ H Q => ∀ p, H p = none → tPairs trs σ (upd H p (.dK [])) fun ps H2 => H2 p = some (.dK []) ∧ ∃ kvs : List (Key × V), ps = kvs.map (fun kv => (kV kv.1, kv.2)) ∧ kvs.length ≤ 15 ∧ Q (.ref p) (upd H2 p (.dK (mergeK [] kvs)))
/-- a method call o.m(e) of a built-in, with one argument: what must be seen of the text -/
structure M1 (X : Cx) (o : Expr) (m : Str) (apos : Pos) (e : Expr) (cpos : Pos) : Prop where
  base : attributeBase o m X.env (eval o X.env) = eval o X.env
  few : ((backTo cpos (starEach [e] X.env)).all (fun x => !x.1) && (backToKw cpos (keywordEach [] X.env)).all (fun x => x.1.isSome)
    && decide (([e] : List Expr).length + ([] : List Keyword).length + (if ([] : List Keyword).isEmpty then 0 else 1) < 30)) = true
  line : (apos.endLine == cpos.line) = true
  trees : backTo cpos (starEach [e] X.env) = [(false, eval e X.env)]
structure M2 (X : Cx) (o : Expr) (m : Str) (apos : Pos) (e f : Expr) (cpos : Pos) : Prop where
  base : attributeBase o m X.env (eval o X.env) = eval o X.env
  few : ((backTo cpos (starEach [e, f] X.env)).all (fun x => !x.1) && (backToKw cpos (keywordEach [] X.env)).all (fun x => x.1.isSome)
    && decide (([e, f] : List Expr).length + ([] : List Keyword).length + (if ([] : List Keyword).isEmpty then 0 else 1) < 30)) = true
  line : (apos.endLine == cpos.line) = true
  trees : backTo cpos (starEach [e, f] X.env) = [(false, eval e X.env), (false, eval f X.env)]

/-- a is a dict, whatever its keys -/
def IsD (H : Hp) (a : Addr) : Prop := (∃ kvs, Rd H a (.dK kvs)) ∨ ∃ kvs, Rd H a (.dT kvs)
section
variable {X : Cx} {pins : List (Addr × Obj)} {σ : St} {H : Hp} {s : Shared} {a : Addr} {y d : V} {u r : Value} {o : Option V} {A : Around} {E : Value → Shared → Prop}
end

def tDGet1 (td ty : TE) : TE := fun σ H Q => td σ H fun x H1 => ∃ a, x = .ref a ∧ IsD H1 a ∧ ty σ H1 fun y H2 => ∃ o, DGet H2 a y o ∧ Q (o.getD .non) H2
def tDGet2 (td ty tx : TE) : TE := fun σ H Q => td σ H fun x H1 => ∃ a, x = .ref a ∧ IsD H1 a ∧ ty σ H1 fun y H2 => tx σ H2 fun z H3 => ∃ o, DGet H3 a y o ∧ Q (o.getD z) H3
/-- d.pop(k): there; d.pop(k, x): there or not -/
def tDPop1 (td ty : TE) : TE := fun σ H Q => td σ H fun x H1 => ∃ a, x = .ref a ∧ IsD H1 a ∧ ty σ H1 fun y H2 => ∃ kvs k v, H2 a = some (.dK kvs) ∧ y = kV k ∧ valV kvs k = some v ∧ Q v (upd H2 a (.dK (dropK kvs k)))
def tDPop2 (td ty tx : TE) : TE := fun σ H Q => td σ H fun x H1 => ∃ a, x = .ref a ∧ IsD H1 a ∧ ty σ H1 fun y H2 => tx σ H2 fun z H3 => ∃ kvs k, H3 a = some (.dK kvs) ∧ y = kV k ∧
  (∀ v, valV kvs k = some v → Q v (upd H3 a (.dK (dropK kvs k)))) ∧ (valV kvs k = none → Q z H3)
section
variable {X : Cx} {o e f : Expr} {apos cpos : Pos} {td ty tx : TE}
end

section
variable {X : Cx} {pins : List (Addr × Obj)} {σ : St} {H : Hp} {s : Shared} {a : Addr} {kvs : List (Key × V)} {A : Around} {E : Value → Shared → Prop}
end


section
variable {X : Cx} {pins : List (Addr × Obj)} {σ : St} {H : Hp} {s : Shared} {a : Addr} {y : V} {u : Value} {A : Around} {E : Value → Shared → Prop}
end
end L2


set_option Elab.async false
set_option maxRecDepth 100000
namespace L2
open PySem PySem.Spec PyProof.Rows
theorem len_app (x y : Str) : (x ++ y).length = x.length + y.length := by
  show (x.cps ++ y.cps).size = _
  rw [Array.size_append]
  rfl
end L2

set_option Elab.async false
set_option maxRecDepth 100000
namespace L2
open PySem PySem.Spec PyProof.Rows

def tCut (Pv : St → Hp → Prop) (t u : TS) : TS := fun D σ H => t { D with nx := Pv } σ H ∧ ∀ σ H, Pv σ H → u D σ H
def clOf (scope : Scope) (env : Env) : List (Str × Addr) :=
  (scope.names.filterMap fun p => if p.2 == NameKind.free then (env.cells.lookup p.1).map fun c => (p.1, c) else none).reverse

theorem closure_loop {env : Env} : ∀ (names : List (Str × NameKind)) (acc : List (Str × Addr)), (∀ y ∈ names, y.2 = .free → ∃ c, env.cells.lookup y.1 = some c) →
    (forIn names acc fun (x : Str × NameKind) (cs : List (Str × Addr)) => (match x with
      | (name, kind) => if (kind == NameKind.free) = true then do
          let c ← cellOf env name
          pure (ForInStep.yield ((name, c) :: cs))
        else pure (ForInStep.yield cs) : Sem (ForInStep (List (Str × Addr))))) =
      pure ((names.filterMap fun p => if p.2 == NameKind.free then (env.cells.lookup p.1).map fun c => (p.1, c) else none).reverse ++ acc)
  | [], acc, _ => rfl
  | (n, k) :: r, acc, h => by
    rw [List.forIn_cons]
    by_cases hk : k = .free
    · subst hk
      obtain ⟨c, hc⟩ := h (n, .free) List.mem_cons_self rfl
      have e1 : cellOf env n = pure c := by unfold cellOf; rw [hc]
      have ih := closure_loop r ((n, c) :: acc) fun y hy => h y (List.mem_cons_of_mem _ hy)
      simp only [beq_self_eq_true, if_true, e1, pure_bind, List.filterMap_cons, hc, Option.map_some, List.reverse_cons, List.append_assoc, List.singleton_append]
      exact ih
    · have hb : (k == NameKind.free) = false := by simpa using hk
      have ih := closure_loop r acc fun y hy => h y (List.mem_cons_of_mem _ hy)
      simp only [hb, Bool.false_eq_true, if_false, pure_bind, List.filterMap_cons]
      exact ih

theorem closureFor_eq {scope : Scope} {env : Env} (h : ∀ y ∈ scope.names, y.2 = .free → ∃ c, env.cells.lookup y.1 = some c) : closureFor scope env = pure (clOf scope env) := by
  have e := closure_loop (env := env) scope.names [] h
  unfold closureFor
  rw [List.append_nil] at e
  exact (congrArg (· >>= pure) e).trans (by rfl)

theorem clOf_mem {scope : Scope} {env : Env} {y : Str} {c : Addr} (h : (y, c) ∈ clOf scope env) : (y, NameKind.free) ∈ scope.names ∧ env.cells.lookup y = some c := by
  unfold clOf at h
  obtain ⟨⟨n, k⟩, hp, e⟩ := List.mem_filterMap.mp (List.mem_reverse.mp h)
  by_cases hk : k = .free
  · subst hk
    simp only [beq_self_eq_true, if_true] at e
    cases hc : env.cells.lookup n with
    | none => rw [hc] at e; cases e
    | some c' =>
      rw [hc] at e
      have e' : (n, c') = (y, c) := Option.some.inj e
      cases e'
      exact ⟨hp, hc⟩
  · have hb : (k == NameKind.free) = false := by simpa using hk
    simp only [hb, Bool.false_eq_true, if_false] at e
    cases e
theorem clOf_sub {scope : Scope} {env : Env} {y : Str} {c : Addr} (h : (clOf scope env).lookup y = some c) : env.cells.lookup y = some c := (clOf_mem (PySem.mem_of_lookup h)).2
theorem lookup_of_mem {α : Type} {y : Str} : ∀ {l : List (Str × α)} {c : α}, (y, c) ∈ l → ∃ c', l.lookup y = some c'
  | (n, a) :: r, c, h => by
    by_cases e : y = n
    · subst e; exact ⟨a, by simp [List.lookup_cons]⟩
    · have hb : (y == n) = false := by simpa using e
      rcases List.mem_cons.mp h with h | h
      · cases h; exact absurd rfl e
      · obtain ⟨c', h'⟩ := lookup_of_mem h
        exact ⟨c', by simp [List.lookup_cons, hb, h']⟩
theorem clOf_has {scope : Scope} {env : Env} {y : Str} {c : Addr} (h1 : (y, NameKind.free) ∈ scope.names) (h2 : env.cells.lookup y = some c) : (clOf scope env).lookup y = some c := by
  have m : (y, c) ∈ clOf scope env := by
    unfold clOf
    exact List.mem_reverse.mpr (List.mem_filterMap.mpr ⟨(y, .free), h1, by simp [h2]⟩)
  obtain ⟨c', h'⟩ := lookup_of_mem m
  have := clOf_sub h'
  rw [h2] at this
  cases this
  exact h'
theorem relabel_free {scope : Scope} {env : Env} (hcell : ∀ y ∈ scope.names, y.2 ≠ .cell) {y : Str} (h : (relabel scope env).names.lookup y = some .cell ∨ (relabel scope env).names.lookup y = some .free) : (y, NameKind.free) ∈ scope.names := by
  have m : ∃ k, (k = .cell ∨ k = .free) ∧ (y, k) ∈ (relabel scope env).names := by
    rcases h with h | h
    · exact ⟨_, .inl rfl, PySem.mem_of_lookup h⟩
    · exact ⟨_, .inr rfl, PySem.mem_of_lookup h⟩
  obtain ⟨k, hk, hm⟩ := m
  unfold relabel at hm
  obtain ⟨⟨n, k'⟩, hp, e⟩ := List.mem_map.mp hm
  dsimp only at e
  by_cases hf : k' = .free
  · subst hf
    split at e <;> (cases e; exact hp)
  · have hb : (k' == NameKind.free) = false := by simpa using hf
    rw [hb, Bool.false_and, Bool.false_and, if_neg (by decide)] at e
    cases e
    rcases hk with hk | hk
    · exact absurd hk (hcell _ hp)
    · exact absurd hk hf

def cxComp (X : Cx) (N : List Str) (scope : Scope) (C : Addr) (s : Shared) (H : Hp) (fp : List Addr) : Cx where
  prog := X.prog
  w := X.w
  K := X.K
  mg := X.mg
  base := X.base
  A := X.A
  N := N
  s₀ := s
  H₀ := H
  env := compEnvC scope (clOf scope X.env) C X.env
  outer := X.stack
  stack := X.stack
  ex := fp
  fn := fun _ => false
  calm := true
  pn := []
  xe := fun _ _ => False

/-- the captured names and their slots in the frame around -/
def Caps (X : Cx) (scope : Scope) : List Str → List Nat → Prop
  | [], [] => True
  | x :: xs, i :: is => (X.N[i]? = some x ∧ (X.env.scope.names.lookup x = some .cell ∨ X.env.scope.names.lookup x = some .free) ∧ scope.names.lookup x = some .free) ∧ Caps X scope xs is
  | _, _ => False
theorem Caps.len {X : Cx} {scope : Scope} : ∀ {xs : List Str} {is : List Nat}, Caps X scope xs is → is.length = xs.length
  | [], [], _ => rfl
  | _ :: _, _ :: _, h => congrArg (· + 1) (Caps.len h.2)
  | [], _ :: _, h => h.elim
  | _ :: _, [], h => h.elim
theorem Caps.at {X : Cx} {scope : Scope} : ∀ {xs : List Str} {is : List Nat} {j : Nat} {x : Str}, Caps X scope xs is → xs[j]? = some x → ∃ i, is[j]? = some i ∧ X.N[i]? = some x ∧ (X.env.scope.names.lookup x = some .cell ∨ X.env.scope.names.lookup x = some .free) ∧ scope.names.lookup x = some .free
  | [], [], _, _, _, e => by simp at e
  | y :: _, i :: _, 0, x, h, e => by
    simp at e; subst e
    exact ⟨i, rfl, h.1⟩
  | _ :: xs, _ :: is, j + 1, x, h, e => by
    obtain ⟨i, h1, h2⟩ := Caps.at (j := j) h.2 (by simpa using e)
    exact ⟨i, by simpa using h1, h2⟩
  | [], _ :: _, _, _, h, _ => h.elim
  | _ :: _, [], _, _, h, _ => h.elim

/-- the block's slots: the loop's name, then the captured ones -/
def inner (cap : List Nat) (σ : St) : St := none :: cap.map fun i => (σ[i]?).join

def PTs (X : Cx) (ifs : List Expr) (t : TT) : Prop :=
  ∀ (pins : List (Addr × Obj)) (s : Shared) (σ : St) (H : Hp) (Q : Bool → Hp → Prop), Inv X pins σ H s → t σ H Q →
    wpAny (model X.prog X.w) X.A (forIn ifs true fun c r => if r = true then do let ok ← isTrue c X.env (eval c X.env); pure (ForInStep.yield ok) else pure (ForInStep.yield r)) (TP X pins σ Q) X.xe s
def tYes : TT := fun _ H Q => Q true H
theorem pts_nil {X : Cx} : PTs X [] tYes := fun _ _ _ H _ I h => wpAny_tests_nil ⟨H, I, h⟩
theorem pts_one {X : Cx} {c : Expr} {t : TT} (h : PT X c t) : PTs X [c] t := fun pins s σ H Q I q => wpAny_tests_one (h pins s σ H Q I q)

/-- the turn of a list comprehension, the step ahead of the store kept -/
theorem compLoop_any {prog : Program} {w : World} {A : Around} {R : Result → Shared → Prop} {s : Shared} {elt target iter : Expr} {ifs : List Expr} {scope : Scope} {pos : Pos} {it acc : Value} {env : Env} (I : Nat → Shared → Prop)
    (turn : ∀ n s, I n s → wpAny (model prog w) A (pyNext it) (fun r s₁ => match r with
      | none => R (.ok .next) s₁
      | some v => wpAny (model prog w) A (letOwnedTupleGo target it v) (fun _ s₁' => wpAny (model prog w) A (assign target env v) (fun _ s₂ =>
          wpAny (model prog w) A (forIn ifs true fun c r => if r = true then do let ok ← isTrue c env (eval c env); pure (ForInStep.yield ok) else pure (ForInStep.yield r)) (fun ok s₃ =>
            if ok = true then wpAny (model prog w) A (eval elt env) (fun x s₄ =>
              wpAny (model prog w) A (call (.builtin "list.append") [acc, x]) (fun _ s₅ => ∃ m, m < n ∧ I m s₅) (fun _ _ => False) s₄) (fun _ _ => False) s₃
            else ∃ m, m < n ∧ I m s₃) (fun _ _ => False) s₂) (fun _ _ => False) s₁') (fun _ _ => False) s₁) (fun _ _ => False) s)
    (n : Nat) (h : I n s) :
    codeAny (model prog w) A (.compLoop (.ListComp elt [⟨target, iter, ifs, 0⟩] scope pos) 0 it acc env) R s := by
  refine codeAny_loop rfl I (fun n s hI => ?_) n h
  show wpAny _ A ((compTurn (.ListComp elt [⟨target, iter, ifs, 0⟩] scope pos) 0 it acc env).onRaise (fun x => do noteFrame x env; theTreesLotGoes x)) _ _ s
  refine wpAny_noted ?_
  rw [compTurn_list]
  refine wpAny_bind (wpAny_standAt (wpAny_bind (wpAny_mono (turn n s hI) (fun r s₁ h₁ => ?_) fun _ _ h' => h'.elim)))
  cases r with
  | none => exact wpAny_pure h₁
  | some v =>
    refine wpAny_bind (wpAny_mono h₁ (fun _ s₁' h₁' => ?_) fun _ _ h' => h'.elim)
    refine wpAny_bind (wpAny_mono h₁' (fun _ s₂ h₂ => wpAny_bind (wpAny_mono h₂ (fun ok s₃ h₃ => ?_) fun _ _ h' => h'.elim)) fun _ _ h' => h'.elim)
    cases ok with
    | false => exact wpAny_pure ⟨rfl, h₃⟩
    | true =>
      exact wpAny_bind (wpAny_bind (wpAny_mono h₃ (fun x s₄ h₄ => wpAny_bind (wpAny_mono h₄ (fun _ s₅ h₅ => wpAny_pure (wpAny_pure ⟨rfl, h₅⟩)) fun _ _ h' => h'.elim)) fun _ _ h' => h'.elim))

/-- [elt for x in iter if ..] : W the invariant: the turn, a measure, the list so far, the heap -/
def tComp (cap : List Nat) (wi : TI) (tc : TT) (te : TE) : TE := fun σ H Q => wi σ H fun J H1 => ∀ p, H1 p = none →
  ∃ W : Nat → Nat → List V → Hp → Prop, (∃ m, W 0 m [] (upd H1 p (.lst []))) ∧ ∀ i m xs H2, W i m xs H2 →
    (J.stop i H2 ∧ Q (.ref p) H2) ∨ (J.go i H2 ∧ ∃ N : List V → Hp → Prop, (∀ xs' H', N xs' H' → ∃ m', m' < m ∧ W (i + 1) m' xs' H') ∧
      ∀ x H3, J.yld i H2 x H3 → tc ((inner cap σ).set 0 (some x)) H3 fun b H5 => if b = true then te ((inner cap σ).set 0 (some x)) H5 fun v H6 => H6 p = some (.lst xs) ∧ xs.length < sizeLine ∧ N (xs ++ [v]) (upd H6 p (.lst (xs ++ [v]))) else N xs H5)

section
variable {X : Cx} {pins : List (Addr × Obj)} {σ : St}

structure CompScope (X : Cx) (scope : Scope) : Prop where
  cell : ∀ y ∈ scope.names, y.2 ≠ .cell
  kind : scope.kind = .function
  names : ∀ y ∈ scope.names, y.2 = .local → scope.names.lookup y.1 = some .local
  free : ∀ y ∈ scope.names, y.2 = .free → X.env.scope.names.lookup y.1 = some .cell ∨ X.env.scope.names.lookup y.1 = some .free

theorem CompScope.clos {scope : Scope} {H : Hp} {s : Shared} (S : CompScope X scope) (I : Inv X pins σ H s) : closureFor scope X.env = pure (clOf scope X.env) :=
  closureFor_eq fun y hy hf => I.ok.has y.1 (S.free y hy hf)

/-- the block's own invariant at its entry -/
theorem comp_start {scope : Scope} {x : Str} {cn : List Str} {cap : List Nat} {s3 : Shared} {H3 : Hp} {fp : List Addr} {h₁ : Heap} {tk : Nat} {H2 : Hp} (S : CompScope X scope) (I : Inv X pins σ H3 s3) (hc : X.calm = true) (hcap : Caps X scope cn cap)
    (f2 : ∀ b ∈ fp, FpOk X pins H2 b) (lt : ∀ b ∈ fp, b < s3.heap.objs.size) (keep : ∀ b o, s3.heap.get? b = some o → h₁.get? b = some o) (hns : h₁.Ns s3.heap.objs.size fun _ => none) :
    Inv (cxComp X (x :: cn) scope s3.heap.objs.size s3 H3 fp) [] (inner cap σ) H3 { s3 with heap := h₁, toks := tk } := by
  have noS : ∀ b o, X.base.get? b = some o → b < X.s₀.heap.objs.size := fun b o e => Nat.lt_of_lt_of_le (Heap.lt_size e) I.ok.bsz
  refine ⟨⟨I.ok.mod, S.kind, I.ok.glob, I.ok.blt, Nat.le_refl _, fun y z c h1 h2 => I.ok.inj y z c (clOf_sub h1) (clOf_sub h2), fun y hy => ?_, fun y c h => ?_, fun _ => I.ok.hd hc, I.ok.frames, .inl rfl, fun b hb => ⟨Nat.ne_of_lt (lt b hb), fun y c h => (f2 b hb).2.2.2.2.1 y c (clOf_sub h)⟩,
    I.bs, Nat.le_trans I.ok.bsz I.sz, fun b o e hb => ?_, fun b hb z => ?_, I.stack, I.stkFree⟩, rfl, I.bare, Un.kept keep, ⟨_, hns, fun i y v e1 e2 e3 => ?_⟩, fun y c e => ?_, I.hok.fresh (Nat.le_refl _), fun y c e => I.freeC y c (clOf_sub e), fun p hp => absurd (show p ∈ ([] : List (Addr × Obj)) from hp) (by simp), I.hok.kept keep, ?_⟩
  · have m := relabel_free S.cell hy
    obtain ⟨c, hc'⟩ := I.ok.has y (S.free _ m rfl)
    exact ⟨c, clOf_has m hc'⟩
  · cases h
  · rcases (f2 b hb).2.2.2.1 with z | z
    · exact I.ok.noex b o e z
    · exact absurd (Nat.lt_of_lt_of_le (noS b o e) z) (Nat.lt_irrefl _)
  · rcases List.mem_cons.mp (I.stkSub b z) with e | e
    · exact (f2 b hb).2.1 e
    · exact (f2 b hb).2.2.1 e
  · cases i with
    | zero =>
      have e2 : (some none : Option (Option V)) = some (some v) := e2
      cases e2
    | succ j =>
      have e1 : cn[j]? = some y := e1
      obtain ⟨k, hk, hN, hkind, hfr⟩ := hcap.at e1
      have e2 : (cap.map fun i => (σ[i]?).join)[j]? = some (some v) := e2
      rw [List.getElem?_map, hk] at e2
      have e2 : (σ[k]?).join = some v := Option.some.inj e2
      have e2 : σ[k]? = some (some v) := by
        cases q : σ[k]? with
        | none => rw [q] at e2; cases e2
        | some o => rw [q] at e2; cases o with
          | none => cases e2
          | some v' => have e2 : some v' = some v := e2; rw [e2]
      obtain ⟨m, hn, hl⟩ := I.loc
      obtain ⟨u, r, l⟩ := hl k y v hN e2 (.inr hkind)
      refine ⟨u, r, ?_⟩
      rcases l with ⟨kl, _⟩ | ⟨_, c, hc', o, ho, hd⟩
      · have kl : X.env.scope.names.lookup y = some .local := kl
        rw [kl] at hkind
        rcases hkind with z | z <;> cases z
      · refine .inr ⟨?_, c, clOf_has (PySem.mem_of_lookup hfr) hc', o, keep c o ho, hd⟩
        rcases e3 with z | z
        · -- relabelled local: the name is local in the block
          exfalso
          have z : (relabel scope X.env).names.lookup y = some .local := z
          have hm := PySem.mem_of_lookup z
          unfold relabel at hm
          obtain ⟨⟨n, k'⟩, hp, e⟩ := List.mem_map.mp hm
          dsimp only at e
          have hl2 : (y, NameKind.local) ∈ scope.names := by
            split at e
            · cases e
            · cases e; exact hp
          have := S.names _ hl2 rfl
          rw [hfr] at this
          cases this
        · exact z
  · obtain ⟨v, o, ho, hd⟩ := I.cell y c (clOf_sub e)
    exact ⟨v, o, keep c o ho, hd⟩
  · show (inner cap σ).length = (x :: cn).length
    unfold inner
    rw [List.length_cons, List.length_map, hcap.len, List.length_cons]

/-- the block's end, back in the frame around -/
theorem comp_out {scope : Scope} {N : List Str} {C : Addr} {s3 s' : Shared} {H2 H3 Hf : Hp} {fp : List Addr} {pins' : List (Addr × Obj)} {σ' : St} (I : Inv X pins σ H3 s3) (J : Inv (cxComp X N scope C s3 H3 fp) pins' σ' Hf s') (f2 : ∀ b ∈ fp, FpOk X pins H2 b) : Inv X pins σ Hf s' :=
  I.call' (ch := fp) J.os J.base J.hok J.bare fun b hb => ⟨(f2 b hb).2.2.2.1, (f2 b hb).2.1, (f2 b hb).2.2.2.2.1, (f2 b hb).2.2.2.2.2⟩

theorem comp_core {scope : Scope} {x : Str} {px pos : Pos} {elt iter : Expr} {ifs : List Expr} {cn : List Str} {cap : List Nat} {s2 : Shared} {H2 : Hp} {it : Addr} {fp : List Addr} {tn : Nat → Heap → Prop} {J : It} {tc : TT} {te : TE} {Q : VK} {RR : Value → Addr → Result → Shared → Prop} {E : Value → Shared → Prop}
    (S : CompScope X scope) (I2 : Inv X pins σ H2 s2) (hc : X.calm = true) (hcap : Caps X scope cn cap) (hx : scope.names.lookup x = some .local) (hnd : (x :: cn).Nodup)
    (T : Turn X.prog X.w X.K (.Name x px) J fp it tn) (st2 : tn 0 s2.heap) (f2 : ∀ b ∈ fp, FpOk X pins H2 b)
    (body : ∀ (C : Addr) (s : Shared) (H : Hp) (fp : List Addr), PTs (cxComp X (x :: cn) scope C s H fp) ifs tc ∧ PE (cxComp X (x :: cn) scope C s H fp) elt te)
    (q : ∀ p, H2 p = none → ∃ W : Nat → Nat → List V → Hp → Prop, (∃ m, W 0 m [] (upd H2 p (.lst []))) ∧ ∀ i m xs H3, W i m xs H3 →
      (J.stop i H3 ∧ Q (.ref p) H3) ∨ (J.go i H3 ∧ ∃ N : List V → Hp → Prop, (∀ xs' H', N xs' H' → ∃ m', m' < m ∧ W (i + 1) m' xs' H') ∧
        ∀ v H4, J.yld i H3 v H4 → tc ((inner cap σ).set 0 (some v)) H4 fun b H5 => if b = true then te ((inner cap σ).set 0 (some v)) H5 fun v H6 => H6 p = some (.lst xs) ∧ xs.length < sizeLine ∧ N (xs ++ [v]) (upd H6 p (.lst (xs ++ [v]))) else N xs H5))
    (hRR : ∀ (p C : Addr) (s3 s' : Shared) (H3 Hf : Hp) (σ' : St), Inv X pins σ H3 s3 → s3.heap.objs.size = C → Inv (cxComp X (x :: cn) scope C s3 H3 fp) [] σ' Hf s' → Q (.ref p) Hf → RR (.ref p) C (.ok .next) s') :
    wpAny (model X.prog X.w) X.A (newList []) (fun acc s₃ => wpAny (model X.prog X.w) X.A (newFunctionEnv scope X.env.globals (clOf scope X.env) [] X.env.qual none .none (some X.env)) (fun cenv s₄ =>
      codeAny (model X.prog X.w) X.A (.compStart (.ListComp elt [⟨.Name x px, iter, ifs, 0⟩] scope pos) 0 (.ref it) acc { cenv with scope := relabel scope X.env }) (RR acc cenv.locals) s₄) E s₃) E s2 := by
  refine wpAny_newObj_type (wpAny_newFunctionEnv S.cell (by intro y hy; simp at hy) (fun h₁ hns₁ hsb₁ => ?_) S.kind)
  dsimp only at hns₁ hsb₁ ⊢
  have hfr : H2 s2.heap.objs.size = none := I2.hok.fresh (Nat.le_refl _)
  obtain ⟨W, ⟨m0, w0⟩, turn⟩ := q _ hfr
  have I3 : Inv X pins σ (upd H2 s2.heap.objs.size (.lst [])) { s2 with heap := s2.heap.push { cls := .type "list", data := .seq ([] : List Value).toArray } } :=
    I2.lnew (its := []) (t' := s2.toks) .nil (Nat.zero_le _)
  generalize hs3 : ({ s2 with heap := s2.heap.push { cls := .type "list", data := .seq ([] : List Value).toArray } } : Shared) = s3 at I3
  have hs3h : s3.heap = s2.heap.push { cls := .type "list", data := .seq ([] : List Value).toArray } := by rw [← hs3]
  have hst3 : tn 0 s3.heap := T.keep _ _ _ st2 fun b hb o e => by rw [hs3h]; exact Heap.get?_push_of_some _ e
  have ltf : ∀ b ∈ fp, b < s3.heap.objs.size := fun b hb => by
    obtain ⟨o, e, _⟩ := T.obj _ _ hst3 b hb
    exact Heap.lt_size e
  have hC : (s2.heap.push { cls := .type "list", dict := none, data := .seq ([] : List Value).toArray }).objs.size = s3.heap.objs.size := by rw [hs3h]
  rw [hC] at hns₁ hsb₁ ⊢
  have keep : ∀ b o, s3.heap.get? b = some o → h₁.get? b = some o := fun b o e => by
    refine hsb₁.extBut b o (Nat.ne_of_lt (Heap.lt_size e)) (Heap.get?_push_of_some _ ?_)
    rw [hs3h] at e
    exact e
  have J4 : Inv (cxComp X (x :: cn) scope s3.heap.objs.size s3 (upd H2 s2.heap.objs.size (.lst [])) fp) [] (inner cap σ) (upd H2 s2.heap.objs.size (.lst [])) { s3 with heap := h₁, toks := s2.toks + ([] : List (Str × Value)).length } :=
    comp_start S I3 hc hcap f2 ltf keep hns₁
  have st4 : tn 0 h₁ := T.keep _ _ _ hst3 fun b hb o e => keep b o e
  have fr4 : ∀ b ∈ fp, (upd H2 s2.heap.objs.size (.lst [])) b = none := fun b hb => by
    obtain ⟨o, e, _⟩ := T.obj _ _ st2 b hb
    rw [upd_ne (Nat.ne_of_lt (Heap.lt_size e))]
    exact (f2 b hb).1
  have hst : ({ s2 with heap := h₁, toks := s2.toks + ([] : List (Str × Value)).length } : Shared) = { s3 with heap := h₁, toks := s2.toks + ([] : List (Str × Value)).length } := by rw [← hs3]
  have loop : codeAny (model X.prog X.w) X.A (.compLoop (.ListComp elt [⟨.Name x px, iter, ifs, 0⟩] scope pos) 0 (.ref it) (.ref s2.heap.objs.size) (compEnvC scope (clOf scope X.env) s3.heap.objs.size X.env))
      (RR (.ref s2.heap.objs.size) s3.heap.objs.size) { s2 with heap := h₁, toks := s2.toks + ([] : List (Str × Value)).length } := by
    rw [hst]
    generalize hX' : cxComp X (x :: cn) scope s3.heap.objs.size s3 (upd H2 s2.heap.objs.size (.lst [])) fp = X' at J4
    have hfpk : ∀ {Hc : Hp}, (∀ b ∈ fp, Hc b = none) → ∀ b ∈ fp, FpOk X' [] Hc b := fun {Hc} hn b hb => by
      subst hX'
      refine ⟨hn b hb, (J4.ok.exf b hb).1, J4.ok.exfs b hb, .inl hb, (J4.ok.exf b hb).2, fun p hp => absurd (show p ∈ ([] : List (Addr × Obj)) from hp) (by simp)⟩
    refine compLoop_any (fun n s' => ∃ i xs Hc, Inv X' [] (inner cap σ) Hc s' ∧ tn i s'.heap ∧ (∀ b ∈ fp, Hc b = none) ∧ W i n xs Hc) ?_ m0 ⟨0, [], _, J4, st4, fr4, w0⟩
    rintro n s5 ⟨i, xs, Hc, I5, st5, fr5, w5⟩
    have B := body s3.heap.objs.size s3 (upd H2 s2.heap.objs.size (.lst [])) fp
    rcases turn i n xs Hc w5 with ⟨stop, qn⟩ | ⟨go, N, hN, step⟩
    · subst hX'
      refine thn (T.done (cxComp X (x :: cn) scope s3.heap.objs.size s3 (upd H2 s2.heap.objs.size (.lst [])) fp) rfl rfl rfl rfl i [] s5 (inner cap σ) Hc (fun _ _ => False) I5 (hfpk fr5) st5 stop) fun r s6 ⟨hr, I6⟩ => ?_
      subst hr
      exact hRR _ _ s3 s6 _ Hc _ I3 rfl I6 qn
    · subst hX'
      refine thn (T.item (cxComp X (x :: cn) scope s3.heap.objs.size s3 (upd H2 s2.heap.objs.size (.lst [])) fp) rfl rfl rfl rfl i [] s5 (inner cap σ) Hc (fun _ _ => False) I5 (hfpk fr5) st5 go) fun r s6 ⟨u, hr, h6⟩ => ?_
      subst hr
      refine thn h6 fun _ s7 ⟨v, H7, I7, r7, y7, st7, fr7⟩ => ?_
      have I7' := I7.pinned (hfpk fr7) (T.obj _ _ st7)
      have hlook : (relabel scope X.env).names.lookup x = some .local := lookup_relabel_local hx
      refine wpAny_assign_Name (store_ok (X := cxComp X (x :: cn) scope s3.heap.objs.size s3 (upd H2 s2.heap.objs.size (.lst [])) fp) I7' (i := 0) hnd rfl (.inl hlook) r7 (fun s8 I8 => ?_) (.inr hlook))
      have again : ∀ {s9 : Shared} {H9 : Hp} {ys : List V}, Inv (cxComp X (x :: cn) scope s3.heap.objs.size s3 (upd H2 s2.heap.objs.size (.lst [])) fp) ([] ++ pinsAt fp s7.heap) ((inner cap σ).set 0 (some v)) H9 s9 → N ys H9 →
          ∃ m, m < n ∧ ∃ i xs Hc, Inv (cxComp X (x :: cn) scope s3.heap.objs.size s3 (upd H2 s2.heap.objs.size (.lst [])) fp) [] (inner cap σ) Hc s9 ∧ tn i s9.heap ∧ (∀ b ∈ fp, Hc b = none) ∧ W i m xs Hc := fun {s9 H9 ys} I9 n9 => by
        obtain ⟨m', hm, w9⟩ := hN ys H9 n9
        refine ⟨m', hm, i + 1, ys, H9, (I9.unpinned (pins := [])).weak (by simp [inner]) (fun j w e => ?_), T.keep _ _ _ st7 fun b hb o e => (I9.pin (b, o) (List.mem_append_right _ (List.mem_append_right _ (mem_pinsAt hb e)))).1, fun b hb => ?_, w9⟩
        · cases j with
          | zero =>
            have e : (some none : Option (Option V)) = some (some w) := e
            cases e
          | succ j => exact e
        · obtain ⟨o, e, _⟩ := T.obj _ _ st7 b hb
          exact (I9.pin (b, o) (List.mem_append_right _ (List.mem_append_right _ (mem_pinsAt hb e)))).2.1
      refine thn (B.1 _ s8 _ H7 _ I8 (step v H7 y7)) fun ok s9 ⟨H9, I9, q9⟩ => ?_
      cases ok with
      | false =>
        rw [if_neg Bool.false_ne_true] at q9 ⊢
        exact again I9 q9
      | true =>
        rw [if_pos rfl] at q9 ⊢
        refine thn (B.2 _ s9 _ H9 _ I9 q9) fun uy s10 ⟨y, H10, I10, r10, hp, hl, n10⟩ => ?_
        refine thn (mt_append _ s10 _ H10 (.ref s2.heap.objs.size) [y] (.ref s2.heap.objs.size) [uy] (fun _ H11 => N (xs ++ [y]) H11) I10 rfl (.cons r10 .nil) ⟨_, xs, y, rfl, rfl, hp, hl, n10⟩) fun _ s11 ⟨_, H11, I11, _, n11⟩ => ?_
        exact again I11 n11
  exact codeAny_compStart_list loop (T.self _ _ _ _ _ st4 loop)

theorem pe_comp {scope : Scope} {x : Str} {px pos : Pos} {elt iter : Expr} {ifs : List Expr} {cn : List Str} {cap : List Nat} {wi : TI} {tc : TT} {te : TE}
    (hc : X.calm = true) (S : CompScope X scope) (hx : scope.names.lookup x = some .local) (hnd : (x :: cn).Nodup) (hcap : Caps X scope cn cap) (hi : PI X (.Name x px) iter wi)
    (body : ∀ (C : Addr) (s : Shared) (H : Hp) (fp : List Addr), PTs (cxComp X (x :: cn) scope C s H fp) ifs tc ∧ PE (cxComp X (x :: cn) scope C s H fp) elt te)
    (hs : ∀ x, foldedSetIterable iter X.env x = pure x := by intro _; rfl) : PE X (.ListComp elt [⟨.Name x px, iter, ifs, 0⟩] scope pos) (tComp cap wi tc te) := by
  intro pins s σ H Q I h
  rw [eval_ListComp]
  refine wpAny_comprehension_free (use := none) rfl hs (S.clos I) S.kind S.names (thn (hi pins s σ H _ I h) fun xv s1 h1 => thn h1 fun itv s2 h2 => ?_)
  obtain ⟨it, fp, tn, J, H2, e, I2, T, st2, f2, q⟩ := h2
  subst e
  refine comp_core (RR := fun acc C => compPost (model X.prog X.w) X.A X.xe none (EP X pins σ Q) acc C) S I2 hc hcap hx hnd T st2 f2 body q ?_
  intro p C s3 s' H3 Hf σ' I3 hC J' qf
  subst hC
  have I4 := comp_out I3 J' f2
  obtain ⟨m, hn, _⟩ := J'.loc
  refine ⟨m, hn, fun h' hs' => ?_⟩
  refine ⟨.ref p, Hf, ?_, rfl, qf⟩
  have f := I3.fpOk (H' := Hf) (Nat.le_refl _) J'.free
  exact I4.turned (t' := s'.toks) (it := s3.heap.objs.size) (fun b o hb e => (hs'.2 b hb).trans e) f.1 f.2.1 f.2.2.2.1 f.2.2.2.2.1 f.2.2.2.2.2

/-- y = [..], where the store comes ahead of the block's end -/
theorem ps_setcomp {scope : Scope} {x y : Str} {px py pos spos : Pos} {elt iter : Expr} {ifs : List Expr} {cn : List Str} {cap : List Nat} {wi : TI} {tc : TT} {te : TE} {i : Nat}
    (hN : X.N.Nodup) (hi : X.N[i]? = some y) (hy : Loc X.env.scope y) (hc : X.calm = true) (S : CompScope X scope) (hx : scope.names.lookup x = some .local) (hnd : (x :: cn).Nodup) (hcap : Caps X scope cn cap) (hit : PI X (.Name x px) iter wi)
    (body : ∀ (C : Addr) (s : Shared) (H : Hp) (fp : List Addr), PTs (cxComp X (x :: cn) scope C s H fp) ifs tc ∧ PE (cxComp X (x :: cn) scope C s H fp) elt te)
    (hsw : swapsWith (.ListComp elt [⟨.Name x px, iter, ifs, 0⟩] scope pos) (some (.Name y py)) spos.line X.env = pure true := by rfl)
    (hf : X.fn y = true ∨ X.env.scope.names.lookup y = some .local := by first | exact .inl rfl | exact .inr rfl | assumption)
    (hs : ∀ x, foldedSetIterable iter X.env x = pure x := by intro _; rfl) : PS X (.Assign [.Name y py] (.ListComp elt [⟨.Name x px, iter, ifs, 0⟩] scope pos) spos) (tAsg (tComp cap wi tc te) (gName i)) := by
  intro pins s σ H D I h
  rw [exec_Assign_Name_used _ _ _ _ hsw]
  refine wpAny_bind (wpAny_standAt (wpAny_bind ?_))
  show wpAny _ X.A (do let _ ← comprehension (.ListComp elt [⟨.Name x px, iter, ifs, 0⟩] scope pos) scope X.env _ (newList []) false (eval iter X.env) (some (assign (.Name y py) X.env))) _ _ s
  refine wpAny_bind (wpAny_mono (wpAny_comprehension_free (use := some (assign (.Name y py) X.env)) (Q := fun _ s' => SP X pins D .next s') rfl hs (S.clos I) S.kind S.names
    (thn (hit pins s σ H _ I h) fun xv s1 h1 => thn h1 fun itv s2 h2 => ?_)) (fun _ s' hq => wpAny_pure (wpAny_pure hq)) fun _ _ e => e)
  obtain ⟨it, fp, tn, J, H2, e, I2, T, st2, f2, q⟩ := h2
  subst e
  refine comp_core (Q := fun v H1 => gName i v σ H1 D.nx) (RR := fun acc C => compPost (model X.prog X.w) X.A X.xe (some (assign (.Name y py) X.env)) (fun _ s' => SP X pins D .next s') acc C) S I2 hc hcap hx hnd T st2 f2 body q ?_
  intro p C s3 s' H3 Hf σ' I3 hC J' qf
  subst hC
  have I4 := comp_out I3 J' f2
  obtain ⟨m, hn, _⟩ := J'.loc
  have f := I3.fpOk (H' := Hf) (Nat.le_refl _) J'.free
  show wpAny _ X.A (assign (.Name y py) X.env (.ref p)) _ _ _
  refine wpAny_assign_Name (store_ok2 (v := V.ref p) I4 hN hi hy rfl (fun s'' I5 ch => ?_) hf)
  obtain ⟨a, hsb, ha⟩ := ch
  have hCa : s3.heap.objs.size ≠ a := by
    rcases ha with rfl | ha
    · exact f.2.1
    · exact fun z => f.2.2.2.2.1 y a ha z.symm
  refine ⟨m, hn.sameBut hsb hCa, fun h' hs' => ?_⟩
  exact ⟨_, Hf, I5.turned (t' := s''.toks) (it := s3.heap.objs.size) (fun b o hb e => (hs'.2 b hb).trans e) f.1 f.2.1 f.2.2.2.1 f.2.2.2.2.1 f.2.2.2.2.2, qf⟩
end
end L2

set_option Elab.async false
set_option maxRecDepth 100000
namespace L2
open PySem PySem.Spec PyProof.Rows

theorem bt_len : bootBuiltins "len" = some (.builtin "len") := by decide +kernel
theorem bt_isinstance : bootBuiltins "isinstance" = some (.builtin "isinstance") := by decide +kernel
theorem bt_sorted : bootBuiltins "sorted" = some (.builtin "sorted") := by decide +kernel
theorem bt_list : bootBuiltins "list" = some (.type "list") := by decide +kernel
theorem bt_tuple : bootBuiltins "tuple" = some (.type "tuple") := by decide +kernel
theorem bt_dict : bootBuiltins "dict" = some (.type "dict") := by decide +kernel
theorem bt_set : bootBuiltins "set" = some (.type "set") := by decide +kernel
def kitC (T c : String) : Option Bool := if (T == c) = true then some true else if PySem.W.kitMeta c = true then (fastBuiltinMro T).map (·.contains (.type c)) else none
theorem kit_of {K : PySem.W.Frag} {T c : String} {b : Bool} (h : kitC T c = some b) : PySem.W.kitOne K (.type T) (.type c) = some b := by
  unfold kitC at h
  unfold PySem.W.kitOne
  by_cases e : T = c
  · subst e
    rw [if_pos (by simp)] at h
    rw [if_pos (by simp)]
    exact h
  · rw [if_neg (by simpa using e)] at h
    rw [if_neg (by intro z; exact e (by simpa using z))]
    exact h

structure DefOk (P : Program) (w : World) (K : PySem.W.Frag) (mg : Str → Option Value) (base : Heap) (x : Str) (k : Nat) (ps : List Str) (sp : Sp) : Prop where
  ex : ∃ f fd, FnOk P w K mg base CX0 k f fd ps sp ∧ mg x = some (.ref f) ∧ PySem.W.keepIn K (.ref f) = true ∧ Binds K fd ps []
section
variable {X : Cx} {x : Str} {k j : Nat} {ps : List Str} {sp : Sp} {e : Expr} {es : List Expr} {t : TA} {p pos : Pos}
theorem pe_def (F : DefOk X.prog X.w X.K X.mg X.base x k ps sp) (hr : Room j X.A) (hj : k ≤ j) (hg : Gl X x) (ha : PA X (e :: es) t) (hdb : (x == ("__debug__" : Str)) = false := by decide)
    (he : starEach (e :: es) X.env = (false, eval e X.env) :: starEach es X.env := by rfl) (hpl : (backTo pos (starEach es X.env)).any (·.1) = false := by rfl) :
    PE X (.Call (.Name x p) (e :: es) [] pos) (tCall sp [] E0 t) := by
  obtain ⟨f, fd, G, m, kp, b⟩ := F.ex
  exact pe_call G (hr.mono hj) hg m kp b .nil pass0 ha hdb he hpl
end
theorem def_of {P : Program} {w : World} {K : PySem.W.Frag} {mg : Str → Option Value} {base : Heap} {x : Str} {st : Stmt} {f : Addr} {fd : FuncData} {k : Nat} {ps : List Str} {sp : Sp} (F : Fun K x x st f fd) (m : mg x = some (.ref f)) (b : Binds K fd ps []) (G : FnOk P w K mg base CX0 k f fd ps sp) : DefOk P w K mg base x k ps sp :=
  ⟨f, fd, G, m, F.kp, b⟩

theorem free_of {X : Cx} {scope : Scope} (h : (scope.names.all fun p => p.2 != .free || X.env.scope.names.lookup p.1 == some .cell || X.env.scope.names.lookup p.1 == some .free) = true) :
    ∀ y ∈ scope.names, y.2 = .free → X.env.scope.names.lookup y.1 = some .cell ∨ X.env.scope.names.lookup y.1 = some .free := fun y hy hf => by
  have := List.all_eq_true.mp h y hy
  rw [hf] at this
  simpa using this

theorem Same.new {H : Hp} {p : Addr} {o : HO} (h : H p = none) : Same H (upd H p o) := fun b u e => by rw [upd_ne (ne_of_none e h)]; exact e
theorem Same.put {H H' : Hp} {p : Addr} {o : HO} (s : Same H H') (h : H p = none) : Same H (upd H' p o) := fun b u e => by rw [upd_ne (ne_of_none e h)]; exact s b u e
theorem TyOf.mono {K : PySem.W.Frag} {H H' : Hp} {v : V} {t : Value} (s : Same H H') (h : TyOf K H v t) : TyOf K H' v t := by
  cases h with
  | non => exact .non
  | bl b => exact .bl b
  | int i => exact .int i
  | str x => exact .str x
  | flt x => exact .flt x
  | lst e => exact .lst (s _ _ e)
  | frz e => exact .frz (s _ _ e)
  | tup e => exact .tup (s _ _ e)
  | dK e => exact .dK (s _ _ e)
  | dT e => exact .dT (s _ _ e)
  | ins e c a b d m => exact .ins (s _ _ e) c a b d m

def Its (x : Str) : It := ⟨fun i _ => i < x.cps.size, fun i H v H' => H' = H ∧ ∃ c, x.cps[i]? = some c ∧ v = .str ⟨#[c]⟩, fun i _ => i = x.cps.size⟩
def StrIt (it : Addr) (x : Str) (t : Tok) (i : Nat) (h : Heap) : Prop := h.IsStrIter it "str_ascii_iterator" x t i ∨ h.IsStrIter it "str_iterator" x t i
theorem turn_str {P : Program} {w : World} {K : PySem.W.Frag} {tg : Expr} (x : Str) (t : Tok) (it : Addr) : Turn P w K tg (Its x) [it] it (StrIt it x t) where
  mem := by simp
  obj := fun i h st b hb => by
    have e : b = it := by simpa using hb
    subst e
    rcases st with ⟨o, e, c, d⟩ | ⟨o, e, c, d⟩ <;> exact ⟨o, e, fun v z => by rw [d] at z; cases z⟩
  keep := fun i h h' st k => by
    rcases st with ⟨o, e, r⟩ | ⟨o, e, r⟩
    · exact .inl ⟨o, k it (by simp) o e, r⟩
    · exact .inr ⟨o, k it (by simp) o e, r⟩
  item := by
    intro X hP hw hK hc i pins s σ H E I hf st hg
    subst hP hw hK
    obtain ⟨f0, f1, f2, f3, f4, f5⟩ := hf it (by simp)
    rcases st with st | st
    · refine (Walks.strAscii (prog := X.prog) (w := X.w) (I.ok.hd hc) it x t).item i s _ _ hg st fun v h' tk hv st' kk => ?_
      obtain ⟨c, u, hcx, rfl⟩ := hv
      have I1 := I.turned (h' := h') (t' := tk) (fun b o hb e => kk b o (by simpa using hb) e) f0 f1 f3 f4 f5
      obtain ⟨o, e, hc', d⟩ := id st'
      exact ⟨_, rfl, go_of (s := { s with heap := h', toks := tk }) e hc' d (by decide) ⟨.str ⟨#[c]⟩, H, I1, ⟨u, rfl⟩, ⟨rfl, c, hcx, rfl⟩, .inl st', fun b hb => (hf b hb).1⟩⟩
    · refine (Walks.strWide (prog := X.prog) (w := X.w) (I.ok.hd hc) it x t).item i s _ _ hg st fun v h' tk hv st' kk => ?_
      obtain ⟨c, u, hcx, rfl⟩ := hv
      have I1 := I.turned (h' := h') (t' := tk) (fun b o hb e => kk b o (by simpa using hb) e) f0 f1 f3 f4 f5
      obtain ⟨o, e, hc', d⟩ := id st'
      exact ⟨_, rfl, go_of (s := { s with heap := h', toks := tk }) e hc' d (by decide) ⟨.str ⟨#[c]⟩, H, I1, ⟨u, rfl⟩, ⟨rfl, c, hcx, rfl⟩, .inr st', fun b hb => (hf b hb).1⟩⟩
  done := by
    intro X hP hw hK hc i pins s σ H E I hf st hg
    subst hP hw hK
    obtain ⟨f0, f1, f2, f3, f4, f5⟩ := hf it (by simp)
    have hg : i = x.cps.size := hg
    subst hg
    rcases st with st | st
    · exact (Walks.strAscii (prog := X.prog) (w := X.w) (I.ok.hd hc) it x t).done s _ _ st fun h' tk kk => ⟨rfl, I.turned (fun b o hb e => kk b o (by simpa using hb) e) f0 f1 f3 f4 f5⟩
    · exact (Walks.strWide (prog := X.prog) (w := X.w) (I.ok.hd hc) it x t).done s _ _ st fun h' tk kk => ⟨rfl, I.turned (fun b o hb e => kk b o (by simpa using hb) e) f0 f1 f3 f4 f5⟩
  self := fun _ _ _ _ _ st h => by
    rcases st with st | st
    · exact wpAny_pyIter_striter_ascii st h
    · exact wpAny_pyIter_striter_wide st h
section
variable {X : Cx} {tg : Expr}
/-- for over a text, a list or a tuple, whichever it is -/
def iAny (K : PySem.W.Frag) (tl : TE) : TI := fun σ H R => tl σ H fun v H1 => match v with
  | .str x => R (Its x) H1
  | .ref a => ((∃ xs, SqL K H1 a xs) ∧ R (Itl K a) H1) ∨ ((∃ xs, SqT K H1 a xs) ∧ R (Itt K a) H1)
  | _ => False
theorem pi_any {l : Expr} {tl : TE} (hl : PE X l tl) : PI X tg l (iAny X.K tl) := by
  intro pins s σ H R I h
  refine thn (hl pins s σ H _ I h) fun v s1 ⟨x, H1, I1, r1, q1⟩ => ?_
  have one : ∀ b ∈ [s1.heap.objs.size], FpOk X pins H1 b := fun b hb => by
    have e : b = s1.heap.objs.size := by simpa using hb
    subst e
    exact I1.fpOk (Nat.le_refl _) (I1.hok.fresh (Nat.le_refl _))
  cases x with
  | str z =>
    obtain ⟨t, rfl⟩ := r1
    have q1 : R (Its z) H1 := q1
    cases ha : z.cps.all (· < 128)
    · exact wpAny_pyIter_wide ha ⟨s1.heap.objs.size, [s1.heap.objs.size], _, _, H1, rfl, I1.kept (t' := s1.toks) fun b o e => Heap.get?_push_of_some _ e, turn_str z t _, .inr ⟨_, Heap.get?_push_size _ rfl, rfl, rfl⟩, one, q1⟩
    · exact wpAny_pyIter_ascii ha ⟨s1.heap.objs.size, [s1.heap.objs.size], _, _, H1, rfl, I1.kept (t' := s1.toks) fun b o e => Heap.get?_push_of_some _ e, turn_str z t _, .inl ⟨_, Heap.get?_push_size _ rfl, rfl, rfl⟩, one, q1⟩
  | ref a =>
    cases r1
    have q1 : ((∃ xs, SqL X.K H1 a xs) ∧ R (Itl X.K a) H1) ∨ ((∃ xs, SqT X.K H1 a xs) ∧ R (Itt X.K a) H1) := q1
    rcases q1 with ⟨⟨xs, hq⟩, q⟩ | ⟨⟨xs, hq⟩, q⟩
    · obtain ⟨its, rv, p, hz⟩ := I1.list hq
      exact wpAny_pyIter_list p.isList ⟨s1.heap.objs.size, [s1.heap.objs.size], _, _, H1, rfl, I1.kept (t' := s1.toks) fun b o e => Heap.get?_push_of_some _ e, turn_list a _, ⟨_, Heap.get?_push_size _ rfl, rfl, rfl⟩, one, q⟩
    · obtain ⟨its, rv, p, hz⟩ := I1.tuple hq
      exact wpAny_pyIter_tuple (show s1.heap.IsTuple a its.toArray from p) ⟨s1.heap.objs.size, [s1.heap.objs.size], _, _, H1, rfl, I1.kept (t' := s1.toks) fun b o e => Heap.get?_push_of_some _ e, turn_tuple a _, ⟨_, Heap.get?_push_size _ rfl, rfl, rfl⟩, one, q⟩
  | _ => exact (show False from q1).elim
end
/-- J yields just xs, whatever the heap (that bears H) -/
structure Yields (J : It) (H : Hp) (xs : List V) : Prop where
  go : ∀ i H', Same H H' → i < xs.length → J.go i H'
  stop : ∀ H', Same H H' → J.stop xs.length H'
  yld : ∀ i H' x H'', Same H H' → i < xs.length → J.yld i H' x H'' → H'' = H' ∧ xs[i]? = some x
def signsV (x : Str) : List V := x.cps.toList.map fun c => .str ⟨#[c]⟩
theorem yields_str (x : Str) (H : Hp) : Yields (Its x) H (signsV x) where
  go := fun i H' _ hi => by
    have : (signsV x).length = x.cps.size := by simp [signsV]
    show i < x.cps.size
    omega
  stop := fun H' _ => by
    show (signsV x).length = x.cps.size
    simp [signsV]
  yld := fun i H' v H'' _ _ y => by
    obtain ⟨rfl, c, hc, rfl⟩ := y
    refine ⟨rfl, ?_⟩
    simp only [signsV, List.getElem?_map, Array.getElem?_toList, hc, Option.map_some]
theorem yields_range (lo : Int) (n : Nat) (H : Hp) : Yields (Itr lo n) H ((List.range n).map fun (i : Nat) => V.int (lo + (i : Int))) where
  go := fun i H' _ hi => by
    show i < n
    simpa using hi
  stop := fun H' _ => by
    show n ≤ ((List.range n).map fun (i : Nat) => V.int (lo + (i : Int))).length
    simp
  yld := fun i H' v H'' _ hi y => by
    obtain ⟨rfl, rfl⟩ := y
    rw [List.length_map, List.length_range] at hi
    refine ⟨rfl, ?_⟩
    simp [hi]
theorem yields_list {K : PySem.W.Frag} {a : Addr} {xs : List V} {H : Hp} (h : SqL K H a xs) : Yields (Itl K a) H xs where
  go := fun i H' s hi => ⟨xs, xs[i], s.seq h, by simp [hi]⟩
  stop := fun H' s => ⟨xs, s.seq h, Nat.le_refl _⟩
  yld := fun i H' v H'' s _ y => ⟨y.1, y.2 xs (s.seq h)⟩

/-- the list that a comprehension with a test and an element tells -/
def compL (f : V → Bool) (g : V → V) (xs : List V) : List V := (xs.filter f).map g
section
variable {X : Cx}
def rPlus (K : PySem.W.Frag) : R2 := fun x y H Q => match x, y with
  | .int i, .int j => Q (.int (i + j)) H
  | .str a, .str b => a.length + b.length ≤ sizeLine ∧ Q (.str (a ++ b)) H
  | .ref a, .ref b => ∃ xs ys, Rd H a (.lst xs) ∧ Rd H b (.lst ys) ∧ xs.length + ys.length ≤ sizeLine ∧ ∀ p, H p = none → Q (.ref p) (upd H p (.lst (xs ++ ys)))
  | _, _ => False
theorem op_catS : OpR X (binaryOp .Add) (fun x y H Q => ∃ a b xs ys, x = .ref a ∧ y = .ref b ∧ Rd H a (.lst xs) ∧ Rd H b (.lst ys) ∧ xs.length + ys.length ≤ sizeLine ∧ ∀ p, H p = none → Q (.ref p) (upd H p (.lst (xs ++ ys)))) := by
  intro pins s σ H x y v u Q I rx ry h
  obtain ⟨l, b, xs, zs, rfl, rfl, hH, hB, hz, q⟩ := h
  cases rx
  cases ry
  obtain ⟨z, its, n, r, e⟩ := hH.ok I.hok
  obtain ⟨z2, its2, n2, r2, e2⟩ := hB.ok I.hok
  have hl := r.length
  have hl2 := r2.length
  refine PySem.P.add_list e e2 ?_ (by rw [List.size_toArray, List.size_toArray]; omega)
  have ea : its.toArray ++ its2.toArray = (its ++ its2).toArray := by simp
  rw [ea]
  exact ⟨.ref _, _, I.lnew (t' := s.toks) (r.append r2) (by rw [List.length_append]; omega), rfl, q _ I.fresh⟩
theorem op_plus : OpR X (binaryOp .Add) (rPlus X.K) := by
  intro pins s σ H x y v u Q I rx ry h
  cases x with
  | int i => cases y with
    | int j => exact op_add pins s σ H _ _ v u Q I rx ry ⟨i, j, rfl, rfl, h⟩
    | _ => exact (show False from h).elim
  | str a => cases y with
    | str b => exact op_add_str pins s σ H _ _ v u Q I rx ry ⟨a, b, rfl, rfl, h.1, h.2⟩
    | _ => exact (show False from h).elim
  | ref a => cases y with
    | ref b =>
      obtain ⟨xs, ys, h1, h2, h3, h4⟩ := h
      exact op_catS pins s σ H _ _ v u Q I rx ry ⟨a, b, xs, ys, rfl, rfl, h1, h2, h3, h4⟩
    | _ => exact (show False from h).elim
  | _ => exact (show False from h).elim
/-- an order's test: ints or texts -/
def rOrd (fi : Int → Int → Bool) (fs : List Nat → List Nat → Bool) : R2 := fun x y H Q => match x, y with
  | .int i, .int j => Q (.bl (fi i j)) H
  | .str a, .str b => Q (.bl (fs a.cps.toList b.cps.toList)) H
  | _, _ => False
theorem ord_of {f : Value → Value → Sem Value} {fi : Int → Int → Bool} {fs : List Nat → List Nat → Bool} (hi : OpR X f (rI0 fun i j => .bl (fi i j)))
    (hs : ∀ (s : Shared) (a b : Str) (t u : Tok) (Q : Value → Shared → Prop), Q (.bool (fs a.cps.toList b.cps.toList)) s → wpAny (model X.prog X.w) X.A (f (.str a t) (.str b u)) Q X.xe s) : OpR X f (rOrd fi fs) := by
  intro pins s σ H x y v u Q I rx ry h
  cases x with
  | int i => cases y with
    | int j => exact hi pins s σ H _ _ v u Q I rx ry ⟨i, j, rfl, rfl, h⟩
    | _ => exact (show False from h).elim
  | str a => cases y with
    | str b =>
      obtain ⟨t, rfl⟩ := rx
      obtain ⟨t', rfl⟩ := ry
      exact hs s a b t t' _ ⟨.bl _, H, I, rfl, h⟩
    | _ => exact (show False from h).elim
  | _ => exact (show False from h).elim
theorem op_ltU : OpR X (compareOp .Lt) (rOrd (fun i j => decide (i < j)) fun a b => decide (a < b)) := ord_of op_lt fun _ _ _ _ _ _ h => lt_str h
def rMul (K : PySem.W.Frag) : R2 := fun x y H Q => match x, y with
  | .int i, .int j => CMul i j ∧ Q (.int (i * j)) H
  | .ref l, .int k => ∃ xs, H l = some (.lst xs) ∧ -(2 ^ 63) ≤ k ∧ k < 2 ^ 63 ∧ xs.length * k.toNat ≤ sizeLine ∧ ∀ p, H p = none → Q (.ref p) (upd H p (.lst (List.replicate k.toNat xs).flatten))
  | _, _ => False
theorem op_mulU : OpR X (binaryOp .Mult) (rMul X.K) := by
  intro pins s σ H x y v u Q I rx ry h
  cases x with
  | int i => cases y with
    | int j => exact op_mul pins s σ H _ _ v u Q I rx ry ⟨i, j, rfl, rfl, h.1, h.2⟩
    | _ => exact (show False from h).elim
  | ref l => cases y with
    | int k =>
      obtain ⟨xs, h1, h2, h3, h4, h5⟩ := h
      exact op_rep pins s σ H _ _ v u Q I rx ry ⟨l, k, xs, rfl, rfl, h1, h2, h3, h4, h5⟩
    | _ => exact (show False from h).elim
  | _ => exact (show False from h).elim

def rSl (K : PySem.W.Frag) : V → Option Int → Option Int → Hp → VK → Prop := fun x lo hi H Q => match x with
  | .str z => z.length ≤ sizeLine ∧ Q (.str (Txt.slice z lo hi)) H
  | .ref a => (∃ xs, SqL K H a xs ∧ ∀ p, H p = none → Q (.ref p) (upd H p (.lst (cutV xs lo hi))))
  | _ => False
theorem sl_str : SlR X (fun x lo hi H Q => ∃ z, x = .str z ∧ z.length ≤ sizeLine ∧ Q (.str (Txt.slice z lo hi)) H) := by
  intro pins s σ H x v vl vu lo hi sl Q I rx hs pl pu h
  obtain ⟨z, rfl, hz, q⟩ := h
  obtain ⟨t, rfl⟩ := rx
  refine ⟨"str", _, F.slot_str_getitem.lookup, typeIs_str _ _ _, ?_⟩
  have fin : ∀ (t' : Tok) (k : Nat), EP X pins σ Q (.str (Txt.slice z lo hi) t') { s with toks := k } := fun t' k => ⟨.str _, H, I.tok k, ⟨t', rfl⟩, q⟩
  cases pl with
  | none => cases pu with
    | none => exact wpAny_getItem_str_slice (l := none) (u := none) (st := none) hs rfl (post_val_or_str ⟨Nat.le_trans (Txt.slice_le z _ _) hz, fin⟩)
    | int j uj => exact wpAny_getItem_str_slice (l := none) (u := some (j, uj)) (st := none) hs rfl (post_val_or_str ⟨Nat.le_trans (Txt.slice_le z _ _) hz, fin⟩)
  | int i ui => cases pu with
    | none => exact wpAny_getItem_str_slice (l := some (i, ui)) (u := none) (st := none) hs rfl (post_val_or_str ⟨Nat.le_trans (Txt.slice_le z _ _) hz, fin⟩)
    | int j uj => exact wpAny_getItem_str_slice (l := some (i, ui)) (u := some (j, uj)) (st := none) hs rfl (post_val_or_str ⟨Nat.le_trans (Txt.slice_le z _ _) hz, fin⟩)
theorem sl_any : SlR X (rSl X.K) := by
  intro pins s σ H x v vl vu lo hi sl Q I rx hs pl pu h
  cases x with
  | str z => exact sl_str pins s σ H _ v vl vu lo hi sl Q I rx hs pl pu ⟨z, rfl, h.1, h.2⟩
  | ref a =>
    obtain ⟨xs, h1, h2⟩ := h
    exact sl_list pins s σ H _ v vl vu lo hi sl Q I rx hs pl pu ⟨a, xs, rfl, h1, h2⟩
  | _ => exact (show False from h).elim
def rAt (K : PySem.W.Frag) : R2 := fun x y H Q => match x, y with
  | .str z, .int i => z.length ≤ sizeLine ∧ ∃ c, atI z.cps.toList i = some c ∧ Q (.str ⟨#[c]⟩) H
  | .ref p, .int i => (∃ xs v, SqL K H p xs ∧ atI xs i = some v ∧ Q v H) ∨ (∃ xs v, SqT K H p xs ∧ atI xs i = some v ∧ Q v H)
  | _, _ => False
theorem ix_any : IxR X (rAt X.K) := by
  intro value slice pins s σ H x y v u Q I rx ry q hs
  cases x with
  | str z => cases y with
    | int i =>
      obtain ⟨hz, c, hc, q⟩ := q
      exact ix_str value slice pins s σ H _ _ v u Q I rx ry ⟨z, i, c, rfl, rfl, hz, hc, q⟩ hs
    | _ => exact (show False from q).elim
  | ref p => cases y with
    | int i =>
      rcases q with ⟨xs, w', h1, h2, h3⟩ | ⟨xs, w', h1, h2, h3⟩
      · exact ix_list value slice pins s σ H _ _ v u Q I rx ry ⟨p, xs, i, w', rfl, rfl, h1, h2, h3⟩ hs
      · exact ix_tup value slice pins s σ H _ _ v u Q I rx ry ⟨p, xs, i, w', rfl, rfl, h1, h2, h3⟩ hs
    | _ => exact (show False from q).elim
  | _ => exact (show False from q).elim

def rLen (K : PySem.W.Frag) : List V → Hp → VK → Prop := fun vs H Q => match vs with
  | [.str z] => z.length ≤ sizeLine ∧ Q (.int z.length) H
  | [.ref p] => ∃ ys, (SqL K H p ys ∨ SqT K H p ys) ∧ Q (.int ys.length) H
  | _ => False
theorem call_lenU : CallR X (.builtin "len") (rLen X.K) := by
  intro pins s σ H vs us Q I r h
  match vs, h with
  | [.str z], h => exact call_len_str pins s σ H _ us Q I r ⟨z, rfl, h.1, h.2⟩
  | [.ref p], h =>
    obtain ⟨ys, h1, h2⟩ := h
    exact call_len_seq pins s σ H _ us Q I r ⟨p, ys, rfl, h1, h2⟩

def rJoin (K : PySem.W.Frag) : V → List V → Hp → VK → Prop := fun x vs H Q => ∃ z l ys, x = .str z ∧ vs = [.ref l] ∧ SqL K H l (ys.map V.str) ∧ (ys.map (·.length)).sum + ys.length * z.length ≤ 16777216 ∧ Q (.str (Txt.join z ys)) H
end
end L2

set_option Elab.async false
set_option maxRecDepth 100000
namespace L2
open PySem PySem.Spec PyProof.Rows

structure EqTy (K : PySem.W.Frag) (k : Nat) {α : Type} [DecidableEq α] (R : Hp → V → α → Prop) : Prop where
  fn : ∀ {X : Cx} {pins : List (Addr × Obj)} {σ : St} {H : Hp} {s : Shared} {x : V} {a b : α}, X.K = K → Inv X pins σ H s → R H x a → R H x b → a = b
  eq : ∀ {X : Cx} {pins : List (Addr × Obj)} {σ : St} {H : Hp} {s : Shared} {x y : V} {u v : Value} {a b : α} (A : Around), X.K = K → Inv X pins σ H s → A.units + k < cLine → RelV x u → RelV y v → R H x a → R H y b → SeqAt.EqAt A s u v (decide (a = b))
  rc : ∀ {X : Cx} {pins : List (Addr × Obj)} {σ : St} {H : Hp} {s : Shared} {x y : V} {u v : Value} {a b : α} (A : Around), X.K = K → Inv X pins σ H s → A.units + k < cLine → RelV x u → RelV y v → R H x a → R H y b → SeqAt.RcAt A s u v (decide (a = b)) ∧ SeqAt.RcNeAt A s u v (!decide (a = b))

def isStr : Hp → V → Str → Prop := fun _ x a => x = .str a
def isInt : Hp → V → Int → Prop := fun _ x a => x = .int a
def isBl : Hp → V → Bool → Prop := fun _ x a => x = .bl a
theorem dec_beq {α : Type} [DecidableEq α] [BEq α] [LawfulBEq α] (a b : α) : (a == b) = decide (a = b) := by
  by_cases h : a = b
  · subst h; simp
  · rw [decide_eq_false h]; simpa using h
theorem eqStr {K : PySem.W.Frag} : EqTy K 0 isStr where
  fn := fun _ _ h1 h2 => by cases h1; cases h2; rfl
  eq := fun A _ _ _ r1 r2 h1 h2 => by
    cases h1; cases h2
    obtain ⟨t, rfl⟩ := r1
    obtain ⟨t', rfl⟩ := r2
    rw [← dec_beq]
    exact SeqAt.EqAt.str_str _ _ _ _
  rc := fun A _ _ _ r1 r2 h1 h2 => by
    cases h1; cases h2
    obtain ⟨t, rfl⟩ := r1
    obtain ⟨t', rfl⟩ := r2
    rw [← dec_beq]
    exact ⟨SeqAt.RcAt.str_str _ _ _ _, SeqAt.RcNeAt.str_str _ _ _ _⟩
theorem eqInt {K : PySem.W.Frag} : EqTy K 0 isInt where
  fn := fun _ _ h1 h2 => by cases h1; cases h2; rfl
  eq := fun A _ _ _ r1 r2 h1 h2 => by
    cases h1; cases h2
    obtain ⟨t, rfl⟩ := r1
    obtain ⟨t', rfl⟩ := r2
    rw [← dec_beq]
    exact SeqAt.EqAt.int_int _ _ _ _
  rc := fun A _ _ _ r1 r2 h1 h2 => by
    cases h1; cases h2
    obtain ⟨t, rfl⟩ := r1
    obtain ⟨t', rfl⟩ := r2
    rw [← dec_beq]
    exact ⟨SeqAt.RcAt.int_int _ _ _ _, SeqAt.RcNeAt.int_int _ _ _ _⟩
theorem eqBl {K : PySem.W.Frag} : EqTy K 0 isBl where
  fn := fun _ _ h1 h2 => by cases h1; cases h2; rfl
  eq := fun A _ _ _ r1 r2 h1 h2 => by
    cases h1; cases h2
    cases r1; cases r2
    rw [← dec_beq]
    exact SeqAt.EqAt.bool_bool _ _
  rc := fun A _ _ _ r1 r2 h1 h2 => by
    cases h1; cases h2
    cases r1; cases r2
    rw [← dec_beq]
    exact ⟨SeqAt.RcAt.bool_bool _ _, SeqAt.RcNeAt.bool_bool _ _⟩

theorem Paired.at' {α β : Type} {F : α → β → Prop} : ∀ {l₁ : List α} {l₂ : List β} {i : Nat} {a : α} {b : β}, Paired F l₁ l₂ → l₁[i]? = some a → l₂[i]? = some b → F a b
  | _, _, _, _, _, .nil, e, _ => by simp at e
  | _, _, 0, _, _, .cons h _, e1, e2 => by simp at e1 e2; subst e1; subst e2; exact h
  | _, _, i + 1, _, _, .cons _ t, e1, e2 => Paired.at' (i := i) t (by simpa using e1) (by simpa using e2)
theorem paired_fn {α β : Type} {F : α → β → Prop} (hf : ∀ a b c, F a b → F a c → b = c) : ∀ {xs : List α} {as bs : List β}, Paired F xs as → Paired F xs bs → as = bs
  | _, _, _, .nil, .nil => rfl
  | _, _, _, .cons h t, .cons h' t' => by rw [hf _ _ _ h h', paired_fn hf t t']
theorem all_dec {α : Type} [DecidableEq α] : ∀ (as bs : List α) (hl : as.length = bs.length), ((List.range as.length).all fun j => decide (as[j]? = bs[j]?)) = decide (as = bs) := by
  intro as bs hl
  apply Bool.eq_iff_iff.mpr
  rw [decide_eq_true_iff, List.all_eq_true]
  constructor
  · intro h
    apply List.ext_getElem? 
    intro i
    by_cases hi : i < as.length
    · exact of_decide_eq_true (h i (List.mem_range.mpr hi))
    · rw [List.getElem?_eq_none (by omega), List.getElem?_eq_none (by omega)]
  · rintro rfl i _
    simp

/-- a list of such data -/
def isLst (K : PySem.W.Frag) {α : Type} (R : Hp → V → α → Prop) : Hp → V → List α → Prop := fun H x as => ∃ l xs, x = .ref l ∧ SqL K H l xs ∧ Paired (R H) xs as
theorem items_eqAt {K : PySem.W.Frag} {k : Nat} {α : Type} [DecidableEq α] {R : Hp → V → α → Prop} (E : EqTy K k R) {X : Cx} {pins : List (Addr × Obj)} {σ : St} {H : Hp} {s : Shared} {A : Around} (hK : X.K = K) (I : Inv X pins σ H s) (hu : A.units + (k + 1) < cLine)
    {xs ys : List V} {us vs : List Value} {as bs : List α} (rx : Vals xs us) (ry : Vals ys vs) (px : Paired (R H) xs as) (py : Paired (R H) ys bs) :
    ∀ j (h1 : j < us.toArray.size) (h2 : j < vs.toArray.size), SeqAt.EqAt A.in1 s us.toArray[j] vs.toArray[j] (decide (as[j]? = bs[j]?)) := by
  intro j h1 h2
  have h1' : j < us.length := by simpa using h1
  have h2' : j < vs.length := by simpa using h2
  have lx := rx.length
  have ly := ry.length
  have lpx := Paired.length px
  have lpy := Paired.length py
  have ex : xs[j]? = some xs[j] := List.getElem?_eq_getElem (by omega)
  have ey : ys[j]? = some ys[j] := List.getElem?_eq_getElem (by omega)
  have ea : as[j]? = some as[j] := List.getElem?_eq_getElem (by omega)
  have eb : bs[j]? = some bs[j] := List.getElem?_eq_getElem (by omega)
  obtain ⟨u, hu', ru⟩ := rx.get ex
  obtain ⟨v, hv', rv⟩ := ry.get ey
  have e1 : us.toArray[j] = u := by
    rw [List.getElem?_eq_getElem h1'] at hu'
    simpa using hu'
  have e2 : vs.toArray[j] = v := by
    rw [List.getElem?_eq_getElem h2'] at hv'
    simpa using hv'
  rw [e1, e2, ea, eb]
  have := E.eq A.in1 hK I (show A.units + 1 + k < cLine by omega) ru rv (Paired.at' px ex ea) (Paired.at' py ey eb)
  have e3 : decide (some as[j] = some bs[j]) = decide (as[j] = bs[j]) := by simp
  rw [e3]
  exact this
theorem eqLst {K : PySem.W.Frag} {k : Nat} {α : Type} [DecidableEq α] {R : Hp → V → α → Prop} (E : EqTy K k R) : EqTy K (k + 1) (isLst K R) := by
  have fn : ∀ {X : Cx} {pins : List (Addr × Obj)} {σ : St} {H : Hp} {s : Shared} {x : V} {a b : List α}, X.K = K → Inv X pins σ H s → isLst K R H x a → isLst K R H x b → a = b := by
    intro X pins σ H s x a b hK I ha hb
    obtain ⟨l, xs, rfl, h1, p1⟩ := ha
    obtain ⟨l', ys, e, h2, p2⟩ := hb
    cases e
    subst hK
    have := I.list_inj h1 h2
    subst this
    exact paired_fn (F := R H) (fun _ _ _ p q => E.fn rfl I p q) p1 p2
  have rc : ∀ {X : Cx} {pins : List (Addr × Obj)} {σ : St} {H : Hp} {s : Shared} {x y : V} {u v : Value} {a b : List α} (A : Around), X.K = K → Inv X pins σ H s → A.units + (k + 1) < cLine → RelV x u → RelV y v → isLst K R H x a → isLst K R H y b →
      SeqAt.RcAt A s u v (decide (a = b)) ∧ SeqAt.RcNeAt A s u v (!decide (a = b)) := by
    intro X pins σ H s x y u v a b A hK I hu r1 r2 ha hb
    obtain ⟨l, xs, rfl, h1, p1⟩ := ha
    obtain ⟨l', ys, rfl, h2, p2⟩ := hb
    cases r1; cases r2
    subst hK
    obtain ⟨us, rx, plx, _⟩ := I.list h1
    obtain ⟨vs, ry, ply, _⟩ := I.list h2
    have lx := rx.length
    have ly := ry.length
    have lpx := Paired.length p1
    have lpy := Paired.length p2
    by_cases hl : a.length = b.length
    · have hsz : us.toArray.size = vs.toArray.size := by simp; omega
      have it := items_eqAt E rfl I hu rx ry p1 p2
      have ed : ((List.range us.toArray.size).all fun j => decide (a[j]? = b[j]?)) = decide (a = b) := by
        rw [← all_dec a b hl, List.size_toArray, ← lx, lpx]
      rw [← ed]
      exact ⟨SeqAt.RcAt.lists plx.isList ply.isList hsz (by omega) it, SeqAt.RcNeAt.lists plx.isList ply.isList hsz (by omega) it⟩
    · have hsz : (us.toArray.size != vs.toArray.size) = true := by simp; omega
      have ne : a ≠ b := fun e => hl (by rw [e])
      rw [decide_eq_false ne]
      exact ⟨SeqAt.RcAt.lists_lengths plx.isList ply.isList hsz (by omega), SeqAt.RcNeAt.lists_lengths plx.isList ply.isList hsz (by omega)⟩
  refine ⟨fn, ?_, rc⟩
  intro X pins σ H s x y u v a b A hK I hu r1 r2 ha hb
  have h := (rc A hK I hu r1 r2 ha hb).1
  obtain ⟨l, xs, rfl, h1, p1⟩ := id ha
  obtain ⟨l', ys, rfl, h2, p2⟩ := id hb
  cases r1; cases r2
  by_cases e : l = l'
  · subst e
    have : a = b := fn hK I ha hb
    rw [decide_eq_true this]
    exact SeqAt.EqAt.same _
  · exact SeqAt.EqAt.of_refs e h

/-- a tuple of two such data -/
def isPair (K : PySem.W.Frag) {α β : Type} (R : Hp → V → α → Prop) (S : Hp → V → β → Prop) : Hp → V → α × β → Prop := fun H x p => ∃ t a b, x = .ref t ∧ SqT K H t [a, b] ∧ R H a p.1 ∧ S H b p.2
theorem eqPair {K : PySem.W.Frag} {k : Nat} {α β : Type} [DecidableEq α] [DecidableEq β] {R : Hp → V → α → Prop} {S : Hp → V → β → Prop} (E : EqTy K k R) (G : EqTy K k S) : EqTy K (k + 1) (isPair K R S) := by
  have fn : ∀ {X : Cx} {pins : List (Addr × Obj)} {σ : St} {H : Hp} {s : Shared} {x : V} {a b : α × β}, X.K = K → Inv X pins σ H s → isPair K R S H x a → isPair K R S H x b → a = b := by
    intro X pins σ H s x a b hK I ha hb
    obtain ⟨l, x1, x2, rfl, h1, p1, p2⟩ := ha
    obtain ⟨l', y1, y2, e, h2, q1, q2⟩ := hb
    cases e
    subst hK
    have := I.tuple_inj h1 h2
    cases this
    exact Prod.ext (E.fn rfl I p1 q1) (G.fn rfl I p2 q2)
  have rc : ∀ {X : Cx} {pins : List (Addr × Obj)} {σ : St} {H : Hp} {s : Shared} {x y : V} {u v : Value} {a b : α × β} (A : Around), X.K = K → Inv X pins σ H s → A.units + (k + 1) < cLine → RelV x u → RelV y v → isPair K R S H x a → isPair K R S H y b →
      SeqAt.RcAt A s u v (decide (a = b)) ∧ SeqAt.RcNeAt A s u v (!decide (a = b)) := by
    intro X pins σ H s x y u v a b A hK I hu r1 r2 ha hb
    obtain ⟨l, x1, x2, rfl, h1, p1, p2⟩ := ha
    obtain ⟨l', y1, y2, rfl, h2, q1, q2⟩ := hb
    cases r1; cases r2
    subst hK
    obtain ⟨us, rx, plx, _⟩ := I.tuple h1
    obtain ⟨vs, ry, ply, _⟩ := I.tuple h2
    obtain ⟨u1, u2, rfl, ru1, ru2⟩ := vals2 rx
    obtain ⟨v1, v2, rfl, rv1, rv2⟩ := vals2 ry
    have e1 := E.eq A.in1 rfl I (show A.units + 1 + k < cLine by omega) ru1 rv1 p1 q1
    have e2 := G.eq A.in1 rfl I (show A.units + 1 + k < cLine by omega) ru2 rv2 p2 q2
    have it : ∀ j (h1 : j < [u1, u2].toArray.size) (h2 : j < [v1, v2].toArray.size), SeqAt.EqAt A.in1 s [u1, u2].toArray[j] [v1, v2].toArray[j] ((fun j => if j = 0 then decide (a.1 = b.1) else decide (a.2 = b.2)) j) := by
      intro j h1 h2
      match j, h1 with
      | 0, _ => exact e1
      | 1, _ => exact e2
      | j + 2, h => exact absurd h (by simp)
    have ed : ((List.range (min [u1, u2].toArray.size [v1, v2].toArray.size)).all (fun j => if j = 0 then decide (a.1 = b.1) else decide (a.2 = b.2)) && [u1, u2].toArray.size == [v1, v2].toArray.size) = decide (a = b) := by
      apply Bool.eq_iff_iff.mpr
      rw [decide_eq_true_iff]
      constructor
      · intro h
        have h : (decide (a.1 = b.1) && (decide (a.2 = b.2) && true) && true) = true := h
        simp only [Bool.and_true, Bool.and_eq_true, decide_eq_true_iff] at h
        exact Prod.ext h.1 h.2
      · rintro rfl
        show (decide (a.1 = a.1) && (decide (a.2 = a.2) && true) && true) = true
        simp
    rw [← ed]
    exact ⟨SeqAt.RcAt.tuples plx ply (by omega) it, SeqAt.RcNeAt.tuples plx ply (by omega) it⟩
  refine ⟨fn, ?_, rc⟩
  intro X pins σ H s x y u v a b A hK I hu r1 r2 ha hb
  have h := (rc A hK I hu r1 r2 ha hb).1
  obtain ⟨l, x1, x2, rfl, h1, p1, p2⟩ := id ha
  obtain ⟨l', y1, y2, rfl, h2, q1, q2⟩ := id hb
  cases r1; cases r2
  by_cases e : l = l'
  · subst e
    have : a = b := fn hK I ha hb
    rw [decide_eq_true this]
    exact SeqAt.EqAt.same _
  · exact SeqAt.EqAt.of_refs e h
section
variable {X : Cx}
theorem op_eqD {k j : Nat} {α : Type} [DecidableEq α] {R : Hp → V → α → Prop} (E : EqTy X.K k R) (hr : Room j X.A) (hk : k ≤ 10) : OpR X (compareOp .Eq) (fun x y H Q => ∃ a b, R H x a ∧ R H y b ∧ Q (.bl (decide (a = b))) H) := by
  intro pins s σ H x y v u Q I rx ry h
  obtain ⟨a, b, h1, h2, q⟩ := h
  exact (E.rc X.A rfl I (by have := hr.un; omega) rx ry h1 h2).1 _ _ _ _ ⟨.bl _, H, I, rfl, q⟩
theorem op_neD {k j : Nat} {α : Type} [DecidableEq α] {R : Hp → V → α → Prop} (E : EqTy X.K k R) (hr : Room j X.A) (hk : k ≤ 10) : OpR X (compareOp .NotEq) (fun x y H Q => ∃ a b, R H x a ∧ R H y b ∧ Q (.bl (!decide (a = b))) H) := by
  intro pins s σ H x y v u Q I rx ry h
  obtain ⟨a, b, h1, h2, q⟩ := h
  exact (E.rc X.A rfl I (by have := hr.un; omega) rx ry h1 h2).2 _ _ _ _ ⟨.bl _, H, I, rfl, q⟩
end
/-- texts in a list; a run -/
abbrev isStrs (K : PySem.W.Frag) : Hp → V → List Str → Prop := isLst K isStr
abbrev isRunV (K : PySem.W.Frag) : Hp → V → List Str × List Str → Prop := isPair K (isStrs K) (isStrs K)
end L2

set_option Elab.async false
set_option linter.all false
set_option maxRecDepth 100000
set_option maxHeartbeats 4000000
namespace L2
open PySem PySem.Spec PyProof.Rows

class Rp (α : Type) where
  rel : PySem.W.Frag → Hp → V → α → Prop
  mono : ∀ {K : PySem.W.Frag} {H H' : Hp} {v : V} {a : α}, Same H H' → rel K H v a → rel K H' v a
theorem Same.rd {H H' : Hp} {a : Addr} {u : HO} (s : Same H H') (h : Rd H a u) : Rd H' a u := by
  rcases h with h | ⟨o, h⟩
  · exact .inl (s _ _ h)
  · exact .inr ⟨o, s _ _ h⟩
theorem Same.tup {K : PySem.W.Frag} {H H' : Hp} {a : Addr} {xs : List V} (e : Same H H') (h : SqT K H a xs) : SqT K H' a xs := by
  rcases h with h | h
  · exact .inl (e.rd h)
  · exact .inr h
instance rpInt : Rp Int := ⟨fun _ _ v a => v = .int a, fun _ h => h⟩
instance rpBool : Rp Bool := ⟨fun _ _ v a => v = .bl a, fun _ h => h⟩
instance rpStr : Rp Str := ⟨fun _ _ v a => v = .str a ∧ a.length ≤ sizeLine, fun _ h => h⟩
instance rpUnit : Rp Unit := ⟨fun _ _ v _ => v = .non, fun _ h => h⟩
instance rpList {α : Type} [Rp α] : Rp (List α) :=
  ⟨fun K H v as => ∃ l xs, v = .ref l ∧ Rd H l (.lst xs) ∧ xs.length ≤ sizeLine ∧ Paired (Rp.rel K H) xs as,
   fun s ⟨l, xs, e, h, z, p⟩ => ⟨l, xs, e, s.rd h, z, Paired.imp' (fun _ _ r => Rp.mono s r) p⟩⟩
instance rpPair {α β : Type} [Rp α] [Rp β] : Rp (α × β) :=
  ⟨fun K H v p => ∃ t a b, v = .ref t ∧ SqT K H t [a, b] ∧ Rp.rel K H a p.1 ∧ Rp.rel K H b p.2,
   fun s ⟨t, a, b, e, h, r1, r2⟩ => ⟨t, a, b, e, s.tup h, Rp.mono s r1, Rp.mono s r2⟩⟩
/-- tuples of one, three, four; of alike things -/
structure T1 (α : Type) where
  a : α
  deriving DecidableEq
structure T3 (α β γ : Type) where
  a : α
  b : β
  c : γ
  deriving DecidableEq
structure T4 (α β γ δ : Type) where
  a : α
  b : β
  c : γ
  d : δ
  deriving DecidableEq
structure Tp (α : Type) where
  l : List α
  deriving DecidableEq
instance rpT1 {α : Type} [Rp α] : Rp (T1 α) :=
  ⟨fun K H v p => ∃ t a, v = .ref t ∧ SqT K H t [a] ∧ Rp.rel K H a p.a, fun s ⟨t, a, e, h, r1⟩ => ⟨t, a, e, s.tup h, Rp.mono s r1⟩⟩
instance rpT3 {α β γ : Type} [Rp α] [Rp β] [Rp γ] : Rp (T3 α β γ) :=
  ⟨fun K H v p => ∃ t a b c, v = .ref t ∧ SqT K H t [a, b, c] ∧ Rp.rel K H a p.a ∧ Rp.rel K H b p.b ∧ Rp.rel K H c p.c,
   fun s ⟨t, a, b, c, e, h, r1, r2, r3⟩ => ⟨t, a, b, c, e, s.tup h, Rp.mono s r1, Rp.mono s r2, Rp.mono s r3⟩⟩
instance rpT4 {α β γ δ : Type} [Rp α] [Rp β] [Rp γ] [Rp δ] : Rp (T4 α β γ δ) :=
  ⟨fun K H v p => ∃ t a b c d, v = .ref t ∧ SqT K H t [a, b, c, d] ∧ Rp.rel K H a p.a ∧ Rp.rel K H b p.b ∧ Rp.rel K H c p.c ∧ Rp.rel K H d p.d,
   fun s ⟨t, a, b, c, d, e, h, r1, r2, r3, r4⟩ => ⟨t, a, b, c, d, e, s.tup h, Rp.mono s r1, Rp.mono s r2, Rp.mono s r3, Rp.mono s r4⟩⟩
instance rpTp {α : Type} [Rp α] : Rp (Tp α) :=
  ⟨fun K H v as => ∃ t xs, v = .ref t ∧ SqT K H t xs ∧ xs.length ≤ sizeLine ∧ Paired (Rp.rel K H) xs as.l,
   fun s ⟨l, xs, e, h, z, p⟩ => ⟨l, xs, e, s.tup h, z, Paired.imp' (fun _ _ r => Rp.mono s r) p⟩⟩
instance rpOpt {α : Type} [Rp α] : Rp (Option α) :=
  ⟨fun K H v o => match o with | none => v = .non | some a => Rp.rel K H v a,
   fun {K H H' v o} s h => by cases o with | none => exact h | some a => exact Rp.mono (α := α) s h⟩

/-- argument lists -/
class RpA (α : Type) where
  n : Nat
  rel : PySem.W.Frag → Hp → List V → α → Prop
  mono : ∀ {K : PySem.W.Frag} {H H' : Hp} {v : List V} {a : α}, Same H H' → rel K H v a → rel K H' v a
  len : ∀ {K : PySem.W.Frag} {H : Hp} {v : List V} {a : α}, rel K H v a → v.length = n
instance raNil : RpA Unit := ⟨0, fun _ _ vs _ => vs = [], fun _ h => h, fun h => by rw [h]; rfl⟩
instance raCons {α β : Type} [Rp α] [RpA β] : RpA (α × β) :=
  ⟨RpA.n β + 1, fun K H vs p => ∃ v r, vs = v :: r ∧ Rp.rel K H v p.1 ∧ RpA.rel K H r p.2,
   fun s ⟨v, r, e, h1, h2⟩ => ⟨v, r, e, Rp.mono s h1, RpA.mono s h2⟩, fun ⟨v, r, e, h1, h2⟩ => by rw [e, List.length_cons, RpA.len h2]⟩

structure Ext (G H G' H' : Hp) : Prop where
  gg : Same G G'
  gh : Same G' H'
  hh : Same H H'
  no : ∀ b, G b = none → H b ≠ none → G' b = none
section
variable {G H G1 H1 G2 H2 G0 H0 : Hp} {p : Addr} {o : HO}
theorem Ext.refl (s : Same G H) : Ext G H G H := ⟨.refl _, s, .refl _, fun _ h _ => h⟩
theorem Ext.trans (x : Ext G H G1 H1) (y : Ext G1 H1 G2 H2) : Ext G H G2 H2 :=
  ⟨x.gg.trans y.gg, y.gh, x.hh.trans y.hh, fun b h1 h2 => y.no b (x.no b h1 h2) fun z => h2 (x.hh.free z)⟩
theorem Same.both (s : Same G H) : Same (upd G p o) (upd H p o) := fun b u e => by
  by_cases hb : b = p
  · subst hb
    rw [upd_same] at e ⊢
    exact e
  · rw [upd_ne hb] at e ⊢
    exact s b u e
theorem Ext.new (s : Same G H) (h : H p = none) : Ext G H (upd G p o) (upd H p o) :=
  ⟨Same.new (s.free h), s.both, Same.new h, fun b h1 h2 => by
    have hb : b ≠ p := fun z => h2 (by rw [z]; exact h)
    rw [upd_ne hb]
    exact h1⟩
theorem Ext.own (s : Same G H) (h : H p = none) : Ext G H G (upd H p o) := ⟨.refl _, s.trans (Same.new h), Same.new h, fun _ h _ => h⟩
theorem Ext.put (x : Ext G0 H0 G H) (h0 : H0 p = none) (hg : G p = none) : Ext G0 H0 G (upd H p o) := ⟨x.gg, x.gh.put hg, x.hh.put h0, x.no⟩
theorem Ext.frz (x : Ext G0 H0 G H) (h0 : H0 p = none) (hg : G p = none) (hh : H p = some o) : Ext G0 H0 (upd G p o) H :=
  ⟨x.gg.trans (Same.new hg), fun b u e => by
    by_cases hb : b = p
    · subst hb
      rw [upd_same] at e
      rw [hh]
      exact e
    · rw [upd_ne hb] at e
      exact x.gh b u e, x.hh, fun b h1 h2 => by
    have hb : b ≠ p := fun z => h2 (by rw [z]; exact h0)
    rw [upd_ne hb]
    exact x.no b h1 h2⟩
end

section
variable {K : PySem.W.Frag} {σ : St} {G : Hp}
def EV (K : PySem.W.Frag) {α : Type} [Rp α] (te : TE) (σ : St) (G : Hp) (m : Option α) : Prop :=
  ∀ G1, Same G G1 → ∀ a, m = some a → ∀ H, Same G1 H → ∀ Q : VK, (∀ v G2 H2, Ext G1 H G2 H2 → Rp.rel K G2 v a → Q v H2) → te σ H Q
def TV (t : TT) (σ : St) (G : Hp) (m : Option Bool) : Prop :=
  ∀ G1, Same G G1 → ∀ a, m = some a → ∀ H, Same G1 H → ∀ Q : Bool → Hp → Prop, (∀ G2 H2, Ext G1 H G2 H2 → Q a H2) → t σ H Q
def AV (K : PySem.W.Frag) {α : Type} [RpA α] (t : TA) (σ : St) (G : Hp) (m : Option α) : Prop :=
  ∀ G1, Same G G1 → ∀ a, m = some a → ∀ H, Same G1 H → ∀ Q : List V → Hp → Prop, (∀ vs G2 H2, Ext G1 H G2 H2 → RpA.rel K G2 vs a → Q vs H2) → t σ H Q
/-- written items, n of them, alike -/
def LV (K : PySem.W.Frag) {α : Type} [Rp α] (t : TA) (σ : St) (G : Hp) (n : Nat) (m : Option (List α)) : Prop :=
  ∀ G1, Same G G1 → ∀ a, m = some a → ∀ H, Same G1 H → ∀ Q : List V → Hp → Prop, (∀ vs G2 H2, Ext G1 H G2 H2 → vs.length = n → Paired (Rp.rel K G2) vs a → Q vs H2) → t σ H Q
def OV (t : TO) (σ : St) (G : Hp) (m : Option (Option Int)) : Prop :=
  ∀ G1, Same G G1 → ∀ a, m = some a → ∀ H, Same G1 H → ∀ Q : Option Int → Hp → Prop, (∀ G2 H2, Ext G1 H G2 H2 → Q a H2) → t σ H Q
/-- a new list -/
def FV (K : PySem.W.Frag) {α : Type} [Rp α] (te : TE) (σ : St) (G : Hp) (m : Option (List α)) : Prop :=
  ∀ G1, Same G G1 → ∀ a, m = some a → ∀ H, Same G1 H → ∀ Q : VK, (∀ p vs G2 H2, Ext G1 H G2 H2 → H p = none → G2 p = none → H2 p = some (.lst vs) → vs.length ≤ sizeLine → Paired (Rp.rel K G2) vs a → Q (.ref p) H2) → te σ H Q
/-- what is walked -/
def IV (K : PySem.W.Frag) {α : Type} [Rp α] (wi : TI) (σ : St) (G : Hp) (m : Option (List α)) : Prop :=
  ∀ G1, Same G G1 → ∀ a, m = some a → ∀ H, Same G1 H → ∀ R : It → Hp → Prop, (∀ J vs G2 H2, Ext G1 H G2 H2 → Yields J G2 vs → Paired (Rp.rel K G2) vs a → R J H2) → wi σ H R

section
variable {α β γ δ : Type} [Rp α] [Rp β] [Rp γ] [Rp δ] {ta tb tc td : TE} {ma : Option α} {mb : Option β} {mc : Option γ}
theorem EV.run {te : TE} {H : Hp} {a : α} {Q : VK} {m : Option α} (e : EV K te σ G m) (hm : m = some a) (s : Same G H) (k : ∀ v G2 H2, Ext G H G2 H2 → Rp.rel K G2 v a → Q v H2) : te σ H Q := e G (.refl G) a hm H s Q k
theorem TV.run {t : TT} {H : Hp} {a : Bool} {Q : Bool → Hp → Prop} {m : Option Bool} (e : TV t σ G m) (hm : m = some a) (s : Same G H) (k : ∀ G2 H2, Ext G H G2 H2 → Q a H2) : t σ H Q := e G (.refl G) a hm H s Q k
theorem EV.of {te : TE} {m m' : Option α} (e : EV K te σ G m) (h : m = m') : EV K te σ G m' := h ▸ e

theorem FV.ev {te : TE} {m : Option (List α)} (e : FV K te σ G m) : EV K te σ G m := by
  intro G1 s1 a ha H sH Q k
  refine e G1 s1 a ha H sH Q fun p vs G2 H2 x h0 hg hh hz hp => ?_
  exact k _ _ _ (x.frz h0 hg hh) ⟨p, vs, rfl, .inl upd_same, hz, Paired.imp' (fun _ _ r => Rp.mono (Same.new hg) r) hp⟩

theorem ev_var {i : Nat} {v : V} {a : α} (h : σ[i]? = some (some v)) (r : Rp.rel K G v a) : EV K (tVar i) σ G (some a) := fun G1 s a' e H sH Q k => by
  cases e
  exact ⟨v, h, k v G1 H (.refl sH) (Rp.mono s r)⟩
theorem ev_c {v : V} {a : α} (h : ∀ G, Rp.rel K G v a) : EV K (tC v) σ G (some a) := fun G1 s a' e H sH Q k => by
  cases e
  exact k v G1 H (.refl sH) (h _)
theorem ev_i {i : Int} : EV K (tC (.int i)) σ G (some i) := ev_c fun _ => rfl
theorem ev_b {b : Bool} : EV K (tC (.bl b)) σ G (some b) := ev_c fun _ => rfl
theorem ev_s {x : Str} (h : x.length ≤ sizeLine := by decide +kernel) : EV K (tC (.str x)) σ G (some x) := ev_c fun _ => ⟨rfl, h⟩
theorem ev_bin {r : R2} {f : α → β → Option γ}
    (h : ∀ {G H : Hp} {v u : V} {a : α} {b : β} {c : γ}, Same G H → Rp.rel K G v a → Rp.rel K G u b → f a b = some c → ∀ {Q : VK}, (∀ w G2 H2, Ext G H G2 H2 → Rp.rel K G2 w c → Q w H2) → r v u H Q)
    (ea : EV K ta σ G ma) (eb : EV K tb σ G mb) : EV K (tOp r ta tb) σ G (ma.bind fun a => mb.bind fun b => f a b) := by
  intro G1 s1 c hc H sH Q k
  obtain ⟨a, ha, hc⟩ := Option.bind_eq_some_iff.mp hc
  obtain ⟨b, hb, hc⟩ := Option.bind_eq_some_iff.mp hc
  refine ea G1 s1 a ha H sH _ fun v G2 H2 x2 r2 => ?_
  refine eb G2 (s1.trans x2.gg) b hb H2 x2.gh _ fun u G3 H3 x3 r3 => ?_
  exact h x3.gh (Rp.mono x3.gg r2) r3 hc fun w G4 H4 x4 r4 => k w G4 H4 ((x2.trans x3).trans x4) r4
theorem ev_un {r : V → Hp → VK → Prop} {f : α → Option γ}
    (h : ∀ {G H : Hp} {v : V} {a : α} {c : γ}, Same G H → Rp.rel K G v a → f a = some c → ∀ {Q : VK}, (∀ w G2 H2, Ext G H G2 H2 → Rp.rel K G2 w c → Q w H2) → r v H Q)
    (ea : EV K ta σ G ma) : EV K (tUn r ta) σ G (ma.bind fun a => f a) := by
  intro G1 s1 c hc H sH Q k
  obtain ⟨a, ha, hc⟩ := Option.bind_eq_some_iff.mp hc
  refine ea G1 s1 a ha H sH _ fun v G2 H2 x2 r2 => ?_
  exact h x2.gh r2 hc fun w G4 H4 x4 r4 => k w G4 H4 (x2.trans x4) r4

instance decMul (i j : Int) : Decidable (CMul i j) := by unfold CMul; infer_instance
instance decDiv (i j : Int) : Decidable (CDiv i j) := by unfold CDiv; infer_instance
instance decPow (i j : Int) : Decidable (CPow i j) := by unfold CPow; infer_instance
def mulO (a b : Int) : Option Int := if CMul a b then some (a * b) else none
def divO (a b : Int) : Option Int := if CDiv a b then some (a / b) else none
def modO (a b : Int) : Option Int := if 0 < b then some (a % b) else none
def powO (a b : Int) : Option Int := if CPow a b then some (a ^ b.toNat) else none
theorem ite_some {p : Prop} [Decidable p] {α : Type} {a c : α} (h : (if p then some a else none) = some c) : p ∧ a = c := by
  by_cases hp : p
  · rw [if_pos hp] at h
    exact ⟨hp, Option.some.inj h⟩
  · rw [if_neg hp] at h
    cases h
section
variable {ia ib : Option Int}
theorem ev_add (ea : EV K ta σ G ia) (eb : EV K tb σ G ib) : EV K (tOp (rPlus K) ta tb) σ G (ia.bind fun a => ib.bind fun b => some (a + b)) :=
  ev_bin (fun s ra rb e Q k => by cases ra; cases rb; cases e; exact k _ _ _ (.refl s) rfl) ea eb
theorem ev_sub (ea : EV K ta σ G ia) (eb : EV K tb σ G ib) : EV K (tOp (rI0 fun i j => .int (i - j)) ta tb) σ G (ia.bind fun a => ib.bind fun b => some (a - b)) :=
  ev_bin (fun s ra rb e Q k => by cases ra; cases rb; cases e; exact ⟨_, _, rfl, rfl, k _ _ _ (.refl s) rfl⟩) ea eb
theorem ev_mul (ea : EV K ta σ G ia) (eb : EV K tb σ G ib) : EV K (tOp (rMul K) ta tb) σ G (ia.bind fun a => ib.bind fun b => mulO a b) :=
  ev_bin (fun s ra rb e Q k => by cases ra; cases rb; obtain ⟨h, rfl⟩ := ite_some e; exact ⟨h, k _ _ _ (.refl s) rfl⟩) ea eb
theorem ev_mod (ea : EV K ta σ G ia) (eb : EV K tb σ G ib) : EV K (tOp (rI (fun _ j => 0 < j) fun i j => .int (i % j)) ta tb) σ G (ia.bind fun a => ib.bind fun b => modO a b) :=
  ev_bin (fun s ra rb e Q k => by cases ra; cases rb; obtain ⟨h, rfl⟩ := ite_some e; exact ⟨_, _, rfl, rfl, h, k _ _ _ (.refl s) rfl⟩) ea eb
theorem ev_div (ea : EV K ta σ G ia) (eb : EV K tb σ G ib) : EV K (tOp (rI CDiv fun i j => .int (i / j)) ta tb) σ G (ia.bind fun a => ib.bind fun b => divO a b) :=
  ev_bin (fun s ra rb e Q k => by cases ra; cases rb; obtain ⟨h, rfl⟩ := ite_some e; exact ⟨_, _, rfl, rfl, h, k _ _ _ (.refl s) rfl⟩) ea eb
theorem ev_pow (ea : EV K ta σ G ia) (eb : EV K tb σ G ib) : EV K (tOp (rI CPow fun i j => .int (i ^ j.toNat)) ta tb) σ G (ia.bind fun a => ib.bind fun b => powO a b) :=
  ev_bin (fun s ra rb e Q k => by cases ra; cases rb; obtain ⟨h, rfl⟩ := ite_some e; exact ⟨_, _, rfl, rfl, h, k _ _ _ (.refl s) rfl⟩) ea eb
theorem ev_neg (ea : EV K ta σ G ia) : EV K (tUn (rU fun i => .int (-i)) ta) σ G (ia.bind fun a => some (-a)) :=
  ev_un (fun s ra e Q k => by cases ra; cases e; exact ⟨_, rfl, k _ _ _ (.refl s) rfl⟩) ea
theorem ev_ord {p : Int → Int → Bool} {q : List Nat → List Nat → Bool} (ea : EV K ta σ G ia) (eb : EV K tb σ G ib) : EV K (tOp (rOrd p q) ta tb) σ G (ia.bind fun a => ib.bind fun b => some (p a b)) :=
  ev_bin (fun s ra rb e Q k => by cases ra; cases rb; cases e; exact k _ _ _ (.refl s) rfl) ea eb
theorem ev_eqI (ea : EV K ta σ G ia) (eb : EV K tb σ G ib) : EV K (tOp rEq ta tb) σ G (ia.bind fun a => ib.bind fun b => some (decide (a = b))) :=
  ev_bin (fun s ra rb e Q k => by cases ra; cases rb; cases e; exact ⟨rfl, k _ _ _ (.refl s) (by show V.bl _ = V.bl _; congr 1; simp)⟩) ea eb
theorem ev_neI (ea : EV K ta σ G ia) (eb : EV K tb σ G ib) : EV K (tOp rNe ta tb) σ G (ia.bind fun a => ib.bind fun b => some (!decide (a = b))) :=
  ev_bin (fun s ra rb e Q k => by cases ra; cases rb; cases e; exact ⟨rfl, k _ _ _ (.refl s) (by show V.bl _ = V.bl _; congr 1; simp)⟩) ea eb
end
section
variable {ba bb : Option Bool}
theorem ev_eqB (ea : EV K ta σ G ba) (eb : EV K tb σ G bb) : EV K (tOp rEq ta tb) σ G (ba.bind fun a => bb.bind fun b => some (decide (a = b))) :=
  ev_bin (fun s ra rb e Q k => by cases ra; cases rb; cases e; exact ⟨rfl, k _ _ _ (.refl s) (by show V.bl _ = V.bl _; congr 1; simp)⟩) ea eb
theorem ev_neB (ea : EV K ta σ G ba) (eb : EV K tb σ G bb) : EV K (tOp rNe ta tb) σ G (ba.bind fun a => bb.bind fun b => some (!decide (a = b))) :=
  ev_bin (fun s ra rb e Q k => by cases ra; cases rb; cases e; exact ⟨rfl, k _ _ _ (.refl s) (by show V.bl _ = V.bl _; congr 1; simp)⟩) ea eb
theorem ev_not (ea : EV K ta σ G ba) : EV K (tNotV ta) σ G (ba.bind fun a => some (!a)) := by
  intro G1 s1 c hc H sH Q k
  obtain ⟨a, ha, hc⟩ := Option.bind_eq_some_iff.mp hc
  cases hc
  refine ea G1 s1 a ha H sH _ fun v G2 H2 x2 r2 => ?_
  cases r2
  exact ⟨_, rfl, k _ _ _ x2 rfl⟩
theorem ev_and (ea : EV K ta σ G ba) (eb : EV K tb σ G bb) : EV K (tAndV ta tb) σ G (ba.bind fun a => cond a bb (some false)) := by
  intro G1 s1 c hc H sH Q k
  obtain ⟨a, ha, hc⟩ := Option.bind_eq_some_iff.mp hc
  refine ea G1 s1 a ha H sH _ fun v G2 H2 x2 r2 => ?_
  cases r2
  refine ⟨_, rfl, ?_⟩
  cases a with
  | false => cases hc; exact iteF (k _ _ _ x2 rfl)
  | true => exact iteT (eb G2 (s1.trans x2.gg) c hc H2 x2.gh _ fun u G3 H3 x3 r3 => k _ _ _ (x2.trans x3) r3)
theorem ev_or (ea : EV K ta σ G ba) (eb : EV K tb σ G bb) : EV K (tOrV ta tb) σ G (ba.bind fun a => cond a (some true) bb) := by
  intro G1 s1 c hc H sH Q k
  obtain ⟨a, ha, hc⟩ := Option.bind_eq_some_iff.mp hc
  refine ea G1 s1 a ha H sH _ fun v G2 H2 x2 r2 => ?_
  cases r2
  refine ⟨_, rfl, ?_⟩
  cases a with
  | true => cases hc; exact iteT (k _ _ _ x2 rfl)
  | false => exact iteF (eb G2 (s1.trans x2.gg) c hc H2 x2.gh _ fun u G3 H3 x3 r3 => k _ _ _ (x2.trans x3) r3)
theorem tv_test (ea : EV K ta σ G ba) : TV (tTest ta) σ G ba := by
  intro G1 s1 c hc H sH Q k
  refine ea G1 s1 c hc H sH _ fun v G2 H2 x2 r2 => ?_
  cases r2
  exact ⟨_, rfl, k _ _ x2⟩
theorem tv_not {t : TT} (ea : TV t σ G ba) : TV (tNot t) σ G (ba.bind fun a => some (!a)) := by
  intro G1 s1 c hc H sH Q k
  obtain ⟨a, ha, hc⟩ := Option.bind_eq_some_iff.mp hc
  cases hc
  exact ea G1 s1 a ha H sH _ fun G2 H2 x2 => k _ _ x2
theorem tv_and {t u : TT} (ea : TV t σ G ba) (eb : TV u σ G bb) : TV (tAnd t u) σ G (ba.bind fun a => cond a bb (some false)) := by
  intro G1 s1 c hc H sH Q k
  obtain ⟨a, ha, hc⟩ := Option.bind_eq_some_iff.mp hc
  refine ea G1 s1 a ha H sH _ fun G2 H2 x2 => ?_
  cases a with
  | false => cases hc; exact iteF (k _ _ x2)
  | true => exact iteT (eb G2 (s1.trans x2.gg) c hc H2 x2.gh _ fun G3 H3 x3 => k _ _ (x2.trans x3))
theorem tv_or {t u : TT} (ea : TV t σ G ba) (eb : TV u σ G bb) : TV (tOr t u) σ G (ba.bind fun a => cond a (some true) bb) := by
  intro G1 s1 c hc H sH Q k
  obtain ⟨a, ha, hc⟩ := Option.bind_eq_some_iff.mp hc
  refine ea G1 s1 a ha H sH _ fun G2 H2 x2 => ?_
  cases a with
  | true => cases hc; exact iteT (k _ _ x2)
  | false => exact iteF (eb G2 (s1.trans x2.gg) c hc H2 x2.gh _ fun G3 H3 x3 => k _ _ (x2.trans x3))
/-- a truth, a number, a text, a list as a test -/
theorem tv_tru {f : α → Bool} (h : ∀ {G : Hp} {v : V} {a : α}, Rp.rel K G v a → TruV K v G (f a)) (mn : ∀ {G H : Hp} {v : V} {k : Bool}, Same G H → TruV K v G k → TruV K v H k) (ea : EV K ta σ G ma) :
    TV (fun σ H Q => ta σ H fun x H' => ∃ k, TruV K x H' k ∧ Q k H') σ G (ma.bind fun a => some (f a)) := by
  intro G1 s1 c hc H sH Q k
  obtain ⟨a, ha, hc⟩ := Option.bind_eq_some_iff.mp hc
  cases hc
  refine ea G1 s1 a ha H sH _ fun v G2 H2 x2 r2 => ?_
  exact ⟨_, mn x2.gh (h r2), k _ _ x2⟩
end
end
end
end L2

set_option Elab.async false
set_option linter.all false
set_option maxRecDepth 100000
set_option maxHeartbeats 4000000
namespace L2
open PySem PySem.Spec PyProof.Rows
section
variable {K : PySem.W.Frag} {σ : St} {G : Hp} {α β γ δ : Type} [Rp α] [Rp β] [Rp γ] [Rp δ] {ta tb tc td : TE} {ma : Option α} {mb : Option β} {mc : Option γ} {md : Option δ}

section
variable {sa sb : Option Str} {ia ib : Option Int}
def catS (a b : Str) : Option Str := if a.length + b.length ≤ sizeLine then some (a ++ b) else none
theorem ev_catS (ea : EV K ta σ G sa) (eb : EV K tb σ G sb) : EV K (tOp (rPlus K) ta tb) σ G (sa.bind fun a => sb.bind fun b => catS a b) :=
  ev_bin (fun s ra rb e Q k => by
    obtain ⟨rfl, z1⟩ := ra; obtain ⟨rfl, z2⟩ := rb; obtain ⟨h, rfl⟩ := ite_some e
    exact ⟨h, k _ _ _ (.refl s) ⟨rfl, by rw [len_app]; exact h⟩⟩) ea eb
theorem ev_eqS (ea : EV K ta σ G sa) (eb : EV K tb σ G sb) : EV K (tOp rEq ta tb) σ G (sa.bind fun a => sb.bind fun b => some (decide (a = b))) :=
  ev_bin (fun s ra rb e Q k => by obtain ⟨rfl, z1⟩ := ra; obtain ⟨rfl, z2⟩ := rb; cases e; exact ⟨rfl, k _ _ _ (.refl s) (by show V.bl _ = V.bl _; congr 1; simp)⟩) ea eb
/-- a text in a text -/
def inS (a b : Str) : Bool := !(Builtin.Str.occurrences b a 0 b.length 1).isEmpty
theorem ev_inS (ea : EV K ta σ G sa) (eb : EV K tb σ G sb) : EV K (tOp (fun x y H Q => ∃ i j, x = .str i ∧ y = .str j ∧ Q (.bl (!(Builtin.Str.occurrences j i 0 j.length 1).isEmpty)) H) ta tb) σ G (sa.bind fun a => sb.bind fun b => some (inS a b)) :=
  ev_bin (fun s ra rb e Q k => by obtain ⟨rfl, z1⟩ := ra; obtain ⟨rfl, z2⟩ := rb; cases e; exact ⟨_, _, rfl, rfl, k _ _ _ (.refl s) rfl⟩) ea eb
theorem ev_atS (ea : EV K ta σ G sa) (eb : EV K tb σ G ib) : EV K (tOp (rAt K) ta tb) σ G (sa.bind fun a => ib.bind fun i => (atI a.cps.toList i).bind fun c => some (⟨#[c]⟩ : Str)) :=
  ev_bin (fun s ra rb e Q k => by
    obtain ⟨rfl, z1⟩ := ra; cases rb
    obtain ⟨c, hc, e⟩ := Option.bind_eq_some_iff.mp e
    cases e
    exact ⟨z1, c, hc, k _ _ _ (.refl s) ⟨rfl, by show 1 ≤ sizeLine; decide⟩⟩) ea eb
end
theorem paired_atI {R : V → α → Prop} {xs : List V} {as : List α} {i : Int} {a : α} (p : Paired R xs as) (h : atI as i = some a) : ∃ v, atI xs i = some v ∧ R v a := by
  have hl := Paired.length p
  unfold atI at h ⊢
  obtain ⟨j, hj, h⟩ := Option.bind_eq_some_iff.mp h
  rw [hl, hj]
  have hlt : j < xs.length := by
    have := (List.getElem?_eq_some_iff.mp h).1
    omega
  exact ⟨xs[j], List.getElem?_eq_getElem hlt, Paired.at' p (List.getElem?_eq_getElem hlt) h⟩
theorem Paired.app {α β : Type} {F : α → β → Prop} : ∀ {l1 l2 : List α} {m1 m2 : List β}, Paired F l1 m1 → Paired F l2 m2 → Paired F (l1 ++ l2) (m1 ++ m2)
  | _, _, _, _, .nil, h => h
  | _, _, _, _, .cons r t, h => .cons r (Paired.app t h)
theorem Paired.tk {α β : Type} {F : α → β → Prop} : ∀ (n : Nat) {l : List α} {m : List β}, Paired F l m → Paired F (l.take n) (m.take n)
  | 0, _, _, _ => by simpa using .nil
  | n + 1, _, _, .nil => by simpa using .nil
  | n + 1, _, _, .cons r t => .cons r (Paired.tk n t)
theorem Paired.dp {α β : Type} {F : α → β → Prop} : ∀ (n : Nat) {l : List α} {m : List β}, Paired F l m → Paired F (l.drop n) (m.drop n)
  | 0, _, _, h => h
  | n + 1, _, _, .nil => by simpa using .nil
  | n + 1, _, _, .cons r t => Paired.dp n t
theorem Paired.rep {α β : Type} {F : α → β → Prop} {l : List α} {m : List β} (h : Paired F l m) : ∀ n : Nat, Paired F (List.replicate n l).flatten (List.replicate n m).flatten
  | 0 => .nil
  | n + 1 => by
    rw [List.replicate_succ, List.replicate_succ, List.flatten_cons, List.flatten_cons]
    exact Paired.app h (Paired.rep h n)
theorem Paired.st {α β : Type} {F : α → β → Prop} {a : α} {b : β} (r : F a b) : ∀ {l : List α} {m : List β} (j : Nat), Paired F l m → Paired F (l.set j a) (m.set j b)
  | _, _, _, .nil => .nil
  | _, _, 0, .cons _ t => .cons r t
  | _, _, j + 1, .cons q t => .cons q (Paired.st r j t)
section
variable {la lb : Option (List α)} {ia ib : Option Int}
theorem ev_at (ea : EV K ta σ G la) (eb : EV K tb σ G ib) : EV K (tOp (rAt K) ta tb) σ G (la.bind fun a => ib.bind fun i => atI a i) :=
  ev_bin (fun s ra rb e Q k => by
    obtain ⟨l, xs, rfl, h, z, p⟩ := ra; cases rb
    obtain ⟨v, hv, r⟩ := paired_atI p e
    exact .inl ⟨xs, v, .inl (s.rd h), hv, k _ _ _ (.refl s) r⟩) ea eb
theorem ev_atT {pa : Option (Tp α)} (ea : EV K ta σ G pa) (eb : EV K tb σ G ib) : EV K (tOp (rAt K) ta tb) σ G (pa.bind fun a => ib.bind fun i => atI a.l i) :=
  ev_bin (fun s ra rb e Q k => by
    obtain ⟨l, xs, rfl, h, z, p⟩ := ra; cases rb
    obtain ⟨v, hv, r⟩ := paired_atI p e
    exact .inr ⟨xs, v, s.tup h, hv, k _ _ _ (.refl s) r⟩) ea eb
/-- what a new list's rule asks and gives -/
theorem fv_of {H : Hp} {Q : VK} {as : List α} {G1 : Hp} (s : Same G1 H) {vs : List V} (hz : vs.length ≤ sizeLine) (hp : Paired (Rp.rel K G1) vs as)
    (k : ∀ p vs G2 H2, Ext G1 H G2 H2 → H p = none → G2 p = none → H2 p = some (.lst vs) → vs.length ≤ sizeLine → Paired (Rp.rel K G2) vs as → Q (.ref p) H2) : ∀ p, H p = none → Q (.ref p) (upd H p (.lst vs)) :=
  fun p h => k p vs G1 _ (.own s h) h (s.free h) upd_same hz hp
theorem FV.mono {H H' G1 G2 : Hp} {as : List α} {Q : VK} (x : Ext G1 H G2 H')
    (k : ∀ p vs G3 H3, Ext G1 H G3 H3 → H p = none → G3 p = none → H3 p = some (.lst vs) → vs.length ≤ sizeLine → Paired (Rp.rel K G3) vs as → Q (.ref p) H3) :
    ∀ p vs G3 H3, Ext G2 H' G3 H3 → H' p = none → G3 p = none → H3 p = some (.lst vs) → vs.length ≤ sizeLine → Paired (Rp.rel K G3) vs as → Q (.ref p) H3 :=
  fun p vs G3 H3 y h0 => k p vs G3 H3 (x.trans y) (x.hh.free h0)
def catL {α : Type} (a b : List α) : Option (List α) := if a.length + b.length ≤ sizeLine then some (a ++ b) else none
def cutA {α : Type} (xs : List α) (lo hi : Option Int) : List α := (xs.drop (HT.sIx xs.length 0 lo)).take (HT.sIx xs.length xs.length hi - HT.sIx xs.length 0 lo)
theorem Paired.cut {α : Type} {R : V → α → Prop} {xs : List V} {as : List α} (p : Paired R xs as) (lo hi : Option Int) : Paired R (cutV xs lo hi) (cutA as lo hi) := by
  unfold cutV cutA
  rw [Paired.length p]
  exact Paired.tk _ (Paired.dp _ p)
section
variable {t1 t2 : TO} {m1 m2 : Option (Option Int)}
theorem ov_none : OV tNoPart σ G (some none) := fun G1 s1 a ha H sH Q k => by
  cases ha
  exact k _ _ (.refl sH)
theorem ov_some (ea : EV K ta σ G ia) : OV (tPart ta) σ G (ia.bind fun i => some (some i)) := by
  intro G1 s1 c hc H sH Q k
  obtain ⟨a, ha, hc⟩ := Option.bind_eq_some_iff.mp hc
  cases hc
  refine ea G1 s1 a ha H sH _ fun v G2 H2 x2 r2 => ?_
  cases r2
  exact ⟨_, rfl, k _ _ x2⟩
end
end
section
variable {t : TA} {n : Nat} {ml : Option (List α)}
theorem lv_nil : LV K tNil σ G 0 (some ([] : List α)) := fun G1 s1 a ha H sH Q k => by
  cases ha
  exact k _ _ _ (.refl sH) rfl .nil
theorem lv_cons (ea : EV K ta σ G ma) (er : LV K t σ G n ml) : LV K (tCons ta t) σ G (n + 1) (ma.bind fun a => ml.bind fun r => some (a :: r)) := by
  intro G1 s1 c hc H sH Q k
  obtain ⟨a, ha, hc⟩ := Option.bind_eq_some_iff.mp hc
  obtain ⟨r, hr, hc⟩ := Option.bind_eq_some_iff.mp hc
  cases hc
  refine ea G1 s1 a ha H sH _ fun v G2 H2 x2 r2 => ?_
  refine er G2 (s1.trans x2.gg) r hr H2 x2.gh _ fun vs G3 H3 x3 hl hp => ?_
  exact k _ _ _ (x2.trans x3) (by rw [List.length_cons, hl]) (.cons (Rp.mono x3.gg r2) hp)
theorem fv_lst (e : LV K t σ G n ml) (hn : n ≤ sizeLine := by decide) : FV K (tLst t) σ G ml := by
  intro G1 s1 c hc H sH Q k
  refine e G1 s1 c hc H sH _ fun vs G2 H2 x2 hl hp => ?_
  exact ⟨by omega, fv_of x2.gh (by omega) hp (FV.mono x2 k)⟩
theorem ev_tupL (e : LV K t σ G n ml) (hn : n ≤ sizeLine := by decide) : EV K (tTup t) σ G (ml.bind fun l => some (Tp.mk l)) := by
  intro G1 s1 c hc H sH Q k
  obtain ⟨l, hl, hc⟩ := Option.bind_eq_some_iff.mp hc
  cases hc
  refine e G1 s1 l hl H sH _ fun vs G2 H2 x2 hl hp => ⟨by omega, fun p h => ?_⟩
  exact k _ _ _ (x2.trans (.new x2.gh h)) ⟨p, vs, rfl, SqT.of upd_same, by omega, Paired.imp' (fun _ _ r => Rp.mono (Same.new (x2.gh.free h)) r) hp⟩
end
section
variable {t : TA} {A B : Type} [RpA A] [RpA B] {mA : Option A}
/-- a def that tells what its model m tells -/
def spM (K : PySem.W.Frag) {A : Type} {ρ : Type} [RpA A] [Rp ρ] (m : A → Option ρ) : Sp := fun vs H Q _ =>
  ∃ G a r, Same G H ∧ RpA.rel K G vs a ∧ m a = some r ∧ ∀ v G2 H2, Ext G H G2 H2 → Rp.rel K G2 v r → Q v H2
theorem spM_len {A : Type} {ρ : Type} [RpA A] [Rp ρ] {m : A → Option ρ} {vs : List V} {H : Hp} {Q : VK} {E : XK} (h : spM K m vs H Q E) : vs.length = RpA.n A := by
  obtain ⟨G, a, r, _, h, _⟩ := h
  exact RpA.len h
theorem ev_len {la : Option (List α)} (ea : EV K ta σ G la) : EV K (tCB (rLen K) (tCons ta tNil)) σ G (la.bind fun a => some (a.length : Int)) := by
  intro G1 s1 c hc H sH Q k
  obtain ⟨a, ha, hc⟩ := Option.bind_eq_some_iff.mp hc
  cases hc
  refine ea G1 s1 a ha H sH _ fun v G2 H2 x2 r2 => ?_
  obtain ⟨l, xs, rfl, h, z, p⟩ := r2
  exact ⟨xs, .inl (.inl (x2.gh.rd h)), by rw [Paired.length p]; exact k _ _ _ x2 rfl⟩
theorem ev_lenT {la : Option (Tp α)} (ea : EV K ta σ G la) : EV K (tCB (rLen K) (tCons ta tNil)) σ G (la.bind fun a => some (a.l.length : Int)) := by
  intro G1 s1 c hc H sH Q k
  obtain ⟨a, ha, hc⟩ := Option.bind_eq_some_iff.mp hc
  cases hc
  refine ea G1 s1 a ha H sH _ fun v G2 H2 x2 r2 => ?_
  obtain ⟨l, xs, rfl, h, z, p⟩ := r2
  exact ⟨xs, .inr (x2.gh.tup h), by rw [Paired.length p]; exact k _ _ _ x2 rfl⟩
theorem fv_list {la : Option (List α)} (ea : EV K ta σ G la) : FV K (tCB (fun xs H Q => ∃ p ys, xs = [.ref p] ∧ (SqL K H p ys ∨ SqT K H p ys) ∧ ∀ l, H l = none → Q (.ref l) (upd H l (.lst ys))) (tCons ta tNil)) σ G la := by
  intro G1 s1 a ha H sH Q k
  refine ea G1 s1 a ha H sH _ fun v G2 H2 x2 r2 => ?_
  obtain ⟨l, xs, rfl, h, z, p⟩ := r2
  exact ⟨l, xs, rfl, .inl (.inl (x2.gh.rd h)), fv_of x2.gh z p (FV.mono x2 k)⟩
end
inductive TyS (K : PySem.W.Frag) (H : Hp) : V → String → Prop where
  | non : TyS K H .non "NoneType"
  | bl (x : Bool) : TyS K H (.bl x) "bool"
  | int (i : Int) : TyS K H (.int i) "int"
  | str (x : Str) : TyS K H (.str x) "str"
  | lst {a : Addr} {xs : List V} (e : SqL K H a xs) : TyS K H (.ref a) "list"
  | tup {a : Addr} {xs : List V} (e : SqT K H a xs) : TyS K H (.ref a) "tuple"
  | dK {a : Addr} {kvs : List (Key × V)} (e : Rd H a (.dK kvs)) : TyS K H (.ref a) "dict"
  | dT {a : Addr} {kvs : List (List Key × V)} (e : Rd H a (.dT kvs)) : TyS K H (.ref a) "dict"
def rInst (K : PySem.W.Frag) : List V → Hp → VK → Prop := fun vs H Q => ∃ x t T b, vs = [x, .ty T] ∧ TyS K H x t ∧ kitC t T = some b ∧ Q (.bl b) H
theorem call_inst {X : Cx} : CallR X (.builtin "isinstance") (rInst X.K) := by
  intro pins s σ H vs us Q I r h
  obtain ⟨x, t, T, b, rfl, ty, e, q⟩ := h
  obtain ⟨u, w', rfl, rx, r2⟩ := vals2 r
  obtain rfl : w' = Value.type T := r2
  have e := kit_of (K := X.K) e
  have fin : ∀ tk, EP X pins σ Q (.bool b) { s with toks := tk } := fun tk => ⟨.bl b, H, I.tok tk, rfl, q⟩
  cases ty with
  | non => cases (show u = Value.none from rx); exact PySem.W.kia_one PySem.W.kitx_none I.kIn True.intro e (fun z => nomatch z) fin
  | bl y => cases (show u = Value.bool y from rx); exact PySem.W.kia_one PySem.W.kitx_bool I.kIn True.intro e (fun z => nomatch z) fin
  | int i => obtain ⟨t, q'⟩ := (show ∃ t, u = Value.int i t from rx); cases q'; exact PySem.W.kia_one PySem.W.kitx_int I.kIn True.intro e (fun z => nomatch z) fin
  | str y => obtain ⟨t, q'⟩ := (show ∃ t, u = Value.str y t from rx); cases q'; exact PySem.W.kia_one PySem.W.kitx_str I.kIn True.intro e (fun z => nomatch z) fin
  | @lst a xs ea =>
    cases (show u = Value.ref a from rx)
    obtain ⟨its, _, pl, _⟩ := I.list ea
    obtain ⟨o, n, h1, h2, _⟩ := pl
    exact PySem.W.kia_one PySem.W.kitx_list I.kIn ⟨o, h1, h2⟩ e (fun z => nomatch z) fin
  | @tup a xs ea =>
    cases (show u = Value.ref a from rx)
    obtain ⟨its, _, pl, _⟩ := I.tuple ea
    obtain ⟨o, h1, h2, _⟩ := pl
    exact PySem.W.kia_one PySem.W.kitx_tuple I.kIn ⟨o, h1, h2⟩ e (fun z => nomatch z) fin
  | @dK a kvs ea =>
    cases (show u = Value.ref a from rx)
    obtain ⟨_, _, vs, _, p⟩ := ea.ok I.hok
    obtain ⟨o, es, ep, h1, h2, _⟩ := p
    exact PySem.W.kia_one PySem.W.kitx_dict I.kIn ⟨o, h1, h2.1⟩ e (fun z => nomatch z) fin
  | @dT a kvs ea =>
    cases (show u = Value.ref a from rx)
    obtain ⟨_, _, xs, _, o, es, ep, h1, h2, _⟩ := ea.ok I.hok
    exact PySem.W.kia_one PySem.W.kitx_dict I.kIn ⟨o, h1, h2.1⟩ e (fun z => nomatch z) fin
class RpT (α : Type) [Rp α] where
  tn : String
  ty : ∀ {K : PySem.W.Frag} {H : Hp} {v : V} {a : α}, Rp.rel K H v a → TyS K H v tn
instance rtInt : RpT Int := ⟨"int", fun h => by cases h; exact .int _⟩
instance rtBool : RpT Bool := ⟨"bool", fun h => by cases h; exact .bl _⟩
instance rtStr : RpT Str := ⟨"str", fun h => by obtain ⟨rfl, _⟩ := h; exact .str _⟩
instance rtUnit : RpT Unit := ⟨"NoneType", fun h => by cases h; exact .non⟩
instance rtList : RpT (List α) := ⟨"list", fun h => by obtain ⟨l, xs, rfl, h, _⟩ := h; exact .lst (.inl h)⟩
instance rtPair : RpT (α × β) := ⟨"tuple", fun h => by obtain ⟨l, x, y, rfl, h, _⟩ := h; exact .tup h⟩
instance rtT1 : RpT (T1 α) := ⟨"tuple", fun h => by obtain ⟨l, x, rfl, h, _⟩ := h; exact .tup h⟩
instance rtT3 : RpT (T3 α β γ) := ⟨"tuple", fun h => by obtain ⟨l, x, y, z, rfl, h, _⟩ := h; exact .tup h⟩
instance rtT4 : RpT (T4 α β γ δ) := ⟨"tuple", fun h => by obtain ⟨l, x, y, z, w, rfl, h, _⟩ := h; exact .tup h⟩
instance rtTp : RpT (Tp α) := ⟨"tuple", fun h => by obtain ⟨l, xs, rfl, h, _⟩ := h; exact .tup h⟩
theorem TyS.mono {H H' : Hp} {v : V} {t : String} (s : Same H H') (h : TyS K H v t) : TyS K H' v t := by
  cases h with
  | non => exact .non
  | bl => exact .bl _
  | int => exact .int _
  | str => exact .str _
  | lst e => exact .lst (s.seq e)
  | tup e => exact .tup (s.tup e)
  | dK e => exact .dK (s.rd e)
  | dT e => exact .dT (s.rd e)
/-- isinstance(x, T), x of a known kind -/
theorem ev_inst [RpT α] {T : String} {b : Bool} (h : kitC (RpT.tn α) T = some b) (ea : EV K ta σ G ma) : EV K (tCB (rInst K) (tCons ta (tCons (tC (.ty T)) tNil))) σ G (ma.bind fun _ => some b) := by
  intro G1 s1 c hc H sH Q k
  obtain ⟨a, ha, hc⟩ := Option.bind_eq_some_iff.mp hc
  cases hc
  refine ea G1 s1 a ha H sH _ fun v G2 H2 x2 r2 => ?_
  exact ⟨_, _, _, _, rfl, (RpT.ty r2).mono x2.gh, h, k _ _ _ x2 rfl⟩
theorem EqTy.imp {k : Nat} {α : Type} [DecidableEq α] {R R' : Hp → V → α → Prop} (E : EqTy K k R) (h : ∀ H v a, R' H v a → R H v a) : EqTy K k R' :=
  ⟨fun hK I a b => E.fn hK I (h _ _ _ a) (h _ _ _ b), fun A hK I hu r1 r2 a b => E.eq A hK I hu r1 r2 (h _ _ _ a) (h _ _ _ b), fun A hK I hu r1 r2 a b => E.rc A hK I hu r1 r2 (h _ _ _ a) (h _ _ _ b)⟩
class RpE (α : Type) [Rp α] [DecidableEq α] where
  k : Nat
  ty : ∀ K : PySem.W.Frag, EqTy K k (Rp.rel (α := α) K)
instance reInt : RpE Int := ⟨0, fun _ => eqInt⟩
instance reBool : RpE Bool := ⟨0, fun _ => eqBl⟩
instance reStr : RpE Str := ⟨0, fun _ => eqStr.imp fun _ _ _ h => h.1⟩
instance reList {α : Type} [Rp α] [DecidableEq α] [RpE α] : RpE (List α) := ⟨RpE.k α + 1, fun K => (eqLst (RpE.ty K)).imp fun _ _ _ ⟨l, xs, e, h, _, p⟩ => ⟨l, xs, e, .inl h, p⟩⟩
theorem EqTy.up {k j : Nat} {α : Type} [DecidableEq α] {R : Hp → V → α → Prop} (E : EqTy K k R) (h : k ≤ j) : EqTy K j R :=
  ⟨fun hK I a b => E.fn hK I a b, fun A hK I hu r1 r2 a b => E.eq A hK I (by omega) r1 r2 a b, fun A hK I hu r1 r2 a b => E.rc A hK I (by omega) r1 r2 a b⟩
instance rePair {α β : Type} [Rp α] [DecidableEq α] [RpE α] [Rp β] [DecidableEq β] [RpE β] : RpE (α × β) :=
  ⟨max (RpE.k α) (RpE.k β) + 1, fun K => (eqPair ((RpE.ty (α := α) K).up (Nat.le_max_left _ _)) ((RpE.ty (α := β) K).up (Nat.le_max_right _ _)))⟩
section
variable {α : Type} [Rp α] [DecidableEq α] {m1 m2 : Option α}
def rEqD (K : PySem.W.Frag) (α : Type) [Rp α] [DecidableEq α] : R2 := fun x y H Q => ∃ a b : α, Rp.rel K H x a ∧ Rp.rel K H y b ∧ Q (.bl (decide (a = b))) H
def rNeD (K : PySem.W.Frag) (α : Type) [Rp α] [DecidableEq α] : R2 := fun x y H Q => ∃ a b : α, Rp.rel K H x a ∧ Rp.rel K H y b ∧ Q (.bl (!decide (a = b))) H
theorem op_eqM {X : Cx} {j : Nat} (α : Type) [Rp α] [DecidableEq α] [RpE α] (hr : Room j X.A) (hk : RpE.k α ≤ 10) : OpR X (compareOp .Eq) (rEqD X.K α) := op_eqD (RpE.ty X.K) hr hk
theorem op_neM {X : Cx} {j : Nat} (α : Type) [Rp α] [DecidableEq α] [RpE α] (hr : Room j X.A) (hk : RpE.k α ≤ 10) : OpR X (compareOp .NotEq) (rNeD X.K α) := op_neD (RpE.ty X.K) hr hk
theorem ev_eq (ea : EV K ta σ G m1) (eb : EV K tb σ G m2) : EV K (tOp (rEqD K α) ta tb) σ G (m1.bind fun a => m2.bind fun b => some (decide (a = b))) :=
  ev_bin (fun s ra rb e Q k => by cases e; exact ⟨_, _, Rp.mono s ra, Rp.mono s rb, k _ _ _ (.refl s) rfl⟩) ea eb
theorem ev_ne (ea : EV K ta σ G m1) (eb : EV K tb σ G m2) : EV K (tOp (rNeD K α) ta tb) σ G (m1.bind fun a => m2.bind fun b => some (!decide (a = b))) :=
  ev_bin (fun s ra rb e Q k => by cases e; exact ⟨_, _, Rp.mono s ra, Rp.mono s rb, k _ _ _ (.refl s) rfl⟩) ea eb
end
end
end L2

set_option Elab.async false
set_option linter.all false
set_option maxRecDepth 100000
set_option maxHeartbeats 4000000
namespace L2
open PySem PySem.Spec PyProof.Rows

inductive Fl (S ρ : Type) where
  | nx (s : S)
  | bk (s : S)
  | rt (r : ρ)
def forO {α S ρ : Type} (f : α → S → Option (Fl S ρ)) : List α → S → Option (Fl S ρ)
  | [], s => some (.nx s)
  | a :: as, s => (f a s).bind fun fl => match fl with
    | .nx s' => forO f as s'
    | .bk s' => some (.nx s')
    | .rt r => some (.rt r)
def whileN {S ρ : Type} (c : S → Option Bool) (f : S → Option (Fl S ρ)) : Nat → S → Option (Fl S ρ)
  | 0, _ => none
  | n + 1, s => (c s).bind fun b => cond b ((f s).bind fun fl => match fl with
    | .nx s' => whileN c f n s'
    | .bk s' => some (.nx s')
    | .rt r => some (.rt r)) (some (.nx s))
def fuelW : Nat := 16777216
def compO {α β : Type} (fc : α → Option Bool) (fe : α → Option β) : List α → Option (List β)
  | [] => some []
  | a :: r => (fc a).bind fun b => cond b ((fe a).bind fun y => (compO fc fe r).bind fun ys => some (y :: ys)) (compO fc fe r)
def mapO {α β : Type} (fe : α → Option β) : List α → Option (List β)
  | [] => some []
  | a :: r => (fe a).bind fun y => (mapO fe r).bind fun ys => some (y :: ys)
theorem compO_true {α β : Type} (fe : α → Option β) : ∀ as, compO (fun _ => some true) fe as = mapO fe as
  | [] => rfl
  | a :: r => by
    show ((fe a).bind fun y => (compO (fun _ => some true) fe r).bind fun ys => some (y :: ys)) = _
    rw [compO_true fe r]
    rfl
def rngO (lo hi : Int) : Option (List Int) := if (-(2 ^ 62) ≤ lo ∧ lo < 2 ^ 62 ∧ -(2 ^ 62) ≤ hi ∧ hi < 2 ^ 62) ∧ (hi - lo).toNat ≤ sizeLine then some ((List.range (hi - lo).toNat).map fun (i : Nat) => lo + (i : Int)) else none

section
variable {K : PySem.W.Frag} {σ : St} {G : Hp} {α β γ δ : Type} [Rp α] [Rp β] [Rp γ] [Rp δ] {ta tb tc td : TE} {ma : Option α} {mb : Option β} {mc : Option γ} {md : Option δ}
def IW (K : PySem.W.Frag) {α : Type} [Rp α] (wi : TI) (σ : St) (G : Hp) (m : Option (List α)) : Prop :=
  ∀ G1, Same G G1 → ∀ a, m = some a → ∀ H, Same G1 H → ∀ R : It → Hp → Prop, (∀ J vs G2 H2, Ext G1 H G2 H2 → Yields J G2 vs → vs.length ≤ sizeLine → Paired (Rp.rel K G2) vs a → R J H2) → wi σ H R
theorem yields_tup {a : Addr} {xs : List V} {H : Hp} (h : SqT K H a xs) : Yields (Itt K a) H xs where
  go := fun i H' s hi => ⟨xs, xs[i], s.tup h, by simp [hi]⟩
  stop := fun H' s => ⟨xs, s.tup h, Nat.le_refl _⟩
  yld := fun i H' v H'' s _ y => ⟨y.1, y.2 xs (s.tup h)⟩
theorem iw_list {la : Option (List α)} (ea : EV K ta σ G la) : IW K (iAny K ta) σ G la := by
  intro G1 s1 a ha H sH R k
  refine ea G1 s1 a ha H sH _ fun v G2 H2 x2 r2 => ?_
  obtain ⟨l, xs, rfl, h, z, p⟩ := r2
  exact .inl ⟨⟨xs, .inl (x2.gh.rd h)⟩, k _ xs G2 H2 x2 (yields_list (.inl h)) z p⟩
theorem iw_tup {la : Option (Tp α)} (ea : EV K ta σ G la) : IW K (iAny K ta) σ G (la.bind fun a => some a.l) := by
  intro G1 s1 a ha H sH R k
  obtain ⟨b, hb, ha⟩ := Option.bind_eq_some_iff.mp ha
  cases ha
  refine ea G1 s1 b hb H sH _ fun v G2 H2 x2 r2 => ?_
  obtain ⟨l, xs, rfl, h, z, p⟩ := r2
  exact .inr ⟨⟨xs, x2.gh.tup h⟩, k _ xs G2 H2 x2 (yields_tup h) z p⟩
def signsO (x : Str) : List Str := x.cps.toList.map fun c => (⟨#[c]⟩ : Str)
theorem paired_signs (x : Str) (H : Hp) : Paired (Rp.rel K H) (signsV x) (signsO x) := by
  unfold signsV signsO
  induction x.cps.toList with
  | nil => exact .nil
  | cons c r ih => exact .cons ⟨rfl, by show 1 ≤ sizeLine; decide⟩ ih
theorem iw_str {sa : Option Str} (ea : EV K ta σ G sa) : IW K (iAny K ta) σ G (sa.bind fun a => some (signsO a)) := by
  intro G1 s1 a ha H sH R k
  obtain ⟨b, hb, ha⟩ := Option.bind_eq_some_iff.mp ha
  cases ha
  refine ea G1 s1 b hb H sH _ fun v G2 H2 x2 r2 => ?_
  obtain ⟨rfl, z⟩ := r2
  exact k _ (signsV b) G2 H2 x2 (yields_str b G2) (by unfold signsV; rw [List.length_map]; exact z) (paired_signs b G2)
theorem paired_ints (H : Hp) (f : Nat → Int) : ∀ l : List Nat, Paired (Rp.rel K H) (l.map fun i => V.int (f i)) (l.map fun i => f i)
  | [] => .nil
  | a :: r => .cons rfl (paired_ints H f r)
theorem iw_rng1 {ia : Option Int} (ea : EV K ta σ G ia) : IW K (iRng1 (tCons ta tNil)) σ G (ia.bind fun j => rngO 0 j) := by
  intro G1 s1 a ha H sH R k
  obtain ⟨j, hj, ha⟩ := Option.bind_eq_some_iff.mp ha
  obtain ⟨⟨hb, hz⟩, rfl⟩ := ite_some ha
  refine ea G1 s1 j hj H sH _ fun v G2 H2 x2 r2 => ?_
  cases r2
  refine ⟨j, rfl, hb.2.2.1, hb.2.2.2, ?_⟩
  have e : (j - 0).toNat = j.toNat := by omega
  rw [e] at hz k
  exact k (Itr 0 j.toNat) _ G2 H2 x2 (yields_range 0 j.toNat G2) (by rw [List.length_map, List.length_range]; exact hz) (paired_ints G2 (fun i => (0 : Int) + (i : Int)) _)
theorem tv_yes : TV tYes σ G (some true) := fun G1 s1 a ha H sH Q k => by
  cases ha
  exact k _ _ (.refl sH)
theorem Paired.getR {F : V → α → Prop} : ∀ {xs : List V} {as : List α} {i : Nat} {v : V}, Paired F xs as → xs[i]? = some v → ∃ a, as[i]? = some a ∧ F v a
  | _, _, _, _, .nil, e => by simp at e
  | _, _, 0, _, .cons r _, e => by simp at e; subst e; exact ⟨_, rfl, r⟩
  | _, _, i + 1, _, .cons _ t, e => Paired.getR (i := i) t (by simpa using e)
theorem fv_comp {cap : List Nat} {wi : TI} {tt : TT} {te : TE} {mi : Option (List α)} {fc : α → Option Bool} {fe : α → Option β} (ei : IW K wi σ G mi)
    (hb : ∀ (x : V) (a : α) (G1 : Hp), Same G G1 → Rp.rel K G1 x a → TV tt ((inner cap σ).set 0 (some x)) G1 (fc a) ∧ EV K te ((inner cap σ).set 0 (some x)) G1 (fe a)) :
    FV K (tComp cap wi tt te) σ G (mi.bind fun as => compO fc fe as) := by
  intro G1 s1 c hc H sH Q k
  obtain ⟨as, has, hc⟩ := Option.bind_eq_some_iff.mp hc
  refine ei G1 s1 as has H sH _ fun J vs Ga Ha xa Y hz pr p hp => ?_
  have hla := Paired.length pr
  refine ⟨fun i m ys H2 => m = vs.length - i ∧ i ≤ vs.length ∧ ∃ G2 bs cs, Ext Ga Ha G2 H2 ∧ G2 p = none ∧ H2 p = some (.lst ys) ∧ ys.length ≤ i ∧ Paired (Rp.rel K G2) ys bs ∧ compO fc fe (as.drop i) = some cs ∧ c = bs ++ cs,
    ⟨vs.length, by simp, Nat.zero_le _, Ga, [], c, .own xa.gh hp, xa.gh.free hp, upd_same, Nat.le_refl _, .nil, hc, rfl⟩, ?_⟩
  rintro i m ys H2 ⟨rfl, hi, G2, bs, cs, x2, hg, hh, hy, hpr, hcs, rfl⟩
  by_cases hlt : i < vs.length
  · refine .inr ⟨Y.go i _ (x2.gg.trans x2.gh) hlt, fun ys' H' => ∃ G2 bs' cs', Ext Ga Ha G2 H' ∧ G2 p = none ∧ H' p = some (.lst ys') ∧ ys'.length ≤ i + 1 ∧ Paired (Rp.rel K G2) ys' bs' ∧ compO fc fe (as.drop (i + 1)) = some cs' ∧ bs ++ cs = bs' ++ cs',
      fun ys' H' ⟨G3, bs', cs', h⟩ => ⟨vs.length - (i + 1), by omega, rfl, hlt, G3, bs', cs', h⟩, fun x H3 y => ?_⟩
    obtain ⟨rfl, hx⟩ := Y.yld i _ x H3 (x2.gg.trans x2.gh) hlt y
    obtain ⟨a, hai, ra⟩ := Paired.getR pr hx
    have hd : as.drop i = a :: as.drop (i + 1) := by
      obtain ⟨h1, h2⟩ := List.getElem?_eq_some_iff.mp hai
      rw [List.drop_eq_getElem_cons h1, h2]
    rw [hd] at hcs
    obtain ⟨b, hbb, hcs⟩ := Option.bind_eq_some_iff.mp hcs
    have B := hb x a G2 (s1.trans (xa.gg.trans x2.gg)) (Rp.mono x2.gg ra)
    refine B.1 G2 (.refl _) b hbb _ x2.gh _ fun G5 H5 x5 => ?_
    have hp5 : H5 p = some (.lst ys) := x5.hh _ _ hh
    have hg5 : G5 p = none := x5.no p hg (by rw [hh]; exact fun z => nomatch z)
    cases b with
    | false =>
      rw [if_neg Bool.false_ne_true]
      exact ⟨G5, bs, cs, x2.trans x5, hg5, hp5, by omega, Paired.imp' (fun _ _ r => Rp.mono x5.gg r) hpr, hcs, rfl⟩
    | true =>
      rw [if_pos rfl]
      obtain ⟨z, hze, hcs⟩ := Option.bind_eq_some_iff.mp hcs
      obtain ⟨cs', hcs', hcs⟩ := Option.bind_eq_some_iff.mp hcs
      cases hcs
      refine B.2 G5 x5.gg z hze H5 x5.gh _ fun v G6 H6 x6 r6 => ?_
      have hp6 : H6 p = some (.lst ys) := x6.hh _ _ hp5
      have hg6 : G6 p = none := x6.no p hg5 (by rw [hp5]; exact fun z => nomatch z)
      refine ⟨hp6, by omega, G6, bs ++ [z], cs', ((x2.trans x5).trans x6).put hp hg6, hg6, upd_same, ?_, Paired.app (Paired.imp' (fun _ _ r => Rp.mono (x5.trans x6).gg r) hpr) (.cons r6 .nil), hcs', by simp⟩
      rw [List.length_append, List.length_singleton]
      omega
  · have e : i = vs.length := by omega
    subst e
    have hd : as.drop vs.length = [] := List.drop_eq_nil_of_le (by omega)
    rw [hd] at hcs
    cases hcs
    refine .inl ⟨Y.stop _ (x2.gg.trans x2.gh), ?_⟩
    rw [List.append_nil] at k
    exact k p ys G2 H2 (xa.trans x2) (xa.hh.free hp) hg hh (by omega) hpr
theorem fv_map {cap : List Nat} {wi : TI} {te : TE} {mi : Option (List α)} {fe : α → Option β} (ei : IW K wi σ G mi)
    (hb : ∀ (x : V) (a : α) (G1 : Hp), Same G G1 → Rp.rel K G1 x a → EV K te ((inner cap σ).set 0 (some x)) G1 (fe a)) :
    FV K (tComp cap wi tYes te) σ G (mi.bind fun as => mapO fe as) := by
  have h := fv_comp (tt := tYes) (fc := fun _ => some true) ei fun x a G1 s r => ⟨tv_yes, hb x a G1 s r⟩
  have e : (fun as => compO (fun _ => some true) fe as) = fun as => mapO fe as := funext (compO_true fe)
  rw [e] at h
  exact h

def joinO (z : Str) (ys : List Str) : Option Str := if (ys.map (·.length)).sum + ys.length * z.length ≤ 16777216 then some (Txt.join z ys) else none
def repL {α : Type} (a : List α) (k : Int) : Option (List α) := if (-(2 ^ 63) ≤ k ∧ k < 2 ^ 63) ∧ a.length * k.toNat ≤ sizeLine then some (List.replicate k.toNat a).flatten else none
end

section
variable {K : PySem.W.Frag} {σ : St} {G H : Hp} {α β : Type} [Rp α] [Rp β] {te : TE} {tt : TT} {t u rest : TS} {D : Ends} {i : Nat} {a : α} {m : Option α}
theorem sv_set (e : EV K te σ G m) (hm : m = some a) (s : Same G H) (k : ∀ v G2 H2, Ext G H G2 H2 → Rp.rel K G2 v a → rest D (σ.set i (some v)) H2) : tSeq (tAsg te (gName i)) rest D σ H := e.run hm s k
theorem sv_ret (e : EV K te σ G m) (hm : m = some a) (s : Same G H) (k : ∀ v G2 H2, Ext G H G2 H2 → Rp.rel K G2 v a → D.rt v H2) : tSeq (tRet te) rest D σ H := e.run hm s k
theorem sv_if {b : Bool} {m : Option Bool} (e : TV tt σ G m) (hm : m = some b) (s : Same G H) (k : ∀ G2 H2, Ext G H G2 H2 → if b = true then t { D with nx := rest D } σ H2 else u { D with nx := rest D } σ H2) :
    tSeq (tIfS tt t u) rest D σ H := e.run hm s k
/-- two ways that come together again -/
theorem sv_join (Pv : St → Hp → Prop) (h : ∀ nx : St → Hp → Prop, (∀ σ' H', Pv σ' H' → nx σ' H') → tSeq t tNext { D with nx := nx } σ H) (key : ∀ σ' H', Pv σ' H' → rest D σ' H') : tSeq t rest D σ H := h (rest D) key

structure LoopOb (K : PySem.W.Frag) {α S ρ : Type} [Rp α] (RR : ρ → V → Hp → Hp → Prop) (f : α → S → Option (Fl S ρ)) (g : TG) (tb : TS) (D : Ends) (σ : St) (G2 H2 : Hp) (as : List α) (s0 : S) (res : Fl S ρ) (RS : S → St → Hp → Hp → Prop) : Prop where
  start : RS s0 σ G2 H2
  keep : ∀ s σ' G' H', RS s σ' G' H' → Same G2 G' ∧ Same G' H'
  step : ∀ (x : V) (a : α) (s : S) (σ1 : St) (G1 H1 : Hp) (fl : Fl S ρ), a ∈ as → RS s σ1 G1 H1 → Rp.rel K G1 x a → f a s = some fl → ∀ D' : Ends, (∀ s' σ' G' H', fl = .nx s' → RS s' σ' G' H' → D'.nx σ' H') → (∀ s' σ' G' H', fl = .nx s' → RS s' σ' G' H' → D'.ct σ' H') →
    (∀ s' σ' G' H', fl = .bk s' → RS s' σ' G' H' → D'.bk σ' H') → (∀ r v G' H', fl = .rt r → RR r v G' H' → D'.rt v H') → g x σ1 H1 fun σ2 H2 => tb D' σ2 H2
  nxt : ∀ s σ' G' H', res = .nx s → RS s σ' G' H' → D.nx σ' H'
  rtn : ∀ r v G' H', res = .rt r → RR r v G' H' → D.rt v H'
theorem sv_for {S ρ : Type} {RR : ρ → V → Hp → Hp → Prop} {f : α → S → Option (Fl S ρ)} {wi : TI} {g : TG} {tb : TS} {mi : Option (List α)} {as : List α} {s0 : S} {res : Fl S ρ} (ei : IW K wi σ G mi) (hm : mi = some as) (hf : forO f as s0 = some res) (sg : Same G H)
    (k : ∀ G2 H2, Ext G H G2 H2 → ∃ RS, LoopOb K RR f g tb { D with nx := rest D } σ G2 H2 as s0 res RS) : tSeq (tFor wi g tb) rest D σ H := by
  refine ei G (.refl G) as hm H sg _ fun J vs G2 H2 x2 Y hz pr => ?_
  obtain ⟨RS, L⟩ := k G2 H2 x2
  have hla := Paired.length pr
  refine ⟨fun i m σ' H' => m = vs.length - i ∧ i ≤ vs.length ∧ ∃ s G', RS s σ' G' H' ∧ forO f (as.drop i) s = some res, ⟨vs.length, by simp, Nat.zero_le _, s0, G2, L.start, hf⟩, ?_⟩
  rintro i m σ' H' ⟨rfl, hi, s, G', rs, hfo⟩
  obtain ⟨k1, k2⟩ := L.keep _ _ _ _ rs
  by_cases hlt : i < vs.length
  · refine .inr ⟨Y.go i _ (k1.trans k2) hlt, fun σ'' H'' => ∃ s' G'', RS s' σ'' G'' H'' ∧ forO f (as.drop (i + 1)) s' = some res, fun σ'' H'' ⟨s', G'', h⟩ => ⟨vs.length - (i + 1), by omega, rfl, hlt, s', G'', h⟩, fun x H3 y => ?_⟩
    obtain ⟨rfl, hx⟩ := Y.yld i _ x H3 (k1.trans k2) hlt y
    obtain ⟨a, hai, ra⟩ := Paired.getR pr hx
    have hd : as.drop i = a :: as.drop (i + 1) := by
      obtain ⟨h1, h2⟩ := List.getElem?_eq_some_iff.mp hai
      rw [List.drop_eq_getElem_cons h1, h2]
    rw [hd] at hfo
    obtain ⟨fl, hfl, hfo⟩ := Option.bind_eq_some_iff.mp hfo
    refine L.step x a s σ' G' _ fl (List.mem_of_getElem? hai) rs (Rp.mono k1 ra) hfl _ ?_ ?_ ?_ ?_
    · intro s' σ'' G'' H'' e r
      subst e
      exact ⟨s', G'', r, hfo⟩
    · intro s' σ'' G'' H'' e r
      subst e
      exact ⟨s', G'', r, hfo⟩
    · intro s' σ'' G'' H'' e r
      subst e
      exact L.nxt s' σ'' G'' H'' (Option.some.inj hfo).symm r
    · intro r v G'' H'' e rl
      subst e
      exact L.rtn r v G'' H'' (Option.some.inj hfo).symm rl
  · have e : i = vs.length := by omega
    subst e
    have hd : as.drop vs.length = [] := List.drop_eq_nil_of_le (by omega)
    rw [hd] at hfo
    exact .inl ⟨Y.stop _ (k1.trans k2), L.nxt s σ' G' H' (Option.some.inj hfo).symm rs⟩

structure WhileOb (K : PySem.W.Frag) {S ρ : Type} (RR : ρ → V → Hp → Hp → Prop) (c : S → Option Bool) (f : S → Option (Fl S ρ)) (tt : TT) (tb : TS) (D : Ends) (σ : St) (G2 H2 : Hp) (s0 : S) (res : Fl S ρ) (RS : S → St → Hp → Hp → Prop) : Prop where
  start : RS s0 σ G2 H2
  keep : ∀ s σ' G' H', RS s σ' G' H' → Same G' H'
  test : ∀ s σ' G' H' b, RS s σ' G' H' → c s = some b → ∀ Q : Bool → Hp → Prop, (∀ G'' H'', RS s σ' G'' H'' → Q b H'') → tt σ' H' Q
  step : ∀ (s : S) (σ1 : St) (G1 H1 : Hp) (fl : Fl S ρ), RS s σ1 G1 H1 → f s = some fl → c s = some true → ∀ D' : Ends, (∀ s' σ' G' H', fl = .nx s' → RS s' σ' G' H' → D'.nx σ' H') → (∀ s' σ' G' H', fl = .nx s' → RS s' σ' G' H' → D'.ct σ' H') →
    (∀ s' σ' G' H', fl = .bk s' → RS s' σ' G' H' → D'.bk σ' H') → (∀ r v G' H', fl = .rt r → RR r v G' H' → D'.rt v H') → tb D' σ1 H1
  nxt : ∀ s σ' G' H', res = .nx s → RS s σ' G' H' → D.nx σ' H'
  rtn : ∀ r v G' H', res = .rt r → RR r v G' H' → D.rt v H'
end

structure Own (K : PySem.W.Frag) {α : Type} [Rp α] (G H : Hp) (v : V) (p : Addr) (vs : List V) (as : List α) : Prop where
  v : v = .ref p
  g : G p = none
  h : H p = some (.lst vs)
  z : vs.length ≤ sizeLine
  p : Paired (Rp.rel K G) vs as
section
variable {K : PySem.W.Frag} {σ : St} {G H G1 H1 G0 H0 : Hp} {α β : Type} [Rp α] [Rp β] {te ti : TE} {tt : TT} {t u rest : TS} {D : Ends} {i : Nat} {a : α} {m : Option α} {as : List α} {v : V} {p q : Addr} {vs : List V}
theorem Own.ext (o : Own K G H v p vs as) (x : Ext G H G1 H1) : Own K G1 H1 v p vs as :=
  ⟨o.v, x.no p o.g (by rw [o.h]; exact fun z => nomatch z), x.hh _ _ o.h, o.z, Paired.imp' (fun _ _ r => Rp.mono x.gg r) o.p⟩
theorem Own.put {ho : HO} (o : Own K G H v p vs as) (h : p ≠ q) : Own K G (upd H q ho) v p vs as := ⟨o.v, o.g, by rw [upd_ne h]; exact o.h, o.z, o.p⟩
/-- it is told: known from here on -/
theorem Own.tell (o : Own K G H v p vs as) : Rp.rel K (upd G p (.lst vs)) v as := ⟨p, vs, o.v, .inl upd_same, o.z, Paired.imp' (fun _ _ r => Rp.mono (Same.new o.g) r) o.p⟩
theorem Own.same (o : Own K G H v p vs as) (s : Same G H) : Same (upd G p (.lst vs)) H := fun b x e => by
  by_cases hb : b = p
  · subst hb
    rw [upd_same] at e
    rw [o.h]
    exact e
  · rw [upd_ne hb] at e
    exact s b x e
theorem sv_own {m : Option (List α)} {as : List α} (e : FV K te σ G m) (hm : m = some as) (s : Same G H) (k : ∀ p vs G2 H2, Ext G H G2 H2 → H p = none → Own K G2 H2 (.ref p) p vs as → rest D (σ.set i (some (.ref p))) H2) : tSeq (tAsg te (gName i)) rest D σ H :=
  e G (.refl G) as hm H s _ fun p vs G2 H2 x h0 hg hh hz hp => k p vs G2 H2 x h0 ⟨rfl, hg, hh, hz, hp⟩
def pushO {α : Type} (as : List α) (a : α) : Option (List α) := if as.length < sizeLine then some (as ++ [a]) else none
theorem sv_append {as' : List α} (hσ : σ[i]? = some (some v)) (o : Own K G H v p vs as) (e : EV K te σ G m) (hm : m = some a) (hp : pushO as a = some as') (s : Same G H)
    (k : ∀ G2 H2 w, Ext G H G2 H2 → Own K G2 (upd H2 p (.lst (vs ++ [w]))) v p (vs ++ [w]) as' → rest D σ (upd H2 p (.lst (vs ++ [w])))) : tSeq (tDrop (tBM K "list" rAppend (tVar i) (tCons te tNil))) rest D σ H := by
  obtain ⟨hl, rfl⟩ := ite_some hp
  have hlen := Paired.length o.p
  obtain ⟨rfl, og, oh, oz, op⟩ := o
  refine ⟨_, hσ, .inl ⟨rfl, _, SqL.of oh⟩, ?_⟩
  refine e.run hm s fun w G2 H2 x r => ?_
  refine ⟨p, vs, w, rfl, rfl, x.hh _ _ oh, by omega, ?_⟩
  refine k G2 H2 w x ⟨rfl, x.no p og (by rw [oh]; exact fun z => nomatch z), upd_same, ?_, Paired.app (Paired.imp' (fun _ _ r => Rp.mono x.gg r) op) (.cons r .nil)⟩
  rw [List.length_append, List.length_singleton]
  omega
/-- an own list read on the spot, where what comes out of it holds none -/
class Imm (α : Type) [Rp α] : Prop where
  im : ∀ {K : PySem.W.Frag} {H H' : Hp} {v : V} {a : α}, (∀ b xs, Rd H b (.tup xs) → Rd H' b (.tup xs)) → Rp.rel K H v a → Rp.rel K H' v a
instance imInt : Imm Int := ⟨fun _ h => h⟩
instance imBool : Imm Bool := ⟨fun _ h => h⟩
instance imStr : Imm Str := ⟨fun _ h => h⟩
instance imUnit : Imm Unit := ⟨fun _ h => h⟩
theorem SqT.im {H H' : Hp} {t : Addr} {xs : List V} (f : ∀ b xs, Rd H b (.tup xs) → Rd H' b (.tup xs)) (h : SqT K H t xs) : SqT K H' t xs := by
  rcases h with h | h
  · exact .inl (f _ _ h)
  · exact .inr h
instance imPair {α β : Type} [Rp α] [Rp β] [Imm α] [Imm β] : Imm (α × β) := ⟨fun f ⟨t, a, b, e, h, r1, r2⟩ => ⟨t, a, b, e, h.im f, Imm.im f r1, Imm.im f r2⟩⟩
instance imT1 {α : Type} [Rp α] [Imm α] : Imm (T1 α) := ⟨fun f ⟨t, a, e, h, r1⟩ => ⟨t, a, e, h.im f, Imm.im f r1⟩⟩
instance imT3 {α β γ : Type} [Rp α] [Rp β] [Rp γ] [Imm α] [Imm β] [Imm γ] : Imm (T3 α β γ) := ⟨fun f ⟨t, a, b, c, e, h, r1, r2, r3⟩ => ⟨t, a, b, c, e, h.im f, Imm.im f r1, Imm.im f r2, Imm.im f r3⟩⟩
instance imTp {α : Type} [Rp α] [Imm α] : Imm (Tp α) := ⟨fun f ⟨t, xs, e, h, z, p⟩ => ⟨t, xs, e, h.im f, z, Paired.imp' (fun _ _ r => Imm.im f r) p⟩⟩
instance imOpt {α : Type} [Rp α] [Imm α] : Imm (Option α) := ⟨fun {K H H' v a} f h => by cases a with | none => exact h | some a => exact Imm.im (α := α) f h⟩
def del (G : Hp) (p : Addr) : Hp := fun b => if b = p then none else G b
theorem del_ne {G : Hp} {p b : Addr} (h : b ≠ p) : del G p b = G b := by unfold del; rw [if_neg h]
theorem del_same {G : Hp} {p : Addr} : del G p p = none := by unfold del; rw [if_pos rfl]
theorem Ext.del {ho : HO} {G2 H2 : Hp} (hg : G p = none) (x : Ext (upd G p ho) H G2 H2) : Ext G H (L2.del G2 p) H2 :=
  ⟨fun b o e => by
    have hb : b ≠ p := ne_of_none e hg
    rw [del_ne hb]
    exact x.gg b o (by rw [upd_ne hb]; exact e), fun b o e => by
    by_cases hb : b = p
    · subst hb
      rw [del_same] at e
      cases e
    · rw [del_ne hb] at e
      exact x.gh b o e, x.hh, fun b h1 h2 => by
    by_cases hb : b = p
    · subst hb
      exact del_same
    · rw [del_ne hb]
      exact x.no b (by rw [upd_ne hb]; exact h1) h2⟩
theorem Imm.del {β : Type} [Rp β] [Imm β] {G2 : Hp} {w : V} {c : β} {ys : List V} (h : G2 p = some (.lst ys)) (r : Rp.rel K G2 w c) : Rp.rel K (L2.del G2 p) w c :=
  Imm.im (fun b xs e => by
    have hb : b ≠ p := fun z => by
      subst z
      rcases e with e | ⟨o, e⟩ <;> (rw [h] at e; cases e)
    rcases e with e | ⟨o, e⟩
    · exact .inl (by rw [del_ne hb]; exact e)
    · exact .inr ⟨o, by rw [del_ne hb]; exact e⟩) r
/-- an expression that reads an own list -/
theorem EV.runB {β : Type} [Rp β] [Imm β] {mb : Option β} {b : β} {Q : VK} (o : Own K G H v p vs as) (e : EV K te σ (upd G p (.lst vs)) mb) (hm : mb = some b) (s : Same G H) (k : ∀ w G2 H2, Ext G H G2 H2 → Rp.rel K G2 w b → Q w H2) : te σ H Q :=
  e.run hm (o.same s) fun w G2 H2 x r => k w (del G2 p) H2 (x.del o.g) (Imm.del (x.gg _ _ upd_same) r)
theorem TV.runB {mb : Option Bool} {b : Bool} {Q : Bool → Hp → Prop} (o : Own K G H v p vs as) (e : TV tt σ (upd G p (.lst vs)) mb) (hm : mb = some b) (s : Same G H) (k : ∀ G2 H2, Ext G H G2 H2 → Q b H2) : tt σ H Q :=
  e.run hm (o.same s) fun G2 H2 x => k (del G2 p) H2 (x.del o.g)
end
end L2

set_option Elab.async false
set_option linter.all false
set_option maxRecDepth 100000
set_option maxHeartbeats 4000000
namespace L2
open PySem PySem.Spec PyProof.Rows
section
variable {K : PySem.W.Frag} {σ : St} {G : Hp}
theorem ev_def1 {ρ A0 : Type} [Rp ρ] [Rp A0] {t0 : TE} {m0 : Option A0} {m : A0 × Unit → Option ρ} (e0 : EV K t0 σ G m0) : EV K (tCall (spM K m) [] E0 (tCons t0 tNil)) σ G (m0.bind fun a0 => m (a0, ())) := by
  intro G1 s1 c hc H sH Q k
  obtain ⟨a0, ha0, hc⟩ := Option.bind_eq_some_iff.mp hc
  refine e0 G1 s1 a0 ha0 H sH _ fun v0 G2 H2 x0 r0 => ?_
  have y0 := x0
  exact ⟨G2, _, c, y0.gh, ⟨v0, _, rfl, r0, rfl⟩, hc, fun v G9 H9 x9 r9 => k v G9 H9 (y0.trans x9) r9⟩
theorem ev_def2 {ρ A0 A1 : Type} [Rp ρ] [Rp A0] [Rp A1] {t0 t1 : TE} {m0 : Option A0} {m1 : Option A1} {m : A0 × A1 × Unit → Option ρ} (e0 : EV K t0 σ G m0) (e1 : EV K t1 σ G m1) : EV K (tCall (spM K m) [] E0 (tCons t0 (tCons t1 tNil))) σ G (m0.bind fun a0 => m1.bind fun a1 => m (a0, a1, ())) := by
  intro G1 s1 c hc H sH Q k
  obtain ⟨a0, ha0, hc⟩ := Option.bind_eq_some_iff.mp hc
  obtain ⟨a1, ha1, hc⟩ := Option.bind_eq_some_iff.mp hc
  refine e0 G1 s1 a0 ha0 H sH _ fun v0 G2 H2 x0 r0 => ?_
  have y0 := x0
  refine e1 G2 (s1.trans y0.gg) a1 ha1 H2 y0.gh _ fun v1 G3 H3 x1 r1 => ?_
  have y1 := y0.trans x1
  exact ⟨G3, _, c, y1.gh, ⟨v0, _, rfl, (Rp.mono x1.gg r0), ⟨v1, _, rfl, r1, rfl⟩⟩, hc, fun v G9 H9 x9 r9 => k v G9 H9 (y1.trans x9) r9⟩
theorem ev_def3 {ρ A0 A1 A2 : Type} [Rp ρ] [Rp A0] [Rp A1] [Rp A2] {t0 t1 t2 : TE} {m0 : Option A0} {m1 : Option A1} {m2 : Option A2} {m : A0 × A1 × A2 × Unit → Option ρ} (e0 : EV K t0 σ G m0) (e1 : EV K t1 σ G m1) (e2 : EV K t2 σ G m2) : EV K (tCall (spM K m) [] E0 (tCons t0 (tCons t1 (tCons t2 tNil)))) σ G (m0.bind fun a0 => m1.bind fun a1 => m2.bind fun a2 => m (a0, a1, a2, ())) := by
  intro G1 s1 c hc H sH Q k
  obtain ⟨a0, ha0, hc⟩ := Option.bind_eq_some_iff.mp hc
  obtain ⟨a1, ha1, hc⟩ := Option.bind_eq_some_iff.mp hc
  obtain ⟨a2, ha2, hc⟩ := Option.bind_eq_some_iff.mp hc
  refine e0 G1 s1 a0 ha0 H sH _ fun v0 G2 H2 x0 r0 => ?_
  have y0 := x0
  refine e1 G2 (s1.trans y0.gg) a1 ha1 H2 y0.gh _ fun v1 G3 H3 x1 r1 => ?_
  have y1 := y0.trans x1
  refine e2 G3 (s1.trans y1.gg) a2 ha2 H3 y1.gh _ fun v2 G4 H4 x2 r2 => ?_
  have y2 := y1.trans x2
  exact ⟨G4, _, c, y2.gh, ⟨v0, _, rfl, (Rp.mono x2.gg (Rp.mono x1.gg r0)), ⟨v1, _, rfl, (Rp.mono x2.gg r1), ⟨v2, _, rfl, r2, rfl⟩⟩⟩, hc, fun v G9 H9 x9 r9 => k v G9 H9 (y2.trans x9) r9⟩
theorem ev_def5 {ρ A0 A1 A2 A3 A4 : Type} [Rp ρ] [Rp A0] [Rp A1] [Rp A2] [Rp A3] [Rp A4] {t0 t1 t2 t3 t4 : TE} {m0 : Option A0} {m1 : Option A1} {m2 : Option A2} {m3 : Option A3} {m4 : Option A4} {m : A0 × A1 × A2 × A3 × A4 × Unit → Option ρ} (e0 : EV K t0 σ G m0) (e1 : EV K t1 σ G m1) (e2 : EV K t2 σ G m2) (e3 : EV K t3 σ G m3) (e4 : EV K t4 σ G m4) : EV K (tCall (spM K m) [] E0 (tCons t0 (tCons t1 (tCons t2 (tCons t3 (tCons t4 tNil)))))) σ G (m0.bind fun a0 => m1.bind fun a1 => m2.bind fun a2 => m3.bind fun a3 => m4.bind fun a4 => m (a0, a1, a2, a3, a4, ())) := by
  intro G1 s1 c hc H sH Q k
  obtain ⟨a0, ha0, hc⟩ := Option.bind_eq_some_iff.mp hc
  obtain ⟨a1, ha1, hc⟩ := Option.bind_eq_some_iff.mp hc
  obtain ⟨a2, ha2, hc⟩ := Option.bind_eq_some_iff.mp hc
  obtain ⟨a3, ha3, hc⟩ := Option.bind_eq_some_iff.mp hc
  obtain ⟨a4, ha4, hc⟩ := Option.bind_eq_some_iff.mp hc
  refine e0 G1 s1 a0 ha0 H sH _ fun v0 G2 H2 x0 r0 => ?_
  have y0 := x0
  refine e1 G2 (s1.trans y0.gg) a1 ha1 H2 y0.gh _ fun v1 G3 H3 x1 r1 => ?_
  have y1 := y0.trans x1
  refine e2 G3 (s1.trans y1.gg) a2 ha2 H3 y1.gh _ fun v2 G4 H4 x2 r2 => ?_
  have y2 := y1.trans x2
  refine e3 G4 (s1.trans y2.gg) a3 ha3 H4 y2.gh _ fun v3 G5 H5 x3 r3 => ?_
  have y3 := y2.trans x3
  refine e4 G5 (s1.trans y3.gg) a4 ha4 H5 y3.gh _ fun v4 G6 H6 x4 r4 => ?_
  have y4 := y3.trans x4
  exact ⟨G6, _, c, y4.gh, ⟨v0, _, rfl, (Rp.mono x4.gg (Rp.mono x3.gg (Rp.mono x2.gg (Rp.mono x1.gg r0)))), ⟨v1, _, rfl, (Rp.mono x4.gg (Rp.mono x3.gg (Rp.mono x2.gg r1))), ⟨v2, _, rfl, (Rp.mono x4.gg (Rp.mono x3.gg r2)), ⟨v3, _, rfl, (Rp.mono x4.gg r3), ⟨v4, _, rfl, r4, rfl⟩⟩⟩⟩⟩, hc, fun v G9 H9 x9 r9 => k v G9 H9 (y4.trans x9) r9⟩
section
variable {ta tb : TE} {a b : Bool} {tt tu : TT} {mb : Option Bool}
theorem ev_orP (ea : EV K ta σ G (some a)) (eb : EV K tb σ G (some b)) : EV K (tOrV ta tb) σ G (some (a || b)) := (ev_or ea eb).of (by cases a <;> rfl)
theorem TV.of {m m' : Option Bool} (e : TV tt σ G m) (h : m = m') : TV tt σ G m' := h ▸ e
theorem tv_andP (ea : TV tt σ G (some a)) (eb : TV tu σ G (some b)) : TV (tAnd tt tu) σ G (some (a && b)) := (tv_and ea eb).of (by cases a <;> rfl)
theorem tv_orP (ea : TV tt σ G (some a)) (eb : TV tu σ G (some b)) : TV (tOr tt tu) σ G (some (a || b)) := (tv_or ea eb).of (by cases a <;> rfl)
theorem TruV.mono {G H : Hp} {v : V} {k : Bool} (s : Same G H) (h : TruV K v G k) : TruV K v H k := by
  cases v with
  | ref p =>
    rcases h with ⟨xs, hx, e⟩ | ⟨xs, hx, e⟩ | ⟨kvs, hx, e⟩
    · exact .inl ⟨xs, s.seq hx, e⟩
    · exact .inr (.inl ⟨xs, s.tup hx, e⟩)
    · exact .inr (.inr ⟨kvs, s _ _ hx, e⟩)
  | _ => exact h
theorem tv_b {mb : Option Bool} (ea : EV K ta σ G mb) : TV (fun σ H Q => ta σ H fun x H' => ∃ k, TruV K x H' k ∧ Q k H') σ G mb := by
  have h := tv_tru (K := K) (f := fun (a : Bool) => a) (fun {G v a} (r : Rp.rel K G v a) => by cases r; exact rfl) (fun s => TruV.mono s) ea
  refine h.of ?_
  cases mb <;> rfl
end
theorem cT {α : Type} {A B : Option α} {r : Option α} (h : cond true A B = r) : A = r := h
theorem cF {α : Type} {A B : Option α} {r : Option α} (h : cond false A B = r) : B = r := h
theorem sv_turn {i : Nat} {x : V} {σ : St} {H : Hp} {tb : TS} {D : Ends} (h : tb D (σ.set i (some x)) H) : gName i x σ H fun σ2 H2 => tb D σ2 H2 := h
end
end L2

set_option Elab.async false
set_option linter.all false
set_option maxRecDepth 100000
set_option maxHeartbeats 4000000
namespace L2
open PySem PySem.Spec PyProof.Rows
section
variable {K : PySem.W.Frag} {σ : St} {G H : Hp} {α β γ : Type} [Rp α] [Rp β] [Rp γ] {ta tb te : TE} {ia ib : Option Int} {c : Int} {rest t u : TS} {D : Ends} {i j : Nat} {tt : TT}
theorem ev_mulR (ea : EV K ta σ G ia) (hc : -(2 ^ 64) < c ∧ c < 2 ^ 64 := by decide) : EV K (tOp (rMul K) ta (tC (.int c))) σ G (ia.bind fun a => some (a * c)) := by
  have h := ev_mul ea (ev_i (K := K) (σ := σ) (G := G) (i := c))
  have e : (ia.bind fun a => (some c).bind fun b => mulO a b) = ia.bind fun a => some (a * c) := by
    congr 1; funext a
    show mulO a c = _
    unfold mulO
    rw [if_pos (.inr hc)]
  exact h.of e
theorem ev_modR (ea : EV K ta σ G ia) (hc : 0 < c := by decide) : EV K (tOp (rI (fun _ j => 0 < j) fun i j => .int (i % j)) ta (tC (.int c))) σ G (ia.bind fun a => some (a % c)) := by
  have h := ev_mod ea (ev_i (K := K) (σ := σ) (G := G) (i := c))
  have e : (ia.bind fun a => (some c).bind fun b => modO a b) = ia.bind fun a => some (a % c) := by
    congr 1; funext a
    show modO a c = _
    unfold modO
    rw [if_pos hc]
  exact h.of e
theorem ev_modC (ea : EV K ta σ G ia) (eb : EV K tb σ G (some c)) (hc : 0 < c) : EV K (tOp (rI (fun _ j => 0 < j) fun i j => .int (i % j)) ta tb) σ G (ia.bind fun a => some (a % c)) := by
  have h := ev_mod ea eb
  have e : (ia.bind fun a => (some c).bind fun b => modO a b) = ia.bind fun a => some (a % c) := by
    congr 1; funext a
    show modO a c = _
    unfold modO
    rw [if_pos hc]
  exact h.of e
theorem ev_divR (ea : EV K ta σ G ia) (hc : 0 < c ∧ c < 1073741824 := by decide) : EV K (tOp (rI CDiv fun i j => .int (i / j)) ta (tC (.int c))) σ G (ia.bind fun a => some (a / c)) := by
  have h := ev_div ea (ev_i (K := K) (σ := σ) (G := G) (i := c))
  have e : (ia.bind fun a => (some c).bind fun b => divO a b) = ia.bind fun a => some (a / c) := by
    congr 1; funext a
    show divO a c = _
    unfold divO
    rw [if_pos (show CDiv a c from hc)]
  exact h.of e
structure Scr where
  l : List Int
instance rpScr : Rp Scr := ⟨fun K H v a => ∃ l, v = .ref l ∧ SqL K H l (a.l.map V.int), fun s ⟨l, e, h⟩ => ⟨l, e, s.seq h⟩⟩
theorem ev_lenX {ma : Option Scr} (ea : EV K ta σ G ma) : EV K (tCB (rLen K) (tCons ta tNil)) σ G (ma.bind fun a => some (a.l.length : Int)) := by
  intro G1 s1 c hc H sH Q k
  obtain ⟨a, ha, hc⟩ := Option.bind_eq_some_iff.mp hc
  cases hc
  refine ea G1 s1 a ha H sH _ fun v G2 H2 x2 r2 => ?_
  obtain ⟨l, rfl, h⟩ := r2
  exact ⟨_, .inl (x2.gh.seq h), by rw [List.length_map]; exact k _ _ _ x2 rfl⟩
theorem pairedI {H : Hp} : ∀ ns : List Int, Paired (Rp.rel K H) (ns.map V.int) ns
  | [] => .nil
  | _ :: r => .cons rfl (pairedI r)
theorem ev_atX {ma : Option Scr} (ea : EV K ta σ G ma) (eb : EV K tb σ G ib) : EV K (tOp (rAt K) ta tb) σ G (ma.bind fun a => ib.bind fun i => atI a.l i) :=
  ev_bin (fun s ra rb e Q k => by
    obtain ⟨l, rfl, h⟩ := ra; cases rb
    obtain ⟨v, hv, r⟩ := paired_atI (pairedI (K := K) _) e
    exact .inl ⟨_, v, s.seq h, hv, k _ _ _ (.refl s) r⟩) ea eb
theorem sv_setB {a : α} {m : Option α} [Imm α] {v : V} {p : Addr} {vs : List V} {as : List β} (o : Own K G H v p vs as) (e : EV K te σ (upd G p (.lst vs)) m) (hm : m = some a) (s : Same G H) (k : ∀ v G2 H2, Ext G H G2 H2 → Rp.rel K G2 v a → rest D (σ.set i (some v)) H2) :
    tSeq (tAsg te (gName i)) rest D σ H := EV.runB o e hm s k
theorem sv_ifB {b : Bool} {m : Option Bool} {v : V} {p : Addr} {vs : List V} {as : List β} (o : Own K G H v p vs as) (e : TV tt σ (upd G p (.lst vs)) m) (hm : m = some b) (s : Same G H) (k : ∀ G2 H2, Ext G H G2 H2 → if b = true then t { D with nx := rest D } σ H2 else u { D with nx := rest D } σ H2) :
    tSeq (tIfS tt t u) rest D σ H := TV.runB o e hm s k
def setO {α : Type} (as : List α) (k : Int) (a : α) : Option (List α) := (ixN as.length k).bind fun j => some (as.set j a)
end
end L2

set_option Elab.async false
set_option linter.all false
set_option maxRecDepth 100000
set_option maxHeartbeats 4000000
namespace L2
open PySem PySem.Spec PyProof.Rows
structure Own2 (K : PySem.W.Frag) {α β : Type} [Rp α] [Rp β] (G H : Hp) (v : V) (p q : Addr) (vs ws : List V) (a : List α × List β) : Prop where
  t : ∃ t, v = .ref t ∧ G t = some (.tup [.ref p, .ref q])
  o1 : Own K G H (.ref p) p vs a.1
  o2 : Own K G H (.ref q) q ws a.2
  ne : p ≠ q
section
variable {K : PySem.W.Frag} {σ : St} {G H G1 H1 G0 H0 : Hp} {α β γ : Type} [Rp α] [Rp β] [Rp γ] {ta tb te ti : TE} {tt : TT} {t u rest : TS} {D : Ends} {i j : Nat} {v : V} {p q r : Addr} {vs ws : List V} {a : List α × List β}
theorem Own2.ext (o : Own2 K G H v p q vs ws a) (x : Ext G H G1 H1) : Own2 K G1 H1 v p q vs ws a :=
  ⟨let ⟨t, e, h⟩ := o.t; ⟨t, e, x.gg _ _ h⟩, o.o1.ext x, o.o2.ext x, o.ne⟩
theorem Own2.put {ho : HO} (o : Own2 K G H v p q vs ws a) (h1 : p ≠ r) (h2 : q ≠ r) : Own2 K G (upd H r ho) v p q vs ws a := ⟨o.t, o.o1.put h1, o.o2.put h2, o.ne⟩
def two (G : Hp) (p q : Addr) (vs ws : List V) : Hp := upd (upd G p (.lst vs)) q (.lst ws)
theorem Own2.g2 (o : Own2 K G H v p q vs ws a) : (upd G p (.lst vs)) q = none := by rw [upd_ne (Ne.symm o.ne)]; exact o.o2.g
theorem Own2.up (o : Own2 K G H v p q vs ws a) : Same G (two G p q vs ws) := (Same.new o.o1.g).trans (Same.new o.g2)
theorem Own2.same (o : Own2 K G H v p q vs ws a) (s : Same G H) : Same (two G p q vs ws) H := fun b x e => by
  unfold two at e
  by_cases hb : b = q
  · subst hb
    rw [upd_same] at e
    rw [o.o2.h]
    exact e
  · rw [upd_ne hb] at e
    exact o.o1.same s b x e
theorem Own2.tell (o : Own2 K G H v p q vs ws a) : Rp.rel K (two G p q vs ws) v a := by
  obtain ⟨t, rfl, ht⟩ := o.t
  refine ⟨t, .ref p, .ref q, rfl, SqT.of (o.up _ _ ht), ⟨p, vs, rfl, .inl ?_, o.o1.z, Paired.imp' (fun _ _ r => Rp.mono o.up r) o.o1.p⟩, ⟨q, ws, rfl, .inl upd_same, o.o2.z, Paired.imp' (fun _ _ r => Rp.mono o.up r) o.o2.p⟩⟩
  unfold two
  rw [upd_ne o.ne]
  exact upd_same
theorem Own2.frz (o : Own2 K G H v p q vs ws a) (x : Ext G0 H0 G H) (h1 : H0 p = none) (h2 : H0 q = none) : Ext G0 H0 (two G p q vs ws) H :=
  (x.frz h1 o.o1.g o.o1.h).frz h2 o.g2 o.o2.h
/-- a new pair of lists -/
def NV (K : PySem.W.Frag) {α β : Type} [Rp α] [Rp β] (te : TE) (σ : St) (G : Hp) (m : Option (List α × List β)) : Prop :=
  ∀ G1, Same G G1 → ∀ a, m = some a → ∀ H, Same G1 H → ∀ Q : VK, (∀ v p q vs ws G2 H2, Ext G1 H G2 H2 → H p = none → H q = none → Own2 K G2 H2 v p q vs ws a → Q v H2) → te σ H Q
theorem NV.ev {m : Option (List α × List β)} (e : NV K te σ G m) : EV K te σ G m := by
  intro G1 s1 a ha H sH Q k
  refine e G1 s1 a ha H sH Q fun v p q vs ws G2 H2 x h1 h2 o => ?_
  exact k v _ H2 (o.frz x h1 h2) o.tell
/-- what a def hands back is new -/
def spN (K : PySem.W.Frag) {A : Type} [RpA A] {α β : Type} [Rp α] [Rp β] (m : A → Option (List α × List β)) : Sp := fun vs H Q _ =>
  ∃ G a r, Same G H ∧ RpA.rel K G vs a ∧ m a = some r ∧ ∀ v p q vs ws G2 H2, Ext G H G2 H2 → H p = none → H q = none → Own2 K G2 H2 v p q vs ws r → Q v H2
def spL (K : PySem.W.Frag) {A : Type} [RpA A] {α : Type} [Rp α] (m : A → Option (List α)) : Sp := fun vs H Q _ =>
  ∃ G a r, Same G H ∧ RpA.rel K G vs a ∧ m a = some r ∧ ∀ p vs G2 H2, Ext G H G2 H2 → H p = none → Own K G2 H2 (.ref p) p vs r → Q (.ref p) H2
/-- xs.insert(0, e) -/
def consO {α : Type} (a : α) (as : List α) : Option (List α) := if as.length < sizeLine then some (a :: as) else none
def rInsert0 : V → List V → Hp → VK → Prop := fun x vs H Q => ∃ l xs y, x = .ref l ∧ vs = [.int 0, y] ∧ H l = some (.lst xs) ∧ xs.length < sizeLine ∧ Q .non (upd H l (.lst (y :: xs)))
end
end L2

set_option Elab.async false
set_option linter.all false
set_option maxRecDepth 100000
set_option maxHeartbeats 4000000
namespace L2
open PySem PySem.Spec PyProof.Rows
section
variable {X : Cx} {K : PySem.W.Frag}
theorem op_plusK (h : X.K = K) : OpR X (binaryOp .Add) (rPlus K) := h ▸ op_plus
theorem op_mulK (h : X.K = K) : OpR X (binaryOp .Mult) (rMul K) := h ▸ op_mulU
theorem sl_anyK (h : X.K = K) : SlR X (rSl K) := h ▸ sl_any
theorem ix_anyK (h : X.K = K) : IxR X (rAt K) := h ▸ ix_any
theorem call_lenK (h : X.K = K) : CallR X (.builtin "len") (rLen K) := h ▸ call_lenU
theorem call_instK (h : X.K = K) : CallR X (.builtin "isinstance") (rInst K) := h ▸ call_inst
theorem op_eqK {j : Nat} (h : X.K = K) (α : Type) [Rp α] [DecidableEq α] [RpE α] (hr : Room j X.A) (hk : RpE.k α ≤ 10) : OpR X (compareOp .Eq) (rEqD K α) := h ▸ op_eqM α hr hk
theorem op_neK {j : Nat} (h : X.K = K) (α : Type) [Rp α] [DecidableEq α] [RpE α] (hr : Room j X.A) (hk : RpE.k α ≤ 10) : OpR X (compareOp .NotEq) (rNeD K α) := h ▸ op_neM α hr hk
theorem call_listK (h : X.K = K) : CallR X (.type "list") (fun xs H Q => ∃ p ys, xs = [.ref p] ∧ (SqL K H p ys ∨ SqT K H p ys) ∧ ∀ l, H l = none → Q (.ref l) (upd H l (.lst ys))) := h ▸ call_list_of
theorem pi_anyK {tg l : Expr} {tl : TE} (h : X.K = K) (hl : PE X l tl) : PI X tg l (iAny K tl) := h ▸ pi_any hl
theorem pt_truthK {a : Expr} {ta : TE} (h : X.K = K) (ha : PE X a ta) (he : ∀ whole, isTrue a X.env whole = (do let v ← whole; standAt a.pos; holding [v] (truthy v))) :
    PT X a (fun σ H Q => ta σ H fun x H' => ∃ k, TruV K x H' k ∧ Q k H') := h ▸ pt_truth ha he
section
variable {o e : Expr} {es : List Expr} {to : TE} {t : TA} {name : Str} {apos cpos : Pos} {T id : String} {r : V → List V → Hp → VK → Prop}
theorem pe_bmK (h : X.K = K) (pa : PlainAttrs T) (slot : Slot T name id) (hty : typeOf (.builtin id) = pure (.type "method_descriptor")) (hm : MtR X id r) (ho : PE X o to) (ha : PA X (e :: es) t)
    (hbase : attributeBase o name X.env (eval o X.env) = eval o X.env := by rfl)
    (hfew : ((backTo cpos (starEach (e :: es) X.env)).all (fun x => !x.1) && (backToKw cpos (keywordEach [] X.env)).all (fun x => x.1.isSome)
      && decide ((e :: es).length + ([] : List Keyword).length + (if ([] : List Keyword).isEmpty then 0 else 1) < 30)) = true := by rfl)
    (hline : (apos.endLine == cpos.line) = true := by rfl) (hs : starEach (e :: es) X.env = (false, eval e X.env) :: starEach es X.env := by rfl) (hplain : (backTo cpos (starEach es X.env)).any (·.1) = false := by rfl) :
    PE X (.Call (.Attribute o name apos) (e :: es) [] cpos) (tBM K T r to t) := h ▸ pe_bm pa slot hty hm ho ha hbase hfew hline hs hplain
end
end
theorem sv_nx {f : St → Hp → Prop} {rt : VK} {bk ct : St → Hp → Prop} {σ : St} {H : Hp} (h : f σ H) : ({ nx := f, rt := rt, bk := bk, ct := ct } : Ends).nx σ H := h
end L2

set_option Elab.async false
set_option linter.all false
set_option maxRecDepth 100000
set_option maxHeartbeats 4000000
namespace L2
open PySem PySem.Spec PyProof.Rows
section
variable {K : PySem.W.Frag} {σ : St} {G H : Hp} {α β γ : Type} [Rp α] [Rp β] [Rp γ] {ta tb te : TE} {rest t u : TS} {D : Ends} {i j : Nat}
def extO {α : Type} (as bs : List α) : Option (List α) := if as.length + bs.length ≤ sizeLine then some (as ++ bs) else none
def rCountS (K : PySem.W.Frag) : V → List V → Hp → VK → Prop := fun x vs H Q => ∃ (l : Addr) (ys : List Str) (y : Str), x = .ref l ∧ vs = [.str y] ∧ SqL K H l (ys.map V.str) ∧ Q (.int (countIn (.str y) (ys.map PyData.str))) H
end
end L2

set_option Elab.async false
set_option linter.all false
set_option maxRecDepth 100000
set_option maxHeartbeats 4000000
namespace L2
open PySem PySem.Spec PyProof.Rows
inductive D where
  | non
  | bl (b : Bool)
  | int (i : Int)
  | str (x : Str)
  | lst (l : List D)
  | tup (l : List D)
  | dic
mutual
inductive RelD (K : PySem.W.Frag) (H : Hp) : V → D → Prop where
  | non : RelD K H .non .non
  | bl (b : Bool) : RelD K H (.bl b) (.bl b)
  | int (i : Int) : RelD K H (.int i) (.int i)
  | str (x : Str) (z : x.length ≤ sizeLine) : RelD K H (.str x) (.str x)
  | lst {a : Addr} {xs : List V} {ds : List D} (h : Rd H a (.lst xs)) (z : xs.length ≤ sizeLine) (r : RelDs K H xs ds) : RelD K H (.ref a) (.lst ds)
  | tup {a : Addr} {xs : List V} {ds : List D} (h : SqT K H a xs) (z : xs.length ≤ sizeLine) (r : RelDs K H xs ds) : RelD K H (.ref a) (.tup ds)
  | dK {a : Addr} {kvs : List (Key × V)} (h : Rd H a (.dK kvs)) : RelD K H (.ref a) .dic
inductive RelDs (K : PySem.W.Frag) (H : Hp) : List V → List D → Prop where
  | nil : RelDs K H [] []
  | cons {x : V} {d : D} {xs : List V} {ds : List D} (h : RelD K H x d) (t : RelDs K H xs ds) : RelDs K H (x :: xs) (d :: ds)
end
mutual
theorem RelD.mono {K : PySem.W.Frag} {H H' : Hp} (s : Same H H') : ∀ {v : V} {d : D}, RelD K H v d → RelD K H' v d
  | _, _, .non => .non
  | _, _, .bl b => .bl b
  | _, _, .int i => .int i
  | _, _, .str x z => .str x z
  | _, _, .lst h z r => .lst (s.rd h) z (RelDs.mono s r)
  | _, _, .tup h z r => .tup (s.tup h) z (RelDs.mono s r)
  | _, _, .dK h => .dK (s.rd h)
theorem RelDs.mono {K : PySem.W.Frag} {H H' : Hp} (s : Same H H') : ∀ {v : List V} {d : List D}, RelDs K H v d → RelDs K H' v d
  | _, _, .nil => .nil
  | _, _, .cons h t => .cons (RelD.mono s h) (RelDs.mono s t)
end
instance rpD : Rp D := ⟨RelD, fun s h => RelD.mono s h⟩
theorem relDs_of {K : PySem.W.Frag} {H : Hp} : ∀ {xs : List V} {ds : List D}, Paired (Rp.rel K H) xs ds → RelDs K H xs ds
  | _, _, .nil => .nil
  | _, _, .cons h t => .cons h (relDs_of t)
theorem of_relDs {K : PySem.W.Frag} {H : Hp} : ∀ {xs : List V} {ds : List D}, RelDs K H xs ds → Paired (Rp.rel K H) xs ds
  | _, _, .nil => .nil
  | _, _, .cons h t => .cons h (of_relDs t)
class ToD (α : Type) [Rp α] where
  to : α → D
  rel : ∀ {K : PySem.W.Frag} {H : Hp} {v : V} {a : α}, Rp.rel K H v a → RelD K H v (to a)
theorem toDs {K : PySem.W.Frag} {H : Hp} {α : Type} [Rp α] [ToD α] : ∀ {xs : List V} {as : List α}, Paired (Rp.rel K H) xs as → Paired (Rp.rel (α := D) K H) xs (as.map ToD.to)
  | _, _, .nil => .nil
  | _, _, .cons h t => .cons (ToD.rel h) (toDs t)
instance tdD : ToD D := ⟨id, fun h => h⟩
instance tdInt : ToD Int := ⟨.int, fun h => by cases h; exact .int _⟩
instance tdBool : ToD Bool := ⟨.bl, fun h => by cases h; exact .bl _⟩
instance tdStr : ToD Str := ⟨.str, fun h => by obtain ⟨rfl, z⟩ := h; exact .str _ z⟩
instance tdUnit : ToD Unit := ⟨fun _ => .non, fun h => by cases h; exact .non⟩
instance tdList {α : Type} [Rp α] [ToD α] : ToD (List α) := ⟨fun l => .lst (l.map ToD.to), fun ⟨l, xs, e, h, z, p⟩ => by subst e; exact .lst h z (relDs_of (toDs p))⟩
instance tdTp {α : Type} [Rp α] [ToD α] : ToD (Tp α) := ⟨fun l => .tup (l.l.map ToD.to), fun ⟨l, xs, e, h, z, p⟩ => by subst e; exact .tup h z (relDs_of (toDs p))⟩
instance tdPair {α β : Type} [Rp α] [ToD α] [Rp β] [ToD β] : ToD (α × β) := ⟨fun p => .tup [ToD.to p.1, ToD.to p.2], fun ⟨t, x, y, e, h, r1, r2⟩ => by subst e; exact .tup h (by show 2 ≤ sizeLine; decide) (.cons (ToD.rel r1) (.cons (ToD.rel r2) .nil))⟩
def asStr : D → Option Str
  | .str x => some x
  | _ => none
def asLst : D → Option (List D)
  | .lst l => some l
  | _ => none
def dk : D → String
  | .non => "NoneType"
  | .bl _ => "bool"
  | .int _ => "int"
  | .str _ => "str"
  | .lst _ => "list"
  | .tup _ => "tuple"
  | .dic => "dict"
def isK (T : String) (d : D) : Bool := dk d == T || (T == "int" && dk d == "bool")
def lenD : D → Option Int
  | .str x => some (x.length : Int)
  | .lst l => some (l.length : Int)
  | .tup l => some (l.length : Int)
  | _ => none
def atD : D → Int → Option D
  | .lst l, i => atI l i
  | .tup l, i => atI l i
  | .str x, i => (atI x.cps.toList i).bind fun c => some (.str ⟨#[c]⟩)
  | _, _ => none
def iterD : D → Option (List D)
  | .lst l => some l
  | .tup l => some l
  | .str x => some ((signsO x).map D.str)
  | _ => none
section
variable {K : PySem.W.Frag} {σ : St} {G : Hp} {α β : Type} [Rp α] [Rp β] {ta tb te : TE} {md : Option D}
theorem RelD.ty {H : Hp} {v : V} {d : D} (r : RelD K H v d) : TyS K H v (dk d) := by
  cases r with
  | non => exact .non
  | bl => exact .bl _
  | int => exact .int _
  | str => exact .str _
  | lst h => exact .lst (.inl h)
  | tup h => exact .tup h
  | dK h => exact .dK h
theorem RelDs.len {H : Hp} {xs : List V} {ds : List D} (r : RelDs K H xs ds) : xs.length = ds.length := Paired.length (of_relDs r)
theorem call_tupK {X : Cx} (h : X.K = K) : CallR X (.type "tuple") (fun xs H Q => ∃ p ys, xs = [.ref p] ∧ ((SqL K H p ys ∧ ∀ l, H l = none → Q (.ref l) (upd H l (.tup ys))) ∨ (SqT K H p ys ∧ Q (.ref p) H))) := h ▸ call_tuple_of
theorem ev_tuple {la : Option (List α)} (ea : EV K ta σ G la) : EV K (tCB (fun xs H Q => ∃ p ys, xs = [.ref p] ∧ ((SqL K H p ys ∧ ∀ l, H l = none → Q (.ref l) (upd H l (.tup ys))) ∨ (SqT K H p ys ∧ Q (.ref p) H))) (tCons ta tNil)) σ G (la.bind fun a => some (Tp.mk a)) := by
  intro G1 s1 c hc H sH Q k
  obtain ⟨a, ha, hc⟩ := Option.bind_eq_some_iff.mp hc
  cases hc
  refine ea G1 s1 a ha H sH _ fun v G2 H2 x2 r2 => ?_
  obtain ⟨l, xs, rfl, h, z, p⟩ := r2
  refine ⟨l, xs, rfl, .inl ⟨.inl (x2.gh.rd h), fun q hq => ?_⟩⟩
  exact k _ _ _ (x2.trans (.new x2.gh hq)) ⟨q, xs, rfl, SqT.of upd_same, z, Paired.imp' (fun _ _ r => Rp.mono (Same.new (x2.gh.free hq)) r) p⟩
end
end L2

set_option Elab.async false
set_option linter.all false
set_option maxRecDepth 100000
set_option maxHeartbeats 4000000
namespace L2
open PySem PySem.Spec PyProof.Rows
section
variable {K : PySem.W.Frag} {σ : St} {G : Hp} {ta : TE}
def rAllB (K : PySem.W.Frag) : List V → Hp → VK → Prop := fun vs H Q => ∃ (l : Addr) (bs : List Bool), vs = [.ref l] ∧ SqL K H l (bs.map V.bl) ∧ Q (.bl (bs.all id)) H
end
end L2

set_option Elab.async false
set_option linter.all false
set_option maxRecDepth 100000
set_option maxHeartbeats 4000000
namespace L2
open PySem PySem.Spec PyProof.Rows
def OK {α : Type} (m : Option α) (P : α → Prop) : Prop := ∃ a, m = some a ∧ P a
section
variable {α β S ρ : Type} {m : Option α} {P Q : α → Prop} {R : β → Prop}
theorem OK.mono (h : OK m P) (k : ∀ a, P a → Q a) : OK m Q := let ⟨a, e, p⟩ := h; ⟨a, e, k a p⟩
theorem ok_some {a : α} (h : P a) : OK (some a) P := ⟨a, rfl, h⟩
theorem ok_bind {f : α → Option β} (h : OK m fun a => OK (f a) R) : OK (m.bind f) R := by
  obtain ⟨a, rfl, h⟩ := h
  exact h
theorem ok_by {f : α → Option β} (h : OK m P) (k : ∀ a, P a → OK (f a) R) : OK (m.bind f) R := ok_bind (h.mono k)
theorem ok_bs {a : α} {f : α → Option β} (h : OK (f a) R) : OK ((some a).bind f) R := h
theorem ok_cond {b : Bool} {x y : Option α} (h1 : b = true → OK x P) (h2 : b = false → OK y P) : OK (cond b x y) P := by
  cases b with
  | true => exact h1 rfl
  | false => exact h2 rfl
theorem OK.eq {a : α} (h : OK m fun b => b = a) : m = some a := by obtain ⟨b, e, rfl⟩ := h; exact e
theorem OK.of {a : α} (e : m = some a) (h : P a) : OK m P := ⟨a, e, h⟩
theorem bindS {α β : Type} (a : α) (f : α → Option β) : (some a).bind f = f a := by rw [Option.bind_some]
theorem bind_self {α : Type} (m : Option α) : (m.bind fun x => some x) = m := by cases m <;> rfl
theorem ok_mod {a b : Int} {P : Int → Prop} (hb : 0 < b) (h : P (a % b)) : OK (modO a b) P := ⟨_, if_pos hb, h⟩
theorem ok_catS {a b : Str} {P : Str → Prop} (hb : a.length + b.length ≤ sizeLine) (h : P (a ++ b)) : OK (catS a b) P := ⟨_, if_pos hb, h⟩
theorem ok_push {a : List α} {b : α} {P : List α → Prop} (hb : a.length < sizeLine) (h : P (a ++ [b])) : OK (pushO a b) P := ⟨_, if_pos hb, h⟩
theorem ok_rng {lo hi : Int} {n : Nat} {P : List Int → Prop} (hn : hi - lo = n) (h0 : -1000000000 ≤ lo ∧ lo ≤ 1000000000) (h1 : n ≤ sizeLine) (h : P ((List.range n).map fun (i : Nat) => lo + (i : Int))) : OK (rngO lo hi) P := by
  have hs : sizeLine = 16777216 := sizeLine_eq
  have e : (hi - lo).toNat = n := by omega
  refine ⟨_, if_pos ⟨⟨by omega, by omega, by omega, by omega⟩, by omega⟩, ?_⟩
  rw [e]
  exact h
theorem ok_at {a : List α} {i : Int} (h0 : 0 ≤ i) (h1 : i < a.length) (h : ∀ x, a[i.toNat]? = some x → P x) : OK (atI a i) P := by
  obtain ⟨k, rfl⟩ := Int.eq_ofNat_of_zero_le h0
  have hk : k < a.length := by omega
  refine ⟨a[k], atI_nat (by simp [hk]), h _ ?_⟩
  rw [Int.toNat_natCast]
  simp [hk]
theorem ok_atN {a : List α} {k : Nat} (h1 : k < a.length) (h : ∀ x, a[k]? = some x → P x) : OK (atI a (k : Int)) P :=
  ⟨a[k], atI_nat (by simp [h1]), h _ (by simp [h1])⟩
theorem ok_last {a : List α} (h : a ≠ []) (k : P (a.getLast h)) : OK (atI a (-1)) P := by
  refine ⟨_, ?_, k⟩
  have := atI_last a.dropLast (a.getLast h)
  rwa [List.dropLast_concat_getLast] at this
/-- a loop by its invariant: J behind a break, R of what is handed back from within -/
theorem ok_for {f : α → S → Option (Fl S ρ)} {as : List α} {s0 : S} (I : Nat → S → Prop) (J : S → Prop) (R : ρ → Prop) {P : Fl S ρ → Prop} (h0 : I 0 s0)
    (hs : ∀ (i : Nat) a s, as[i]? = some a → I i s → OK (f a s) fun fl => match fl with | .nx s' => I (i + 1) s' | .bk s' => J s' | .rt r => R r)
    (hn : ∀ s, I as.length s → P (.nx s)) (hj : ∀ s, J s → P (.nx s)) (hr : ∀ r, R r → P (.rt r)) : OK (forO f as s0) P := by
  have key : ∀ (n i : Nat) (s : S), n = as.length - i → i ≤ as.length → I i s → OK (forO f (as.drop i) s) P := by
    intro n
    induction n with
    | zero =>
      intro i s hn0 hi hI
      have e : i = as.length := by omega
      subst e
      rw [List.drop_length]
      exact ok_some (hn s hI)
    | succ n ih =>
      intro i s hn0 hi hI
      have hlt : i < as.length := by omega
      rw [List.drop_eq_getElem_cons hlt]
      obtain ⟨fl, e, h⟩ := hs i as[i] s (by simp [hlt]) hI
      show OK ((f as[i] s).bind _) P
      rw [e]
      cases fl with
      | nx s' => exact ih (i + 1) s' (by omega) hlt h
      | bk s' => exact ok_some (hj s' h)
      | rt r => exact ok_some (hr r h)
  exact key as.length 0 s0 (by omega) (Nat.zero_le _) h0
/-- a loop that goes through -/
theorem ok_for' {f : α → S → Option (Fl S ρ)} {as : List α} {s0 : S} (I : Nat → S → Prop) {P : Fl S ρ → Prop} (h0 : I 0 s0)
    (hs : ∀ (i : Nat) a s, as[i]? = some a → I i s → OK (f a s) fun fl => ∃ s', fl = .nx s' ∧ I (i + 1) s') (hn : ∀ s, I as.length s → P (.nx s)) : OK (forO f as s0) P :=
  ok_for I (fun _ => False) (fun _ => False) h0 (fun i a s ha hI => (hs i a s ha hI).mono fun fl ⟨s', e, h⟩ => by subst e; exact h) hn (fun _ h => h.elim) fun _ h => h.elim
theorem ok_map {f : α → Option β} {g : α → β} {P : List β → Prop} : ∀ {as : List α}, (∀ a ∈ as, f a = some (g a)) → P (as.map g) → OK (mapO f as) P := by
  intro as
  have key : ∀ as : List α, (∀ a ∈ as, f a = some (g a)) → mapO f as = some (as.map g) := by
    intro as
    induction as with
    | nil => intro _; rfl
    | cons a r ih =>
      intro h
      show ((f a).bind fun y => (mapO f r).bind fun ys => some (y :: ys)) = _
      rw [h a List.mem_cons_self, ih fun x hx => h x (List.mem_cons_of_mem _ hx)]
      rfl
  exact fun h p => ⟨_, key as h, p⟩
theorem ok_comp {fc : α → Option Bool} {fe : α → Option β} {c : α → Bool} {g : α → β} {P : List β → Prop} {as : List α} (hc : ∀ a ∈ as, fc a = some (c a)) (he : ∀ a ∈ as, c a = true → fe a = some (g a)) (p : P ((as.filter c).map g)) : OK (compO fc fe as) P := by
  have key : ∀ as : List α, (∀ a ∈ as, fc a = some (c a)) → (∀ a ∈ as, c a = true → fe a = some (g a)) → compO fc fe as = some ((as.filter c).map g) := by
    intro as
    induction as with
    | nil => intro _ _; rfl
    | cons a r ih =>
      intro h1 h2
      have i := ih (fun x hx => h1 x (List.mem_cons_of_mem _ hx)) fun x hx => h2 x (List.mem_cons_of_mem _ hx)
      show ((fc a).bind fun b => cond b ((fe a).bind fun y => (compO fc fe r).bind fun ys => some (y :: ys)) (compO fc fe r)) = _
      rw [h1 a List.mem_cons_self, i]
      cases hb : c a with
      | true =>
        show ((fe a).bind fun y => _) = _
        rw [h2 a List.mem_cons_self hb]
        simp [hb]
      | false => simp [hb]
  exact ⟨_, key as hc he, p⟩
end
end L2

set_option Elab.async false
set_option linter.all false
set_option maxRecDepth 100000
namespace Lasso
variable {α β : Type}
def sqO (st ring : List α) (n : Nat) : Option α := if n < st.length then st[n]? else ring[(n - st.length) % ring.length]?
def Per (s : Nat → β) (p m : Nat) : Prop := ∀ n, m ≤ n → s (n + p) = s n
theorem Per.mul {s : Nat → β} {p m : Nat} (h : Per s p m) : ∀ k n, m ≤ n → s (n + k * p) = s n
  | 0, n, _ => by simp
  | k + 1, n, hn => by
    have e : n + (k + 1) * p = (n + k * p) + p := by rw [Nat.succ_mul, Nat.add_assoc]
    rw [e, h _ (by omega), Per.mul h k n hn]
theorem Per.mod {s : Nat → β} {a b : Nat} (ha : Per s a 0) (hb : Per s b 0) : Per s (b % a) 0 := fun n _ => by
  have h1 := ha.mul (b / a) (n + b % a) (Nat.zero_le _)
  have e : n + b % a + b / a * a = n + b := by
    have := Nat.mod_add_div b a
    rw [Nat.mul_comm] at this
    omega
  rw [← h1, e]
  exact hb n (Nat.zero_le _)
structure Canon (s : Nat → Option α) (st ring : List α) : Prop where
  pos : 0 < ring.length
  shows : ∀ n, sqO st ring n = s n
  per : ∀ p m, 0 < p → Per s p m → ring.length ≤ p
  stem : ∀ m, st.length = m + 1 → s (m + ring.length) ≠ s m
/-- the ring is its first d things, said again -/
def Again (ring : List α) (d : Nat) : Prop := ring.length % d = 0 ∧ ring.drop d = ring.take (ring.length - d)
/-- the shortest part -/
structure Prim (ring u : List α) : Prop where
  pos : 0 < u.length
  le : u.length ≤ ring.length
  all : ∀ n, ring[n % ring.length]? = u[n % u.length]?
  min : ∀ p, 0 < p → Per (fun n => ring[n % ring.length]?) p 0 → u.length ≤ p
/-- of the stem's last places, b are as the ring tells -/
def Back (st u : List α) (b : Nat) : Prop := b ≤ st.length ∧ ∀ j, j < b → st[st.length - 1 - j]? = u[u.length - 1 - j % u.length]?
end Lasso

set_option Elab.async false
set_option linter.all false
set_option maxRecDepth 100000
namespace Lasso
variable {α : Type} [DecidableEq α]
def dst : Option α → List α → List α
  | _, [] => []
  | l, x :: xs => if some x = l then dst (some x) xs else x :: dst (some x) xs
def lastO : Option α → List α → Option α
  | l, [] => l
  | _, x :: xs => lastO (some x) xs
end Lasso

set_option Elab.async false
set_option linter.all false
set_option maxRecDepth 100000
set_option maxHeartbeats 4000000
namespace L2
open PySem PySem.Spec PyProof.Rows
abbrev RunT := List Str × List Str
structure Cell3 (G0 H0 G : Hp) (L : Addr) (H : Hp) (n : Nat) (x : V) : Prop where
  ex : ∃ t p q, x = .ref t ∧ H t = some (.tup [.ref p, .ref q]) ∧ (G p = none ∧ H0 p = none ∧ p ≠ L ∧ ∃ vs, H p = some (.lst vs) ∧ vs.length ≤ n) ∧ (G q = none ∧ H0 q = none ∧ q ≠ L ∧ ∃ ws, H q = some (.lst ws) ∧ ws.length ≤ n)
section
variable {K : PySem.W.Frag} {σ : St} {G H G0 H0 Gx G1 H1 G2 H2 : Hp} {α β : Type} [Rp α] [Rp β] {ta tb tc te : TE} {tt : TT} {t u rest : TS} {D : Ends} {i j : Nat} {v : V}
theorem Cell3.put {L c : Addr} {n : Nat} {x : V} {ys : List V} (h : Cell3 G0 H0 G L H n x) (hc : ∃ zs, H c = some (.lst zs)) (hl : ys.length ≤ n + 1) : Cell3 G0 H0 G L (upd H c (.lst ys)) (n + 1) x := by
  obtain ⟨zs, hzs⟩ := hc
  obtain ⟨t, p, q, rfl, ht, ⟨p1, p2, p3, vs, p4, p5⟩, ⟨q1, q2, q3, ws, q4, q5⟩⟩ := h.ex
  have nt : t ≠ c := ne_of ht hzs (fun z => by cases z)
  have one : ∀ (a : Addr) (xs : List V), H a = some (.lst xs) → xs.length ≤ n → ∃ xs', (upd H c (.lst ys)) a = some (.lst xs') ∧ xs'.length ≤ n + 1 := fun a xs ha hx => by
    by_cases e : a = c
    · subst e
      exact ⟨ys, upd_same, hl⟩
    · exact ⟨xs, by rw [upd_ne e]; exact ha, by omega⟩
  exact ⟨t, p, q, rfl, by rw [upd_ne nt]; exact ht, ⟨p1, p2, p3, one p vs p4 p5⟩, ⟨q1, q2, q3, one q ws q4 q5⟩⟩
/-- told: known with the new cells (Gx), and without them (G) -/
structure Told (K : PySem.W.Frag) (H0 G Gx H : Hp) (v : V) (r : List RunT) : Prop where
  up : Same G Gx
  sm : Same Gx H
  rel : Rp.rel K Gx v r
  cells : ∃ L xs, v = .ref L ∧ H L = some (.lst xs) ∧ G L = none ∧ H0 L = none ∧ Paired (fun x (a : RunT) => ∃ t p q vs ws, x = .ref t ∧ H t = some (.tup [.ref p, .ref q]) ∧ (G p = none ∧ H0 p = none ∧ p ≠ L ∧ H p = some (.lst vs) ∧ vs.length = a.1.length) ∧ (G q = none ∧ H0 q = none ∧ q ≠ L ∧ H q = some (.lst ws) ∧ ws.length = a.2.length)) xs r
theorem Told.ext {r : List RunT} (o : Told K H0 G Gx H v r) (x : Ext G H G1 H1) : ∃ L xs, v = .ref L ∧ H1 L = some (.lst xs) ∧ G1 L = none ∧ H0 L = none ∧ Paired (fun x (a : RunT) => ∃ t p q vs ws, x = .ref t ∧ H1 t = some (.tup [.ref p, .ref q]) ∧ (G1 p = none ∧ H0 p = none ∧ p ≠ L ∧ H1 p = some (.lst vs) ∧ vs.length = a.1.length) ∧ (G1 q = none ∧ H0 q = none ∧ q ≠ L ∧ H1 q = some (.lst ws) ∧ ws.length = a.2.length)) xs r := by
  obtain ⟨L, xs, e, hL, gL, h0, p⟩ := o.cells
  have nn : ∀ {a : Addr} {o : HO}, H a = some o → H a ≠ none := fun h z => by rw [h] at z; cases z
  refine ⟨L, xs, e, x.hh _ _ hL, x.no L gL (nn hL), h0, Paired.imp' (fun y a ⟨t, p, q, vs, ws, e, ht, ⟨p1, p2, p3, p4, p5⟩, ⟨q1, q2, q3, q4, q5⟩⟩ => ?_) p⟩
  exact ⟨t, p, q, vs, ws, e, x.hh _ _ ht, ⟨x.no p p1 (nn p4), p2, p3, x.hh _ _ p4, p5⟩, ⟨x.no q q1 (nn q4), q2, q3, x.hh _ _ q4, q5⟩⟩
def spoilO (r : List RunT) : Option Unit := if (∀ a ∈ r, a.1.length ≤ 100000 ∧ a.2.length ≤ 100000) ∧ r.length ≤ 1000 then some () else none
abbrev tSpoil (j : Nat) (x y : Str) : TS := tSeq (tDrop (tBM K "list" rAppend (tOp (rAt K) (tVar j) (tC (.int 0))) (tCons (tC (.str x)) tNil))) (tSeq (tDrop (tBM K "list" rInsert0 (tOp (rAt K) (tVar j) (tC (.int 1))) (tCons (tC (.int 0)) (tCons (tC (.str y)) tNil)))) tNext)
/-- the def that tells three new runs in a list -/
def spT (K : PySem.W.Frag) {A : Type} [RpA A] (m : A → Option (List RunT)) : Sp := fun vs H Q _ =>
  ∃ G a r, Same G H ∧ RpA.rel K G vs a ∧ m a = some r ∧ ∀ v G2 Gx H2, Ext G H G2 H2 → Ext G H Gx H2 → Told K H G2 Gx H2 v r → Q v H2
def XV (K : PySem.W.Frag) (te : TE) (σ : St) (G : Hp) (m : Option (List RunT)) : Prop :=
  ∀ G1, Same G G1 → ∀ a, m = some a → ∀ H, Same G1 H → ∀ Q : VK, (∀ v G2 Gx H2, Ext G1 H G2 H2 → Ext G1 H Gx H2 → Told K H G2 Gx H2 v a → Q v H2) → te σ H Q
theorem Told.old {r : List RunT} {Ha Hb : Hp} (o : Told K Hb G Gx H v r) (s : Same Ha Hb) : Told K Ha G Gx H v r := by
  obtain ⟨L, xs, e, hL, gL, h0, p⟩ := o.cells
  exact ⟨o.up, o.sm, o.rel, L, xs, e, hL, gL, s.free h0, Paired.imp' (fun y a ⟨t, p, q, vs, ws, e, ht, ⟨p1, p2, p3, p4, p5⟩, ⟨q1, q2, q3, q4, q5⟩⟩ => ⟨t, p, q, vs, ws, e, ht, ⟨p1, s.free p2, p3, p4, p5⟩, ⟨q1, s.free q2, q3, q4, q5⟩⟩) p⟩
theorem XV.ev {m : Option (List RunT)} (e : XV K te σ G m) : EV K te σ G m := by
  intro G1 s1 a ha H sH Q k
  exact e G1 s1 a ha H sH Q fun v G2 Gx H2 x xg o => k v Gx H2 xg o.rel
end
end L2

set_option Elab.async false
set_option linter.all false
set_option maxRecDepth 100000
set_option maxHeartbeats 4000000
namespace L2
open PySem PySem.Spec PyProof.Rows
def popO {α : Type} : List α → Option (α × List α)
  | [] => none
  | [a] => some (a, [])
  | a :: b :: r => (popO (b :: r)).bind fun p => some (p.1, a :: p.2)
theorem Paired.last {α β : Type} {R : α → β → Prop} : ∀ {vs : List α} {as : List β} {a : β} {as' : List β}, Paired R vs as → popO as = some (a, as') → ∃ w, vs[vs.length - 1]? = some w ∧ R w a ∧ Paired R vs.dropLast as'
  | _, _, _, _, .nil, hp => by cases hp
  | _, _, _, _, .cons h .nil, hp => by
    cases hp
    exact ⟨_, rfl, h, .nil⟩
  | _, _, _, _, .cons h (.cons h2 t), hp => by
    obtain ⟨q, hq, e⟩ := Option.bind_eq_some_iff.mp hp
    cases e
    obtain ⟨w, hw, r, pr⟩ := Paired.last (.cons h2 t) hq
    exact ⟨w, by simpa using hw, r, .cons h pr⟩
section
variable {X : Cx} {K : PySem.W.Frag} {o : Expr} {to : TE} {name : Str} {apos cpos : Pos} {T id : String} {r : V → List V → Hp → VK → Prop}
end
section
variable {K : PySem.W.Frag} {σ : St} {G H G1 H1 G0 H0 : Hp} {α β : Type} [Rp α] [Rp β] {te ti : TE} {tt : TT} {t u rest : TS} {D : Ends} {i j : Nat} {a : α} {m : Option α} {as : List α} {v : V} {p q : Addr} {vs : List V}
/-- the heap but for the cells in C -/
def era (H : Hp) (C : List Addr) : Hp := fun a => if a ∈ C then none else H a
theorem era_in {C : List Addr} {b : Addr} (h : b ∈ C) : era H C b = none := if_pos h
theorem era_out {C : List Addr} {b : Addr} (h : b ∉ C) : era H C b = H b := if_neg h
def spW1 (K : PySem.W.Frag) {A : Type} [RpA A] {α : Type} [Rp α] (m : List α → A → Option (List α)) : Sp := fun vs H Q _ =>
  ∃ G p xs us as a r, vs = .ref p :: us ∧ Same G H ∧ Own K G H (.ref p) p xs as ∧ RpA.rel K G us a ∧ m as a = some r ∧
    ∀ G2 H2 xs', Ext G (era H [p]) G2 H2 → Own K G2 H2 (.ref p) p xs' r → Q .non H2
def spW2 (K : PySem.W.Frag) {A : Type} [RpA A] {α β : Type} [Rp α] [Rp β] (m : List α → List β → A → Option (List α × List β)) : Sp := fun vs H Q _ =>
  ∃ G p q xs ys us as bs a r, vs = .ref p :: .ref q :: us ∧ Same G H ∧ p ≠ q ∧ Own K G H (.ref p) p xs as ∧ Own K G H (.ref q) q ys bs ∧ RpA.rel K G us a ∧ m as bs a = some r ∧
    ∀ G2 H2 xs' ys', Ext G (era H [p, q]) G2 H2 → Own K G2 H2 (.ref p) p xs' r.1 → Own K G2 H2 (.ref q) q ys' r.2 → Q .non H2
end
end L2

set_option Elab.async false
set_option linter.all false
set_option maxRecDepth 100000
set_option maxHeartbeats 4000000
namespace L2
open PySem PySem.Spec PyProof.Rows
inductive Nt where
  | txt (x : Str)
  | tup (l : List Nt)
mutual
def Nt.dec : (a b : Nt) → Decidable (a = b)
  | .txt x, .txt y => if h : x = y then .isTrue (by rw [h]) else .isFalse fun e => h (by cases e; rfl)
  | .txt _, .tup _ => .isFalse fun e => by cases e
  | .tup _, .txt _ => .isFalse fun e => by cases e
  | .tup l, .tup m => match Nt.decs l m with
    | .isTrue h => .isTrue (by rw [h])
    | .isFalse h => .isFalse fun e => h (by cases e; rfl)
def Nt.decs : (l m : List Nt) → Decidable (l = m)
  | [], [] => .isTrue rfl
  | [], _ :: _ => .isFalse fun e => by cases e
  | _ :: _, [] => .isFalse fun e => by cases e
  | a :: l, b :: m => match Nt.dec a b with
    | .isFalse h => .isFalse fun e => h (by cases e; rfl)
    | .isTrue h => match Nt.decs l m with
      | .isTrue h2 => .isTrue (by rw [h, h2])
      | .isFalse h2 => .isFalse fun e => h2 (by cases e; rfl)
end
instance ntDec : DecidableEq Nt := Nt.dec
mutual
def Nt.dep : Nt → Nat
  | .txt _ => 0
  | .tup l => Nt.deps l + 1
def Nt.deps : List Nt → Nat
  | [] => 0
  | a :: l => max (Nt.dep a) (Nt.deps l)
end
mutual
inductive RelN (K : PySem.W.Frag) (H : Hp) : V → Nt → Prop where
  | txt (x : Str) (z : x.length ≤ sizeLine) : RelN K H (.str x) (.txt x)
  | tup {a : Addr} {xs : List V} {ds : List Nt} (h : SqT K H a xs) (z : xs.length ≤ sizeLine) (r : RelNs K H xs ds) : RelN K H (.ref a) (.tup ds)
inductive RelNs (K : PySem.W.Frag) (H : Hp) : List V → List Nt → Prop where
  | nil : RelNs K H [] []
  | cons {x : V} {d : Nt} {xs : List V} {ds : List Nt} (h : RelN K H x d) (t : RelNs K H xs ds) : RelNs K H (x :: xs) (d :: ds)
end
mutual
theorem RelN.mono {K : PySem.W.Frag} {H H' : Hp} (s : Same H H') : ∀ {v : V} {d : Nt}, RelN K H v d → RelN K H' v d
  | _, _, .txt x z => .txt x z
  | _, _, .tup h z r => .tup (s.tup h) z (RelNs.mono s r)
theorem RelNs.mono {K : PySem.W.Frag} {H H' : Hp} (s : Same H H') : ∀ {v : List V} {d : List Nt}, RelNs K H v d → RelNs K H' v d
  | _, _, .nil => .nil
  | _, _, .cons h t => .cons (RelN.mono s h) (RelNs.mono s t)
end
instance rpN : Rp Nt := ⟨RelN, fun s h => RelN.mono s h⟩
/-- kept where the tuples stay -/
theorem SqT.keep {K : PySem.W.Frag} {H H' : Hp} {a : Addr} {xs : List V} (s : ∀ b ys, Rd H b (.tup ys) → Rd H' b (.tup ys)) (h : SqT K H a xs) : SqT K H' a xs := by
  rcases h with h | h
  · exact .inl (s _ _ h)
  · exact .inr h
mutual
theorem RelN.keep {K : PySem.W.Frag} {H H' : Hp} (s : ∀ b ys, Rd H b (.tup ys) → Rd H' b (.tup ys)) : ∀ {v : V} {d : Nt}, RelN K H v d → RelN K H' v d
  | _, _, .txt x z => .txt x z
  | _, _, .tup h z r => .tup (SqT.keep s h) z (RelNs.keep s r)
theorem RelNs.keep {K : PySem.W.Frag} {H H' : Hp} (s : ∀ b ys, Rd H b (.tup ys) → Rd H' b (.tup ys)) : ∀ {v : List V} {d : List Nt}, RelNs K H v d → RelNs K H' v d
  | _, _, .nil => .nil
  | _, _, .cons h t => .cons (RelN.keep s h) (RelNs.keep s t)
end
instance imN : Imm Nt := ⟨fun s h => RelN.keep s h⟩
def isTxt : Hp → V → Nt → Prop := fun _ v a => ∃ x, v = .str x ∧ a = .txt x
def isU (K : PySem.W.Frag) (R : Hp → V → Nt → Prop) : Hp → V → Nt → Prop := fun H v a => isTxt H v a ∨ ∃ t xs l, v = .ref t ∧ SqT K H t xs ∧ a = .tup l ∧ Paired (R H) xs l
def isN (K : PySem.W.Frag) (d : Nat) : Hp → V → Nt → Prop := fun H v a => RelN K H v a ∧ a.dep ≤ d
def rEqN (K : PySem.W.Frag) : R2 := fun x y H Q => ∃ a b : Nt, isN K 180 H x a ∧ isN K 180 H y b ∧ Q (.bl (decide (a = b))) H
def rNeN (K : PySem.W.Frag) : R2 := fun x y H Q => ∃ a b : Nt, isN K 180 H x a ∧ isN K 180 H y b ∧ Q (.bl (!decide (a = b))) H
def eqNO (a b : Nt) : Option Bool := if a.dep ≤ 180 ∧ b.dep ≤ 180 then some (decide (a = b)) else none
def neNO (a b : Nt) : Option Bool := if a.dep ≤ 180 ∧ b.dep ≤ 180 then some (!decide (a = b)) else none
section
variable {K : PySem.W.Frag} {σ : St} {G : Hp} {ta tb te : TE} {m1 m2 md : Option Nt}
def asTxt : Nt → Option Str
  | .txt x => some x
  | .tup _ => none
def asTup : Nt → Option (Tp Nt)
  | .txt _ => none
  | .tup l => some ⟨l⟩
end
end L2

set_option Elab.async false
set_option linter.all false
set_option maxRecDepth 100000
set_option maxHeartbeats 4000000
namespace L2
open PySem PySem.Spec PyProof.Rows
section
variable {X : Cx} {K : PySem.W.Frag}
theorem sl_tupK (h : X.K = K) : SlR X (rSlT K) := h ▸ sl_tup
end
section
variable {K : PySem.W.Frag} {σ : St} {G : Hp} {α : Type} [Rp α] {ta tb tc te : TE} {t1 t2 : TO} {ia ib ic : Option Int} {m1 m2 : Option (Option Int)}
def cutT? {α : Type} (l : List α) (lo hi : Option Int) : Option (Tp α) := if ¬ (HT.sIx l.length 0 lo = 0 ∧ HT.sIx l.length l.length hi = l.length) then some ⟨cutA l lo hi⟩ else none
theorem ev_sliceT {ma : Option (Tp α)} (ea : EV K ta σ G ma) (e1 : OV t1 σ G m1) (e2 : OV t2 σ G m2) : EV K (tSl (rSlT K) ta t1 t2) σ G (ma.bind fun a => m1.bind fun lo => m2.bind fun hi => cutT? a.l lo hi) := by
  intro G1 s1 c hc H sH Q k
  obtain ⟨a, ha, hc⟩ := Option.bind_eq_some_iff.mp hc
  obtain ⟨lo, hlo, hc⟩ := Option.bind_eq_some_iff.mp hc
  obtain ⟨hi, hhi, hc⟩ := Option.bind_eq_some_iff.mp hc
  obtain ⟨hw, rfl⟩ := ite_some hc
  refine ea G1 s1 a ha H sH _ fun v G2 H2 x2 r2 => ?_
  refine e1 G2 (s1.trans x2.gg) lo hlo H2 x2.gh _ fun G3 H3 x3 => ?_
  refine e2 G3 (s1.trans (x2.trans x3).gg) hi hhi H3 x3.gh _ fun G4 H4 x4 => ?_
  obtain ⟨l, xs, rfl, h, z, p⟩ := Rp.mono (x3.trans x4).gg r2
  have hl := Paired.length p
  refine ⟨l, xs, rfl, x4.gh.tup h, by rw [hl]; exact hw, fun q hq => ?_⟩
  have hg : G4 q = none := x4.gh.free hq
  refine k _ (upd G4 q (.tup (cutV xs lo hi))) _ (((x2.trans x3).trans x4).trans ⟨Same.new hg, fun b o e => ?_, Same.new hq, fun b h1 h2 => ?_⟩) ⟨q, _, rfl, .inl (.inl upd_same), Nat.le_trans (cutV_length _ _ _) z, Paired.imp' (fun _ _ r => Rp.mono (Same.new hg) r) (Paired.cut p lo hi)⟩
  · by_cases hb : b = q
    · subst hb
      rw [upd_same] at e ⊢
      exact e
    · rw [upd_ne hb] at e ⊢
      exact x4.gh b o e
  · have hb : b ≠ q := fun e => h2 (by rw [e]; exact hq)
    rw [upd_ne hb]
    exact h1
class Flat (α : Type) [Rp α] [DecidableEq α] : Prop where
  fl : ∀ {K : PySem.W.Frag} {H : Hp} {v : V} {a : α}, Rp.rel K H v a → flatV v = true
  eq : ∀ {K : PySem.W.Frag} {H H' : Hp} {v u : V} {a b : α}, Rp.rel K H v a → Rp.rel K H' u b → eqV v u = decide (a = b)
instance flInt : Flat Int := ⟨fun h => by cases h; rfl, fun h h' => by cases h; cases h'; exact dec_beq _ _⟩
instance flStr : Flat Str := ⟨fun h => by obtain ⟨rfl, _⟩ := h; rfl, fun h h' => by obtain ⟨rfl, _⟩ := h; obtain ⟨rfl, _⟩ := h'; exact dec_beq _ _⟩
instance flBool : Flat Bool := ⟨fun h => by cases h; rfl, fun h h' => by cases h; cases h'; exact dec_beq _ _⟩
end
mutual
def Nt.toD : Nt → D
  | .txt x => .str x
  | .tup l => .tup (Nt.toDs l)
def Nt.toDs : List Nt → List D
  | [] => []
  | a :: l => Nt.toD a :: Nt.toDs l
end
mutual
theorem RelN.toD {K : PySem.W.Frag} {H : Hp} : ∀ {v : V} {a : Nt}, RelN K H v a → RelD K H v a.toD
  | _, _, .txt x z => by unfold Nt.toD; exact .str x z
  | _, _, .tup h z r => by unfold Nt.toD; exact .tup h z (RelNs.toD r)
theorem RelNs.toD {K : PySem.W.Frag} {H : Hp} : ∀ {xs : List V} {l : List Nt}, RelNs K H xs l → RelDs K H xs (Nt.toDs l)
  | _, _, .nil => by unfold Nt.toDs; exact .nil
  | _, _, .cons h t => by unfold Nt.toDs; exact .cons (RelN.toD h) (RelNs.toD t)
end
instance tdN : ToD Nt := ⟨Nt.toD, fun h => RelN.toD h⟩
end L2

set_option Elab.async false
set_option linter.all false
set_option maxRecDepth 100000
set_option maxHeartbeats 4000000
namespace L2
open PySem PySem.Spec PyProof.Rows
section
variable {K : PySem.W.Frag} {σ : St} {G H G1 H1 G0 H0 : Hp} {α β γ : Type} [Rp α] [Rp β] [Rp γ] {te ti : TE} {tt : TT} {t u rest : TS} {D : Ends} {i j : Nat} {as : List α} {bs : List β} {v w : V} {p q : Addr} {vs ws : List V}
theorem Own.over {o : HO} (h : Own K G H v p vs as) (ne : p ≠ q) (hq : G q = none) : Own K (upd G q o) H v p vs as :=
  ⟨h.v, by rw [upd_ne ne]; exact h.g, h.h, h.z, Paired.imp' (fun _ _ r => Rp.mono (Same.new hq) r) h.p⟩
end
end L2

set_option Elab.async false
set_option linter.all false
set_option maxRecDepth 100000
set_option maxHeartbeats 4000000
namespace L2
open PySem PySem.Spec PyProof.Rows
section
variable {K : PySem.W.Frag} {σ : St} {G H G1 H1 G2 H2 G0 H0 : Hp} {α β γ δ : Type} [Rp α] [Rp β] [Rp γ] [Rp δ] {te ta tb ti : TE} {t : TA} {tt : TT} {rest : TS} {D : Ends} {i j n : Nat} {as as' : List α} {v w : V} {p q : Addr} {vs ws : List V}
theorem Ext.era (x : Ext G H G2 H2) (g : G2 p = none) : Ext G (era H [p]) G2 (L2.era H2 [p]) := by
  refine ⟨x.gg, fun b o e => ?_, fun b o e => ?_, fun b h1 h2 => x.no b h1 fun z => h2 ?_⟩
  · have hb : b ≠ p := fun z => by
      rw [z, g] at e
      cases e
    rw [era_out (by simpa using hb)]
    exact x.gh b o e
  · by_cases hb : b = p
    · rw [era_in (by simpa using hb)] at e
      cases e
    · rw [era_out (by simpa using hb)] at e ⊢
      exact x.hh b o e
  · by_cases hb : b = p
    · exact era_in (by simpa using hb)
    · rw [era_out (by simpa using hb)]
      exact z
/-- the own list is there -/
def BV (K : PySem.W.Frag) (te : TE) (σ : St) (G : Hp) (v : V) (p : Addr) (vs : List V) (as : List α) (m : Option γ) : Prop :=
  ∀ G1, Same G G1 → ∀ c, m = some c → ∀ H, Same G1 H → Own K G1 H v p vs as → ∀ Q : VK, (∀ w G2 H2, Ext G1 H G2 H2 → Rp.rel K G2 w c → Q w H2) → te σ H Q
/-- it is shorter by one behind it -/
def PV (K : PySem.W.Frag) (te : TE) (σ : St) (G : Hp) (v : V) (p : Addr) (vs : List V) (as as' : List α) (m : Option γ) : Prop :=
  ∀ G1, Same G G1 → ∀ c, m = some c → ∀ H, Same G1 H → Own K G1 H v p vs as → ∀ Q : VK, (∀ w G2 H2, Ext G1 (era H [p]) G2 H2 → Own K G2 H2 v p vs.dropLast as' → Rp.rel K G2 w c → Q w H2) → te σ H Q
def PL (K : PySem.W.Frag) (t : TA) (σ : St) (G : Hp) (v : V) (p : Addr) (vs : List V) (as as' : List α) (n : Nat) (m : Option (List γ)) : Prop :=
  ∀ G1, Same G G1 → ∀ c, m = some c → ∀ H, Same G1 H → Own K G1 H v p vs as → ∀ Q : List V → Hp → Prop, (∀ ws G2 H2, Ext G1 (era H [p]) G2 H2 → Own K G2 H2 v p vs.dropLast as' → ws.length = n → Paired (Rp.rel K G2) ws c → Q ws H2) → t σ H Q
def cutX (x : Scr) (lo hi : Option Int) : Option (List Int) := if x.l.length ≤ sizeLine then some (cutA x.l lo hi) else none
theorem paired_scr (H : Hp) : ∀ l : List Int, Paired (Rp.rel K H) (l.map V.int) l
  | [] => .nil
  | a :: r => .cons rfl (paired_scr H r)
theorem fv_sliceX {t1 t2 : TO} {m1 m2 : Option (Option Int)} {ma : Option Scr} (ea : EV K ta σ G ma) (e1 : OV t1 σ G m1) (e2 : OV t2 σ G m2) : FV K (tSl (rSl K) ta t1 t2) σ G (ma.bind fun a => m1.bind fun lo => m2.bind fun hi => cutX a lo hi) := by
  intro G1 s1 c hc H sH Q k
  obtain ⟨a, ha, hc⟩ := Option.bind_eq_some_iff.mp hc
  obtain ⟨lo, hlo, hc⟩ := Option.bind_eq_some_iff.mp hc
  obtain ⟨hi, hhi, hc⟩ := Option.bind_eq_some_iff.mp hc
  obtain ⟨z, rfl⟩ := ite_some hc
  refine ea G1 s1 a ha H sH _ fun v G2 H2 x2 r2 => ?_
  refine e1 G2 (s1.trans x2.gg) lo hlo H2 x2.gh _ fun G3 H3 x3 => ?_
  refine e2 G3 (s1.trans (x2.trans x3).gg) hi hhi H3 x3.gh _ fun G4 H4 x4 => ?_
  obtain ⟨l, rfl, h⟩ := Rp.mono (x3.trans x4).gg r2
  exact ⟨_, x4.gh.seq h, fv_of x4.gh (Nat.le_trans (cutV_length _ _ _) (by rw [List.length_map]; exact z)) (Paired.cut (paired_scr G4 a.l) lo hi) (FV.mono ((x2.trans x3).trans x4) k)⟩
end
end L2

set_option Elab.async false
set_option linter.all false
set_option maxRecDepth 100000
set_option maxHeartbeats 4000000
namespace L2
open PySem PySem.Spec PyProof.Rows
section
variable {K : PySem.W.Frag} {σ : St} {G : Hp} {ta : TE}
end
end L2

set_option Elab.async false
set_option linter.all false
set_option maxRecDepth 100000
set_option maxHeartbeats 4000000
namespace L2
open PySem PySem.Spec PyProof.Rows
theorem Inv.turned2 {X : Cx} {pins : List (Addr × Obj)} {σ : List (Option V)} {H : Hp} {s : Shared} {h' : Heap} {t' : Nat} {e it : Addr} (I : Inv X pins σ H s) (k : ∀ b o, b ≠ e → b ≠ it → s.heap.get? b = some o → h'.get? b = some o) (fe : FpOk X pins H e) (fi : FpOk X pins H it) :
    Inv X pins σ H { s with heap := h', toks := t' } := by
  have nit : ∀ b u, H b = some u → b ≠ e ∧ b ≠ it := fun b u q => ⟨fun z => (by rw [z, fe.1] at q; cases q), fun z => (by rw [z, fi.1] at q; cases q)⟩
  have nm : ∀ b, b ∉ [e, it] → b ≠ e ∧ b ≠ it := fun b hb => ⟨fun z => hb (by simp [z]), fun z => hb (by simp [z])⟩
  refine I.step (g' := s.gens) (d' := s.drawn) (ch := [e, it]) (fun b hb => ?_) (fun b o _ _ hc q _ => k b o (nm b hc).1 (nm b hc).2 q) (fun b o _ _ hc q _ => ⟨o.slots, k b o (nm b hc).1 (nm b hc).2 q⟩) (fun _ _ _ _ n => n)
    (fun b o hc q => ⟨o, k b o (nm b hc).1 (nm b hc).2 q⟩) (fun _ _ q => q) (fun _ _ _ q => q) (fun b ps q => ⟨#[], by rw [q]; simp⟩) (fun m hm => ?_) (fun b u q => ?_) I.bare
  · simp only [List.mem_cons, List.not_mem_nil, or_false] at hb
    rcases hb with z | z
    · subst z
      exact ⟨fe.2.2.2.1, fe.2.1, fe.2.2.2.2.1, fe.2.2.2.2.2⟩
    · subst z
      exact ⟨fi.2.2.2.1, fi.2.1, fi.2.2.2.2.1, fi.2.2.2.2.2⟩
  · obtain ⟨o, es, ep, ho, r⟩ := hm
    exact ⟨o, es, ep, k _ o (Ne.symm fe.2.1) (Ne.symm fi.2.1) ho, r⟩
  · refine (I.hok b u q).stay (fun c v hc z => ?_) (fun _ z => z) fun _ _ z => z
    rcases hc with y | y
    · rw [y] at z ⊢
      exact k b v (nit b u q).1 (nit b u q).2 z
    · exact k c v (nit c _ y).1 (nit c _ y).2 z
def Itn (K : PySem.W.Frag) (a : Addr) : It :=
  ⟨fun i H => ∃ xs x, SqL K H a xs ∧ xs[i]? = some x, fun i H x H' => ∃ t v, x = .ref t ∧ H t = none ∧ H' = upd H t (.tup [.int i, v]) ∧ ∀ xs, SqL K H a xs → xs[i]? = some v, fun i H => ∃ xs, SqL K H a xs ∧ xs.length ≤ i⟩
theorem turn_enum {P : Program} {w : World} {K : PySem.W.Frag} {elts : List Expr} {x1 : _} {pos : Pos} (a e it : Addr) (ne : e ≠ it) : Turn P w K (.Tuple elts x1 pos) (Itn K a) [e, it] e (fun i h => (∃ old, IsEnum h e it i old) ∧ h.IsListIter it a i) where
  mem := by simp
  obj := fun i h st b hb => by
    obtain ⟨⟨old, he⟩, o, q, c, d⟩ := st
    simp only [List.mem_cons, List.not_mem_nil, or_false] at hb
    rcases hb with z | z
    · subst z
      exact ⟨_, he, fun v z => by
        have z' : Data.fields _ = Data.cell v := z
        cases z'⟩
    · subst z
      exact ⟨o, q, fun v z => by rw [d] at z; cases z⟩
  keep := fun i h h' st k => ⟨let ⟨old, he⟩ := st.1; ⟨old, k e (by simp) _ he⟩, st.2.at fun o q => k it (by simp) o q⟩
  item := by
    intro X hP hw hK hc i pins s σ H E I hf st hg
    subst hP hw hK
    obtain ⟨⟨old, he⟩, hit⟩ := st
    obtain ⟨xs, x, hq, hx⟩ := hg
    obtain ⟨its, rv, p, hz⟩ := I.list hq
    obtain ⟨u, hu, ru⟩ := rv.get hx
    have fe := hf e (by simp)
    have fi := hf it (by simp)
    refine wpAny_pyNext_enum_item he hit p.isList (x := u) (by simpa using hu) ne fun h1 heo hit1 ht1 hz1 hk1 => ?_
    refine ⟨_, rfl, wpAny_letOwnedTupleGo_enum heo fun h2 he2 hs2 => ?_⟩
    replace hs2 : Heap.SameBut e h1 h2 := hs2
    have heH : e < s.heap.objs.size := Heap.lt_size he
    have hiH : it < s.heap.objs.size := by obtain ⟨o, q, _⟩ := hit; exact Heap.lt_size q
    have ht2 : h2.get? s.heap.objs.size = some { cls := .type "tuple", data := .seq #[.int i s.toks, u] } := (hs2.2 _ (Nat.ne_of_gt heH)).trans ht1
    have I1 : Inv X pins σ (upd H s.heap.objs.size (.tup [.int i, x])) { s with heap := s.heap.push { cls := .type "tuple", data := .seq #[.int i s.toks, u] }, toks := s.toks } :=
      I.laid (fun b ob q => Heap.get?_push_of_some _ q) (Nat.le_refl _) ⟨by show 2 ≤ sizeLine; decide, [.int i s.toks, u], .cons ⟨_, rfl⟩ (.cons ru .nil), IsTup.new _ _⟩
    have fre : ∀ b, b ∈ [e, it] → b ≠ s.heap.objs.size := fun b hb => by
      simp only [List.mem_cons, List.not_mem_nil, or_false] at hb
      rcases hb with z | z
      · rw [z]; exact Nat.ne_of_lt heH
      · rw [z]; exact Nat.ne_of_lt hiH
    have fn : ∀ b ∈ [e, it], FpOk X pins (upd H s.heap.objs.size (.tup [.int i, x])) b := fun b hb => ⟨by rw [upd_ne (fre b hb)]; exact (hf b hb).1, (hf b hb).2⟩
    have I2 : Inv X pins σ (upd H s.heap.objs.size (.tup [.int i, x])) { s with heap := h2, toks := s.toks + 1 } := I1.turned2 (h' := h2) (t' := s.toks + 1) (fun b o h1' h2' q => by
      replace q : (s.heap.push { cls := .type "tuple", data := .seq #[.int i s.toks, u] }).get? b = some o := q
      by_cases hb : b = s.heap.objs.size
      · rw [hb] at q ⊢
        rw [Heap.get?_push_size _ rfl] at q
        rw [ht2]
        exact q
      · have q' : s.heap.get? b = some o := by rw [← q]; exact (Heap.get?_push_ne _ _ _ hb).symm
        exact (hs2.2 _ h1').trans (hk1 b o h1' h2' q')) (fn e (by simp)) (fn it (by simp))
    refine ⟨.ref s.heap.objs.size, _, I2, rfl, ⟨_, x, rfl, I.hok.fresh (Nat.le_refl _), rfl, fun ys hy => by rw [I.list_inj hy hq]; exact hx⟩, ⟨⟨u, ?_⟩, ?_⟩, fun b hb => (fn b hb).1⟩
    · have : ((i + 1 : Nat) : Int) = (i : Int) + 1 := by omega
      rw [this]
      exact he2
    · exact hit1.extBut hs2.extBut (Ne.symm ne)
  done := by
    intro X hP hw hK hc i pins s σ H E I hf st hg
    subst hP hw hK
    obtain ⟨⟨old, he⟩, hit⟩ := st
    obtain ⟨xs, hq, hx⟩ := hg
    obtain ⟨its, rv, p, hz⟩ := I.list hq
    obtain ⟨f0, f1, f2, f3, f4, f5⟩ := hf it (by simp)
    have hl := rv.length
    exact wpAny_pyNext_enum_end (I.ok.hd hc) he hit p.isList (by simp; omega) fun h' eb => ⟨rfl, I.turned (t' := s.toks) (fun b o hb q => eb b o hb q) f0 f1 f3 f4 f5⟩
  self := fun _ _ _ _ _ st h => by
    obtain ⟨⟨old, he⟩, _⟩ := st
    exact wpAny_pyIter_enum he h
def iEnum (K : PySem.W.Frag) (ta : TA) : TI := fun σ H R => ta σ H fun vs H1 => ∃ a, vs = [.ref a] ∧ (∃ xs, SqL K H1 a xs) ∧ R (Itn K a) H1
theorem pi_enum {X : Cx} {K : PySem.W.Frag} {elts : List Expr} {x1 : _} {tp : Pos} {a : Expr} {ta : TA} {p pos : Pos} (hK : X.K = K) (hg : Gl X "enumerate") (hm : X.mg "enumerate" = none) (ha : PA X [a] ta) (hs : starEach [a] X.env = [(false, eval a X.env)] := by rfl) :
    PI X (.Tuple elts x1 tp) (.Call (.Name "enumerate" p) [a] [] pos) (iEnum K ta) := by
  subst hK
  intro pins s σ H R I h
  refine Call_ (ld_blt I hg hm boot_enumerate (PyProof.Rows.callWith_type1 (thn (ha pos pins s σ H _ I h) fun us s1 ⟨vs, H1, I1, r1, q1⟩ => ?_) hs rfl))
  obtain ⟨l, e, ⟨xs, hq⟩, q⟩ := q1
  subst e
  cases r1 with
  | cons r rr =>
    cases rr
    cases r
    obtain ⟨its, rv, pl, hz⟩ := I1.list hq
    refine call_enumerate_list pl.isList fun h' he hit hz' hk => ?_
    refine wpAny_pyIter_enum (s := { s1 with heap := h' }) he ?_
    have I2 : Inv X pins σ H1 { s1 with heap := h' } := I1.kept (t' := s1.toks) hk
    refine ⟨s1.heap.objs.size + 1, [s1.heap.objs.size + 1, s1.heap.objs.size], _, _, H1, rfl, I2, turn_enum l (s1.heap.objs.size + 1) s1.heap.objs.size (Nat.ne_of_gt (Nat.lt_succ_self _)), ⟨⟨_, he⟩, hit⟩, fun b hb => ?_, q⟩
    simp only [List.mem_cons, List.not_mem_nil, or_false] at hb
    rcases hb with z | z
    · subst z
      exact I1.fpOk (by omega) (I1.hok.fresh (by omega))
    · subst z
      exact I1.fpOk (Nat.le_refl _) (I1.hok.fresh (Nat.le_refl _))
def enumI {α : Type} : Nat → List α → List (Int × α)
  | _, [] => []
  | n, a :: l => ((n : Int), a) :: enumI (n + 1) l
theorem enumI_get {α : Type} : ∀ (l : List α) (n i : Nat), (enumI n l)[i]? = (l[i]?).map fun a => (((n + i : Nat) : Int), a)
  | [], n, i => by simp [enumI]
  | a :: l, n, 0 => by simp [enumI]
  | a :: l, n, i + 1 => by
    show (enumI (n + 1) l)[i]? = _
    rw [enumI_get l (n + 1) i]
    have : n + 1 + i = n + (i + 1) := by omega
    rw [this]
    rfl
theorem enumI_length {α : Type} : ∀ (l : List α) (n : Nat), (enumI n l).length = l.length
  | [], _ => rfl
  | a :: l, n => by show (enumI (n + 1) l).length + 1 = _; rw [enumI_length l (n + 1)]; rfl
section
variable {K : PySem.W.Frag} {σ : St} {G H : Hp} {α β γ : Type} [Rp α] [Rp β] [Rp γ] {ta tb te : TE} {rest : TS} {D : Ends} {i j : Nat}
/-- a list to be walked by enumerate -/
def IE (K : PySem.W.Frag) {α : Type} [Rp α] (wi : TI) (σ : St) (G : Hp) (m : Option (List α)) : Prop :=
  ∀ G1, Same G G1 → ∀ a, m = some a → ∀ H, Same G1 H → ∀ R : It → Hp → Prop, (∀ l vs G2 H2, Ext G1 H G2 H2 → Rd G2 l (.lst vs) → Paired (Rp.rel K G2) vs a → R (Itn K l) H2) → wi σ H R
structure LoopObE (K : PySem.W.Frag) {α S ρ : Type} [Rp α] (RR : ρ → V → Hp → Hp → Prop) (f : Int × α → S → Option (Fl S ρ)) (g : TG) (tb : TS) (D : Ends) (σ : St) (G2 H2 : Hp) (s0 : S) (res : Fl S ρ) (RS : S → St → Hp → Hp → Prop) : Prop where
  start : RS s0 σ G2 H2
  keep : ∀ s σ' G' H', RS s σ' G' H' → Same G2 G' ∧ Same G' H'
  step : ∀ (x : V) (t : Addr) (a : Int × α) (s : S) (σ1 : St) (G1 H1 : Hp) (fl : Fl S ρ), RS s σ1 G1 H1 → H1 t = none → Rp.rel K G1 x a.2 → f a s = some fl → ∀ D' : Ends, (∀ s' σ' G' H', fl = .nx s' → RS s' σ' G' H' → D'.nx σ' H') → (∀ s' σ' G' H', fl = .nx s' → RS s' σ' G' H' → D'.ct σ' H') →
    (∀ s' σ' G' H', fl = .bk s' → RS s' σ' G' H' → D'.bk σ' H') → (∀ r v G' H', fl = .rt r → RR r v G' H' → D'.rt v H') → g (.ref t) σ1 (upd H1 t (.tup [.int a.1, x])) fun σ2 H2 => tb D' σ2 H2
  nxt : ∀ s σ' G' H', res = .nx s → RS s σ' G' H' → D.nx σ' H'
  rtn : ∀ r v G' H', res = .rt r → RR r v G' H' → D.rt v H'
def shrO (a b : Int) : Option Int := if 0 ≤ b then some (a / 2 ^ b.toNat) else none
def rAnyB (K : PySem.W.Frag) : List V → Hp → VK → Prop := fun vs H Q => ∃ (l : Addr) (bs : List Bool), vs = [.ref l] ∧ SqL K H l (bs.map V.bl) ∧ Q (.bl (bs.any id)) H
end
end L2

set_option Elab.async false
set_option linter.all false
set_option maxRecDepth 100000
set_option maxHeartbeats 4000000
namespace L2
open PySem PySem.Spec PyProof.Rows
def isTps (K : PySem.W.Frag) {α : Type} (R : Hp → V → α → Prop) : Hp → V → Tp α → Prop := fun H x a => ∃ t xs, x = .ref t ∧ SqT K H t xs ∧ Paired (R H) xs a.l
theorem tp_dec {α : Type} [DecidableEq α] {as bs : Tp α} {n m : Nat} (hn : n = as.l.length) (hm : m = bs.l.length) : ((List.range (min n m)).all (fun j => decide (as.l[j]? = bs.l[j]?)) && n == m) = decide (as = bs) := by
  obtain ⟨as⟩ := as
  obtain ⟨bs⟩ := bs
  subst hn
  subst hm
  by_cases hl : as.length = bs.length
  · show ((List.range (min as.length bs.length)).all (fun j => decide (as[j]? = bs[j]?)) && as.length == bs.length) = _
    rw [← hl, Nat.min_self, beq_self_eq_true, Bool.and_true, all_dec as bs hl]
    exact decide_eq_decide.mpr ⟨fun e => by rw [e], fun e => by cases e; rfl⟩
  · have h : (as.length == bs.length) = false := by simpa using hl
    have ne : Tp.mk as ≠ Tp.mk bs := fun e => by
      cases e
      exact hl rfl
    show (_ && as.length == bs.length) = _
    rw [h, Bool.and_false, decide_eq_false ne]
theorem eqTp {K : PySem.W.Frag} {k : Nat} {α : Type} [DecidableEq α] {R : Hp → V → α → Prop} (E : EqTy K k R) : EqTy K (k + 1) (isTps K R) := by
  have fn : ∀ {X : Cx} {pins : List (Addr × Obj)} {σ : St} {H : Hp} {s : Shared} {x : V} {a b : Tp α}, X.K = K → Inv X pins σ H s → isTps K R H x a → isTps K R H x b → a = b := by
    intro X pins σ H s x a b hK I ha hb
    obtain ⟨a⟩ := a
    obtain ⟨b⟩ := b
    obtain ⟨l, xs, rfl, h1, p1⟩ := ha
    obtain ⟨l', ys, e, h2, p2⟩ := hb
    cases e
    subst hK
    have := I.tuple_inj h1 h2
    subst this
    exact congrArg Tp.mk (paired_fn (F := R H) (fun _ _ _ p q => E.fn rfl I p q) p1 p2)
  have rc : ∀ {X : Cx} {pins : List (Addr × Obj)} {σ : St} {H : Hp} {s : Shared} {x y : V} {u v : Value} {a b : Tp α} (A : Around), X.K = K → Inv X pins σ H s → A.units + (k + 1) < cLine → RelV x u → RelV y v → isTps K R H x a → isTps K R H y b →
      SeqAt.RcAt A s u v (decide (a = b)) ∧ SeqAt.RcNeAt A s u v (!decide (a = b)) := by
    intro X pins σ H s x y u v a b A hK I hu r1 r2 ha hb
    obtain ⟨l, xs, rfl, h1, p1⟩ := ha
    obtain ⟨l', ys, rfl, h2, p2⟩ := hb
    cases r1; cases r2
    subst hK
    obtain ⟨us, rx, plx, _⟩ := I.tuple h1
    obtain ⟨vs, ry, ply, _⟩ := I.tuple h2
    have lx := rx.length
    have ly := ry.length
    have lpx := Paired.length p1
    have lpy := Paired.length p2
    have it := items_eqAt E rfl I hu rx ry p1 p2
    rw [← tp_dec (as := a) (bs := b) (n := us.toArray.size) (m := vs.toArray.size) (by simp; omega) (by simp; omega)]
    exact ⟨SeqAt.RcAt.tuples plx ply (by omega) it, SeqAt.RcNeAt.tuples plx ply (by omega) it⟩
  refine ⟨fn, ?_, rc⟩
  intro X pins σ H s x y u v a b A hK I hu r1 r2 ha hb
  have h := (rc A hK I hu r1 r2 ha hb).1
  obtain ⟨l, xs, rfl, h1, p1⟩ := id ha
  obtain ⟨l', ys, rfl, h2, p2⟩ := id hb
  cases r1; cases r2
  by_cases e : l = l'
  · subst e
    have : a = b := fn hK I ha hb
    rw [decide_eq_true this]
    exact SeqAt.EqAt.same _
  · exact SeqAt.EqAt.of_refs e h
theorem vals3' {x y z : V} {us : List Value} (h : Vals [x, y, z] us) : ∃ a b c, us = [a, b, c] ∧ RelV x a ∧ RelV y b ∧ RelV z c := by
  cases h with
  | cons r t => cases t with
    | cons r' t' => cases t' with
      | cons r'' t'' => cases t''; exact ⟨_, _, _, rfl, r, r', r''⟩
def isT3 (K : PySem.W.Frag) {α β γ : Type} (R : Hp → V → α → Prop) (S : Hp → V → β → Prop) (T : Hp → V → γ → Prop) : Hp → V → T3 α β γ → Prop := fun H x p => ∃ t a b c, x = .ref t ∧ SqT K H t [a, b, c] ∧ R H a p.a ∧ S H b p.b ∧ T H c p.c
theorem eqT3 {K : PySem.W.Frag} {k : Nat} {α β γ : Type} [DecidableEq α] [DecidableEq β] [DecidableEq γ] {R : Hp → V → α → Prop} {S : Hp → V → β → Prop} {T : Hp → V → γ → Prop} (E : EqTy K k R) (G : EqTy K k S) (F : EqTy K k T) : EqTy K (k + 1) (isT3 K R S T) := by
  have fn : ∀ {X : Cx} {pins : List (Addr × Obj)} {σ : St} {H : Hp} {s : Shared} {x : V} {a b : T3 α β γ}, X.K = K → Inv X pins σ H s → isT3 K R S T H x a → isT3 K R S T H x b → a = b := by
    intro X pins σ H s x a b hK I ha hb
    obtain ⟨l, x1, x2, x3, rfl, h1, p1, p2, p3⟩ := ha
    obtain ⟨l', y1, y2, y3, e, h2, q1, q2, q3⟩ := hb
    cases e
    subst hK
    have := I.tuple_inj h1 h2
    cases this
    obtain ⟨a1, a2, a3⟩ := a
    obtain ⟨b1, b2, b3⟩ := b
    have e1 : a1 = b1 := E.fn rfl I p1 q1
    have e2 : a2 = b2 := G.fn rfl I p2 q2
    have e3 : a3 = b3 := F.fn rfl I p3 q3
    rw [e1, e2, e3]
  have rc : ∀ {X : Cx} {pins : List (Addr × Obj)} {σ : St} {H : Hp} {s : Shared} {x y : V} {u v : Value} {a b : T3 α β γ} (A : Around), X.K = K → Inv X pins σ H s → A.units + (k + 1) < cLine → RelV x u → RelV y v → isT3 K R S T H x a → isT3 K R S T H y b →
      SeqAt.RcAt A s u v (decide (a = b)) ∧ SeqAt.RcNeAt A s u v (!decide (a = b)) := by
    intro X pins σ H s x y u v a b A hK I hu r1 r2 ha hb
    obtain ⟨l, x1, x2, x3, rfl, h1, p1, p2, p3⟩ := ha
    obtain ⟨l', y1, y2, y3, rfl, h2, q1, q2, q3⟩ := hb
    cases r1; cases r2
    subst hK
    obtain ⟨us, rx, plx, _⟩ := I.tuple h1
    obtain ⟨vs, ry, ply, _⟩ := I.tuple h2
    obtain ⟨u1, u2, u3, rfl, ru1, ru2, ru3⟩ := vals3' rx
    obtain ⟨v1, v2, v3, rfl, rv1, rv2, rv3⟩ := vals3' ry
    have e1 := E.eq A.in1 rfl I (show A.units + 1 + k < cLine by omega) ru1 rv1 p1 q1
    have e2 := G.eq A.in1 rfl I (show A.units + 1 + k < cLine by omega) ru2 rv2 p2 q2
    have e3 := F.eq A.in1 rfl I (show A.units + 1 + k < cLine by omega) ru3 rv3 p3 q3
    have it : ∀ j (h1 : j < [u1, u2, u3].toArray.size) (h2 : j < [v1, v2, v3].toArray.size), SeqAt.EqAt A.in1 s [u1, u2, u3].toArray[j] [v1, v2, v3].toArray[j] ((fun j => if j = 0 then decide (a.a = b.a) else if j = 1 then decide (a.b = b.b) else decide (a.c = b.c)) j) := by
      intro j h1 h2
      match j, h1 with
      | 0, _ => exact e1
      | 1, _ => exact e2
      | 2, _ => exact e3
      | j + 3, h => exact absurd h (by simp)
    have ed : ((List.range (min [u1, u2, u3].toArray.size [v1, v2, v3].toArray.size)).all (fun j => if j = 0 then decide (a.a = b.a) else if j = 1 then decide (a.b = b.b) else decide (a.c = b.c)) && [u1, u2, u3].toArray.size == [v1, v2, v3].toArray.size) = decide (a = b) := by
      apply Bool.eq_iff_iff.mpr
      rw [decide_eq_true_iff]
      constructor
      · intro h
        have h : (decide (a.a = b.a) && (decide (a.b = b.b) && (decide (a.c = b.c) && true)) && true) = true := h
        simp only [Bool.and_true, Bool.and_eq_true, decide_eq_true_iff] at h
        obtain ⟨a1, a2, a3⟩ := a
        obtain ⟨b1, b2, b3⟩ := b
        obtain ⟨h1, h2, h3⟩ := h
        dsimp only at h1 h2 h3
        rw [h1, h2, h3]
      · rintro rfl
        show (decide (a.a = a.a) && (decide (a.b = a.b) && (decide (a.c = a.c) && true)) && true) = true
        simp
    rw [← ed]
    exact ⟨SeqAt.RcAt.tuples plx ply (by omega) it, SeqAt.RcNeAt.tuples plx ply (by omega) it⟩
  refine ⟨fn, ?_, rc⟩
  intro X pins σ H s x y u v a b A hK I hu r1 r2 ha hb
  have h := (rc A hK I hu r1 r2 ha hb).1
  obtain ⟨l, x1, x2, x3, rfl, h1, p1, p2, p3⟩ := id ha
  obtain ⟨l', y1, y2, y3, rfl, h2, q1, q2, q3⟩ := id hb
  cases r1; cases r2
  by_cases e : l = l'
  · subst e
    have : a = b := fn hK I ha hb
    rw [decide_eq_true this]
    exact SeqAt.EqAt.same _
  · exact SeqAt.EqAt.of_refs e h
/-- no such thing is None, nor equal to it -/
class NoN (α : Type) [Rp α] : Prop where
  no_non : ∀ {K : PySem.W.Frag} {H : Hp} {x : V} {a : α}, Rp.rel K H x a → x ≠ .non
  ne : ∀ {K : PySem.W.Frag} {X : Cx} {pins : List (Addr × Obj)} {σ : St} {H : Hp} {s : Shared} {x : V} {u : Value} {a : α} (A : Around), X.K = K → Inv X pins σ H s → A.units < cLine → RelV x u → Rp.rel K H x a →
    (SeqAt.EqAt A s .none u false ∧ SeqAt.RcAt A s .none u false ∧ SeqAt.RcNeAt A s .none u true) ∧ SeqAt.EqAt A s u .none false ∧ SeqAt.RcAt A s u .none false ∧ SeqAt.RcNeAt A s u .none true
instance nnInt : NoN Int := ⟨fun h => (by cases h; exact fun z => (nomatch z)), fun A hK I hu r h => by
  cases h
  obtain ⟨t, rfl⟩ := r
  exact ⟨⟨SeqAt.EqAt.none_int _ _, SeqAt.RcAt.none_int _ _, SeqAt.RcNeAt.none_int _ _⟩, SeqAt.EqAt.int_none _ _, SeqAt.RcAt.int_none _ _, SeqAt.RcNeAt.int_none _ _⟩⟩
instance nnPair {α β : Type} [Rp α] [Rp β] : NoN (α × β) := ⟨fun h => (by obtain ⟨_, _, _, rfl, _⟩ := h; exact fun z => (nomatch z)), fun A hK I hu r h => by
  obtain ⟨t, x, y, rfl, h, _⟩ := h
  cases r
  subst hK
  obtain ⟨us, rx, pl, _⟩ := I.tuple h
  exact ⟨⟨SeqAt.EqAt.none_tuple pl hu, SeqAt.RcAt.none_tuple pl hu, SeqAt.RcNeAt.none_tuple pl hu⟩, SeqAt.EqAt.tuple_none pl hu, SeqAt.RcAt.tuple_none pl hu, SeqAt.RcNeAt.tuple_none pl hu⟩⟩
theorem eqOpt {K : PySem.W.Frag} {k : Nat} {α : Type} [Rp α] [DecidableEq α] [NoN α] (E : EqTy K k (Rp.rel (α := α) K)) : EqTy K k (Rp.rel (α := Option α) K) where
  fn := by
    intro X pins σ H s x a b hK I ha hb
    cases a with
    | none =>
      cases b with
      | none => rfl
      | some b =>

        have ha : x = .non := ha
        subst ha
        exact absurd rfl (NoN.no_non (α := α) hb)
    | some a =>
      cases b with
      | none =>
        have hb : x = .non := hb
        subst hb
        exact absurd rfl (NoN.no_non (α := α) ha)
      | some b => exact congrArg some (E.fn hK I ha hb)
  eq := by
    intro X pins σ H s x y u v a b A hK I hu r1 r2 ha hb
    cases a with
    | none =>
      have ha : x = .non := ha
      subst ha
      cases r1
      cases b with
      | none =>
        have hb : y = .non := hb
        subst hb
        cases r2
        exact SeqAt.EqAt.same _
      | some b => exact (NoN.ne (α := α) A hK I (by omega) r2 hb).1.1
    | some a =>
      cases b with
      | none =>
        have hb : y = .non := hb
        subst hb
        cases r2
        exact (NoN.ne (α := α) A hK I (by omega) r1 ha).2.1
      | some b =>
        have := E.eq A hK I hu r1 r2 ha hb
        have e3 : decide (some a = some b) = decide (a = b) := by simp
        rw [e3]
        exact this
  rc := by
    intro X pins σ H s x y u v a b A hK I hu r1 r2 ha hb
    cases a with
    | none =>
      have ha : x = .non := ha
      subst ha
      cases r1
      cases b with
      | none =>
        have hb : y = .non := hb
        subst hb
        cases r2
        exact ⟨SeqAt.RcAt.none_none, SeqAt.RcNeAt.none_none⟩
      | some b => exact (NoN.ne (α := α) A hK I (by omega) r2 hb).1.2
    | some a =>
      cases b with
      | none =>
        have hb : y = .non := hb
        subst hb
        cases r2
        exact (NoN.ne (α := α) A hK I (by omega) r1 ha).2.2
      | some b =>
        have := E.rc A hK I hu r1 r2 ha hb
        have e3 : decide (some a = some b) = decide (a = b) := by simp
        rw [e3]
        exact this
instance reTp {α : Type} [Rp α] [DecidableEq α] [RpE α] : RpE (Tp α) := ⟨RpE.k α + 1, fun K => (eqTp (RpE.ty K)).imp fun _ _ _ ⟨l, xs, e, h, _, p⟩ => ⟨l, xs, e, h, p⟩⟩
instance reT3 {α β γ : Type} [Rp α] [DecidableEq α] [RpE α] [Rp β] [DecidableEq β] [RpE β] [Rp γ] [DecidableEq γ] [RpE γ] : RpE (T3 α β γ) :=
  ⟨max (RpE.k α) (max (RpE.k β) (RpE.k γ)) + 1, fun K => eqT3 ((RpE.ty (α := α) K).up (Nat.le_max_left _ _)) ((RpE.ty (α := β) K).up (Nat.le_trans (Nat.le_max_left _ _) (Nat.le_max_right _ _))) ((RpE.ty (α := γ) K).up (Nat.le_trans (Nat.le_max_right _ _) (Nat.le_max_right _ _)))⟩
instance reOpt {α : Type} [Rp α] [DecidableEq α] [RpE α] [NoN α] : RpE (Option α) := ⟨RpE.k α, fun K => eqOpt (RpE.ty K)⟩
class Fix (α : Type) [Rp α] : Prop where
  fx : ∀ {K : PySem.W.Frag} {G G' : Hp} {v : V} {a : α}, Rp.rel K G v a → Rp.rel K G' v a
instance fxInt : Fix Int := ⟨fun h => h⟩
instance fxBool : Fix Bool := ⟨fun h => h⟩
instance fxStr : Fix Str := ⟨fun h => h⟩
section
variable {K : PySem.W.Frag} {σ : St} {G Gx H G1 H1 G0 H0 : Hp} {α β γ : Type} [Rp α] [Rp β] [Rp γ] {te ta tb tc ti : TE} {tt : TT} {t u rest : TS} {D : Ends} {i j : Nat} {as : List α} {bs : List β} {v w : V} {p q : Addr} {vs ws : List V}
structure Own3 (K : PySem.W.Frag) {α β γ : Type} [Rp α] [Rp β] [Rp γ] (G H : Hp) (v : V) (p : Addr) (vs : List V) (a : T3 α (List β) γ) : Prop where
  t : ∃ t x z, v = .ref t ∧ G t = some (.tup [x, .ref p, z]) ∧ Rp.rel K G x a.a ∧ Rp.rel K G z a.c
  o : Own K G H (.ref p) p vs a.b
variable {a : T3 α (List β) γ}
theorem Own3.ext (o : Own3 K G H v p vs a) (x : Ext G H G1 H1) : Own3 K G1 H1 v p vs a :=
  ⟨let ⟨t, y, z, e, h, r1, r2⟩ := o.t; ⟨t, y, z, e, x.gg _ _ h, Rp.mono x.gg r1, Rp.mono x.gg r2⟩, o.o.ext x⟩
theorem Own3.put {ho : HO} (o : Own3 K G H v p vs a) (h : p ≠ q) : Own3 K G (upd H q ho) v p vs a := ⟨o.t, o.o.put h⟩
theorem Own3.over {ho : HO} (o : Own3 K G H v p vs a) (ne : p ≠ q) (hq : G q = none) : Own3 K (upd G q ho) H v p vs a :=
  ⟨let ⟨t, y, z, e, h, r1, r2⟩ := o.t; ⟨t, y, z, e, Same.new hq _ _ h, Rp.mono (Same.new hq) r1, Rp.mono (Same.new hq) r2⟩, o.o.over ne hq⟩
theorem Own3.g (o : Own3 K G H v p vs a) : G p = none := o.o.g
theorem Own3.h (o : Own3 K G H v p vs a) : H p = some (.lst vs) := o.o.h
theorem Own3.same (o : Own3 K G H v p vs a) (s : Same G H) : Same (upd G p (.lst vs)) H := o.o.same s
theorem Own3.tell (o : Own3 K G H v p vs a) : Rp.rel K (upd G p (.lst vs)) v a := by
  obtain ⟨t, y, z, rfl, h, r1, r2⟩ := o.t
  exact ⟨t, y, .ref p, z, rfl, SqT.of (Same.new o.o.g _ _ h), Rp.mono (Same.new o.o.g) r1, o.o.tell, Rp.mono (Same.new o.o.g) r2⟩
def NT (K : PySem.W.Frag) {α β γ : Type} [Rp α] [Rp β] [Rp γ] (te : TE) (σ : St) (G : Hp) (m : Option (T3 α (List β) γ)) : Prop :=
  ∀ G1, Same G G1 → ∀ a, m = some a → ∀ H, Same G1 H → ∀ Q : VK, (∀ v p vs G2 H2, Ext G1 H G2 H2 → H p = none → Own3 K G2 H2 v p vs a → Q v H2) → te σ H Q
end
end L2

set_option Elab.async false
set_option linter.all false
set_option maxRecDepth 100000
set_option maxHeartbeats 4000000
namespace L2
open PySem PySem.Spec PyProof.Rows
def Itd (lo : Int) (n : Nat) : It := ⟨fun i _ => i < n, fun i H x H' => H' = H ∧ x = .int (lo - i), fun i _ => n ≤ i⟩
def iRngD (ta : TA) : TI := fun σ H R => ta σ H fun vs H1 => ∃ i j : Int, vs = [.int i, .int j, .int (-1)] ∧ (-(2 ^ 62) ≤ i ∧ i < 2 ^ 62 ∧ -(2 ^ 62) ≤ j ∧ j < 2 ^ 62) ∧ R (Itd i (i - j).toNat) H1
def rngD (lo hi : Int) : Option (List Int) := if (-(2 ^ 62) ≤ lo ∧ lo < 2 ^ 62 ∧ -(2 ^ 62) ≤ hi ∧ hi < 2 ^ 62) ∧ (lo - hi).toNat ≤ sizeLine then some ((List.range (lo - hi).toNat).map fun (i : Nat) => lo - (i : Int)) else none
section
variable {K : PySem.W.Frag} {σ : St} {G : Hp} {ta tb : TE}
end
end L2

set_option Elab.async false
set_option linter.all false
set_option maxRecDepth 100000
set_option maxHeartbeats 4000000
namespace L3
open PySem
section
variable {prog : Program} {w : World} {A : Around} {E : Value → Shared → Prop} {s : Shared}
abbrev Steps (a c : Int) (i : Nat) (v : Value) : Prop := ∃ t, v = .int (a + i * c) t
end
section
variable {prog : Program} {w : World} {A : Around} {E : Value → Shared → Prop} {s : Shared}
end
end L3

set_option Elab.async false
set_option linter.all false
set_option maxRecDepth 100000
set_option maxHeartbeats 4000000
namespace L2
open PySem PySem.Spec PyProof.Rows
theorem op_isB {X : Cx} : OpR X (compareOp .Is) (fun x y H Q => ∃ a b, x = .bl a ∧ y = .bl b ∧ Q (.bl (decide (a = b))) H) := by
  intro pins s σ H x y v u Q I rx ry h
  obtain ⟨a, b, rfl, rfl, q⟩ := h
  cases rx; cases ry
  refine wpAny_is_plain rfl (fin_bl I q ?_)
  cases a <;> cases b <;> rfl
def rRng1 : List V → Hp → VK → Prop := fun xs H Q => ∃ j : Int, xs = [.int j] ∧ ∀ p, H p = none → Q (.ref p) (upd H p (.rng 0 j))
def rRng2 : List V → Hp → VK → Prop := fun xs H Q => ∃ i j : Int, xs = [.int i, .int j] ∧ ∀ p, H p = none → Q (.ref p) (upd H p (.rng i j))
def intsV (lo hi : Int) : List V := (List.range (hi - lo).toNat).map fun (i : Nat) => V.int (lo + (i : Int))
def rngB (lo hi : Int) : Prop := (-(2 ^ 62) ≤ lo ∧ lo < 2 ^ 62 ∧ -(2 ^ 62) ≤ hi ∧ hi < 2 ^ 62) ∧ (hi - lo).toNat ≤ sizeLine
def rTupR : List V → Hp → VK → Prop := fun xs H Q => ∃ p lo hi, xs = [.ref p] ∧ H p = some (.rng lo hi) ∧ rngB lo hi ∧ ∀ l, H l = none → Q (.ref l) (upd H l (.tup (intsV lo hi)))
def rLstR : List V → Hp → VK → Prop := fun xs H Q => ∃ p lo hi, xs = [.ref p] ∧ H p = some (.rng lo hi) ∧ rngB lo hi ∧ ∀ l, H l = none → Q (.ref l) (upd H l (.lst (intsV lo hi)))
section
variable {K : PySem.W.Frag} {σ : St} {G : Hp} {ta tb : TE} {ia ib : Option Int}
theorem ev_isB {ma mb : Option Bool} (ea : EV K ta σ G ma) (eb : EV K tb σ G mb) : EV K (tOp (fun x y H Q => ∃ a b, x = .bl a ∧ y = .bl b ∧ Q (.bl (decide (a = b))) H) ta tb) σ G (ma.bind fun a => mb.bind fun b => some (decide (a = b))) :=
  ev_bin (fun s ra rb e Q k => by
    cases ra; cases rb; cases e
    exact ⟨_, _, rfl, rfl, k _ _ _ (.refl s) rfl⟩) ea eb
end
end L2

set_option Elab.async false
set_option linter.all false
set_option maxRecDepth 100000
set_option maxHeartbeats 4000000
namespace L2
open PySem PySem.Spec PyProof.Rows
def inner2 (cap : List Nat) (σ : St) : St := none :: none :: cap.map fun i => (σ[i]?).join
abbrev gTwo (K : PySem.W.Frag) : TG := gTup K 2 (gCons (gName 0) (gCons (gName 1) gNil))
theorem gTwo_at {K : PySem.W.Frag} {v : V} {σ : St} {H : Hp} {Q : St → Hp → Prop} (h : gTwo K v σ H Q) : gTwo K v σ H fun σ2 H2 => (∃ v0 v1, σ2 = (σ.set 0 (some v0)).set 1 (some v1)) ∧ Q σ2 H2 := by
  obtain ⟨a, xs, e, hs, hl, v0, r, e1, v1, r', e2, e3, q⟩ := h
  exact ⟨a, xs, e, hs, hl, v0, r, e1, v1, r', e2, e3, ⟨v0, v1, rfl⟩, q⟩
def tComp2 (K : PySem.W.Frag) (cap : List Nat) (wi : TI) (tc : TT) (te : TE) : TE := fun σ H Q => wi σ H fun J H1 => ∀ p, H1 p = none →
  ∃ W : Nat → Nat → List V → Hp → Prop, (∃ m, W 0 m [] (upd H1 p (.lst []))) ∧ ∀ i m xs H2, W i m xs H2 →
    (J.stop i H2 ∧ Q (.ref p) H2) ∨ (J.go i H2 ∧ ∃ N : List V → Hp → Prop, (∀ xs' H', N xs' H' → ∃ m', m' < m ∧ W (i + 1) m' xs' H') ∧
      ∀ x H3, J.yld i H2 x H3 → gTwo K x (inner2 cap σ) H3 fun σ2 H4 => tc σ2 H4 fun b H5 => if b = true then te σ2 H5 fun v H6 => H6 p = some (.lst xs) ∧ xs.length < sizeLine ∧ N (xs ++ [v]) (upd H6 p (.lst (xs ++ [v]))) else N xs H5)
section
variable {X : Cx} {pins : List (Addr × Obj)} {σ : St}
/-- the block's own invariant at its entry -/
theorem comp_start2 {scope : Scope} {x x' : Str} {cn : List Str} {cap : List Nat} {s3 : Shared} {H3 : Hp} {fp : List Addr} {h₁ : Heap} {tk : Nat} {H2 : Hp} (S : CompScope X scope) (I : Inv X pins σ H3 s3) (hc : X.calm = true) (hcap : Caps X scope cn cap)
    (f2 : ∀ b ∈ fp, FpOk X pins H2 b) (lt : ∀ b ∈ fp, b < s3.heap.objs.size) (keep : ∀ b o, s3.heap.get? b = some o → h₁.get? b = some o) (hns : h₁.Ns s3.heap.objs.size fun _ => none) :
    Inv (cxComp X (x :: x' :: cn) scope s3.heap.objs.size s3 H3 fp) [] (inner2 cap σ) H3 { s3 with heap := h₁, toks := tk } := by
  have noS : ∀ b o, X.base.get? b = some o → b < X.s₀.heap.objs.size := fun b o e => Nat.lt_of_lt_of_le (Heap.lt_size e) I.ok.bsz
  refine ⟨⟨I.ok.mod, S.kind, I.ok.glob, I.ok.blt, Nat.le_refl _, fun y z c h1 h2 => I.ok.inj y z c (clOf_sub h1) (clOf_sub h2), fun y hy => ?_, fun y c h => ?_, fun _ => I.ok.hd hc, I.ok.frames, .inl rfl, fun b hb => ⟨Nat.ne_of_lt (lt b hb), fun y c h => (f2 b hb).2.2.2.2.1 y c (clOf_sub h)⟩,
    I.bs, Nat.le_trans I.ok.bsz I.sz, fun b o e hb => ?_, fun b hb z => ?_, I.stack, I.stkFree⟩, rfl, I.bare, Un.kept keep, ⟨_, hns, fun i y v e1 e2 e3 => ?_⟩, fun y c e => ?_, I.hok.fresh (Nat.le_refl _), fun y c e => I.freeC y c (clOf_sub e), fun p hp => absurd (show p ∈ ([] : List (Addr × Obj)) from hp) (by simp), I.hok.kept keep, ?_⟩
  · have m := relabel_free S.cell hy
    obtain ⟨c, hc'⟩ := I.ok.has y (S.free _ m rfl)
    exact ⟨c, clOf_has m hc'⟩
  · cases h
  · rcases (f2 b hb).2.2.2.1 with z | z
    · exact I.ok.noex b o e z
    · exact absurd (Nat.lt_of_lt_of_le (noS b o e) z) (Nat.lt_irrefl _)
  · rcases List.mem_cons.mp (I.stkSub b z) with e | e
    · exact (f2 b hb).2.1 e
    · exact (f2 b hb).2.2.1 e
  · cases i with
    | zero =>
      have e2 : (some none : Option (Option V)) = some (some v) := e2
      cases e2
    | succ j =>
     cases j with
     | zero =>
      have e2 : (some none : Option (Option V)) = some (some v) := e2
      cases e2
     | succ j =>
      have e1 : cn[j]? = some y := e1
      obtain ⟨k, hk, hN, hkind, hfr⟩ := hcap.at e1
      have e2 : (cap.map fun i => (σ[i]?).join)[j]? = some (some v) := e2
      rw [List.getElem?_map, hk] at e2
      have e2 : (σ[k]?).join = some v := Option.some.inj e2
      have e2 : σ[k]? = some (some v) := by
        cases q : σ[k]? with
        | none => rw [q] at e2; cases e2
        | some o => rw [q] at e2; cases o with
          | none => cases e2
          | some v' => have e2 : some v' = some v := e2; rw [e2]
      obtain ⟨m, hn, hl⟩ := I.loc
      obtain ⟨u, r, l⟩ := hl k y v hN e2 (.inr hkind)
      refine ⟨u, r, ?_⟩
      rcases l with ⟨kl, _⟩ | ⟨_, c, hc', o, ho, hd⟩
      · have kl : X.env.scope.names.lookup y = some .local := kl
        rw [kl] at hkind
        rcases hkind with z | z <;> cases z
      · refine .inr ⟨?_, c, clOf_has (PySem.mem_of_lookup hfr) hc', o, keep c o ho, hd⟩
        rcases e3 with z | z
        · -- relabelled local: the name is local in the block
          exfalso
          have z : (relabel scope X.env).names.lookup y = some .local := z
          have hm := PySem.mem_of_lookup z
          unfold relabel at hm
          obtain ⟨⟨n, k'⟩, hp, e⟩ := List.mem_map.mp hm
          dsimp only at e
          have hl2 : (y, NameKind.local) ∈ scope.names := by
            split at e
            · cases e
            · cases e; exact hp
          have := S.names _ hl2 rfl
          rw [hfr] at this
          cases this
        · exact z
  · obtain ⟨v, o, ho, hd⟩ := I.cell y c (clOf_sub e)
    exact ⟨v, o, keep c o ho, hd⟩
  · show (inner2 cap σ).length = (x :: x' :: cn).length
    unfold inner2
    rw [List.length_cons, List.length_cons, List.length_map, hcap.len, List.length_cons, List.length_cons]

theorem comp_core2 {scope : Scope} {x x' : Str} {px px' pt pos : Pos} {k0 : Nat} {elt iter : Expr} {ifs : List Expr} {cn : List Str} {cap : List Nat} {s2 : Shared} {H2 : Hp} {it : Addr} {fp : List Addr} {tn : Nat → Heap → Prop} {J : It} {tc : TT} {te : TE} {Q : VK} {RR : Value → Addr → Result → Shared → Prop} {E : Value → Shared → Prop}
    (S : CompScope X scope) (I2 : Inv X pins σ H2 s2) (hc : X.calm = true) (hcap : Caps X scope cn cap) (hx : scope.names.lookup x = some .local) (hx' : scope.names.lookup x' = some .local) (hnd : (x :: x' :: cn).Nodup)
    (T : Turn X.prog X.w X.K (.Tuple [.Name x px, .Name x' px'] k0 pt) J fp it tn) (st2 : tn 0 s2.heap) (f2 : ∀ b ∈ fp, FpOk X pins H2 b)
    (body : ∀ (C : Addr) (s : Shared) (H : Hp) (fp : List Addr), PTs (cxComp X (x :: x' :: cn) scope C s H fp) ifs tc ∧ PE (cxComp X (x :: x' :: cn) scope C s H fp) elt te)
    (q : ∀ p, H2 p = none → ∃ W : Nat → Nat → List V → Hp → Prop, (∃ m, W 0 m [] (upd H2 p (.lst []))) ∧ ∀ i m xs H3, W i m xs H3 →
      (J.stop i H3 ∧ Q (.ref p) H3) ∨ (J.go i H3 ∧ ∃ N : List V → Hp → Prop, (∀ xs' H', N xs' H' → ∃ m', m' < m ∧ W (i + 1) m' xs' H') ∧
        ∀ v H4, J.yld i H3 v H4 → gTwo X.K v (inner2 cap σ) H4 fun σ2 H4 => tc σ2 H4 fun b H5 => if b = true then te σ2 H5 fun v H6 => H6 p = some (.lst xs) ∧ xs.length < sizeLine ∧ N (xs ++ [v]) (upd H6 p (.lst (xs ++ [v]))) else N xs H5))
    (hRR : ∀ (p C : Addr) (s3 s' : Shared) (H3 Hf : Hp) (σ' : St), Inv X pins σ H3 s3 → s3.heap.objs.size = C → Inv (cxComp X (x :: x' :: cn) scope C s3 H3 fp) [] σ' Hf s' → Q (.ref p) Hf → RR (.ref p) C (.ok .next) s') :
    wpAny (model X.prog X.w) X.A (newList []) (fun acc s₃ => wpAny (model X.prog X.w) X.A (newFunctionEnv scope X.env.globals (clOf scope X.env) [] X.env.qual none .none (some X.env)) (fun cenv s₄ =>
      codeAny (model X.prog X.w) X.A (.compStart (.ListComp elt [⟨.Tuple [.Name x px, .Name x' px'] k0 pt, iter, ifs, 0⟩] scope pos) 0 (.ref it) acc { cenv with scope := relabel scope X.env }) (RR acc cenv.locals) s₄) E s₃) E s2 := by
  refine wpAny_newObj_type (wpAny_newFunctionEnv S.cell (by intro y hy; simp at hy) (fun h₁ hns₁ hsb₁ => ?_) S.kind)
  dsimp only at hns₁ hsb₁ ⊢
  have hfr : H2 s2.heap.objs.size = none := I2.hok.fresh (Nat.le_refl _)
  obtain ⟨W, ⟨m0, w0⟩, turn⟩ := q _ hfr
  have I3 : Inv X pins σ (upd H2 s2.heap.objs.size (.lst [])) { s2 with heap := s2.heap.push { cls := .type "list", data := .seq ([] : List Value).toArray } } :=
    I2.lnew (its := []) (t' := s2.toks) .nil (Nat.zero_le _)
  generalize hs3 : ({ s2 with heap := s2.heap.push { cls := .type "list", data := .seq ([] : List Value).toArray } } : Shared) = s3 at I3
  have hs3h : s3.heap = s2.heap.push { cls := .type "list", data := .seq ([] : List Value).toArray } := by rw [← hs3]
  have hst3 : tn 0 s3.heap := T.keep _ _ _ st2 fun b hb o e => by rw [hs3h]; exact Heap.get?_push_of_some _ e
  have ltf : ∀ b ∈ fp, b < s3.heap.objs.size := fun b hb => by
    obtain ⟨o, e, _⟩ := T.obj _ _ hst3 b hb
    exact Heap.lt_size e
  have hC : (s2.heap.push { cls := .type "list", dict := none, data := .seq ([] : List Value).toArray }).objs.size = s3.heap.objs.size := by rw [hs3h]
  rw [hC] at hns₁ hsb₁ ⊢
  have keep : ∀ b o, s3.heap.get? b = some o → h₁.get? b = some o := fun b o e => by
    refine hsb₁.extBut b o (Nat.ne_of_lt (Heap.lt_size e)) (Heap.get?_push_of_some _ ?_)
    rw [hs3h] at e
    exact e
  have J4 : Inv (cxComp X (x :: x' :: cn) scope s3.heap.objs.size s3 (upd H2 s2.heap.objs.size (.lst [])) fp) [] (inner2 cap σ) (upd H2 s2.heap.objs.size (.lst [])) { s3 with heap := h₁, toks := s2.toks + ([] : List (Str × Value)).length } :=
    comp_start2 S I3 hc hcap f2 ltf keep hns₁
  have st4 : tn 0 h₁ := T.keep _ _ _ hst3 fun b hb o e => keep b o e
  have fr4 : ∀ b ∈ fp, (upd H2 s2.heap.objs.size (.lst [])) b = none := fun b hb => by
    obtain ⟨o, e, _⟩ := T.obj _ _ st2 b hb
    rw [upd_ne (Nat.ne_of_lt (Heap.lt_size e))]
    exact (f2 b hb).1
  have hst : ({ s2 with heap := h₁, toks := s2.toks + ([] : List (Str × Value)).length } : Shared) = { s3 with heap := h₁, toks := s2.toks + ([] : List (Str × Value)).length } := by rw [← hs3]
  have loop : codeAny (model X.prog X.w) X.A (.compLoop (.ListComp elt [⟨.Tuple [.Name x px, .Name x' px'] k0 pt, iter, ifs, 0⟩] scope pos) 0 (.ref it) (.ref s2.heap.objs.size) (compEnvC scope (clOf scope X.env) s3.heap.objs.size X.env))
      (RR (.ref s2.heap.objs.size) s3.heap.objs.size) { s2 with heap := h₁, toks := s2.toks + ([] : List (Str × Value)).length } := by
    rw [hst]
    generalize hX' : cxComp X (x :: x' :: cn) scope s3.heap.objs.size s3 (upd H2 s2.heap.objs.size (.lst [])) fp = X' at J4
    have hfpk : ∀ {Hc : Hp}, (∀ b ∈ fp, Hc b = none) → ∀ b ∈ fp, FpOk X' [] Hc b := fun {Hc} hn b hb => by
      subst hX'
      refine ⟨hn b hb, (J4.ok.exf b hb).1, J4.ok.exfs b hb, .inl hb, (J4.ok.exf b hb).2, fun p hp => absurd (show p ∈ ([] : List (Addr × Obj)) from hp) (by simp)⟩
    refine compLoop_any (fun n s' => ∃ i xs Hc, Inv X' [] (inner2 cap σ) Hc s' ∧ tn i s'.heap ∧ (∀ b ∈ fp, Hc b = none) ∧ W i n xs Hc) ?_ m0 ⟨0, [], _, J4, st4, fr4, w0⟩
    rintro n s5 ⟨i, xs, Hc, I5, st5, fr5, w5⟩
    have B := body s3.heap.objs.size s3 (upd H2 s2.heap.objs.size (.lst [])) fp
    rcases turn i n xs Hc w5 with ⟨stop, qn⟩ | ⟨go, N, hN, step⟩
    · subst hX'
      refine thn (T.done (cxComp X (x :: x' :: cn) scope s3.heap.objs.size s3 (upd H2 s2.heap.objs.size (.lst [])) fp) rfl rfl rfl rfl i [] s5 (inner2 cap σ) Hc (fun _ _ => False) I5 (hfpk fr5) st5 stop) fun r s6 ⟨hr, I6⟩ => ?_
      subst hr
      exact hRR _ _ s3 s6 _ Hc _ I3 rfl I6 qn
    · subst hX'
      refine thn (T.item (cxComp X (x :: x' :: cn) scope s3.heap.objs.size s3 (upd H2 s2.heap.objs.size (.lst [])) fp) rfl rfl rfl rfl i [] s5 (inner2 cap σ) Hc (fun _ _ => False) I5 (hfpk fr5) st5 go) fun r s6 ⟨u, hr, h6⟩ => ?_
      subst hr
      refine thn h6 fun _ s7 ⟨v, H7, I7, r7, y7, st7, fr7⟩ => ?_
      have I7' := I7.pinned (hfpk fr7) (T.obj _ _ st7)
      have hlook : (relabel scope X.env).names.lookup x = some .local := lookup_relabel_local hx
      have hlook' : (relabel scope X.env).names.lookup x' = some .local := lookup_relabel_local hx'
      have hg : PG (cxComp X (x :: x' :: cn) scope s3.heap.objs.size s3 (upd H2 s2.heap.objs.size (.lst [])) fp) (.Tuple [.Name x px, .Name x' px'] k0 pt) (gTwo X.K) :=
        pg_tup rfl (pgs_cons (pg_name (i := 0) hnd rfl (.inl hlook) (.inr hlook)) (pgs_cons (pg_name (i := 1) hnd rfl (.inl hlook') (.inr hlook')) pgs_nil))
      refine thn (hg _ s7 _ H7 v u _ I7' r7 (gTwo_at (step v H7 y7))) fun _ s8 ⟨σ8, H8, I8, ⟨v0, v1, e8⟩, q8⟩ => ?_
      subst e8
      have again : ∀ {s9 : Shared} {H9 : Hp} {ys : List V}, Inv (cxComp X (x :: x' :: cn) scope s3.heap.objs.size s3 (upd H2 s2.heap.objs.size (.lst [])) fp) ([] ++ pinsAt fp s7.heap) (((inner2 cap σ).set 0 (some v0)).set 1 (some v1)) H9 s9 → N ys H9 →
          ∃ m, m < n ∧ ∃ i xs Hc, Inv (cxComp X (x :: x' :: cn) scope s3.heap.objs.size s3 (upd H2 s2.heap.objs.size (.lst [])) fp) [] (inner2 cap σ) Hc s9 ∧ tn i s9.heap ∧ (∀ b ∈ fp, Hc b = none) ∧ W i m xs Hc := fun {s9 H9 ys} I9 n9 => by
        obtain ⟨m', hm, w9⟩ := hN ys H9 n9
        refine ⟨m', hm, i + 1, ys, H9, (I9.unpinned (pins := [])).weak (by simp [inner2]) (fun j w e => ?_), T.keep _ _ _ st7 fun b hb o e => (I9.pin (b, o) (List.mem_append_right _ (List.mem_append_right _ (mem_pinsAt hb e)))).1, fun b hb => ?_, w9⟩
        · cases j with
          | zero =>
            have e : (some none : Option (Option V)) = some (some w) := e
            cases e
          | succ j =>
            cases j with
            | zero =>
              have e : (some none : Option (Option V)) = some (some w) := e
              cases e
            | succ j => exact e
        · obtain ⟨o, e, _⟩ := T.obj _ _ st7 b hb
          exact (I9.pin (b, o) (List.mem_append_right _ (List.mem_append_right _ (mem_pinsAt hb e)))).2.1
      refine thn (B.1 _ s8 _ H8 _ I8 q8) fun ok s9 ⟨H9, I9, q9⟩ => ?_
      cases ok with
      | false =>
        rw [if_neg Bool.false_ne_true] at q9 ⊢
        exact again I9 q9
      | true =>
        rw [if_pos rfl] at q9 ⊢
        refine thn (B.2 _ s9 _ H9 _ I9 q9) fun uy s10 ⟨y, H10, I10, r10, hp, hl, n10⟩ => ?_
        refine thn (mt_append _ s10 _ H10 (.ref s2.heap.objs.size) [y] (.ref s2.heap.objs.size) [uy] (fun _ H11 => N (xs ++ [y]) H11) I10 rfl (.cons r10 .nil) ⟨_, xs, y, rfl, rfl, hp, hl, n10⟩) fun _ s11 ⟨_, H11, I11, _, n11⟩ => ?_
        exact again I11 n11
  exact codeAny_compStart_list loop (T.self _ _ _ _ _ st4 loop)

theorem pe_comp2 {scope : Scope} {x x' : Str} {px px' pt pos : Pos} {k0 : Nat} {elt iter : Expr} {ifs : List Expr} {cn : List Str} {cap : List Nat} {wi : TI} {tc : TT} {te : TE}
    (hc : X.calm = true) (S : CompScope X scope) (hx : scope.names.lookup x = some .local) (hx' : scope.names.lookup x' = some .local) (hnd : (x :: x' :: cn).Nodup) (hcap : Caps X scope cn cap) (hi : PI X (.Tuple [.Name x px, .Name x' px'] k0 pt) iter wi)
    (body : ∀ (C : Addr) (s : Shared) (H : Hp) (fp : List Addr), PTs (cxComp X (x :: x' :: cn) scope C s H fp) ifs tc ∧ PE (cxComp X (x :: x' :: cn) scope C s H fp) elt te)
    (hs : ∀ x, foldedSetIterable iter X.env x = pure x := by intro _; rfl) : PE X (.ListComp elt [⟨.Tuple [.Name x px, .Name x' px'] k0 pt, iter, ifs, 0⟩] scope pos) (tComp2 X.K cap wi tc te) := by
  intro pins s σ H Q I h
  rw [eval_ListComp]
  refine wpAny_comprehension_free (use := none) rfl hs (S.clos I) S.kind S.names (thn (hi pins s σ H _ I h) fun xv s1 h1 => thn h1 fun itv s2 h2 => ?_)
  obtain ⟨it, fp, tn, J, H2, e, I2, T, st2, f2, q⟩ := h2
  subst e
  refine comp_core2 (RR := fun acc C => compPost (model X.prog X.w) X.A X.xe none (EP X pins σ Q) acc C) S I2 hc hcap hx hx' hnd T st2 f2 body q ?_
  intro p C s3 s' H3 Hf σ' I3 hC J' qf
  subst hC
  have I4 := comp_out I3 J' f2
  obtain ⟨m, hn, _⟩ := J'.loc
  refine ⟨m, hn, fun h' hs' => ?_⟩
  refine ⟨.ref p, Hf, ?_, rfl, qf⟩
  have f := I3.fpOk (H' := Hf) (Nat.le_refl _) J'.free
  exact I4.turned (t' := s'.toks) (it := s3.heap.objs.size) (fun b o hb e => (hs'.2 b hb).trans e) f.1 f.2.1 f.2.2.2.1 f.2.2.2.2.1 f.2.2.2.2.2

end
end L2

set_option Elab.async false
set_option linter.all false
set_option maxRecDepth 100000
set_option maxHeartbeats 4000000
namespace L2
open PySem PySem.Spec PyProof.Rows
def Itns (x : Str) : It :=
  ⟨fun i _ => i < x.cps.size, fun i H y H' => ∃ t v, y = .ref t ∧ H t = none ∧ H' = upd H t (.tup [.int i, v]) ∧ (signsV x)[i]? = some v, fun i _ => i = x.cps.size⟩
def iEnumS (ta : TA) : TI := fun σ H R => ta σ H fun vs H1 => ∃ x, vs = [.str x] ∧ R (Itns x) H1
structure YieldsE (J : It) (H : Hp) (xs : List V) : Prop where
  go : ∀ i H', Same H H' → i < xs.length → J.go i H'
  stop : ∀ H', Same H H' → J.stop xs.length H'
  yld : ∀ (i : Nat) (H' : Hp) (x : V) (H'' : Hp), Same H H' → i < xs.length → J.yld i H' x H'' → ∃ t v, x = .ref t ∧ H' t = none ∧ H'' = upd H' t (.tup [.int i, v]) ∧ xs[i]? = some v
section
variable {K : PySem.W.Frag} {σ : St} {G : Hp} {α β : Type} [Rp α] [Rp β] {ta : TE}
def IF (K : PySem.W.Frag) {α : Type} [Rp α] (wi : TI) (σ : St) (G : Hp) (m : Option (List α)) : Prop :=
  ∀ G1, Same G G1 → ∀ a, m = some a → ∀ H, Same G1 H → ∀ R : It → Hp → Prop, (∀ J vs G2 H2, Ext G1 H G2 H2 → YieldsE J G2 vs → vs.length ≤ sizeLine → Paired (Rp.rel K G2) vs a → R J H2) → wi σ H R
theorem if_list {la : Option (List α)} (ea : EV K ta σ G la) : IF K (iEnum K (tCons ta tNil)) σ G la := by
  intro G1 s1 a ha H sH R k
  refine ea G1 s1 a ha H sH _ fun v G2 H2 x2 r2 => ?_
  obtain ⟨l, xs, rfl, h, z, p⟩ := r2
  refine ⟨l, rfl, ⟨xs, .inl (x2.gh.rd h)⟩, k _ xs G2 H2 x2 ⟨fun i H' s hi => ⟨xs, xs[i], .inl (s.rd h), by simp [hi]⟩, fun H' s => ⟨xs, .inl (s.rd h), Nat.le_refl _⟩, fun i H' y H'' s hi hy => ?_⟩ z p⟩
  obtain ⟨t, v, e1, e2, e3, e4⟩ := hy
  exact ⟨t, v, e1, e2, e3, e4 xs (.inl (s.rd h))⟩
theorem rel_i (G : Hp) (i : Int) : Rp.rel K G (V.int i) i := rfl
theorem fv_comp2 {cap : List Nat} {wi : TI} {tt : TT} {te : TE} {mi : Option (List α)} {fc : Int × α → Option Bool} {fe : Int × α → Option β} (ei : IF K wi σ G mi)
    (hb : ∀ (x : V) (a : Int × α) (G1 : Hp), Same G G1 → Rp.rel K G1 x a.2 → TV tt (((inner2 cap σ).set 0 (some (.int a.1))).set 1 (some x)) G1 (fc a) ∧ EV K te (((inner2 cap σ).set 0 (some (.int a.1))).set 1 (some x)) G1 (fe a)) :
    FV K (tComp2 K cap wi tt te) σ G (mi.bind fun as => compO fc fe (enumI 0 as)) := by
  intro G1 s1 c hc H sH Q k
  obtain ⟨as, has, hc⟩ := Option.bind_eq_some_iff.mp hc
  refine ei G1 s1 as has H sH _ fun J vs Ga Ha xa Y hz pr p hp => ?_
  have hla := Paired.length pr
  have hle := enumI_length as 0
  refine ⟨fun i m ys H2 => m = vs.length - i ∧ i ≤ vs.length ∧ ∃ G2 bs cs, Ext Ga Ha G2 H2 ∧ G2 p = none ∧ H2 p = some (.lst ys) ∧ ys.length ≤ i ∧ Paired (Rp.rel K G2) ys bs ∧ compO fc fe ((enumI 0 as).drop i) = some cs ∧ c = bs ++ cs,
    ⟨vs.length, by simp, Nat.zero_le _, Ga, [], c, .own xa.gh hp, xa.gh.free hp, upd_same, Nat.le_refl _, .nil, hc, rfl⟩, ?_⟩
  rintro i m ys H2 ⟨rfl, hi, G2, bs, cs, x2, hg, hh, hy, hpr, hcs, rfl⟩
  by_cases hlt : i < vs.length
  · refine .inr ⟨Y.go i _ (x2.gg.trans x2.gh) hlt, fun ys' H' => ∃ G2 bs' cs', Ext Ga Ha G2 H' ∧ G2 p = none ∧ H' p = some (.lst ys') ∧ ys'.length ≤ i + 1 ∧ Paired (Rp.rel K G2) ys' bs' ∧ compO fc fe ((enumI 0 as).drop (i + 1)) = some cs' ∧ bs ++ cs = bs' ++ cs',
      fun ys' H' ⟨G3, bs', cs', h⟩ => ⟨vs.length - (i + 1), by omega, rfl, hlt, G3, bs', cs', h⟩, fun x H3 y => ?_⟩
    obtain ⟨t, v, rfl, ht, rfl, hv⟩ := Y.yld i _ x H3 (x2.gg.trans x2.gh) hlt y
    obtain ⟨a, hai, ra⟩ := Paired.getR pr hv
    have hge : (enumI 0 as)[i]? = some ((i : Int), a) := by rw [enumI_get, hai]; simp
    have hd : (enumI 0 as).drop i = ((i : Int), a) :: (enumI 0 as).drop (i + 1) := by
      obtain ⟨h1, h2⟩ := List.getElem?_eq_some_iff.mp hge
      rw [List.drop_eq_getElem_cons h1, h2]
    rw [hd] at hcs
    obtain ⟨b, hbb, hcs⟩ := Option.bind_eq_some_iff.mp hcs
    have xn := Ext.new (o := .tup [.int i, v]) x2.gh ht
    have x2 := x2.trans xn
    have ne : p ≠ t := fun e => by rw [e, ht] at hh; cases hh
    have hh : (upd H2 t (.tup [.int i, v])) p = some (.lst ys) := by rw [upd_ne ne]; exact hh
    have hg : (upd G2 t (.tup [.int i, v])) p = none := by rw [upd_ne ne]; exact hg
    have hpr := Paired.imp' (fun _ _ r => Rp.mono xn.gg r) hpr
    have B := hb v ((i : Int), a) _ (s1.trans (xa.gg.trans x2.gg)) (Rp.mono x2.gg ra)
    refine ⟨t, _, rfl, SqT.of upd_same, rfl, _, _, rfl, _, _, rfl, rfl, ?_⟩
    refine B.1 _ (.refl _) b hbb _ x2.gh _ fun G5 H5 x5 => ?_
    have hp5 : H5 p = some (.lst ys) := x5.hh _ _ hh
    have hg5 : G5 p = none := x5.no p hg (by rw [hh]; exact fun z => nomatch z)
    cases b with
    | false =>
      rw [if_neg Bool.false_ne_true]
      exact ⟨G5, bs, cs, x2.trans x5, hg5, hp5, by omega, Paired.imp' (fun _ _ r => Rp.mono x5.gg r) hpr, hcs, rfl⟩
    | true =>
      rw [if_pos rfl]
      obtain ⟨z, hze, hcs⟩ := Option.bind_eq_some_iff.mp hcs
      obtain ⟨cs', hcs', hcs⟩ := Option.bind_eq_some_iff.mp hcs
      cases hcs
      refine B.2 G5 x5.gg z hze H5 x5.gh _ fun v G6 H6 x6 r6 => ?_
      have hp6 : H6 p = some (.lst ys) := x6.hh _ _ hp5
      have hg6 : G6 p = none := x6.no p hg5 (by rw [hp5]; exact fun z => nomatch z)
      refine ⟨hp6, by omega, G6, bs ++ [z], cs', ((x2.trans x5).trans x6).put hp hg6, hg6, upd_same, ?_, Paired.app (Paired.imp' (fun _ _ r => Rp.mono (x5.trans x6).gg r) hpr) (.cons r6 .nil), hcs', by simp⟩
      rw [List.length_append, List.length_singleton]
      omega
  · have e : i = vs.length := by omega
    subst e
    have hd : (enumI 0 as).drop vs.length = [] := List.drop_eq_nil_of_le (by omega)
    rw [hd] at hcs
    cases hcs
    refine .inl ⟨Y.stop _ (x2.gg.trans x2.gh), ?_⟩
    rw [List.append_nil] at k
    exact k p ys G2 H2 (xa.trans x2) (xa.hh.free hp) hg hh (by omega) hpr
end
end L2

set_option Elab.async false
set_option linter.all false
set_option maxRecDepth 100000
set_option maxHeartbeats 4000000
namespace L2
open PySem PySem.Spec PyProof.Rows
inductive SI where
  | s (x : Str)
  | i (n : Int)
  deriving DecidableEq
def RelSI (v : V) : SI → Prop
  | .s x => v = .str x ∧ x.length ≤ sizeLine
  | .i n => v = .int n
instance rpSI : Rp SI := ⟨fun _ _ v a => RelSI v a, fun _ h => h⟩
instance imSI : Imm SI := ⟨fun _ h => h⟩
theorem eqSI {K : PySem.W.Frag} : EqTy K 0 (Rp.rel (α := SI) K) where
  fn := fun {X pins σ H s x a b} hK I h1 h2 => by
    cases a with
    | s y => cases b with
      | s z => obtain ⟨rfl, _⟩ := h1; obtain ⟨e, _⟩ := h2; cases e; rfl
      | i n => obtain ⟨rfl, _⟩ := h1; cases h2
    | i m => cases b with
      | s z => obtain ⟨rfl, _⟩ := h2; cases h1
      | i n =>
        have h1 : x = .int m := h1
        have h2 : x = .int n := h2
        subst h1
        cases h2
        rfl
  eq := fun {X pins σ H s x y u v a b} A hK I hu r1 r2 h1 h2 => by
    cases a with
    | s p => cases b with
      | s q =>
        obtain ⟨rfl, _⟩ := h1
        obtain ⟨rfl, _⟩ := h2
        have := eqStr.eq (K := K) (a := p) (b := q) A hK I hu r1 r2 rfl rfl
        rwa [show decide (SI.s p = SI.s q) = decide (p = q) from decide_eq_decide.mpr ⟨fun e => by cases e; rfl, fun e => by rw [e]⟩]
      | i n =>
        obtain ⟨rfl, _⟩ := h1
        have h2 : y = .int n := h2
        subst h2
        obtain ⟨t, rfl⟩ := r1
        obtain ⟨t', rfl⟩ := r2
        rw [decide_eq_false (fun e => by cases e)]
        exact SeqAt.EqAt.str_int _ _ _ _
    | i m => cases b with
      | s q =>
        obtain ⟨rfl, _⟩ := h2
        have h1 : x = .int m := h1
        subst h1
        obtain ⟨t, rfl⟩ := r1
        obtain ⟨t', rfl⟩ := r2
        rw [decide_eq_false (fun e => by cases e)]
        exact SeqAt.EqAt.int_str _ _ _ _
      | i n =>
        have := eqInt.eq (K := K) (a := m) (b := n) A hK I hu r1 r2 h1 h2
        rwa [show decide (SI.i m = SI.i n) = decide (m = n) from decide_eq_decide.mpr ⟨fun e => by cases e; rfl, fun e => by rw [e]⟩]
  rc := fun {X pins σ H s x y u v a b} A hK I hu r1 r2 h1 h2 => by
    cases a with
    | s p => cases b with
      | s q =>
        obtain ⟨rfl, _⟩ := h1
        obtain ⟨rfl, _⟩ := h2
        have := eqStr.rc (K := K) (a := p) (b := q) A hK I hu r1 r2 rfl rfl
        rwa [show decide (SI.s p = SI.s q) = decide (p = q) from decide_eq_decide.mpr ⟨fun e => by cases e; rfl, fun e => by rw [e]⟩]
      | i n =>
        obtain ⟨rfl, _⟩ := h1
        have h2 : y = .int n := h2
        subst h2
        obtain ⟨t, rfl⟩ := r1
        obtain ⟨t', rfl⟩ := r2
        rw [decide_eq_false (fun e => by cases e)]
        exact ⟨SeqAt.RcAt.str_int _ _ _ _, SeqAt.RcNeAt.str_int _ _ _ _⟩
    | i m => cases b with
      | s q =>
        obtain ⟨rfl, _⟩ := h2
        have h1 : x = .int m := h1
        subst h1
        obtain ⟨t, rfl⟩ := r1
        obtain ⟨t', rfl⟩ := r2
        rw [decide_eq_false (fun e => by cases e)]
        exact ⟨SeqAt.RcAt.int_str _ _ _ _, SeqAt.RcNeAt.int_str _ _ _ _⟩
      | i n =>
        have := eqInt.rc (K := K) (a := m) (b := n) A hK I hu r1 r2 h1 h2
        rwa [show decide (SI.i m = SI.i n) = decide (m = n) from decide_eq_decide.mpr ⟨fun e => by cases e; rfl, fun e => by rw [e]⟩]
instance reSI : RpE SI := ⟨0, fun _ => eqSI⟩
theorem room_u {j : Nat} {A : Around} (hr : Room j A) : A.units + 1 < cLine := by
  have := hr.un
  omega
def asS : SI → Option Str
  | .s x => some x
  | .i _ => none
def asI : SI → Option Int
  | .s _ => none
  | .i n => some n
section
variable {K : PySem.W.Frag} {σ : St} {G H : Hp} {ta tb te td ti : TE} {α : Type} [Rp α] {md : Option SI} {rest : TS} {D : Ends} {i : Nat}
theorem ev_toS {m : Option Str} (e : EV K te σ G m) : EV K te σ G (m.bind fun x => some (SI.s x)) := by
  intro G1 s1 c hc H sH Q k
  obtain ⟨x, hx, hc⟩ := Option.bind_eq_some_iff.mp hc
  cases hc
  exact e G1 s1 x hx H sH Q fun v G2 H2 x2 r => k v G2 H2 x2 r
theorem ev_toI {m : Option Int} (e : EV K te σ G m) : EV K te σ G (m.bind fun x => some (SI.i x)) := by
  intro G1 s1 c hc H sH Q k
  obtain ⟨x, hx, hc⟩ := Option.bind_eq_some_iff.mp hc
  cases hc
  exact e G1 s1 x hx H sH Q fun v G2 H2 x2 r => k v G2 H2 x2 r
theorem ev_asS (e : EV K te σ G md) : EV K te σ G (md.bind fun d => asS d) := by
  intro G1 s1 c hc H sH Q k
  obtain ⟨d, hd, hc⟩ := Option.bind_eq_some_iff.mp hc
  refine e G1 s1 d hd H sH Q fun v G2 H2 x r => ?_
  cases d with
  | s y => cases hc; exact k _ _ _ x r
  | i n => cases hc
theorem ev_asI (e : EV K te σ G md) : EV K te σ G (md.bind fun d => asI d) := by
  intro G1 s1 c hc H sH Q k
  obtain ⟨d, hd, hc⟩ := Option.bind_eq_some_iff.mp hc
  refine e G1 s1 d hd H sH Q fun v G2 H2 x r => ?_
  cases d with
  | s y => cases hc
  | i n => cases hc; exact k _ _ _ x r
end
def rInE (K : PySem.W.Frag) (α : Type) [Rp α] [DecidableEq α] (neg : Bool) : R2 := fun x y H Q => ∃ p xs a as, y = .ref p ∧ SqL K H p xs ∧ Rp.rel (α := α) K H x a ∧ Paired (Rp.rel (α := α) K H) xs as ∧ Q (.bl (if neg then !decide (a ∈ as) else decide (a ∈ as))) H
open Classical in
noncomputable def eqW {α : Type} [Rp α] (K : PySem.W.Frag) (H : Hp) (a : α) (u : Value) : Bool := decide (∃ y, RelV y u ∧ Rp.rel K H y a)
theorem eqW_of {α : Type} [Rp α] [DecidableEq α] [RpE α] {X : Cx} {pins : List (Addr × Obj)} {σ : St} {H : Hp} {s : Shared} (I : Inv X pins σ H s) {a b : α} {y : V} {u : Value} (r : RelV y u) (h : Rp.rel X.K H y b) : eqW X.K H a u = decide (b = a) := by
  unfold eqW
  classical
  by_cases e : b = a
  · subst e
    rw [decide_eq_true rfl, decide_eq_true]
    exact ⟨y, r, h⟩
  · rw [decide_eq_false e, decide_eq_false]
    rintro ⟨z, rz, hz⟩
    have := RelV.inj r rz
    subst this
    exact e ((RpE.ty X.K).fn rfl I h hz)
theorem any_eqW {α : Type} [Rp α] [DecidableEq α] [RpE α] {X : Cx} {pins : List (Addr × Obj)} {σ : St} {H : Hp} {s : Shared} (I : Inv X pins σ H s) {a : α} : ∀ {xs : List V} {us : List Value} {as : List α}, Vals xs us → Paired (Rp.rel X.K H) xs as → us.any (eqW X.K H a) = decide (a ∈ as)
  | _, _, _, .nil, .nil => by simp
  | y :: xs, u :: us, b :: as, .cons r t, .cons h p => by
    rw [List.any_cons, eqW_of I r h, any_eqW I t p]
    by_cases e : b = a
    · subst e; simp
    · rw [decide_eq_false e, Bool.false_or]
      exact decide_eq_decide.mpr ⟨fun m => List.mem_cons_of_mem _ m, fun m => by
        rcases List.mem_cons.mp m with rfl | m
        · exact absurd rfl e
        · exact m⟩
theorem mem_eqW {α : Type} [Rp α] [DecidableEq α] [RpE α] {X : Cx} {A : Around} {pins : List (Addr × Obj)} {σ : St} {H : Hp} {s : Shared} (I : Inv X pins σ H s) (hA : A.units + RpE.k α < cLine) {a : α} {x : V} {v : Value} (rx : RelV x v) (hx : Rp.rel X.K H x a) : ∀ {xs : List V} {us : List Value} {as : List α}, Vals xs us → Paired (Rp.rel X.K H) xs as → ∀ u ∈ us, SeqAt.EqAt A s u v (eqW X.K H a u)
  | _, _, _, .nil, .nil => fun u hu => by cases hu
  | y :: xs, u :: us, b :: as, .cons r t, .cons h p => fun u' hu => by
    rcases List.mem_cons.mp hu with rfl | hu
    · rw [eqW_of I r h]
      exact (RpE.ty X.K).eq A rfl I hA r rx h hx
    · exact mem_eqW I hA rx hx t p u' hu
theorem op_inE {X : Cx} {K : PySem.W.Frag} {j : Nat} (hK : X.K = K) (α : Type) [Rp α] [DecidableEq α] [RpE α] (hr : Room j X.A) (hk : RpE.k α ≤ 40) : OpR X (compareOp .In) (rInE K α false) := by
  subst hK
  intro pins s σ H x y v u Q I rx ry h
  obtain ⟨p, xs, a, as, rfl, hq, hx, pr, q⟩ := h
  cases ry
  obtain ⟨its, r, pl, hz⟩ := I.list hq
  refine SeqAt.in_listAt (eqW X.K H a) pl.isList (fun w hw => mem_eqW I (by have := hr.un; rw [Around.in1_units]; omega) rx hx r pr w (by simpa using hw)) ⟨.bl _, H, I, rfl, ?_⟩
  rw [show its.toArray.any (eqW X.K H a) = its.any (eqW X.K H a) by simp, any_eqW I r pr]
  exact q
theorem op_notInE {X : Cx} {K : PySem.W.Frag} {j : Nat} (hK : X.K = K) (α : Type) [Rp α] [DecidableEq α] [RpE α] (hr : Room j X.A) (hk : RpE.k α ≤ 40) : OpR X (compareOp .NotIn) (rInE K α true) := by
  subst hK
  intro pins s σ H x y v u Q I rx ry h
  obtain ⟨p, xs, a, as, rfl, hq, hx, pr, q⟩ := h
  cases ry
  obtain ⟨its, r, pl, hz⟩ := I.list hq
  refine SeqAt.notIn_listAt (eqW X.K H a) pl.isList (fun w hw => mem_eqW I (by have := hr.un; rw [Around.in1_units]; omega) rx hx r pr w (by simpa using hw)) ⟨.bl _, H, I, rfl, ?_⟩
  rw [show its.toArray.any (eqW X.K H a) = its.any (eqW X.K H a) by simp, any_eqW I r pr]
  exact q
section
variable {K : PySem.W.Frag} {σ : St} {G H : Hp} {ta tb te td ti : TE} {α : Type} [Rp α]
theorem ev_inE [DecidableEq α] {ma : Option α} {ml : Option (List α)} (ea : EV K ta σ G ma) (eb : EV K tb σ G ml) : EV K (tOp (rInE K α false) ta tb) σ G (ma.bind fun a => ml.bind fun l => some (decide (a ∈ l))) :=
  ev_bin (fun {G' H' x y a b c} s ra rb e Q k => by
    cases e
    obtain ⟨l, xs, rfl, h, z, p⟩ := rb
    exact ⟨l, xs, a, b, rfl, .inl (s.rd h), Rp.mono s ra, Paired.imp' (fun _ _ r => Rp.mono s r) p, k _ _ _ (.refl s) rfl⟩) ea eb
theorem ev_notInE [DecidableEq α] {ma : Option α} {ml : Option (List α)} (ea : EV K ta σ G ma) (eb : EV K tb σ G ml) : EV K (tOp (rInE K α true) ta tb) σ G (ma.bind fun a => ml.bind fun l => some (!decide (a ∈ l))) :=
  ev_bin (fun {G' H' x y a b c} s ra rb e Q k => by
    cases e
    obtain ⟨l, xs, rfl, h, z, p⟩ := rb
    exact ⟨l, xs, a, b, rfl, .inl (s.rd h), Rp.mono s ra, Paired.imp' (fun _ _ r => Rp.mono s r) p, k _ _ _ (.refl s) rfl⟩) ea eb
end
theorem bt_sum : bootBuiltins "sum" = some (.builtin "sum") := by decide +kernel
def sumO (ns : List Int) : Option Int := if ns.length ≤ 1000 ∧ ∀ n ∈ ns, 0 ≤ n ∧ n ≤ 1000000000 then some ns.sum else none
def rSumI (K : PySem.W.Frag) : List V → Hp → VK → Prop := fun vs H Q => ∃ (l : Addr) (ns : List Int) (m : Int), vs = [.ref l] ∧ SqL K H l (ns.map V.int) ∧ sumO ns = some m ∧ Q (.int m) H
theorem ints_atF {ns : List Int} {its : List Value} (r : Vals (ns.map V.int) its) {i : Nat} {v : Value} (h : its.toArray[i]? = some v) : ∃ t, v = .int (ns.getD i 0) t := by
  have h : its[i]? = some v := by simpa using h
  have hl := r.length
  rw [List.length_map] at hl
  obtain ⟨hi, _⟩ := List.getElem?_eq_some_iff.mp h
  have e : (ns.map V.int)[i]? = some (V.int (ns.getD i 0)) := by
    have : i < ns.length := by omega
    simp [this]
  obtain ⟨u, hu, ru⟩ := r.get e
  rw [h] at hu
  cases hu
  exact ru
theorem preSum_take (ns : List Int) : ∀ j, j ≤ ns.length → preSum (fun i => ns.getD i 0) j = (ns.take j).sum
  | 0, _ => by simp [preSum]
  | j + 1, h => by
    have hj : j < ns.length := by omega
    show preSum (fun i => ns.getD i 0) j + ns.getD j 0 = _
    rw [preSum_take ns j (by omega), List.take_succ, List.sum_append]
    simp [hj]
theorem sum_bound : ∀ {ns : List Int}, (∀ n ∈ ns, 0 ≤ n ∧ n ≤ 1000000000) → 0 ≤ ns.sum ∧ ns.sum ≤ 1000000000 * (ns.length : Int)
  | [], _ => by simp
  | a :: r, h => by
    have h1 := h a List.mem_cons_self
    have h2 := sum_bound fun n hn => h n (List.mem_cons_of_mem _ hn)
    rw [List.sum_cons, List.length_cons]
    push_cast
    omega
theorem call_sumK {X : Cx} {K : PySem.W.Frag} (hc : X.calm = true) (h : X.K = K) : CallR X (.builtin "sum") (rSumI K) := by
  subst h
  intro pins s σ H vs us Q I r h
  obtain ⟨l, ns, m, rfl, hl, hm, q⟩ := h
  obtain ⟨⟨hn, hb⟩, rfl⟩ := ite_some hm
  obtain ⟨u, rfl, ru⟩ := vals1 r
  cases ru
  obtain ⟨its, rv, pl, _⟩ := I.list hl
  have hL := pl.isList
  have hlt : l < s.heap.objs.size := by obtain ⟨_, e, _⟩ := hL; exact Heap.lt_size e
  have hlen := rv.length
  rw [List.length_map] at hlen
  have tk : ∀ j, 0 ≤ (ns.take j).sum ∧ (ns.take j).sum ≤ 1000000000 * 1000 := fun j => by
    have h1 := sum_bound (ns := ns.take j) fun n hn => hb n (List.mem_of_mem_take hn)
    have h2 : (ns.take j).length ≤ 1000 := by rw [List.length_take]; omega
    omega
  refine call_sum_walk (wpAny_pyIter_list hL ?_)
  refine ⟨_, _, _, _, _, _, fun i => ns.getD i 0, rfl, Walks.list (A := X.A.in1) (I.ok.hd hc) _ l (Nat.ne_of_lt hlt) its.toArray, ⟨⟨_, Heap.get?_push_size _ rfl, rfl, rfl⟩, hL.push _⟩, ?_, ?_, ?_, fun h' tk' t' hk => ?_⟩
  · intro b hb'
    have : b = s.heap.objs.size ∨ b = l := by simpa using hb'
    rcases this with rfl | rfl
    · trace_state
      exact Heap.lt_size (Heap.get?_push_size _ rfl)
    · exact Nat.lt_trans hlt (Heap.lt_size (Heap.get?_push_size _ rfl))
  · intro i v hP
    exact ints_atF rv hP
  · intro j hj
    have hj : j < ns.length := by rw [List.size_toArray] at hj; omega
    have e1 : ns.getD j 0 ∈ ns := by simp [hj]
    have b1 := hb _ e1
    rw [preSum_take ns (j + 1) (by omega)]
    have := tk (j + 1)
    unfold InLong
    dsimp only
    omega
  · rw [preSum_take ns _ (by rw [List.size_toArray]; omega), List.take_of_length_le (by rw [List.size_toArray]; omega)]
    refine ⟨.int _, H, I.kept fun b o eb => ?_, ⟨t', rfl⟩, q⟩
    refine hk b o (fun hm => ?_) (Heap.get?_push_of_some _ eb)
    have : b = s.heap.objs.size := by simpa using hm
    exact absurd (this ▸ Heap.lt_size eb) (Nat.lt_irrefl _)
theorem paired_intsR {K : PySem.W.Frag} {H : Hp} : ∀ {xs : List V} {ns : List Int}, Paired (Rp.rel K H) xs ns → xs = ns.map V.int
  | _, _, .nil => rfl
  | _, _, .cons h t => by
    cases h
    rw [List.map_cons, paired_intsR t]
section
variable {K : PySem.W.Frag} {σ : St} {G H : Hp} {ta tb te td ti : TE} {α : Type} [Rp α]
theorem ev_sum {lb : Option (List Int)} (ea : EV K ta σ G lb) : EV K (tCB (rSumI K) (tCons ta tNil)) σ G (lb.bind fun ns => sumO ns) := by
  intro G1 s1 c hc H sH Q k
  obtain ⟨a, ha, hc⟩ := Option.bind_eq_some_iff.mp hc
  refine ea G1 s1 a ha H sH _ fun v G2 H2 x2 r2 => ?_
  obtain ⟨l, xs, rfl, h, z, p⟩ := r2
  have e := paired_intsR p
  subst e
  exact ⟨l, a, c, rfl, .inl (x2.gh.rd h), hc, k _ _ _ x2 rfl⟩
end
structure Mp (α : Type) where
  l : List (Int × α)
def getM {α : Type} : List (Int × α) → Int → Option α
  | [], _ => none
  | (j, a) :: r, k => if j = k then some a else getM r k
def putM {α : Type} (l : List (Int × α)) (k : Int) (a : α) : List (Int × α) := if (l.any fun q => decide (q.1 = k)) = true then l.map (fun q => if q.1 = k then (q.1, a) else q) else l ++ [(k, a)]
def putO {α : Type} (m : Mp α) (k : Int) (a : α) : Option (Mp α) := if m.l.length < sizeLine then some ⟨putM m.l k a⟩ else none
def RelE (K : PySem.W.Frag) {α : Type} [Rp α] (H : Hp) (kv : Key × V) (q : Int × α) : Prop := kv.1 = .inl q.1 ∧ Rp.rel K H kv.2 q.2
instance rpMp {α : Type} [Rp α] : Rp (Mp α) := ⟨fun K H v a => ∃ p kvs, v = .ref p ∧ H p = some (.dK kvs) ∧ Paired (RelE K H) kvs a.l,
  fun s ⟨p, kvs, e, h, pr⟩ => ⟨p, kvs, e, s _ _ h, Paired.imp' (fun _ _ r => ⟨r.1, Rp.mono s r.2⟩) pr⟩⟩
structure OwnM (K : PySem.W.Frag) {α : Type} [Rp α] (G H : Hp) (v : V) (p : Addr) (kvs : List (Key × V)) (a : Mp α) : Prop where
  v : v = .ref p
  g : G p = none
  h : H p = some (.dK kvs)
  p : Paired (RelE K G) kvs a.l
section
variable {K : PySem.W.Frag} {σ : St} {G H G1 H1 G0 H0 : Hp} {α β : Type} [Rp α] [Rp β] {td te ti : TE} {rest : TS} {D : Ends} {i : Nat} {a : Mp α} {v : V} {p q : Addr} {kvs : List (Key × V)}
theorem OwnM.ext (o : OwnM K G H v p kvs a) (x : Ext G H G1 H1) : OwnM K G1 H1 v p kvs a :=
  ⟨o.v, x.no p o.g (by rw [o.h]; exact fun z => nomatch z), x.hh _ _ o.h, Paired.imp' (fun _ _ r => ⟨r.1, Rp.mono x.gg r.2⟩) o.p⟩
theorem OwnM.put {ho : HO} (o : OwnM K G H v p kvs a) (h : p ≠ q) : OwnM K G (upd H q ho) v p kvs a := ⟨o.v, o.g, by rw [upd_ne h]; exact o.h, o.p⟩
theorem OwnM.tell (o : OwnM K G H v p kvs a) : Rp.rel K (upd G p (.dK kvs)) v a := ⟨p, kvs, o.v, upd_same, Paired.imp' (fun _ _ r => ⟨r.1, Rp.mono (Same.new o.g) r.2⟩) o.p⟩
theorem OwnM.over {o : HO} (h : OwnM K G H v p kvs a) (ne : p ≠ q) (hq : G q = none) : OwnM K (upd G q o) H v p kvs a :=
  ⟨h.v, by rw [upd_ne ne]; exact h.g, h.h, Paired.imp' (fun _ _ r => ⟨r.1, Rp.mono (Same.new hq) r.2⟩) h.p⟩
theorem paired_getM {G : Hp} : ∀ {kvs : List (Key × V)} {l : List (Int × α)} {k : Int} {b : α}, Paired (RelE K G) kvs l → getM l k = some b → ∃ w, valV kvs (.inl k) = some w ∧ Rp.rel K G w b
  | _, _, k, b, .nil, e => by cases e
  | kv :: kvs, (j, c) :: l, k, b, .cons h t, e => by
    obtain ⟨h1, h2⟩ := h
    unfold getM at e
    by_cases hj : j = k
    · rw [if_pos hj] at e
      cases e
      exact ⟨kv.2, valV_pos (by rw [h1, hj]), h2⟩
    · rw [if_neg hj] at e
      obtain ⟨w, e1, e2⟩ := paired_getM t e
      refine ⟨w, ?_, e2⟩
      rw [valV_neg (fun z => hj (by rw [h1] at z; exact Sum.inl.inj z))]
      exact e1
theorem paired_any {G : Hp} {k : Int} : ∀ {kvs : List (Key × V)} {l : List (Int × α)}, Paired (RelE K G) kvs l → (kvs.any fun kv => decide (kv.1 = .inl k)) = l.any fun q => decide (q.1 = k)
  | _, _, .nil => rfl
  | kv :: kvs, q :: l, .cons h t => by
    rw [List.any_cons, List.any_cons, paired_any t, h.1]
    congr 1
    exact decide_eq_decide.mpr ⟨fun e => Sum.inl.inj e, fun e => by rw [e]⟩
theorem paired_repl {G : Hp} {k : Int} {w : V} {b : α} (r : Rp.rel K G w b) : ∀ {kvs : List (Key × V)} {l : List (Int × α)}, Paired (RelE K G) kvs l → Paired (RelE K G) (kvs.map fun kv => if kv.1 = .inl k then (kv.1, w) else kv) (l.map fun q => if q.1 = k then (q.1, b) else q)
  | _, _, .nil => .nil
  | kv :: kvs, q :: l, .cons h t => by
    rw [List.map_cons, List.map_cons]
    refine .cons ?_ (paired_repl r t)
    by_cases e : q.1 = k
    · rw [if_pos e, if_pos (by rw [h.1, e])]
      exact ⟨h.1, r⟩
    · rw [if_neg e, if_neg (fun z => e (by rw [h.1] at z; exact Sum.inl.inj z))]
      exact h
theorem paired_putM {G : Hp} {k : Int} {w : V} {b : α} {l : List (Int × α)} (r : Rp.rel K G w b) (h : Paired (RelE K G) kvs l) : Paired (RelE K G) (putK kvs (.inl k) w) (putM l k b) := by
  unfold putK putM
  rw [paired_any h]
  by_cases e : (l.any fun q => decide (q.1 = k)) = true
  · rw [if_pos e, if_pos e]
    exact paired_repl r h
  · rw [if_neg e, if_neg e]
    exact Paired.app h (.cons ⟨rfl, r⟩ .nil)
/-- d[k] -/
theorem ev_getM {md : Option (Mp α)} {mi : Option Int} (ed : EV K td σ G md) (ei : EV K ti σ G mi) : EV K (tDGet td ti) σ G (md.bind fun d => mi.bind fun k => getM d.l k) := by
  intro G1 s1 c hc H sH Q k
  obtain ⟨d, hd, hc⟩ := Option.bind_eq_some_iff.mp hc
  obtain ⟨j, hj, hc⟩ := Option.bind_eq_some_iff.mp hc
  refine ed G1 s1 d hd H sH _ fun v G2 H2 x2 r2 => ?_
  refine ei G2 (s1.trans x2.gg) j hj H2 x2.gh _ fun u G3 H3 x3 r3 => ?_
  obtain ⟨p, kvs, rfl, h, pr⟩ := Rp.mono x3.gg r2
  cases r3
  obtain ⟨w, e1, e2⟩ := paired_getM pr hc
  exact ⟨p, w, rfl, .inl ⟨kvs, .inl j, .inl (x3.gh _ _ h), rfl, e1.symm⟩, k _ _ _ (x2.trans x3) e2⟩
/-- x = {} -/
theorem sv_ownM {b : Mp α} (hm : (some (Mp.mk []) : Option (Mp α)) = some b) (s : Same G H) (k : ∀ p kvs G2 H2, Ext G H G2 H2 → H p = none → OwnM K G2 H2 (.ref p) p kvs b → rest D (σ.set i (some (.ref p))) H2) : tSeq (tAsg tDNewK (gName i)) rest D σ H := by
  cases hm
  exact fun p hp => k p [] G _ (.own s hp) hp ⟨rfl, s.free hp, upd_same, .nil⟩
/-- x[k] = e -/
theorem sv_dput {b : α} {m : Option α} {mi : Option Int} {k' : Int} {a' : Mp α} (hσ : σ[i]? = some (some v)) (o : OwnM K G H v p kvs a) (e : EV K te σ G m) (hm : m = some b) (ei : EV K ti σ G mi) (hi : mi = some k') (hs : putO a k' b = some a') (s : Same G H)
    (k : ∀ G2 H2 w, Ext G H G2 H2 → OwnM K G2 (upd H2 p (.dK (putK kvs (.inl k') w))) v p (putK kvs (.inl k') w) a' → rest D σ (upd H2 p (.dK (putK kvs (.inl k') w)))) : tSeq (sDPut (tVar i) ti te) rest D σ H := by
  obtain ⟨hl, rfl⟩ := ite_some hs
  have hlen := Paired.length o.p
  refine e.run hm s fun w G2 H2 x r => ?_
  have o2 := o.ext x
  refine ⟨v, hσ, ?_⟩
  refine ei G2 x.gg k' hi H2 x.gh _ fun u G3 H3 x3 r3 => ?_
  cases r3
  have o3 := o2.ext x3
  refine ⟨p, _, o3.v, .inl ⟨kvs, .inl k', o3.h, rfl, by omega, rfl⟩, ?_⟩
  exact k G3 H3 w (x.trans x3) ⟨o3.v, o3.g, upd_same, paired_putM (Rp.mono x3.gg r) o3.p⟩
end
section
variable {K : PySem.W.Frag} {σ : St} {G H : Hp} {α : Type} [Rp α] {te : TE} {rest : TS} {D : Ends} {i : Nat} {a : α} {m : Option α} {as : List α} {v : V} {p : Addr} {vs : List V}
theorem sv_appendB [Imm α] {as' : List α} (hσ : σ[i]? = some (some v)) (o : Own K G H v p vs as) (e : EV K te σ (upd G p (.lst vs)) m) (hm : m = some a) (hp : pushO as a = some as') (s : Same G H)
    (k : ∀ G2 H2 w, Ext G H G2 H2 → Own K G2 (upd H2 p (.lst (vs ++ [w]))) v p (vs ++ [w]) as' → rest D σ (upd H2 p (.lst (vs ++ [w])))) : tSeq (tDrop (tBM K "list" rAppend (tVar i) (tCons te tNil))) rest D σ H := by
  obtain ⟨hl, rfl⟩ := ite_some hp
  have hlen := Paired.length o.p
  have ov := o.v
  subst ov
  refine ⟨_, hσ, .inl ⟨rfl, _, SqL.of o.h⟩, ?_⟩
  refine EV.runB o e hm s fun w G2 H2 x r => ?_
  have o2 := o.ext x
  refine ⟨p, vs, w, rfl, rfl, o2.h, by omega, ?_⟩
  refine k G2 H2 w x ⟨rfl, o2.g, upd_same, ?_, Paired.app o2.p (.cons r .nil)⟩
  rw [List.length_append, List.length_singleton]
  omega
end
end L2

set_option Elab.async false
set_option linter.all false
set_option maxRecDepth 100000
set_option maxHeartbeats 4000000
namespace L2
open PySem PySem.Spec PyProof.Rows
def pickA {α : Type} (l : List α) (lo hi : Option Int) (st : Int) : List α :=
  (sliceRange (sliceBounds lo hi (some st) l.length).1 (sliceBounds lo hi (some st) l.length).2.1 (sliceBounds lo hi (some st) l.length).2.2).filterMap fun i => l[i]?
theorem Paired.fm {α β : Type} {R : α → β → Prop} {f : Nat → Option α} {g : Nat → Option β} (h : ∀ i, (f i = none ∧ g i = none) ∨ ∃ a b, f i = some a ∧ g i = some b ∧ R a b) : ∀ is : List Nat, Paired R (is.filterMap f) (is.filterMap g)
  | [] => .nil
  | i :: is => by
    rcases h i with ⟨h1, h2⟩ | ⟨a, b, h1, h2, r⟩
    · rw [List.filterMap_cons_none h1, List.filterMap_cons_none h2]
      exact Paired.fm h is
    · rw [List.filterMap_cons_some h1, List.filterMap_cons_some h2]
      exact .cons r (Paired.fm h is)
def SlR3 (X : Cx) (r : V → Option Int → Option Int → Option Int → Hp → VK → Prop) : Prop :=
  ∀ (pins : List (Addr × Obj)) (s : Shared) (σ : St) (H : Hp) (x : V) (v vl vu vs : Value) (lo hi st : Option Int) (sl : Addr) (Q : VK), Inv X pins σ H s → RelV x v → s.heap.IsSliceOf sl vl vu vs → IsPart vl lo → IsPart vu hi → IsPart vs st → r x lo hi st H Q →
    ∃ T id, typeLookup (.type T) "__getitem__" = pure (some (.builtin id)) ∧ s.TypeIs v T ∧ wpAny (model X.prog X.w) X.A (getItem v (.ref sl)) (EP X pins σ Q) X.xe s
abbrev tSl3 (r : V → Option Int → Option Int → Option Int → Hp → VK → Prop) (te : TE) (tl th ts : TO) : TE := fun σ H Q => te σ H fun x H1 => tl σ H1 fun l H2 => th σ H2 fun u H3 => ts σ H3 fun c H4 => r x l u c H4 Q
def rSl3 (K : PySem.W.Frag) : V → Option Int → Option Int → Option Int → Hp → VK → Prop := fun x lo hi st H Q => ∃ a xs c, x = .ref a ∧ SqL K H a xs ∧ st = some c ∧ c ≠ 0 ∧ ∀ p, H p = none → Q (.ref p) (upd H p (.lst (pickA xs lo hi c)))
section
variable {X : Cx} {e : Expr} {te : TE} {lo hi : Option Expr} {se : Expr} {tl th ts : TO} {pos p2 : Pos}
end
def pickX (x : Scr) (lo hi : Option Int) (c : Int) : Option (List Int) := if x.l.length ≤ sizeLine then some (pickA x.l lo hi c) else none
section
variable {K : PySem.W.Frag} {σ : St} {G H : Hp} {ta t3 : TE} {t1 t2 : TO} {α : Type} [Rp α] {m1 m2 : Option (Option Int)} {c : Int}
end
end L2

set_option Elab.async false
set_option linter.all false
set_option maxRecDepth 100000
set_option maxHeartbeats 4000000
namespace L2
open PySem PySem.Spec PyProof.Rows
def Itz (K : PySem.W.Frag) (a b : Addr) : It :=
  ⟨fun i H => ∃ xs ys x y, SqL K H a xs ∧ SqL K H b ys ∧ xs[i]? = some x ∧ ys[i]? = some y,
   fun i H z H' => ∃ t v w, z = .ref t ∧ H t = none ∧ H' = upd H t (.tup [v, w]) ∧ (∀ xs, SqL K H a xs → xs[i]? = some v) ∧ ∀ ys, SqL K H b ys → ys[i]? = some w,
   fun i H => ∃ xs ys, SqL K H a xs ∧ SqL K H b ys ∧ (xs.length ≤ i ∨ ys.length ≤ i)⟩
def iZip (K : PySem.W.Frag) (ta : TA) : TI := fun σ H R => ta σ H fun vs H1 => ∃ a b, vs = [.ref a, .ref b] ∧ (∃ xs, SqL K H1 a xs) ∧ (∃ ys, SqL K H1 b ys) ∧ R (Itz K a b) H1
structure YieldsZ (J : It) (H : Hp) (xs ys : List V) : Prop where
  go : ∀ i H', Same H H' → i < min xs.length ys.length → J.go i H'
  stop : ∀ H', Same H H' → J.stop (min xs.length ys.length) H'
  yld : ∀ (i : Nat) (H' : Hp) (x : V) (H'' : Hp), Same H H' → i < min xs.length ys.length → J.yld i H' x H'' → ∃ t v w, x = .ref t ∧ H' t = none ∧ H'' = upd H' t (.tup [v, w]) ∧ xs[i]? = some v ∧ ys[i]? = some w
section
variable {K : PySem.W.Frag} {σ : St} {G : Hp} {α β γ : Type} [Rp α] [Rp β] [Rp γ] {ta tb : TE}
def IZ (K : PySem.W.Frag) {α β : Type} [Rp α] [Rp β] (wi : TI) (σ : St) (G : Hp) (m : Option (List (α × β))) : Prop :=
  ∀ G1, Same G G1 → ∀ ps, m = some ps → ∀ H, Same G1 H → ∀ R : It → Hp → Prop, (∀ J vs ws as bs G2 H2, Ext G1 H G2 H2 → YieldsZ J G2 vs ws → vs.length ≤ sizeLine → Paired (Rp.rel K G2) vs as → Paired (Rp.rel K G2) ws bs → ps = as.zip bs → R J H2) → wi σ H R
end
end L2
namespace L2
open PySem PySem.Spec PyProof.Rows
def idxO (xs : List Str) (y : Str) : Option Int := if y ∈ xs ∧ xs.length ≤ 1000 then some ((xs.idxOf y : Nat) : Int) else none
def rIndexS (K : PySem.W.Frag) : V → List V → Hp → VK → Prop := fun x vs H Q => ∃ (l : Addr) (ys : List Str) (y : Str) (k : Int), x = .ref l ∧ vs = [.str y] ∧ SqL K H l (ys.map V.str) ∧ idxO ys y = some k ∧ Q (.int k) H
section
variable {K : PySem.W.Frag} {σ : St} {G H : Hp} {ta tb te : TE} {rest : TS} {D : Ends} {i : Nat} {v : V} {p : Addr} {vs : List V}
end
end L2

set_option Elab.async false
set_option linter.all false
set_option maxRecDepth 100000
set_option maxHeartbeats 4000000
namespace L2
open PySem PySem.Spec PyProof.Rows
def leS (a b : Str) : Bool := !decide (b.cps.toList < a.cps.toList)
def sortS (ys : List Str) : List Str := ys.mergeSort leS
def sortO (ys : List Str) : Option (List Str) := if ys.length < 64 then some (sortS ys) else none
def rSortS (K : PySem.W.Frag) : List V → Hp → VK → Prop := fun vs H Q => ∃ (l : Addr) (ys : List Str), vs = [.ref l] ∧ SqL K H l (ys.map V.str) ∧ ys.length < 64 ∧ ∀ p, H p = none → Q (.ref p) (upd H p (.lst ((sortS ys).map V.str)))
section
variable {K : PySem.W.Frag} {σ : St} {G : Hp} {ta : TE}
end
end L2

set_option Elab.async false
set_option linter.all false
set_option maxRecDepth 100000
set_option maxHeartbeats 4000000
namespace L2
open PySem PySem.Spec PyProof.Rows
def rCatTp (K : PySem.W.Frag) : R2 := fun x y H Q => ∃ a b xs ys, x = .ref a ∧ y = .ref b ∧ SqT K H a xs ∧ SqT K H b ys ∧ xs.length + ys.length ≤ sizeLine ∧ (xs = [] → Q (.ref b) H) ∧ (ys = [] → Q (.ref a) H) ∧ ∀ p, H p = none → Q (.ref p) (upd H p (.tup (xs ++ ys)))
theorem op_catTp {X : Cx} {K : PySem.W.Frag} (h : X.K = K) : OpR X (binaryOp .Add) (rCatTp K) := by
  subst h
  intro pins s σ H x y v u Q I rx ry h
  obtain ⟨t, b, xs, ys, rfl, rfl, h1, h2, hz, q0, q1, q2⟩ := h
  cases rx
  cases ry
  obtain ⟨vs, rv, ht, _⟩ := I.tuple h1
  obtain ⟨ws, rw', hb, _⟩ := I.tuple h2
  have l1 := rv.length
  have l2 := rw'.length
  obtain ⟨⟨cls, dd, data, sl⟩, ho, hc, n, hd⟩ := id ht
  obtain ⟨⟨cls2, dd2, data2, sl2⟩, ho2, hc2, n2, hd2⟩ := id hb
  simp only at hc hd hc2 hd2
  subst hc hd hc2 hd2
  have e : vs.toArray ++ ws.toArray = (vs ++ ws).toArray := by simp
  by_cases hv : vs = []
  · have hx : xs = [] := List.length_eq_zero_iff.mp (by rw [l1, hv]; rfl)
    exact concat_meets ⟨_, ho, rfl⟩ ⟨_, ho2, rfl⟩ noFill_tuple_add seq_tuple_add PySem.F.slot_tuple_add PySem.F.entry_tuple_add (PySem.F.args_tuple_add_2 _ _)
      (tuple_addW0 t b vs.toArray ws.toArray n n2 dd dd2 sl sl2 (by simp [hv])) ⟨ho, ho2, ⟨.ref b, H, I.tok _, rfl, q0 hx⟩⟩
  · by_cases hw : ws = []
    · have hy : ys = [] := List.length_eq_zero_iff.mp (by rw [l2, hw]; rfl)
      exact concat_meets ⟨_, ho, rfl⟩ ⟨_, ho2, rfl⟩ noFill_tuple_add seq_tuple_add PySem.F.slot_tuple_add PySem.F.entry_tuple_add (PySem.F.args_tuple_add_2 _ _)
        (tuple_addW1 t b vs.toArray ws.toArray n n2 dd dd2 sl sl2 (by simpa using hv) (by simp [hw])) ⟨ho, ho2, ⟨.ref t, H, I.tok _, rfl, q1 hy⟩⟩
    · refine concat_meets ⟨_, ho, rfl⟩ ⟨_, ho2, rfl⟩ noFill_tuple_add seq_tuple_add PySem.F.slot_tuple_add PySem.F.entry_tuple_add (PySem.F.args_tuple_add_2 _ _)
        (tuple_addW2 t b vs.toArray ws.toArray n n2 dd dd2 sl sl2 (by simpa using hv) (by simpa using hw) (by rw [List.size_toArray, List.size_toArray]; omega)) ⟨ho, ho2, ?_⟩
      rw [e]
      exact ⟨.ref s.heap.objs.size, _, I.laid (t' := s.toks) (o := .tup (xs ++ ys)) (fun b ob q => Heap.get?_push_of_some _ q) (Nat.le_refl _) ⟨by rw [List.length_append]; exact hz, vs ++ ws, rv.append rw', IsTup.new _ _⟩, rfl, q2 _ (I.hok.fresh (Nat.le_refl _))⟩
def catTO {α : Type} (a b : Tp α) : Option (Tp α) := if a.l.length + b.l.length ≤ sizeLine then some ⟨a.l ++ b.l⟩ else none
section
variable {K : PySem.W.Frag} {σ : St} {G : Hp} {α : Type} [Rp α] {ta tb : TE}
theorem ev_catTp {m1 m2 : Option (Tp α)} (ea : EV K ta σ G m1) (eb : EV K tb σ G m2) : EV K (tOp (rCatTp K) ta tb) σ G (m1.bind fun a => m2.bind fun b => catTO a b) :=
  ev_bin (fun {G' H' x y a b c} s ra rb e Q k => by
    obtain ⟨hz, rfl⟩ := ite_some e
    obtain ⟨l, xs, rfl, h, z, p⟩ := ra
    obtain ⟨l', ys, rfl, h', z', p'⟩ := rb
    have e1 := Paired.length p
    have e2 := Paired.length p'
    refine ⟨l, l', xs, ys, rfl, rfl, s.tup h, s.tup h', by omega, fun hx => ?_, fun hy => ?_, fun q hq => ?_⟩
    · have ea : a.l = [] := List.length_eq_zero_iff.mp (by rw [← e1, hx]; rfl)
      exact k _ _ _ (.refl s) ⟨l', ys, rfl, h', z', by show Paired _ ys (a.l ++ b.l); rw [ea]; exact p'⟩
    · have eb : b.l = [] := List.length_eq_zero_iff.mp (by rw [← e2, hy]; rfl)
      exact k _ _ _ (.refl s) ⟨l, xs, rfl, h, z, by show Paired _ xs (a.l ++ b.l); rw [eb, List.append_nil]; exact p⟩
    · have sn := Same.new (o := .tup (xs ++ ys)) (s.free hq)
      exact k _ _ _ (.new s hq) ⟨q, xs ++ ys, rfl, SqT.of upd_same, by rw [List.length_append]; omega, Paired.app (Paired.imp' (fun _ _ r => Rp.mono sn r) p) (Paired.imp' (fun _ _ r => Rp.mono sn r) p')⟩) ea eb
end
end L2

set_option Elab.async false
set_option linter.all false
set_option maxRecDepth 100000
namespace L2
open PySem PySem.Spec PyProof.Rows
structure CompScopeC (X : Cx) (scope : Scope) (x : Str) : Prop where
  one : ∀ n cl, cellsFrom n scope.names cl = (x, n) :: cl
  push : ∀ h, pushCells h scope.names = h.push { cls := .type "cell", data := .cell none }
  cell : ∀ y ∈ scope.names, y.2 = .cell → y.1 = x
  kind : scope.kind = .function
  names : ∀ y ∈ scope.names, y.2 = .local → scope.names.lookup y.1 = some .local
  free : ∀ y ∈ scope.names, y.2 = .free → X.env.scope.names.lookup y.1 = some .cell ∨ X.env.scope.names.lookup y.1 = some .free
theorem CompScopeC.clos {X : Cx} {pins : List (Addr × Obj)} {σ : St} {scope : Scope} {x : Str} {H : Hp} {s : Shared} (S : CompScopeC X scope x) (I : Inv X pins σ H s) : closureFor scope X.env = pure (clOf scope X.env) :=
  closureFor_eq fun y hy hf => I.ok.has y.1 (S.free y hy hf)
def cxCompC (X : Cx) (N : List Str) (scope : Scope) (x : Str) (C : Addr) (s : Shared) (H : Hp) (fp : List Addr) : Cx where
  prog := X.prog
  w := X.w
  K := X.K
  mg := X.mg
  base := X.base
  A := X.A
  N := N
  s₀ := s
  H₀ := H
  env := compEnvC scope ((x, C + 1) :: clOf scope X.env) C X.env
  outer := X.stack
  stack := X.stack
  ex := fp
  fn := fun y => y == x
  calm := true
  pn := []
  xe := fun _ _ => False
section
variable {X : Cx} {pins : List (Addr × Obj)} {σ : St}
end
end L2

set_option Elab.async false
set_option linter.all false
set_option maxRecDepth 100000
set_option maxHeartbeats 4000000
namespace L2
open PySem PySem.Spec PyProof.Rows
def Ris (xs : Array Nat) : Prop := ∀ i j, i < j → (hj : j < xs.size) → xs.getD i 0 < xs.getD j 0
theorem below_go (xs : Array Nat) (j : Nat) (hr : Ris xs) : ∀ fuel lo hi, lo ≤ hi → hi ≤ xs.size → hi - lo ≤ fuel → (∀ i, i < lo → xs.getD i 0 < j) → (∀ i, hi ≤ i → i < xs.size → j ≤ xs.getD i 0) →
    (SetTable.below.go xs j fuel lo hi ≤ xs.size ∧ (∀ i, i < SetTable.below.go xs j fuel lo hi → xs.getD i 0 < j) ∧ ∀ i, SetTable.below.go xs j fuel lo hi ≤ i → i < xs.size → j ≤ xs.getD i 0) := by
  intro fuel
  induction fuel with
  | zero =>
    intro lo hi h1 h2 h3 h4 h5
    have e : lo = hi := by omega
    subst e
    exact ⟨h2, h4, h5⟩
  | succ fuel ih =>
    intro lo hi h1 h2 h3 h4 h5
    unfold SetTable.below.go
    by_cases hlt : lo < hi
    · rw [if_pos hlt]
      dsimp only
      have hm1 : lo ≤ (lo + hi) / 2 := by omega
      have hm2 : (lo + hi) / 2 < hi := by omega
      generalize (lo + hi) / 2 = mid at hm1 hm2 ⊢
      have hms : mid < xs.size := by omega
      have e1 : xs.getD mid j = xs.getD mid 0 := by simp [Array.getD, hms]
      rw [e1]
      have mono : ∀ a b, a ≤ b → b < xs.size → xs.getD a 0 ≤ xs.getD b 0 := fun a b hab hb => by
        rcases Nat.lt_or_eq_of_le hab with h | h
        · exact Nat.le_of_lt (hr a b h hb)
        · rw [h]; exact Nat.le_refl _
      by_cases hc : xs.getD mid 0 < j
      · rw [if_pos hc]
        refine ih (mid + 1) hi (by omega) h2 (by omega) (fun i hi' => ?_) h5
        exact Nat.lt_of_le_of_lt (mono i mid (by omega) hms) hc
      · rw [if_neg hc]
        refine ih lo mid hm1 (by omega) (by omega) h4 fun i hi' hs => ?_
        exact Nat.le_trans (Nat.le_of_not_lt hc) (mono mid i hi' hs)
    · rw [if_neg hlt]
      have e : lo = hi := by omega
      subst e
      exact ⟨h2, h4, h5⟩
theorem below_ok {xs : Array Nat} (hr : Ris xs) (j : Nat) : SetTable.below xs j ≤ xs.size ∧ (∀ i, i < SetTable.below xs j → xs.getD i 0 < j) ∧ ∀ i, SetTable.below xs j ≤ i → i < xs.size → j ≤ xs.getD i 0 :=
  below_go xs j hr xs.size 0 xs.size (Nat.zero_le _) (Nat.le_refl _) (Nat.le_refl _) (fun i h => absurd h (Nat.not_lt_zero _)) fun i h h' => absurd h' (Nat.not_lt.mpr h)
theorem below_eq {xs : Array Nat} (hr : Ris xs) {j p : Nat} (hp : p ≤ xs.size) (h1 : ∀ i, i < p → xs.getD i 0 < j) (h2 : ∀ i, p ≤ i → i < xs.size → j ≤ xs.getD i 0) : SetTable.below xs j = p := by
  obtain ⟨a, b, c⟩ := below_ok hr j
  rcases Nat.lt_trichotomy (SetTable.below xs j) p with h | h | h
  · have := c _ (Nat.le_refl _) (by omega)
    have := h1 _ h
    omega
  · exact h
  · have := b _ h
    have := h2 p (Nat.le_refl _) (by omega)
    omega
theorem below_zero {xs : Array Nat} (hr : Ris xs) : SetTable.below xs 0 = 0 := below_eq hr (Nat.zero_le _) (fun i h => absurd h (Nat.not_lt_zero _)) fun i _ _ => Nat.zero_le _
theorem below_next {xs : Array Nat} (hr : Ris xs) {i : Nat} (hi : i < xs.size) : SetTable.below xs (xs.getD i 0 + 1) = i + 1 :=
  below_eq hr hi (fun k hk => by
    rcases Nat.lt_or_eq_of_le (Nat.le_of_lt_succ hk) with h | h
    · have := hr k i h hi; omega
    · rw [h]; exact Nat.lt_succ_self _) fun k hk hs => hr i k hk hs
theorem ris_of_pw {xs : Array Nat} (h : xs.toList.Pairwise (· < ·)) : Ris xs := fun i j hij hj => by
  have := List.pairwise_iff_getElem.mp h i j (by simpa using Nat.lt_trans hij hj) (by simpa using hj) hij
  simpa [Array.getD, hj, Nat.lt_trans hij hj] using this
theorem pw_of_ris {xs : Array Nat} (h : Ris xs) : xs.toList.Pairwise (· < ·) := by
  rw [List.pairwise_iff_getElem]
  intro i j hi hj hij
  have hi' : i < xs.size := by simpa using hi
  have hj' : j < xs.size := by simpa using hj
  have := h i j hij hj'
  simpa [Array.getD, hj', hi'] using this
theorem ris_insert {xs : Array Nat} (hr : Ris xs) {j : Nat} (hn : xs[SetTable.below xs j]? ≠ some j) : Ris (SetTable.insertAt xs (SetTable.below xs j) j) := by
  apply ris_of_pw
  rw [SetTable.toList_insertAt]
  obtain ⟨a, b, c⟩ := below_ok hr j
  have pw := pw_of_ris hr
  generalize hp : SetTable.below xs j = p at a b c hn
  have hA : ∀ x ∈ xs.toList.take p, x < j := fun x hx => by
    obtain ⟨i, hi, rfl⟩ := List.mem_iff_getElem.mp hx
    rw [List.length_take] at hi
    have h1 : i < p := by omega
    have h2 : i < xs.size := by rw [Array.length_toList] at hi; omega
    have := b i h1
    rw [List.getElem_take]
    simpa [Array.getD, h2] using this
  have hB : ∀ x ∈ xs.toList.drop p, j < x := fun x hx => by
    obtain ⟨i, hi, rfl⟩ := List.mem_iff_getElem.mp hx
    rw [List.length_drop, Array.length_toList] at hi
    have h2 : p + i < xs.size := by omega
    have hp2 : p < xs.size := by omega
    have h3 := c (p + i) (Nat.le_add_right _ _) h2
    rw [List.getElem_drop]
    have h4 : xs.getD (p + i) 0 ≠ j := fun e => by
      have h5 := c p (Nat.le_refl _) hp2
      have h6 : xs.getD p 0 ≤ xs.getD (p + i) 0 := by
        cases i with
        | zero => exact Nat.le_refl _
        | succ i => exact Nat.le_of_lt (hr p (p + (i + 1)) (by omega) h2)
      have h7 : xs.getD p 0 = j := by omega
      apply hn
      simp only [Array.getD, hp2, dite_true] at h7
      rw [Array.getElem?_eq_getElem hp2]
      exact congrArg some h7
    simp only [Array.getD, h2, dite_true] at h3 h4
    have e : xs.toList[p + i]'(by simpa using h2) = xs[p + i] := by simp
    rw [e]
    have h3' : j ≤ xs[p + i] := by simpa using h3
    have h4' : xs[p + i] ≠ j := by simpa using h4
    omega
  rw [List.pairwise_append]
  refine ⟨pw.take, List.pairwise_cons.mpr ⟨hB, pw.drop⟩, fun x hx y hy => ?_⟩
  have h1 := hA x hx
  rcases List.mem_cons.mp hy with rfl | hy
  · exact h1
  · exact Nat.lt_trans h1 (hB y hy)
structure RT (t : SetTable) : Prop where
  ris : Ris t.place
  dum : t.dummies = #[]
theorem has_empty (j : Nat) : SetTable.has #[] j = false := by
  unfold SetTable.has
  simp
theorem probe_go {t : SetTable} (hd : t.dummies = #[]) (f : Nat → Int) (h : Int) : ∀ fuel p j d, p.dummy = none → SetTable.probe.go t f h fuel p = some (.empty j d) → d = none ∧ t.place[SetTable.below t.place j]? ≠ some j := by
  intro fuel
  induction fuel with
  | zero => intro p j d _ e; cases e
  | succ fuel ih =>
    intro p j d hp e
    unfold SetTable.probe.go at e
    have hadv : (t.advance p).dummy = none := by
      unfold SetTable.advance
      split
      · exact hp
      · exact hp
    cases hs : t.slot p.j with
    | empty =>
      rw [hs] at e
      dsimp only at e
      cases e
      refine ⟨hp, fun hc => ?_⟩
      unfold SetTable.slot at hs
      dsimp only at hs
      rw [hc] at hs
      simp at hs
    | dummy =>
      unfold SetTable.slot at hs
      dsimp only at hs
      rw [hd, has_empty] at hs
      split at hs <;> simp at hs
    | live i =>
      rw [hs] at e
      dsimp only at e
      split at e
      · cases e
      · exact ih _ _ _ hadv e
theorem freeSlot_ok {t : SetTable} (hd : t.dummies = #[]) {h : Int} {j : Nat} {b : Bool} (e : t.freeSlot h = some (j, b)) : b = false ∧ t.place[SetTable.below t.place j]? ≠ some j := by
  unfold SetTable.freeSlot at e
  cases hp : t.probe (fun _ => h + 1) h (t.probeStart h) with
  | none => rw [hp] at e; cases e
  | some m =>
    rw [hp] at e
    cases m with
    | candidate _ _ _ => cases e
    | empty j' d =>
      obtain ⟨rfl, h2⟩ := probe_go hd _ _ _ _ _ _ rfl hp
      simp only [Option.getD_none, Option.isSome_none, Option.some.injEq, Prod.mk.injEq] at e
      obtain ⟨rfl, rfl⟩ := e
      exact ⟨rfl, h2⟩
theorem standIn_rt (t : SetTable) (n : Nat) : RT (t.standIn n) := ⟨ris_of_pw (by show (Array.range n).toList.Pairwise _; rw [Array.toList_range]; exact List.pairwise_lt_range), rfl⟩
theorem orStandIn_rt {t : SetTable} (h : RT t) (n : Nat) : RT (t.orStandIn n) := by
  unfold SetTable.orStandIn
  split
  · exact h
  · exact standIn_rt t n
theorem orStandIn_led (t : SetTable) (n : Nat) : (t.orStandIn n).led = t.led := by
  unfold SetTable.orStandIn
  split <;> rfl
theorem layNew_rt {t : SetTable} (ht : RT t) (es : Array (Int × Value)) (h : Int) (x : Value) : RT (layNew t es h x).2.1 ∧ (layNew t es h x).2.1.led = t.led := by
  unfold layNew
  split
  · rename_i slot wd e
    obtain ⟨_, h2⟩ := freeSlot_ok ht.dum e
    refine ⟨orStandIn_rt ⟨?_, ?_⟩ _, orStandIn_led _ _⟩
    · exact ris_insert ht.ris h2
    · show (if SetTable.has t.dummies slot then _ else t.dummies) = #[]
      rw [ht.dum, has_empty]
      rfl
  · exact ⟨standIn_rt _ _, rfl⟩
theorem filterMap_pw {β : Type} (f : Nat → Option β) : ∀ l : List Nat, l.Pairwise (· < ·) → ((l.filterMap fun j => (f j).map (j, ·)).map (·.1)).Pairwise (· < ·)
  | [], _ => .nil
  | a :: l, h => by
    have ih := filterMap_pw f l h.tail
    cases hf : f a with
    | none => rw [List.filterMap_cons_none (by rw [hf]; rfl)]; exact ih
    | some b =>
      rw [List.filterMap_cons_some (b := (a, b)) (by rw [hf]; rfl), List.map_cons]
      refine List.pairwise_cons.mpr ⟨fun y hy => ?_, ih⟩
      obtain ⟨⟨j, c⟩, hq, rfl⟩ := List.mem_map.mp hy
      obtain ⟨j', hj', e⟩ := List.mem_filterMap.mp hq
      cases hf' : f j' with
      | none => rw [hf'] at e; cases e
      | some c' =>
        rw [hf'] at e
        cases e
        exact List.rel_of_pairwise_cons h hj'
theorem laid_rt {mask finger moves : Nat} {led plain : Bool} {hs : Array Int} {t : SetTable} {o : Array Nat} (e : SetTable.laid mask finger moves led plain hs = some (t, o)) : RT t ∧ t.led = led ∧ t.plain = plain ∧ t.mask = mask := by
  unfold SetTable.laid at e
  cases hl : SetTable.layClean mask hs with
  | none => rw [hl] at e; cases e
  | some ow =>
    rw [hl] at e
    simp only [Option.pure_def, Option.bind_eq_bind, Option.bind_some, Option.some.injEq, Prod.mk.injEq] at e
    obtain ⟨rfl, rfl⟩ := e
    refine ⟨⟨ris_of_pw ?_, rfl⟩, rfl, rfl, rfl⟩
    exact filterMap_pw (fun j => ow.getD j none) _ List.pairwise_lt_range
theorem relayAll_rt (t : SetTable) (ht : RT t) (es : Array (Int × Value)) (wanted : Nat) : RT (relayAll t es wanted).2.1 ∧ (relayAll t es wanted).2.1.led = t.led := by
  unfold relayAll
  split
  · rename_i t' order e
    dsimp only
    split
    · unfold SetTable.relaid at e
      obtain ⟨a, b, _⟩ := laid_rt e
      exact ⟨a, b⟩
    · exact ⟨standIn_rt _ _, rfl⟩
  · exact ⟨standIn_rt _ _, rfl⟩
theorem erase_perm {α : Type} {l : List α} {i : Nat} (h : i < l.length) : (l[i] :: l.eraseIdx i).Perm l := by
  rw [List.eraseIdx_eq_take_drop_succ]
  have e : l = l.take i ++ l[i] :: l.drop (i + 1) := by rw [List.getElem_cons_drop, List.take_append_drop]
  exact List.perm_middle.symm.trans (List.Perm.of_eq e.symm)
theorem pick_go {α : Type} (next : Nat → Nat) : ∀ fuel k (left : List α) (out : Array α), left.length = fuel → (pickOrder.go next fuel k left out).toList.Perm (out.toList ++ left) := by
  intro fuel
  induction fuel with
  | zero =>
    intro k left out h
    have : left = [] := List.eq_nil_of_length_eq_zero h
    subst this
    unfold pickOrder.go
    rw [List.append_nil]
  | succ fuel ih =>
    intro k left out h
    unfold pickOrder.go
    have hlt : next k % left.length < left.length := Nat.mod_lt _ (by omega)
    rw [List.getElem?_eq_getElem hlt]
    dsimp only
    refine (ih (k + 1) _ _ (by rw [List.length_eraseIdx_of_lt hlt]; omega)).trans ?_
    rw [Array.toList_push, List.append_assoc]
    refine List.Perm.append_left _ ?_
    exact erase_perm hlt
theorem pick_perm {α : Type} (next : Nat → Nat) (xs : Array α) : (pickOrder next xs).toList.Perm xs.toList := by
  unfold pickOrder
  exact (pick_go next xs.size 0 xs.toList #[] (by simp)).trans (by simp)
end L2

set_option Elab.async false
set_option linter.all false
set_option maxRecDepth 100000
set_option maxHeartbeats 4000000
namespace L2
open PySem PySem.Spec PyProof.Rows
def byT (w : World) : Bool := w.params.followText "set-order"
/-- an entry and its key -/
def Ent (w : World) (e : Int × Value) (k : Key) : Prop := keyIs k e.2 = true ∧ e.1 = keyH w k
theorem key_scan {k : Key} {v : Value} (h : keyIs k v = true) : v.scannable = true := by
  rcases keyIs_shape h with ⟨i, t, rfl, rfl⟩ | ⟨x, t, rfl, rfl⟩ <;> rfl
structure SObj (w : World) (o : Obj) (es : Array (Int × Value)) (ep : Nat) (t : SetTable) (ks : List Key) : Prop where
  exact' : o.ExactSet
  data : o.data = .set es ep t
  ent : Paired (Ent w) es.toList ks
  few : ks.length < scanBound
  fit : t.fits es.size = true
  rt : RT t
  led : t.led = !byT w
def SetIs (w : World) (h : Heap) (a : Addr) (ks : List Key) : Prop := ∃ o es ep t, h.get? a = some o ∧ SObj w o es ep t ks
theorem paired_len2 {α β : Type} {F : α → β → Prop} : ∀ {l₁ : List α} {l₂ : List β}, Paired F l₁ l₂ → l₁.length = l₂.length
  | _, _, .nil => rfl
  | _, _, .cons _ t => congrArg (· + 1) (paired_len2 t)
theorem SObj.size {w : World} {o es ep t ks} (S : SObj w o es ep t ks) : es.size = ks.length := by
  have := paired_len2 S.ent
  rwa [Array.length_toList] at this
theorem SObj.elems {prog : Program} {w : World} {o es ep t ks} (S : SObj w o es ep t ks) : ElemsOf (mixKind prog w) es.toList := by
  have : ∀ {l : List (Int × Value)} {ks : List Key}, Paired (Ent w) l ks → ElemsOf (mixKind prog w) l := by
    intro l ks p
    induction p with
    | nil => intro e he; cases he
    | cons hd _ ih =>
      intro e he
      rcases List.mem_cons.mp he with rfl | he
      · exact ⟨⟨_, hd.1, hd.2⟩, key_scan hd.1⟩
      · exact ih e he
  exact this S.ent
theorem paired_perm {α β : Type} {F : α → β → Prop} {l l' : List α} (hp : l'.Perm l) : ∀ {m : List β}, Paired F l m → ∃ m', m'.Perm m ∧ Paired F l' m' := by
  have := hp.symm
  clear hp
  induction this with
  | nil => intro m p; exact ⟨m, .rfl, p⟩
  | cons x _ ih =>
    intro m p
    cases p with
    | cons h t =>
      obtain ⟨m', e, q⟩ := ih t
      exact ⟨_, e.cons _, .cons h q⟩
  | swap x y l =>
    intro m p
    cases p with
    | cons h t => cases t with
      | cons h2 t2 => exact ⟨_, List.Perm.swap _ _ _, .cons h2 (.cons h t2)⟩
  | trans _ _ ih1 ih2 =>
    intro m p
    obtain ⟨m1, e1, q1⟩ := ih1 p
    obtain ⟨m2, e2, q2⟩ := ih2 q1
    exact ⟨m2, e2.trans e1, q2⟩
theorem ent_find {w : World} {k : Key} : ∀ {l : List (Int × Value)} {ks : List Key}, Paired (Ent w) l ks → ((∃ e ∈ l, keyIs k e.2 = true) ↔ k ∈ ks)
  | _, _, .nil => by simp
  | _, _, .cons (a := e) (b := k') h t => by
    have ih := ent_find (k := k) t
    have hk : keyIs k e.2 = true ↔ k = k' := ⟨fun q => (mixKind default w).inj _ _ _ q h.1, fun q => q ▸ h.1⟩
    constructor
    · rintro ⟨x, hx, q⟩
      rcases List.mem_cons.mp hx with rfl | hx
      · exact List.mem_cons.mpr (.inl (hk.mp q))
      · exact List.mem_cons.mpr (.inr (ih.mp ⟨x, hx, q⟩))
    · intro hm
      rcases List.mem_cons.mp hm with rfl | hm
      · exact ⟨e, List.mem_cons_self, h.1⟩
      · obtain ⟨x, hx, q⟩ := ih.mpr hm
        exact ⟨x, List.mem_cons_of_mem _ hx, q⟩
def addK (ks : List Key) (k : Key) : List Key := if ks.any (fun y => decide (y = k)) then ks else ks ++ [k]
theorem any_mem {ks : List Key} {k : Key} : ks.any (fun y => decide (y = k)) = true ↔ k ∈ ks := by
  rw [List.any_eq_true]
  exact ⟨fun ⟨y, hy, e⟩ => (of_decide_eq_true e) ▸ hy, fun h => ⟨k, h, decide_eq_true rfl⟩⟩
theorem addK_in {ks : List Key} {k : Key} (h : k ∈ ks) : addK ks k = ks := by unfold addK; rw [if_pos (any_mem.mpr h)]
theorem addK_out {ks : List Key} {k : Key} (h : k ∉ ks) : addK ks k = ks ++ [k] := by unfold addK; rw [if_neg (fun q => h (any_mem.mp q))]
theorem rt_plain_off {t : SetTable} (h : RT t) : RT { t with plain := false } := ⟨h.ris, h.dum⟩
section
variable {prog : Program} {w : World} {A : Around} {E : Value → Shared → Prop} {s : Shared}
theorem wp_byText {Q : Bool → Shared → Prop} (h : Q (byT w) s) : wpAny (model prog w) A setsByText Q E s := by
  unfold setsByText
  exact wpAny_bind (wpAny_askSetting (wpAny_pure h))
theorem wp_choose {src : Source} {n : Nat} {Q : Nat → Shared → Prop} (hn : n ≠ 0) (h : ∀ i d, i < n → Q i { s with drawn := d }) : wpAny (model prog w) A (choose src n) Q E s :=
  fun Γ p hΓ => ⟨hn, h _ _ (Nat.mod_lt _ (Nat.pos_of_ne_zero hn))⟩
theorem store_set {a : Addr} {o : Obj} {es : Array (Int × Value)} {ep : Nat} {t : SetTable} {es' : Array (Int × Value)} {t' : SetTable} (ho : s.heap.get? a = some o) (hd : o.data = .set es ep t) :
    (s.heap.update a (Obj.putSet es' t')).get? a = some { o with data := .set es' (ep + 1) t' } := by
  have := Heap.get?_update_self (Obj.putSet es' t') ho (by rw [putSet_of es' t' hd]; rfl)
  rwa [putSet_of es' t' hd] at this
theorem few_line {n : Nat} (h : n < scanBound) : n ≤ sizeLine := fits_of_scanBound h
theorem add_tail {g : Bool → Sem Unit} (hg : ∀ (b : Bool) (s₁ : Shared) (Q' : Unit → Shared → Prop), Q' () s₁ → wpAny (model prog w) A (g b) Q' E s₁)
    {a : Addr} {o : Obj} {es : Array (Int × Value)} {ep : Nat} {t : SetTable} (gA : s.heap.get? a = some o) (xA : o.ExactSet) (dA : o.data = .set es ep t)
    {es1 : Array (Int × Value)} {t2 : SetTable} {ks : List Key} (p1 : Paired (Ent w) es1.toList ks) (f1 : ks.length < scanBound) (ft : t2.fits es1.size = true) (r2 : RT t2) (l2 : t2.led = !byT w) {wd : Bool} {R : Option Bool → Shared → Prop}
    (h : ∀ h' ks', Heap.SameBut a s.heap h' → SetIs w h' a ks' → ks'.Perm ks → R (some true) { s with heap := h' }) :
    wpAny (model prog w) A (do
        storeSet a es1 t2
        if (!wd && t2.tooFull) = true then do
            g (relayAll t2 es1 (SetTable.grown es1.size)).2.2; storeSet a (relayAll t2 es1 (SetTable.grown es1.size)).1 (relayAll t2 es1 (SetTable.grown es1.size)).2.1
            pure (some true)
          else pure (some true)) R E s := by
  have z1 : es1.size = ks.length := by have := paired_len2 p1; rwa [Array.length_toList] at this
  refine wpAny_bind (wpAny_storeSet_of gA dA ?_ (few_line (by rw [z1]; exact f1)))
  have g1 := store_set (es' := es1) (t' := t2) gA dA
  have b1 := Heap.SameBut.update s.heap a (Obj.putSet es1 t2)
  split
  · have hp := relayAll_perm t2 es1 (SetTable.grown es1.size)
    have hfr := relayAll_fits t2 es1 (SetTable.grown es1.size)
    obtain ⟨hrt, hld⟩ := relayAll_rt t2 r2 es1 (SetTable.grown es1.size)
    generalize relayAll t2 es1 (SetTable.grown es1.size) = Rl at hp hfr hrt hld ⊢
    obtain ⟨es2, t3, gave2⟩ := Rl
    dsimp only at hp hfr hrt hld ⊢
    obtain ⟨ks', e', p2⟩ := paired_perm hp p1
    have f2 : ks'.length < scanBound := by rw [e'.length_eq]; exact f1
    have z2 : es2.size = ks'.length := by have := paired_len2 p2; rwa [Array.length_toList] at this
    refine wpAny_bind (hg _ _ _ (wpAny_bind (wpAny_storeSet_of (o := { o with data := .set es1 (ep + 1) t2 }) g1 rfl ?_ (few_line (by rw [z2]; exact f2)))))
    have g2 := store_set (s := { s with heap := s.heap.update a (Obj.putSet es1 t2) }) (es' := es2) (t' := t3) g1 rfl
    exact wpAny_pure (h _ ks' (b1.trans (Heap.SameBut.update _ a _)) ⟨_, es2, _, t3, g2, ⟨xA, rfl, p2, f2, hfr, hrt, hld.trans l2⟩⟩ e')
  · exact wpAny_pure (h _ ks b1 ⟨_, es1, _, t2, g1, ⟨xA, rfl, p1, f1, ft, r2, l2⟩⟩ .rfl)
theorem add_ok {a : Addr} {ks : List Key} {k : Key} {x : Value} {Q : Bool → Shared → Prop} (hk : keyIs k x = true) (hS : SetIs w s.heap a ks) (hroom : ks.length + 1 < scanBound)
    (h : ∀ h' ks', Heap.SameBut a s.heap h' → SetIs w h' a ks' → ks'.Perm (addK ks k) → ∀ b, Q b { s with heap := h' }) :
    wpAny (model prog w) A (setAddHashed a x (keyH w k)) Q E s := by
  obtain ⟨o, es, ep, t, gA, S⟩ := hS
  have hel := S.elems (prog := prog)
  have hsz := S.size
  have hsc := key_scan hk
  unfold setAddHashed setAddHashedIn
  refine wpAny_holding (wpAny_bind (wpAny_setState_of gA S.data S.fit ?_)); dsimp only
  rw [byScan_of hsc (by rw [hsz]; exact S.few) hel]; simp only [↓reduceIte]
  unfold setAddByScan
  refine wpAny_bind (wpAny_bind (wpAny_rule (wpAny_bind (wpAny_setScan_of (knd := mixKind prog w) (k := k) hk gA S.data S.fit hel ?_))))
  have hf := ent_find (k := k) S.ent
  cases hr : List.findIdx? (fun e => (mixKind prog w).is k e.2) es.toList with
  | some j =>
    dsimp only
    obtain ⟨hj, hpj, _⟩ := List.findIdx?_eq_some_iff_getElem.mp hr
    have hm : k ∈ ks := hf.mp ⟨es.toList[j], List.getElem_mem hj, hpj⟩
    refine wpAny_pure (wpAny_pure ?_)
    have e : s = { s with heap := s.heap } := by cases s; rfl
    have q := h s.heap ks (Heap.SameBut.refl a s.heap) ⟨o, es, ep, t, gA, S⟩ (by rw [addK_in hm]) false
    rw [← e] at q
    exact q
  | none =>
    dsimp only
    have hm : k ∉ ks := fun hm => by
      obtain ⟨e, he, q⟩ := hf.mpr hm
      have := List.findIdx?_eq_none_iff.mp hr e he
      have q' : (mixKind prog w).is k e.2 = true := q
      rw [q'] at this
      exact Bool.noConfusion this
    have hgw : ∀ (b : Bool) {s₁ : Shared} {Q' : Unit → Shared → Prop}, Q' () s₁ → wpAny (model prog w) A (match b with | true => rule "set.scan.the-table-gave-way" | false => pure ()) Q' E s₁ := by
      intro b s₁ Q' hq
      cases b
      · exact wpAny_pure hq
      · exact wpAny_rule hq
    have hperm := layNew_perm t es (keyH w k) x
    have hfits := layNew_fits t es (keyH w k) x
    obtain ⟨hrt, hld⟩ := layNew_rt S.rt es (keyH w k) x
    generalize hL : layNew t es (keyH w k) x = L at hperm hfits hrt hld
    obtain ⟨es1, t1, wd, gave⟩ := L
    dsimp only at hperm hfits hrt hld ⊢
    rw [Array.toList_push] at hperm
    obtain ⟨ks1, e1, p1⟩ := paired_perm hperm (S.ent.snoc (b := k) (show Ent w (keyH w k, x) k from ⟨hk, rfl⟩))
    have f1 : ks1.length < scanBound := by rw [e1.length_eq, List.length_append]; exact hroom
    have fin : ∀ (h' : Heap) (ks' : List Key), Heap.SameBut a s.heap h' → SetIs w h' a ks' → ks'.Perm ks1 → Q true { s with heap := h' } := fun h' ks' b1 b2 b3 => h h' ks' b1 b2 (by rw [addK_out hm]; exact b3.trans e1) true
    refine wpAny_bind (hgw _ ?_)
    split
    · refine wpAny_bind ?_; rw [hashByValue_scannable 8 hsc]
      refine wpAny_pure (add_tail (fun b s₁ Q' hq => by cases b <;> first | exact wpAny_pure hq | exact wpAny_rule hq) gA S.exact' S.data p1 f1 ?_ ?_ ?_ fun h' ks' b1 b2 b3 => ?_)
      · split
        · exact hfits
        · exact SetTable.fits_plain_off hfits
      · split
        · exact hrt
        · exact rt_plain_off hrt
      · split
        · exact hld.trans S.led
        · exact hld.trans S.led
      · exact wpAny_pure (fin h' ks' b1 b2 b3)
    · refine wpAny_bind (wpAny_pure ?_); simp only [↓reduceIte]
      refine add_tail (fun b s₁ Q' hq => by cases b <;> first | exact wpAny_pure hq | exact wpAny_rule hq) gA S.exact' S.data p1 f1 hfits hrt (hld.trans S.led) fun h' ks' b1 b2 b3 => ?_
      exact wpAny_pure (fin h' ks' b1 b2 b3)
end
end L2

set_option Elab.async false
set_option linter.all false
set_option maxRecDepth 100000
set_option maxHeartbeats 4000000
namespace L2
open PySem PySem.Spec PyProof.Rows
def dedK (ks : List Key) : List Key := ks.foldl addK []
theorem addK_perm {a b : List Key} (h : a.Perm b) (k : Key) : (addK a k).Perm (addK b k) := by
  by_cases hk : k ∈ b
  · rw [addK_in hk, addK_in (h.mem_iff.mpr hk)]; exact h
  · rw [addK_out hk, addK_out (fun q => hk (h.mem_iff.mp q))]; exact h.append_right _
theorem addK_len (a : List Key) (k : Key) : (addK a k).length ≤ a.length + 1 := by
  unfold addK
  split
  · exact Nat.le_succ _
  · rw [List.length_append]; exact Nat.le_refl _
theorem foldK_len (ks : List Key) : ∀ a : List Key, (ks.foldl addK a).length ≤ a.length + ks.length := by
  induction ks with
  | nil => intro a; exact Nat.le_refl _
  | cons k ks ih =>
    intro a
    have h1 := ih (addK a k)
    have h2 := addK_len a k
    rw [List.foldl_cons, List.length_cons]
    omega
theorem dedK_len (ks : List Key) : (dedK ks).length ≤ ks.length := by
  have := foldK_len ks []
  rw [List.length_nil] at this
  unfold dedK
  omega
theorem dedK_snoc (ks : List Key) (k : Key) : dedK (ks ++ [k]) = addK (dedK ks) k := by
  unfold dedK
  rw [List.foldl_append]
  rfl
def SetP (w : World) (h : Heap) (a : Addr) (ks : List Key) : Prop := ∃ ks', SetIs w h a ks' ∧ ks'.Perm ks
theorem SetIs.at {w : World} {h h' : Heap} {a : Addr} {ks : List Key} (x : SetIs w h a ks) (k : ∀ o, h.get? a = some o → h'.get? a = some o) : SetIs w h' a ks := by
  obtain ⟨o, es, ep, t, g, S⟩ := x
  exact ⟨o, es, ep, t, k _ g, S⟩
theorem SetP.at {w : World} {h h' : Heap} {a : Addr} {ks : List Key} (x : SetP w h a ks) (k : ∀ o, h.get? a = some o → h'.get? a = some o) : SetP w h' a ks := by
  obtain ⟨ks', g, e⟩ := x
  exact ⟨ks', g.at k, e⟩
theorem SetP.lt {w : World} {h : Heap} {a : Addr} {ks : List Key} (x : SetP w h a ks) : a < h.objs.size := by
  obtain ⟨_, ⟨_, _, _, _, g, _⟩, _⟩ := x
  exact Heap.lt_size g
theorem SetP.type {w : World} {s : Shared} {a : Addr} {ks : List Key} (x : SetP w s.heap a ks) : s.TypeIs (.ref a) "set" := by
  obtain ⟨_, ⟨o, _, _, _, g, S⟩, _⟩ := x
  exact ⟨o, g, S.exact'.1⟩
def freshSet (w : World) : Obj := { cls := .type "set", dict := none, data := .set #[] 0 (.fresh 0 0 (!byT w)) }
theorem fresh_is {w : World} {h : Heap} {a : Addr} (g : h.get? a = some (freshSet w)) : SetIs w h a [] :=
  ⟨_, #[], 0, _, g, ⟨⟨rfl, rfl, rfl⟩, rfl, .nil, by decide, rfl, ⟨fun i j _ hj => absurd hj (Nat.not_lt_zero _), rfl⟩, rfl⟩⟩
section
variable {prog : Program} {w : World} {A : Around} {R : Result → Shared → Prop} {I : Addr} {fp wr : List Addr} {G : Array GenState → Array GenState → Prop} {n : Nat} {P : Nat → Value → Prop} {St : Nat → Shared → Prop}
theorem upd_loop (W : WalksS prog w A.in1 I fp wr G n P St) (S : Addr) (nS : S ∉ fp) (val : List Key) (hn : val.length = n) (hv : ∀ i v, P i v → ∃ k, val[i]? = some k ∧ keyIs k v = true) (hb : n + 1 < scanBound) :
    ∀ (k i : Nat) (s : Shared), n - i = k → i ≤ n → St i s → SetP w s.heap S (dedK (val.take i)) →
      (∀ s', Moved (S :: wr) G s s' → SetP w s'.heap S (dedK val) → R (.ok (.ret .none)) s') →
      codeAny (model prog w) A (.builtin "set.update.loop" ⟨[.ref S, .ref I], []⟩) R s := by
  have nW : S ∉ wr := fun h => nS (W.sub _ h)
  have up : ∀ b ∈ wr, b ∈ S :: wr := fun b hb => List.mem_cons_of_mem _ hb
  intro k
  induction k with
  | zero =>
    intro i s e1 e2 st hS hR
    have ei : i = n := by omega
    subst ei
    refine codeAny_builtin PyProof.Rows.F.entry_set_update_loop ?_; rw [Around.under_plainId PyProof.Rows.F.plain_set_update_loop _]
    show wpAny _ A.in1 (pyNext (.ref I) >>= _) _ _ s; refine wpAny_bind (W.done s _ _ st fun s' hm => ?_)
    show wpAny _ A.in1 (ret Value.none) _ _ s'; refine wpAny_pure (hR s' (hm.mono up) ?_)
    rw [List.take_of_length_le (Nat.le_of_eq hn)] at hS
    exact hS.at fun o e => hm.heap S _ nW e
  | succ k ih =>
    intro i s e1 e2 st hS hR
    have hlt : i < n := by omega
    refine codeAny_builtin PyProof.Rows.F.entry_set_update_loop ?_; rw [Around.under_plainId PyProof.Rows.F.plain_set_update_loop _]
    show wpAny _ A.in1 (pyNext (.ref I) >>= _) _ _ s; refine wpAny_bind (W.item i s _ _ hlt st fun v s' hP st' hm => ?_)
    obtain ⟨kk, hkk, hi⟩ := hv i v hP
    obtain ⟨ks', hS', ep⟩ : SetP w s'.heap S (dedK (val.take i)) := hS.at fun o e => hm.heap S _ nW e
    show wpAny _ A.in1 (holding [v] (setAdd S v) >>= _) _ _ s'
    refine wpAny_bind (wpAny_holding ?_)
    unfold setAdd
    refine wpAny_holding (wpAny_bind ((mixKind prog w).pyHash (k := kk) hi ?_))
    have hl : ks'.length ≤ i := by
      rw [ep.length_eq]
      exact Nat.le_trans (dedK_len _) (by rw [List.length_take]; exact Nat.min_le_left _ _)
    refine add_ok (s := { s' with toks := s'.toks + 1 }) hi hS' (by omega) fun h' ks2 hsb hS2 e2' b => ?_
    have hnext : SetP w h' S (dedK (val.take (i + 1))) := by
      refine ⟨ks2, hS2, ?_⟩
      rw [List.take_add_one, hkk]
      show ks2.Perm (dedK (val.take i ++ [kk]))
      rw [dedK_snoc]
      exact e2'.trans (addK_perm ep kk)
    refine wpAny_pure ⟨plainId_quiet PyProof.Rows.F.plain_set_update_loop _, ih (i + 1) _ (by omega) hlt (W.frame _ s' _ _ st' (Nat.le_succ _) fun b hb o e => ?_) hnext fun s'' hm'' hS'' => ?_⟩
    · exact (hsb.2 b (fun h : b = S => nS (by rw [← h]; exact hb))).trans e
    · refine hR s'' (Moved.trans W.gtrans ((hm.mono up).then_heap (Nat.le_succ _) fun b o hb e => ?_) hm'') hS''
      exact (hsb.2 b (fun h : b = S => hb (by rw [h]; exact List.mem_cons_self))).trans e
end
/-- a thing that can be walked, by what its iterator does -/
def Src (prog : Program) (w : World) (x : Value) (h0 : Heap) (n : Nat) (P : Nat → Value → Prop) : Prop :=
  ∀ s₁ : Shared, (∀ b o, h0.get? b = some o → s₁.heap.get? b = some o) → ∃ (oI : Obj) (fp : List Addr) (St : Nat → Heap → Prop), oI.isFreed = false ∧ (∀ b ∈ fp, b = s₁.heap.objs.size ∨ b < h0.objs.size) ∧ St 0 (s₁.heap.push oI) ∧
    (∀ (A' : Around) (Q : Value → Shared → Prop) (E : Value → Shared → Prop), A'.handled = none → Q (.ref s₁.heap.objs.size) { s₁ with heap := s₁.heap.push oI } → wpAny (model prog w) A' (pyIter x) Q E s₁) ∧
    ∀ A' : Around, A'.handled = none → Walks prog w A' s₁.heap.objs.size fp [s₁.heap.objs.size] n P St
section
variable {prog : Program} {w : World} {A : Around} {E : Value → Shared → Prop} {s : Shared}
theorem src_list {l : Addr} {items : Array Value} (hl : s.heap.IsList l items) : Src prog w (.ref l) s.heap items.size (fun i v => items[i]? = some v) := fun s₁ hk => by
  have hl1 : s₁.heap.IsList l items := hl.at fun o e => hk _ _ e
  obtain ⟨o0, ho0, _⟩ := hl
  have ne : l ≠ s₁.heap.objs.size := Nat.ne_of_lt (Heap.lt_size (hk _ _ ho0))
  refine ⟨{ cls := .type "list_iterator", data := .fields #[.ref l, .int 0 0] }, [s₁.heap.objs.size, l], _, rfl, fun b hb => ?_, ?_, fun A' Q E' hh q => wpAny_pyIter_list hl1 q, fun A' hh => Walks.list hh _ l ne items⟩
  · rcases List.mem_cons.mp hb with e | e
    · exact .inl e
    · rw [List.mem_singleton.mp e]; exact .inr (Heap.lt_size ho0)
  · exact ⟨⟨_, Heap.get?_push_size _ rfl, rfl, rfl⟩, hl1.push _⟩
theorem code_new_set (a : Value) {Q₁ : Value → Shared → Prop} (h : Q₁ (.ref s.heap.objs.size) { s with heap := s.heap.push (freshSet w) }) :
    codeAny (model prog w) A (.call (.builtin "set.__new__") ⟨[.type "set", a], []⟩) (wants Q₁ E) s := by
  refine codeAny_of_tree ?_
  show wpAny _ A.in1 (checkBuiltinCall "set.__new__" ⟨[.type "set", a], []⟩ >>= fun _ => again (.builtin "set.__new__" ⟨[.type "set", a], []⟩)) _ _ s
  refine wpAny_bind (wpAny_of_eq (PySem.F.newCall_set_1 a) (wpAny_pure ⟨plainId_quiet F.plain_set_new _, codeAny_builtin F.entry_set_new ?_⟩)); rw [Around.under_plainId F.plain_set_new _]
  unfold Builtin.«set.__new__» Builtin.Frozenset.newClass
  have hsub := sub_set_self
  obtain ⟨hp, g, d, tk, os⟩ := s
  dsimp only
  wp_walk
  refine wpAny_askSetting (wpAny_pure ?_); dsimp only
  simp only [newObj]
  exact wpAny_bind (wpAny_alloc (wpAny_pure (wpAny_pure h)))
end
end L2

set_option Elab.async false
set_option linter.all false
set_option maxRecDepth 100000
set_option maxHeartbeats 4000000
namespace L2
open PySem PySem.Spec PyProof.Rows
section
variable {prog : Program} {w : World} {A : Around} {E : Value → Shared → Prop} {s : Shared}
theorem call_set_src {x : Value} {T : String} {n : Nat} {P : Nat → Value → Prop} {val : List Key} {Q : Value → Shared → Prop} (hh : A.handled = none) (hx : Src prog w x s.heap n P)
    (tx : ∀ s₁ : Shared, (∀ b o, s.heap.get? b = some o → s₁.heap.get? b = some o) → s₁.TypeIs x T) (n1 : isSubtype (.type T) (.type "set") = pure false) (n2 : isSubtype (.type T) (.type "frozenset") = pure false) (n3 : (Value.type T == Value.type "dict") = false)
    (hn : val.length = n) (hv : ∀ i v, P i v → ∃ k, val[i]? = some k ∧ keyIs k v = true) (hb : n + 1 < scanBound)
    (h : ∀ (h' : Heap) (tk : Nat), SetP w h' s.heap.objs.size (dedK val) → (∀ b o, s.heap.get? b = some o → h'.get? b = some o) → Q (.ref s.heap.objs.size) { s with heap := h', toks := tk }) :
    wpAny (model prog w) A (call (.type "set") [x]) Q E s := by
  obtain ⟨c, tl, hmro⟩ := F.called_set.mro
  have hmade := F.called_set.made
  have hsub := F.called_set.sub
  refine wpAny_call (codeAny_of_tree ?_); show wpAny _ _ (callAny (.type "set") _) _ _ _
  refine wpAny_pure ⟨Code.quiet_builtin _ (by decide +kernel), codeAny_builtin F.entry_type_call ?_⟩; rw [Around.under_plain (weight_type_call_type "set" [x] []) rfl]
  have h1 := F.called_set.notType
  have h2 := F.called_set.canCreate
  have hct := PySem.F.typeCall_set_1 x
  repeat (any_goals (first | assumption | wp_step))
  refine codeAny_mono (code_new_set x (E := E) (Q₁ := fun obj s₁ => obj = .ref s.heap.objs.size ∧ s₁ = { s with heap := s.heap.push (freshSet w) }) ⟨rfl, rfl⟩) fun r s₁ hr => ?_
  cases r with
  | error e => exact hr
  | ok fl => cases fl with
    | ret obj =>
      obtain ⟨rfl, rfl⟩ := hr
      have gS : (s.heap.push (freshSet w)).get? s.heap.objs.size = some (freshSet w) := Heap.get?_push_size _ rfl
      have hT : Shared.TypeIs { s with heap := s.heap.push (freshSet w) } (.ref s.heap.objs.size) "set" := ⟨_, gS, rfl⟩
      have hli := F.called_set.init.lookup
      have hbi := F.called_set.init.bind (.ref s.heap.objs.size)
      repeat (any_goals (first | assumption | wp_step))
      refine codeAny_mono (codeAny_call_builtin (R := wants (fun r s₂ => r = .none ∧ ∃ h' tk, s₂ = { s with heap := h', toks := tk } ∧ SetP w h' s.heap.objs.size (dedK val) ∧ (∀ b o, s.heap.get? b = some o → h'.get? b = some o)) E) F.called_set.init.plain F.entry_set_init (check_set_init_1 hT ?_)) fun r₂ s₂ hr₂ => ?_
      · obtain ⟨hp, g, d, tk0, os⟩ := s
        dsimp only at *
        have kp : ∀ b o, hp.get? b = some o → (hp.push (freshSet w)).get? b = some o := fun b o e => Heap.get?_push_of_some _ e
        have hTx : Shared.TypeIs { heap := hp.push (freshSet w), gens := g, drawn := d, toks := tk0, os := os } x T := tx _ kp
        unfold Builtin.«set.__init__» noKeywords Builtin.Frozenset.updateFrom
        generalize hPI : pyIter = PI
        unfold freshSet at *
        wp_walk
        subst hPI
        obtain ⟨oI, fp, St, hf, hfp, st0, hit, hW⟩ := hx { heap := hp.push (freshSet w), gens := g, drawn := d, toks := tk0, os := os } kp
        refine hit _ _ _ (by simp [hh]) (wpAny_bind (wpAny_runValue ?_))
        have eS : (hp.push (freshSet w)).objs.size = hp.objs.size + 1 := size_push' _ _
        have nS : hp.objs.size ∉ fp := fun hm => by
          rcases hfp _ hm with e | e
          · rw [eS] at e; exact absurd e (Nat.ne_of_lt (Nat.lt_succ_self _))
          · exact Nat.lt_irrefl _ e
        refine upd_loop (hW _ (by simp [hh])).toS hp.objs.size nS val hn hv hb n 0 _ rfl (Nat.zero_le _) st0 ?_ fun s' hm hS' => ?_
        · exact ⟨[], fresh_is (Heap.get?_push_of_some _ gS), .rfl⟩
        · obtain ⟨h', g', d', tk', os'⟩ := s'
          obtain rfl : g' = g := hm.gens
          obtain rfl : d' = d := hm.drawn
          obtain rfl : os' = os := hm.os
          refine wpAny_pure ?_
          show wpAny _ _ (ret Value.none) _ _ _
          refine wpAny_pure ⟨rfl, h', tk', rfl, hS', fun b o e => ?_⟩
          have lb : b < hp.objs.size := Heap.lt_size e
          refine hm.heap b o (fun hmem => ?_) (Heap.get?_push_of_some _ (kp b o e))
          rcases List.mem_cons.mp hmem with q | q
          · exact absurd q (Nat.ne_of_lt lb)
          · have q := List.mem_singleton.mp q
            rw [eS] at q
            exact absurd q (Nat.ne_of_lt (Nat.lt_succ_of_lt lb))
      · cases r₂ with
        | error e => exact hr₂
        | ok fl₂ => cases fl₂ with
          | ret r =>
            obtain ⟨rfl, h', tk, rfl, hS', hk'⟩ := hr₂
            repeat (any_goals (first | assumption | wp_step))
            exact h _ _ hS' hk'
          | _ => exact hr₂.elim
    | _ => exact hr.elim
end
end L2

set_option Elab.async false
set_option linter.all false
set_option maxRecDepth 100000
set_option maxHeartbeats 4000000
namespace L2
open PySem PySem.Spec PyProof.Rows
theorem slot_si_next : Slot "set_iterator" "__next__" "set_iterator.__next__" :=
  .of (owner := "set_iterator") (n := "__next__") (by rw [typeLookup_type, builtinLookup_eq_fast]; kernel_rfl) (by decide +kernel) (by decide +kernel) (by decide +kernel) (by first | exact .inl (by decide +kernel) | exact .inr (by decide +kernel)) (by rw [isSubtype_type]; kernel_rfl)
theorem entry_si_next : entryFor table "set_iterator.__next__" = some Builtin.«set_iterator.__next__» := entryFor_of_tree (by kernel_rfl)
theorem args_si_next (a : Value) : argsOk "set_iterator.__next__" ⟨[a], []⟩ := by unfold argsOk; kernel_rfl
theorem entry_s_iter : entryFor table "set.__iter__" = some Builtin.«frozenset.__iter__» := entryFor_alias (id' := "frozenset.__iter__") (by kernel_rfl) rfl (by decide +kernel) (by kernel_rfl)
def SIter (h : Heap) (I : Addr) (f : Value) (i : Nat) (a : Addr) (n ep : Nat) : Prop := ∃ o, h.get? I = some o ∧ o.cls = .type "set_iterator" ∧ o.data = .fields #[f, rawInt i, .ref a, rawInt n, rawInt ep]
theorem SIter.type {s : Shared} {I f i a n ep} (x : SIter s.heap I f i a n ep) : s.TypeIs (.ref I) "set_iterator" := by
  obtain ⟨o, g, c, _⟩ := x
  exact ⟨o, g, c⟩
def SAt (w : World) (h : Heap) (a : Addr) (es : Array (Int × Value)) (ep : Nat) (t : SetTable) (ks : List Key) : Prop := ∃ o, h.get? a = some o ∧ SObj w o es ep t ks
section
variable {prog : Program} {w : World} {A : Around} {E : Value → Shared → Prop} {s : Shared}
theorem fld_upd {h : Heap} {I : Addr} {o : Obj} {fs : Array Value} (k : Nat) (v : Value) (g : h.get? I = some o) (d : o.data = .fields fs) :
    ∃ o', (h.update I (Obj.mapFields (·.setIfInBounds k v))).get? I = some o' ∧ o'.cls = o.cls ∧ o'.data = .fields (fs.setIfInBounds k v) :=
  ⟨_, Heap.get?_update_self _ g (Obj.isFreed_of_fields (Obj.data_mapFields d _)), Obj.cls_mapFields .., Obj.data_mapFields d _⟩
theorem next_item {I a : Addr} {sl i n ep : Nat} {es : Array (Int × Value)} {t : SetTable} {ks : List Key} {x : Value} {nx : Nat} {Q : Option Value → Shared → Prop} (it : SIter s.heap I (rawInt sl) i a n ep) (sa : SAt w s.heap a es ep t ks) (hn : es.size = n)
    (nxt : ∀ (A' : Around) (E' : Value → Shared → Prop) (Q' : Option (Value × Nat) → Shared → Prop), Q' (some (x, nx)) s → wpAny (model prog w) A' (setNext a sl i ep) Q' E' s)
    (h : ∀ h', SIter h' I (rawInt nx) (i + 1) a n ep → Heap.SameBut I s.heap h' → Q (some x) { s with heap := h' }) : wpAny (model prog w) A (pyNext (.ref I)) Q E s := by
  obtain ⟨o, g, c, dt⟩ := id it
  obtain ⟨os, gs, S⟩ := sa
  unfold pyNext
  refine wpAny_bind (wpAny_attempt (wpAny_callSpecial?_slot (name := Str.ofString "__next__") it.type slot_si_next (wpAny_call_entry slot_si_next it.type entry_si_next ?_ (args_si_next _))))
  unfold Builtin.«set_iterator.__next__»
  refine wpAny_bind (wpAny_pure ?_); dsimp only
  refine wpAny_bind (wpAny_fieldsOf g dt ?_); simp only [rawInt]
  refine wpAny_bind (wpAny_setEntries_of gs S.data S.fit ?_); rw [if_neg (by rw [hn]; simp)]
  simp only [Int.toNat_natCast]
  refine wpAny_bind (nxt _ _ _ ?_)
  dsimp only
  refine wpAny_bind (wpAny_setField g dt (by simp) ?_)
  obtain ⟨o1, g1, c1, d1⟩ := fld_upd 0 (Value.int (nx : Int) 0) g dt
  refine wpAny_bind (wpAny_setField (s := { s with heap := s.heap.update I (Obj.mapFields (·.setIfInBounds 0 (Value.int (nx : Int) 0))) }) g1 d1 (by simp) ?_)
  obtain ⟨o2, g2, c2, d2⟩ := fld_upd 1 (Value.int ((i : Int) + 1) 0) g1 d1
  refine wpAny_pure ⟨_, rfl, wpAny_pure (h _ ⟨o2, g2, c2.trans (c1.trans c), ?_⟩ ((Heap.SameBut.update _ I _).trans (Heap.SameBut.update _ I _)))⟩
  rw [d2]
  simp [rawInt]
theorem stop_here {I : Addr} {o : Obj} {fs : Array Value} {Q : Option Value → Shared → Prop} {Q1 : PySem.Fin → Shared → Prop} (hh : A.handled = none) (g : s.heap.get? I = some o) (dt : o.data = .fields fs) (hz : 2 < fs.size)
    (h : ∀ h', Heap.ExtBut I s.heap h' → Q none { s with heap := h' }) :
    wpAny (model prog w) A.in1 (setField (.ref I) 2 .none >>= fun _ => newExc (.type "StopIteration") [] >>= fun e => raiseNew e) Q1
      (fun e s' => wpAny (model prog w) A (isInstance e (.type "StopIteration") >>= fun b => if b = true then pure none else throw e) Q E s') s := by
  refine wpAny_bind (wpAny_setField g dt hz ?_)
  refine wpAny_bind ?_
  simp only [newExc, newTuple]
  refine wpAny_bind (wpAny_newObj_type ?_ (by size_fits)); refine wpAny_bind (m := firstArgMember _ _) (wpAny_of_eq (a := Value.none) (by first | rfl | (simp only [firstArgMember]; rfl)) ?_)
  refine wpAny_newObj_type ?_ (by size_fits); simp only [raiseNew]
  refine wpAny_bind (wpAny_handled ?_); rw [show A.in1.handled = none from hh]
  refine wpAny_bind (wpAny_pure (wpAny_throw ?_)); refine wpAny_bind (wpAny_isInstance (T := "StopIteration") (b := true) ⟨_, Heap.get?_push_size _ rfl, rfl⟩ isSubtype_stop ?_)
  exact wpAny_pure (h _ (((Heap.SameBut.update ..).extBut.push _).push _))
theorem next_end {I a : Addr} {sl i n ep : Nat} {es : Array (Int × Value)} {t : SetTable} {ks : List Key} {Q : Option Value → Shared → Prop} (hh : A.handled = none) (it : SIter s.heap I (rawInt sl) i a n ep) (sa : SAt w s.heap a es ep t ks) (hn : es.size = n)
    (nxt : ∀ (A' : Around) (E' : Value → Shared → Prop) (Q' : Option (Value × Nat) → Shared → Prop), Q' none s → wpAny (model prog w) A' (setNext a sl i ep) Q' E' s)
    (h : ∀ h', Heap.ExtBut I s.heap h' → Q none { s with heap := h' }) : wpAny (model prog w) A (pyNext (.ref I)) Q E s := by
  obtain ⟨o, g, c, dt⟩ := id it
  obtain ⟨os, gs, S⟩ := sa
  unfold pyNext
  refine wpAny_bind (wpAny_attempt (wpAny_callSpecial?_slot (name := Str.ofString "__next__") it.type slot_si_next (wpAny_call_entry slot_si_next it.type entry_si_next ?_ (args_si_next _))))
  unfold Builtin.«set_iterator.__next__»
  refine wpAny_bind (wpAny_pure ?_); dsimp only
  refine wpAny_bind (wpAny_fieldsOf g dt ?_); simp only [rawInt]
  refine wpAny_bind (wpAny_setEntries_of gs S.data S.fit ?_); rw [if_neg (by rw [hn]; simp)]
  simp only [Int.toNat_natCast]
  refine wpAny_bind (nxt _ _ _ ?_)
  dsimp only
  exact stop_here hh g dt (by simp) h
def TupAt (h : Heap) (T : Addr) (ps : List Nat) : Prop := ∃ o n, h.get? T = some o ∧ o.data = .seq (ps.map fun (p : Nat) => rawInt p).toArray n
theorem nextD_item {I a T : Addr} {i n ep p : Nat} {ps : List Nat} {es : Array (Int × Value)} {t : SetTable} {ks : List Key} {e : Int × Value} {Q : Option Value → Shared → Prop} (it : SIter s.heap I (.ref T) i a n ep) (tp : TupAt s.heap T ps) (sa : SAt w s.heap a es ep t ks) (hn : es.size = n)
    (hp : ps[i]? = some p) (he : es[p]? = some e) (h : ∀ h', SIter h' I (.ref T) (i + 1) a n ep → Heap.SameBut I s.heap h' → Q (some e.2) { s with heap := h' }) : wpAny (model prog w) A (pyNext (.ref I)) Q E s := by
  obtain ⟨o, g, c, dt⟩ := id it
  obtain ⟨os, gs, S⟩ := sa
  obtain ⟨ot, nt, gt, dtt⟩ := tp
  unfold pyNext
  refine wpAny_bind (wpAny_attempt (wpAny_callSpecial?_slot (name := Str.ofString "__next__") it.type slot_si_next (wpAny_call_entry slot_si_next it.type entry_si_next ?_ (args_si_next _))))
  unfold Builtin.«set_iterator.__next__»
  refine wpAny_bind (wpAny_pure ?_); dsimp only
  refine wpAny_bind (wpAny_fieldsOf g dt ?_); simp only [rawInt]
  refine wpAny_bind (wpAny_setEntries_of gs S.data S.fit ?_); rw [if_neg (by rw [hn]; simp)]
  refine wpAny_bind (wpAny_seqItems gt dtt ?_)
  dsimp only
  have e1 : (ps.map fun (p : Nat) => rawInt p).toArray[((i : Int)).toNat]? = some (Value.int (p : Int) 0) := by simp [hp, rawInt]
  rw [e1]
  dsimp only
  unfold setNextDrawn
  simp only [Int.toNat_natCast]
  refine wpAny_bind (wpAny_bind (wpAny_setState_of gs S.data S.fit ?_))
  dsimp only
  rw [if_neg (by simp)]
  rw [he]
  refine wpAny_pure ?_
  refine wpAny_bind (wpAny_setField g dt (by simp) ?_)
  obtain ⟨o2, g2, c2, d2⟩ := fld_upd 1 (Value.int ((i : Int) + 1) 0) g dt
  refine wpAny_pure ⟨_, rfl, wpAny_pure (h _ ⟨o2, g2, c2.trans c, ?_⟩ (Heap.SameBut.update _ I _))⟩
  rw [d2]
  simp [rawInt]
theorem nextD_end {I a T : Addr} {i n ep : Nat} {ps : List Nat} {es : Array (Int × Value)} {t : SetTable} {ks : List Key} {Q : Option Value → Shared → Prop} (hh : A.handled = none) (it : SIter s.heap I (.ref T) i a n ep) (tp : TupAt s.heap T ps) (sa : SAt w s.heap a es ep t ks) (hn : es.size = n)
    (hp : ps[i]? = none) (h : ∀ h', Heap.ExtBut I s.heap h' → Q none { s with heap := h' }) : wpAny (model prog w) A (pyNext (.ref I)) Q E s := by
  obtain ⟨o, g, c, dt⟩ := id it
  obtain ⟨os, gs, S⟩ := sa
  obtain ⟨ot, nt, gt, dtt⟩ := tp
  unfold pyNext
  refine wpAny_bind (wpAny_attempt (wpAny_callSpecial?_slot (name := Str.ofString "__next__") it.type slot_si_next (wpAny_call_entry slot_si_next it.type entry_si_next ?_ (args_si_next _))))
  unfold Builtin.«set_iterator.__next__»
  refine wpAny_bind (wpAny_pure ?_); dsimp only
  refine wpAny_bind (wpAny_fieldsOf g dt ?_); simp only [rawInt]
  refine wpAny_bind (wpAny_setEntries_of gs S.data S.fit ?_); rw [if_neg (by rw [hn]; simp)]
  refine wpAny_bind (wpAny_seqItems gt dtt ?_)
  dsimp only
  have e1 : (ps.map fun (p : Nat) => rawInt p).toArray[((i : Int)).toNat]? = none := by
    have := List.getElem?_eq_none_iff.mp hp
    simp [this]
  rw [e1]
  dsimp only
  refine wpAny_bind (wpAny_setField g dt (by simp) ?_)
  obtain ⟨o1, g1, c1, d1⟩ := fld_upd 0 (Value.int 0 0) g dt
  refine stop_here (s := { s with heap := s.heap.update I (Obj.mapFields (·.setIfInBounds 0 (Value.int 0 0))) }) hh g1 d1 (by simp) fun h' q => h h' ?_
  exact fun b o hb e => q b o hb (((Heap.SameBut.update s.heap I _).2 b hb).trans e)
end
end L2

set_option Elab.async false
set_option linter.all false
set_option maxRecDepth 100000
set_option maxHeartbeats 4000000
namespace L2
open PySem PySem.Spec PyProof.Rows
theorem slot_si_iter : Slot "set_iterator" "__iter__" "set_iterator.__iter__" :=
  .of (owner := "set_iterator") (n := "__iter__") (by rw [typeLookup_type, builtinLookup_eq_fast]; kernel_rfl) (by decide +kernel) (by decide +kernel) (by decide +kernel) (by first | exact .inl (by decide +kernel) | exact .inr (by decide +kernel)) (by rw [isSubtype_type]; kernel_rfl)
theorem entry_si_iter : entryFor table "set_iterator.__iter__" = some Builtin.«dict_keyiterator.__iter__» := entryFor_alias (id' := "dict_keyiterator.__iter__") (by kernel_rfl) rfl (by decide +kernel) (by kernel_rfl)
theorem args_si_iter (a : Value) : argsOk "set_iterator.__iter__" ⟨[a], []⟩ := by unfold argsOk; kernel_rfl
theorem SAt.at {w : World} {h h' : Heap} {a : Addr} {es ep t ks} (x : SAt w h a es ep t ks) (k : ∀ o, h.get? a = some o → h'.get? a = some o) : SAt w h' a es ep t ks := by
  obtain ⟨o, g, S⟩ := x
  exact ⟨o, k _ g, S⟩
theorem SIter.at {h h' : Heap} {I f i a n ep} (x : SIter h I f i a n ep) (k : ∀ o, h.get? I = some o → h'.get? I = some o) : SIter h' I f i a n ep := by
  obtain ⟨o, g, r⟩ := x
  exact ⟨o, k _ g, r⟩
theorem TupAt.at {h h' : Heap} {T ps} (x : TupAt h T ps) (k : ∀ o, h.get? T = some o → h'.get? T = some o) : TupAt h' T ps := by
  obtain ⟨o, n, g, r⟩ := x
  exact ⟨o, n, k _ g, r⟩
section
variable {prog : Program} {w : World} {A : Around} {E : Value → Shared → Prop} {s : Shared} {I a T : Addr} {es xs : Array (Int × Value)} {ep : Nat} {t : SetTable} {ks : List Key}
theorem iter_self {f : Value} {i n : Nat} {Q : Value → Shared → Prop} (it : SIter s.heap I f i a n ep) (h : Q (.ref I) s) : wpAny (model prog w) A (pyIter (.ref I)) Q E s := by
  refine wpAny_pyIter_slot it.type slot_si_iter (wpAny_call_entry slot_si_iter it.type entry_si_iter ?_ (args_si_iter _))
  show wpAny _ _ (ret (.ref I)) _ _ s; exact wpAny_pure ⟨_, rfl, "set_iterator", _, it.type, slot_si_next.lookup, h⟩
theorem walk_int (hne : a ≠ I) (sl : Nat → Nat) (hx : xs.size = es.size)
    (nx : ∀ (i : Nat) (s : Shared) (A' : Around) (E' : Value → Shared → Prop) (Q' : Option (Value × Nat) → Shared → Prop), SAt w s.heap a es ep t ks → i ≤ es.size → Q' ((xs[i]?).map fun e => (e.2, sl (i + 1))) s → wpAny (model prog w) A' (setNext a (sl i) i ep) Q' E' s) (hh : A.handled = none) :
    Walks prog w A I [I, a] [I] es.size (fun i v => ∃ e, xs[i]? = some e ∧ e.2 = v) (fun i h => SIter h I (rawInt (sl i)) i a es.size ep ∧ SAt w h a es ep t ks) where
  sub := fun b hb => by simp at hb; simp [hb]
  frame := fun _ _ _ st hk => ⟨st.1.at fun o e => hk I (by simp) o e, st.2.at fun o e => hk a (by simp) o e⟩
  item := fun i s Q E hi st hQ => by
    have hi' : i < xs.size := by rw [hx]; exact hi
    refine next_item (x := xs[i].2) (nx := sl (i + 1)) st.1 st.2 rfl (fun A' E' Q' q => nx i s A' E' Q' st.2 (Nat.le_of_lt hi) ?_) fun h' it' hs => ?_
    · rw [Array.getElem?_eq_getElem hi']; exact q
    · exact hQ _ h' s.toks ⟨xs[i], Array.getElem?_eq_getElem hi', rfl⟩ ⟨it', st.2.at fun o e => (hs.2 a hne).trans e⟩ fun b o hb e => (hs.2 b (fun q => hb (by simp [q]))).trans e
  done := fun s Q E st hQ => by
    refine next_end hh st.1 st.2 rfl (fun A' E' Q' q => nx es.size s A' E' Q' st.2 (Nat.le_refl _) ?_) fun h' hs => hQ h' s.toks fun b o hb e => hs b o (fun q => hb (by simp [q])) e
    rw [Array.getElem?_eq_none (by rw [hx]; exact Nat.le_refl _)]; exact q
  self := fun i s Q E st q => iter_self st.1 q
theorem walk_drawn (hne : a ≠ I) (hT : T ≠ I) (ps : List Nat) (hp : ps.length = es.size) (hb : ∀ p ∈ ps, p < es.size) (hh : A.handled = none) :
    Walks prog w A I [I, a, T] [I] es.size (fun i v => ∃ p e, ps[i]? = some p ∧ es[p]? = some e ∧ e.2 = v) (fun i h => SIter h I (.ref T) i a es.size ep ∧ SAt w h a es ep t ks ∧ TupAt h T ps) where
  sub := fun b hb => by simp at hb; simp [hb]
  frame := fun _ _ _ st hk => ⟨st.1.at fun o e => hk I (by simp) o e, st.2.1.at fun o e => hk a (by simp) o e, st.2.2.at fun o e => hk T (by simp) o e⟩
  item := fun i s Q E hi st hQ => by
    have hi' : i < ps.length := by rw [hp]; exact hi
    have h1 : ps[i]? = some ps[i] := List.getElem?_eq_getElem hi'
    have h2 : ps[i] < es.size := hb _ (List.getElem_mem hi')
    have h3 : es[ps[i]]? = some es[ps[i]] := Array.getElem?_eq_getElem h2
    refine nextD_item st.1 st.2.2 st.2.1 rfl h1 h3 fun h' it' hs => ?_
    exact hQ _ h' s.toks ⟨_, _, h1, h3, rfl⟩ ⟨it', st.2.1.at fun o e => (hs.2 a hne).trans e, st.2.2.at fun o e => (hs.2 T hT).trans e⟩ fun b o hb e => (hs.2 b (fun q => hb (by simp [q]))).trans e
  done := fun s Q E st hQ => nextD_end hh st.1 st.2.2 st.2.1 rfl (List.getElem?_eq_none (by rw [hp]; exact Nat.le_refl _)) fun h' hs => hQ h' s.toks fun b o hb e => hs b o (fun q => hb (by simp [q])) e
  self := fun i s Q E st q => iter_self st.1 q
theorem nxt_text (hb : byT w = true) {sl i : Nat} {Q : Option (Value × Nat) → Shared → Prop} (sa : SAt w s.heap a es ep t ks) (h : Q (((pickOrder (w.params.setOrder a ep) es)[i]?).map fun e => (e.2, sl)) s) : wpAny (model prog w) A (setNext a sl i ep) Q E s := by
  obtain ⟨o, g, S⟩ := sa
  unfold setNext
  refine wpAny_bind (wpAny_setState_of g S.data S.fit (wpAny_bind (wp_byText ?_))); dsimp only
  rw [hb, if_pos rfl, if_neg (by simp)]
  refine wpAny_bind ?_
  unfold setWalk
  refine wpAny_bind (wpAny_setState_of g S.data S.fit (wpAny_bind (wp_byText ?_)))
  rw [hb, if_pos rfl]
  refine wpAny_bind (wpAny_askSetting (wpAny_pure (wpAny_pure ?_)))
  exact h
def slP (t : SetTable) : Nat → Nat
  | 0 => 0
  | i + 1 => t.place.getD i 0 + 1
theorem below_slP {t : SetTable} (hr : RT t) : ∀ {i : Nat}, i ≤ t.place.size → SetTable.below t.place (slP t i) = i
  | 0, _ => below_zero hr.ris
  | i + 1, h => below_next hr.ris h
theorem nxt_place (hb : byT w = false) (hd : t.plain = true ∨ es.size ≤ 1) {i : Nat} {Q : Option (Value × Nat) → Shared → Prop} (sa : SAt w s.heap a es ep t ks) (hi : i ≤ es.size) (h : Q ((es[i]?).map fun e => (e.2, slP t (i + 1))) s) : wpAny (model prog w) A (setNext a (slP t i) i ep) Q E s := by
  obtain ⟨o, g, S⟩ := sa
  have hps : t.place.size = es.size := by
    have := S.fit
    simp only [SetTable.fits, Bool.and_eq_true, beq_iff_eq] at this
    exact this.1
  unfold setNext
  refine wpAny_bind (wpAny_setState_of g S.data S.fit (wpAny_bind (wp_byText ?_))); dsimp only
  rw [hb, if_neg Bool.false_ne_true]
  refine wpAny_ite_split (fun hab => ?_) fun _ => ?_
  · have q : (!t.plain && decide (es.size > 1)) = true := hab
    rw [Bool.and_eq_true, decide_eq_true_eq] at q
    rcases hd with e | e
    · rw [e] at q; exact absurd q.1 (by simp)
    · omega
  · refine wpAny_bind ?_
    show wpAny _ _ (if (!t.led && !es.isEmpty) = true then unsupported "set:maker-not-led" else pure ()) _ _ _
    rw [S.led, hb]
    simp only [Bool.not_false, Bool.not_true, Bool.false_and, Bool.false_eq_true, if_false]
    refine wpAny_pure (wpAny_pure ?_)
    rw [below_slP S.rt (by rw [hps]; exact hi)]
    rcases Nat.lt_or_eq_of_le hi with hl | hl
    · have e1 : es[i]? = some es[i] := Array.getElem?_eq_getElem hl
      have e2 : t.place[i]? = some (t.place.getD i 0) := by
        have : i < t.place.size := by rw [hps]; exact hl
        simp [Array.getD, this]
      rw [e1] at h ⊢
      rw [e2]
      exact h
    · have e1 : es[i]? = none := Array.getElem?_eq_none (by omega)
      rw [e1] at h ⊢
      exact h
theorem draw_order {α : Type} {Q : List α → Shared → Prop} : ∀ (xs : List α) (s : Shared), (∀ ys d, ys.Perm xs → Q ys { s with drawn := d }) → wpAny (model prog w) A (drawOrder xs.length xs) Q E s := by
  intro xs
  generalize hn : xs.length = n
  induction n generalizing xs Q with
  | zero =>
    intro s h
    have : xs = [] := List.eq_nil_of_length_eq_zero hn
    subst this
    unfold drawOrder
    exact wpAny_pure (h [] s.drawn .rfl)
  | succ n ih =>
    intro s h
    match xs, hn with
    | x :: r, hn =>
      unfold drawOrder
      refine wpAny_bind (wp_choose (by simp) fun i d hi => ?_)
      rw [List.getElem?_eq_getElem hi]
      dsimp only
      refine wpAny_bind (ih _ (by rw [List.length_eraseIdx_of_lt hi]; omega) _ fun ys d' hp => wpAny_pure (h _ d' ?_))
      exact (hp.cons _).trans (erase_perm hi)
/-- the iterator of a set: some order of its entries -/
theorem iter_walk {Q : Value → Shared → Prop} (sa : SAt w s.heap a es ep t ks)
    (h : ∀ (s' : Shared) (I : Addr) (xs : Array (Int × Value)) (fp : List Addr) (St : Nat → Heap → Prop), xs.toList.Perm es.toList → (∀ b o, s.heap.get? b = some o → s'.heap.get? b = some o) → s'.gens = s.gens → s'.os = s.os → s'.toks = s.toks →
      s.heap.objs.size ≤ I → (∀ b ∈ fp, b < s'.heap.objs.size ∧ (b = a ∨ s.heap.objs.size ≤ b)) → (∀ A' : Around, A'.handled = none → Walks prog w A' I fp [I] es.size (fun i v => ∃ e, xs[i]? = some e ∧ e.2 = v) St) → St 0 s'.heap → Q (.ref I) s') :
    wpAny (model prog w) A (pyIter (.ref a)) Q E s := by
  obtain ⟨o, g, S⟩ := id sa
  have la : a < s.heap.objs.size := Heap.lt_size g
  have hT : s.TypeIs (.ref a) "set" := ⟨o, g, S.exact'.1⟩
  refine wpAny_pyIter_slot hT F.slot_set_iter (wpAny_call_entry F.slot_set_iter hT entry_s_iter ?_ (F.args_set_iter_1 _))
  unfold Builtin.«frozenset.__iter__» Builtin.Frozenset.slot0 Builtin.Frozenset.sizeOf
  refine wpAny_bind (wpAny_bind (wpAny_pure (wpAny_pure ?_)))
  refine wpAny_bind (wpAny_bind (wpAny_setEntries_of g S.data S.fit (wpAny_pure ?_)))
  refine wpAny_bind ?_
  unfold setDrawn
  refine wpAny_bind (wpAny_setState_of g S.data S.fit (wpAny_bind (wp_byText (wpAny_pure ?_))))
  have fin : ∀ (d : Drawn) (sl : Nat → Nat) (xs : Array (Int × Value)), sl 0 = 0 → xs.size = es.size → xs.toList.Perm es.toList →
      (∀ (i : Nat) (s : Shared) (A' : Around) (E' : Value → Shared → Prop) (Q' : Option (Value × Nat) → Shared → Prop), SAt w s.heap a es ep t ks → i ≤ es.size → Q' ((xs[i]?).map fun e => (e.2, sl (i + 1))) s → wpAny (model prog w) A' (setNext a (sl i) i ep) Q' E' s) →
      wpAny (model prog w) A.in1 (setEpoch a >>= fun e => newFields "set_iterator" [rawInt 0, rawInt 0, .ref a, rawInt es.size, rawInt e] >>= fun v => ret v) (fun fin s' => ∃ v, fin = .done (.ret v) ∧ ∃ T' r, s'.TypeIs v T' ∧ typeLookup (.type T') "__next__" = pure (some r) ∧ Q v s') E { s with drawn := d } := by
    intro d sl xs e0 ex hp nx
    refine wpAny_bind (wpAny_setEpoch_of g S.data S.fit (wpAny_bind (wpAny_newObj_type (wpAny_pure ⟨_, rfl, "set_iterator", _, ⟨_, Heap.get?_push_size _ rfl, rfl⟩, slot_si_next.lookup, ?_⟩))))
    refine h { s with drawn := d, heap := s.heap.push { cls := .type "set_iterator", data := .fields #[rawInt 0, rawInt 0, .ref a, rawInt es.size, rawInt ep] } } s.heap.objs.size xs [s.heap.objs.size, a] _ hp (fun b o e => Heap.get?_push_of_some _ e) rfl rfl rfl (Nat.le_refl _) (fun b hb => ?_) (fun A' hh => walk_int (Nat.ne_of_lt la) sl ex nx hh) ?_
    · show b < (s.heap.push _).objs.size ∧ _
      rw [size_push']
      rcases List.mem_cons.mp hb with e | e
      · rw [e]; exact ⟨Nat.lt_succ_self _, .inr (Nat.le_refl _)⟩
      · rw [List.mem_singleton.mp e]; exact ⟨Nat.lt_succ_of_lt la, .inl rfl⟩
    · refine ⟨⟨_, Heap.get?_push_size _ rfl, rfl, ?_⟩, sa.at fun o e => Heap.get?_push_of_some _ e⟩
      rw [e0]; rfl
  dsimp only
  have hps : t.place.size = es.size := by
    have := S.fit
    simp only [SetTable.fits, Bool.and_eq_true, beq_iff_eq] at this
    exact this.1
  have fewE : es.size ≤ sizeLine := few_line (by rw [S.size]; exact S.few)
  refine wpAny_ite_split (fun hab => ?_) (fun hab => ?_)
  · have key := draw_order (prog := prog) (w := w) (A := A.in1) (E := E) (List.range es.size) s (Q := fun ys s' => wpAny (model prog w) A.in1 (newTuple (ys.map fun (i : Nat) => rawInt i) >>= fun first => setEpoch a >>= fun e => newFields "set_iterator" [first, rawInt 0, .ref a, rawInt es.size, rawInt e] >>= fun v => ret v) (fun fin s' => ∃ v, fin = .done (.ret v) ∧ ∃ T' r, s'.TypeIs v T' ∧ typeLookup (.type T') "__next__" = pure (some r) ∧ Q v s') E s') fun ys d hp => ?_
    · rw [List.length_range] at key
      exact wpAny_bind key
    · have hl : ys.length = es.size := by rw [hp.length_eq, List.length_range]
      have hlt : ∀ p ∈ ys, p < es.size := fun p h => List.mem_range.mp (hp.mem_iff.mp h)
      refine wpAny_bind (wpAny_newTuple ?_ (by rw [List.length_map, hl]; exact fewE))
      have gt : (s.heap.push (seqObj "tuple" (ys.map fun (i : Nat) => rawInt i).toArray 0)).get? s.heap.objs.size = some (seqObj "tuple" (ys.map fun (i : Nat) => rawInt i).toArray 0) := Heap.get?_push_size _ rfl
      refine wpAny_bind (wpAny_setEpoch_of (s := { s with drawn := d, heap := s.heap.push (seqObj "tuple" (ys.map fun (i : Nat) => rawInt i).toArray 0) }) (Heap.get?_push_of_some _ g) S.data S.fit (wpAny_bind (wpAny_newObj_type (wpAny_pure ⟨_, rfl, "set_iterator", _, ⟨_, Heap.get?_push_size _ rfl, rfl⟩, slot_si_next.lookup, ?_⟩))))
      have z1 : (s.heap.push (seqObj "tuple" (ys.map fun (i : Nat) => rawInt i).toArray 0)).objs.size = s.heap.objs.size + 1 := size_push' _ _
      have W : ∀ A' : Around, A'.handled = none → Walks prog w A' (s.heap.objs.size + 1) [s.heap.objs.size + 1, a, s.heap.objs.size] [s.heap.objs.size + 1] es.size (fun i v => ∃ e, (ys.filterMap (es[·]?)).toArray[i]? = some e ∧ e.2 = v) (fun i h => SIter h (s.heap.objs.size + 1) (.ref s.heap.objs.size) i a es.size ep ∧ SAt w h a es ep t ks ∧ TupAt h s.heap.objs.size ys) := fun A' hh => by
        have W0 := walk_drawn (prog := prog) (w := w) (A := A') (I := s.heap.objs.size + 1) (a := a) (T := s.heap.objs.size) (es := es) (ep := ep) (t := t) (ks := ks) (Nat.ne_of_lt (Nat.lt_succ_of_lt la)) (Nat.ne_of_lt (Nat.lt_succ_self _)) ys hl hlt hh
        refine ⟨W0.sub, W0.frame, fun i s Q E hi st hQ => W0.item i s Q E hi st fun v h' tk hP => hQ v h' tk ?_, W0.done, W0.self⟩
        obtain ⟨p, e, h1, h2, h3⟩ := hP
        refine ⟨e, ?_, h3⟩
        have : ∀ (l : List Nat) (i : Nat), (∀ p ∈ l, p < es.size) → (l.filterMap (es[·]?))[i]? = (l[i]?).bind (es[·]?) := by
          intro l
          induction l with
          | nil => intro i _; simp
          | cons q l ih =>
            intro i hq
            have lq : q < es.size := hq q List.mem_cons_self
            have e0 : es[q]? = some es[q] := Array.getElem?_eq_getElem lq
            rw [List.filterMap_cons_some e0]
            cases i with
            | zero => simp [e0]
            | succ i => simpa using ih i fun p hp => hq p (List.mem_cons_of_mem _ hp)
        rw [List.getElem?_toArray, this ys i hlt, h1]
        show es[p]? = some e
        exact h2
      show Q (.ref (s.heap.push (seqObj "tuple" (ys.map fun (i : Nat) => rawInt i).toArray 0)).objs.size) _
      rw [z1]
      refine h { s with drawn := d, heap := (s.heap.push (seqObj "tuple" (ys.map fun (i : Nat) => rawInt i).toArray 0)).push { cls := .type "set_iterator", data := .fields #[.ref s.heap.objs.size, rawInt 0, .ref a, rawInt es.size, rawInt ep] } } (s.heap.objs.size + 1) _ _ _ ?_ (fun b o e => Heap.get?_push_of_some _ (Heap.get?_push_of_some _ e)) rfl rfl rfl (Nat.le_succ _) (fun b hb => ?_) W ?_
      · show (ys.filterMap (es[·]?)).Perm es.toList
        exact (hp.filterMap _).trans (by rw [filterMap_getElem?_range])
      · show b < ((s.heap.push _).push _).objs.size ∧ _
        rw [size_push', size_push']
        rcases List.mem_cons.mp hb with e | e
        · rw [e]; exact ⟨Nat.lt_succ_self _, .inr (Nat.le_succ _)⟩
        · rcases List.mem_cons.mp e with e | e
          · rw [e]; exact ⟨Nat.lt_succ_of_lt (Nat.lt_succ_of_lt la), .inl rfl⟩
          · rw [List.mem_singleton.mp e]; exact ⟨Nat.lt_succ_of_lt (Nat.lt_succ_self _), .inr (Nat.le_refl _)⟩
      · refine ⟨⟨{ cls := .type "set_iterator", data := .fields #[.ref s.heap.objs.size, rawInt 0, .ref a, rawInt es.size, rawInt ep] }, ?_, rfl, rfl⟩, sa.at fun o e => Heap.get?_push_of_some _ (Heap.get?_push_of_some _ e), ⟨_, _, Heap.get?_push_of_some _ gt, rfl⟩⟩
        rw [← z1]
        exact Heap.get?_push_size _ rfl
  · refine wpAny_bind (wpAny_pure ?_)
    cases hb : byT w with
    | true => exact fin s.drawn (fun _ => 0) (pickOrder (w.params.setOrder a ep) es) rfl (by rw [← Array.length_toList, (pick_perm _ es).length_eq, Array.length_toList]) (pick_perm _ es) fun i s' A' E' Q' sa' hi q => nxt_text hb sa' q
    | false =>
      have hd : t.plain = true ∨ es.size ≤ 1 := by
        have q : ¬ (!byT w && (!t.plain && decide (es.size > 1))) = true := hab
        rw [hb] at q
        cases hp : t.plain with
        | true => exact .inl rfl
        | false =>
          rw [hp] at q
          simp at q
          exact .inr q
      exact fin s.drawn (slP t) es rfl rfl .rfl fun i s' A' E' Q' sa' hi q => nxt_place hb hd sa' hi q
end
end L2

set_option Elab.async false
set_option linter.all false
set_option maxRecDepth 100000
set_option maxHeartbeats 4000000
namespace L2
open PySem PySem.Spec PyProof.Rows
section
variable {prog : Program} {w : World} {A : Around} {E : Value → Shared → Prop} {s : Shared} {a : Addr} {es : Array (Int × Value)} {ep : Nat} {t : SetTable} {ks : List Key}
theorem hint_set (hT : s.TypeIs (.ref a) "set") {Q : Bool → Shared → Prop} (h : Q false s) : wpAny (model prog w) A (Builtin.List.listLengthHint (.ref a)) Q E s := by
  unfold Builtin.List.listLengthHint
  refine wpAny_bind (wpAny_specialOf hT PySem.F.slot_set_len.lookup ?_)
  generalize hid : ("set.__len__" : String) = id0
  wp_delta
  rw [show splitId id0 = some ("set", "__len__") from by subst hid; decide +kernel]
  subst hid
  refine wpAny_bind (wpAny_isInstance (T := "set") (b := true) hT (by rw [isSubtype_type]; kernel_rfl) ?_); refine wpAny_ite_split (fun hab => absurd hab (by decide)) (fun _ => ?_)
  refine wpAny_ite_split (fun _ => ?_) (fun hab => absurd (by decide +kernel) hab); exact wpAny_bind (wpAny_typeOf hT (wpAny_pure h))
/-- what a walk of the set has told: values whose keys are the set's, in some order -/
def KeysAre (vs : List Value) (ks : List Key) : Prop := Paired (fun v k => keyIs k v = true) vs ks
theorem keysAre_of {w : World} {ps : Array (Int × Value)} {es : Array (Int × Value)} {ks : List Key} {acc : Array Value} (hp : ps.toList.Perm es.toList) (he : Paired (Ent w) es.toList ks) (hi : ItemsOf (fun i v => ∃ e, ps[i]? = some e ∧ e.2 = v) acc es.size) :
    ∃ ks', ks'.Perm ks ∧ KeysAre acc.toList ks' := by
  obtain ⟨ks', e1, p1⟩ := paired_perm hp he
  refine ⟨ks', e1, ?_⟩
  have e2 : acc.toList = ps.toList.map (·.2) := by
    apply List.ext_getElem?
    intro i
    rw [Array.getElem?_toList, List.getElem?_map, Array.getElem?_toList]
    have hz : acc.size = es.size := hi.1
    have hz2 : ps.size = es.size := by rw [← Array.length_toList, hp.length_eq, Array.length_toList]
    by_cases hl : i < es.size
    · have h1 : acc[i]? = some (acc[i]'(by omega)) := Array.getElem?_eq_getElem (by omega)
      obtain ⟨e, h2, h3⟩ := hi.2 i _ h1
      rw [h1, h2, ← h3]
      rfl
    · rw [Array.getElem?_eq_none (by omega), Array.getElem?_eq_none (by omega)]
      rfl
  rw [e2]
  have : ∀ {l : List (Int × Value)} {ks : List Key}, Paired (Ent w) l ks → KeysAre (l.map (·.2)) ks := by
    intro l ks p
    induction p with
    | nil => exact .nil
    | cons h _ ih => exact .cons h.1 ih
  exact this p1
theorem collect_set {R : List Value → Shared → Prop} (hh : A.handled = none) (sa : SetP w s.heap a ks)
    (h : ∀ (s' : Shared) (vs : List Value) (ks' : List Key), (∀ b o, s.heap.get? b = some o → s'.heap.get? b = some o) → s'.gens = s.gens → s'.os = s.os → s.heap.objs.size ≤ s'.heap.objs.size → ks'.Perm ks → KeysAre vs ks' → R vs s') :
    wpAny (model prog w) A (collect (.ref a)) R E s := by
  obtain ⟨ks0, ⟨o, es, ep, t, g, S⟩, ek⟩ := sa
  have la : a < s.heap.objs.size := Heap.lt_size g
  have hn : es.size ≤ sizeLine := few_line (by rw [S.size]; exact S.few)
  unfold collect
  refine wpAny_bind (wpAny_runValue (codeAny_builtin entry_proto_collect' ?_)); rw [Around.under_plainId PySem.F.plain_proto_collect _]
  show wpAny _ A.in1 (newList [] >>= fun l => again (.builtin "list.__iadd__" ⟨[l, .ref a], []⟩)) _ _ s; refine wpAny_bind (wpAny_newObj_type ?_)
  refine wpAny_pure ⟨plainId_quiet PySem.F.plain_list_iadd _, codeAny_builtin entry_list_iadd' ?_⟩; rw [Around.under_plainId PySem.F.plain_list_iadd _]
  have gL : (s.heap.push { cls := .type "list", data := .seq ([] : List Value).toArray }).get? s.heap.objs.size = some { cls := .type "list", data := .seq #[] } := Heap.get?_push_size _ rfl
  have zL : (s.heap.push { cls := .type "list", data := .seq ([] : List Value).toArray }).objs.size = s.heap.objs.size + 1 := size_push' _ _
  show wpAny _ A.in1 (Builtin.List.listExtendWith (.ref s.heap.objs.size) (.ref a) (.ref s.heap.objs.size)) _ _ _
  have gA : (s.heap.push { cls := .type "list", data := .seq ([] : List Value).toArray }).get? a = some o := Heap.get?_push_of_some _ g
  have hTa : Shared.TypeIs { s with heap := s.heap.push { cls := .type "list", data := .seq ([] : List Value).toArray } } (.ref a) "set" := ⟨o, gA, S.exact'.1⟩
  unfold Builtin.List.listExtendWith
  refine wpAny_bind (wpAny_typeOf (T := "set") hTa ?_)
  have ne : s.heap.objs.size ≠ a := Nat.ne_of_gt la
  have h1 : Builtin.List.listSameRef (.ref s.heap.objs.size) (.ref a) = false := by simp [Builtin.List.listSameRef, ne]
  have h2 : (Value.type "set" == Value.type "list") = false := by decide
  have h3 : (Value.type "set" == Value.type "tuple") = false := by decide
  simp only [h1, h2, h3, Bool.or_false, Bool.false_eq_true, if_false]
  refine wpAny_bind (iter_walk (s := { s with heap := s.heap.push { cls := .type "list", data := .seq ([] : List Value).toArray } }) ⟨o, gA, S⟩ fun s1 I ps fp St hp hk eg eo et lI hfp W st => ?_)
  have gL1 : s1.heap.get? s.heap.objs.size = some { cls := .type "list", data := .seq #[] } := hk _ _ gL
  have nL : s.heap.objs.size ∉ fp := fun hm => by
    rcases (hfp _ hm).2 with q | q
    · exact ne q
    · exact absurd q (by show ¬ (s.heap.push _).objs.size ≤ _; rw [zL]; exact Nat.not_succ_le_self _)
  have hTa1 : s1.TypeIs (.ref a) "set" := ⟨o, hk _ _ gA, S.exact'.1⟩
  refine wpAny_bind (wpAny_holding (hint_set hTa1 ?_))
  have key : ∀ (hp' : Heap) (c₁ : Nat), St 0 hp' → (∀ b o, b ≠ s.heap.objs.size → s1.heap.get? b = some o → hp'.get? b = some o) → hp'.get? s.heap.objs.size = some { cls := .type "list", data := .seq #[] c₁ } →
      codeAny (model prog w) A (.builtin "list.extend.loop" ⟨[.ref s.heap.objs.size, .ref I, .ref s.heap.objs.size], []⟩) (fun x s' => ∃ acc c', x = .ok (.ret (.ref s.heap.objs.size)) ∧ (∀ b o, s.heap.get? b = some o → s'.heap.get? b = some o) ∧ s'.gens = s.gens ∧ s'.os = s.os ∧
        s'.heap.get? s.heap.objs.size = some { cls := .type "list", dict := none, data := .seq acc c', slots := #[] } ∧ ItemsOf (fun i v => ∃ e, ps[i]? = some e ∧ e.2 = v) acc es.size) { s1 with heap := hp' } := by
    intro hp' c₁ st' hk' gL'
    refine codeAny_extend_loopS (W A.in1 hh).toS hn s.heap.objs.size nL _ es.size 0 _ #[] c₁ rfl (Nat.zero_le _) st' gL' (ItemsOf.nil _) fun s' acc c' hm gL'' hi => ?_
    refine ⟨acc, c', rfl, fun b o e => ?_, hm.gens.trans eg, hm.os.trans eo, gL'', hi⟩
    have lb : b < s.heap.objs.size := Heap.lt_size e
    refine hm.heap b o (fun hmem => ?_) (hk' b o (Nat.ne_of_lt lb) (hk b o (Heap.get?_push_of_some _ e)))
    rcases List.mem_cons.mp hmem with q | q
    · exact absurd q (Nat.ne_of_lt lb)
    · have q := List.mem_singleton.mp q
      have lI' : s.heap.objs.size + 1 ≤ I := by rw [← zL]; exact lI
      rw [q] at lb
      exact absurd lb (Nat.not_lt.mpr (Nat.le_of_succ_le lI'))
  have last : ∀ (x : Result) (s' : Shared), (∃ acc c', x = .ok (.ret (.ref s.heap.objs.size)) ∧ (∀ b o, s.heap.get? b = some o → s'.heap.get? b = some o) ∧ s'.gens = s.gens ∧ s'.os = s.os ∧
      s'.heap.get? s.heap.objs.size = some { cls := .type "list", dict := none, data := .seq acc c', slots := #[] } ∧ ItemsOf (fun i v => ∃ e, ps[i]? = some e ∧ e.2 = v) acc es.size) → ∃ v, x = .ok (.ret v) ∧ wpAny (model prog w) A (match v with
      | Value.ref a => do
        match (← load a).data with
          | Data.seq xs _ => pure xs.toList
          | _ => unsupported "internal:collect"
      | _ => unsupported "internal:collect") R E s' := by
    intro x s' q
    obtain ⟨acc, c', rfl, k1, k2, k3, k4, k5⟩ := q
    refine ⟨_, rfl, ?_⟩
    show wpAny _ A (load s.heap.objs.size >>= _) _ _ _; refine wpAny_bind (wpAny_load k4 (wpAny_pure ?_))
    obtain ⟨ks', e1, e2⟩ := keysAre_of hp S.ent k5
    exact h s' acc.toList ks' k1 k2 k3 (Nat.le_of_lt (Heap.lt_size k4)) (e1.trans ek) e2
  refine wpAny_ite_split (fun _ => ?_) (fun _ => ?_)
  · refine wpAny_bind (wpAny_rule (wpAny_bind ?_))
    show wpAny _ _ (updateSeq s.heap.objs.size (·.push .none) >>= fun _ => updateSeq s.heap.objs.size (·.pop)) _ _ _
    refine wpAny_bind (wpAny_updateSeq gL1 rfl ?_)
    have gL2 := Heap.get?_update_self (Obj.mapSeq (·.push Value.none)) gL1 rfl
    refine wpAny_updateSeq (hz := by seq_fits) gL2 rfl ?_
    have gL3 := Heap.get?_update_self (Obj.mapSeq (·.pop)) gL2 rfl
    refine wpAny_pure ⟨plainId_quiet PySem.F.plain_extend_loop _, codeAny_mono (key _ _ ?_ (fun b o hb e => ?_) gL3) fun x s' q => ?_⟩
    · refine (W A.in1 hh).frame 0 _ _ st fun b hb o e => ?_
      have hbS : b ≠ s.heap.objs.size := fun q => nL (q ▸ hb)
      exact (Heap.get?_update_other _ _ (Ne.symm hbS)).trans ((Heap.get?_update_other _ _ (Ne.symm hbS)).trans e)
    · exact (Heap.get?_update_other _ _ (Ne.symm hb)).trans ((Heap.get?_update_other _ _ (Ne.symm hb)).trans e)
    · obtain ⟨v, rfl, q'⟩ := last x s' q
      exact q'
  · refine wpAny_pure ⟨plainId_quiet PySem.F.plain_extend_loop _, codeAny_mono (key s1.heap 0 st (fun b o _ e => e) gL1) fun x s' q => ?_⟩
    obtain ⟨v, rfl, q'⟩ := last x s' q
    exact q'
theorem intsK {ns : List Int} : ∀ {vs : List Value}, KeysAre vs (ns.map Sum.inl) → IntsAre vs ns := by
  induction ns with
  | nil => intro vs p; cases p; exact .nil
  | cons n ns ih =>
    intro vs p
    cases p with
    | cons h r =>
      rcases keyIs_shape h with ⟨i, t, e, rfl⟩ | ⟨x, t, e, rfl⟩
      · cases e; exact .cons _ _ (ih r)
      · cases e
theorem perm_map_inv {α : Type} {f : α → Key} : ∀ {l : List α} {ks : List Key}, ks.Perm (l.map f) → ∃ l' : List α, l'.Perm l ∧ ks = l'.map f := by
  have : ∀ {ks ks' : List Key}, ks'.Perm ks → ∀ {l : List α}, ks' = l.map f → ∃ l' : List α, l'.Perm l ∧ ks = l'.map f := by
    intro ks ks' hp
    induction hp with
    | nil => intro l e; exact ⟨l, .rfl, e⟩
    | cons x _ ih =>
      intro l e
      match l, e with
      | y :: l, e =>
        rw [List.map_cons] at e
        injection e with e1 e2
        obtain ⟨l', h1, h2⟩ := ih e2
        exact ⟨y :: l', h1.cons _, by rw [List.map_cons, ← h2, e1]⟩
    | swap x y _ =>
      intro l e
      match l, e with
      | a :: b :: l, e =>
        simp only [List.map_cons, List.cons.injEq] at e
        obtain ⟨e1, e2, e3⟩ := e
        exact ⟨b :: a :: l, List.Perm.swap _ _ _, by simp [e1, e2, e3]⟩
    | trans _ _ ih1 ih2 =>
      intro l e
      obtain ⟨l1, h1, h2⟩ := ih1 e
      obtain ⟨l2, h3, h4⟩ := ih2 h2
      exact ⟨l2, h3.trans h1, h4⟩
  intro l ks hp
  exact this hp.symm rfl
theorem sorted_setI {ns : List Int} {Q : Value → Shared → Prop} (hh : A.handled = none) (sa : SetP w s.heap a (ns.map Sum.inl)) (h64 : ns.length < 64)
    (h : ∀ (s' : Shared) (D n : Nat) (out : Array Value) (ns' : List Int), (∀ b o, s.heap.get? b = some o → s'.heap.get? b = some o) → s'.gens = s.gens → s'.os = s.os → s.heap.objs.size ≤ D → s'.heap.get? D = some (seqObj "list" out n) → IntsAre out.toList ns' → ns'.Perm ns → ns'.Pairwise (· ≤ ·) → Q (.ref D) s') :
    wpAny (model prog w) A (call (.builtin "sorted") [.ref a]) Q E s := by
  refine Calls.call_function_entry kind_sorted plain_sorted entry_sorted (args_sorted1 _) ?_; unfold Builtin.«sorted»
  refine wpAny_bind (m := checkCount "sorted" 1 1 _) (wpAny_pure (wpAny_bind (collect_set (A := A.in1) hh sa fun s1 vs ks' hk eg eo ez ep kv => ?_)))
  obtain ⟨ns1, p1, rfl⟩ := perm_map_inv ep
  have hi := intsK kv
  have hl : vs.length < 64 := by rw [hi.length, p1.length_eq]; exact h64
  refine wpAny_bind (wpAny_newList ?_ (by rw [sizeLine_eq]; omega))
  have gD : (s1.heap.push (seqObj "list" vs.toArray 0)).get? s1.heap.objs.size = some (seqObj "list" vs.toArray 0) := Heap.get?_push_size _ rfl
  refine wpAny_bind (wpAny_holding (wpAny_call_entry slot_list_sort ⟨_, gD, rfl⟩ entry_list_sort (list_sort_tree (s := { s1 with heap := s1.heap.push (seqObj "list" vs.toArray 0) }) gD hi hl fun out ns' a1 a2 a3 => ⟨_, rfl, ?_⟩) (args_list_sort _)))
  have lD : ∀ b o, s.heap.get? b = some o → b < s1.heap.objs.size := fun b o e => Heap.lt_size (hk b o e)
  obtain ⟨n, gO⟩ : ∃ n, (sortedHeap (s1.heap.push (seqObj "list" vs.toArray 0)) s1.heap.objs.size vs out).get? s1.heap.objs.size = some (seqObj "list" out n) := sortedHeap_at gD
  refine wpAny_pure ⟨_, rfl, h _ s1.heap.objs.size n out ns' (fun b o e => ?_) eg eo ?_ gO a1 (a2.trans p1) a3⟩
  · have lb := lD b o e
    refine (sortedHeap_old (Nat.ne_of_lt lb) (by rw [size_push']; exact Nat.lt_succ_of_lt lb)).trans (Heap.get?_push_of_some _ (hk b o e))
  · exact ez
end
end L2

set_option Elab.async false
set_option linter.all false
set_option maxRecDepth 100000
set_option maxHeartbeats 4000000
namespace L2
open PySem PySem.Spec PyProof.Rows
def SetO (w : World) (p : Addr) (ks : List Key) : HO := .ext fun h => SetP w h p ks
theorem setO_ok {P : Program} {w : World} {H : Hp} {h : Heap} {p : Addr} {ks : List Key} (x : SetP w h p ks) : ObjOk P w H h p (SetO w p ks) := by
  refine ⟨x, ?_, fun h1 h2 a b => a.at b⟩
  obtain ⟨_, ⟨o, _, _, _, g, _⟩, _⟩ := x
  exact ⟨o, g⟩
theorem setO_get {P : Program} {w : World} {H : Hp} {h : Heap} {p : Addr} {ks : List Key} (x : HOk P w H h) (e : H p = some (SetO w p ks)) : SetP w h p ks := (x p _ e).1
section
variable {X : Cx} {pins : List (Addr × Obj)} {σ : List (Option V)} {H : Hp} {s s' : Shared}
theorem Inv.same (I : Inv X pins σ H s) (e1 : s'.heap = s.heap) (e2 : s'.gens = s.gens) (e3 : s'.os = s.os) : Inv X pins σ H s' := by
  obtain ⟨h, g, d, t, o⟩ := s
  obtain ⟨h', g', d', t', o'⟩ := s'
  dsimp only at e1 e2 e3
  subst e1; subst e2; subst e3
  exact ⟨I.ok, I.os, I.bare, I.base, I.loc, I.cell, I.free, I.freeC, I.pin, I.hok, I.len⟩
theorem Inv.laid' {a : Addr} {o : HO} (I : Inv X pins σ H s) (k : ∀ b u, s.heap.get? b = some u → s'.heap.get? b = some u) (hp : s.heap.objs.size ≤ a) (new : ObjOk X.prog X.w (upd H a o) s'.heap a o) (e2 : s'.gens = s.gens) (e3 : s'.os = s.os) :
    Inv X pins σ (upd H a o) s' := (I.laid (t' := s.toks) k hp new).same rfl e2 e3
end
theorem rel_key : ∀ {k : Key} {u : Value}, RelV (kV k) u → keyIs k u = true
  | .inl i, u, h => by obtain ⟨t, rfl⟩ := h; exact keyIs_int i t
  | .inr x, u, h => by obtain ⟨t, rfl⟩ := h; exact keyIs_str x t
theorem vals_key {ks : List Key} : ∀ {us : List Value}, Vals (ks.map kV) us → ∀ (i : Nat) (v : Value), us[i]? = some v → ∃ k, ks[i]? = some k ∧ keyIs k v = true := by
  induction ks with
  | nil => intro us r i v e; cases r; cases e
  | cons k ks ih =>
    intro us r i v e
    rw [List.map_cons] at r
    cases r with
    | cons h t => cases i with
      | zero =>
        cases e
        exact ⟨k, rfl, rel_key h⟩
      | succ i => exact ih t i v e
def rSetK (w : World) (K : PySem.W.Frag) : List V → Hp → VK → Prop := fun vs H Q => ∃ (l : Addr) (ks : List Key), vs = [.ref l] ∧ SqL K H l (ks.map kV) ∧ ks.length < 4000 ∧ ∀ p, H p = none → Q (.ref p) (upd H p (SetO w p (dedK ks)))
theorem call_setL {X : Cx} {w : World} {K : PySem.W.Frag} (hc : X.calm = true) (hw : X.w = w) (hK : X.K = K) : CallR X (.type "set") (rSetK w K) := by
  subst hK
  subst hw
  intro pins s σ H vs us Q I r h
  obtain ⟨l, ks, rfl, hl, hz, q⟩ := h
  obtain ⟨u, rfl, ru⟩ := vals1 r
  cases ru
  obtain ⟨its, rv, pl, _⟩ := I.list hl
  have hlen := rv.length
  rw [List.length_map] at hlen
  have il := pl.isList
  refine call_set_src (val := ks) (T := "list") (I.ok.hd hc) (src_list il) (fun s1 k => (il.at fun o e => k _ _ e).typeIs) PySem.F.sub_list_set PySem.F.sub_list_frozenset (by decide) ?_ (fun i v e => vals_key rv i v (by rw [List.getElem?_toArray] at e; exact e)) ?_ fun h' tk hS hk => ?_
  · rw [List.size_toArray]; exact hlen
  · rw [List.size_toArray, ← hlen]; unfold scanBound; omega
  · exact ⟨.ref s.heap.objs.size, _, I.laid' (s' := { s with heap := h', toks := tk }) (fun b o e => hk b o e) (Nat.le_refl _) (setO_ok hS) rfl rfl, rfl, q _ (I.hok.fresh (Nat.le_refl _))⟩
def rSetSg (w : World) : List V → Hp → VK → Prop := fun vs H Q => ∃ x : Str, vs = [.str x] ∧ x.length < 4000 ∧ ∀ p, H p = none → Q (.ref p) (upd H p (SetO w p (dedK ((signsO x).map Sum.inr))))
def leZ (a b : Int) : Bool := decide (a ≤ b)
def sortZ (ys : List Int) : List Int := ys.mergeSort leZ
theorem sortZ_of {ss ss' : List Int} (hp : ss'.Perm ss) (hs : ss'.Pairwise (· ≤ ·)) : ss' = sortZ ss := by
  refine List.Perm.eq_of_pairwise (le := fun a b => leZ a b = true) (fun a b _ _ h1 h2 => Int.le_antisymm (of_decide_eq_true h1) (of_decide_eq_true h2)) (hs.imp fun h => decide_eq_true h) (List.pairwise_mergeSort (le := leZ) (fun a b c h1 h2 => decide_eq_true (Int.le_trans (of_decide_eq_true h1) (of_decide_eq_true h2))) (fun a b => ?_) ss) (hp.trans (List.mergeSort_perm ss leZ).symm)
  unfold leZ
  rcases Int.le_total a b with h | h <;> simp [h]
theorem vals_ints' : ∀ {vs : List Value} {ss : List Int}, IntsAre vs ss → Vals (ss.map V.int) vs
  | _, _, .nil => .nil
  | _, _, .cons x t r => .cons ⟨t, rfl⟩ (vals_ints' r)
def rSortPS (w : World) : List V → Hp → VK → Prop := fun vs H Q => ∃ (l : Addr) (ys : List Str), vs = [.ref l] ∧ H l = some (SetO w l (ys.map Sum.inr)) ∧ ys.length < 64 ∧ ∀ p, H p = none → Q (.ref p) (upd H p (.lst ((sortS ys).map V.str)))
def rSortPI (w : World) : List V → Hp → VK → Prop := fun vs H Q => ∃ (l : Addr) (ys : List Int), vs = [.ref l] ∧ H l = some (SetO w l (ys.map Sum.inl)) ∧ ys.length < 64 ∧ ∀ p, H p = none → Q (.ref p) (upd H p (.lst ((sortZ ys).map V.int)))
theorem call_sortPI {X : Cx} {w : World} (hc : X.calm = true) (hw : X.w = w) : CallR X (.builtin "sorted") (rSortPI w) := by
  subst hw
  intro pins s σ H vs us Q I r h
  obtain ⟨l, ys, rfl, hl, h64, q⟩ := h
  obtain ⟨u, rfl, ru⟩ := vals1 r
  cases ru
  refine sorted_setI (I.ok.hd hc) (setO_get I.hok hl) h64 fun s' D n out ns' hk eg eo lD gD a1 a2 a3 => ?_
  have e := sortZ_of a2 a3
  subst e
  refine ⟨.ref D, _, I.laid' (o := .lst ((sortZ ys).map V.int)) hk lD ⟨?_, out.toList, n, vals_ints' a1, gD⟩ eg eo, rfl, q _ (I.hok.fresh lD)⟩
  rw [List.length_map, show (sortZ ys).length = ys.length from (List.mergeSort_perm ys leZ).length_eq, sizeLine_eq]
  omega
def addA {α : Type} [DecidableEq α] (ks : List α) (k : α) : List α := if ks.any (fun y => decide (y = k)) then ks else ks ++ [k]
def dedA {α : Type} [DecidableEq α] (ks : List α) : List α := ks.foldl addA []
theorem addA_map {α : Type} [DecidableEq α] {f : α → Key} (hf : ∀ a b, f a = f b → a = b) (ks : List α) (k : α) : addK (ks.map f) (f k) = (addA ks k).map f := by
  have e : (ks.map f).any (fun y => decide (y = f k)) = ks.any (fun y => decide (y = k)) := by
    rw [List.any_map]
    congr 1
    funext y
    show decide (f y = f k) = decide (y = k)
    by_cases h : y = k
    · rw [h, decide_eq_true rfl, decide_eq_true rfl]
    · rw [decide_eq_false h, decide_eq_false (fun q => h (hf _ _ q))]
  unfold addK addA
  rw [e]
  split
  · rfl
  · rw [List.map_append]; rfl
theorem dedA_map {α : Type} [DecidableEq α] {f : α → Key} (hf : ∀ a b, f a = f b → a = b) (ks : List α) : dedK (ks.map f) = (dedA ks).map f := by
  have : ∀ (ks acc : List α), (ks.map f).foldl addK (acc.map f) = (ks.foldl addA acc).map f := by
    intro ks
    induction ks with
    | nil => intro acc; rfl
    | cons k ks ih => intro acc; rw [List.map_cons, List.foldl_cons, List.foldl_cons, addA_map hf, ih]
  exact this ks []
theorem inl_inj (a b : Int) (h : (Sum.inl a : Key) = Sum.inl b) : a = b := Sum.inl.inj h
def sortSetS (ys : List Str) : Option (List Str) := if ys.length < 4000 ∧ (dedA ys).length < 64 then some (sortS (dedA ys)) else none
theorem mem_addA {α : Type} [DecidableEq α] {ks : List α} {k x : α} : x ∈ addA ks k ↔ x ∈ ks ∨ x = k := by
  unfold addA
  split
  · rename_i h
    obtain ⟨y, hy, e⟩ := List.any_eq_true.mp h
    have e := of_decide_eq_true e
    constructor
    · exact .inl
    · rintro (h | rfl)
      · exact h
      · exact e ▸ hy
  · rw [List.mem_append, List.mem_singleton]
theorem mem_dedA {α : Type} [DecidableEq α] {ks : List α} {x : α} : x ∈ dedA ks ↔ x ∈ ks := by
  have : ∀ (ks acc : List α), x ∈ ks.foldl addA acc ↔ x ∈ acc ∨ x ∈ ks := by
    intro ks
    induction ks with
    | nil => intro acc; simp
    | cons k ks ih => intro acc; rw [List.foldl_cons, ih, mem_addA, List.mem_cons, or_assoc]
  rw [dedA, this]
  simp
theorem nodup_dedA {α : Type} [DecidableEq α] (ks : List α) : (dedA ks).Nodup := by
  have : ∀ (ks acc : List α), acc.Nodup → (ks.foldl addA acc).Nodup := by
    intro ks
    induction ks with
    | nil => intro acc h; exact h
    | cons k ks ih =>
      intro acc h
      rw [List.foldl_cons]
      refine ih _ ?_
      unfold addA
      split
      · exact h
      · rename_i hn
        refine List.nodup_append.mpr ⟨h, by simp, fun a ha b hb e => hn ?_⟩
        rw [List.mem_singleton] at hb
        exact List.any_eq_true.mpr ⟨a, ha, decide_eq_true (e.trans hb)⟩
  exact this ks [] List.nodup_nil
section
variable {K : PySem.W.Frag} {σ : St} {G : Hp} {ta tb : TE} {w : World}
end
end L2

set_option Elab.async false
set_option linter.all false
set_option maxRecDepth 100000
set_option maxHeartbeats 4000000
namespace L2
open PySem PySem.Spec PyProof.Rows
def lcg : Nat → Nat → Nat
  | 0, x => x
  | n + 1, x => lcg n (5 * x + 1)
def sumP : Nat → Nat
  | 0 => 0
  | n + 1 => sumP n + 5 ^ n
theorem lcg_eq : ∀ n x, lcg n x = 5 ^ n * x + sumP n
  | 0, x => by simp [lcg, sumP]
  | n + 1, x => by
    rw [lcg, lcg_eq n, sumP, Nat.pow_succ]
    grind
theorem lcg_add : ∀ m n x, lcg (m + n) x = lcg n (lcg m x)
  | 0, n, x => by rw [Nat.zero_add]; rfl
  | m + 1, n, x => by
    have e : m + 1 + n = (m + n) + 1 := by omega
    rw [e, lcg, lcg, lcg_add m n]
theorem sumP_add (m : Nat) : ∀ n, sumP (m + n) = sumP m + 5 ^ m * sumP n
  | 0 => by simp [sumP]
  | n + 1 => by
    rw [← Nat.add_assoc, sumP, sumP, sumP_add m n, Nat.pow_add]
    grind
theorem pow5 : ∀ k : Nat, (∃ d, 5 ^ (2 ^ k) = 1 + 4 * 2 ^ k * d) ∧ ∃ e, sumP (2 ^ k) = 2 ^ k + 2 * 2 ^ k * e
  | 0 => ⟨⟨1, rfl⟩, ⟨0, rfl⟩⟩
  | k + 1 => by
    obtain ⟨⟨d, hd⟩, ⟨e, he⟩⟩ := pow5 k
    have e2 : 2 ^ (k + 1) = 2 ^ k + 2 ^ k := by rw [Nat.pow_succ]; omega
    refine ⟨⟨d + 2 * 2 ^ k * d * d, ?_⟩, ⟨e + 2 ^ k * d + 2 * e * 2 ^ k * d, ?_⟩⟩
    · rw [e2, Nat.pow_add, hd]
      generalize 2 ^ k = q
      grind
    · rw [e2, sumP_add, hd, he]
      generalize 2 ^ k = q
      grind
theorem lcg_turn (k x : Nat) : ∃ c, lcg (2 ^ k) x = x + 2 ^ k + 2 * 2 ^ k * c := by
  obtain ⟨⟨d, hd⟩, ⟨e, he⟩⟩ := pow5 k
  refine ⟨2 * d * x + e, ?_⟩
  rw [lcg_eq, hd, he]
  generalize 2 ^ k = q
  grind
theorem lcg_reach : ∀ k x j : Nat, ∃ n, n < 2 ^ k ∧ lcg n x % 2 ^ k = j % 2 ^ k
  | 0, x, j => ⟨0, by simp, by simp [Nat.mod_one]⟩
  | k + 1, x, j => by
    obtain ⟨n, hn, e⟩ := lcg_reach k x j
    have e2 : 2 ^ (k + 1) = 2 ^ k * 2 := Nat.pow_succ 2 k
    have hq : 0 < 2 ^ k := Nat.two_pow_pos k
    obtain ⟨c, hc⟩ := lcg_turn k (lcg n x)
    generalize hy : lcg n x = y at e hc
    generalize 2 ^ k = q at e2 hq hn e hc
    have hM : ∀ z, z % (q * 2) = z % q + q * (z / q % 2) := fun z => Nat.mod_mul
    have h2 : (y + q + 2 * q * c) % (q * 2) = (y + q) % (q * 2) := by
      rw [show y + q + 2 * q * c = y + q + q * 2 * c by rw [Nat.mul_comm 2 q], Nat.add_mul_mod_self_left]
    have hdiv : (y + q) / q = y / q + 1 := Nat.add_div_right y hq
    have hmod : (y + q) % q = y % q := Nat.add_mod_right y q
    rw [e2]
    by_cases hc2 : y / q % 2 = j / q % 2
    · exact ⟨n, by omega, by rw [hy, hM, hM, e, hc2]⟩
    · refine ⟨n + q, by omega, ?_⟩
      have : ∀ u : Nat, lcg (n + q) x = u → u % (q * 2) = j % (q * 2) → lcg (n + q) x % (q * 2) = j % (q * 2) := fun u h1 h3 => by rw [h1]; exact h3
      rw [lcg_add, hy, hc, h2, hM, hM, hmod, hdiv, e]
      have : (y / q + 1) % 2 = j / q % 2 := by omega
      rw [this]
end L2

set_option Elab.async false
set_option linter.all false
set_option maxRecDepth 100000
set_option maxHeartbeats 4000000
namespace L2
open PySem PySem.Spec PyProof.Rows
def leaps (mask : Nat) : Nat → Nat × Nat → Nat × Nat
  | 0, p => p
  | n + 1, p => leaps mask n (SetTable.leap mask p.1 p.2)
theorem leaps_add (mask : Nat) : ∀ m n p, leaps mask (m + n) p = leaps mask n (leaps mask m p)
  | 0, n, p => by rw [Nat.zero_add]; rfl
  | m + 1, n, p => by
    have e : m + 1 + n = (m + n) + 1 := by omega
    rw [e, leaps, leaps, leaps_add mask m n]
theorem leaps_snd (mask : Nat) : ∀ n p, (leaps mask n p).2 = p.2 / 32 ^ n
  | 0, p => by simp [leaps]
  | n + 1, p => by
    rw [leaps, leaps_snd mask n]
    show p.2 / 32 / 32 ^ n = _
    rw [Nat.div_div_eq_div_mul, Nat.pow_succ, Nat.mul_comm]
theorem leaps_fst_lt {mask : Nat} : ∀ n p, p.1 < mask + 1 → (leaps mask n p).1 < mask + 1
  | 0, p, h => h
  | n + 1, p, h => by
    rw [leaps]
    exact leaps_fst_lt n _ (Nat.mod_lt _ (Nat.succ_pos _))
theorem leaps_lcg {mask : Nat} : ∀ n i, i < mask + 1 → (leaps mask n (i, 0)).1 = lcg n i % (mask + 1)
  | 0, i, h => (Nat.mod_eq_of_lt h).symm
  | n + 1, i, h => by
    rw [leaps, lcg]
    have e : SetTable.leap mask i 0 = ((i * 5 + 1) % (mask + 1), 0) := by unfold SetTable.leap; simp
    show (leaps mask n (SetTable.leap mask i 0)).1 = _
    rw [e, leaps_lcg n _ (Nat.mod_lt _ (Nat.succ_pos _))]
    rw [lcg_eq, lcg_eq, Nat.add_mod, Nat.mul_mod, Nat.mod_mod, ← Nat.mul_mod, ← Nat.add_mod, Nat.mul_comm i 5]
theorem leaps_reach {mask k : Nat} (hm : mask + 1 = 2 ^ k) {i p j : Nat} (hi : i < mask + 1) (hp : p < 2 ^ 64) (hj : j < mask + 1) : ∃ n, n < mask + 15 ∧ (leaps mask n (i, p)).1 = j := by
  have h0 : (leaps mask 13 (i, p)).2 = 0 := by
    rw [leaps_snd]
    exact Nat.div_eq_of_lt (Nat.lt_of_lt_of_le hp (by decide))
  have h1 := leaps_fst_lt (mask := mask) 13 (i, p) hi
  generalize hx : leaps mask 13 (i, p) = x at h0 h1
  obtain ⟨a, b⟩ := x
  dsimp only at h0 h1
  subst h0
  obtain ⟨n, hn, e⟩ := lcg_reach k a j
  refine ⟨13 + n, by omega, ?_⟩
  rw [leaps_add, hx, leaps_lcg n a h1, hm, e, ← hm]
  exact Nat.mod_eq_of_lt hj
theorem free_reach (mask : Nat) (owner : Array (Option Nat)) : ∀ n fuel i p, n < fuel → (owner.getD (leaps mask n (i, p)).1 (some 0)).isNone = true → ∃ j, SetTable.layClean.free mask owner fuel i p = some j ∧ (owner.getD j (some 0)).isNone = true := by
  intro n
  induction n with
  | zero =>
    intro fuel i p h e
    obtain ⟨fuel, rfl⟩ : ∃ f, fuel = f + 1 := ⟨fuel - 1, by omega⟩
    unfold SetTable.layClean.free
    cases hf : (List.range (SetTable.runEnd mask i + 1 - i)).find? fun k => (owner.getD (i + k) (some 0)).isNone with
    | some k => exact ⟨i + k, rfl, by have := List.find?_some hf; exact this⟩
    | none =>
      have h0 : 0 ∈ List.range (SetTable.runEnd mask i + 1 - i) := by
        rw [List.mem_range]
        unfold SetTable.runEnd
        split <;> omega
      have := List.find?_eq_none.mp hf 0 h0
      rw [Nat.add_zero] at this
      exact absurd e this
  | succ n ih =>
    intro fuel i p h e
    obtain ⟨fuel, rfl⟩ : ∃ f, fuel = f + 1 := ⟨fuel - 1, by omega⟩
    unfold SetTable.layClean.free
    cases hf : (List.range (SetTable.runEnd mask i + 1 - i)).find? fun k => (owner.getD (i + k) (some 0)).isNone with
    | some k => exact ⟨i + k, rfl, by have := List.find?_some hf; exact this⟩
    | none =>
      dsimp only
      rw [leaps] at e
      exact ih fuel _ _ (by omega) e
theorem bits_lt (h : Int) : SetTable.bits h < 2 ^ 64 := by
  unfold SetTable.bits
  have h1 := Int.emod_nonneg h (show (2 ^ 64 : Int) ≠ 0 by decide)
  have h2 := Int.emod_lt_of_pos h (show (0 : Int) < 2 ^ 64 by decide)
  omega
/-- who sits where, as far as it is laid -/
structure LaidTo (mask n : Nat) (ow : Array (Option Nat)) : Prop where
  size : ow.size = mask + 1
  perm : (ow.toList.filterMap id).Perm (List.range n)
theorem fm_set : ∀ (l : List (Option Nat)) (j k : Nat) (h : j < l.length), l[j] = none → ((l.set j (some k)).filterMap id).Perm (k :: l.filterMap id) := by
  intro l
  induction l with
  | nil => intro j k h; exact absurd h (Nat.not_lt_zero _)
  | cons x l ih =>
    intro j k h e
    cases j with
    | zero =>
      have e : x = none := e
      subst e
      exact .rfl
    | succ j =>
      have q := ih j k (by simpa using h) (by simpa using e)
      rw [List.set_cons_succ]
      cases x with
      | none => exact q
      | some y =>
        show (y :: (l.set j (some k)).filterMap id).Perm (k :: y :: l.filterMap id)
        exact (q.cons y).trans (List.Perm.swap _ _ _)
theorem fm_len : ∀ l : List (Option Nat), (l.filterMap id).length < l.length → ∃ j, ∃ h : j < l.length, l[j] = none := by
  intro l
  induction l with
  | nil => intro h; exact absurd h (Nat.not_lt_zero _)
  | cons x l ih =>
    intro h
    cases x with
    | none => exact ⟨0, Nat.succ_pos _, rfl⟩
    | some y =>
      obtain ⟨j, hj, e⟩ := ih (by
        have h : (y :: l.filterMap id).length < (some y :: l).length := h
        simp only [List.length_cons] at h
        omega)
      exact ⟨j + 1, by simpa using hj, e⟩
theorem lay_go {mask k : Nat} (hm : mask + 1 = 2 ^ k) : ∀ (hs : List Int) (ow : Array (Option Nat)) (n : Nat), LaidTo mask n ow → n + hs.length ≤ mask →
    ∃ ow', (hs.foldl (init := some (ow, n)) fun acc h => do
      let (owner, k) ← acc
      let j ← SetTable.layClean.free mask owner (SetTable.turns mask) (SetTable.bits h % (mask + 1)) (SetTable.bits h)
      pure (owner.setIfInBounds j (some k), k + 1)) = some (ow', n + hs.length) ∧ LaidTo mask (n + hs.length) ow' := by
  intro hs
  induction hs with
  | nil => intro ow n L _; exact ⟨ow, rfl, L⟩
  | cons h hs ih =>
    intro ow n L hn
    rw [List.length_cons] at hn
    have hlen : (ow.toList.filterMap id).length = n := by rw [L.perm.length_eq, List.length_range]
    obtain ⟨j0, hj0, e0⟩ := fm_len ow.toList (by rw [hlen, Array.length_toList, L.size]; omega)
    rw [Array.length_toList] at hj0
    have e0' : ow.getD j0 (some 0) = none := by simp only [Array.getD, hj0, dite_true]; simpa using e0
    obtain ⟨m, hm1, hm2⟩ := leaps_reach hm (i := SetTable.bits h % (mask + 1)) (p := SetTable.bits h) (j := j0) (Nat.mod_lt _ (Nat.succ_pos _)) (bits_lt h) (by rw [← L.size]; exact hj0)
    obtain ⟨j, hf, hj⟩ := free_reach mask ow m (SetTable.turns mask) (SetTable.bits h % (mask + 1)) (SetTable.bits h) hm1 (by rw [hm2, e0']; rfl)
    have hjl : j < ow.size := by
      rcases Nat.lt_or_ge j ow.size with q | q
      · exact q
      · have : ow.getD j (some 0) = some 0 := by simp [Array.getD, Nat.not_lt.mpr q]
        rw [this] at hj; cases hj
    have hjn : ow.toList[j]'(by simpa using hjl) = none := by
      have : ow.getD j (some 0) = ow[j] := by simp [Array.getD, hjl]
      rw [this, Option.isNone_iff_eq_none] at hj
      simpa using hj
    have L' : LaidTo mask (n + 1) (ow.setIfInBounds j (some n)) := by
      refine ⟨by rw [Array.size_setIfInBounds]; exact L.size, ?_⟩
      rw [Array.toList_setIfInBounds]
      refine (fm_set _ j n (by simpa using hjl) hjn).trans ((L.perm.cons n).trans ?_)
      rw [List.range_succ]
      exact (List.perm_append_singleton n _).symm
    obtain ⟨ow', e1, e2⟩ := ih _ (n + 1) L' (by omega)
    refine ⟨ow', ?_, ?_⟩
    · rw [List.foldl_cons]
      simp only [Option.bind_eq_bind, Option.bind_some, hf, Option.pure_def] at e1 ⊢
      rw [e1, List.length_cons]
      congr 2
      omega
    · rw [List.length_cons, show n + (hs.length + 1) = n + 1 + hs.length by omega]; exact e2
theorem lay_ok {mask k : Nat} (hm : mask + 1 = 2 ^ k) (hs : Array Int) (hn : hs.size ≤ mask) : ∃ ow, SetTable.layClean mask hs = some ow ∧ LaidTo mask hs.size ow := by
  have L0 : LaidTo mask 0 (Array.replicate (mask + 1) none) := by
    refine ⟨Array.size_replicate, ?_⟩
    rw [Array.toList_replicate]
    have : ∀ n, (List.replicate n (none : Option Nat)).filterMap id = [] := fun n => by
      induction n with
      | zero => rfl
      | succ n ih => rw [List.replicate_succ, List.filterMap_cons_none rfl, ih]
    rw [this]
    exact .rfl
  obtain ⟨ow, e1, e2⟩ := lay_go hm hs.toList _ 0 L0 (by rw [Array.length_toList]; omega)
  rw [Nat.zero_add, Array.length_toList] at e1 e2
  refine ⟨ow, ?_, e2⟩
  unfold SetTable.layClean
  rw [← Array.foldl_toList]
  rw [e1]
  rfl
theorem laid_ok {mask k finger moves : Nat} {led plain : Bool} (hm : mask + 1 = 2 ^ k) (hs : Array Int) (hn : hs.size ≤ mask) :
    ∃ t order, SetTable.laid mask finger moves led plain hs = some (t, order) ∧ order.toList.Perm (List.range hs.size) ∧ t.place.size = hs.size := by
  obtain ⟨ow, e, L⟩ := lay_ok hm hs hn
  have hl : ∀ (l : List (Option Nat)) (d : Nat) (f : Nat → Option Nat), (∀ i, i < l.length → f (d + i) = l.getD i none) → (((List.range' d l.length).filterMap fun j => (f j).map (j, ·)).map (·.2)) = l.filterMap id := by
    intro l
    induction l with
    | nil => intro d f _; rfl
    | cons x l ih =>
      intro d f hf
      rw [List.length_cons, List.range'_succ]
      have h0 := hf 0 (Nat.succ_pos _)
      rw [Nat.add_zero] at h0
      have h0 : f d = x := h0
      have ih' := ih (d + 1) f fun i hi => by
        have := hf (i + 1) (by rw [List.length_cons]; omega)
        rw [show d + 1 + i = d + (i + 1) by omega, this]
        rfl
      cases x with
      | none => rw [List.filterMap_cons_none (by rw [h0]; rfl), ih']; rfl
      | some y => rw [List.filterMap_cons_some (b := (d, y)) (by rw [h0]; rfl), List.map_cons, ih']; rfl
  have e2 : (((List.range (mask + 1)).filterMap fun j => (ow.getD j none).map (j, ·)).map (·.2)) = ow.toList.filterMap id := by
    have := hl ow.toList 0 (fun j => ow.getD j none) fun i hi => by
      rw [Nat.zero_add]
      simp [Array.getD, List.getD]
      split <;> simp_all
    rw [Array.length_toList, L.size] at this
    rw [← this, List.range_eq_range']
  refine ⟨_, _, by unfold SetTable.laid; rw [e]; rfl, ?_, ?_⟩
  · show (((List.range (mask + 1)).filterMap fun j => (ow.getD j none).map (j, ·)).map (·.2)).Perm _
    rw [e2]
    exact L.perm
  · show ((((List.range (mask + 1)).filterMap fun j => (ow.getD j none).map (j, ·)).map (·.1)).toArray).size = _
    rw [List.size_toArray, List.length_map]
    have := congrArg List.length e2
    rw [List.length_map, L.perm.length_eq, List.length_range] at this
    exact this
theorem size_above_go : ∀ fuel (size n : Nat), (∃ k, size = 2 ^ k) → 0 < size → n < size * 2 ^ fuel → (∃ k, SetTable.sizeAbove.go n fuel size = 2 ^ k) ∧ n < SetTable.sizeAbove.go n fuel size := by
  intro fuel
  induction fuel with
  | zero => intro size n h _ hn; exact ⟨h, by show n < size; simpa using hn⟩
  | succ fuel ih =>
    intro size n h hp hn
    unfold SetTable.sizeAbove.go
    split
    · obtain ⟨k, rfl⟩ := h
      exact ih _ _ ⟨k + 1, by rw [Nat.pow_succ]⟩ (by omega) (by rw [Nat.pow_succ] at hn; rw [Nat.mul_assoc, Nat.mul_comm 2]; exact hn)
    · rename_i q
      exact ⟨h, by omega⟩
theorem size_above {n : Nat} (h : n < 2 ^ 60) : (∃ k, SetTable.sizeAbove n = 2 ^ k) ∧ n < SetTable.sizeAbove n :=
  size_above_go 64 8 n ⟨3, rfl⟩ (by decide) (Nat.lt_of_lt_of_le h (by decide))
end L2

set_option Elab.async false
set_option linter.all false
set_option maxRecDepth 100000
set_option maxHeartbeats 4000000
namespace L2
open PySem PySem.Spec PyProof.Rows
def Pw (t : SetTable) : Prop := ∃ k, t.mask + 1 = 2 ^ k
/-- a set that others may be put into -/
def SetM (w : World) (h : Heap) (a : Addr) (ks : List Key) : Prop := ∃ o es ep t, h.get? a = some o ∧ SObj w o es ep t ks ∧ (ks = [] → Pw t)
theorem SetM.is {w : World} {h : Heap} {a : Addr} {ks : List Key} (x : SetM w h a ks) : SetIs w h a ks := by
  obtain ⟨o, es, ep, t, g, S, _⟩ := x
  exact ⟨o, es, ep, t, g, S⟩
theorem SetM.of {w : World} {h : Heap} {a : Addr} {ks : List Key} (x : SetIs w h a ks) (hn : ks ≠ []) : SetM w h a ks := by
  obtain ⟨o, es, ep, t, g, S⟩ := x
  exact ⟨o, es, ep, t, g, S, fun e => absurd e hn⟩
theorem fresh_m {w : World} {h : Heap} {a : Addr} (g : h.get? a = some (freshSet w)) : SetM w h a [] := by
  obtain ⟨o, es, ep, t, g', S⟩ := fresh_is g
  rw [g] at g'
  cases g'
  refine ⟨_, es, ep, t, g, S, fun _ => ⟨3, ?_⟩⟩
  have := S.data
  cases this
  rfl
section
variable {prog : Program} {w : World} {A : Around} {E : Value → Shared → Prop} {s : Shared}
theorem fills {t : SetTable} {n : Nat} (h : t.fits n = true) (r : RT t) : t.fill = n ∧ t.place.size = n := by
  simp only [SetTable.fits, Bool.and_eq_true, beq_iff_eq] at h
  refine ⟨?_, h.1⟩
  unfold SetTable.fill
  rw [h.1, r.dum]
  rfl
theorem reord {es : Array (Int × Value)} {order : Array Nat} (hp : order.toList.Perm (List.range es.size)) : (order.filterMap (es[·]?)).toList.Perm es.toList ∧ (order.filterMap (es[·]?)).size = es.size := by
  have h1 : (order.filterMap (es[·]?)).toList.Perm es.toList := by
    rw [Array.toList_filterMap]
    exact (hp.filterMap _).trans (by rw [filterMap_getElem?_range])
  exact ⟨h1, by rw [← Array.length_toList, h1.length_eq, Array.length_toList]⟩
theorem relay_ok {a : Addr} {ks : List Key} {wanted : Nat} {Q : Unit → Shared → Prop} (x : SetIs w s.heap a ks) (hw : ks.length ≤ wanted) (hb : wanted < 100000)
    (h : ∀ h' ks', Heap.SameBut a s.heap h' → ks'.Perm ks → (∃ o es ep t, h'.get? a = some o ∧ SObj w o es ep t ks' ∧ Pw t ∧ wanted ≤ t.mask) → Q () { s with heap := h' }) : wpAny (model prog w) A (setRelay a wanted) Q E s := by
  obtain ⟨o, es, ep, t, g, S⟩ := x
  obtain ⟨⟨k, hk⟩, hlt⟩ := size_above (n := wanted) (Nat.lt_of_lt_of_le hb (by decide))
  have hk1 : SetTable.sizeAbove wanted - 1 + 1 = 2 ^ k := by omega
  have hsz : es.size = ks.length := S.size
  unfold setRelay
  refine wpAny_bind (wpAny_setState_of g S.data S.fit ?_); dsimp only
  have hup : SetTable.sizeAbove wanted ≤ sizeLine := by
    have : ∀ fuel size, size ≤ 2 * wanted + 8 → SetTable.sizeAbove.go wanted fuel size ≤ 2 * wanted + 8 := by
      intro fuel
      induction fuel with
      | zero => intro size h; exact h
      | succ fuel ih =>
        intro size h
        unfold SetTable.sizeAbove.go
        split
        · exact ih _ (by omega)
        · exact h
    have := this 64 8 (by omega)
    rw [sizeLine_eq]
    unfold SetTable.sizeAbove
    omega
  rw [if_neg (Nat.not_lt.mpr hup)]
  obtain ⟨t', order, e1, e2, e3⟩ := laid_ok (mask := SetTable.sizeAbove wanted - 1) (finger := t.finger) (moves := t.movedTo (SetTable.sizeAbove wanted - 1)) (led := t.led) (plain := t.plain) hk1 (es.map (·.1)) (by rw [Array.size_map, hsz]; omega)
  rw [Array.size_map] at e2 e3
  obtain ⟨r1, r2⟩ := reord e2
  obtain ⟨q1, q2, q3, q4⟩ := laid_rt e1
  have e1' : t.relaid (es.map (·.1)) wanted = some (t', order) := e1
  rw [e1']
  refine wpAny_bind ?_
  show wpAny _ _ (if ((order.filterMap (es[·]?)).size != es.size) = true then unsupported "internal:set-table-lost-an-element" >>= fun _ => pure (order.filterMap (es[·]?), t') else pure (order.filterMap (es[·]?), t')) _ _ _
  rw [if_neg (by rw [r2]; simp)]
  refine wpAny_pure ?_
  dsimp only
  obtain ⟨ks', p1, p2⟩ := paired_perm r1 S.ent
  have few' : ks'.length < scanBound := by rw [p1.length_eq]; exact S.few
  refine wpAny_storeSet_of g S.data ?_ (few_line (by rw [r2, hsz]; exact S.few))
  have g1 := store_set (es' := order.filterMap (es[·]?)) (t' := t') g S.data
  refine h _ ks' (Heap.SameBut.update s.heap a _) p1 ⟨_, _, _, _, g1, ⟨S.exact', rfl, p2, few', ?_, q1, q2.trans S.led⟩, ⟨k, by rw [q4]; exact hk1⟩, by rw [q4]; omega⟩
  simp only [SetTable.fits, SetTable.fill, q1.dum, e3, r2, q4, Bool.and_eq_true, beq_iff_eq, decide_eq_true_eq]
  refine ⟨trivial, ?_⟩
  show es.size + (#[] : Array Nat).size ≤ _
  simp only [List.size_toArray, List.length_nil]
  omega
/-- room: what is told of the table behind it -/
theorem room_ok {a : Addr} {ks : List Key} {more : Nat} {Q : Unit → Shared → Prop} (x : SetM w s.heap a ks) (hb : ks.length + more < 4096)
    (h : ∀ h' ks', Heap.SameBut a s.heap h' → ks'.Perm ks → (∃ o es ep t, h'.get? a = some o ∧ SObj w o es ep t ks' ∧ (ks' = [] → Pw t ∧ more ≤ t.mask)) → Q () { s with heap := h' }) : wpAny (model prog w) A (setRoomFor a more) Q E s := by
  obtain ⟨o, es, ep, t, g, S, pw⟩ := x
  unfold setRoomFor
  refine wpAny_bind (wpAny_setState_of g S.data S.fit ?_); dsimp only
  obtain ⟨f1, f2⟩ := fills S.fit S.rt
  have hsz : es.size = ks.length := S.size
  unfold SetTable.roomFor
  by_cases hc : (t.fill + more) * 5 ≥ t.mask * 3
  · rw [if_pos hc]
    dsimp only
    refine relay_ok ⟨o, es, ep, t, g, S⟩ (by rw [f2, hsz]; omega) (by rw [f2, hsz]; omega) fun h' ks' hs hp ⟨o', es', ep', t', g', S', pw', hm⟩ => h h' ks' hs hp ⟨o', es', ep', t', g', S', fun _ => ⟨pw', by rw [f2] at hm; omega⟩⟩
  · rw [if_neg hc]
    dsimp only
    refine wpAny_pure ?_
    have e : s = { s with heap := s.heap } := by cases s; rfl
    have q := h s.heap ks (Heap.SameBut.refl a s.heap) .rfl ⟨o, es, ep, t, g, S, fun e => ⟨pw e, by omega⟩⟩
    rw [← e] at q
    exact q
end
end L2

set_option Elab.async false
set_option linter.all false
set_option maxRecDepth 100000
set_option maxHeartbeats 4000000
namespace L2
open PySem PySem.Spec PyProof.Rows
theorem ent_noref {w : World} {l : List (Int × Value)} {ks : List Key} (p : Paired (Ent w) l ks) : ∀ e ∈ l, ∀ a, e.2 ≠ .ref a := by
  induction p with
  | nil => intro e he; cases he
  | cons h _ ih =>
    intro e he a
    rcases List.mem_cons.mp he with rfl | he
    · rcases keyIs_shape h.1 with ⟨i, t, _, q⟩ | ⟨x, t, _, q⟩ <;> rw [q] <;> intro c <;> cases c
    · exact ih e he a
section
variable {prog : Program} {w : World} {A : Around} {E : Value → Shared → Prop} {s : Shared}
theorem quiet_one {a : Addr} {ks : List Key} (x : SetIs w s.heap a ks) {β γ : Type} {b0 : β} {f : (Int × Value) → β → Sem (ForInStep β)} {k : β → Sem γ} (hf : ∀ e b, (∀ a, e.2 ≠ .ref a) → f e b = pure (.yield b0)) {Q : γ → Shared → Prop} (h : wpAny (model prog w) A (k b0) Q E s) :
    wpAny (model prog w) A (setEntries a >>= fun es => forIn es b0 f >>= k) Q E s := by
  obtain ⟨o, es, ep, t, g, S⟩ := x
  refine wpAny_bind (wpAny_setEntries_of g S.data S.fit (wpAny_bind ?_))
  have hn := ent_noref S.ent
  refine wpAny_forIn_array' f (fun l b s' => (∀ e ∈ l, ∀ a, e.2 ≠ .ref a) ∧ b = b0 ∧ s' = s) _ (fun x rest b s' hI => ?_) (fun b s' hI => by obtain ⟨_, rfl, rfl⟩ := hI; exact h) es b0 ⟨hn, rfl, rfl⟩
  obtain ⟨h1, rfl, rfl⟩ := hI
  rw [hf x b (h1 x List.mem_cons_self)]
  exact wpAny_pure ⟨fun e he => h1 e (List.mem_cons_of_mem _ he), rfl, rfl⟩
theorem quiet_ok {a b : Addr} {ka kb : List Key} (x : SetIs w s.heap a ka) (y : SetIs w s.heap b kb) {Q : Bool → Shared → Prop} (h : Q true s) : wpAny (model prog w) A (setsQuiet [a, b]) Q E s := by
  unfold setsQuiet
  simp only [List.forIn_cons, List.forIn_nil]
  refine wpAny_bind (wpAny_bind (quiet_one x (fun e b hn => ?_) ?_))
  · obtain ⟨i, v⟩ := e
    cases v <;> first | rfl | exact absurd rfl (hn _)
  · refine wpAny_pure ?_
    dsimp only
    refine wpAny_bind (quiet_one y (fun e b hn => ?_) ?_)
    · obtain ⟨i, v⟩ := e
      cases v <;> first | rfl | exact absurd rfl (hn _)
    · exact wpAny_pure (wpAny_pure (wpAny_pure h))
/-- the walk that nobody sees: some order of the entries; the filled set may be marked -/
theorem unseen_ok {o f : Addr} {eo : Array (Int × Value)} {po : Nat} {to : SetTable} {ko kf : List Key} (x : SAt w s.heap o eo po to ko) (y : SetIs w s.heap f kf) (ne : f ≠ o) {Q : Array (Int × Value) → Shared → Prop}
    (h : ∀ h' ps, ps.toList.Perm eo.toList → Heap.SameBut f s.heap h' → SetIs w h' f kf → Q ps { s with heap := h' }) : wpAny (model prog w) A (setWalkUnseen o [f] (some f)) Q E s := by
  obtain ⟨ob, g, S⟩ := id x
  have hs : s = { s with heap := s.heap } := by cases s; rfl
  have base : ∀ ps : Array (Int × Value), ps.toList.Perm eo.toList → Q ps s := fun ps hp => by
    have q := h s.heap ps hp (Heap.SameBut.refl f s.heap) y
    rwa [← hs] at q
  unfold setWalkUnseen
  refine wpAny_bind (wpAny_setState_of g S.data S.fit (wpAny_bind (wp_byText ?_))); dsimp only
  refine wpAny_ite_split (fun hc => ?_) (fun hc => ?_)
  · unfold setWalk
    refine wpAny_bind (wpAny_setState_of g S.data S.fit (wpAny_bind (wp_byText ?_)))
    cases hb : byT w with
    | true =>
      rw [if_pos rfl]
      exact wpAny_bind (wpAny_askSetting (wpAny_pure (base _ (pick_perm _ eo))))
    | false =>
      rw [if_neg Bool.false_ne_true]
      rw [hb] at hc
      have hc' : ((to.led && to.plain) || decide (eo.size ≤ 1)) = true := by simpa using hc
      refine wpAny_ite_split (fun hab => ?_) fun _ => ?_
      · have q : (!to.plain && decide (eo.size > 1)) = true := hab
        rw [Bool.and_eq_true, decide_eq_true_eq, Bool.not_eq_true'] at q
        rw [Bool.or_eq_true, Bool.and_eq_true, decide_eq_true_eq, q.1] at hc'
        rcases hc' with h1 | h1
        · exact absurd h1.2 Bool.false_ne_true
        · omega
      · refine wpAny_bind ?_
        show wpAny _ _ (if (!to.led && decide (eo.size > 1)) = true then unsupported "set:maker-not-led" else pure ()) _ _ _
        rw [S.led, hb]
        simp only [Bool.not_false, Bool.not_true, Bool.false_and, Bool.false_eq_true, if_false]
        exact wpAny_pure (wpAny_pure (base eo .rfl))
  · refine wpAny_bind (quiet_ok ⟨ob, eo, po, to, g, S⟩ y ?_)
    rw [if_neg (by simp)]
    refine wpAny_bind (wpAny_rule ?_)
    obtain ⟨of, ef, pf, tf, gf, F⟩ := y
    refine wpAny_bind (wpAny_setState_of gf F.data F.fit ?_); dsimp only
    refine wpAny_ite_split (fun _ => ?_) (fun _ => wpAny_pure (base eo .rfl))
    refine wpAny_bind (wpAny_storeSet_of gf F.data ?_ (few_line (by rw [F.size]; exact F.few)))
    have g1 := store_set (es' := ef) (t' := { tf with led := tf.led && to.led, plain := tf.plain && to.plain }) gf F.data
    refine wpAny_pure (h _ eo .rfl (Heap.SameBut.update s.heap f _) ⟨_, ef, _, _, g1, ⟨F.exact', rfl, F.ent, F.few, F.fit, ⟨F.rt.ris, F.rt.dum⟩, ?_⟩⟩)
    show (tf.led && to.led) = _
    rw [F.led, S.led]
    simp
end
end L2

set_option Elab.async false
set_option linter.all false
set_option maxRecDepth 100000
set_option maxHeartbeats 4000000
namespace L2
open PySem PySem.Spec PyProof.Rows
theorem mem_addK {ks : List Key} {k x : Key} : x ∈ addK ks k ↔ x ∈ ks ∨ x = k := by
  by_cases h : k ∈ ks
  · rw [addK_in h]
    exact ⟨.inl, fun q => q.elim id fun e => e ▸ h⟩
  · rw [addK_out h, List.mem_append, List.mem_singleton]
theorem nodup_addK {ks : List Key} {k : Key} (hn : ks.Nodup) : (addK ks k).Nodup := by
  by_cases h : k ∈ ks
  · rw [addK_in h]; exact hn
  · rw [addK_out h]
    refine List.nodup_append.mpr ⟨hn, by simp, fun a ha b hb e => h ?_⟩
    rw [List.mem_singleton] at hb
    exact hb ▸ e ▸ ha
theorem nodup_dedK (ks : List Key) : (dedK ks).Nodup := by
  have : ∀ (ks acc : List Key), acc.Nodup → (ks.foldl addK acc).Nodup := by
    intro ks
    induction ks with
    | nil => intro acc h; exact h
    | cons k ks ih => intro acc h; exact ih _ (nodup_addK h)
  exact this ks [] List.nodup_nil
section
variable {prog : Program} {w : World} {A : Around} {E : Value → Shared → Prop} {s : Shared}
theorem merge_ok {a o : Addr} {ks ko : List Key} {each : Sem Unit} {Q : Unit → Shared → Prop} (x : SetM w s.heap a ks) (y : SetIs w s.heap o ko) (ne : a ≠ o) (n1 : ks.Nodup) (n2 : ko.Nodup) (hb : ks.length + ko.length + 1 < 4096)
    (he : ∀ (s' : Shared) (Q' : Unit → Shared → Prop), (∀ ob, s.heap.get? o = some ob → s'.heap.get? o = some ob) → Q' () s' → wpAny (model prog w) A each Q' E s')
    (h : ∀ h' ks', Heap.SameBut a s.heap h' → SetM w h' a ks' → ks'.Nodup → (∀ k, k ∈ ks' ↔ k ∈ ks ∨ k ∈ ko) → Q () { s with heap := h' }) : wpAny (model prog w) A (setMerge a o each) Q E s := by
  obtain ⟨oo, eo, po, to, go, O⟩ := y
  have hs : s = { s with heap := s.heap } := by cases s; rfl
  have zo : eo.size = ko.length := O.size
  unfold setMerge
  rw [if_neg (by simpa using ne)]
  refine wpAny_bind (wpAny_setState_of go O.data O.fit ?_); dsimp only
  refine wpAny_ite_split (fun hem => ?_) (fun hem => ?_)
  · have e0 : ko = [] := by
      rw [Array.isEmpty_iff] at hem
      apply List.eq_nil_of_length_eq_zero
      rw [← zo, hem]
      rfl
    subst e0
    refine wpAny_pure ?_
    have q := h s.heap ks (Heap.SameBut.refl a s.heap) x n1 (fun k => by simp)
    rwa [← hs] at q
  · have hne : ko ≠ [] := fun e => hem (by
      subst e
      rw [Array.isEmpty_iff]
      exact Array.eq_empty_of_size_eq_zero zo)
    refine wpAny_bind (room_ok x (by rw [zo]; omega) fun h1 ks1 s1 p1 ⟨oa, ea, pa, ta, ga, Sa, pw⟩ => ?_)
    have go1 : h1.get? o = some oo := (s1.2 o (Ne.symm ne)).trans go
    have O1 : SAt w h1 o eo po to ko := ⟨oo, go1, O⟩
    refine wpAny_bind (wpAny_setState_of (s := { s with heap := h1 }) ga Sa.data Sa.fit ?_); dsimp only
    obtain ⟨f1, f2⟩ := fills Sa.fit Sa.rt
    have za : ea.size = ks1.length := Sa.size
    have fin0 : ∀ (es : Array (Int × Value)) (t : SetTable) (k2 : List Key), ks1 = [] → k2.Perm ko → Paired (Ent w) es.toList k2 → t.fits es.size = true → RT t → t.led = (!byT w) → wpAny (model prog w) A (storeSet a es t) Q E { s with heap := h1 } := by
      intro es t k2 e1 p2 pr ft rt ld
      have few2 : k2.length < scanBound := by rw [p2.length_eq]; unfold scanBound; omega
      have z2 : es.size = k2.length := by have := paired_len2 pr; rwa [Array.length_toList] at this
      refine wpAny_storeSet_of ga Sa.data ?_ (few_line (by rw [z2]; exact few2))
      have g1 := store_set (s := { s with heap := h1 }) (es' := es) (t' := t) ga Sa.data
      have ek : ks = [] := by
        rw [e1] at p1
        exact List.Perm.eq_nil p1.symm
      refine h _ k2 (s1.trans (Heap.SameBut.update h1 a _)) (SetM.of ⟨_, es, _, t, g1, ⟨Sa.exact', rfl, pr, few2, ft, rt, ld⟩⟩ ?_) (p2.nodup_iff.mpr n2) (fun k => ?_)
      · intro e
        rw [e] at p2
        exact hne (List.Perm.eq_nil p2.symm)
      · rw [p2.mem_iff, ek]
        simp
    cases hr : ta.road to with
    | slotForSlot =>
      dsimp only
      have hfz : ta.fill = 0 := by
        unfold SetTable.road at hr
        split at hr
        · cases hr
        · rename_i q
          simpa using q
      have e1 : ks1 = [] := List.eq_nil_of_length_eq_zero (by omega)
      refine fin0 eo _ ko e1 .rfl O.ent O.fit ⟨O.rt.ris, O.rt.dum⟩ ?_
      show (ta.led && to.led) = _
      rw [Sa.led, O.led]
      simp
    | clean =>
      dsimp only
      have hfz : ta.fill = 0 := by
        unfold SetTable.road at hr
        split at hr
        · cases hr
        · rename_i q
          simpa using q
      have e1 : ks1 = [] := List.eq_nil_of_length_eq_zero (by omega)
      obtain ⟨⟨k, hk⟩, hm⟩ := pw e1
      obtain ⟨t', order, l1, l2, l3⟩ := laid_ok (mask := ta.mask) (finger := ta.finger) (moves := ta.moves) (led := ta.led && to.led) (plain := ta.plain && to.plain) hk (eo.map (·.1)) (by rw [Array.size_map]; exact hm)
      rw [Array.size_map] at l2 l3
      obtain ⟨r1, r2⟩ := reord l2
      obtain ⟨q1, q2, q3, q4⟩ := laid_rt l1
      rw [l1]
      refine wpAny_bind ?_
      show wpAny _ _ (if ((order.filterMap (eo[·]?)).size != eo.size) = true then unsupported "internal:set-table-lost-an-element" >>= fun _ => pure (order.filterMap (eo[·]?), t') else pure (order.filterMap (eo[·]?), t')) _ _ _
      rw [if_neg (by rw [r2]; simp)]
      refine wpAny_pure ?_
      dsimp only
      obtain ⟨k2, p2, pr⟩ := paired_perm r1 O.ent
      refine fin0 _ t' k2 e1 p2 pr ?_ q1 ?_
      · simp only [SetTable.fits, SetTable.fill, q1.dum, l3, r2, q4, Bool.and_eq_true, beq_iff_eq, decide_eq_true_eq]
        refine ⟨trivial, ?_⟩
        show eo.size + (#[] : Array Nat).size ≤ _
        simp only [List.size_toArray, List.length_nil]
        omega
      · rw [q2, Sa.led, O.led]
        simp
    | oneByOne =>
      dsimp only
      refine wpAny_bind (unseen_ok (s := { s with heap := h1 }) O1 ⟨oa, ea, pa, ta, ga, Sa⟩ ne fun h2 ps pp s2 S2 => ?_)
      obtain ⟨kp, pk, pr⟩ := paired_perm pp O.ent
      have n1' : ks1.Nodup := p1.nodup_iff.mpr n1
      refine wpAny_bind (wpAny_forIn_array' _ (fun (l : List (Int × Value)) (b : PUnit) s' => ∃ h' kc kr, s' = { s with heap := h' } ∧ Heap.SameBut a s.heap h' ∧ SetIs w h' a kc ∧ kc.Nodup ∧ Paired (Ent w) l kr ∧ (∀ k, (k ∈ kc ∨ k ∈ kr) ↔ k ∈ ks ∨ k ∈ ko) ∧ kc.length + kr.length ≤ ks.length + ko.length) _ (fun e rest b s' hI => ?_) (fun b s' hI => ?_) ps _ ?_)
      · obtain ⟨h', kc, kr, rfl, sb, SC, nc, pl, mm, ll⟩ := hI
        cases pl with
        | cons he1 pl =>
          rename_i kk kr
          obtain ⟨hx, vx⟩ := e
          rw [List.length_cons] at ll
          refine wpAny_bind (wpAny_holding ?_)
          have e1 : hx = keyH w kk := he1.2
          subst e1
          refine add_ok (s := { s with heap := h' }) he1.1 SC (by unfold scanBound; omega) fun h3 k3 s3 S3 p3 bb => ?_
          have sb3 : Heap.SameBut a s.heap h3 := sb.trans s3
          have go3 : h3.get? o = some oo := (sb3.2 o (Ne.symm ne)).trans go
          refine wpAny_bind (he _ _ (fun ob e => (sb3.2 o (Ne.symm ne)).trans e) ?_)
          refine wpAny_bind (wpAny_setState_of (s := { s with heap := h3 }) go3 O.data O.fit ?_); dsimp only
          rw [if_neg (by simp)]
          refine wpAny_pure ⟨h3, k3, kr, rfl, sb3, S3, p3.nodup_iff.mpr (nodup_addK nc), pl, fun k => ?_, ?_⟩
          · rw [← mm k, p3.mem_iff, mem_addK, List.mem_cons, or_assoc]
          · have := addK_len kc kk
            rw [p3.length_eq]
            omega
      · obtain ⟨h', kc, kr, rfl, sb, SC, nc, pl, mm, ll⟩ := hI
        cases pl
        refine wpAny_pure (h h' kc sb (SetM.of SC fun e => ?_) nc fun k => by rw [← mm k]; simp)
        obtain ⟨k0, hk0⟩ := List.exists_mem_of_ne_nil ko hne
        have := (mm k0).mpr (.inr hk0)
        rw [e] at this
        simp at this
      · refine ⟨h2, ks1, kp, rfl, s1.trans s2, S2, n1', pr, fun k => by rw [p1.mem_iff, pk.mem_iff], ?_⟩
        rw [p1.length_eq, pk.length_eq]
        exact Nat.le_refl _
end
end L2

set_option Elab.async false
set_option linter.all false
set_option maxRecDepth 100000
set_option maxHeartbeats 4000000
namespace L2
open PySem PySem.Spec PyProof.Rows
theorem entry_s_or : entryFor table "set.__or__" = some Builtin.«frozenset.__or__» := entryFor_alias (id' := "frozenset.__or__") (by kernel_rfl) rfl (by decide +kernel) (by kernel_rfl)
section
variable {prog : Program} {w : World} {A : Around} {E : Value → Shared → Prop} {s : Shared}
theorem isSet_ok {a : Addr} {ks : List Key} {Q : Bool → Shared → Prop} (x : SetIs w s.heap a ks) (h : Q true s) : wpAny (model prog w) A (Builtin.Frozenset.isAnySet (.ref a)) Q E s := by
  obtain ⟨o, es, ep, t, g, S⟩ := x
  have hT : s.TypeIs (.ref a) "set" := ⟨o, g, S.exact'.1⟩
  unfold Builtin.Frozenset.isAnySet
  refine wpAny_bind (wpAny_isInstance hT sub_set_self ?_)
  exact wpAny_pure h
theorem copy_ok {a : Addr} {ks : List Key} {Q : Value → Shared → Prop} (x : SetIs w s.heap a ks) (n : ks.Nodup) (hb : ks.length + 1 < 4096)
    (h : ∀ h' ks', (∀ b o, s.heap.get? b = some o → h'.get? b = some o) → SetM w h' s.heap.objs.size ks' → ks'.Nodup → (∀ k, k ∈ ks' ↔ k ∈ ks) → Q (.ref s.heap.objs.size) { s with heap := h' }) : wpAny (model prog w) A (Builtin.Frozenset.copyOf a) Q E s := by
  obtain ⟨o, es, ep, t, g, S⟩ := id x
  have hT : s.TypeIs (.ref a) "set" := ⟨o, g, S.exact'.1⟩
  unfold Builtin.Frozenset.copyOf Builtin.Frozenset.baseOf
  refine wpAny_bind (wpAny_bind (wpAny_isInstance hT sub_set_self (wpAny_pure ?_)))
  rw [if_pos rfl]
  unfold newSet
  refine wpAny_bind (wpAny_bind (wp_byText ?_)); dsimp only
  simp only [newObj]
  refine wpAny_bind (wpAny_alloc (wpAny_pure ?_))
  have g1 : (s.heap.push (freshSet w)).get? s.heap.objs.size = some (freshSet w) := Heap.get?_push_size _ rfl
  have la : a < s.heap.objs.size := Heap.lt_size g
  show wpAny _ _ (Builtin.Frozenset.addrOf (.ref s.heap.objs.size) >>= _) _ _ { s with heap := s.heap.push (freshSet w) }
  refine wpAny_bind (wpAny_pure (wpAny_bind (merge_ok (s := { s with heap := s.heap.push (freshSet w) }) (ks := []) (ko := ks) (fresh_m g1) (x.at fun o e => Heap.get?_push_of_some _ e) (Nat.ne_of_gt la) List.nodup_nil n (by rw [List.length_nil]; omega) (fun s' Q' _ q => wpAny_pure q) fun h' ks' sb SM nd mm => ?_)))
  refine wpAny_pure (h h' ks' (fun b o e => (sb.2 b (Nat.ne_of_lt (Heap.lt_size e))).trans (Heap.get?_push_of_some _ e)) SM nd fun k => ?_)
  rw [mm k]
  simp
theorem or_ok {a b : Addr} {ka kb : List Key} {Q : Value → Shared → Prop} (x : SetIs w s.heap a ka) (y : SetIs w s.heap b kb) (ne : a ≠ b) (n1 : ka.Nodup) (n2 : kb.Nodup) (hb : ka.length + kb.length + 1 < 4096)
    (h : ∀ h' ks', (∀ b o, s.heap.get? b = some o → h'.get? b = some o) → SetIs w h' s.heap.objs.size ks' → ks'.Nodup → (∀ k, k ∈ ks' ↔ k ∈ ka ∨ k ∈ kb) → Q (.ref s.heap.objs.size) { s with heap := h' }) : wpAny (model prog w) A (binaryOp .BitOr (.ref a) (.ref b)) Q E s := by
  obtain ⟨oa, ea, pa, ta, ga, Sa⟩ := id x
  obtain ⟨ob, eb, pb, tb, gb, Sb⟩ := id y
  have hTa : s.TypeIs (.ref a) "set" := ⟨oa, ga, Sa.exact'.1⟩
  have hTb : s.TypeIs (.ref b) "set" := ⟨ob, gb, Sb.exact'.1⟩
  refine wpAny_binaryOp_same (op := .BitOr) (T := "set") hTa hTb F.fills_set_or F.slot_set_or (wpAny_call_entry F.slot_set_or hTa entry_s_or ?_ (F.args_set_or_2 _ _))
  unfold Builtin.«frozenset.__or__»
  wp_delta
  refine wpAny_bind (wpAny_pure ?_)
  dsimp only
  rw [if_neg Bool.false_ne_true]
  dsimp only
  refine wpAny_bind (wpAny_bind (isSet_ok x ?_))
  refine isSet_ok y ?_
  rw [if_neg (by simp)]
  refine wpAny_bind (wpAny_pure (wpAny_bind ?_))
  wp_delta
  refine wpAny_bind (copy_ok x n1 (by omega) fun h1 k1 kp SM nd mm => ?_)
  have hl : k1.length = ka.length := ((List.perm_ext_iff_of_nodup nd n1).mpr mm).length_eq
  have la : b < s.heap.objs.size := Heap.lt_size gb
  rw [if_pos (by simpa using Ne.symm ne)]
  refine wpAny_bind (wpAny_pure (wpAny_bind (wpAny_holding ?_)))
  unfold Builtin.Frozenset.updateFrom Builtin.Frozenset.merge
  have y1 : SetIs w h1 b kb := y.at fun o e => kp _ _ e
  refine wpAny_bind (isSet_ok (s := { s with heap := h1 }) y1 ?_)
  rw [if_pos rfl]
  refine wpAny_bind (wpAny_pure (wpAny_bind (wpAny_setEpoch_of (s := { s with heap := h1 }) (kp _ _ gb) Sb.data Sb.fit ?_)))
  refine merge_ok (s := { s with heap := h1 }) SM y1 (Nat.ne_of_gt la) nd n2 (by omega) (fun s' Q' k q => ?_) fun h2 k2 sb SM2 nd2 mm2 => ?_
  · unfold Builtin.Frozenset.unchanged
    refine wpAny_bind (wpAny_setEpoch_of (k _ (kp _ _ gb)) Sb.data Sb.fit ?_)
    rw [if_neg (by simp)]
    exact wpAny_pure q
  · refine wpAny_pure ?_
    show wpAny _ _ (ret (Value.ref s.heap.objs.size)) _ _ _
    refine wpAny_pure ⟨_, rfl, fun c => ?_, h h2 k2 (fun c o e => (sb.2 c (Nat.ne_of_lt (Heap.lt_size e))).trans (kp _ _ e)) SM2.is nd2 fun k => ?_⟩
    · cases c
    · rw [mm2 k, mm k]
end
end L2

set_option Elab.async false
set_option linter.all false
set_option maxRecDepth 100000
set_option maxHeartbeats 4000000
namespace L2
open PySem PySem.Spec PyProof.Rows
theorem mem_dedK {ks : List Key} {x : Key} : x ∈ dedK ks ↔ x ∈ ks := by
  have : ∀ (ks acc : List Key), x ∈ ks.foldl addK acc ↔ x ∈ acc ∨ x ∈ ks := by
    intro ks
    induction ks with
    | nil => intro acc; simp
    | cons k ks ih => intro acc; rw [List.foldl_cons, ih, mem_addK, List.mem_cons, or_assoc]
  rw [dedK, this]
  simp
def rOrK (w : World) : R2 := fun x y H Q => ∃ (p q : Addr) (ka kb : List Key), x = .ref p ∧ y = .ref q ∧ p ≠ q ∧ H p = some (SetO w p ka) ∧ H q = some (SetO w q kb) ∧ ka.Nodup ∧ kb.Nodup ∧ ka.length + kb.length < 4000 ∧ ∀ r, H r = none → Q (.ref r) (upd H r (SetO w r (dedK (ka ++ kb))))
theorem op_orK {X : Cx} {w : World} (hw : X.w = w) : OpR X (binaryOp .BitOr) (rOrK w) := by
  subst hw
  intro pins s σ H x y v u Q I rx ry h
  obtain ⟨p, q, ka, kb, rfl, rfl, ne, hp, hq, n1, n2, hz, k⟩ := h
  cases rx
  cases ry
  obtain ⟨ka', Sa, pa⟩ := setO_get I.hok hp
  obtain ⟨kb', Sb, pb⟩ := setO_get I.hok hq
  refine or_ok Sa Sb ne (pa.nodup_iff.mpr n1) (pb.nodup_iff.mpr n2) (by rw [pa.length_eq, pb.length_eq]; omega) fun h' ks' hk S nd mm => ?_
  have hP : ks'.Perm (dedK (ka ++ kb)) := (List.perm_ext_iff_of_nodup nd (nodup_dedK _)).mpr fun k => by rw [mm k, mem_dedK, List.mem_append, pa.mem_iff, pb.mem_iff]
  exact ⟨.ref s.heap.objs.size, _, I.laid' (s' := { s with heap := h' }) hk (Nat.le_refl _) (setO_ok ⟨ks', S, hP⟩) rfl rfl, rfl, k _ (I.hok.fresh (Nat.le_refl _))⟩
def sortOrZ (xs ys : List Int) : Option (List Int) := if xs.length < 1900 ∧ ys.length < 1900 ∧ (dedA (xs ++ ys)).length < 64 then some (sortZ (dedA (xs ++ ys))) else none
def sortOrT (x y : Str) : Option (List Str) := if x.length < 1900 ∧ y.length < 1900 ∧ (dedA (signsO x ++ signsO y)).length < 64 then some (sortS (dedA (signsO x ++ signsO y))) else none
def sortSetZ (ys : List Int) : Option (List Int) := if ys.length < 4000 ∧ (dedA ys).length < 64 then some (sortZ (dedA ys)) else none
theorem dedA_len {α : Type} [DecidableEq α] (ks : List α) : (dedA ks).length ≤ ks.length := by
  have : ∀ (ks acc : List α), (ks.foldl addA acc).length ≤ acc.length + ks.length := by
    intro ks
    induction ks with
    | nil => intro acc; exact Nat.le_refl _
    | cons k ks ih =>
      intro acc
      have h1 := ih (addA acc k)
      have h2 : (addA acc k).length ≤ acc.length + 1 := by
        unfold addA
        split
        · exact Nat.le_succ _
        · rw [List.length_append]; exact Nat.le_refl _
      rw [List.foldl_cons, List.length_cons]
      omega
  have := this ks []
  rw [List.length_nil] at this
  unfold dedA
  omega
theorem dedK_twice {α : Type} [DecidableEq α] {f : α → Key} (hf : ∀ a b, f a = f b → a = b) (xs ys : List α) : (dedK ((dedA xs).map f ++ (dedA ys).map f)).Perm ((dedA (xs ++ ys)).map f) := by
  rw [← dedA_map hf (xs ++ ys)]
  refine (List.perm_ext_iff_of_nodup (nodup_dedK _) (nodup_dedK _)).mpr fun k => ?_
  rw [mem_dedK, mem_dedK, List.map_append, List.mem_append, List.mem_append, ← dedA_map hf xs, ← dedA_map hf ys, mem_dedK, mem_dedK]
theorem SetO_perm {w : World} {p : Addr} {a b : List Key} (h : a.Perm b) : SetO w p a = SetO w p b := by
  unfold SetO
  congr 1
  funext hh
  refine propext ⟨fun ⟨ks, S, e⟩ => ⟨ks, S, e.trans h⟩, fun ⟨ks, S, e⟩ => ⟨ks, S, e.trans h.symm⟩⟩
section
variable {K : PySem.W.Frag} {σ : St} {G : Hp} {ta tb : TE} {w : World}
theorem ints_keys (a : List Int) : a.map V.int = (a.map (Sum.inl : Int → Key)).map kV := by rw [List.map_map]; rfl
theorem ints_rel {G2 : Hp} : ∀ zs : List Int, Paired (Rp.rel K G2) (zs.map V.int) zs
  | [] => .nil
  | z :: zs => .cons rfl (ints_rel zs)
theorem sortZ_len (ys : List Int) : (sortZ ys).length = ys.length := (List.mergeSort_perm ys leZ).length_eq
/-- sorted(set(a list of whole numbers) | set(another)) -/
theorem fv_sortOrZ {la lb : Option (List Int)} (ea : EV K ta σ G la) (eb : EV K tb σ G lb) :
    FV K (tCB (rSortPI w) (tCons (tOp (rOrK w) (tCB (rSetK w K) (tCons ta tNil)) (tCB (rSetK w K) (tCons tb tNil))) tNil)) σ G (la.bind fun xs => lb.bind fun ys => sortOrZ xs ys) := by
  intro G1 s1 c hc H sH Q k
  obtain ⟨a, ha, hc⟩ := Option.bind_eq_some_iff.mp hc
  obtain ⟨b, hb, hc⟩ := Option.bind_eq_some_iff.mp hc
  obtain ⟨⟨h4, h5, h64⟩, rfl⟩ := ite_some hc
  refine ea G1 s1 a ha H sH _ fun v G2 H2 x2 r2 => ?_
  obtain ⟨l, xs, rfl, h, z, p⟩ := r2
  have e := paired_intsR p
  subst e
  refine ⟨l, a.map Sum.inl, rfl, ?_, by rw [List.length_map]; omega, fun q hq => ?_⟩
  · rw [← ints_keys]; exact .inl (x2.gh.rd h)
  · have x3 : Ext G2 H2 G2 (upd H2 q (SetO w q (dedK (a.map Sum.inl)))) := .own x2.gh hq
    have g2q : G2 q = none := x2.gh.free hq
    refine eb G2 (s1.trans x2.gg) b hb _ x3.gh _ fun u G4 H4 x4 r4 => ?_
    obtain ⟨l2, ys, rfl, h2, z2, p2⟩ := r4
    have e := paired_intsR p2
    subst e
    refine ⟨l2, b.map Sum.inl, rfl, ?_, by rw [List.length_map]; omega, fun q2 hq2 => ?_⟩
    · rw [← ints_keys]; exact .inl (x4.gh.rd h2)
    · have x5 : Ext G4 H4 G4 (upd H4 q2 (SetO w q2 (dedK (b.map Sum.inl)))) := .own x4.gh hq2
      have h4q : H4 q = some (SetO w q (dedK (a.map Sum.inl))) := x4.hh _ _ upd_same
      have ne : q ≠ q2 := fun e => by rw [← e, h4q] at hq2; cases hq2
      have l1 := dedA_len a
      have l2 := dedA_len b
      rw [dedA_map inl_inj a] at h4q
      rw [dedA_map inl_inj b] at x5 ⊢
      refine ⟨q, q2, (dedA a).map Sum.inl, (dedA b).map Sum.inl, rfl, rfl, ne, ?_, upd_same, ?_, ?_, ?_, fun q3 hq3 => ?_⟩
      · rw [upd_ne ne]; exact h4q
      · rw [← dedA_map inl_inj]; exact nodup_dedK _
      · rw [← dedA_map inl_inj]; exact nodup_dedK _
      · rw [List.length_map, List.length_map]; omega
      · have x6 : Ext G4 (upd H4 q2 (SetO w q2 ((dedA b).map Sum.inl))) G4 (upd (upd H4 q2 (SetO w q2 ((dedA b).map Sum.inl))) q3 (SetO w q3 ((dedA (a ++ b)).map Sum.inl))) := .own x5.gh hq3
        rw [SetO_perm (dedK_twice inl_inj a b)]
        refine ⟨q3, dedA (a ++ b), rfl, upd_same, h64, ?_⟩
        refine fv_of x6.gh ?_ (ints_rel _) (FV.mono (x2.trans (x3.trans (x4.trans (x5.trans x6)))) k)
        rw [List.length_map, sortZ_len, sizeLine_eq]
        omega
end
end L2

set_option Elab.async false
set_option linter.all false
set_option maxRecDepth 100000
set_option maxHeartbeats 4000000
namespace L2
open PySem PySem.Spec PyProof.Rows
structure MpF (α : Type) where
  l : List (Int × α)
instance rpMpF {α : Type} [Rp α] : Rp (MpF α) := ⟨fun K H v a => ∃ p o kvs, v = .ref p ∧ H p = some (.frz o (.dK kvs)) ∧ Paired (RelE K H) kvs a.l,
  fun s ⟨p, o, kvs, e, h, pr⟩ => ⟨p, o, kvs, e, s _ _ h, Paired.imp' (fun _ _ r => ⟨r.1, Rp.mono s r.2⟩) pr⟩⟩
def tFrz (i : Nat) : TE := fun σ H Q => ∃ v p kvs, σ[i]? = some (some v) ∧ v = .ref p ∧ H p = some (.dK kvs) ∧ ∀ o, Q v (upd H p (.frz o (.dK kvs)))
theorem pe_frz {X : Cx} {i : Nat} {e : Expr} (h : PE X e (tVar i)) : PE X e (tFrz i) := by
  intro pins s σ H Q I q
  obtain ⟨v, p, kvs, hσ, rfl, hp, k⟩ := q
  refine thn (h pins s σ H (fun v' H' => v' = .ref p ∧ H' = H) I ⟨_, hσ, rfl, rfl⟩) fun u s1 ⟨x, H1, I1, r1, e1, e2⟩ => ?_
  subst e1
  subst e2
  have ok := I1.hok p _ hp
  obtain ⟨o, g⟩ : ∃ o, s1.heap.get? p = some o := by
    obtain ⟨_, _, _, _, o, _, _, g, _⟩ := ok
    exact ⟨o, g⟩
  have I2 : Inv X pins σ (upd H1 p (.frz o (.dK kvs))) { s1 with heap := s1.heap, toks := s1.toks } := by
    refine I1.write (x := p) (e := p) (by rw [hp]; trivial) (.inl rfl) (fun b u _ q => q) ⟨o, g⟩ ⟨g, ?_⟩
    obtain ⟨a1, a2, vs, a3, a4⟩ := ok
    exact ⟨a1, a2, vs, a3, a4⟩
  exact ⟨_, _, I2, r1, k o⟩
section
variable {K : PySem.W.Frag} {σ : St} {G H G0 H0 : Hp} {α β : Type} [Rp α] [Rp β] {ta td ti : TE} {rest : TS} {D : Ends} {i : Nat} {a : Mp α} {v : V} {p : Addr} {kvs : List (Key × V)}
theorem sv_retFz (hσ : σ[i]? = some (some v)) (o : OwnM K G H v p kvs a) (x : Ext G0 H0 G H) (h0 : H0 p = none) (k : ∀ v G2 H2, Ext G0 H0 G2 H2 → Rp.rel K G2 v (MpF.mk a.l) → D.rt v H2) : tSeq (tRet (tFrz i)) rest D σ H := by
  refine ⟨v, p, kvs, hσ, o.v, o.h, fun ob => k v (upd G p (.frz ob (.dK kvs))) _ ((x.put h0 o.g).frz h0 o.g upd_same) ⟨p, ob, kvs, o.v, upd_same, Paired.imp' (fun _ _ r => ⟨r.1, Rp.mono (Same.new o.g) r.2⟩) o.p⟩⟩
theorem ev_getF {md : Option (MpF α)} {mi : Option Int} (ed : EV K td σ G md) (ei : EV K ti σ G mi) : EV K (tDGet td ti) σ G (md.bind fun d => mi.bind fun k => getM d.l k) := by
  intro G1 s1 c hc H sH Q k
  obtain ⟨d, hd, hc⟩ := Option.bind_eq_some_iff.mp hc
  obtain ⟨j, hj, hc⟩ := Option.bind_eq_some_iff.mp hc
  refine ed G1 s1 d hd H sH _ fun v G2 H2 x2 r2 => ?_
  refine ei G2 (s1.trans x2.gg) j hj H2 x2.gh _ fun u G3 H3 x3 r3 => ?_
  obtain ⟨p, o, kvs, rfl, h, pr⟩ := Rp.mono x3.gg r2
  cases r3
  obtain ⟨w, e1, e2⟩ := paired_getM pr hc
  exact ⟨p, w, rfl, .inl ⟨kvs, .inl j, .inr ⟨o, x3.gh _ _ h⟩, rfl, e1.symm⟩, k _ _ _ (x2.trans x3) e2⟩
end
def epOf (o : Obj) : Nat := match o.data with
  | .dict _ ep => ep
  | _ => 0
theorem frz_at {X : Cx} {pins : List (Addr × Obj)} {σ : St} {H : Hp} {s : Shared} {p : Addr} {o : Obj} {kvs : List (Key × V)} (I : Inv X pins σ H s) (h : H p = some (.frz o (.dK kvs))) :
    kvs.length ≤ sizeLine ∧ (p == sysModules) = false ∧ ∃ vs, KV kvs vs ∧ s.heap.DictAt (mixKind X.prog X.w) p vs (epOf o) := by
  obtain ⟨g, a1, a2, vs, a3, o', es, ep, g', x1, x2, x3⟩ := (show ObjOk X.prog X.w H s.heap p (.frz o (.dK kvs)) from I.hok p _ h)
  rw [g] at g'
  cases g'
  refine ⟨a1, a2, vs, a3, o, es, g, x1, ?_, x3⟩
  unfold epOf
  rw [x2]
theorem kv_len {kvs : List (Key × V)} {vs : List (Key × Value)} (h : KV kvs vs) : kvs.length = vs.length := paired_len2 h
theorem kv_at : ∀ {kvs : List (Key × V)} {vs : List (Key × Value)} {i : Nat} {q : Key × V}, KV kvs vs → kvs[i]? = some q → ∃ u, vs[i]? = some (q.1, u)
  | _, _, _, _, .nil, e => by simp at e
  | _, _, 0, _, .cons h t, e => by
    simp at e
    subst e
    exact ⟨_, by rw [h.1]; rfl⟩
  | _, _, i + 1, _, .cons h t, e => by
    obtain ⟨u, q⟩ := kv_at (i := i) t (by simpa using e)
    exact ⟨u, by simpa using q⟩
theorem key_rel : ∀ {k : Key} {u : Value}, keyIs k u = true → RelV (kV k) u
  | .inl i, u, h => by
    rcases keyIs_shape h with ⟨j, t, e, rfl⟩ | ⟨x, t, e, rfl⟩
    · cases e; exact ⟨t, rfl⟩
    · cases e
  | .inr x, u, h => by
    rcases keyIs_shape h with ⟨j, t, e, rfl⟩ | ⟨x, t, e, rfl⟩
    · cases e
    · cases e; exact ⟨t, rfl⟩
def ItF (p : Addr) (o : Obj) (kvs : List (Key × V)) : It :=
  ⟨fun i H => H p = some (.frz o (.dK kvs)) ∧ i < kvs.length, fun i H x H' => H' = H ∧ (kvs.map fun q => kV q.1)[i]? = some x, fun i H => H p = some (.frz o (.dK kvs)) ∧ kvs.length ≤ i⟩
theorem turn_frz {P : Program} {w : World} {K : PySem.W.Frag} {tg : Expr} (p it : Addr) (o : Obj) (kvs : List (Key × V)) : Turn P w K tg (ItF p o kvs) [it] it (fun i h => h.IsKeyIter it p i kvs.length (epOf o)) where
  mem := by simp
  obj := fun i h st b hb => by
    have e : b = it := by simpa using hb
    subst e
    obtain ⟨ob, e, c, d⟩ := st
    exact ⟨ob, e, fun v z => by rw [d] at z; cases z⟩
  keep := fun i h h' st k => st.at fun o e => k it (by simp) o e
  item := by
    intro X hP hw hK hc i pins s σ H E I hf st hg
    subst hP hw hK
    obtain ⟨hH, hi⟩ := hg
    obtain ⟨_, _, vs, kv, da⟩ := frz_at I hH
    have hx : kvs[i]? = some kvs[i] := List.getElem?_eq_getElem hi
    obtain ⟨u, hu⟩ := kv_at kv hx
    rw [kv_len kv] at st
    obtain ⟨f0, f1, f2, f3, f4, f5⟩ := hf it (by simp)
    refine wpAny_pyNext_dict_item st da hu fun key h' hkey st' sb => ?_
    have I1 : Inv X pins σ H { s with heap := h' } := I.turned (t' := s.toks) (fun b o hb e => (sb.2 b hb).trans e) f0 f1 f3 f4 f5
    obtain ⟨ob, e, c, d⟩ := id st'
    rw [← kv_len kv] at st'
    exact ⟨key, rfl, go_of (s := { s with heap := h' }) e c d (by decide) ⟨kV kvs[i].1, H, I1, key_rel hkey, ⟨rfl, by rw [List.getElem?_map, hx]; rfl⟩, st', fun b hb => (hf b hb).1⟩⟩
  done := by
    intro X hP hw hK hc i pins s σ H E I hf st hg
    subst hP hw hK
    obtain ⟨hH, hi⟩ := hg
    obtain ⟨_, _, vs, kv, da⟩ := frz_at I hH
    rw [kv_len kv] at st hi
    obtain ⟨f0, f1, f2, f3, f4, f5⟩ := hf it (by simp)
    exact wpAny_pyNext_dict_end (I.ok.hd hc) st da (List.getElem?_eq_none hi) fun h' eb => ⟨rfl, I.turned (t' := s.toks) (fun b o hb e => eb b o hb e) f0 f1 f3 f4 f5⟩
  self := fun _ _ _ _ _ st h => wpAny_pyIter_keyiter st h
def iFrz (tl : TE) : TI := fun σ H R => tl σ H fun v H1 => ∃ p o kvs, v = .ref p ∧ H1 p = some (.frz o (.dK kvs)) ∧ R (ItF p o kvs) H1
theorem pi_frz {X : Cx} {tg l : Expr} {tl : TE} (hl : PE X l tl) : PI X tg l (iFrz tl) := by
  intro pins s σ H R I h
  refine thn (hl pins s σ H _ I h) fun v s1 ⟨x, H1, I1, r1, p, o, kvs, ex, hH, q⟩ => ?_
  subst ex
  cases r1
  obtain ⟨hz, lo, vs, kv, da⟩ := frz_at I1 hH
  have one : ∀ b ∈ [s1.heap.objs.size], FpOk X pins H1 b := fun b hb => by
    have e : b = s1.heap.objs.size := by simpa using hb
    subst e
    exact I1.fpOk (Nat.le_refl _) (I1.hok.fresh (Nat.le_refl _))
  refine wpAny_pyIter_dict lo da ⟨s1.heap.objs.size, [s1.heap.objs.size], _, _, H1, rfl, I1.kept (t' := s1.toks) fun b o e => Heap.get?_push_of_some _ e, turn_frz p _ o kvs, ⟨_, Heap.get?_push_size _ rfl, rfl, ?_⟩, one, q⟩
  rw [kv_len kv]
  rfl
theorem yields_frz {p : Addr} {o : Obj} {kvs : List (Key × V)} {H : Hp} (h : H p = some (.frz o (.dK kvs))) : Yields (ItF p o kvs) H (kvs.map fun q => kV q.1) where
  go := fun i H' s hi => ⟨s _ _ h, by simpa using hi⟩
  stop := fun H' s => ⟨s _ _ h, by simp⟩
  yld := fun i H' v H'' s _ y => ⟨y.1, y.2⟩
def rLenF : List V → Hp → VK → Prop := fun vs H Q => ∃ p o kvs, vs = [.ref p] ∧ H p = some (.frz o (.dK kvs)) ∧ Q (.int (kvs.length : Int)) H
section
variable {K : PySem.W.Frag} {σ : St} {G : Hp} {α : Type} [Rp α] {ta : TE}
theorem frz_keys {G : Hp} : ∀ {kvs : List (Key × V)} {l : List (Int × α)}, Paired (RelE K G) kvs l → Paired (Rp.rel K G) (kvs.map fun q => kV q.1) (l.map (·.1))
  | _, _, .nil => .nil
  | _, _, .cons h t => .cons (by show kV _ = V.int _; rw [h.1]; rfl) (frz_keys t)
def keysO (m : MpF α) : Option (List Int) := if m.l.length ≤ sizeLine then some (m.l.map (·.1)) else none
theorem iw_frz {la : Option (MpF α)} (ea : EV K ta σ G la) : IW K (iFrz ta) σ G (la.bind fun a => keysO a) := by
  intro G1 s1 a ha H sH R k
  obtain ⟨b, hb, ha⟩ := Option.bind_eq_some_iff.mp ha
  obtain ⟨hz, rfl⟩ := ite_some ha
  refine ea G1 s1 b hb H sH _ fun v G2 H2 x2 r2 => ?_
  obtain ⟨p, o, kvs, rfl, h, pr⟩ := r2
  refine ⟨p, o, kvs, rfl, x2.gh _ _ h, k _ (kvs.map fun q => kV q.1) G2 H2 x2 (yields_frz h) ?_ (frz_keys pr)⟩
  rw [List.length_map, paired_len2 pr]
  exact hz
end
end L2

set_option Elab.async false
set_option linter.all false
set_option maxRecDepth 100000
set_option maxHeartbeats 4000000
namespace L2
open PySem PySem.Spec PyProof.Rows
def rotO {α : Type} : List α → Option (List α)
  | [] => none
  | a :: r => if r.length < sizeLine then some (r ++ [a]) else none
section
variable {K : PySem.W.Frag} {σ : St} {G H : Hp} {α : Type} [Rp α] {rest : TS} {D : Ends} {i : Nat} {as as' : List α} {v : V} {p : Addr} {vs : List V}
end
end L2

set_option Elab.async false
set_option linter.all false
set_option maxRecDepth 100000
set_option maxHeartbeats 4000000
namespace L2
open PySem PySem.Spec PyProof.Rows
def rExtendT (K : PySem.W.Frag) : V → List V → Hp → VK → Prop := fun x vs H Q => ∃ l b xs zs, x = .ref l ∧ vs = [.ref b] ∧ H l = some (.lst xs) ∧ SqT K H b zs ∧ xs.length + zs.length ≤ sizeLine ∧ Q .non (upd H l (.lst (xs ++ zs)))
section
variable {K : PySem.W.Frag} {σ : St} {G H : Hp} {α : Type} [Rp α] {te : TE} {rest : TS} {D : Ends} {i : Nat} {m : Option (Tp α)} {b : Tp α} {as as' : List α} {v : V} {p : Addr} {vs : List V}
end
structure MpS (α : Type) where
  l : List (Str × α)
def putSM {α : Type} (l : List (Str × α)) (k : Str) (a : α) : List (Str × α) := if (l.any fun q => decide (q.1 = k)) = true then l.map (fun q => if q.1 = k then (q.1, a) else q) else l ++ [(k, a)]
def putSO {α : Type} (m : MpS α) (k : Str) (a : α) : Option (MpS α) := if m.l.length < sizeLine then some ⟨putSM m.l k a⟩ else none
def hasS {α : Type} (l : List (Str × α)) (k : Str) : Bool := l.any fun q => decide (q.1 = k)
def RelS (K : PySem.W.Frag) {α : Type} [Rp α] (H : Hp) (kv : Key × V) (q : Str × α) : Prop := kv.1 = .inr q.1 ∧ Rp.rel K H kv.2 q.2
instance rpMpS {α : Type} [Rp α] : Rp (MpS α) := ⟨fun K H v a => ∃ p kvs, v = .ref p ∧ H p = some (.dK kvs) ∧ Paired (RelS K H) kvs a.l,
  fun s ⟨p, kvs, e, h, pr⟩ => ⟨p, kvs, e, s _ _ h, Paired.imp' (fun _ _ r => ⟨r.1, Rp.mono s r.2⟩) pr⟩⟩
structure OwnS (K : PySem.W.Frag) {α : Type} [Rp α] (G H : Hp) (v : V) (p : Addr) (kvs : List (Key × V)) (a : MpS α) : Prop where
  v : v = .ref p
  g : G p = none
  h : H p = some (.dK kvs)
  p : Paired (RelS K G) kvs a.l
section
variable {K : PySem.W.Frag} {σ : St} {G H G1 H1 G0 H0 : Hp} {α β : Type} [Rp α] [Rp β] {td te ti : TE} {rest : TS} {D : Ends} {i : Nat} {a : MpS α} {v : V} {p q : Addr} {kvs : List (Key × V)}
theorem OwnS.ext (o : OwnS K G H v p kvs a) (x : Ext G H G1 H1) : OwnS K G1 H1 v p kvs a :=
  ⟨o.v, x.no p o.g (by rw [o.h]; exact fun z => nomatch z), x.hh _ _ o.h, Paired.imp' (fun _ _ r => ⟨r.1, Rp.mono x.gg r.2⟩) o.p⟩
theorem OwnS.put {ho : HO} (o : OwnS K G H v p kvs a) (h : p ≠ q) : OwnS K G (upd H q ho) v p kvs a := ⟨o.v, o.g, by rw [upd_ne h]; exact o.h, o.p⟩
theorem OwnS.tell (o : OwnS K G H v p kvs a) : Rp.rel K (upd G p (.dK kvs)) v a := ⟨p, kvs, o.v, upd_same, Paired.imp' (fun _ _ r => ⟨r.1, Rp.mono (Same.new o.g) r.2⟩) o.p⟩
theorem OwnS.over {o : HO} (h : OwnS K G H v p kvs a) (ne : p ≠ q) (hq : G q = none) : OwnS K (upd G q o) H v p kvs a :=
  ⟨h.v, by rw [upd_ne ne]; exact h.g, h.h, Paired.imp' (fun _ _ r => ⟨r.1, Rp.mono (Same.new hq) r.2⟩) h.p⟩
end
section
variable {X : Cx} {i o : Expr} {ty td : TE} {pos : Pos}
end
end L2

set_option Elab.async false
set_option linter.all false
set_option maxRecDepth 100000
set_option maxHeartbeats 4000000
namespace L2
open PySem PySem.Spec PyProof.Rows
section
variable {prog : Program} {w : World} {A : Around} {E : Value → Shared → Prop} {s : Shared}
theorem nextT_item {it t : Addr} {i : Nat} {items : Array Value} {x : Value} {Q : Value → Shared → Prop} (hit : s.heap.IsTupleIter it t i) (ht : s.heap.IsTuple t items) (hx : items[i]? = some x)
    (hQ : ∀ h', h'.IsTupleIter it t (i + 1) → Heap.SameBut it s.heap h' → Q x { s with heap := h' }) : wpAny (model prog w) A (Builtin.SmallTypes.nextOf (.ref it)) Q E s := by
  obtain ⟨o, go, co, dO⟩ := id hit
  obtain ⟨ot, gt, _, nt, dt⟩ := ht
  unfold Builtin.SmallTypes.nextOf
  refine wpAny_bind (wpAny_callSpecial?_slot (name := Str.ofString "__next__") hit.typeIs F.slot_tuple_iterator_next (wpAny_call_entry F.slot_tuple_iterator_next hit.typeIs F.entry_tuple_iterator_next ?_ (F.args_tuple_iterator_next_1 _)))
  show wpAny _ _ (field (.ref it) 0 >>= _) _ _ s; refine wpAny_bind (wpAny_field go dO (x := .ref t) rfl ?_)
  show wpAny _ _ (if (Value.ref t == Value.none) = true then _ else _) _ _ s; rw [if_neg (show ¬ ((Value.ref t == Value.none) = true) from Bool.false_ne_true)]
  show wpAny _ _ (field (.ref it) 1 >>= _) _ _ s; refine wpAny_bind (wpAny_field go dO (x := .int i 0) rfl ?_)
  show wpAny _ _ (seqItems? (.ref t) >>= _) _ _ s; refine wpAny_bind (wpAny_seqItems gt dt ?_)
  simp only [Int.toNat_natCast, hx]
  refine wpAny_bind (wpAny_setField go dO (by simp) (wpAny_pure ⟨x, rfl, wpAny_pure (hQ _ ⟨_, Heap.get?_update_self _ go (Obj.isFreed_of_fields (Obj.data_mapFields dO _)), (Obj.cls_mapFields ..).trans co, ?_⟩ (Heap.SameBut.update ..))⟩))
  rw [Obj.data_mapFields dO]
  simp [rawInt]
def ZObj (f0 f1 : Value) (TI TO : Addr) : Obj := { cls := .type "zip", dict := none, data := .fields #[f0, f1, .bool false, .ref TI, .ref TO], slots := #[] }
structure ZAp (z TI TO i1 i2 l t : Addr) : Prop where
  a : TI ≠ z ∧ TO ≠ z ∧ i1 ≠ z ∧ i2 ≠ z
  b : TI ≠ TO ∧ TI ≠ i1 ∧ TI ≠ i2 ∧ TO ≠ i1 ∧ TO ≠ i2 ∧ i1 ≠ i2
  c : l ≠ z ∧ l ≠ TO ∧ l ≠ i1 ∧ l ≠ i2
  d : t ≠ z ∧ t ≠ TO ∧ t ≠ i1 ∧ t ≠ i2
/-- a zip that has told k pairs -/
structure ZS (h : Heap) (z TI TO i1 i2 l t : Addr) (xs ys : Array Value) (k : Nat) : Prop where
  z : ∃ f0 f1, h.get? z = some (ZObj f0 f1 TI TO) ∧ (f0 = .none ∨ ∃ (T : Addr) (o : Obj), f0 = rawInt T ∧ h.get? T = some o)
  ti : IsPair h TI (.ref i1) (.ref i2)
  to : ∃ a b, IsPair h TO a b
  i1 : h.IsListIter i1 l k
  i2 : h.IsTupleIter i2 t k
  l : h.IsList l xs
  t : h.IsTuple t ys
theorem ZS.keep {h h' : Heap} {z TI TO i1 i2 l t : Addr} {xs ys : Array Value} {k : Nat} (Z : ZS h z TI TO i1 i2 l t xs ys k) (e : ∀ c o, h.get? c = some o → h'.get? c = some o) : ZS h' z TI TO i1 i2 l t xs ys k := by
  obtain ⟨⟨f0, f1, gz, hf⟩, ti, ⟨a, b, to⟩, j1, j2, hl, ht⟩ := Z
  refine ⟨⟨f0, f1, e _ _ gz, hf.imp id fun ⟨T, o, q1, q2⟩ => ⟨T, o, q1, e _ _ q2⟩⟩, e _ _ ti, ⟨a, b, e _ _ to⟩, j1.at fun o q => e _ _ q, ?_, hl.at fun o q => e _ _ q, ?_⟩
  · obtain ⟨o, g, r⟩ := j2; exact ⟨o, e _ _ g, r⟩
  · obtain ⟨o, g, r⟩ := ht; exact ⟨o, e _ _ g, r⟩
theorem wp_alive {a : Addr} {Q : Option Obj → Shared → Prop} (h : Q (s.heap.get? a) s) : wpAny (model prog w) A (loadIfAlive a) Q E s := fun Γ p hΓ => by
  show Sem.wp _ _ (.loadIfAlive a .pure) _ _ _ _
  rw [Sem.wp_loadIfAlive]
  exact h
theorem owned_busy {z TI TO T : Addr} {f1 : Value} {oT : Obj} {Q : Bool → Shared → Prop} (gz : s.heap.get? z = some (ZObj (rawInt T) f1 TI TO)) (gT : s.heap.get? T = some oT)
    (h : ∀ f1' h₁, h₁.get? z = some (ZObj (rawInt T) f1' TI TO) → Heap.SameBut z s.heap h₁ → Q false { s with heap := h₁ }) : wpAny (model prog w) A (Builtin.SmallTypes.ownedTupleIsFree (.ref z)) Q E s := by
  unfold Builtin.SmallTypes.ownedTupleIsFree
  refine wpAny_bind (wpAny_field gz rfl (x := rawInt T) rfl ?_)
  show wpAny _ _ (loadIfAlive ((T : Nat) : Int).toNat >>= _) _ _ _
  refine wpAny_bind (wp_alive ?_)
  rw [Int.toNat_natCast, gT]
  rw [if_neg (by simp)]
  refine wpAny_bind (wpAny_field gz rfl (x := f1) rfl ?_)
  dsimp only
  refine wpAny_ite_split (fun _ => ?_) fun _ => ?_
  · exact wpAny_bind (wpAny_setField_rec gz (by simp) fun h₁ z₁ s₁ => wpAny_pure (h _ h₁ z₁ s₁))
  · have e : s = { s with heap := s.heap } := by cases s; rfl
    have q := h f1 s.heap gz (Heap.SameBut.refl z s.heap)
    rw [← e] at q
    exact wpAny_pure q
theorem zip_item {z TI TO i1 i2 l t : Addr} {xs ys : Array Value} {k : Nat} {x y : Value} {Q : Option Value → Shared → Prop} (D : ZAp z TI TO i1 i2 l t) (Z : ZS s.heap z TI TO i1 i2 l t xs ys k) (hx : xs[k]? = some x) (hy : ys[k]? = some y)
    (hQ : ∀ h', ZS h' z TI TO i1 i2 l t xs ys (k + 1) → IsPair h' s.heap.objs.size x y → (∀ c o, c ∉ [z, TO, i1, i2] → s.heap.get? c = some o → h'.get? c = some o) → Q (some (.ref s.heap.objs.size)) { s with heap := h' }) :
    wpAny (model prog w) A (pyNext (.ref z)) Q E s := by
  obtain ⟨⟨f0, f1, gz, hf⟩, ti, ⟨a, b, to⟩, j1, j2, hl, ht⟩ := Z
  obtain ⟨⟨d1, d2, d3, d4⟩, ⟨d5, d6, d7, d8, d9, d10⟩, ⟨d11, d12, d13, d14⟩, ⟨d15, d16, d17, d18⟩⟩ := D
  have hT : s.TypeIs (.ref z) "zip" := ⟨_, gz, rfl⟩
  have tk : ∀ {h h' : Heap} {c : Addr} {j : Nat}, h.IsTupleIter i2 t j → Heap.SameBut c h h' → i2 ≠ c → h'.IsTupleIter i2 t j := fun ⟨o, g, r⟩ e n => ⟨o, (e.2 _ n).trans g, r⟩
  have tt : ∀ {h h' : Heap} {c : Addr}, h.IsTuple t ys → Heap.SameBut c h h' → t ≠ c → h'.IsTuple t ys := fun ⟨o, g, r⟩ e n => ⟨o, (e.2 _ n).trans g, r⟩
  unfold pyNext
  refine wpAny_bind (wpAny_attempt (wpAny_callSpecial?_slot (name := Str.ofString "__next__") hT F.slot_zip_next (wpAny_call_entry F.slot_zip_next hT F.entry_zip_next ?_ (F.args_zip_next_1 _))))
  show wpAny _ _ (field (.ref z) 2 >>= _) _ _ _; refine wpAny_bind (wpAny_field gz rfl (x := .bool false) rfl ?_)
  show wpAny _ _ (field (.ref z) 3 >>= _) _ _ _; refine wpAny_bind (wpAny_field gz rfl (x := .ref TI) rfl ?_)
  refine wpAny_bind (wpAny_seqItems ti rfl ?_); show wpAny _ _ (Builtin.SmallTypes.ownedTupleIsFree (.ref z) >>= _) _ _ _
  rcases hf with rfl | ⟨T, oT, rfl, gT⟩
  · refine wpAny_bind ?_
    unfold Builtin.SmallTypes.ownedTupleIsFree
    refine wpAny_bind (wpAny_field gz rfl (x := .none) rfl (wpAny_pure ?_)); simp only [if_true]
    refine wpAny_bind (wpAny_rule (wpAny_bind (wpAny_field gz rfl (x := .ref TO) rfl ?_)))
    refine wpAny_bind (wpAny_setField_rec gz (by simp) fun h₁ z₁ s₁ => ?_)
    replace z₁ : h₁.get? z = some (ZObj .ellipsis f1 TI TO) := z₁
    refine wpAny_bind ?_
    simp only [List.zipIdx_cons, List.zipIdx_nil, List.forIn_cons, List.forIn_nil]
    refine wpAny_bind (wpAny_bind (wpAny_onRaise ?_)); show wpAny _ _ (Builtin.SmallTypes.nextOf (.ref i1) >>= _) _ _ _
    refine wpAny_bind (wpAny_nextOf_list_item (s := { s with heap := h₁ }) (j1.extBut s₁.extBut d3) (hl.extBut s₁.extBut d11) hx fun h₂ j₂ s₂ => wpAny_pure ?_)
    replace s₂ : Heap.SameBut i1 h₁ h₂ := s₂
    have to₂ : IsPair h₂ TO a b := s₂.extBut _ _ d8 (s₁.extBut _ _ d2 to)
    refine wpAny_bind (wpAny_seqItems (s := { s with heap := h₂ }) to₂ rfl (wpAny_bind (wpAny_updateSeq_pair (s := { s with heap := h₂ }) to₂ fun h₃ to₃ s₃ => ?_)))
    replace to₃ : IsPair h₃ TO x b := to₃
    replace s₃ : Heap.SameBut TO h₂ h₃ := s₃
    refine wpAny_bind (wpAny_letGo (wpAny_pure ?_))
    refine wpAny_bind (wpAny_bind (wpAny_onRaise ?_)); show wpAny _ _ (Builtin.SmallTypes.nextOf (.ref i2) >>= _) _ _ _
    refine wpAny_bind (nextT_item (s := { s with heap := h₃ }) (tk (tk (tk j2 s₁ d4) s₂ (Ne.symm d10)) s₃ (Ne.symm d9)) (tt (tt (tt ht s₁ d15) s₂ d17) s₃ d16) hy fun h₄ j₄ s₄ => wpAny_pure ?_)
    replace s₄ : Heap.SameBut i2 h₃ h₄ := s₄
    have to₄ : IsPair h₄ TO x b := s₄.extBut _ _ d9 to₃
    refine wpAny_bind (wpAny_seqItems (s := { s with heap := h₄ }) to₄ rfl (wpAny_bind (wpAny_updateSeq_pair (s := { s with heap := h₄ }) to₄ fun h₅ to₅ s₅ => ?_)))
    replace to₅ : IsPair h₅ TO x y := to₅
    replace s₅ : Heap.SameBut TO h₄ h₅ := s₅
    refine wpAny_bind (wpAny_letGo (wpAny_pure (wpAny_pure ?_)))
    refine wpAny_bind (wpAny_seqItems (s := { s with heap := h₅ }) to₅ rfl (wpAny_bind (wpAny_newTuple ?_)))
    have hsz : h₅.objs.size = s.heap.objs.size := by rw [s₅.1, s₄.1, s₃.1, s₂.1, s₁.1]
    have z₅ : h₅.get? z = some (ZObj .ellipsis f1 TI TO) := s₅.extBut _ _ (Ne.symm d2) (s₄.extBut _ _ (Ne.symm d4) (s₃.extBut _ _ (Ne.symm d2) (s₂.extBut _ _ (Ne.symm d3) z₁)))
    have zl : z < h₅.objs.size := Heap.lt_size z₅
    show wpAny _ _ (Builtin.SmallTypes.ownedTupleHandOut (.ref z) (.ref h₅.objs.size) >>= _) _ _ _
    refine wpAny_bind ?_
    unfold Builtin.SmallTypes.ownedTupleHandOut
    have z₆ : (h₅.push { cls := .type "tuple", data := .seq #[x, y] }).get? z = some (ZObj .ellipsis f1 TI TO) := Heap.get?_push_of_some _ z₅
    refine wpAny_bind (wpAny_setField_rec (s := { s with heap := h₅.push { cls := .type "tuple", data := .seq #[x, y] } }) z₆ (by simp) fun h₇ z₇ s₇ => ?_)
    replace s₇ : Heap.SameBut z (h₅.push { cls := .type "tuple", data := .seq #[x, y] }) h₇ := s₇
    refine wpAny_setField_rec (s := { s with heap := h₇ }) z₇ (by simp) fun h₈ z₈ s₈ => ?_
    replace z₈ : h₈.get? z = some (ZObj (rawInt h₅.objs.size) (.bool false) TI TO) := z₈
    replace s₈ : Heap.SameBut z h₇ h₈ := s₈
    have up : ∀ c o, c ≠ z → h₅.get? c = some o → h₈.get? c = some o := fun c o c1 e => s₈.extBut _ _ c1 (s₇.extBut _ _ c1 (Heap.get?_push_of_some _ e))
    have T₈ : IsPair h₈ h₅.objs.size x y := s₈.extBut _ _ (Nat.ne_of_gt zl) (s₇.extBut _ _ (Nat.ne_of_gt zl) (Heap.get?_push_size _ rfl))
    refine wpAny_pure ⟨_, rfl, wpAny_pure ?_⟩
    show Q (some (.ref h₅.objs.size)) _
    rw [hsz] at z₈ T₈ ⊢
    have kp : ∀ c o, c ∉ [z, TO, i1, i2] → s.heap.get? c = some o → h₈.get? c = some o := fun c o hc e => by
      simp only [List.mem_cons, List.not_mem_nil, or_false, not_or] at hc
      exact up c o hc.1 (s₅.extBut _ _ hc.2.1 (s₄.extBut _ _ hc.2.2.2 (s₃.extBut _ _ hc.2.1 (s₂.extBut _ _ hc.2.2.1 (s₁.extBut _ _ hc.1 e)))))
    refine hQ h₈ ⟨⟨_, _, z₈, .inr ⟨_, _, rfl, T₈⟩⟩, kp _ _ (by simp [d1, d5, d6, d7]) ti, ⟨x, y, up _ _ d2 to₅⟩, ?_, ?_, ?_, ?_⟩ T₈ kp
    · exact (((j₂.extBut s₃.extBut (Ne.symm d8)).extBut s₄.extBut d10).extBut s₅.extBut (Ne.symm d8)).at fun o e => up _ o d3 e
    · obtain ⟨o, g, r⟩ := tk j₄ s₅ (Ne.symm d9)
      exact ⟨o, up _ _ d4 g, r⟩
    · exact hl.at fun o e => kp _ _ (by simp [d11, d12, d13, d14]) e
    · obtain ⟨o, g, r⟩ := ht
      exact ⟨o, kp _ _ (by simp [d15, d16, d17, d18]) g, r⟩
  · refine wpAny_bind (owned_busy gz gT fun f1' h₁ z₁ s₁ => ?_)
    simp only [Bool.false_eq_true, if_false]
    rw [← Array.forIn_toList]
    simp only [List.forIn_cons, List.forIn_nil]
    refine wpAny_bind (wpAny_bind (wpAny_bind (wpAny_holding ?_))); show wpAny _ _ (Builtin.SmallTypes.nextOf (.ref i1) >>= _) _ _ _
    refine wpAny_bind (wpAny_nextOf_list_item (s := { s with heap := h₁ }) (j1.extBut s₁.extBut d3) (hl.extBut s₁.extBut d11) hx fun h₂ j₂ s₂ => wpAny_pure (wpAny_pure ?_))
    replace s₂ : Heap.SameBut i1 h₁ h₂ := s₂
    dsimp only
    refine wpAny_bind (wpAny_bind (wpAny_holding ?_)); show wpAny _ _ (Builtin.SmallTypes.nextOf (.ref i2) >>= _) _ _ _
    refine wpAny_bind (nextT_item (s := { s with heap := h₂ }) (tk (tk j2 s₁ d4) s₂ (Ne.symm d10)) (tt (tt ht s₁ d15) s₂ d17) hy fun h₃ j₃ s₃ => wpAny_pure (wpAny_pure ?_))
    replace s₃ : Heap.SameBut i2 h₂ h₃ := s₃
    dsimp only
    refine wpAny_pure (wpAny_bind (wpAny_newTuple ?_ (by show 2 ≤ sizeLine; rw [sizeLine_eq]; omega)))
    have hsz : h₃.objs.size = s.heap.objs.size := by rw [s₃.1, s₂.1, s₁.1]
    refine wpAny_pure ⟨_, rfl, wpAny_pure ?_⟩
    show Q (some (.ref h₃.objs.size)) _
    have T₄ : IsPair (h₃.push { cls := .type "tuple", data := .seq #[x, y] }) h₃.objs.size x y := Heap.get?_push_size _ rfl
    have up : ∀ c o, h₃.get? c = some o → (h₃.push { cls := .type "tuple", data := .seq #[x, y] }).get? c = some o := fun c o e => Heap.get?_push_of_some _ e
    have z₃ : h₃.get? z = some (ZObj (rawInt T) f1' TI TO) := s₃.extBut _ _ (Ne.symm d4) (s₂.extBut _ _ (Ne.symm d3) z₁)
    have kp : ∀ c o, c ∉ [z, TO, i1, i2] → s.heap.get? c = some o → (h₃.push { cls := .type "tuple", data := .seq #[x, y] }).get? c = some o := fun c o hc e => by
      simp only [List.mem_cons, List.not_mem_nil, or_false, not_or] at hc
      exact up c o (s₃.extBut _ _ hc.2.2.2 (s₂.extBut _ _ hc.2.2.1 (s₁.extBut _ _ hc.1 e)))
    have any : ∀ c o, s.heap.get? c = some o → ∃ o', h₃.get? c = some o' := fun c o e => by
      have e1 : ∃ o', h₁.get? c = some o' := by
        by_cases q : c = z
        · rw [q]; exact ⟨_, z₁⟩
        · exact ⟨o, s₁.extBut _ _ q e⟩
      obtain ⟨o1, e1⟩ := e1
      have e2 : ∃ o', h₂.get? c = some o' := by
        by_cases q : c = i1
        · rw [q]; obtain ⟨o', g, _⟩ := j₂; exact ⟨o', g⟩
        · exact ⟨o1, s₂.extBut _ _ q e1⟩
      obtain ⟨o2, e2⟩ := e2
      by_cases q : c = i2
      · rw [q]; obtain ⟨o', g, _⟩ := j₃; exact ⟨o', g⟩
      · exact ⟨o2, s₃.extBut _ _ q e2⟩
    obtain ⟨oT', gT'⟩ := any T _ gT
    rw [hsz] at T₄ ⊢
    refine hQ _ ⟨⟨_, _, up _ _ z₃, .inr ⟨T, oT', rfl, up _ _ gT'⟩⟩, kp _ _ (by simp [d1, d5, d6, d7]) ti, ⟨a, b, ?_⟩, ?_, ?_, ?_, ?_⟩ T₄ kp
    · exact up _ _ (s₃.extBut _ _ d9 (s₂.extBut _ _ d8 (s₁.extBut _ _ d2 to)))
    · exact (j₂.extBut s₃.extBut d10).at fun o e => up _ o e
    · obtain ⟨o, g, r⟩ := j₃
      exact ⟨o, up _ _ g, r⟩
    · exact hl.at fun o e => kp _ _ (by simp [d11, d12, d13, d14]) e
    · obtain ⟨o, g, r⟩ := ht
      exact ⟨o, kp _ _ (by simp [d15, d16, d17, d18]) g, r⟩
theorem zip_end {z TI TO i1 i2 l t : Addr} {xs ys : Array Value} {k : Nat} {Q : Option Value → Shared → Prop} (hh : A.handled = none) (D : ZAp z TI TO i1 i2 l t) (Z : ZS s.heap z TI TO i1 i2 l t xs ys k) (hx : xs[k]? = none)
    (hQ : ∀ h', (∀ c o, c ∉ [z, TO, i1, i2] → s.heap.get? c = some o → h'.get? c = some o) → Q none { s with heap := h' }) : wpAny (model prog w) A (pyNext (.ref z)) Q E s := by
  obtain ⟨⟨f0, f1, gz, hf⟩, ti, ⟨a, b, to⟩, j1, j2, hl, ht⟩ := Z
  obtain ⟨⟨d1, d2, d3, d4⟩, ⟨d5, d6, d7, d8, d9, d10⟩, ⟨d11, d12, d13, d14⟩, ⟨d15, d16, d17, d18⟩⟩ := D
  have hT : s.TypeIs (.ref z) "zip" := ⟨_, gz, rfl⟩
  unfold pyNext
  refine wpAny_bind (wpAny_attempt (wpAny_callSpecial?_slot (name := Str.ofString "__next__") hT F.slot_zip_next (wpAny_call_entry F.slot_zip_next hT F.entry_zip_next ?_ (F.args_zip_next_1 _))))
  show wpAny _ _ (field (.ref z) 2 >>= _) _ _ _; refine wpAny_bind (wpAny_field gz rfl (x := .bool false) rfl ?_)
  show wpAny _ _ (field (.ref z) 3 >>= _) _ _ _; refine wpAny_bind (wpAny_field gz rfl (x := .ref TI) rfl ?_)
  refine wpAny_bind (wpAny_seqItems ti rfl ?_); show wpAny _ _ (Builtin.SmallTypes.ownedTupleIsFree (.ref z) >>= _) _ _ _
  rcases hf with rfl | ⟨T, oT, rfl, gT⟩
  · refine wpAny_bind ?_
    unfold Builtin.SmallTypes.ownedTupleIsFree
    refine wpAny_bind (wpAny_field gz rfl (x := .none) rfl (wpAny_pure ?_)); simp only [if_true]
    refine wpAny_bind (wpAny_rule (wpAny_bind (wpAny_field gz rfl (x := .ref TO) rfl ?_)))
    refine wpAny_bind (wpAny_setField_rec gz (by simp) fun h₁ z₁ s₁ => ?_)
    replace z₁ : h₁.get? z = some (ZObj .ellipsis f1 TI TO) := z₁
    refine wpAny_bind ?_
    simp only [List.zipIdx_cons, List.zipIdx_nil, List.forIn_cons, List.forIn_nil]
    refine wpAny_bind (wpAny_bind (wpAny_onRaise ?_)); show wpAny _ _ (Builtin.SmallTypes.nextOf (.ref i1) >>= _) _ _ _
    refine wpAny_bind (wpAny_nextOf_list_end (s := { s with heap := h₁ }) hh (j1.extBut s₁.extBut d3) (hl.extBut s₁.extBut d11) hx fun h₂ e s₂ he => ?_)
    replace s₂ : Heap.ExtBut i1 h₁ h₂ := s₂
    obtain ⟨oe, ge, ce⟩ := he
    have z₂ : h₂.get? z = some (ZObj .ellipsis f1 TI TO) := s₂ _ _ (Ne.symm d3) z₁
    have ez : e ≠ z := fun q => by subst q; rw [z₂] at ge; cases ge; have ce : Value.type "zip" = Value.type "StopIteration" := ce; simp at ce
    refine wpAny_setField_rec (s := { s with heap := h₂ }) z₂ (by simp) fun h₃ _ s₃ => ?_
    replace s₃ : Heap.SameBut z h₂ h₃ := s₃
    refine wpAny_bind (wpAny_isInstance (T := "StopIteration") (b := true) ⟨oe, s₃.extBut _ _ ez ge, ce⟩ isSubtype_stop (wpAny_pure (hQ h₃ fun c o hc q => ?_)))
    simp only [List.mem_cons, List.not_mem_nil, or_false, not_or] at hc
    exact s₃.extBut _ _ hc.1 (s₂ _ _ hc.2.2.1 (s₁.extBut _ _ hc.1 q))
  · refine wpAny_bind (owned_busy gz gT fun f1' h₁ z₁ s₁ => ?_)
    simp only [Bool.false_eq_true, if_false]
    rw [← Array.forIn_toList]
    simp only [List.forIn_cons, List.forIn_nil]
    refine wpAny_bind (wpAny_bind (wpAny_bind (wpAny_holding ?_))); show wpAny _ _ (Builtin.SmallTypes.nextOf (.ref i1) >>= _) _ _ _
    refine wpAny_bind (wpAny_nextOf_list_end (s := { s with heap := h₁ }) hh (j1.extBut s₁.extBut d3) (hl.extBut s₁.extBut d11) hx fun h₂ e s₂ he => ?_)
    replace s₂ : Heap.ExtBut i1 h₁ h₂ := s₂
    obtain ⟨oe, ge, ce⟩ := he
    refine wpAny_bind (wpAny_isInstance (s := { s with heap := h₂ }) (T := "StopIteration") (b := true) ⟨oe, ge, ce⟩ isSubtype_stop (wpAny_pure (hQ h₂ fun c o hc q => ?_)))
    simp only [List.mem_cons, List.not_mem_nil, or_false, not_or] at hc
    exact s₂ _ _ hc.2.2.1 (s₁.extBut _ _ hc.1 q)
end
end L2

set_option Elab.async false
set_option linter.all false
set_option maxRecDepth 100000
set_option maxHeartbeats 4000000
namespace L2
open PySem PySem.Spec PyProof.Rows
theorem slot_zip_ga : Slot "zip" "__getattribute__" "zip.__getattribute__" :=
  .of (owner := "zip") (n := "__getattribute__") (by rw [typeLookup_type, builtinLookup_eq_fast]; kernel_rfl) (by decide +kernel) (by decide +kernel) (by decide +kernel) (by first | exact .inl (by decide +kernel) | exact .inr (by decide +kernel)) (by rw [isSubtype_type]; kernel_rfl)
theorem entry_zip_ga : entryFor table "zip.__getattribute__" = some Builtin.«object.__getattribute__» := entryFor_alias (id' := "object.__getattribute__") (by kernel_rfl) rfl (by decide +kernel) (by kernel_rfl)
theorem args_zip_ga (a b : Value) : argsOk "zip.__getattribute__" ⟨[a, b], []⟩ := by unfold argsOk; kernel_rfl
theorem zip_no_keys : typeLookup (.type "zip") "keys" = pure none := by rw [typeLookup_type, builtinLookup_eq_fast]; kernel_rfl
theorem zip_no_getattr : typeLookup (.type "zip") "__getattr__" = pure none := by rw [typeLookup_type, builtinLookup_eq_fast]; kernel_rfl
section
variable {prog : Program} {w : World} {A : Around} {E : Value → Shared → Prop} {s : Shared} {z TI TO : Addr} {f0 f1 : Value}
theorem zip_misses (u : Tok) {P : PySem.Fin → Shared → Prop} {R : Value → Shared → Prop} (hh : A.handled = none) (hx : s.heap.get? z = some (ZObj f0 f1 TI TO)) (hR : ∀ h' tk e, Heap.NewAttrErr s.heap h' e (.ref z) "keys" → R (.ref e) { s with heap := h', toks := tk }) :
    wpAny (model prog w) A (Builtin.«object.__getattribute__» ⟨[.ref z, .str "keys" u], []⟩) P R s := by
  obtain ⟨h, g, d, t, os⟩ := s
  have hT : (⟨h, g, d, t, os⟩ : Shared).TypeIs (.ref z) "zip" := ⟨_, hx, rfl⟩
  have q1 := zip_no_keys
  unfold ZObj at hx
  unfold Builtin.«object.__getattribute__»
  repeat (any_goals (first | assumption | wp_step))
  exact wpAny_raiseAttrError hh hR (attrMsg_fits (by decide +kernel) (by decide))
theorem zip_keys_none {Q : Option Value → Shared → Prop} (hh : A.handled = none) (hx : s.heap.get? z = some (ZObj f0 f1 TI TO)) (hQ : ∀ h' tk, (∀ b o, s.heap.get? b = some o → h'.get? b = some o) → Q none { s with heap := h', toks := tk }) :
    wpAny (model prog w) A (getAttr? (.ref z) "keys") Q E s := by
  obtain ⟨h, g, d, t, os⟩ := s
  have hT : (⟨h, g, d, t + 1, os⟩ : Shared).TypeIs (.ref z) "zip" := ⟨_, hx, rfl⟩
  have q1 := sub_AttributeError
  have q3 := slot_zip_ga.lookup
  have q4 := slot_zip_ga.bind (.ref z)
  have q5 := zip_no_getattr
  unfold getAttr? getAttrBy? getAttrBy
  repeat (any_goals (first | assumption | wp_step))
  refine codeAny_call_builtin slot_zip_ga.plain entry_zip_ga (slot_zip_ga.check _ _ _ _ _ _ _ _ hT (args_zip_ga _ _) (zip_misses (s := ⟨h, g, d, t + 1, os⟩) t (by simpa using hh) hx fun h' tk e hx' => ?_))
  obtain ⟨t', u', he⟩ := hx'.there
  show wpAny _ _ (getattributeRaised _ _ _ _ _ _ _) _ _ _
  unfold getattributeRaised
  repeat (any_goals (first | assumption | wp_step))
  exact hQ h' tk hx'.keeps
end
end L2

set_option Elab.async false
set_option linter.all false
set_option maxRecDepth 100000
set_option maxHeartbeats 4000000
namespace L2
open PySem PySem.Spec PyProof.Rows
theorem entry_du_loop : entryFor table "dict.update.loop" = some Builtin.«dict.update.loop» := entryFor_of_tree (by kernel_rfl)
theorem plain_du_loop : plainId "dict.update.loop" = true := by decide +kernel
section
variable {prog : Program} {w : World} {A : Around} {E : Value → Shared → Prop} {s : Shared}
/-- dict(zip): the pairs, one by one -/
def zipD (ks : List (Key × Value)) (m : List (Key × Value)) : List (Key × Value) := ks.foldl (fun m q => stored m q.1 q.2) m
theorem stored_len {m : List (Key × Value)} {k : Key} {v : Value} : (stored m k v).length ≤ m.length + 1 := by
  unfold stored
  split
  · rw [List.length_map]; exact Nat.le_succ _
  · rw [List.length_append]; exact Nat.le_refl _
theorem du_loop {R : Result → Shared → Prop} {z TI TO i1 i2 l t dd : Addr} {xs ys : Array Value} {ks : List Key} (hh : A.handled = none) (D : ZAp z TI TO i1 i2 l t) (hd : dd ∉ [z, TI, TO, i1, i2, l, t]) (hl : xs.size = ks.length) (hly : ys.size = ks.length) (hk : ∀ (i : Nat) (k : Key) (v : Value), ks[i]? = some k → xs[i]? = some v → keyIs k v = true) (hb : ks.length < 4000) :
    ∀ (n i : Nat) (s : Shared) (m : List (Key × Value)), ks.length - i = n → i ≤ ks.length → m.length ≤ i → ZS s.heap z TI TO i1 i2 l t xs ys i → s.heap.DictOf (mixKind prog w) dd m →
      (∀ h' tk, (∀ c o, c ∉ [z, TO, i1, i2, dd] → s.heap.get? c = some o → h'.get? c = some o) → h'.DictOf (mixKind prog w) dd (zipD ((ks.zip ys.toList).drop i) m) → R (.ok (.ret .none)) { s with heap := h', toks := tk }) →
      codeAny (model prog w) A (.builtin "dict.update.loop" ⟨[.ref dd, .ref z, rawInt i, .none], []⟩) R s := by
  intro n
  induction n with
  | zero =>
    intro i s m e1 e2 e3 Z Dd hR
    have ei : i = ks.length := by omega
    subst ei
    refine codeAny_builtin entry_du_loop ?_; rw [Around.under_plainId plain_du_loop _]
    show wpAny _ A.in1 (pyNext (.ref z) >>= _) _ _ s
    refine wpAny_bind (zip_end (by simpa using hh) D Z (Array.getElem?_eq_none (by omega)) fun h' kp => ?_)
    show wpAny _ A.in1 (Builtin.Dict.addKeywords dd [] >>= _) _ _ _
    refine wpAny_bind (wpAny_pure (wpAny_pure (hR h' s.toks (fun c o hc e => kp c o (fun q => hc ?_) e) ?_)))
    · simp only [List.mem_cons, List.not_mem_nil, or_false] at q ⊢
      rcases q with q | q | q | q <;> simp [q]
    · have ed : (ks.zip ys.toList).drop ks.length = [] := List.drop_of_length_le (by rw [List.length_zip]; exact Nat.min_le_left _ _)
      rw [ed]
      obtain ⟨o, es, ep, g, r⟩ := Dd
      refine ⟨o, es, ep, kp _ _ (fun q => hd ?_) g, r⟩
      simp only [List.mem_cons, List.not_mem_nil, or_false] at q ⊢
      rcases q with q | q | q | q <;> simp [q]
  | succ n ih =>
    intro i s m e1 e2 e3 Z Dd hR
    have hi : i < ks.length := by omega
    have hx : xs[i]? = some xs[i] := Array.getElem?_eq_getElem (by omega)
    have hy : ys[i]? = some ys[i] := Array.getElem?_eq_getElem (by omega)
    have hki : keyIs ks[i] xs[i] = true := hk i _ _ (List.getElem?_eq_getElem hi) hx
    refine codeAny_builtin entry_du_loop ?_; rw [Around.under_plainId plain_du_loop _]
    show wpAny _ A.in1 (pyNext (.ref z) >>= _) _ _ s
    refine wpAny_bind (zip_item D Z hx hy fun h₁ Z₁ P₁ kp => ?_)
    have Dd₁ : h₁.DictOf (mixKind prog w) dd m := by
      obtain ⟨o, es, ep, g, r⟩ := Dd
      refine ⟨o, es, ep, kp _ _ (fun q => hd ?_) g, r⟩
      simp only [List.mem_cons, List.not_mem_nil, or_false] at q ⊢
      rcases q with q | q | q | q <;> simp [q]
    show wpAny _ A.in1 (holding [Value.ref s.heap.objs.size] _ >>= _) _ _ _
    refine wpAny_bind (wpAny_holding (wpAny_bind (wpAny_tryCatch ?_)))
    unfold Builtin.Dict.pairItems
    refine wpAny_bind (wpAny_typeOf (T := "tuple") ⟨_, P₁, rfl⟩ ?_)
    have ht : (Value.type "tuple" == Value.type "tuple") = true := by rfl
    rw [if_pos (by rw [ht]; simp)]
    refine wpAny_bind (wpAny_seqItems (s := { s with heap := h₁ }) P₁ rfl (wpAny_pure ?_))
    dsimp only
    show wpAny _ A.in1 (holding [xs[i], ys[i]] (dictSet dd xs[i] ys[i])) _ _ _
    refine wpAny_holding (wpAny_dictSet_pairs (s := { s with heap := h₁ }) (knd := mixKind prog w) (k := ks[i]) hki Dd₁ (fun h₂ D₂ s₂ => ?_) (by rw [sizeLine_eq]; omega))
    replace s₂ : Heap.SameBut dd h₁ h₂ := s₂
    have dne : ∀ c, c ∈ [z, TI, TO, i1, i2, l, t] → c ≠ dd := fun c hc e => hd (e ▸ hc)
    have Z₂ : ZS h₂ z TI TO i1 i2 l t xs ys (i + 1) := by
      obtain ⟨⟨f0, f1, gz, hf⟩, ti, ⟨a, b, to⟩, j1, j2, hl', ht'⟩ := Z₁
      have kk : ∀ c, c ∈ [z, TI, TO, i1, i2, l, t] → ∀ o, h₁.get? c = some o → h₂.get? c = some o := fun c hc o e => (s₂.2 c (dne c hc)).trans e
      have hf' : f0 = .none ∨ ∃ (T : Addr) (o : Obj), f0 = rawInt T ∧ h₂.get? T = some o := by
        rcases hf with q | ⟨T, o, q1, q2⟩
        · exact .inl q
        · by_cases q : T = dd
          · obtain ⟨o', _, _, g', _⟩ := D₂
            exact .inr ⟨T, o', q1, by rw [q]; exact g'⟩
          · exact .inr ⟨T, o, q1, (s₂.2 T q).trans q2⟩
      refine ⟨⟨f0, f1, kk _ (by simp) _ gz, hf'⟩, kk _ (by simp) _ ti, ⟨a, b, kk _ (by simp) _ to⟩, j1.at fun o q => kk _ (by simp) _ q, ?_, hl'.at fun o q => kk _ (by simp) _ q, ?_⟩
      · obtain ⟨o, g, r⟩ := j2; exact ⟨o, kk _ (by simp) _ g, r⟩
      · obtain ⟨o, g, r⟩ := ht'; exact ⟨o, kk _ (by simp) _ g, r⟩
    refine wpAny_pure ⟨plainId_quiet plain_du_loop _, ih (i + 1) _ _ (by omega) hi (Nat.le_trans stored_len (by omega)) Z₂ D₂ fun h' tk kp' Df => ?_⟩
    refine hR h' tk (fun c o hc e => kp' c o hc ?_) ?_
    · have hc' : c ∉ [z, TO, i1, i2] := fun q => hc (by
        simp only [List.mem_cons, List.not_mem_nil, or_false] at q ⊢
        rcases q with q | q | q | q <;> simp [q])
      have hcd : c ≠ dd := fun q => hc (by simp [q])
      exact (s₂.2 c hcd).trans (kp c o hc' e)
    · have hq : ys.toList.length = ys.size := rfl
      have hz : i < (ks.zip ys.toList).length := by rw [List.length_zip, hq]; omega
      have ed : (ks.zip ys.toList).drop i = (ks[i], ys[i]) :: (ks.zip ys.toList).drop (i + 1) := by
        rw [List.drop_eq_getElem_cons hz, List.getElem_zip]
        simp
      rw [ed]
      exact Df
end
end L2

set_option Elab.async false
set_option linter.all false
set_option maxRecDepth 100000
set_option maxHeartbeats 4000000
namespace L2
open PySem PySem.Spec PyProof.Rows
abbrev zT1 (h : Heap) (l : Addr) : Heap := h.push { cls := .type "list_iterator", data := .fields #[.ref l, .int 0 0] }
abbrev zT2 (h : Heap) (l t : Addr) : Heap := (zT1 h l).push { cls := .type "tuple_iterator", data := .fields #[.ref t, .int 0 0] }
abbrev zT3 (h : Heap) (l t : Addr) : Heap := (zT2 h l t).push { cls := .type "tuple", data := .seq #[.ref h.objs.size, .ref (zT1 h l).objs.size] }
abbrev zT4 (h : Heap) (l t : Addr) : Heap := (zT3 h l t).push { cls := .type "tuple", data := .seq #[.none, .none] }
abbrev zT5 (h : Heap) (l t : Addr) : Heap := (zT4 h l t).push { cls := .type "zip", data := .fields #[.none, .bool false, .bool false, .ref (zT2 h l t).objs.size, .ref (zT3 h l t).objs.size] }
theorem meets_zipT (l t : Addr) (xs ys : Array Value) : Meets (Builtin.«zip.__new__» ⟨[.type "zip", .ref l, .ref t], []⟩) (fun _ R s => s.heap.IsList l xs ∧ s.heap.IsTuple t ys ∧ R (.ok (.ret (.ref (zT4 s.heap l t).objs.size))) { s with heap := zT5 s.heap l t }) :=
  .of_wp fun prog w A R s h => by
    obtain ⟨hp, g, d, tk, os⟩ := s; obtain ⟨h1, h2, h⟩ := h
    have hsub := sub_zip
    have q1 : Heap.IsList (Shared.heap ⟨hp, g, d, tk, os⟩) l xs := h1
    have q2 : Heap.IsTuple (Shared.heap ⟨hp.push { cls := .type "list_iterator", data := .fields #[.ref l, .int 0 0] }, g, d, tk, os⟩) t ys := Heap.IsTuple.push h2 _
    wp_walk using wpAny_pyIter_list q1, wpAny_pyIter_tuple q2
    exact ⟨_, rfl, h⟩
section
variable {prog : Program} {w : World} {A : Around} {E : Value → Shared → Prop} {s : Shared}
theorem call_zipT {l t : Addr} {xs ys : Array Value} {Q : Value → Shared → Prop} (hl : s.heap.IsList l xs) (ht : s.heap.IsTuple t ys)
    (h : ∀ h', ZS h' (s.heap.objs.size + 4) (s.heap.objs.size + 2) (s.heap.objs.size + 3) s.heap.objs.size (s.heap.objs.size + 1) l t xs ys 0 → h'.objs.size = s.heap.objs.size + 5 → (∀ c o, s.heap.get? c = some o → h'.get? c = some o) → Q (.ref (s.heap.objs.size + 4)) { s with heap := h' }) :
    wpAny (model prog w) A (call (.type "zip") [.ref l, .ref t]) Q E s := by
  refine callType_new F.called_zip (by decide) (F.typeCall_zip_2 _ _) (F.newCall_zip_2 _ _) (fun obj => F.args_object_init_3 obj _ _) F.entry_zip_new (meets_zipT l t xs ys) ⟨hl, ht, ?_⟩
  have z1 : (zT1 s.heap l).objs.size = s.heap.objs.size + 1 := Heap.size_push ..
  have z2 : (zT2 s.heap l t).objs.size = s.heap.objs.size + 2 := by rw [Heap.size_push, z1]
  have z3 : (zT3 s.heap l t).objs.size = s.heap.objs.size + 3 := by rw [Heap.size_push, z2]
  have z4 : (zT4 s.heap l t).objs.size = s.heap.objs.size + 4 := by rw [Heap.size_push, z3]
  have z5 : (zT5 s.heap l t).objs.size = s.heap.objs.size + 5 := by rw [Heap.size_push, z4]
  have g5 : (zT5 s.heap l t).get? (zT4 s.heap l t).objs.size = some _ := Heap.get?_push_size _ rfl
  have g4 : (zT5 s.heap l t).get? (zT3 s.heap l t).objs.size = some _ := Heap.get?_push_of_some _ (Heap.get?_push_size _ rfl)
  have g3 : (zT5 s.heap l t).get? (zT2 s.heap l t).objs.size = some _ := Heap.get?_push_of_some _ (Heap.get?_push_of_some _ (Heap.get?_push_size _ rfl))
  have g2 : (zT5 s.heap l t).get? (zT1 s.heap l).objs.size = some _ := Heap.get?_push_of_some _ (Heap.get?_push_of_some _ (Heap.get?_push_of_some _ (Heap.get?_push_size _ rfl)))
  have g1 : (zT5 s.heap l t).get? s.heap.objs.size = some _ := Heap.get?_push_of_some _ (Heap.get?_push_of_some _ (Heap.get?_push_of_some _ (Heap.get?_push_of_some _ (Heap.get?_push_size _ rfl))))
  have kp : ∀ c o, s.heap.get? c = some o → (zT5 s.heap l t).get? c = some o := fun c o x => Heap.get?_push_of_some _ (Heap.get?_push_of_some _ (Heap.get?_push_of_some _ (Heap.get?_push_of_some _ (Heap.get?_push_of_some _ x))))
  show _ ∧ _
  rw [z2, z3, z4] at g5; rw [z1, z2] at g3; rw [z3] at g4; rw [z1] at g2; rw [z4]
  refine ⟨⟨_, g5, rfl⟩, h _ ⟨⟨.none, .bool false, g5, .inl rfl⟩, g3, ⟨_, _, g4⟩, ⟨_, g1, rfl, rfl⟩, ⟨_, g2, rfl, rfl⟩, hl.at fun o q => kp _ _ q, ?_⟩ z5 kp⟩
  obtain ⟨o, g, r⟩ := ht
  exact ⟨o, kp _ _ g, r⟩
theorem iter_zip {z TI TO : Addr} {f0 f1 : Value} {Q : Value → Shared → Prop} (hz : s.heap.get? z = some (ZObj f0 f1 TI TO)) (h : Q (.ref z) s) : wpAny (model prog w) A (pyIter (.ref z)) Q E s := by
  have hT : s.TypeIs (.ref z) "zip" := ⟨_, hz, rfl⟩
  refine wpAny_pyIter_slot hT F.slot_zip_iter (wpAny_call_entry F.slot_zip_iter hT F.entry_zip_iter ?_ (F.args_zip_iter_1 _))
  exact wpAny_pure ⟨_, rfl, "zip", _, hT, F.slot_zip_next.lookup, h⟩
theorem call_dictOfZ {Q : Value → Shared → Prop} {z TI TO i1 i2 l t : Addr} {xs ys : Array Value} {ks : List Key} (hh : A.handled = none) (D : ZAp z TI TO i1 i2 l t) (Z : ZS s.heap z TI TO i1 i2 l t xs ys 0) (hl : xs.size = ks.length) (hly : ys.size = ks.length) (hk : ∀ (i : Nat) (k : Key) (v : Value), ks[i]? = some k → xs[i]? = some v → keyIs k v = true) (hb : ks.length < 4000)
    (h : ∀ h' tk, (∀ c o, c ∉ [z, TO, i1, i2] → s.heap.get? c = some o → h'.get? c = some o) → h'.DictOf (mixKind prog w) s.heap.objs.size (zipD (ks.zip ys.toList) []) → Q (.ref s.heap.objs.size) { s with heap := h', toks := tk }) :
    wpAny (model prog w) A (call (.type "dict") [.ref z]) Q E s := by
  refine callType_codes (Q₁ := fun obj s₁ => obj = .ref s.heap.objs.size ∧ s₁ = { s with heap := s.heap.push { cls := .type "dict", data := .dict #[] } }) F.kt_called_dict (F.kt_typeCall_dict_1 _) F.entry_dict_init (kt_code_dict_new _ ⟨rfl, rfl⟩) ?_
  rintro obj s₁ ⟨rfl, rfl⟩
  have new : (s.heap.push { cls := .type "dict", data := .dict #[] }).DictOf (mixKind prog w) s.heap.objs.size [] := Heap.DictOf.new s.heap
  have Z1 := Z.keep (h' := s.heap.push { cls := .type "dict", data := .dict #[] }) fun c o q => Heap.get?_push_of_some _ q
  obtain ⟨f0, f1, gz, _⟩ := Z1.z
  refine ⟨new.typeIs, F.args_dict_init_2 _ _, ?_⟩
  unfold Builtin.«dict.__init__»
  refine wpAny_bind ?_
  unfold Builtin.Dict.selfAndRest
  refine wpAny_bind (wpAny_notOrdered_dict new.typeIs ?_)
  show wpAny _ _ (pure (s.heap.objs.size, [Value.ref z])) _ _ _
  refine wpAny_pure ?_
  show wpAny _ _ (Builtin.Dict.updateFrom "dict.__init__" s.heap.objs.size (.ref z) [] .none) _ _ _
  unfold Builtin.Dict.updateFrom
  refine wpAny_bind (wpAny_typeOf (T := "zip") ⟨_, gz, rfl⟩ ?_)
  rw [if_pos (by decide)]
  refine wpAny_bind (zip_keys_none (by simpa using hh) gz fun h₁ t₁ kp => ?_)
  rw [if_pos (show (none : Option Value).isNone = true from rfl)]
  refine wpAny_bind (wpAny_rule ?_)
  obtain ⟨f0', f1', gz', _⟩ := (Z1.keep kp).z
  refine wpAny_bind (iter_zip (s := _) gz' ?_)
  have hd : s.heap.objs.size ∉ [z, TI, TO, i1, i2, l, t] := by
    have a1 : z < s.heap.objs.size := by obtain ⟨_, _, g, _⟩ := Z.z; exact Heap.lt_size g
    have a2 : TI < s.heap.objs.size := Heap.lt_size Z.ti
    have a3 : TO < s.heap.objs.size := by obtain ⟨_, _, g⟩ := Z.to; exact Heap.lt_size g
    have a4 : i1 < s.heap.objs.size := by obtain ⟨_, g, _⟩ := Z.i1; exact Heap.lt_size g
    have a5 : i2 < s.heap.objs.size := by obtain ⟨_, g, _⟩ := Z.i2; exact Heap.lt_size g
    have a6 : l < s.heap.objs.size := by obtain ⟨_, g, _⟩ := Z.l; exact Heap.lt_size g
    have a7 : t < s.heap.objs.size := by obtain ⟨_, g, _⟩ := Z.t; exact Heap.lt_size g
    intro q
    simp only [List.mem_cons, List.not_mem_nil, or_false] at q
    rcases q with q | q | q | q | q | q | q
    · exact Nat.ne_of_gt a1 q
    · exact Nat.ne_of_gt a2 q
    · exact Nat.ne_of_gt a3 q
    · exact Nat.ne_of_gt a4 q
    · exact Nat.ne_of_gt a5 q
    · exact Nat.ne_of_gt a6 q
    · exact Nat.ne_of_gt a7 q
  have Dn : h₁.DictOf (mixKind prog w) s.heap.objs.size [] := by
    obtain ⟨o, es, ep, g, r⟩ := new
    exact ⟨o, es, ep, kp _ _ g, r⟩
  refine wpAny_pure ⟨?_, du_loop (ks := ks) (by simpa using hh) D hd hl hly hk hb _ 0 _ [] rfl (Nat.zero_le _) (Nat.zero_le _) (Z1.keep kp) Dn fun h' tk kp' Df => ?_⟩
  · exact plainId_quiet plain_du_loop _
  · refine ⟨rfl, h h' tk (fun c o hc e => kp' c o ?_ (kp _ _ (Heap.get?_push_of_some _ e))) Df⟩
    intro q
    simp only [List.mem_cons, List.not_mem_nil, or_false] at q
    rcases q with q | q | q | q | q
    · exact hc (by simp [q])
    · exact hc (by simp [q])
    · exact hc (by simp [q])
    · exact hc (by simp [q])
    · rw [q] at e; exact absurd (Heap.lt_size e) (Nat.lt_irrefl _)
end
theorem kv_zip : ∀ {ks : List Key} {ys : List V} {vs : List Value} {kvs : List (Key × V)} {ms : List (Key × Value)}, Vals ys vs → KV kvs ms → KV ((ks.zip ys).foldl (fun m q => putK m q.1 q.2) kvs) (zipD (ks.zip vs) ms)
  | [], _, _, _, _, _, h => by simpa [zipD] using h
  | k :: ks, _, _, _, _, .nil, h => by simpa [zipD] using h
  | k :: ks, y :: ys, v :: vs, kvs, ms, .cons r rs, h => by
    rw [List.zip_cons_cons, List.zip_cons_cons, List.foldl_cons]
    exact kv_zip (ks := ks) rs (h.put k r)
theorem putK_len (m : List (Key × V)) (k : Key) (v : V) : (putK m k v).length ≤ m.length + 1 := by
  unfold putK
  split
  · rw [List.length_map]; exact Nat.le_succ _
  · rw [List.length_append]; exact Nat.le_refl _
theorem zipK_len : ∀ (l : List (Key × V)) (m : List (Key × V)), (l.foldl (fun m q => putK m q.1 q.2) m).length ≤ m.length + l.length
  | [], m => Nat.le_refl _
  | q :: l, m => by
    rw [List.foldl_cons, List.length_cons]
    have := zipK_len l (putK m q.1 q.2)
    have := putK_len m q.1 q.2
    omega
def tDictZ (K : PySem.W.Frag) (ta : TA) : TE := fun σ H Q => ta σ H fun us H1 => ∃ (l t : Addr) (ns : List Int) (ys : List V), us = [.ref l, .ref t] ∧ SqL K H1 l (ns.map V.int) ∧ SqT K H1 t ys ∧ ns.length = ys.length ∧ ns.length < 4000 ∧
  ∀ p, H1 p = none → Q (.ref p) (upd H1 p (.dK (((ns.map Sum.inl).zip ys).foldl (fun m q => putK m q.1 q.2) [])))
theorem vals_int : ∀ {ns : List Int} {vs : List Value}, Vals (ns.map V.int) vs → ∀ (i : Nat) (k : Key) (v : Value), (ns.map (Sum.inl : Int → Key))[i]? = some k → vs[i]? = some v → keyIs k v = true
  | [], _, _, i, k, v, h, _ => by simp at h
  | n :: ns, _, .cons r rs, 0, k, v, h1, h2 => by
    simp at h1 h2
    subst h1 h2
    obtain ⟨t, rfl⟩ := r
    show Value.isInt n (Value.int n t) = true
    simp [Value.isInt]
  | n :: ns, _, .cons r rs, i + 1, k, v, h1, h2 => vals_int rs i k v (by simpa using h1) (by simpa using h2)
theorem zipZ_len (ns : List Int) (ys : List V) (h : ns.length < 4000) : List.length (((ns.map (Sum.inl : Int → Key)).zip ys).foldl (fun m q => putK m q.1 q.2) ([] : List (Key × V))) ≤ sizeLine := by
  have := zipK_len ((ns.map (Sum.inl : Int → Key)).zip ys) []
  rw [List.length_zip, List.length_map] at this
  have z : min ns.length ys.length ≤ ns.length := Nat.min_le_left _ _
  refine Nat.le_trans this (Nat.le_trans (Nat.add_le_add_left z _) (Nat.le_trans (Nat.add_le_add_left (Nat.le_of_lt h) _) ?_))
  decide
theorem zap_new {n l t : Nat} (h1 : l < n) (h2 : t < n) : ZAp (n + 4) (n + 2) (n + 3) n (n + 1) l t := by
  refine ⟨⟨?_, ?_, ?_, ?_⟩, ⟨?_, ?_, ?_, ?_, ?_, ?_⟩, ⟨?_, ?_, ?_, ?_⟩, ⟨?_, ?_, ?_, ?_⟩⟩ <;> (intro e; replace e : @Eq Nat _ _ := e; omega)
theorem pe_dictZ {X : Cx} {K : PySem.W.Frag} {a b : Expr} {ta : TA} {p p2 pos pos2 : Pos} (hc : X.calm = true) (hK : X.K = K) (hg : Gl X "dict") (hm : X.mg "dict" = none) (hg2 : Gl X "zip") (hm2 : X.mg "zip" = none) (ha : PA X [a, b] ta)
    (hs : starEach [a, b] X.env = [(false, eval a X.env), (false, eval b X.env)] := by rfl) (hs2 : starEach [b] X.env = [(false, eval b X.env)] := by rfl)
    (hs3 : starEach [.Call (.Name "zip" p2) [a, b] [] pos2] X.env = [(false, eval (.Call (.Name "zip" p2) [a, b] [] pos2) X.env)] := by rfl) :
    PE X (.Call (.Name "dict" p) [.Call (.Name "zip" p2) [a, b] [] pos2] [] pos) (tDictZ K ta) := by
  subst hK
  intro pins s σ H R I h
  refine Call_ (ld_blt I hg hm bt_dict (PyProof.Rows.callWith_type1 ?_ (by rw [hs3]; rfl) rfl))
  rw [hs3]
  refine Calls.spliced_cons ?_
  refine Call_ (ld_blt I hg2 hm2 boot_zip (PyProof.Rows.callWith_type1 (thn (ha pos2 pins s σ H _ I h) fun us s1 ⟨vs, H1, I1, r1, q1⟩ => ?_) (by rw [hs, hs2]) (by rw [hs2]; rfl)))
  obtain ⟨l, t, ns, ys, e, hq1, hq2, hle, hlt, q⟩ := q1
  subst e
  obtain ⟨u1, u2, rfl, r1, r2⟩ := vals2 r1
  cases r1
  cases r2
  obtain ⟨its1, rv1, pl1, _⟩ := I1.list hq1
  obtain ⟨its2, rv2, pl2, _⟩ := I1.tuple hq2
  have lt1 : l < s1.heap.objs.size := by obtain ⟨_, e, _⟩ := pl1.isList; exact Heap.lt_size e
  have lt2 : t < s1.heap.objs.size := by obtain ⟨_, e, _⟩ := pl2; exact Heap.lt_size e
  refine call_zipT pl1.isList pl2 fun h' Z sz kp => ?_
  refine Calls.spliced_nil ?_
  have I2 : Inv X pins σ H1 { s1 with heap := h' } := I1.kept (t' := s1.toks) kp
  have e1 : its1.length = ns.length := by rw [← rv1.length, List.length_map]
  have e2 : its2.length = ns.length := by rw [← rv2.length]; exact hle.symm
  refine call_dictOfZ (s := { s1 with heap := h' }) (ks := ns.map Sum.inl) (I1.ok.hd hc) (zap_new lt1 lt2) Z (by simpa using e1) (by simpa using e2) (fun i k v z1 z2 => vals_int rv1 i k v z1 (by simpa using z2)) (by simpa using hlt) fun h2 tk kp2 Df => ?_
  refine ⟨.ref h'.objs.size, _, ?_, rfl, q h'.objs.size (I2.hok.fresh (Nat.le_refl _))⟩
  have kv := kv_zip (ks := ns.map Sum.inl) (kvs := []) (ms := []) rv2 .nil
  have ok : ObjOk X.prog X.w (upd H1 h'.objs.size (.dK (((ns.map Sum.inl).zip ys).foldl (fun m q => putK m q.1 q.2) []))) h2 h'.objs.size (.dK (((ns.map Sum.inl).zip ys).foldl (fun m q => putK m q.1 q.2) [])) := by
    refine ⟨?_, beq_eq_false_iff_ne.mpr (Ne.symm (Nat.ne_of_lt I2.big)), _, kv, Df⟩
    exact zipZ_len ns ys hlt
  refine I1.laid (t' := tk) (fun b u q => kp2 b u (fun z => ?_) (kp _ _ q)) (by rw [sz]; omega) ok
  have lt := Heap.lt_size q
  simp only [List.mem_cons, List.not_mem_nil, or_false] at z
  rcases z with z | z | z | z
  · rw [z] at lt; exact absurd lt (Nat.not_lt.mpr (Nat.le_add_right _ 4))
  · rw [z] at lt; exact absurd lt (Nat.not_lt.mpr (Nat.le_add_right _ 3))
  · rw [z] at lt; exact absurd lt (Nat.not_lt.mpr (Nat.le_refl _))
  · rw [z] at lt; exact absurd lt (Nat.not_lt.mpr (Nat.le_add_right _ 1))
end L2

set_option Elab.async false
set_option linter.all false
set_option maxRecDepth 100000
set_option maxHeartbeats 4000000
namespace L2
open PySem PySem.Spec PyProof.Rows
def dictZ {α : Type} (ns : List Int) (bs : List α) : Option (Mp α) := if ns.length = bs.length ∧ ns.length < 4000 then some ⟨(ns.zip bs).foldl (fun m q => putM m q.1 q.2) []⟩ else none
section
variable {K : PySem.W.Frag} {σ : St} {G H G0 H0 : Hp} {α β : Type} [Rp α] [Rp β] {ta tb : TE}
theorem paired_zipM {G : Hp} : ∀ {ns : List Int} {ys : List V} {bs : List α} {kvs : List (Key × V)} {l : List (Int × α)}, Paired (Rp.rel K G) ys bs → Paired (RelE K G) kvs l → Paired (RelE K G) (((ns.map (Sum.inl : Int → Key)).zip ys).foldl (fun m q => putK m q.1 q.2) kvs) ((ns.zip bs).foldl (fun m q => putM m q.1 q.2) l)
  | [], _, _, _, _, _, h => h
  | n :: ns, _, _, _, _, .nil, h => h
  | n :: ns, y :: ys, b :: bs, kvs, l, .cons r rs, h => by
    rw [List.map_cons, List.zip_cons_cons, List.zip_cons_cons, List.foldl_cons, List.foldl_cons]
    exact paired_zipM (ns := ns) rs (paired_putM r h)
theorem ev_dictZ {la : Option (List Int)} {lb : Option (Tp α)} (ea : EV K ta σ G la) (eb : EV K tb σ G lb) : EV K (tDictZ K (tCons ta (tCons tb tNil))) σ G (la.bind fun a => lb.bind fun b => dictZ a b.l) := by
  intro G1 s1 c hc H sH Q k
  obtain ⟨a, ha, hc⟩ := Option.bind_eq_some_iff.mp hc
  obtain ⟨b, hb, hc⟩ := Option.bind_eq_some_iff.mp hc
  unfold dictZ at hc
  split at hc
  · rename_i hl
    cases hc
    refine ea G1 s1 a ha H sH _ fun v G2 H2 x2 r2 => ?_
    refine eb G2 (s1.trans x2.gg) b hb H2 x2.gh _ fun u G3 H3 x3 r3 => ?_
    obtain ⟨l, xs, rfl, h, z, p⟩ := Rp.mono x3.gg r2
    obtain ⟨t, ys, rfl, h', z', p'⟩ := r3
    have e := paired_intsR p
    subst e
    have hly : ys.length = b.l.length := paired_len2 p'
    refine ⟨l, t, a, ys, rfl, .inl (x3.gh.rd h), x3.gh.tup h', by rw [hly]; exact hl.1, hl.2, fun q hq => ?_⟩
    have gq : G3 q = none := Same.free x3.gh hq
    exact k _ (upd G3 q _) _ ((x2.trans x3).trans (.new x3.gh hq)) ⟨q, _, rfl, upd_same, Paired.imp' (fun _ _ r => ⟨r.1, Rp.mono (Same.new gq) r.2⟩) (paired_zipM (ns := a) p' .nil)⟩
  · cases hc
end
end L2

set_option Elab.async false
set_option linter.all false
set_option maxRecDepth 100000
set_option maxHeartbeats 4000000
namespace My
open PySem PySem.Spec PyProof.Rows L2
def m_law_row (cell_here_ : Int) (many_ : Int) : Option (Tp SI) :=
  (some (cell_here_ / (7 : Int))).bind fun number_ =>
  (some ((decide (many_ = (0 : Int))) || (decide ((cell_here_ % (7 : Int)) = (0 : Int))))).bind fun b7 => cond b7
    ((some (decide ((number_ % (27 : Int)) = (26 : Int)))).bind fun b12 => cond b12
      ((some (Tp.mk [(SI.s ("yes" : Str))])))
      (((((((some ("abcdefghijklmnopqrstuvwxyz" : Str)).bind fun t22 => (some (number_ % (27 : Int))).bind fun t23 => (atI t22.cps.toList t23).bind fun z => some (⟨#[z]⟩ : Str)).bind fun t24 => (some (SI.s t24))).bind fun t25 => (some [t25])).bind fun t26 => (some ((SI.s ("lamp" : Str)) :: t26))).bind fun t27 => (some (Tp.mk t27)))))
    (((some number_).bind fun t33 => (some many_).bind fun t34 => modO t33 t34).bind fun one_ =>
    ((some ((number_ * (7919 : Int)) % (10007 : Int))).bind fun t41 => (some many_).bind fun t42 => modO t41 t42).bind fun other_ =>
    (some (decide ((cell_here_ % (7 : Int)) < (3 : Int)))).bind fun b49 => cond b49
      ((((((some [("not" : Str), ("next" : Str)]).bind fun t54 => (some ((cell_here_ % (7 : Int)) - (1 : Int))).bind fun t55 => atI t54 t55).bind fun t56 => (some (SI.s t56))).bind fun t57 => (some [t57, (SI.i one_)])).bind fun t58 => (some (Tp.mk t58))))
      ((((((some [("and" : Str), ("and" : Str), ("until" : Str), ("until" : Str)]).bind fun t64 => (some ((cell_here_ % (7 : Int)) - (3 : Int))).bind fun t65 => atI t64 t65).bind fun t66 => (some (SI.s t66))).bind fun t67 => (some [t67, (SI.i one_), (SI.i other_)])).bind fun t68 => (some (Tp.mk t68)))))
abbrev mm_law_row (x : Int × Int × Unit) : Option (Tp SI) := m_law_row x.1 x.2.1
def m_law_size (row_here_ : (Tp SI)) (sizes_ : (List Int)) : Option Int :=
  ((((some row_here_).bind fun t3 => (some (0 : Int)).bind fun t4 => atI t3.l t4).bind fun t5 => asS t5).bind fun t6 => (some (decide (t6 = ("lamp" : Str))))).bind fun b7 => cond b7
    ((some (1 : Int)))
    (((((((some row_here_).bind fun t17 => (some (some (1 : Int))).bind fun t18 => (some none).bind fun t19 => cutT? t17.l t18 t19).bind fun t20 => (some t20.l)).bind fun t28 => mapO (fun (at_ : SI) => ((some sizes_).bind fun t26 => ((some at_).bind fun t25 => asI t25).bind fun t27 => atI t26 t27)) t28).bind fun t29 => sumO t29).bind fun t30 => (some ((1 : Int) + t30))))
abbrev mm_law_size (x : (Tp SI) × (List Int) × Unit) : Option Int := m_law_size x.1 x.2.1
def m_law_book (cells_ : (List Int)) : Option (List (Tp SI)) :=
  (some ([] : List (Tp SI))).bind fun rows_ =>
  (some ([] : List Int)).bind fun sizes_ =>
  (some cells_).bind fun as17 => (forO (S := ((List (Tp SI)) × (List Int))) (ρ := (List (Tp SI))) (fun (cell_here_ : Int) s24 =>
      ((some cell_here_).bind fun t41 => (some (s24.1.length : Int)).bind fun t42 => m_law_row t41 t42).bind fun row_here_ =>
      ((some row_here_).bind fun t51 => (some s24.2).bind fun t52 => m_law_size t51 t52).bind fun size_here_ =>
      (some ((decide (size_here_ < (200 : Int))) && (!decide (row_here_ ∈ s24.1)))).bind fun b59 => cond b59
        ((some row_here_).bind fun a64 => (pushO s24.1 a64).bind fun z72 =>
        (some size_here_).bind fun a73 => (pushO s24.2 a73).bind fun z81 =>
        some (Fl.nx (z72, z81)))
        (some (Fl.nx (s24.1, s24.2)))) as17 (rows_, sizes_)).bind fun fl19 => match fl19 with
    | .nx s24 =>
      (some s24.1)
    | .rt r => some r
    | .bk _ => none
abbrev mm_law_book (x : (List Int) × Unit) : Option (List (Tp SI)) := m_law_book x.1
def m_law_lit (cell_here_ : Int) : Option Str :=
  (some (cell_here_ % 67108864)).bind fun number_ =>
  (some ("" : Str)).bind fun lit_here_ =>
  (some (signsO ("abcdefghijklmnopqrstuvwxyz" : Str))).bind fun as13 => (forO (S := (Int × Str)) (ρ := Str) (fun (letter_ : Str) s20 =>
      (some (decide ((s20.1 % (2 : Int)) = (1 : Int)))).bind fun b37 => (cond b37
        (((some s20.2).bind fun t48 => (some letter_).bind fun t49 => catS t48 t49).bind fun lit_here_ =>
        some lit_here_)
        (some s20.2)).bind fun s42 =>
      (some (s20.1 / (2 : Int))).bind fun number_ =>
      some (Fl.nx (number_, s42))) as13 (number_, lit_here_)).bind fun fl15 => match fl15 with
    | .nx s20 =>
      (some s20.2)
    | .rt r => some r
    | .bk _ => none
abbrev mm_law_lit (x : Int × Unit) : Option Str := m_law_lit x.1
def m_law_behind (rows_ : (List (Tp SI))) (cell_here_ : Int) : Option (MpF Bool) :=
  (some (cell_here_ % 1000000000000000000000000000000000000000000000000000000000000)).bind fun number_ =>
  (some (Mp.mk ([] : List (Int × Bool)))).bind fun behind_here_ =>
  ((some (rows_.length : Int)).bind fun t15 => rngO 0 t15).bind fun as16 => (forO (S := (Int × (Mp Bool))) (ρ := (MpF Bool)) (fun (k_ : Int) s23 =>
      ((((((some rows_).bind fun t42 => (some k_).bind fun t43 => atI t42 t43).bind fun t44 => (some (0 : Int)).bind fun t45 => atI t44.l t45).bind fun t46 => asS t46).bind fun t47 => (some (decide (t47 = ("until" : Str))))).bind fun t48 => cond t48 (some true) (some (decide ((Tp.mk [(SI.s ("next" : Str)), (SI.i k_)]) ∈ rows_)))).bind fun b49 => cond b49
        ((some (decide ((s23.1 % (2 : Int)) = (1 : Int)))).bind fun a54 => (some k_).bind fun k56 => (putO s23.2 k56 a54).bind fun z64 =>
        (some (s23.1 / (2 : Int))).bind fun number_ =>
        some (Fl.nx (number_, z64)))
        (some (Fl.nx (s23.1, s23.2)))) as16 (number_, behind_here_)).bind fun fl18 => match fl18 with
    | .nx s23 =>
      some (MpF.mk s23.2.l)
    | .rt r => some r
    | .bk _ => none
abbrev mm_law_behind (x : (List (Tp SI)) × Int × Unit) : Option (MpF Bool) := m_law_behind x.1 x.2.1
def m_truth_of (rows_ : (List (Tp SI))) (number_ : Int) (moment_ : Str) (claimed_ : (Mp Bool)) (view_ : (List Bool)) : Option Bool :=
  ((some rows_).bind fun t1 => (some number_).bind fun t2 => atI t1 t2).bind fun row_ =>
  ((some row_).bind fun t9 => (some (0 : Int)).bind fun t10 => atI t9.l t10).bind fun word_ =>
  (((some word_).bind fun t17 => asS t17).bind fun t18 => (some (decide (t18 = ("lamp" : Str))))).bind fun b19 => cond b19
    (((((some row_).bind fun t26 => (some (1 : Int)).bind fun t27 => atI t26.l t27).bind fun t28 => asS t28).bind fun t29 => (some (inS t29 moment_))))
    ((((some word_).bind fun t35 => asS t35).bind fun t36 => (some (decide (t36 = ("not" : Str))))).bind fun b37 => cond b37
      ((((some view_).bind fun t45 => (((some row_).bind fun t42 => (some (1 : Int)).bind fun t43 => atI t42.l t43).bind fun t44 => asI t44).bind fun t46 => atI t45 t46).bind fun t47 => (some (!t47))))
      ((((some word_).bind fun t53 => asS t53).bind fun t54 => (some (decide (t54 = ("and" : Str))))).bind fun b55 => cond b55
        ((((some view_).bind fun t63 => (((some row_).bind fun t60 => (some (1 : Int)).bind fun t61 => atI t60.l t61).bind fun t62 => asI t62).bind fun t64 => atI t63 t64).bind fun t70 => cond t70 ((some view_).bind fun t68 => (((some row_).bind fun t65 => (some (2 : Int)).bind fun t66 => atI t65.l t66).bind fun t67 => asI t67).bind fun t69 => atI t68 t69) (some false)))
        ((((some word_).bind fun t76 => asS t76).bind fun t77 => (some (decide (t77 = ("next" : Str))))).bind fun b78 => cond b78
          (((some claimed_).bind fun t86 => (((some row_).bind fun t83 => (some (1 : Int)).bind fun t84 => atI t83.l t84).bind fun t85 => asI t85).bind fun t87 => getM t86.l t87))
          ((((some word_).bind fun t93 => asS t93).bind fun t94 => (some (decide (t94 = ("until" : Str))))).bind fun b95 => cond b95
            ((((some view_).bind fun t103 => (((some row_).bind fun t100 => (some (2 : Int)).bind fun t101 => atI t100.l t101).bind fun t102 => asI t102).bind fun t104 => atI t103 t104).bind fun t113 => cond t113 (some true) (((some view_).bind fun t108 => (((some row_).bind fun t105 => (some (1 : Int)).bind fun t106 => atI t105.l t106).bind fun t107 => asI t107).bind fun t109 => atI t108 t109).bind fun t112 => cond t112 ((some claimed_).bind fun t110 => (some number_).bind fun t111 => getM t110.l t111) (some false))))
            ((some true))))))
abbrev mm_truth_of (x : (List (Tp SI)) × Int × Str × (Mp Bool) × (List Bool) × Unit) : Option Bool := m_truth_of x.1 x.2.1 x.2.2.1 x.2.2.2.1 x.2.2.2.2.1
def m_view_with (rows_ : (List (Tp SI))) (moment_ : Str) (claimed_ : (Mp Bool)) : Option (Tp Bool) :=
  (some ([] : List Bool)).bind fun view_ =>
  ((some (rows_.length : Int)).bind fun t9 => rngO 0 t9).bind fun as10 => (forO (S := ((List Bool))) (ρ := (Tp Bool)) (fun (number_ : Int) s17 =>
      ((some rows_).bind fun t35 => (some number_).bind fun t36 => (some moment_).bind fun t37 => (some claimed_).bind fun t38 => (some s17).bind fun t39 => m_truth_of t35 t36 t37 t38 t39).bind fun a40 => (pushO s17 a40).bind fun z48 =>
      some (Fl.nx z48)) as10 view_).bind fun fl12 => match fl12 with
    | .nx s17 =>
      (some (Tp.mk s17))
    | .rt r => some r
    | .bk _ => none
abbrev mm_view_with (x : (List (Tp SI)) × Str × (Mp Bool) × Unit) : Option (Tp Bool) := m_view_with x.1 x.2.1 x.2.2.1
def m_hopes (rows_ : (List (Tp SI))) : Option (List Int) :=
  ((some rows_).bind fun t12 => compO (fun (pc5 : (Int × (Tp SI))) => ((((some pc5.2).bind fun t8 => (some (0 : Int)).bind fun t9 => atI t8.l t9).bind fun t10 => asS t10).bind fun t11 => (some (decide (t11 = ("until" : Str)))))) (fun (pc5 : (Int × (Tp SI))) => (some pc5.1)) (enumI 0 t12))
abbrev mm_hopes (x : (List (Tp SI)) × Unit) : Option (List Int) := m_hopes x.1
def m_waits (rows_ : (List (Tp SI))) : Option (List Int) :=
  ((some rows_).bind fun t14 => compO (fun (row_ : (Tp SI)) => ((((some row_).bind fun t10 => (some (0 : Int)).bind fun t11 => atI t10.l t11).bind fun t12 => asS t12).bind fun t13 => (some (decide (t13 = ("next" : Str)))))) (fun (row_ : (Tp SI)) => (((some row_).bind fun t5 => (some (1 : Int)).bind fun t6 => atI t5.l t6).bind fun t7 => asI t7)) t14).bind fun under_next_ =>
  (((some rows_).bind fun t21 => m_hopes t21).bind fun t22 => (some under_next_).bind fun t23 => sortOrZ t22 t23)
abbrev mm_waits (x : (List (Tp SI)) × Unit) : Option (List Int) := m_waits x.1
def m_look (rows_ : (List (Tp SI))) (moment_ : Str) (claims_ : (Tp Bool)) : Option (Tp Bool) :=
  ((some rows_).bind fun t4 => (some moment_).bind fun t5 => (((some rows_).bind fun t1 => m_waits t1).bind fun t2 => (some claims_).bind fun t3 => dictZ t2 t3.l).bind fun t6 => m_view_with t4 t5 t6)
abbrev mm_look (x : (List (Tp SI)) × Str × (Tp Bool) × Unit) : Option (Tp Bool) := m_look x.1 x.2.1 x.2.2.1
def m_law_cell (script_ : Scr) (k_ : Int) : Option Int :=
  (some (decide (k_ < (script_.l.length : Int)))).bind fun b1 => cond b1
    (((some script_).bind fun t6 => (some k_).bind fun t7 => atI t6.l t7))
    ((some (0 : Int)))
abbrev mm_law_cell (x : Scr × Int × Unit) : Option Int := m_law_cell x.1 x.2.1
def m_law_truth (thing_ : Bool) : Option Bool :=
  (some ((decide (thing_ = true)) || (decide (thing_ = false))))
abbrev mm_law_truth (x : Bool × Unit) : Option Bool := m_law_truth x.1
def m_law_fits (rows_ : (List (Tp SI))) (k_ : Int) (view_ : (Tp Bool)) (lit_here_ : Str) (behind_here_ : (MpF Bool)) : Option Bool :=
  ((some rows_).bind fun t1 => (some k_).bind fun t2 => atI t1 t2).bind fun row_here_ =>
  ((((some row_here_).bind fun t11 => (some (0 : Int)).bind fun t12 => atI t11.l t12).bind fun t13 => asS t13).bind fun t14 => (some (decide (t14 = ("yes" : Str))))).bind fun b15 => cond b15
    (((some view_).bind fun t20 => (some k_).bind fun t21 => atI t20.l t21))
    (((((some row_here_).bind fun t29 => (some (0 : Int)).bind fun t30 => atI t29.l t30).bind fun t31 => asS t31).bind fun t32 => (some (decide (t32 = ("lamp" : Str))))).bind fun b33 => cond b33
      ((((some view_).bind fun t38 => (some k_).bind fun t39 => atI t38.l t39).bind fun t52 => ((((some row_here_).bind fun t48 => (some (1 : Int)).bind fun t49 => atI t48.l t49).bind fun t50 => asS t50).bind fun t51 => (some (inS t51 lit_here_))).bind fun t53 => (some (decide (t52 = t53)))))
      (((((some row_here_).bind fun t61 => (some (0 : Int)).bind fun t62 => atI t61.l t62).bind fun t63 => asS t63).bind fun t64 => (some (decide (t64 = ("not" : Str))))).bind fun b65 => cond b65
        ((((some view_).bind fun t70 => (some k_).bind fun t71 => atI t70.l t71).bind fun t82 => ((some view_).bind fun t80 => (((some row_here_).bind fun t77 => (some (1 : Int)).bind fun t78 => atI t77.l t78).bind fun t79 => asI t79).bind fun t81 => atI t80.l t81).bind fun t83 => (some (!decide (t82 = t83)))))
        (((((some row_here_).bind fun t91 => (some (0 : Int)).bind fun t92 => atI t91.l t92).bind fun t93 => asS t93).bind fun t94 => (some (decide (t94 = ("and" : Str))))).bind fun b95 => cond b95
          ((((some view_).bind fun t100 => (some k_).bind fun t101 => atI t100.l t101).bind fun t124 => (((some view_).bind fun t116 => (((some row_here_).bind fun t113 => (some (1 : Int)).bind fun t114 => atI t113.l t114).bind fun t115 => asI t115).bind fun t117 => atI t116.l t117).bind fun t123 => cond t123 ((some view_).bind fun t121 => (((some row_here_).bind fun t118 => (some (2 : Int)).bind fun t119 => atI t118.l t119).bind fun t120 => asI t120).bind fun t122 => atI t121.l t122) (some false)).bind fun t125 => (some (decide (t124 = t125)))))
          (((((some row_here_).bind fun t133 => (some (0 : Int)).bind fun t134 => atI t133.l t134).bind fun t135 => asS t135).bind fun t136 => (some (decide (t136 = ("next" : Str))))).bind fun b137 => cond b137
            ((((some view_).bind fun t142 => (some k_).bind fun t143 => atI t142.l t143).bind fun t154 => ((some behind_here_).bind fun t152 => (((some row_here_).bind fun t149 => (some (1 : Int)).bind fun t150 => atI t149.l t150).bind fun t151 => asI t151).bind fun t153 => getM t152.l t153).bind fun t155 => (some (decide (t154 = t155)))))
            ((((some view_).bind fun t161 => (some k_).bind fun t162 => atI t161.l t162).bind fun t191 => (((some view_).bind fun t180 => (((some row_here_).bind fun t177 => (some (2 : Int)).bind fun t178 => atI t177.l t178).bind fun t179 => asI t179).bind fun t181 => atI t180.l t181).bind fun t190 => cond t190 (some true) (((some view_).bind fun t185 => (((some row_here_).bind fun t182 => (some (1 : Int)).bind fun t183 => atI t182.l t183).bind fun t184 => asI t184).bind fun t186 => atI t185.l t186).bind fun t189 => cond t189 ((some behind_here_).bind fun t187 => (some k_).bind fun t188 => getM t187.l t188) (some false))).bind fun t192 => (some (decide (t191 = t192)))))))))
abbrev mm_law_fits (x : (List (Tp SI)) × Int × (Tp Bool) × Str × (MpF Bool) × Unit) : Option Bool := m_law_fits x.1 x.2.1 x.2.2.1 x.2.2.2.1 x.2.2.2.2.1
def m_law (script_ : Scr) : Option Bool :=
  (((some script_).bind fun t1 => (some (some (2 : Int))).bind fun t2 => (some (some (101 : Int))).bind fun t3 => cutX t1 t2 t3).bind fun t4 => m_law_book t4).bind fun rows_ =>
  (((some script_).bind fun t11 => (some (0 : Int)).bind fun t12 => m_law_cell t11 t12).bind fun t13 => m_law_lit t13).bind fun lit_here_ =>
  ((some rows_).bind fun t22 => ((some script_).bind fun t20 => (some (1 : Int)).bind fun t21 => m_law_cell t20 t21).bind fun t23 => m_law_behind t22 t23).bind fun behind_here_ =>
  (some rows_).bind fun handed_ =>
  ((some handed_).bind fun t59 => (some lit_here_).bind fun t60 => ((((some behind_here_).bind fun t50 => keysO t50).bind fun t57 => mapO (fun (k_ : Int) => ((some behind_here_).bind fun t55 => (some k_).bind fun t56 => getM t55.l t56)) t57).bind fun t58 => (some (Tp.mk t58))).bind fun t61 => m_look t59 t60 t61).bind fun view_ =>
  (some ((!true) || (!decide ((view_.l.length : Int) = (rows_.length : Int))))).bind fun b68 => cond b68
    ((some false))
    (((some (rows_.length : Int)).bind fun t78 => rngO 0 t78).bind fun as79 => (forO (S := Unit) (ρ := Bool) (fun (k_ : Int) s86 =>
        (((((some view_).bind fun t99 => (some k_).bind fun t100 => atI t99.l t100).bind fun t101 => m_law_truth t101).bind fun t102 => (some (!t102))).bind fun t109 => cond t109 (some true) (((some rows_).bind fun t103 => (some k_).bind fun t104 => (some view_).bind fun t105 => (some lit_here_).bind fun t106 => (some behind_here_).bind fun t107 => m_law_fits t103 t104 t105 t106 t107).bind fun t108 => (some (!t108)))).bind fun b110 => cond b110
          ((some false).bind fun rr120 => some (Fl.rt rr120))
          (some (Fl.nx ()))) as79 ()).bind fun fl81 => match fl81 with
      | .nx s86 =>
        (some (!decide (handed_ = rows_))).bind fun b126 => cond b126
          ((some false))
          ((some (decide (rows_ = ([] : List (Tp SI))))).bind fun b136 => cond b136
            ((some true))
            ((some (Tp.mk [(SI.s ("not" : Str)), (SI.i ((rows_.length : Int) - (1 : Int)))])).bind fun a146 => (pushO handed_ a146).bind fun z154 =>
            ((some z154).bind fun t177 => (some lit_here_).bind fun t178 => ((((some behind_here_).bind fun t168 => keysO t168).bind fun t175 => mapO (fun (k_ : Int) => ((some behind_here_).bind fun t173 => (some k_).bind fun t174 => getM t173.l t174)) t175).bind fun t176 => (some (Tp.mk t176))).bind fun t179 => m_look t177 t178 t179).bind fun longer_ =>
            (some ((!true) || (!decide ((longer_.l.length : Int) = ((rows_.length : Int) + (1 : Int)))))).bind fun b186 => cond b186
              ((some false))
              ((some longer_.l).bind fun as196 => (forO (S := Unit) (ρ := Bool) (fun (truth_here_ : Bool) s203 =>
                  (((some truth_here_).bind fun t216 => m_law_truth t216).bind fun t217 => (some (!t217))).bind fun b218 => cond b218
                    ((some false).bind fun rr228 => some (Fl.rt rr228))
                    (some (Fl.nx ()))) as196 ()).bind fun fl198 => match fl198 with
                | .nx s203 =>
                  (((some view_).bind fun t246 => (((((some view_).bind fun t241 => (some (-(1 : Int))).bind fun t242 => atI t241.l t242).bind fun t243 => (some (!t243))).bind fun t244 => (some [t244])).bind fun t245 => (some (Tp.mk t245))).bind fun t247 => catTO t246 t247).bind fun t248 => (some (decide (longer_ = t248))))
                | .rt r => some r
                | .bk _ => none)))
      | .rt r => some r
      | .bk _ => none)
abbrev mm_law (x : Scr × Unit) : Option Bool := m_law x.1
end My

set_option Elab.async false
set_option linter.all false
set_option maxRecDepth 100000
set_option maxHeartbeats 4000000
namespace My
open PySem PySem.Spec PyProof.Rows L2
def top (i : Nat) : Stmt := PySem.Challenge.pw_lassoscribe_k20_a_look.main.body.getD i (.Pass ⟨0, 0, 0, 0⟩)
abbrev s_waits : Stmt := top 1
abbrev s_hopes : Stmt := top 2
abbrev s_truth_of : Stmt := top 4
abbrev s_view_with : Stmt := top 5
abbrev s_look : Stmt := top 6
abbrev s_law_cell : Stmt := top 8
abbrev s_law_truth : Stmt := top 9
abbrev s_law_row : Stmt := top 10
abbrev s_law_size : Stmt := top 11
abbrev s_law_book : Stmt := top 12
abbrev s_law_lit : Stmt := top 13
abbrev s_law_behind : Stmt := top 14
abbrev s_law_fits : Stmt := top 15
abbrev s_law : Stmt := top 16
/-- the names that the text leaves to the built-in ones, and its constants -/
structure Txt (mg : Str → Option Value) : Prop where
  dict_ : mg "dict" = none
  enumerate_ : mg "enumerate" = none
  isinstance_ : mg "isinstance" = none
  len_ : mg "len" = none
  list_ : mg "list" = none
  range_ : mg "range" = none
  set_ : mg "set" = none
  sorted_ : mg "sorted" = none
  sum_ : mg "sum" = none
  tuple_ : mg "tuple" = none
  zip_ : mg "zip" = none
theorem sc_waits : FnScope ["rows", "under_next"] ["rows"] (defScope s_waits) := ⟨rfl, rfl, rfl, by decide +kernel, rfl, by decide +kernel, by decide +kernel⟩
theorem sc_hopes : FnScope ["rows"] ["rows"] (defScope s_hopes) := ⟨rfl, rfl, rfl, by decide +kernel, rfl, by decide +kernel, by decide +kernel⟩
theorem sc_truth_of : FnScope ["rows", "number", "moment", "claimed", "view", "row", "word"] ["rows", "number", "moment", "claimed", "view"] (defScope s_truth_of) := ⟨rfl, rfl, rfl, by decide +kernel, rfl, by decide +kernel, by decide +kernel⟩
theorem sc_view_with : FnScope ["rows", "moment", "claimed", "view", "number"] ["rows", "moment", "claimed"] (defScope s_view_with) := ⟨rfl, rfl, rfl, by decide +kernel, rfl, by decide +kernel, by decide +kernel⟩
theorem sc_look : FnScope ["rows", "moment", "claims"] ["rows", "moment", "claims"] (defScope s_look) := ⟨rfl, rfl, rfl, by decide +kernel, rfl, by decide +kernel, by decide +kernel⟩
theorem sc_law_cell : FnScope ["_law_script", "_law_k"] ["_law_script", "_law_k"] (defScope s_law_cell) := ⟨rfl, rfl, rfl, by decide +kernel, rfl, by decide +kernel, by decide +kernel⟩
theorem sc_law_truth : FnScope ["_law_thing"] ["_law_thing"] (defScope s_law_truth) := ⟨rfl, rfl, rfl, by decide +kernel, rfl, by decide +kernel, by decide +kernel⟩
theorem sc_law_row : FnScope ["_law_cell_here", "_law_many", "_law_number", "_law_one", "_law_other"] ["_law_cell_here", "_law_many"] (defScope s_law_row) := ⟨rfl, rfl, rfl, by decide +kernel, rfl, by decide +kernel, by decide +kernel⟩
theorem sc_law_size : FnScope ["_law_row_here", "_law_sizes"] ["_law_row_here", "_law_sizes"] (defScope s_law_size) := ⟨rfl, rfl, rfl, by decide +kernel, rfl, by decide +kernel, by decide +kernel⟩
theorem sc_law_book : FnScope ["_law_cells", "_law_rows", "_law_sizes", "_law_cell_here", "_law_row_here", "_law_size_here"] ["_law_cells"] (defScope s_law_book) := ⟨rfl, rfl, rfl, by decide +kernel, rfl, by decide +kernel, by decide +kernel⟩
theorem sc_law_lit : FnScope ["_law_cell_here", "_law_number", "_law_lit_here", "_law_letter"] ["_law_cell_here"] (defScope s_law_lit) := ⟨rfl, rfl, rfl, by decide +kernel, rfl, by decide +kernel, by decide +kernel⟩
theorem sc_law_behind : FnScope ["_law_rows", "_law_cell_here", "_law_number", "_law_behind_here", "_law_k"] ["_law_rows", "_law_cell_here"] (defScope s_law_behind) := ⟨rfl, rfl, rfl, by decide +kernel, rfl, by decide +kernel, by decide +kernel⟩
theorem sc_law_fits : FnScope ["_law_rows", "_law_k", "_law_view", "_law_lit_here", "_law_behind_here", "_law_row_here"] ["_law_rows", "_law_k", "_law_view", "_law_lit_here", "_law_behind_here"] (defScope s_law_fits) := ⟨rfl, rfl, rfl, by decide +kernel, rfl, by decide +kernel, by decide +kernel⟩
theorem sc_law : FnScope ["_law_script", "_law_rows", "_law_lit_here", "_law_behind_here", "_law_handed", "_law_view", "_law_k", "_law_longer", "_law_truth_here"] ["_law_script"] (defScope s_law) := ⟨rfl, rfl, rfl, by decide +kernel, rfl, by decide +kernel, by decide +kernel⟩
def sp_law (K : PySem.W.Frag) : Sp := fun vs H Q _ => ∃ (a : Addr) (ns : List Int), vs = [.ref a] ∧ SqL K H a (ns.map V.int) ∧ ns.length ≤ 63 ∧ ∀ H', Q (.bl true) H'
section
variable {P : Program} {w : World} {K : PySem.W.Frag} {mg : Str → Option Value} {base : Heap}
theorem ok_law_row {f : Addr} {fd : FuncData} (F : Fun K "_law_row" "_law_row" s_law_row f fd) (T : Txt mg) : FnOk P w K mg base CX0 1 f fd ["_law_cell_here", "_law_many"] (spM K mm_law_row) := by
  refine F.ok sc_law_row (fun vs H Q E h => (spM_len h).trans rfl) (fun cdv A outer s H0 vs Q E hr h => ?_)
  obtain ⟨G0, ⟨cell_here_, ⟨many_, ⟨⟩⟩⟩, res, sg0, ⟨v_cell_here_, _, rfl, r_cell_here_, ⟨v_many_, _, rfl, r_many_, rfl⟩⟩, hm, q⟩ := h
  replace r_cell_here_ : Rp.rel K G0 v_cell_here_ cell_here_ := r_cell_here_
  replace r_many_ : Rp.rel K G0 v_many_ many_ := r_many_
  replace hm : m_law_row cell_here_ many_ = some res := hm
  unfold m_law_row at hm
  have xt : Ext G0 H0 G0 H0 := Ext.refl sg0
  refine ⟨_, (pss_cons (ps_set (i := 2) sc_law_row.nd rfl (Or.inl rfl) (pe_op op_fdiv (pv 0) pe_int))
      (pss_cons (ps_if (PW.pt (pw_or (pt_cmpR op_eq (pv 1) pe_int (nomark _)) (pw_or1 (pt_cmpR op_eq (pe_op op_mod (pv 0) pe_int) pe_int (nomark _))))) (pss_cons (ps_if (pt_cmpR op_eq (pe_op op_mod (pv 2) pe_int) pe_int (nomark _)) (pss_cons (ps_ret (pe_tup (pa_cons pe_str pa_nil)))
      pss_nil) pss_nil)
      (pss_cons (ps_ret (pe_tup (pa_cons pe_str (pa_cons (pe_ix (ix_anyK (K := K) rfl) pe_str (pe_op op_mod (pv 2) pe_int) (fun _ _ => rfl)) pa_nil))))
      pss_nil)) pss_nil)
      (pss_cons (ps_set (i := 3) sc_law_row.nd rfl (Or.inl rfl) (pe_op op_mod (pv 2) (pv 1)))
      (pss_cons (ps_set (i := 4) sc_law_row.nd rfl (Or.inl rfl) (pe_op op_mod (pe_op op_mod (pe_op (op_mulK (K := K) rfl) (pv 2) pe_int) pe_int) (pv 1)))
      (pss_cons (ps_if (pt_cmpR op_ltU (pe_op op_mod (pv 0) pe_int) pe_int (nomark _)) (pss_cons (ps_ret (pe_tup (pa_cons (pe_ix (ix_anyK (K := K) rfl) (pe_lst (pa_cons pe_str (pa_cons pe_str pa_nil))) (pe_op op_sub (pe_op op_mod (pv 0) pe_int) pe_int) (fun _ _ => rfl)) (pa_cons (pv 3) pa_nil))))
      pss_nil) pss_nil)
      (pss_cons (ps_ret (pe_tup (pa_cons (pe_ix (ix_anyK (K := K) rfl) (pe_lst (pa_cons pe_str (pa_cons pe_str (pa_cons pe_str (pa_cons pe_str pa_nil))))) (pe_op op_sub (pe_op op_mod (pv 0) pe_int) pe_int) (fun _ _ => rfl)) (pa_cons (pv 3) (pa_cons (pv 4) pa_nil)))))
      pss_nil)))))), ?_⟩
  obtain ⟨number_, h6, hm⟩ := Option.bind_eq_some_iff.mp hm
  refine sv_set (K := K) (ev_divR (ev_var rfl r_cell_here_)) h6 xt.gh fun v1 G2 H3 x4 r5 => ?_
  have xt := xt.trans x4
  have r_cell_here_ := Rp.mono x4.gg r_cell_here_
  have r_many_ := Rp.mono x4.gg r_many_
  obtain ⟨b7, h8, hm⟩ := Option.bind_eq_some_iff.mp hm
  refine sv_if (tv_orP (tv_test (K := K) (ev_eqI (ev_var rfl r_many_) ev_i)) (tv_test (K := K) (ev_eqI (ev_modR (ev_var rfl r_cell_here_)) ev_i))) h8 xt.gh fun G9 H10 x11 => ?_
  have xt := xt.trans x11
  have r_cell_here_ := Rp.mono x11.gg r_cell_here_
  have r_many_ := Rp.mono x11.gg r_many_
  have r5 := Rp.mono x11.gg r5
  cases b7 with
  | true =>
    replace hm := cT hm
    refine iteT ?_
    obtain ⟨b12, h13, hm⟩ := Option.bind_eq_some_iff.mp hm
    refine sv_if (tv_test (K := K) (ev_eqI (ev_modR (ev_var rfl r5)) ev_i)) h13 xt.gh fun G14 H15 x16 => ?_
    have xt := xt.trans x16
    have r_cell_here_ := Rp.mono x16.gg r_cell_here_
    have r_many_ := Rp.mono x16.gg r_many_
    have r5 := Rp.mono x16.gg r5
    cases b12 with
    | true =>
      replace hm := cT hm
      refine iteT ?_
      exact sv_ret (K := K) (rest := tNext) (σ := [some v_cell_here_, some v_many_, some v1, none, none]) (ev_tupL (lv_cons (ev_toS ev_s) (lv_nil (α := SI)))) hm xt.gh fun v17 G18 H19 x20 r21 => q v17 G18 H19 (xt.trans x20) r21
    | false =>
      replace hm := cF hm
      refine iteF ?_
      exact sv_ret (K := K) (ev_tupL (lv_cons (ev_toS ev_s) (lv_cons (ev_toS (ev_atS ev_s (ev_modR (ev_var rfl r5)))) (lv_nil (α := SI))))) hm xt.gh fun v28 G29 H30 x31 r32 => q v28 G29 H30 (xt.trans x31) r32
  | false =>
    replace hm := cF hm
    refine iteF ?_
    obtain ⟨one_, h40, hm⟩ := Option.bind_eq_some_iff.mp hm
    refine sv_set (K := K) (ev_mod (ev_var rfl r5) (ev_var rfl r_many_)) h40 xt.gh fun v35 G36 H37 x38 r39 => ?_
    have xt := xt.trans x38
    have r_cell_here_ := Rp.mono x38.gg r_cell_here_
    have r_many_ := Rp.mono x38.gg r_many_
    have r5 := Rp.mono x38.gg r5
    obtain ⟨other_, h48, hm⟩ := Option.bind_eq_some_iff.mp hm
    refine sv_set (K := K) (ev_mod (ev_modR (ev_mulR (ev_var rfl r5))) (ev_var rfl r_many_)) h48 xt.gh fun v43 G44 H45 x46 r47 => ?_
    have xt := xt.trans x46
    have r_cell_here_ := Rp.mono x46.gg r_cell_here_
    have r_many_ := Rp.mono x46.gg r_many_
    have r5 := Rp.mono x46.gg r5
    have r39 := Rp.mono x46.gg r39
    obtain ⟨b49, h50, hm⟩ := Option.bind_eq_some_iff.mp hm
    refine sv_if (tv_test (K := K) (ev_ord (ev_modR (ev_var rfl r_cell_here_)) ev_i)) h50 xt.gh fun G51 H52 x53 => ?_
    have xt := xt.trans x53
    have r_cell_here_ := Rp.mono x53.gg r_cell_here_
    have r_many_ := Rp.mono x53.gg r_many_
    have r5 := Rp.mono x53.gg r5
    have r39 := Rp.mono x53.gg r39
    have r47 := Rp.mono x53.gg r47
    cases b49 with
    | true =>
      replace hm := cT hm
      refine iteT ?_
      exact sv_ret (K := K) (ev_tupL (lv_cons (ev_toS (ev_at (FV.ev (fv_lst (lv_cons ev_s (lv_cons ev_s (lv_nil (α := Str)))))) (ev_sub (ev_modR (ev_var rfl r_cell_here_)) ev_i))) (lv_cons (ev_toI (ev_var rfl r39)) (lv_nil (α := SI))))) hm xt.gh fun v59 G60 H61 x62 r63 => q v59 G60 H61 (xt.trans x62) r63
    | false =>
      replace hm := cF hm
      refine iteF ?_
      exact sv_ret (K := K) (ev_tupL (lv_cons (ev_toS (ev_at (FV.ev (fv_lst (lv_cons ev_s (lv_cons ev_s (lv_cons ev_s (lv_cons ev_s (lv_nil (α := Str)))))))) (ev_sub (ev_modR (ev_var rfl r_cell_here_)) ev_i))) (lv_cons (ev_toI (ev_var rfl r39)) (lv_cons (ev_toI (ev_var rfl r47)) (lv_nil (α := SI)))))) hm xt.gh fun v69 G70 H71 x72 r73 => q v69 G70 H71 (xt.trans x72) r73
theorem ok_law_size {f : Addr} {fd : FuncData} (F : Fun K "_law_size" "_law_size" s_law_size f fd) (T : Txt mg) : FnOk P w K mg base CX0 1 f fd ["_law_row_here", "_law_sizes"] (spM K mm_law_size) := by
  refine F.ok sc_law_size (fun vs H Q E h => (spM_len h).trans rfl) (fun cdv A outer s H0 vs Q E hr h => ?_)
  obtain ⟨G0, ⟨row_here_, ⟨sizes_, ⟨⟩⟩⟩, res, sg0, ⟨v_row_here_, _, rfl, r_row_here_, ⟨v_sizes_, _, rfl, r_sizes_, rfl⟩⟩, hm, q⟩ := h
  replace r_row_here_ : Rp.rel K G0 v_row_here_ row_here_ := r_row_here_
  replace r_sizes_ : Rp.rel K G0 v_sizes_ sizes_ := r_sizes_
  replace hm : m_law_size row_here_ sizes_ = some res := hm
  unfold m_law_size at hm
  have xt : Ext G0 H0 G0 H0 := Ext.refl sg0
  refine ⟨_, (pss_cons (ps_if (pt_cmpR op_eq (pe_ix (ix_anyK (K := K) rfl) (pv 0) pe_int (fun _ _ => rfl)) pe_str (nomark _)) (pss_cons (ps_ret pe_int)
      pss_nil) pss_nil)
      (pss_cons (ps_ret (pe_op (op_plusK (K := K) rfl) pe_int (pe_callB (call_sumK (K := K) rfl rfl) (by rfl) T.sum_ bt_sum (pa_cons (pe_comp (cn := ["_law_sizes"]) (cap := [1]) rfl ⟨by decide +kernel, rfl, by decide +kernel, free_of rfl⟩ rfl (by decide +kernel) ⟨⟨rfl, .inl rfl, rfl⟩, trivial⟩ (pi_anyK (K := K) rfl (pe_slice (sl_tupK (K := K) rfl) (pv 0) (po_some pe_int) po_none)) (fun C s0 H0 fp => ⟨pts_nil, (pe_ix (ix_anyK (K := K) rfl) (pv 1) (pv 0) (fun _ _ => rfl))⟩)) pa_nil))))
      pss_nil)), ?_⟩
  obtain ⟨b7, h8, hm⟩ := Option.bind_eq_some_iff.mp hm
  refine sv_if (tv_test (K := K) (ev_eqS (ev_asS (ev_atT (ev_var rfl r_row_here_) ev_i)) ev_s)) h8 xt.gh fun G9 H10 x11 => ?_
  have xt := xt.trans x11
  have r_row_here_ := Rp.mono x11.gg r_row_here_
  have r_sizes_ := Rp.mono x11.gg r_sizes_
  cases b7 with
  | true =>
    replace hm := cT hm
    refine iteT ?_
    exact sv_ret (K := K) (rest := tNext) (σ := [some v_row_here_, some v_sizes_]) ev_i hm xt.gh fun v12 G13 H14 x15 r16 => q v12 G13 H14 (xt.trans x15) r16
  | false =>
    replace hm := cF hm
    refine iteF ?_
    exact sv_ret (K := K) (ev_add ev_i (ev_sum (FV.ev (fv_map (cap := [1]) (fe := fun (at_ : SI) => ((some sizes_).bind fun t26 => ((some at_).bind fun t25 => asI t25).bind fun t27 => atI t26 t27)) (iw_tup (ev_sliceT (ev_var rfl r_row_here_) (ov_some (K := K) ev_i) ov_none)) fun xc24 at_ Gc21 sc22 rc23 => (ev_at (ev_var rfl (Rp.mono sc22 r_sizes_)) (ev_asI (ev_var rfl rc23))))))) hm xt.gh fun v31 G32 H33 x34 r35 => q v31 G32 H33 (xt.trans x34) r35
theorem ok_law_book {f : Addr} {fd : FuncData} (F : Fun K "_law_book" "_law_book" s_law_book f fd) (T : Txt mg) (D_law_row : DefOk P w K mg base "_law_row" 1 ["_law_cell_here", "_law_many"] (spM K mm_law_row)) (D_law_size : DefOk P w K mg base "_law_size" 1 ["_law_row_here", "_law_sizes"] (spM K mm_law_size)) : FnOk P w K mg base CX0 2 f fd ["_law_cells"] (spM K mm_law_book) := by
  refine F.ok sc_law_book (fun vs H Q E h => (spM_len h).trans rfl) (fun cdv A outer s H0 vs Q E hr h => ?_)
  obtain ⟨G0, ⟨cells_, ⟨⟩⟩, res, sg0, ⟨v_cells_, _, rfl, r_cells_, rfl⟩, hm, q⟩ := h
  replace r_cells_ : Rp.rel K G0 v_cells_ cells_ := r_cells_
  replace hm : m_law_book cells_ = some res := hm
  unfold m_law_book at hm
  have xt : Ext G0 H0 G0 H0 := Ext.refl sg0
  refine ⟨_, (pss_cons (ps_set (i := 1) sc_law_book.nd rfl (Or.inl rfl) (pe_lst pa_nil))
      (pss_cons (ps_set (i := 2) sc_law_book.nd rfl (Or.inl rfl) (pe_lst pa_nil))
      (pss_cons (ps_for PassesOwn.never rfl (pi_anyK (K := K) rfl (pv 0)) (pg_name (i := 3) sc_law_book.nd rfl (Or.inl rfl)) (pss_cons (ps_set (i := 4) sc_law_book.nd rfl (Or.inl rfl) (pe_def D_law_row hr (by decide) rfl (pa_cons (pv 3) (pa_cons (pe_callB (call_lenK (K := K) rfl) (by rfl) T.len_ bt_len (pa_cons (pv 1) pa_nil)) pa_nil))))
      (pss_cons (ps_set (i := 5) sc_law_book.nd rfl (Or.inl rfl) (pe_def D_law_size hr (by decide) rfl (pa_cons (pv 4) (pa_cons (pv 2) pa_nil))))
      (pss_cons (ps_if (PW.pt (pw_and (pt_cmpR op_ltU (pv 5) pe_int (nomark _)) (pw_and1 (pt_cmpR (op_notInE (K := K) rfl (Tp SI) hr (by decide)) (pv 4) (pv 1) rfl)))) (pss_cons (ps_expr (pe_bmK (K := K) rfl PySem.F.plainAttrs_list PySem.F.slot_list_append PySem.F.type_list_append mt_append (pv 1) (pa_cons (pv 4) pa_nil)))
      (pss_cons (ps_expr (pe_bmK (K := K) rfl PySem.F.plainAttrs_list PySem.F.slot_list_append PySem.F.type_list_append mt_append (pv 2) (pa_cons (pv 5) pa_nil)))
      pss_nil)) pss_nil)
      pss_nil))))
      (pss_cons (ps_ret (pv 1))
      pss_nil)))), ?_⟩
  obtain ⟨rows_, h8, hm⟩ := Option.bind_eq_some_iff.mp hm
  refine sv_own (K := K) (fv_lst (lv_nil (α := (Tp SI)))) h8 xt.gh fun p1 vs2 G3 H4 x5 hz6 o7 => ?_
  have hz6 := xt.hh.free hz6
  have xt := xt.trans x5
  have r_cells_ := Rp.mono x5.gg r_cells_
  obtain ⟨sizes_, h16, hm⟩ := Option.bind_eq_some_iff.mp hm
  refine sv_own (K := K) (fv_lst (lv_nil (α := Int))) h16 xt.gh fun p9 vs10 G11 H12 x13 hz14 o15 => ?_
  have ne_p1_p9 : p1 ≠ p9 := ne_of_none o7.h hz14
  have hz14 := xt.hh.free hz14
  have xt := xt.trans x13
  have r_cells_ := Rp.mono x13.gg r_cells_
  have o7 := o7.ext x13
  obtain ⟨as17, h18, hm⟩ := Option.bind_eq_some_iff.mp hm
  obtain ⟨fl19, h20, hm⟩ := Option.bind_eq_some_iff.mp hm
  refine sv_for (K := K) (RR := fun r v G' H' => Ext G0 H0 G' H' ∧ Rp.rel K G' v r) (iw_list (ev_var rfl r_cells_)) h18 h20 xt.gh fun G21 H22 x23 => ⟨fun s24 S' G' H' => ∃ (v25 : Option V) (v26 : Option V) (v27 : Option V), Ext G0 H0 G' H' ∧ Same G21 G' ∧ S' = [some v_cells_, some (V.ref p1), some (V.ref p9), v25, v26, v27] ∧ (∃ vs, Own K G' H' (V.ref p1) p1 vs s24.1) ∧ (∃ vs, Own K G' H' (V.ref p9) p9 vs s24.2), ?_, ?_, ?_, ?_, ?_⟩
  · have xt := xt.trans x23
    have r_cells_ := Rp.mono x23.gg r_cells_
    have o7 := o7.ext x23
    have o15 := o15.ext x23
    exact ⟨_, _, _, xt, (Same.refl _), rfl, ⟨_, o7⟩, ⟨_, o15⟩⟩
  · rintro _ S' G' H' ⟨v25, v26, v27, xt, mk28, rfl, ⟨vs2, o7⟩, ⟨vs10, o15⟩⟩
    exact ⟨mk28, xt.gh⟩
  · rintro xv29 a30 s24 _ G33 H34 fl31 - ⟨v25, v26, v27, xt, mk28, rfl, ⟨vs2, o7⟩, ⟨vs10, o15⟩⟩ rx32 hm D' kN35 kC36 kB37 kR38
    have r_cells_ := Rp.mono (x23.gg.trans mk28) r_cells_
    refine sv_turn ?_
    obtain ⟨row_here_, h48, hm⟩ := Option.bind_eq_some_iff.mp hm
    refine sv_setB (K := K) o7 (ev_def2 (m := mm_law_row) (ev_var rfl (Rp.mono (Same.new o7.g) rx32)) (ev_len (ev_var rfl o7.tell))) h48 xt.gh fun v43 G44 H45 x46 r47 => ?_
    have xt := xt.trans x46
    have mk28 := mk28.trans x46.gg
    have r_cells_ := Rp.mono x46.gg r_cells_
    have o7 := o7.ext x46
    have o15 := o15.ext x46
    have rx32 := Rp.mono x46.gg rx32
    obtain ⟨size_here_, h58, hm⟩ := Option.bind_eq_some_iff.mp hm
    refine sv_setB (K := K) o15 (ev_def2 (m := mm_law_size) (ev_var rfl (Rp.mono (Same.new o15.g) r47)) (ev_var rfl o15.tell)) h58 xt.gh fun v53 G54 H55 x56 r57 => ?_
    have xt := xt.trans x56
    have mk28 := mk28.trans x56.gg
    have r_cells_ := Rp.mono x56.gg r_cells_
    have o7 := o7.ext x56
    have o15 := o15.ext x56
    have rx32 := Rp.mono x56.gg rx32
    have r47 := Rp.mono x56.gg r47
    obtain ⟨b59, h60, hm⟩ := Option.bind_eq_some_iff.mp hm
    refine sv_ifB o7 (tv_andP (tv_test (K := K) (ev_ord (ev_var rfl (Rp.mono (Same.new o7.g) r57)) ev_i)) (tv_test (K := K) (ev_notInE (ev_var rfl (Rp.mono (Same.new o7.g) r47)) (ev_var rfl o7.tell)))) h60 xt.gh fun G61 H62 x63 => ?_
    have xt := xt.trans x63
    have mk28 := mk28.trans x63.gg
    have r_cells_ := Rp.mono x63.gg r_cells_
    have o7 := o7.ext x63
    have o15 := o15.ext x63
    have rx32 := Rp.mono x63.gg rx32
    have r47 := Rp.mono x63.gg r47
    have r57 := Rp.mono x63.gg r57
    cases b59 with
    | true =>
      replace hm := cT hm
      refine iteT ?_
      obtain ⟨a64, h65, hm⟩ := Option.bind_eq_some_iff.mp hm
      obtain ⟨z72, h66, hm⟩ := Option.bind_eq_some_iff.mp hm
      refine sv_append (K := K) rfl o7 (ev_var rfl r47) h65 h66 xt.gh fun G67 H68 w69 x70 o71 => ?_
      have xt : Ext G0 H0 G67 (upd H68 p1 (.lst (vs2 ++ [w69]))) := (xt.trans x70).put hz6 o71.g
      have mk28 := mk28.trans x70.gg
      have r_cells_ := Rp.mono x70.gg r_cells_
      have o15 := (o15.ext x70).put (q := p1) (ho := .lst (vs2 ++ [w69])) (by first | assumption | exact Ne.symm (by assumption))
      have rx32 := Rp.mono x70.gg rx32
      have r47 := Rp.mono x70.gg r47
      have r57 := Rp.mono x70.gg r57
      obtain ⟨a73, h74, hm⟩ := Option.bind_eq_some_iff.mp hm
      obtain ⟨z81, h75, hm⟩ := Option.bind_eq_some_iff.mp hm
      refine sv_append (K := K) rfl o15 (ev_var rfl r57) h74 h75 xt.gh fun G76 H77 w78 x79 o80 => ?_
      have xt : Ext G0 H0 G76 (upd H77 p9 (.lst (vs10 ++ [w78]))) := (xt.trans x79).put hz14 o80.g
      have mk28 := mk28.trans x79.gg
      have r_cells_ := Rp.mono x79.gg r_cells_
      have o71 := (o71.ext x79).put (q := p9) (ho := .lst (vs10 ++ [w78])) (by first | assumption | exact Ne.symm (by assumption))
      have rx32 := Rp.mono x79.gg rx32
      have r47 := Rp.mono x79.gg r47
      have r57 := Rp.mono x79.gg r57
      cases hm
      exact kN35 _ _ _ _ rfl ⟨_, _, _, xt, mk28, rfl, ⟨_, o71⟩, ⟨_, o80⟩⟩
    | false =>
      replace hm := cF hm
      refine iteF ?_
      cases hm
      exact kN35 _ _ _ _ rfl ⟨_, _, _, xt, mk28, rfl, ⟨_, o7⟩, ⟨_, o15⟩⟩
  · rintro s24 _ G86 H87 rfl ⟨v82, v83, v84, xt, mk85, rfl, ⟨vs2, o7⟩, ⟨vs10, o15⟩⟩
    refine sv_nx ?_
    have r_cells_ := Rp.mono (x23.gg.trans mk85) r_cells_
    have sf := Same.new (o := .lst vs2) o7.g
    have xt := xt.frz hz6 o7.g o7.h
    have r88 := o7.tell
    have r_cells_ := Rp.mono sf r_cells_
    have o15 := o15.over (o := .lst vs2) (by first | assumption | exact Ne.symm (by assumption)) o7.g
    exact sv_ret (K := K) (ev_var rfl r88) hm xt.gh fun v89 G90 H91 x92 r93 => q v89 G90 H91 (xt.trans x92) r93
  · rintro r' v' G' H' rfl rl
    cases hm
    exact q v' G' H' rl.1 rl.2
theorem ok_law_lit {f : Addr} {fd : FuncData} (F : Fun K "_law_lit" "_law_lit" s_law_lit f fd) (T : Txt mg) : FnOk P w K mg base CX0 1 f fd ["_law_cell_here"] (spM K mm_law_lit) := by
  refine F.ok sc_law_lit (fun vs H Q E h => (spM_len h).trans rfl) (fun cdv A outer s H0 vs Q E hr h => ?_)
  obtain ⟨G0, ⟨cell_here_, ⟨⟩⟩, res, sg0, ⟨v_cell_here_, _, rfl, r_cell_here_, rfl⟩, hm, q⟩ := h
  replace r_cell_here_ : Rp.rel K G0 v_cell_here_ cell_here_ := r_cell_here_
  replace hm : m_law_lit cell_here_ = some res := hm
  unfold m_law_lit at hm
  have xt : Ext G0 H0 G0 H0 := Ext.refl sg0
  refine ⟨_, (pss_cons (ps_set (i := 1) sc_law_lit.nd rfl (Or.inl rfl) (pe_op op_mod (pv 0) (pe_op op_pow pe_int pe_int)))
      (pss_cons (ps_set (i := 2) sc_law_lit.nd rfl (Or.inl rfl) pe_str)
      (pss_cons (ps_for PassesOwn.never rfl (pi_anyK (K := K) rfl pe_str) (pg_name (i := 3) sc_law_lit.nd rfl (Or.inl rfl)) (pss_cons (ps_if (pt_cmpR op_eq (pe_op op_mod (pv 1) pe_int) pe_int (nomark _)) (pss_cons (ps_set (i := 2) sc_law_lit.nd rfl (Or.inl rfl) (pe_op (op_plusK (K := K) rfl) (pv 2) (pv 3)))
      pss_nil) pss_nil)
      (pss_cons (ps_set (i := 1) sc_law_lit.nd rfl (Or.inl rfl) (pe_op op_fdiv (pv 1) pe_int))
      pss_nil)))
      (pss_cons (ps_ret (pv 2))
      pss_nil)))), ?_⟩
  obtain ⟨number_, h6, hm⟩ := Option.bind_eq_some_iff.mp hm
  refine sv_set (K := K) (ev_modC (ev_var rfl r_cell_here_) (EV.of (m' := some (67108864 : Int)) (ev_pow (ev_i (i := 2)) (ev_i (i := 26))) (by decide +kernel)) (by decide +kernel)) h6 xt.gh fun v1 G2 H3 x4 r5 => ?_
  have xt := xt.trans x4
  have r_cell_here_ := Rp.mono x4.gg r_cell_here_
  obtain ⟨lit_here_, h12, hm⟩ := Option.bind_eq_some_iff.mp hm
  refine sv_set (K := K) ev_s h12 xt.gh fun v7 G8 H9 x10 r11 => ?_
  have xt := xt.trans x10
  have r_cell_here_ := Rp.mono x10.gg r_cell_here_
  have r5 := Rp.mono x10.gg r5
  obtain ⟨as13, h14, hm⟩ := Option.bind_eq_some_iff.mp hm
  obtain ⟨fl15, h16, hm⟩ := Option.bind_eq_some_iff.mp hm
  refine sv_for (K := K) (RR := fun r v G' H' => Ext G0 H0 G' H' ∧ Rp.rel K G' v r) (iw_str ev_s) h14 h16 xt.gh fun G17 H18 x19 => ⟨fun s20 S' G' H' => ∃ (v21 : V) (v22 : V) (v23 : Option V), Ext G0 H0 G' H' ∧ Same G17 G' ∧ S' = [some v_cell_here_, some v21, some v22, v23] ∧ Rp.rel K G' v21 (s20.1 : Int) ∧ Rp.rel K G' v22 (s20.2 : Str), ?_, ?_, ?_, ?_, ?_⟩
  · have xt := xt.trans x19
    have r_cell_here_ := Rp.mono x19.gg r_cell_here_
    have r5 := Rp.mono x19.gg r5
    have r11 := Rp.mono x19.gg r11
    exact ⟨v1, v7, _, xt, (Same.refl _), rfl, r5, r11⟩
  · rintro _ S' G' H' ⟨v21, v22, v23, xt, mk24, rfl, r25, r26⟩
    exact ⟨mk24, xt.gh⟩
  · rintro xv27 a28 s20 _ G31 H32 fl29 - ⟨v21, v22, v23, xt, mk24, rfl, r25, r26⟩ rx30 hm D' kN33 kC34 kB35 kR36
    have r_cell_here_ := Rp.mono (x19.gg.trans mk24) r_cell_here_
    refine sv_turn ?_
    obtain ⟨b37, h38, hm⟩ := Option.bind_eq_some_iff.mp hm
    obtain ⟨s42, h43, hm⟩ := Option.bind_eq_some_iff.mp hm
    refine sv_join (fun S58 H57 => ∃ (G56 : Hp) (v45 : V), Ext G0 H0 G56 H57 ∧ Same G31 G56 ∧ S58 = [some v_cell_here_, some v21, some v45, some xv27] ∧ Rp.rel K G56 v45 (s42 : Str)) (fun nx kn47 => ?_) ?_
    · refine sv_if (tv_test (K := K) (ev_eqI (ev_modR (ev_var rfl r25)) ev_i)) h38 xt.gh fun G39 H40 x41 => ?_
      have xt := xt.trans x41
      have mk24 := mk24.trans x41.gg
      have r_cell_here_ := Rp.mono x41.gg r_cell_here_
      have r25 := Rp.mono x41.gg r25
      have r26 := Rp.mono x41.gg r26
      have rx30 := Rp.mono x41.gg rx30
      have mk44 : Same G31 G39 := x41.gg
      have hm := h43
      cases b37 with
      | true =>
        replace hm := cT hm
        refine iteT ?_
        obtain ⟨lit_here_, h55, hm⟩ := Option.bind_eq_some_iff.mp hm
        refine sv_set (K := K) (ev_catS (ev_var rfl r26) (ev_var rfl rx30)) h55 xt.gh fun v50 G51 H52 x53 r54 => ?_
        have xt := xt.trans x53
        have mk24 := mk24.trans x53.gg
        have mk44 := mk44.trans x53.gg
        have r_cell_here_ := Rp.mono x53.gg r_cell_here_
        have r25 := Rp.mono x53.gg r25
        have r26 := Rp.mono x53.gg r26
        have rx30 := Rp.mono x53.gg rx30
        cases hm
        exact kn47 _ _ ⟨G51, v50, xt, mk44, rfl, r54⟩
      | false =>
        replace hm := cF hm
        refine iteF ?_
        cases hm
        exact kn47 _ _ ⟨G39, v22, xt, mk44, rfl, r26⟩
    · rintro _ H57 ⟨G56, v45, xt, mk44, rfl, r46⟩
      have mk24 := mk24.trans mk44
      have r_cell_here_ := Rp.mono mk44 r_cell_here_
      have r25 := Rp.mono mk44 r25
      have rx30 := Rp.mono mk44 rx30
      obtain ⟨number_, h64, hm⟩ := Option.bind_eq_some_iff.mp hm
      refine sv_set (K := K) (ev_divR (ev_var rfl r25)) h64 xt.gh fun v59 G60 H61 x62 r63 => ?_
      have xt := xt.trans x62
      have mk24 := mk24.trans x62.gg
      have r_cell_here_ := Rp.mono x62.gg r_cell_here_
      have r25 := Rp.mono x62.gg r25
      have r46 := Rp.mono x62.gg r46
      have rx30 := Rp.mono x62.gg rx30
      cases hm
      exact kN33 _ _ _ _ rfl ⟨v59, v45, _, xt, mk24, rfl, r63, r46⟩
  · rintro s20 _ G71 H72 rfl ⟨v65, v66, v67, xt, mk68, rfl, r69, r70⟩
    refine sv_nx ?_
    have r_cell_here_ := Rp.mono (x19.gg.trans mk68) r_cell_here_
    exact sv_ret (K := K) (ev_var rfl r70) hm xt.gh fun v73 G74 H75 x76 r77 => q v73 G74 H75 (xt.trans x76) r77
  · rintro r' v' G' H' rfl rl
    cases hm
    exact q v' G' H' rl.1 rl.2
theorem ok_law_behind {f : Addr} {fd : FuncData} (F : Fun K "_law_behind" "_law_behind" s_law_behind f fd) (T : Txt mg) : FnOk P w K mg base CX0 1 f fd ["_law_rows", "_law_cell_here"] (spM K mm_law_behind) := by
  refine F.ok sc_law_behind (fun vs H Q E h => (spM_len h).trans rfl) (fun cdv A outer s H0 vs Q E hr h => ?_)
  obtain ⟨G0, ⟨rows_, ⟨cell_here_, ⟨⟩⟩⟩, res, sg0, ⟨v_rows_, _, rfl, r_rows_, ⟨v_cell_here_, _, rfl, r_cell_here_, rfl⟩⟩, hm, q⟩ := h
  replace r_rows_ : Rp.rel K G0 v_rows_ rows_ := r_rows_
  replace r_cell_here_ : Rp.rel K G0 v_cell_here_ cell_here_ := r_cell_here_
  replace hm : m_law_behind rows_ cell_here_ = some res := hm
  unfold m_law_behind at hm
  have xt : Ext G0 H0 G0 H0 := Ext.refl sg0
  refine ⟨_, (pss_cons (ps_set (i := 2) sc_law_behind.nd rfl (Or.inl rfl) (pe_op op_mod (pv 1) (pe_op op_pow pe_int pe_int)))
      (pss_cons (ps_set (i := 3) sc_law_behind.nd rfl (Or.inl rfl) pe_dnewK)
      (pss_cons (ps_for PassesOwn.never rfl (pi_range1 rfl T.range_ (pa_cons (pe_callB (call_lenK (K := K) rfl) (by rfl) T.len_ bt_len (pa_cons (pv 0) pa_nil)) pa_nil)) (pg_name (i := 4) sc_law_behind.nd rfl (Or.inl rfl)) (pss_cons (ps_if (PW.pt (pw_or (pt_cmpR op_eq (pe_ix (ix_anyK (K := K) rfl) (pe_ix (ix_anyK (K := K) rfl) (pv 0) (pv 4) (fun _ _ => rfl)) pe_int (fun _ _ => rfl)) pe_str (nomark _)) (pw_or1 (pt_cmpR (op_inE (K := K) rfl (Tp SI) hr (by decide)) (pe_tup (pa_cons pe_str (pa_cons (pv 4) pa_nil))) (pv 0) rfl)))) (pss_cons (ps_dput (room_u hr) (pv 3) (pv 4) (pe_cmpR op_eq (pe_op op_mod (pv 2) pe_int) pe_int (nomark _)) rfl)
      (pss_cons (ps_set (i := 2) sc_law_behind.nd rfl (Or.inl rfl) (pe_op op_fdiv (pv 2) pe_int))
      pss_nil)) pss_nil)
      pss_nil))
      (pss_cons (ps_ret (pe_frz (pv 3)))
      pss_nil)))), ?_⟩
  obtain ⟨number_, h6, hm⟩ := Option.bind_eq_some_iff.mp hm
  refine sv_set (K := K) (ev_modC (ev_var rfl r_cell_here_) (EV.of (m' := some (1000000000000000000000000000000000000000000000000000000000000 : Int)) (ev_pow (ev_i (i := 10)) (ev_i (i := 60))) (by decide +kernel)) (by decide +kernel)) h6 xt.gh fun v1 G2 H3 x4 r5 => ?_
  have xt := xt.trans x4
  have r_rows_ := Rp.mono x4.gg r_rows_
  have r_cell_here_ := Rp.mono x4.gg r_cell_here_
  obtain ⟨behind_here_, h14, hm⟩ := Option.bind_eq_some_iff.mp hm
  refine sv_ownM (K := K) h14 xt.gh fun p7 vs8 G9 H10 x11 hz12 o13 => ?_
  have hz12 := xt.hh.free hz12
  have xt := xt.trans x11
  have r_rows_ := Rp.mono x11.gg r_rows_
  have r_cell_here_ := Rp.mono x11.gg r_cell_here_
  have r5 := Rp.mono x11.gg r5
  obtain ⟨as16, h17, hm⟩ := Option.bind_eq_some_iff.mp hm
  obtain ⟨fl18, h19, hm⟩ := Option.bind_eq_some_iff.mp hm
  refine sv_for (K := K) (RR := fun r v G' H' => Ext G0 H0 G' H' ∧ Rp.rel K G' v r) (iw_rng1 (ev_len (ev_var rfl r_rows_))) h17 h19 xt.gh fun G20 H21 x22 => ⟨fun s23 S' G' H' => ∃ (v24 : V) (v25 : Option V), Ext G0 H0 G' H' ∧ Same G20 G' ∧ S' = [some v_rows_, some v_cell_here_, some v24, some (V.ref p7), v25] ∧ Rp.rel K G' v24 (s23.1 : Int) ∧ (∃ vs, OwnM K G' H' (V.ref p7) p7 vs s23.2), ?_, ?_, ?_, ?_, ?_⟩
  · have xt := xt.trans x22
    have r_rows_ := Rp.mono x22.gg r_rows_
    have r_cell_here_ := Rp.mono x22.gg r_cell_here_
    have r5 := Rp.mono x22.gg r5
    have o13 := o13.ext x22
    exact ⟨v1, _, xt, (Same.refl _), rfl, r5, ⟨_, o13⟩⟩
  · rintro _ S' G' H' ⟨v24, v25, xt, mk26, rfl, r27, ⟨vs8, o13⟩⟩
    exact ⟨mk26, xt.gh⟩
  · rintro xv28 a29 s23 _ G32 H33 fl30 - ⟨v24, v25, xt, mk26, rfl, r27, ⟨vs8, o13⟩⟩ rx31 hm D' kN34 kC35 kB36 kR37
    have r_rows_ := Rp.mono (x22.gg.trans mk26) r_rows_
    have r_cell_here_ := Rp.mono (x22.gg.trans mk26) r_cell_here_
    refine sv_turn ?_
    obtain ⟨b49, h50, hm⟩ := Option.bind_eq_some_iff.mp hm
    refine sv_if (tv_or (tv_test (K := K) (ev_eqS (ev_asS (ev_atT (ev_at (ev_var rfl r_rows_) (ev_var rfl rx31)) ev_i)) ev_s)) (tv_test (K := K) (ev_inE (ev_tupL (lv_cons (ev_toS ev_s) (lv_cons (ev_toI (ev_var rfl rx31)) (lv_nil (α := SI))))) (ev_var rfl r_rows_)))) h50 xt.gh fun G51 H52 x53 => ?_
    have xt := xt.trans x53
    have mk26 := mk26.trans x53.gg
    have r_rows_ := Rp.mono x53.gg r_rows_
    have r_cell_here_ := Rp.mono x53.gg r_cell_here_
    have r27 := Rp.mono x53.gg r27
    have o13 := o13.ext x53
    have rx31 := Rp.mono x53.gg rx31
    cases b49 with
    | true =>
      replace hm := cT hm
      refine iteT ?_
      obtain ⟨a54, h55, hm⟩ := Option.bind_eq_some_iff.mp hm
      obtain ⟨k56, h57, hm⟩ := Option.bind_eq_some_iff.mp hm
      obtain ⟨z64, h58, hm⟩ := Option.bind_eq_some_iff.mp hm
      refine sv_dput (K := K) rfl o13 (ev_eqI (ev_modR (ev_var rfl r27)) ev_i) h55 (ev_var rfl rx31) h57 h58 xt.gh fun G59 H60 w61 x62 o63 => ?_
      have xt : Ext G0 H0 G59 (upd H60 p7 (.dK (putK vs8 (.inl k56) w61))) := (xt.trans x62).put hz12 o63.g
      have mk26 := mk26.trans x62.gg
      have r_rows_ := Rp.mono x62.gg r_rows_
      have r_cell_here_ := Rp.mono x62.gg r_cell_here_
      have r27 := Rp.mono x62.gg r27
      have rx31 := Rp.mono x62.gg rx31
      obtain ⟨number_, h70, hm⟩ := Option.bind_eq_some_iff.mp hm
      refine sv_set (K := K) (ev_divR (ev_var rfl r27)) h70 xt.gh fun v65 G66 H67 x68 r69 => ?_
      have xt := xt.trans x68
      have mk26 := mk26.trans x68.gg
      have r_rows_ := Rp.mono x68.gg r_rows_
      have r_cell_here_ := Rp.mono x68.gg r_cell_here_
      have r27 := Rp.mono x68.gg r27
      have o63 := o63.ext x68
      have rx31 := Rp.mono x68.gg rx31
      cases hm
      exact kN34 _ _ _ _ rfl ⟨v65, _, xt, mk26, rfl, r69, ⟨_, o63⟩⟩
    | false =>
      replace hm := cF hm
      refine iteF ?_
      cases hm
      exact kN34 _ _ _ _ rfl ⟨v24, _, xt, mk26, rfl, r27, ⟨_, o13⟩⟩
  · rintro s23 _ G75 H76 rfl ⟨v71, v72, xt, mk73, rfl, r74, ⟨vs8, o13⟩⟩
    refine sv_nx ?_
    have r_rows_ := Rp.mono (x22.gg.trans mk73) r_rows_
    have r_cell_here_ := Rp.mono (x22.gg.trans mk73) r_cell_here_
    cases hm
    exact sv_retFz (K := K) rfl o13 xt hz12 fun v9 G9 H9 x9 r9 => q v9 G9 H9 x9 r9
  · rintro r' v' G' H' rfl rl
    cases hm
    exact q v' G' H' rl.1 rl.2
theorem ok_truth_of {f : Addr} {fd : FuncData} (F : Fun K "truth_of" "truth_of" s_truth_of f fd) (T : Txt mg) : FnOk P w K mg base CX0 1 f fd ["rows", "number", "moment", "claimed", "view"] (spM K mm_truth_of) := by
  refine F.ok sc_truth_of (fun vs H Q E h => (spM_len h).trans rfl) (fun cdv A outer s H0 vs Q E hr h => ?_)
  obtain ⟨G0, ⟨rows_, ⟨number_, ⟨moment_, ⟨claimed_, ⟨view_, ⟨⟩⟩⟩⟩⟩⟩, res, sg0, ⟨v_rows_, _, rfl, r_rows_, ⟨v_number_, _, rfl, r_number_, ⟨v_moment_, _, rfl, r_moment_, ⟨v_claimed_, _, rfl, r_claimed_, ⟨v_view_, _, rfl, r_view_, rfl⟩⟩⟩⟩⟩, hm, q⟩ := h
  replace r_rows_ : Rp.rel K G0 v_rows_ rows_ := r_rows_
  replace r_number_ : Rp.rel K G0 v_number_ number_ := r_number_
  replace r_moment_ : Rp.rel K G0 v_moment_ moment_ := r_moment_
  replace r_claimed_ : Rp.rel K G0 v_claimed_ claimed_ := r_claimed_
  replace r_view_ : Rp.rel K G0 v_view_ view_ := r_view_
  replace hm : m_truth_of rows_ number_ moment_ claimed_ view_ = some res := hm
  unfold m_truth_of at hm
  have xt : Ext G0 H0 G0 H0 := Ext.refl sg0
  refine ⟨_, (pss_cons (ps_set (i := 5) sc_truth_of.nd rfl (Or.inl rfl) (pe_ix (ix_anyK (K := K) rfl) (pv 0) (pv 1) (fun _ _ => rfl)))
      (pss_cons (ps_set (i := 6) sc_truth_of.nd rfl (Or.inl rfl) (pe_ix (ix_anyK (K := K) rfl) (pv 5) pe_int (fun _ _ => rfl)))
      (pss_cons (ps_if (pt_cmpR op_eq (pv 6) pe_str (nomark _)) (pss_cons (ps_ret (pe_cmpR op_in_str (pe_ix (ix_anyK (K := K) rfl) (pv 5) pe_int (fun _ _ => rfl)) (pv 2) rfl))
      pss_nil) pss_nil)
      (pss_cons (ps_if (pt_cmpR op_eq (pv 6) pe_str (nomark _)) (pss_cons (ps_ret (pe_not (pe_ix (ix_anyK (K := K) rfl) (pv 4) (pe_ix (ix_anyK (K := K) rfl) (pv 5) pe_int (fun _ _ => rfl)) (fun _ _ => rfl))))
      pss_nil) pss_nil)
      (pss_cons (ps_if (pt_cmpR op_eq (pv 6) pe_str (nomark _)) (pss_cons (ps_ret (pe_and (pe_ix (ix_anyK (K := K) rfl) (pv 4) (pe_ix (ix_anyK (K := K) rfl) (pv 5) pe_int (fun _ _ => rfl)) (fun _ _ => rfl)) (pe_one (pe_ix (ix_anyK (K := K) rfl) (pv 4) (pe_ix (ix_anyK (K := K) rfl) (pv 5) pe_int (fun _ _ => rfl)) (fun _ _ => rfl)))))
      pss_nil) pss_nil)
      (pss_cons (ps_if (pt_cmpR op_eq (pv 6) pe_str (nomark _)) (pss_cons (ps_ret (pe_dget (room_u hr) (pv 3) (pe_ix (ix_anyK (K := K) rfl) (pv 5) pe_int (fun _ _ => rfl)) (fun _ _ => rfl)))
      pss_nil) pss_nil)
      (pss_cons (ps_if (pt_cmpR op_eq (pv 6) pe_str (nomark _)) (pss_cons (ps_ret (pe_or (pe_ix (ix_anyK (K := K) rfl) (pv 4) (pe_ix (ix_anyK (K := K) rfl) (pv 5) pe_int (fun _ _ => rfl)) (fun _ _ => rfl)) (pe_one (pe_and (pe_ix (ix_anyK (K := K) rfl) (pv 4) (pe_ix (ix_anyK (K := K) rfl) (pv 5) pe_int (fun _ _ => rfl)) (fun _ _ => rfl)) (pe_one (pe_dget (room_u hr) (pv 3) (pv 1) (fun _ _ => rfl)))))))
      pss_nil) pss_nil)
      (pss_cons (ps_ret pe_bl)
      pss_nil)))))))), ?_⟩
  obtain ⟨row_, h8, hm⟩ := Option.bind_eq_some_iff.mp hm
  refine sv_set (K := K) (ev_at (ev_var rfl r_rows_) (ev_var rfl r_number_)) h8 xt.gh fun v3 G4 H5 x6 r7 => ?_
  have xt := xt.trans x6
  have r_rows_ := Rp.mono x6.gg r_rows_
  have r_number_ := Rp.mono x6.gg r_number_
  have r_moment_ := Rp.mono x6.gg r_moment_
  have r_claimed_ := Rp.mono x6.gg r_claimed_
  have r_view_ := Rp.mono x6.gg r_view_
  obtain ⟨word_, h16, hm⟩ := Option.bind_eq_some_iff.mp hm
  refine sv_set (K := K) (ev_atT (ev_var rfl r7) ev_i) h16 xt.gh fun v11 G12 H13 x14 r15 => ?_
  have xt := xt.trans x14
  have r_rows_ := Rp.mono x14.gg r_rows_
  have r_number_ := Rp.mono x14.gg r_number_
  have r_moment_ := Rp.mono x14.gg r_moment_
  have r_claimed_ := Rp.mono x14.gg r_claimed_
  have r_view_ := Rp.mono x14.gg r_view_
  have r7 := Rp.mono x14.gg r7
  obtain ⟨b19, h20, hm⟩ := Option.bind_eq_some_iff.mp hm
  refine sv_if (tv_test (K := K) (ev_eqS (ev_asS (ev_var rfl r15)) ev_s)) h20 xt.gh fun G21 H22 x23 => ?_
  have xt := xt.trans x23
  have r_rows_ := Rp.mono x23.gg r_rows_
  have r_number_ := Rp.mono x23.gg r_number_
  have r_moment_ := Rp.mono x23.gg r_moment_
  have r_claimed_ := Rp.mono x23.gg r_claimed_
  have r_view_ := Rp.mono x23.gg r_view_
  have r7 := Rp.mono x23.gg r7
  have r15 := Rp.mono x23.gg r15
  cases b19 with
  | true =>
    replace hm := cT hm
    refine iteT ?_
    exact sv_ret (K := K) (ev_inS (ev_asS (ev_atT (ev_var rfl r7) ev_i)) (ev_var rfl r_moment_)) hm xt.gh fun v30 G31 H32 x33 r34 => q v30 G31 H32 (xt.trans x33) r34
  | false =>
    replace hm := cF hm
    refine iteF ?_
    obtain ⟨b37, h38, hm⟩ := Option.bind_eq_some_iff.mp hm
    refine sv_if (tv_test (K := K) (ev_eqS (ev_asS (ev_var rfl r15)) ev_s)) h38 xt.gh fun G39 H40 x41 => ?_
    have xt := xt.trans x41
    have r_rows_ := Rp.mono x41.gg r_rows_
    have r_number_ := Rp.mono x41.gg r_number_
    have r_moment_ := Rp.mono x41.gg r_moment_
    have r_claimed_ := Rp.mono x41.gg r_claimed_
    have r_view_ := Rp.mono x41.gg r_view_
    have r7 := Rp.mono x41.gg r7
    have r15 := Rp.mono x41.gg r15
    cases b37 with
    | true =>
      replace hm := cT hm
      refine iteT ?_
      exact sv_ret (K := K) (ev_not (ev_at (ev_var rfl r_view_) (ev_asI (ev_atT (ev_var rfl r7) ev_i)))) hm xt.gh fun v48 G49 H50 x51 r52 => q v48 G49 H50 (xt.trans x51) r52
    | false =>
      replace hm := cF hm
      refine iteF ?_
      obtain ⟨b55, h56, hm⟩ := Option.bind_eq_some_iff.mp hm
      refine sv_if (tv_test (K := K) (ev_eqS (ev_asS (ev_var rfl r15)) ev_s)) h56 xt.gh fun G57 H58 x59 => ?_
      have xt := xt.trans x59
      have r_rows_ := Rp.mono x59.gg r_rows_
      have r_number_ := Rp.mono x59.gg r_number_
      have r_moment_ := Rp.mono x59.gg r_moment_
      have r_claimed_ := Rp.mono x59.gg r_claimed_
      have r_view_ := Rp.mono x59.gg r_view_
      have r7 := Rp.mono x59.gg r7
      have r15 := Rp.mono x59.gg r15
      cases b55 with
      | true =>
        replace hm := cT hm
        refine iteT ?_
        exact sv_ret (K := K) (ev_and (ev_at (ev_var rfl r_view_) (ev_asI (ev_atT (ev_var rfl r7) ev_i))) (ev_at (ev_var rfl r_view_) (ev_asI (ev_atT (ev_var rfl r7) ev_i)))) hm xt.gh fun v71 G72 H73 x74 r75 => q v71 G72 H73 (xt.trans x74) r75
      | false =>
        replace hm := cF hm
        refine iteF ?_
        obtain ⟨b78, h79, hm⟩ := Option.bind_eq_some_iff.mp hm
        refine sv_if (tv_test (K := K) (ev_eqS (ev_asS (ev_var rfl r15)) ev_s)) h79 xt.gh fun G80 H81 x82 => ?_
        have xt := xt.trans x82
        have r_rows_ := Rp.mono x82.gg r_rows_
        have r_number_ := Rp.mono x82.gg r_number_
        have r_moment_ := Rp.mono x82.gg r_moment_
        have r_claimed_ := Rp.mono x82.gg r_claimed_
        have r_view_ := Rp.mono x82.gg r_view_
        have r7 := Rp.mono x82.gg r7
        have r15 := Rp.mono x82.gg r15
        cases b78 with
        | true =>
          replace hm := cT hm
          refine iteT ?_
          exact sv_ret (K := K) (ev_getM (ev_var rfl r_claimed_) (ev_asI (ev_atT (ev_var rfl r7) ev_i))) hm xt.gh fun v88 G89 H90 x91 r92 => q v88 G89 H90 (xt.trans x91) r92
        | false =>
          replace hm := cF hm
          refine iteF ?_
          obtain ⟨b95, h96, hm⟩ := Option.bind_eq_some_iff.mp hm
          refine sv_if (tv_test (K := K) (ev_eqS (ev_asS (ev_var rfl r15)) ev_s)) h96 xt.gh fun G97 H98 x99 => ?_
          have xt := xt.trans x99
          have r_rows_ := Rp.mono x99.gg r_rows_
          have r_number_ := Rp.mono x99.gg r_number_
          have r_moment_ := Rp.mono x99.gg r_moment_
          have r_claimed_ := Rp.mono x99.gg r_claimed_
          have r_view_ := Rp.mono x99.gg r_view_
          have r7 := Rp.mono x99.gg r7
          have r15 := Rp.mono x99.gg r15
          cases b95 with
          | true =>
            replace hm := cT hm
            refine iteT ?_
            exact sv_ret (K := K) (ev_or (ev_at (ev_var rfl r_view_) (ev_asI (ev_atT (ev_var rfl r7) ev_i))) (ev_and (ev_at (ev_var rfl r_view_) (ev_asI (ev_atT (ev_var rfl r7) ev_i))) (ev_getM (ev_var rfl r_claimed_) (ev_var rfl r_number_)))) hm xt.gh fun v114 G115 H116 x117 r118 => q v114 G115 H116 (xt.trans x117) r118
          | false =>
            replace hm := cF hm
            refine iteF ?_
            exact sv_ret (K := K) (rest := tNext) (σ := [some v_rows_, some v_number_, some v_moment_, some v_claimed_, some v_view_, some v3, some v11]) ev_b hm xt.gh fun v119 G120 H121 x122 r123 => q v119 G120 H121 (xt.trans x122) r123
theorem ok_view_with {f : Addr} {fd : FuncData} (F : Fun K "view_with" "view_with" s_view_with f fd) (T : Txt mg) (D_truth_of : DefOk P w K mg base "truth_of" 1 ["rows", "number", "moment", "claimed", "view"] (spM K mm_truth_of)) : FnOk P w K mg base CX0 2 f fd ["rows", "moment", "claimed"] (spM K mm_view_with) := by
  refine F.ok sc_view_with (fun vs H Q E h => (spM_len h).trans rfl) (fun cdv A outer s H0 vs Q E hr h => ?_)
  obtain ⟨G0, ⟨rows_, ⟨moment_, ⟨claimed_, ⟨⟩⟩⟩⟩, res, sg0, ⟨v_rows_, _, rfl, r_rows_, ⟨v_moment_, _, rfl, r_moment_, ⟨v_claimed_, _, rfl, r_claimed_, rfl⟩⟩⟩, hm, q⟩ := h
  replace r_rows_ : Rp.rel K G0 v_rows_ rows_ := r_rows_
  replace r_moment_ : Rp.rel K G0 v_moment_ moment_ := r_moment_
  replace r_claimed_ : Rp.rel K G0 v_claimed_ claimed_ := r_claimed_
  replace hm : m_view_with rows_ moment_ claimed_ = some res := hm
  unfold m_view_with at hm
  have xt : Ext G0 H0 G0 H0 := Ext.refl sg0
  refine ⟨_, (pss_cons (ps_set (i := 3) sc_view_with.nd rfl (Or.inl rfl) (pe_lst pa_nil))
      (pss_cons (ps_for PassesOwn.never rfl (pi_range1 rfl T.range_ (pa_cons (pe_callB (call_lenK (K := K) rfl) (by rfl) T.len_ bt_len (pa_cons (pv 0) pa_nil)) pa_nil)) (pg_name (i := 4) sc_view_with.nd rfl (Or.inl rfl)) (pss_cons (ps_expr (pe_bmK (K := K) rfl PySem.F.plainAttrs_list PySem.F.slot_list_append PySem.F.type_list_append mt_append (pv 3) (pa_cons (pe_def D_truth_of hr (by decide) rfl (pa_cons (pv 0) (pa_cons (pv 4) (pa_cons (pv 1) (pa_cons (pv 2) (pa_cons (pv 3) pa_nil)))))) pa_nil)))
      pss_nil))
      (pss_cons (ps_ret (pe_callTy (call_tupK (K := K) rfl) (by rfl) T.tuple_ bt_tuple (pa_cons (pv 3) pa_nil)))
      pss_nil))), ?_⟩
  obtain ⟨view_, h8, hm⟩ := Option.bind_eq_some_iff.mp hm
  refine sv_own (K := K) (fv_lst (lv_nil (α := Bool))) h8 xt.gh fun p1 vs2 G3 H4 x5 hz6 o7 => ?_
  have hz6 := xt.hh.free hz6
  have xt := xt.trans x5
  have r_rows_ := Rp.mono x5.gg r_rows_
  have r_moment_ := Rp.mono x5.gg r_moment_
  have r_claimed_ := Rp.mono x5.gg r_claimed_
  obtain ⟨as10, h11, hm⟩ := Option.bind_eq_some_iff.mp hm
  obtain ⟨fl12, h13, hm⟩ := Option.bind_eq_some_iff.mp hm
  refine sv_for (K := K) (RR := fun r v G' H' => Ext G0 H0 G' H' ∧ Rp.rel K G' v r) (iw_rng1 (ev_len (ev_var rfl r_rows_))) h11 h13 xt.gh fun G14 H15 x16 => ⟨fun s17 S' G' H' => ∃ (v18 : Option V), Ext G0 H0 G' H' ∧ Same G14 G' ∧ S' = [some v_rows_, some v_moment_, some v_claimed_, some (V.ref p1), v18] ∧ (∃ vs, Own K G' H' (V.ref p1) p1 vs s17), ?_, ?_, ?_, ?_, ?_⟩
  · have xt := xt.trans x16
    have r_rows_ := Rp.mono x16.gg r_rows_
    have r_moment_ := Rp.mono x16.gg r_moment_
    have r_claimed_ := Rp.mono x16.gg r_claimed_
    have o7 := o7.ext x16
    exact ⟨_, xt, (Same.refl _), rfl, ⟨_, o7⟩⟩
  · rintro _ S' G' H' ⟨v18, xt, mk19, rfl, ⟨vs2, o7⟩⟩
    exact ⟨mk19, xt.gh⟩
  · rintro xv20 a21 s17 _ G24 H25 fl22 - ⟨v18, xt, mk19, rfl, ⟨vs2, o7⟩⟩ rx23 hm D' kN26 kC27 kB28 kR29
    have r_rows_ := Rp.mono (x16.gg.trans mk19) r_rows_
    have r_moment_ := Rp.mono (x16.gg.trans mk19) r_moment_
    have r_claimed_ := Rp.mono (x16.gg.trans mk19) r_claimed_
    refine sv_turn ?_
    obtain ⟨a40, h41, hm⟩ := Option.bind_eq_some_iff.mp hm
    obtain ⟨z48, h42, hm⟩ := Option.bind_eq_some_iff.mp hm
    refine sv_appendB (K := K) rfl o7 (ev_def5 (m := mm_truth_of) (ev_var rfl (Rp.mono (Same.new o7.g) r_rows_)) (ev_var rfl (Rp.mono (Same.new o7.g) rx23)) (ev_var rfl (Rp.mono (Same.new o7.g) r_moment_)) (ev_var rfl (Rp.mono (Same.new o7.g) r_claimed_)) (ev_var rfl o7.tell)) h41 h42 xt.gh fun G43 H44 w45 x46 o47 => ?_
    have xt : Ext G0 H0 G43 (upd H44 p1 (.lst (vs2 ++ [w45]))) := (xt.trans x46).put hz6 o47.g
    have mk19 := mk19.trans x46.gg
    have r_rows_ := Rp.mono x46.gg r_rows_
    have r_moment_ := Rp.mono x46.gg r_moment_
    have r_claimed_ := Rp.mono x46.gg r_claimed_
    have rx23 := Rp.mono x46.gg rx23
    cases hm
    exact kN26 _ _ _ _ rfl ⟨_, xt, mk19, rfl, ⟨_, o47⟩⟩
  · rintro s17 _ G51 H52 rfl ⟨v49, xt, mk50, rfl, ⟨vs2, o7⟩⟩
    refine sv_nx ?_
    have r_rows_ := Rp.mono (x16.gg.trans mk50) r_rows_
    have r_moment_ := Rp.mono (x16.gg.trans mk50) r_moment_
    have r_claimed_ := Rp.mono (x16.gg.trans mk50) r_claimed_
    have sf := Same.new (o := .lst vs2) o7.g
    have xt := xt.frz hz6 o7.g o7.h
    have r53 := o7.tell
    have r_rows_ := Rp.mono sf r_rows_
    have r_moment_ := Rp.mono sf r_moment_
    have r_claimed_ := Rp.mono sf r_claimed_
    exact sv_ret (K := K) (ev_tuple (ev_var rfl r53)) hm xt.gh fun v54 G55 H56 x57 r58 => q v54 G55 H56 (xt.trans x57) r58
  · rintro r' v' G' H' rfl rl
    cases hm
    exact q v' G' H' rl.1 rl.2
theorem ok_hopes {f : Addr} {fd : FuncData} (F : Fun K "hopes" "hopes" s_hopes f fd) (T : Txt mg) : FnOk P w K mg base CX0 1 f fd ["rows"] (spM K mm_hopes) := by
  refine F.ok sc_hopes (fun vs H Q E h => (spM_len h).trans rfl) (fun cdv A outer s H0 vs Q E hr h => ?_)
  obtain ⟨G0, ⟨rows_, ⟨⟩⟩, res, sg0, ⟨v_rows_, _, rfl, r_rows_, rfl⟩, hm, q⟩ := h
  replace r_rows_ : Rp.rel K G0 v_rows_ rows_ := r_rows_
  replace hm : m_hopes rows_ = some res := hm
  unfold m_hopes at hm
  have xt : Ext G0 H0 G0 H0 := Ext.refl sg0
  refine ⟨_, (pss_cons (ps_ret (pe_comp2 (cn := []) (cap := []) rfl ⟨by decide +kernel, rfl, by decide +kernel, free_of rfl⟩ rfl rfl (by decide +kernel) trivial (pi_enum (K := K) rfl rfl T.enumerate_ (pa_cons (pv 0) pa_nil)) (fun C s0 H0 fp => ⟨(pts_one (pt_cmpR op_eq (pe_ix (ix_anyK (K := K) rfl) (pv 1) pe_int (fun _ _ => rfl)) pe_str (nomark _))), (pv 0)⟩)))
      pss_nil), ?_⟩
  exact sv_ret (K := K) (FV.ev (fv_comp2 (cap := []) (fc := fun (pc5 : (Int × (Tp SI))) => ((((some pc5.2).bind fun t8 => (some (0 : Int)).bind fun t9 => atI t8.l t9).bind fun t10 => asS t10).bind fun t11 => (some (decide (t11 = ("until" : Str)))))) (fe := fun (pc5 : (Int × (Tp SI))) => (some pc5.1)) (if_list (ev_var rfl r_rows_)) fun xc4 pc5 Gc1 sc2 rc3 => ⟨(tv_test (K := K) (ev_eqS (ev_asS (ev_atT (ev_var rfl rc3) ev_i)) ev_s)), (ev_var rfl (rel_i (K := K) Gc1 pc5.1))⟩)) hm xt.gh fun v13 G14 H15 x16 r17 => q v13 G14 H15 (xt.trans x16) r17
theorem ok_waits {f : Addr} {fd : FuncData} (F : Fun K "waits" "waits" s_waits f fd) (T : Txt mg) (D_hopes : DefOk P w K mg base "hopes" 1 ["rows"] (spM K mm_hopes)) : FnOk P w K mg base CX0 2 f fd ["rows"] (spM K mm_waits) := by
  refine F.ok sc_waits (fun vs H Q E h => (spM_len h).trans rfl) (fun cdv A outer s H0 vs Q E hr h => ?_)
  obtain ⟨G0, ⟨rows_, ⟨⟩⟩, res, sg0, ⟨v_rows_, _, rfl, r_rows_, rfl⟩, hm, q⟩ := h
  replace r_rows_ : Rp.rel K G0 v_rows_ rows_ := r_rows_
  replace hm : m_waits rows_ = some res := hm
  unfold m_waits at hm
  have xt : Ext G0 H0 G0 H0 := Ext.refl sg0
  refine ⟨_, (pss_cons (ps_setcomp (i := 1) sc_waits.nd rfl (Or.inl rfl) (cn := []) (cap := []) rfl ⟨by decide +kernel, rfl, by decide +kernel, free_of rfl⟩ rfl (by decide +kernel) trivial (pi_anyK (K := K) rfl (pv 0)) (fun C s0 H0 fp => ⟨(pts_one (pt_cmpR op_eq (pe_ix (ix_anyK (K := K) rfl) (pv 0) pe_int (fun _ _ => rfl)) pe_str (nomark _))), (pe_ix (ix_anyK (K := K) rfl) (pv 0) pe_int (fun _ _ => rfl))⟩))
      (pss_cons (ps_ret (pe_callB (call_sortPI (w := w) rfl rfl) (by rfl) T.sorted_ bt_sorted (pa_cons (pe_op (op_orK (w := w) rfl) (pe_callTy (call_setL (K := K) (w := w) rfl rfl rfl) (by rfl) T.set_ bt_set (pa_cons (pe_def D_hopes hr (by decide) rfl (pa_cons (pv 0) pa_nil)) pa_nil)) (pe_callTy (call_setL (K := K) (w := w) rfl rfl rfl) (by rfl) T.set_ bt_set (pa_cons (pv 1) pa_nil))) pa_nil)))
      pss_nil)), ?_⟩
  obtain ⟨under_next_, h20, hm⟩ := Option.bind_eq_some_iff.mp hm
  refine sv_set (K := K) (FV.ev (fv_comp (cap := []) (fc := fun (row_ : (Tp SI)) => ((((some row_).bind fun t10 => (some (0 : Int)).bind fun t11 => atI t10.l t11).bind fun t12 => asS t12).bind fun t13 => (some (decide (t13 = ("next" : Str)))))) (fe := fun (row_ : (Tp SI)) => (((some row_).bind fun t5 => (some (1 : Int)).bind fun t6 => atI t5.l t6).bind fun t7 => asI t7)) (iw_list (ev_var rfl r_rows_)) fun xc4 row_ Gc1 sc2 rc3 => ⟨(tv_test (K := K) (ev_eqS (ev_asS (ev_atT (ev_var rfl rc3) ev_i)) ev_s)), (ev_asI (ev_atT (ev_var rfl rc3) ev_i))⟩)) h20 xt.gh fun v15 G16 H17 x18 r19 => ?_
  have xt := xt.trans x18
  have r_rows_ := Rp.mono x18.gg r_rows_
  exact sv_ret (K := K) (FV.ev (fv_sortOrZ (w := w) (ev_def1 (m := mm_hopes) (ev_var rfl r_rows_)) (ev_var rfl r19))) hm xt.gh fun v24 G25 H26 x27 r28 => q v24 G25 H26 (xt.trans x27) r28
theorem ok_look {f : Addr} {fd : FuncData} (F : Fun K "look" "look" s_look f fd) (T : Txt mg) (D_view_with : DefOk P w K mg base "view_with" 2 ["rows", "moment", "claimed"] (spM K mm_view_with)) (D_waits : DefOk P w K mg base "waits" 2 ["rows"] (spM K mm_waits)) : FnOk P w K mg base CX0 3 f fd ["rows", "moment", "claims"] (spM K mm_look) := by
  refine F.ok sc_look (fun vs H Q E h => (spM_len h).trans rfl) (fun cdv A outer s H0 vs Q E hr h => ?_)
  obtain ⟨G0, ⟨rows_, ⟨moment_, ⟨claims_, ⟨⟩⟩⟩⟩, res, sg0, ⟨v_rows_, _, rfl, r_rows_, ⟨v_moment_, _, rfl, r_moment_, ⟨v_claims_, _, rfl, r_claims_, rfl⟩⟩⟩, hm, q⟩ := h
  replace r_rows_ : Rp.rel K G0 v_rows_ rows_ := r_rows_
  replace r_moment_ : Rp.rel K G0 v_moment_ moment_ := r_moment_
  replace r_claims_ : Rp.rel K G0 v_claims_ claims_ := r_claims_
  replace hm : m_look rows_ moment_ claims_ = some res := hm
  unfold m_look at hm
  have xt : Ext G0 H0 G0 H0 := Ext.refl sg0
  refine ⟨_, (pss_cons (ps_ret (pe_def D_view_with hr (by decide) rfl (pa_cons (pv 0) (pa_cons (pv 1) (pa_cons (pe_dictZ (K := K) rfl rfl (by rfl) T.dict_ (by rfl) T.zip_ (pa_cons (pe_def D_waits hr (by decide) rfl (pa_cons (pv 0) pa_nil)) (pa_cons (pv 2) pa_nil))) pa_nil)))))
      pss_nil), ?_⟩
  exact sv_ret (K := K) (ev_def3 (m := mm_view_with) (ev_var rfl r_rows_) (ev_var rfl r_moment_) (ev_dictZ (ev_def1 (m := mm_waits) (ev_var rfl r_rows_)) (ev_var rfl r_claims_))) hm xt.gh fun v7 G8 H9 x10 r11 => q v7 G8 H9 (xt.trans x10) r11
theorem ok_law_cell {f : Addr} {fd : FuncData} (F : Fun K "_law_cell" "_law_cell" s_law_cell f fd) (T : Txt mg) : FnOk P w K mg base CX0 1 f fd ["_law_script", "_law_k"] (spM K mm_law_cell) := by
  refine F.ok sc_law_cell (fun vs H Q E h => (spM_len h).trans rfl) (fun cdv A outer s H0 vs Q E hr h => ?_)
  obtain ⟨G0, ⟨script_, ⟨k_, ⟨⟩⟩⟩, res, sg0, ⟨v_script_, _, rfl, r_script_, ⟨v_k_, _, rfl, r_k_, rfl⟩⟩, hm, q⟩ := h
  replace r_script_ : Rp.rel K G0 v_script_ script_ := r_script_
  replace r_k_ : Rp.rel K G0 v_k_ k_ := r_k_
  replace hm : m_law_cell script_ k_ = some res := hm
  unfold m_law_cell at hm
  have xt : Ext G0 H0 G0 H0 := Ext.refl sg0
  refine ⟨_, (pss_cons (ps_if (pt_cmpR op_ltU (pv 1) (pe_callB (call_lenK (K := K) rfl) (by rfl) T.len_ bt_len (pa_cons (pv 0) pa_nil)) (nomark _)) (pss_cons (ps_ret (pe_ix (ix_anyK (K := K) rfl) (pv 0) (pv 1) (fun _ _ => rfl)))
      pss_nil) pss_nil)
      (pss_cons (ps_ret pe_int)
      pss_nil)), ?_⟩
  obtain ⟨b1, h2, hm⟩ := Option.bind_eq_some_iff.mp hm
  refine sv_if (tv_test (K := K) (ev_ord (ev_var rfl r_k_) (ev_lenX (ev_var rfl r_script_)))) h2 xt.gh fun G3 H4 x5 => ?_
  have xt := xt.trans x5
  have r_script_ := Rp.mono x5.gg r_script_
  have r_k_ := Rp.mono x5.gg r_k_
  cases b1 with
  | true =>
    replace hm := cT hm
    refine iteT ?_
    exact sv_ret (K := K) (ev_atX (ev_var rfl r_script_) (ev_var rfl r_k_)) hm xt.gh fun v8 G9 H10 x11 r12 => q v8 G9 H10 (xt.trans x11) r12
  | false =>
    replace hm := cF hm
    refine iteF ?_
    exact sv_ret (K := K) (rest := tNext) (σ := [some v_script_, some v_k_]) ev_i hm xt.gh fun v13 G14 H15 x16 r17 => q v13 G14 H15 (xt.trans x16) r17
theorem ok_law_truth {f : Addr} {fd : FuncData} (F : Fun K "_law_truth" "_law_truth" s_law_truth f fd) (T : Txt mg) : FnOk P w K mg base CX0 1 f fd ["_law_thing"] (spM K mm_law_truth) := by
  refine F.ok sc_law_truth (fun vs H Q E h => (spM_len h).trans rfl) (fun cdv A outer s H0 vs Q E hr h => ?_)
  obtain ⟨G0, ⟨thing_, ⟨⟩⟩, res, sg0, ⟨v_thing_, _, rfl, r_thing_, rfl⟩, hm, q⟩ := h
  replace r_thing_ : Rp.rel K G0 v_thing_ thing_ := r_thing_
  replace hm : m_law_truth thing_ = some res := hm
  unfold m_law_truth at hm
  have xt : Ext G0 H0 G0 H0 := Ext.refl sg0
  refine ⟨_, (pss_cons (ps_ret (pe_or (pe_cmpR op_isB (pv 0) pe_bl (nomark _)) (pe_one (pe_cmpR op_isB (pv 0) pe_bl (nomark _)))))
      pss_nil), ?_⟩
  exact sv_ret (K := K) (ev_orP (ev_isB (ev_var rfl r_thing_) ev_b) (ev_isB (ev_var rfl r_thing_) ev_b)) hm xt.gh fun v1 G2 H3 x4 r5 => q v1 G2 H3 (xt.trans x4) r5
theorem ok_law_fits {f : Addr} {fd : FuncData} (F : Fun K "_law_fits" "_law_fits" s_law_fits f fd) (T : Txt mg) : FnOk P w K mg base CX0 1 f fd ["_law_rows", "_law_k", "_law_view", "_law_lit_here", "_law_behind_here"] (spM K mm_law_fits) := by
  refine F.ok sc_law_fits (fun vs H Q E h => (spM_len h).trans rfl) (fun cdv A outer s H0 vs Q E hr h => ?_)
  obtain ⟨G0, ⟨rows_, ⟨k_, ⟨view_, ⟨lit_here_, ⟨behind_here_, ⟨⟩⟩⟩⟩⟩⟩, res, sg0, ⟨v_rows_, _, rfl, r_rows_, ⟨v_k_, _, rfl, r_k_, ⟨v_view_, _, rfl, r_view_, ⟨v_lit_here_, _, rfl, r_lit_here_, ⟨v_behind_here_, _, rfl, r_behind_here_, rfl⟩⟩⟩⟩⟩, hm, q⟩ := h
  replace r_rows_ : Rp.rel K G0 v_rows_ rows_ := r_rows_
  replace r_k_ : Rp.rel K G0 v_k_ k_ := r_k_
  replace r_view_ : Rp.rel K G0 v_view_ view_ := r_view_
  replace r_lit_here_ : Rp.rel K G0 v_lit_here_ lit_here_ := r_lit_here_
  replace r_behind_here_ : Rp.rel K G0 v_behind_here_ behind_here_ := r_behind_here_
  replace hm : m_law_fits rows_ k_ view_ lit_here_ behind_here_ = some res := hm
  unfold m_law_fits at hm
  have xt : Ext G0 H0 G0 H0 := Ext.refl sg0
  refine ⟨_, (pss_cons (ps_set (i := 5) sc_law_fits.nd rfl (Or.inl rfl) (pe_ix (ix_anyK (K := K) rfl) (pv 0) (pv 1) (fun _ _ => rfl)))
      (pss_cons (ps_if (pt_cmpR op_eq (pe_ix (ix_anyK (K := K) rfl) (pv 5) pe_int (fun _ _ => rfl)) pe_str (nomark _)) (pss_cons (ps_ret (pe_ix (ix_anyK (K := K) rfl) (pv 2) (pv 1) (fun _ _ => rfl)))
      pss_nil) pss_nil)
      (pss_cons (ps_if (pt_cmpR op_eq (pe_ix (ix_anyK (K := K) rfl) (pv 5) pe_int (fun _ _ => rfl)) pe_str (nomark _)) (pss_cons (ps_ret (pe_cmpR op_eq (pe_ix (ix_anyK (K := K) rfl) (pv 2) (pv 1) (fun _ _ => rfl)) (pe_cmpR op_in_str (pe_ix (ix_anyK (K := K) rfl) (pv 5) pe_int (fun _ _ => rfl)) (pv 3) rfl) (nomark _)))
      pss_nil) pss_nil)
      (pss_cons (ps_if (pt_cmpR op_eq (pe_ix (ix_anyK (K := K) rfl) (pv 5) pe_int (fun _ _ => rfl)) pe_str (nomark _)) (pss_cons (ps_ret (pe_cmpR op_ne (pe_ix (ix_anyK (K := K) rfl) (pv 2) (pv 1) (fun _ _ => rfl)) (pe_ix (ix_anyK (K := K) rfl) (pv 2) (pe_ix (ix_anyK (K := K) rfl) (pv 5) pe_int (fun _ _ => rfl)) (fun _ _ => rfl)) (nomark _)))
      pss_nil) pss_nil)
      (pss_cons (ps_if (pt_cmpR op_eq (pe_ix (ix_anyK (K := K) rfl) (pv 5) pe_int (fun _ _ => rfl)) pe_str (nomark _)) (pss_cons (ps_ret (pe_cmpR op_eq (pe_ix (ix_anyK (K := K) rfl) (pv 2) (pv 1) (fun _ _ => rfl)) (pe_and (pe_ix (ix_anyK (K := K) rfl) (pv 2) (pe_ix (ix_anyK (K := K) rfl) (pv 5) pe_int (fun _ _ => rfl)) (fun _ _ => rfl)) (pe_one (pe_ix (ix_anyK (K := K) rfl) (pv 2) (pe_ix (ix_anyK (K := K) rfl) (pv 5) pe_int (fun _ _ => rfl)) (fun _ _ => rfl)))) (nomark _)))
      pss_nil) pss_nil)
      (pss_cons (ps_if (pt_cmpR op_eq (pe_ix (ix_anyK (K := K) rfl) (pv 5) pe_int (fun _ _ => rfl)) pe_str (nomark _)) (pss_cons (ps_ret (pe_cmpR op_eq (pe_ix (ix_anyK (K := K) rfl) (pv 2) (pv 1) (fun _ _ => rfl)) (pe_dget (room_u hr) (pv 4) (pe_ix (ix_anyK (K := K) rfl) (pv 5) pe_int (fun _ _ => rfl)) (fun _ _ => rfl)) (nomark _)))
      pss_nil) pss_nil)
      (pss_cons (ps_ret (pe_cmpR op_eq (pe_ix (ix_anyK (K := K) rfl) (pv 2) (pv 1) (fun _ _ => rfl)) (pe_or (pe_ix (ix_anyK (K := K) rfl) (pv 2) (pe_ix (ix_anyK (K := K) rfl) (pv 5) pe_int (fun _ _ => rfl)) (fun _ _ => rfl)) (pe_one (pe_and (pe_ix (ix_anyK (K := K) rfl) (pv 2) (pe_ix (ix_anyK (K := K) rfl) (pv 5) pe_int (fun _ _ => rfl)) (fun _ _ => rfl)) (pe_one (pe_dget (room_u hr) (pv 4) (pv 1) (fun _ _ => rfl)))))) (nomark _)))
      pss_nil))))))), ?_⟩
  obtain ⟨row_here_, h8, hm⟩ := Option.bind_eq_some_iff.mp hm
  refine sv_set (K := K) (ev_at (ev_var rfl r_rows_) (ev_var rfl r_k_)) h8 xt.gh fun v3 G4 H5 x6 r7 => ?_
  have xt := xt.trans x6
  have r_rows_ := Rp.mono x6.gg r_rows_
  have r_k_ := Rp.mono x6.gg r_k_
  have r_view_ := Rp.mono x6.gg r_view_
  have r_lit_here_ := Rp.mono x6.gg r_lit_here_
  have r_behind_here_ := Rp.mono x6.gg r_behind_here_
  obtain ⟨b15, h16, hm⟩ := Option.bind_eq_some_iff.mp hm
  refine sv_if (tv_test (K := K) (ev_eqS (ev_asS (ev_atT (ev_var rfl r7) ev_i)) ev_s)) h16 xt.gh fun G17 H18 x19 => ?_
  have xt := xt.trans x19
  have r_rows_ := Rp.mono x19.gg r_rows_
  have r_k_ := Rp.mono x19.gg r_k_
  have r_view_ := Rp.mono x19.gg r_view_
  have r_lit_here_ := Rp.mono x19.gg r_lit_here_
  have r_behind_here_ := Rp.mono x19.gg r_behind_here_
  have r7 := Rp.mono x19.gg r7
  cases b15 with
  | true =>
    replace hm := cT hm
    refine iteT ?_
    exact sv_ret (K := K) (ev_atT (ev_var rfl r_view_) (ev_var rfl r_k_)) hm xt.gh fun v22 G23 H24 x25 r26 => q v22 G23 H24 (xt.trans x25) r26
  | false =>
    replace hm := cF hm
    refine iteF ?_
    obtain ⟨b33, h34, hm⟩ := Option.bind_eq_some_iff.mp hm
    refine sv_if (tv_test (K := K) (ev_eqS (ev_asS (ev_atT (ev_var rfl r7) ev_i)) ev_s)) h34 xt.gh fun G35 H36 x37 => ?_
    have xt := xt.trans x37
    have r_rows_ := Rp.mono x37.gg r_rows_
    have r_k_ := Rp.mono x37.gg r_k_
    have r_view_ := Rp.mono x37.gg r_view_
    have r_lit_here_ := Rp.mono x37.gg r_lit_here_
    have r_behind_here_ := Rp.mono x37.gg r_behind_here_
    have r7 := Rp.mono x37.gg r7
    cases b33 with
    | true =>
      replace hm := cT hm
      refine iteT ?_
      exact sv_ret (K := K) (ev_eqB (ev_atT (ev_var rfl r_view_) (ev_var rfl r_k_)) (ev_inS (ev_asS (ev_atT (ev_var rfl r7) ev_i)) (ev_var rfl r_lit_here_))) hm xt.gh fun v54 G55 H56 x57 r58 => q v54 G55 H56 (xt.trans x57) r58
    | false =>
      replace hm := cF hm
      refine iteF ?_
      obtain ⟨b65, h66, hm⟩ := Option.bind_eq_some_iff.mp hm
      refine sv_if (tv_test (K := K) (ev_eqS (ev_asS (ev_atT (ev_var rfl r7) ev_i)) ev_s)) h66 xt.gh fun G67 H68 x69 => ?_
      have xt := xt.trans x69
      have r_rows_ := Rp.mono x69.gg r_rows_
      have r_k_ := Rp.mono x69.gg r_k_
      have r_view_ := Rp.mono x69.gg r_view_
      have r_lit_here_ := Rp.mono x69.gg r_lit_here_
      have r_behind_here_ := Rp.mono x69.gg r_behind_here_
      have r7 := Rp.mono x69.gg r7
      cases b65 with
      | true =>
        replace hm := cT hm
        refine iteT ?_
        exact sv_ret (K := K) (ev_neB (ev_atT (ev_var rfl r_view_) (ev_var rfl r_k_)) (ev_atT (ev_var rfl r_view_) (ev_asI (ev_atT (ev_var rfl r7) ev_i)))) hm xt.gh fun v84 G85 H86 x87 r88 => q v84 G85 H86 (xt.trans x87) r88
      | false =>
        replace hm := cF hm
        refine iteF ?_
        obtain ⟨b95, h96, hm⟩ := Option.bind_eq_some_iff.mp hm
        refine sv_if (tv_test (K := K) (ev_eqS (ev_asS (ev_atT (ev_var rfl r7) ev_i)) ev_s)) h96 xt.gh fun G97 H98 x99 => ?_
        have xt := xt.trans x99
        have r_rows_ := Rp.mono x99.gg r_rows_
        have r_k_ := Rp.mono x99.gg r_k_
        have r_view_ := Rp.mono x99.gg r_view_
        have r_lit_here_ := Rp.mono x99.gg r_lit_here_
        have r_behind_here_ := Rp.mono x99.gg r_behind_here_
        have r7 := Rp.mono x99.gg r7
        cases b95 with
        | true =>
          replace hm := cT hm
          refine iteT ?_
          exact sv_ret (K := K) (ev_eqB (ev_atT (ev_var rfl r_view_) (ev_var rfl r_k_)) (ev_and (ev_atT (ev_var rfl r_view_) (ev_asI (ev_atT (ev_var rfl r7) ev_i))) (ev_atT (ev_var rfl r_view_) (ev_asI (ev_atT (ev_var rfl r7) ev_i))))) hm xt.gh fun v126 G127 H128 x129 r130 => q v126 G127 H128 (xt.trans x129) r130
        | false =>
          replace hm := cF hm
          refine iteF ?_
          obtain ⟨b137, h138, hm⟩ := Option.bind_eq_some_iff.mp hm
          refine sv_if (tv_test (K := K) (ev_eqS (ev_asS (ev_atT (ev_var rfl r7) ev_i)) ev_s)) h138 xt.gh fun G139 H140 x141 => ?_
          have xt := xt.trans x141
          have r_rows_ := Rp.mono x141.gg r_rows_
          have r_k_ := Rp.mono x141.gg r_k_
          have r_view_ := Rp.mono x141.gg r_view_
          have r_lit_here_ := Rp.mono x141.gg r_lit_here_
          have r_behind_here_ := Rp.mono x141.gg r_behind_here_
          have r7 := Rp.mono x141.gg r7
          cases b137 with
          | true =>
            replace hm := cT hm
            refine iteT ?_
            exact sv_ret (K := K) (ev_eqB (ev_atT (ev_var rfl r_view_) (ev_var rfl r_k_)) (ev_getF (ev_var rfl r_behind_here_) (ev_asI (ev_atT (ev_var rfl r7) ev_i)))) hm xt.gh fun v156 G157 H158 x159 r160 => q v156 G157 H158 (xt.trans x159) r160
          | false =>
            replace hm := cF hm
            refine iteF ?_
            exact sv_ret (K := K) (ev_eqB (ev_atT (ev_var rfl r_view_) (ev_var rfl r_k_)) (ev_or (ev_atT (ev_var rfl r_view_) (ev_asI (ev_atT (ev_var rfl r7) ev_i))) (ev_and (ev_atT (ev_var rfl r_view_) (ev_asI (ev_atT (ev_var rfl r7) ev_i))) (ev_getF (ev_var rfl r_behind_here_) (ev_var rfl r_k_))))) hm xt.gh fun v193 G194 H195 x196 r197 => q v193 G194 H195 (xt.trans x196) r197
theorem ok_law {f : Addr} {fd : FuncData} (F : Fun K "law" "law" s_law f fd) (T : Txt mg) (D_law_book : DefOk P w K mg base "_law_book" 2 ["_law_cells"] (spM K mm_law_book)) (D_law_lit : DefOk P w K mg base "_law_lit" 1 ["_law_cell_here"] (spM K mm_law_lit)) (D_law_behind : DefOk P w K mg base "_law_behind" 1 ["_law_rows", "_law_cell_here"] (spM K mm_law_behind)) (D_look : DefOk P w K mg base "look" 3 ["rows", "moment", "claims"] (spM K mm_look)) (D_law_cell : DefOk P w K mg base "_law_cell" 1 ["_law_script", "_law_k"] (spM K mm_law_cell)) (D_law_truth : DefOk P w K mg base "_law_truth" 1 ["_law_thing"] (spM K mm_law_truth)) (D_law_fits : DefOk P w K mg base "_law_fits" 1 ["_law_rows", "_law_k", "_law_view", "_law_lit_here", "_law_behind_here"] (spM K mm_law_fits)) : FnOk P w K mg base CX0 4 f fd ["_law_script"] (spM K mm_law) := by
  refine F.ok sc_law (fun vs H Q E h => (spM_len h).trans rfl) (fun cdv A outer s H0 vs Q E hr h => ?_)
  obtain ⟨G0, ⟨script_, ⟨⟩⟩, res, sg0, ⟨v_script_, _, rfl, r_script_, rfl⟩, hm, q⟩ := h
  replace r_script_ : Rp.rel K G0 v_script_ script_ := r_script_
  replace hm : m_law script_ = some res := hm
  unfold m_law at hm
  have xt : Ext G0 H0 G0 H0 := Ext.refl sg0
  refine ⟨_, (pss_cons (ps_set (i := 1) sc_law.nd rfl (Or.inl rfl) (pe_def D_law_book hr (by decide) rfl (pa_cons (pe_slice (sl_anyK (K := K) rfl) (pv 0) (po_some pe_int) (po_some pe_int)) pa_nil)))
      (pss_cons (ps_set (i := 2) sc_law.nd rfl (Or.inl rfl) (pe_def D_law_lit hr (by decide) rfl (pa_cons (pe_def D_law_cell hr (by decide) rfl (pa_cons (pv 0) (pa_cons pe_int pa_nil))) pa_nil)))
      (pss_cons (ps_set (i := 3) sc_law.nd rfl (Or.inr rfl) (pe_def D_law_behind hr (by decide) rfl (pa_cons (pv 1) (pa_cons (pe_def D_law_cell hr (by decide) rfl (pa_cons (pv 0) (pa_cons pe_int pa_nil))) pa_nil))))
      (pss_cons (ps_set (i := 4) sc_law.nd rfl (Or.inl rfl) (pe_callTy (call_listK (K := K) rfl) (by rfl) T.list_ bt_list (pa_cons (pv 1) pa_nil)))
      (pss_cons (ps_set (i := 5) sc_law.nd rfl (Or.inl rfl) (pe_def D_look hr (by decide) rfl (pa_cons (pv 4) (pa_cons (pv 2) (pa_cons (pe_callTy (call_tupK (K := K) rfl) (by rfl) T.tuple_ bt_tuple (pa_cons (pe_comp (cn := ["_law_behind_here"]) (cap := [3]) rfl ⟨by decide +kernel, rfl, by decide +kernel, free_of rfl⟩ rfl (by decide +kernel) ⟨⟨rfl, .inl rfl, rfl⟩, trivial⟩ (pi_frz (pv 3)) (fun C s0 H0 fp => ⟨pts_nil, (pe_dget (room_u hr) (pv 1) (pv 0) (fun _ _ => rfl))⟩)) pa_nil)) pa_nil)))))
      (pss_cons (ps_if (PW.pt (pw_or (pt_not (pt_truthK (K := K) rfl (pe_callB (call_instK (K := K) rfl) (by rfl) T.isinstance_ bt_isinstance (pa_cons (pv 5) (pa_cons (pe_bltn (v := .ty "tuple") rfl T.tuple_ bt_tuple rfl) pa_nil))) (fun _ => rfl))) (pw_or1 (pt_cmpR op_ne (pe_callB (call_lenK (K := K) rfl) (by rfl) T.len_ bt_len (pa_cons (pv 5) pa_nil)) (pe_callB (call_lenK (K := K) rfl) (by rfl) T.len_ bt_len (pa_cons (pv 1) pa_nil)) (nomark _))))) (pss_cons (ps_ret pe_bl)
      pss_nil) pss_nil)
      (pss_cons (ps_for PassesOwn.never rfl (pi_range1 rfl T.range_ (pa_cons (pe_callB (call_lenK (K := K) rfl) (by rfl) T.len_ bt_len (pa_cons (pv 1) pa_nil)) pa_nil)) (pg_name (i := 6) sc_law.nd rfl (Or.inl rfl)) (pss_cons (ps_if (PW.pt (pw_or (pt_not (pt_truthK (K := K) rfl (pe_def D_law_truth hr (by decide) rfl (pa_cons (pe_ix (ix_anyK (K := K) rfl) (pv 5) (pv 6) (fun _ _ => rfl)) pa_nil)) (fun _ => rfl))) (pw_or1 (pt_not (pt_truthK (K := K) rfl (pe_def D_law_fits hr (by decide) rfl (pa_cons (pv 1) (pa_cons (pv 6) (pa_cons (pv 5) (pa_cons (pv 2) (pa_cons (pv 3) pa_nil)))))) (fun _ => rfl)))))) (pss_cons (ps_ret pe_bl)
      pss_nil) pss_nil)
      pss_nil))
      (pss_cons (ps_if (pt_cmpR (op_neK (K := K) rfl (List (Tp SI)) hr (by decide)) (pv 4) (pv 1) (nomark _)) (pss_cons (ps_ret pe_bl)
      pss_nil) pss_nil)
      (pss_cons (ps_if (pt_cmpR (op_eqK (K := K) rfl (List (Tp SI)) hr (by decide)) (pv 1) (pe_lst pa_nil) (nomark _)) (pss_cons (ps_ret pe_bl)
      pss_nil) pss_nil)
      (pss_cons (ps_expr (pe_bmK (K := K) rfl PySem.F.plainAttrs_list PySem.F.slot_list_append PySem.F.type_list_append mt_append (pv 4) (pa_cons (pe_tup (pa_cons pe_str (pa_cons (pe_op op_sub (pe_callB (call_lenK (K := K) rfl) (by rfl) T.len_ bt_len (pa_cons (pv 1) pa_nil)) pe_int) pa_nil))) pa_nil)))
      (pss_cons (ps_set (i := 7) sc_law.nd rfl (Or.inl rfl) (pe_def D_look hr (by decide) rfl (pa_cons (pv 4) (pa_cons (pv 2) (pa_cons (pe_callTy (call_tupK (K := K) rfl) (by rfl) T.tuple_ bt_tuple (pa_cons (pe_comp (cn := ["_law_behind_here"]) (cap := [3]) rfl ⟨by decide +kernel, rfl, by decide +kernel, free_of rfl⟩ rfl (by decide +kernel) ⟨⟨rfl, .inl rfl, rfl⟩, trivial⟩ (pi_frz (pv 3)) (fun C s0 H0 fp => ⟨pts_nil, (pe_dget (room_u hr) (pv 1) (pv 0) (fun _ _ => rfl))⟩)) pa_nil)) pa_nil)))))
      (pss_cons (ps_if (PW.pt (pw_or (pt_not (pt_truthK (K := K) rfl (pe_callB (call_instK (K := K) rfl) (by rfl) T.isinstance_ bt_isinstance (pa_cons (pv 7) (pa_cons (pe_bltn (v := .ty "tuple") rfl T.tuple_ bt_tuple rfl) pa_nil))) (fun _ => rfl))) (pw_or1 (pt_cmpR op_ne (pe_callB (call_lenK (K := K) rfl) (by rfl) T.len_ bt_len (pa_cons (pv 7) pa_nil)) (pe_op (op_plusK (K := K) rfl) (pe_callB (call_lenK (K := K) rfl) (by rfl) T.len_ bt_len (pa_cons (pv 1) pa_nil)) pe_int) (nomark _))))) (pss_cons (ps_ret pe_bl)
      pss_nil) pss_nil)
      (pss_cons (ps_for PassesOwn.never rfl (pi_anyK (K := K) rfl (pv 7)) (pg_name (i := 8) sc_law.nd rfl (Or.inl rfl)) (pss_cons (ps_if (pt_not (pt_truthK (K := K) rfl (pe_def D_law_truth hr (by decide) rfl (pa_cons (pv 8) pa_nil)) (fun _ => rfl))) (pss_cons (ps_ret pe_bl)
      pss_nil) pss_nil)
      pss_nil))
      (pss_cons (ps_ret (pe_cmpR (op_eqK (K := K) rfl (Tp Bool) hr (by decide)) (pv 7) (pe_op (op_catTp (K := K) rfl) (pv 5) (pe_tup (pa_cons (pe_not (pe_ix (ix_anyK (K := K) rfl) (pv 5) (pe_un un_neg pe_int) (fun _ _ => rfl))) pa_nil))) (nomark _)))
      pss_nil)))))))))))))), ?_⟩
  obtain ⟨rows_, h10, hm⟩ := Option.bind_eq_some_iff.mp hm
  refine sv_set (K := K) (ev_def1 (m := mm_law_book) (FV.ev (fv_sliceX (ev_var rfl r_script_) (ov_some (K := K) ev_i) (ov_some (K := K) ev_i)))) h10 xt.gh fun v5 G6 H7 x8 r9 => ?_
  have xt := xt.trans x8
  have r_script_ := Rp.mono x8.gg r_script_
  obtain ⟨lit_here_, h19, hm⟩ := Option.bind_eq_some_iff.mp hm
  refine sv_set (K := K) (ev_def1 (m := mm_law_lit) (ev_def2 (m := mm_law_cell) (ev_var rfl r_script_) ev_i)) h19 xt.gh fun v14 G15 H16 x17 r18 => ?_
  have xt := xt.trans x17
  have r_script_ := Rp.mono x17.gg r_script_
  have r9 := Rp.mono x17.gg r9
  obtain ⟨behind_here_, h29, hm⟩ := Option.bind_eq_some_iff.mp hm
  refine sv_set (K := K) (ev_def2 (m := mm_law_behind) (ev_var rfl r9) (ev_def2 (m := mm_law_cell) (ev_var rfl r_script_) ev_i)) h29 xt.gh fun v24 G25 H26 x27 r28 => ?_
  have xt := xt.trans x27
  have r_script_ := Rp.mono x27.gg r_script_
  have r9 := Rp.mono x27.gg r9
  have r18 := Rp.mono x27.gg r18
  obtain ⟨handed_, h37, hm⟩ := Option.bind_eq_some_iff.mp hm
  refine sv_own (K := K) (fv_list (ev_var rfl r9)) h37 xt.gh fun p30 vs31 G32 H33 x34 hz35 o36 => ?_
  have hz35 := xt.hh.free hz35
  have xt := xt.trans x34
  have r_script_ := Rp.mono x34.gg r_script_
  have r9 := Rp.mono x34.gg r9
  have r18 := Rp.mono x34.gg r18
  have r28 := Rp.mono x34.gg r28
  obtain ⟨view_, h67, hm⟩ := Option.bind_eq_some_iff.mp hm
  refine sv_setB (K := K) o36 (ev_def3 (m := mm_look) (ev_var rfl o36.tell) (ev_var rfl (Rp.mono (Same.new o36.g) r18)) (ev_tuple (FV.ev (fv_map (cap := [3]) (fe := fun (k_ : Int) => ((some behind_here_).bind fun t55 => (some k_).bind fun t56 => getM t55.l t56)) (iw_frz (ev_var rfl (Rp.mono (Same.new o36.g) r28))) fun xc54 k_ Gc51 sc52 rc53 => (ev_getF (ev_var rfl (Rp.mono sc52 (Rp.mono (Same.new o36.g) r28))) (ev_var rfl rc53)))))) h67 xt.gh fun v62 G63 H64 x65 r66 => ?_
  have xt := xt.trans x65
  have r_script_ := Rp.mono x65.gg r_script_
  have r9 := Rp.mono x65.gg r9
  have r18 := Rp.mono x65.gg r18
  have r28 := Rp.mono x65.gg r28
  have o36 := o36.ext x65
  obtain ⟨b68, h69, hm⟩ := Option.bind_eq_some_iff.mp hm
  refine sv_if (tv_orP (tv_not (tv_b (K := K) (ev_inst (b := true) (by decide +kernel) (ev_var rfl r66)))) (tv_test (K := K) (ev_neI (ev_lenT (ev_var rfl r66)) (ev_len (ev_var rfl r9))))) h69 xt.gh fun G70 H71 x72 => ?_
  have xt := xt.trans x72
  have r_script_ := Rp.mono x72.gg r_script_
  have r9 := Rp.mono x72.gg r9
  have r18 := Rp.mono x72.gg r18
  have r28 := Rp.mono x72.gg r28
  have o36 := o36.ext x72
  have r66 := Rp.mono x72.gg r66
  cases b68 with
  | true =>
    replace hm := cT hm
    refine iteT ?_
    exact sv_ret (K := K) (rest := tNext) (σ := [some v_script_, some v5, some v14, some v24, some (V.ref p30), some v62, none, none, none]) ev_b hm xt.gh fun v73 G74 H75 x76 r77 => q v73 G74 H75 (xt.trans x76) r77
  | false =>
    replace hm := cF hm
    refine iteF ?_
    obtain ⟨as79, h80, hm⟩ := Option.bind_eq_some_iff.mp hm
    obtain ⟨fl81, h82, hm⟩ := Option.bind_eq_some_iff.mp hm
    refine sv_for (K := K) (RR := fun r v G' H' => Ext G0 H0 G' H' ∧ Rp.rel K G' v r) (iw_rng1 (ev_len (ev_var rfl r9))) h80 h82 xt.gh fun G83 H84 x85 => ⟨fun s86 S' G' H' => ∃ (v87 : Option V), Ext G0 H0 G' H' ∧ Same G83 G' ∧ S' = [some v_script_, some v5, some v14, some v24, some (V.ref p30), some v62, v87, none, none] ∧ Own K G' H' (V.ref p30) p30 vs31 handed_, ?_, ?_, ?_, ?_, ?_⟩
    · have xt := xt.trans x85
      have r_script_ := Rp.mono x85.gg r_script_
      have r9 := Rp.mono x85.gg r9
      have r18 := Rp.mono x85.gg r18
      have r28 := Rp.mono x85.gg r28
      have o36 := o36.ext x85
      have r66 := Rp.mono x85.gg r66
      exact ⟨_, xt, (Same.refl _), rfl, o36⟩
    · rintro _ S' G' H' ⟨v87, xt, mk88, rfl, o36⟩
      exact ⟨mk88, xt.gh⟩
    · rintro xv89 a90 s86 _ G93 H94 fl91 - ⟨v87, xt, mk88, rfl, o36⟩ rx92 hm D' kN95 kC96 kB97 kR98
      have r_script_ := Rp.mono (x85.gg.trans mk88) r_script_
      have r9 := Rp.mono (x85.gg.trans mk88) r9
      have r18 := Rp.mono (x85.gg.trans mk88) r18
      have r28 := Rp.mono (x85.gg.trans mk88) r28
      have r66 := Rp.mono (x85.gg.trans mk88) r66
      refine sv_turn ?_
      obtain ⟨b110, h111, hm⟩ := Option.bind_eq_some_iff.mp hm
      refine sv_if (tv_or (tv_not (tv_b (K := K) (ev_def1 (m := mm_law_truth) (ev_atT (ev_var rfl r66) (ev_var rfl rx92))))) (tv_not (tv_b (K := K) (ev_def5 (m := mm_law_fits) (ev_var rfl r9) (ev_var rfl rx92) (ev_var rfl r66) (ev_var rfl r18) (ev_var rfl r28))))) h111 xt.gh fun G112 H113 x114 => ?_
      have xt := xt.trans x114
      have mk88 := mk88.trans x114.gg
      have r_script_ := Rp.mono x114.gg r_script_
      have r9 := Rp.mono x114.gg r9
      have r18 := Rp.mono x114.gg r18
      have r28 := Rp.mono x114.gg r28
      have o36 := o36.ext x114
      have r66 := Rp.mono x114.gg r66
      have rx92 := Rp.mono x114.gg rx92
      cases b110 with
      | true =>
        replace hm := cT hm
        refine iteT ?_
        obtain ⟨rr120, h121, hm⟩ := Option.bind_eq_some_iff.mp hm
        cases hm
        exact sv_ret (K := K) (rest := tNext) (σ := [some v_script_, some v5, some v14, some v24, some (V.ref p30), some v62, some xv89, none, none]) ev_b h121 xt.gh fun v115 G116 H117 x118 r119 => kR98 _ v115 G116 H117 rfl ⟨xt.trans x118, r119⟩
      | false =>
        replace hm := cF hm
        refine iteF ?_
        cases hm
        exact kN95 _ _ _ _ rfl ⟨_, xt, mk88, rfl, o36⟩
    · rintro s86 _ G124 H125 rfl ⟨v122, xt, mk123, rfl, o36⟩
      refine sv_nx ?_
      have r_script_ := Rp.mono (x85.gg.trans mk123) r_script_
      have r9 := Rp.mono (x85.gg.trans mk123) r9
      have r18 := Rp.mono (x85.gg.trans mk123) r18
      have r28 := Rp.mono (x85.gg.trans mk123) r28
      have r66 := Rp.mono (x85.gg.trans mk123) r66
      obtain ⟨b126, h127, hm⟩ := Option.bind_eq_some_iff.mp hm
      refine sv_ifB o36 (tv_test (K := K) (ev_ne (ev_var rfl o36.tell) (ev_var rfl (Rp.mono (Same.new o36.g) r9)))) h127 xt.gh fun G128 H129 x130 => ?_
      have xt := xt.trans x130
      have r_script_ := Rp.mono x130.gg r_script_
      have r9 := Rp.mono x130.gg r9
      have r18 := Rp.mono x130.gg r18
      have r28 := Rp.mono x130.gg r28
      have o36 := o36.ext x130
      have r66 := Rp.mono x130.gg r66
      cases b126 with
      | true =>
        replace hm := cT hm
        refine iteT ?_
        exact sv_ret (K := K) (rest := tNext) (σ := [some v_script_, some v5, some v14, some v24, some (V.ref p30), some v62, v122, none, none]) ev_b hm xt.gh fun v131 G132 H133 x134 r135 => q v131 G132 H133 (xt.trans x134) r135
      | false =>
        replace hm := cF hm
        refine iteF ?_
        obtain ⟨b136, h137, hm⟩ := Option.bind_eq_some_iff.mp hm
        refine sv_if (tv_test (K := K) (ev_eq (ev_var rfl r9) (FV.ev (fv_lst (lv_nil (α := (Tp SI))))))) h137 xt.gh fun G138 H139 x140 => ?_
        have xt := xt.trans x140
        have r_script_ := Rp.mono x140.gg r_script_
        have r9 := Rp.mono x140.gg r9
        have r18 := Rp.mono x140.gg r18
        have r28 := Rp.mono x140.gg r28
        have o36 := o36.ext x140
        have r66 := Rp.mono x140.gg r66
        cases b136 with
        | true =>
          replace hm := cT hm
          refine iteT ?_
          exact sv_ret (K := K) (rest := tNext) (σ := [some v_script_, some v5, some v14, some v24, some (V.ref p30), some v62, v122, none, none]) ev_b hm xt.gh fun v141 G142 H143 x144 r145 => q v141 G142 H143 (xt.trans x144) r145
        | false =>
          replace hm := cF hm
          refine iteF ?_
          obtain ⟨a146, h147, hm⟩ := Option.bind_eq_some_iff.mp hm
          obtain ⟨z154, h148, hm⟩ := Option.bind_eq_some_iff.mp hm
          refine sv_append (K := K) rfl o36 (ev_tupL (lv_cons (ev_toS ev_s) (lv_cons (ev_toI (ev_sub (ev_len (ev_var rfl r9)) ev_i)) (lv_nil (α := SI))))) h147 h148 xt.gh fun G149 H150 w151 x152 o153 => ?_
          have xt : Ext G0 H0 G149 (upd H150 p30 (.lst (vs31 ++ [w151]))) := (xt.trans x152).put hz35 o153.g
          have r_script_ := Rp.mono x152.gg r_script_
          have r9 := Rp.mono x152.gg r9
          have r18 := Rp.mono x152.gg r18
          have r28 := Rp.mono x152.gg r28
          have r66 := Rp.mono x152.gg r66
          have sf := Same.new (o := .lst (vs31 ++ [w151])) o153.g
          have xt := xt.frz hz35 o153.g o153.h
          have r167 := o153.tell
          have r_script_ := Rp.mono sf r_script_
          have r9 := Rp.mono sf r9
          have r18 := Rp.mono sf r18
          have r28 := Rp.mono sf r28
          have r66 := Rp.mono sf r66
          obtain ⟨longer_, h185, hm⟩ := Option.bind_eq_some_iff.mp hm
          refine sv_set (K := K) (ev_def3 (m := mm_look) (ev_var rfl r167) (ev_var rfl r18) (ev_tuple (FV.ev (fv_map (cap := [3]) (fe := fun (k_ : Int) => ((some behind_here_).bind fun t173 => (some k_).bind fun t174 => getM t173.l t174)) (iw_frz (ev_var rfl r28)) fun xc172 k_ Gc169 sc170 rc171 => (ev_getF (ev_var rfl (Rp.mono sc170 r28)) (ev_var rfl rc171)))))) h185 xt.gh fun v180 G181 H182 x183 r184 => ?_
          have xt := xt.trans x183
          have r_script_ := Rp.mono x183.gg r_script_
          have r9 := Rp.mono x183.gg r9
          have r18 := Rp.mono x183.gg r18
          have r28 := Rp.mono x183.gg r28
          have r167 := Rp.mono x183.gg r167
          have r66 := Rp.mono x183.gg r66
          obtain ⟨b186, h187, hm⟩ := Option.bind_eq_some_iff.mp hm
          refine sv_if (tv_orP (tv_not (tv_b (K := K) (ev_inst (b := true) (by decide +kernel) (ev_var rfl r184)))) (tv_test (K := K) (ev_neI (ev_lenT (ev_var rfl r184)) (ev_add (ev_len (ev_var rfl r9)) ev_i)))) h187 xt.gh fun G188 H189 x190 => ?_
          have xt := xt.trans x190
          have r_script_ := Rp.mono x190.gg r_script_
          have r9 := Rp.mono x190.gg r9
          have r18 := Rp.mono x190.gg r18
          have r28 := Rp.mono x190.gg r28
          have r167 := Rp.mono x190.gg r167
          have r66 := Rp.mono x190.gg r66
          have r184 := Rp.mono x190.gg r184
          cases b186 with
          | true =>
            replace hm := cT hm
            refine iteT ?_
            exact sv_ret (K := K) (rest := tNext) (σ := [some v_script_, some v5, some v14, some v24, some (V.ref p30), some v62, v122, some v180, none]) ev_b hm xt.gh fun v191 G192 H193 x194 r195 => q v191 G192 H193 (xt.trans x194) r195
          | false =>
            replace hm := cF hm
            refine iteF ?_
            obtain ⟨as196, h197, hm⟩ := Option.bind_eq_some_iff.mp hm
            obtain ⟨fl198, h199, hm⟩ := Option.bind_eq_some_iff.mp hm
            refine sv_for (K := K) (RR := fun r v G' H' => Ext G0 H0 G' H' ∧ Rp.rel K G' v r) (iw_tup (ev_var rfl r184)) h197 h199 xt.gh fun G200 H201 x202 => ⟨fun s203 S' G' H' => ∃ (v204 : Option V), Ext G0 H0 G' H' ∧ Same G200 G' ∧ S' = [some v_script_, some v5, some v14, some v24, some (V.ref p30), some v62, v122, some v180, v204], ?_, ?_, ?_, ?_, ?_⟩
            · have xt := xt.trans x202
              have r_script_ := Rp.mono x202.gg r_script_
              have r9 := Rp.mono x202.gg r9
              have r18 := Rp.mono x202.gg r18
              have r28 := Rp.mono x202.gg r28
              have r167 := Rp.mono x202.gg r167
              have r66 := Rp.mono x202.gg r66
              have r184 := Rp.mono x202.gg r184
              exact ⟨_, xt, (Same.refl _), rfl⟩
            · rintro _ S' G' H' ⟨v204, xt, mk205, rfl⟩
              exact ⟨mk205, xt.gh⟩
            · rintro xv206 a207 s203 _ G210 H211 fl208 - ⟨v204, xt, mk205, rfl⟩ rx209 hm D' kN212 kC213 kB214 kR215
              have r_script_ := Rp.mono (x202.gg.trans mk205) r_script_
              have r9 := Rp.mono (x202.gg.trans mk205) r9
              have r18 := Rp.mono (x202.gg.trans mk205) r18
              have r28 := Rp.mono (x202.gg.trans mk205) r28
              have r167 := Rp.mono (x202.gg.trans mk205) r167
              have r66 := Rp.mono (x202.gg.trans mk205) r66
              have r184 := Rp.mono (x202.gg.trans mk205) r184
              refine sv_turn ?_
              obtain ⟨b218, h219, hm⟩ := Option.bind_eq_some_iff.mp hm
              refine sv_if (tv_not (tv_b (K := K) (ev_def1 (m := mm_law_truth) (ev_var rfl rx209)))) h219 xt.gh fun G220 H221 x222 => ?_
              have xt := xt.trans x222
              have mk205 := mk205.trans x222.gg
              have r_script_ := Rp.mono x222.gg r_script_
              have r9 := Rp.mono x222.gg r9
              have r18 := Rp.mono x222.gg r18
              have r28 := Rp.mono x222.gg r28
              have r167 := Rp.mono x222.gg r167
              have r66 := Rp.mono x222.gg r66
              have r184 := Rp.mono x222.gg r184
              have rx209 := Rp.mono x222.gg rx209
              cases b218 with
              | true =>
                replace hm := cT hm
                refine iteT ?_
                obtain ⟨rr228, h229, hm⟩ := Option.bind_eq_some_iff.mp hm
                cases hm
                exact sv_ret (K := K) (rest := tNext) (σ := [some v_script_, some v5, some v14, some v24, some (V.ref p30), some v62, v122, some v180, some xv206]) ev_b h229 xt.gh fun v223 G224 H225 x226 r227 => kR215 _ v223 G224 H225 rfl ⟨xt.trans x226, r227⟩
              | false =>
                replace hm := cF hm
                refine iteF ?_
                cases hm
                exact kN212 _ _ _ _ rfl ⟨_, xt, mk205, rfl⟩
            · rintro s203 _ G232 H233 rfl ⟨v230, xt, mk231, rfl⟩
              refine sv_nx ?_
              have r_script_ := Rp.mono (x202.gg.trans mk231) r_script_
              have r9 := Rp.mono (x202.gg.trans mk231) r9
              have r18 := Rp.mono (x202.gg.trans mk231) r18
              have r28 := Rp.mono (x202.gg.trans mk231) r28
              have r167 := Rp.mono (x202.gg.trans mk231) r167
              have r66 := Rp.mono (x202.gg.trans mk231) r66
              have r184 := Rp.mono (x202.gg.trans mk231) r184
              exact sv_ret (K := K) (ev_eq (ev_var rfl r184) (ev_catTp (ev_var rfl r66) (ev_tupL (lv_cons (ev_not (ev_atT (ev_var rfl r66) (ev_neg ev_i))) (lv_nil (α := Bool)))))) hm xt.gh fun v249 G250 H251 x252 r253 => q v249 G250 H251 (xt.trans x252) r253
            · rintro r' v' G' H' rfl rl
              cases hm
              exact q v' G' H' rl.1 rl.2
    · rintro r' v' G' H' rfl rl
      cases hm
      exact q v' G' H' rl.1 rl.2
end
end My

set_option Elab.async false
set_option linter.all false
set_option maxRecDepth 100000
set_option maxHeartbeats 4000000
namespace My
open PySem PySem.Spec PyProof.Rows L2
theorem abc_len : (signsO "abcdefghijklmnopqrstuvwxyz").length = 26 := by decide +kernel
theorem sign_one {x c : Str} (h : c ∈ signsO x) : c.length = 1 := by
  obtain ⟨d, _, rfl⟩ := List.mem_map.mp h
  rfl
theorem lit_ok (n : Int) {P : Str → Prop} (hp : ∀ x : Str, x.length ≤ 26 → P x) : OK (m_law_lit n) P := by
  have hs : sizeLine = 16777216 := sizeLine_eq
  unfold m_law_lit
  simp only [Option.bind_assoc, bindS, bind_self]
  refine ok_bind (ok_for' (fun i s => s.2.length ≤ i) (Nat.zero_le _) (fun i a s ha hI => ?_) fun s hI => ?_)
  · have hi : i < 26 := by rw [← abc_len]; exact (List.getElem?_eq_some_iff.mp ha).1
    have h1 := sign_one (List.mem_of_getElem? ha)
    refine ok_by (P := fun x : Str => x.length ≤ i + 1) (ok_cond (fun _ => ok_catS (by omega) (by rw [len_app]; omega)) fun _ => ok_some (by omega)) fun x hx => ok_some ⟨_, rfl, hx⟩
  · rw [abc_len] at hI
    exact ok_some (hp _ hI)
theorem cell0_ok (s : Scr) (k : Int) (h0 : 0 ≤ k) {P : Int → Prop} (hp : ∀ n, P n) : OK (m_law_cell s k) P := by
  unfold m_law_cell
  simp only [Option.bind_assoc, bindS, bind_self]
  exact ok_cond (fun h => ok_at h0 (of_decide_eq_true h) fun x _ => hp x) fun _ => ok_some (hp _)
theorem abc_size : (("abcdefghijklmnopqrstuvwxyz" : Str).cps.toList).length = 26 := by decide +kernel
theorem rng_at {n i : Nat} {a : Int} (h : ((List.range n).map fun (i : Nat) => (0 : Int) + (i : Int))[i]? = some a) : i < n ∧ a = (i : Int) := by
  have hi : i < n := by simpa using (List.getElem?_eq_some_iff.mp h).1
  refine ⟨hi, ?_⟩
  simp [hi] at h
  omega
theorem rng_len (n : Nat) : ((List.range n).map fun (i : Nat) => (0 : Int) + (i : Int)).length = n := by rw [List.length_map, List.length_range]
/-- a row with n rows ahead of it -/
inductive Rw (n : Nat) : Tp SI → Prop where
  | yes : Rw n ⟨[.s "yes"]⟩
  | lamp (c : Str) : Rw n ⟨[.s "lamp", .s c]⟩
  | one {w : Str} {i : Nat} : w = "not" ∨ w = "next" → i < n → Rw n ⟨[.s w, .i (i : Int)]⟩
  | two {w : Str} {i j : Nat} : w = "and" ∨ w = "until" → i < n → j < n → Rw n ⟨[.s w, .i (i : Int), .i (j : Int)]⟩
theorem cut_tail (a : SI) (l : List SI) : cutT? (a :: l) (some 1) none = some ⟨l⟩ := by
  have h1 : HT.sIx (a :: l).length 0 (some (1 : Int)) = 1 := by
    unfold HT.sIx
    simp
    try omega
  have h2 : HT.sIx (a :: l).length (a :: l).length none = (a :: l).length := rfl
  unfold cutT?
  rw [if_pos (by rw [h1]; exact fun z => absurd z.1 (by decide))]
  unfold cutA
  rw [h1, h2]
  simp
theorem ok_sum {ns : List Int} {P : Int → Prop} (hl : ns.length ≤ 2) (hb : ∀ n ∈ ns, 0 ≤ n ∧ n ≤ 200) (h : ∀ m : Int, 0 ≤ m → P m) : OK (sumO ns) P :=
  ⟨_, if_pos ⟨by omega, fun n hn => by have := hb n hn; omega⟩, h _ (sum_bound fun n hn => by have := hb n hn; omega).1⟩
theorem at_s0 (w : Str) (l : List SI) : atI (SI.s w :: l) (0 : Int) = some (SI.s w) := atI_nat (j := 0) rfl
theorem at_s1 (a b : SI) (l : List SI) : atI (a :: b :: l) (1 : Int) = some b := atI_nat (j := 1) rfl
theorem at_s2 (a b c : SI) (l : List SI) : atI (a :: b :: c :: l) (2 : Int) = some c := atI_nat (j := 2) rfl
theorem ny : decide (("yes" : Str) = "lamp") = false := by decide +kernel
theorem size_ok {r : Tp SI} {sizes : List Int} (hr : Rw sizes.length r) (hb : ∀ n ∈ sizes, 0 ≤ n ∧ n ≤ 200) {P : Int → Prop} (hp : ∀ m : Int, 0 ≤ m → P m) : OK (m_law_size r sizes) P := by
  unfold m_law_size
  simp only [Option.bind_assoc, bindS, bind_self]
  have one : ∀ i, i < sizes.length → OK (atI sizes (i : Int)) fun m => 0 ≤ m ∧ m ≤ 200 := fun i hi => ok_atN hi fun x hx => hb x (List.mem_of_getElem? hx)
  cases hr with
  | yes =>
    simp only [at_s0, asS, bindS, ny, cond_false, cut_tail]
    exact ok_bind ⟨[], rfl, ok_bind (ok_sum (by decide) (fun n hn => by cases hn) fun m hm => ok_some (hp _ (by omega)))⟩
  | lamp c =>
    simp only [at_s0, asS, bindS]
    exact ok_cond (fun _ => ok_some (hp _ (by decide))) fun h => absurd trivial (of_decide_eq_false h)
  | @one w i hw hi =>
    simp only [at_s0, asS, bindS, cut_tail]
    refine ok_cond (fun _ => ok_some (hp _ (by decide))) fun _ => ?_
    obtain ⟨x, ex, bx⟩ := one i hi
    refine ok_bind ⟨[x], ?_, ok_bind (ok_sum (by simp) (fun n hn => by rw [List.mem_singleton] at hn; rw [hn]; exact bx) fun m hm => ok_some (hp _ (by omega)))⟩
    simp only [mapO, asI, bindS, ex]
  | @two w i j hw hi hj =>
    simp only [at_s0, asS, bindS, cut_tail]
    refine ok_cond (fun _ => ok_some (hp _ (by decide))) fun _ => ?_
    obtain ⟨x, ex, bx⟩ := one i hi
    obtain ⟨y, ey, by_⟩ := one j hj
    refine ok_bind ⟨[x, y], ?_, ok_bind (ok_sum (by simp) (fun n hn => by
      simp only [List.mem_cons, List.not_mem_nil, or_false] at hn
      rcases hn with rfl | rfl
      · exact bx
      · exact by_) fun m hm => ok_some (hp _ (by omega)))⟩
    simp only [mapO, asI, bindS, ex, ey]
def Book (rows : List (Tp SI)) : Prop := ∀ k r, rows[k]? = some r → Rw k r
/-- the word of a row -/
def wd (r : Tp SI) : Str := ((r.l.head?).bind asS).getD ""
theorem Rw.word {n : Nat} {r : Tp SI} (h : Rw n r) : ∃ l, r = ⟨.s (wd r) :: l⟩ := by
  cases h <;> exact ⟨_, rfl⟩
theorem nw2 : ∀ w : Str, w = "and" ∨ w = "until" → w ≠ "yes" ∧ w ≠ "lamp" ∧ w ≠ "not" ∧ w ≠ "next" := by
  rintro w (rfl | rfl) <;> exact ⟨by decide +kernel, by decide +kernel, by decide +kernel, by decide +kernel⟩
def isU (rows : List (Tp SI)) (k : Nat) : Bool := decide (wd (rows.getD k ⟨[]⟩) = "until")
def hs (rows : List (Tp SI)) (n : Nat) : List Int := ((List.range n).filter (isU rows)).map fun (k : Nat) => (k : Int)
theorem enumI_rows (rows : List (Tp SI)) : enumI 0 rows = (List.range rows.length).map fun (k : Nat) => ((k : Int), rows.getD k ⟨[]⟩) := by
  refine List.ext_getElem? fun i => ?_
  rw [enumI_get, List.getElem?_map]
  by_cases h : i < rows.length
  · simp [h]
  · rw [List.getElem?_eq_none (by omega), List.getElem?_eq_none (by rw [List.length_range]; omega)]
    rfl
theorem hopes_eq (rows : List (Tp SI)) (hb : Book rows) : m_hopes rows = some (hs rows rows.length) := by
  refine OK.eq ?_
  unfold m_hopes
  simp only [Option.bind_assoc, bindS, bind_self]
  refine ok_comp (c := fun p : Int × Tp SI => decide (wd p.2 = "until")) (g := fun p => p.1) (fun p hp => ?_) (fun _ _ _ => rfl) ?_
  · obtain ⟨i, hi⟩ := List.mem_iff_getElem?.mp hp
    rw [enumI_get] at hi
    obtain ⟨r, hr, rfl⟩ := Option.map_eq_some_iff.mp hi
    obtain ⟨l, el⟩ := (hb i r hr).word
    have e1 : atI r.l (0 : Int) = some (.s (wd r)) := by
      rw [el]
      exact at_s0 _ _
    simp only [e1, asS, bindS]
  · rw [enumI_rows, List.filter_map, List.map_map]
    rfl
theorem sortZ_eq {ys zs : List Int} (hp : zs.Perm ys) (hz : zs.Pairwise (· ≤ ·)) : sortZ ys = zs := (sortZ_of hp hz).symm
theorem sort_dedZ {ys : List Int} {cs : List Nat} (hc : cs.Pairwise (· < ·)) (h : ∀ y, y ∈ ys ↔ ∃ c ∈ cs, y = ((c : Nat) : Int)) : sortZ (dedA ys) = cs.map (fun (c : Nat) => (c : Int)) ∧ (dedA ys).length = cs.length := by
  have nd : (cs.map (fun (c : Nat) => (c : Int))).Nodup := by
    rw [List.nodup_iff_pairwise_ne]
    exact List.Pairwise.map _ (fun a b q e => absurd q (by omega)) hc
  have hp : (cs.map (fun (c : Nat) => (c : Int))).Perm (dedA ys) := (List.perm_ext_iff_of_nodup nd (nodup_dedA ys)).mpr fun y => by
    rw [mem_dedA, h y, List.mem_map]
    exact ⟨fun ⟨c, hc, e⟩ => ⟨c, hc, e.symm⟩, fun ⟨c, hc, e⟩ => ⟨c, hc, e.symm⟩⟩
  refine ⟨sortZ_eq hp (List.Pairwise.map _ (fun a b q => by omega) hc), ?_⟩
  rw [← hp.length_eq, List.length_map]
def nxt (k : Nat) : Tp SI := ⟨[.s "next", .i (k : Int)]⟩
def isW (rows : List (Tp SI)) (k : Nat) : Bool := isU rows k || decide (nxt k ∈ rows)
def ws (rows : List (Tp SI)) (n : Nat) : List Nat := (List.range n).filter (isW rows)
theorem ws_pw (rows : List (Tp SI)) (n : Nat) : (ws rows n).Pairwise (· < ·) := List.pairwise_lt_range.sublist List.filter_sublist
theorem ws_len (rows : List (Tp SI)) (n : Nat) : (ws rows n).length ≤ n := by
  have := List.length_filter_le (isW rows) (List.range n)
  rw [List.length_range] at this
  exact this
theorem mem_ws {rows : List (Tp SI)} {n k : Nat} : k ∈ ws rows n ↔ k < n ∧ isW rows k = true := by unfold ws; rw [List.mem_filter, List.mem_range]
/-- a row of the word next -/
theorem Rw.next {n : Nat} {r : Tp SI} (h : Rw n r) (hw : wd r = "next") : ∃ i, i < n ∧ r = nxt i := by
  have ax : ∀ {x y : Str}, decide (x = y) = false → x = y → False := fun h e => of_decide_eq_false h e
  cases h with
  | yes => exact (ax (x := "yes") (y := "next") (by decide +kernel) hw).elim
  | lamp c => exact (ax (x := "lamp") (y := "next") (by decide +kernel) hw).elim
  | @one w i hw' hi =>
    have e : w = "next" := hw
    subst e
    exact ⟨i, hi, rfl⟩
  | @two w i j hw' hi hj => exact absurd hw (nw2 w hw').2.2.2
theorem nxt_lt {rows : List (Tp SI)} (hb : Book rows) {k : Nat} (h : nxt k ∈ rows) : k < rows.length := by
  obtain ⟨i, hi⟩ := List.mem_iff_getElem?.mp h
  obtain ⟨j, hj, e⟩ := (hb i _ hi).next rfl
  have hl := (List.getElem?_eq_some_iff.mp hi).1
  unfold nxt at e
  injection e with e
  simp only [List.cons.injEq, SI.i.injEq, and_true, true_and] at e
  omega
theorem waits_eq (rows : List (Tp SI)) (hb : Book rows) (hl : rows.length < 64) : m_waits rows = some ((ws rows rows.length).map fun (k : Nat) => (k : Int)) := by
  refine OK.eq ?_
  unfold m_waits
  simp only [Option.bind_assoc, bindS, bind_self, hopes_eq rows hb]
  have word : ∀ r ∈ rows, ∃ k, Rw k r := fun r hr => by
    obtain ⟨i, hi⟩ := List.mem_iff_getElem?.mp hr
    exact ⟨i, hb i r hi⟩
  refine ok_bind (ok_comp (c := fun r : Tp SI => decide (wd r = "next")) (g := fun r : Tp SI => (((r.l[1]?).bind asI).getD 0)) (fun r hr => ?_) (fun r hr hc => ?_) ?_)
  · obtain ⟨k, hk⟩ := word r hr
    obtain ⟨l, el⟩ := hk.word
    have e1 : atI r.l (0 : Int) = some (.s (wd r)) := by
      rw [el]
      exact at_s0 _ _
    simp only [e1, asS, bindS]
  · obtain ⟨k, hk⟩ := word r hr
    obtain ⟨i, hi, e⟩ := hk.next (of_decide_eq_true hc)
    subst e
    unfold nxt
    simp only [at_s1, asI, bindS]
    rfl
  · obtain ⟨e1, e2⟩ := sort_dedZ (ys := hs rows rows.length ++ (rows.filter fun r => decide (wd r = "next")).map fun r : Tp SI => (((r.l[1]?).bind asI).getD 0)) (ws_pw rows rows.length) fun y => by
      rw [List.mem_append]
      constructor
      · rintro (h | h)
        · unfold hs at h
          obtain ⟨k, hk, rfl⟩ := List.mem_map.mp h
          obtain ⟨h1, h2⟩ := List.mem_filter.mp hk
          exact ⟨k, mem_ws.mpr ⟨List.mem_range.mp h1, by unfold isW; rw [h2]; rfl⟩, rfl⟩
        · obtain ⟨r, hr, rfl⟩ := List.mem_map.mp h
          obtain ⟨h1, h2⟩ := List.mem_filter.mp hr
          obtain ⟨k, hk⟩ := word r h1
          obtain ⟨i, hi, e⟩ := hk.next (of_decide_eq_true h2)
          subst e
          exact ⟨i, mem_ws.mpr ⟨nxt_lt hb h1, by unfold isW; rw [decide_eq_true h1, Bool.or_true]⟩, rfl⟩
      · rintro ⟨c, hc, rfl⟩
        obtain ⟨h1, h2⟩ := mem_ws.mp hc
        unfold isW at h2
        rw [Bool.or_eq_true] at h2
        rcases h2 with h2 | h2
        · exact .inl (List.mem_map.mpr ⟨c, List.mem_filter.mpr ⟨List.mem_range.mpr h1, h2⟩, rfl⟩)
        · exact .inr (List.mem_map.mpr ⟨nxt c, List.mem_filter.mpr ⟨of_decide_eq_true h2, decide_eq_true rfl⟩, rfl⟩)
    have l1 := ws_len rows rows.length
    have l2 : (hs rows rows.length).length ≤ rows.length := by
      unfold hs
      have := List.length_filter_le (isU rows) (List.range rows.length)
      rw [List.length_range] at this
      rw [List.length_map]
      exact this
    have l3 : ((rows.filter fun r => decide (wd r = "next")).map fun r : Tp SI => (((r.l[1]?).bind asI).getD 0)).length ≤ rows.length := by
      rw [List.length_map]
      exact List.length_filter_le _ _
    refine ⟨_, if_pos ⟨by omega, by omega, by rw [e2]; omega⟩, e1⟩
theorem putM_new {l : List (Int × Bool)} {k : Int} {a : Bool} (h : k ∉ l.map (·.1)) : (putM l k a).map (·.1) = l.map (·.1) ++ [k] := by
  unfold putM
  rw [if_neg, List.map_append]
  · rfl
  · intro q
    obtain ⟨x, hx, e⟩ := List.any_eq_true.mp q
    exact h (List.mem_map.mpr ⟨x, hx, of_decide_eq_true e⟩)
theorem getM_key {l : List (Int × Bool)} {k : Int} (h : k ∈ l.map (·.1)) : ∃ b, getM l k = some b := by
  induction l with
  | nil => cases h
  | cons q l ih =>
    obtain ⟨j, b⟩ := q
    unfold getM
    by_cases e : j = k
    · rw [if_pos e]; exact ⟨b, rfl⟩
    · rw [if_neg e]
      refine ih ?_
      rcases List.mem_cons.mp h with h | h
      · exact absurd h.symm e
      · exact h
theorem behind_keys (rows : List (Tp SI)) (hb : Book rows) (hl : rows.length ≤ 200) (c : Int) {P : MpF Bool → Prop} (hp : ∀ m : MpF Bool, m.l.map (·.1) = (ws rows rows.length).map (fun (k : Nat) => (k : Int)) → P m) : OK (m_law_behind rows c) P := by
  have hs : sizeLine = 16777216 := sizeLine_eq
  unfold m_law_behind
  simp only [Option.bind_assoc, bindS, bind_self]
  refine ok_bind (ok_rng (n := rows.length) (by omega) (by omega) (by omega) ?_)
  refine ok_bind (ok_for' (fun i (s : Int × Mp Bool) => s.2.l.length ≤ i ∧ s.2.l.map (·.1) = (ws rows i).map (fun (k : Nat) => (k : Int))) ⟨Nat.zero_le _, rfl⟩ (fun i a s ha ⟨h1, h2⟩ => ?_) fun s ⟨h1, h2⟩ => ok_some (hp _ (by rw [rng_len] at h2; exact h2)))
  obtain ⟨hi, rfl⟩ := rng_at ha
  obtain ⟨r, hr⟩ : ∃ r, rows[i]? = some r := ⟨_, List.getElem?_eq_getElem hi⟩
  obtain ⟨l, el⟩ := (hb i r hr).word
  have e0 : atI rows (i : Int) = some r := atI_nat hr
  have e1 : atI r.l (0 : Int) = some (.s (wd r)) := by
    rw [el]
    exact at_s0 _ _
  have eU : isU rows i = decide (wd r = "until") := by
    unfold isU
    rw [List.getD_eq_getElem?_getD, hr]
    rfl
  have hsucc : ws rows (i + 1) = ws rows i ++ cond (isW rows i) [i] [] := by
    unfold ws
    rw [List.range_succ, List.filter_append, List.filter_cons]
    cases isW rows i <;> rfl
  simp only [e0, e1, asS, bindS]
  refine ok_by (P := fun b => b = isW rows i) ?_ fun b hb' => ok_cond (fun h => ?_) fun h => ok_some ⟨_, rfl, by dsimp only; omega, ?_⟩
  · unfold isW
    rw [eU]
    refine ok_cond (fun h => ok_some (by rw [h]; rfl)) fun h => ok_some ?_
    rw [h]
    rfl
  · have hW : isW rows i = true := hb'.symm.trans h
    have hn : (i : Int) ∉ s.2.l.map (·.1) := by
      rw [h2]
      intro q
      obtain ⟨k, hk, e⟩ := List.mem_map.mp q
      have := (mem_ws.mp hk).1
      omega
    refine ok_bind ⟨_, if_pos (by omega), ok_some ⟨_, rfl, ?_, ?_⟩⟩
    · have : (putM s.2.l (i : Int) (decide (s.1 % 2 = 1))).length = s.2.l.length + 1 := by
        have := congrArg List.length (putM_new (a := decide (s.1 % 2 = 1)) hn)
        rw [List.length_map, List.length_append, List.length_map] at this
        exact this
      dsimp only
      omega
    · dsimp only
      rw [putM_new hn, h2, hsucc, hW, List.map_append]
      rfl
  · have hW : isW rows i = false := hb'.symm.trans h
    dsimp only
    rw [h2, hsucc, hW]
    exact congrArg _ (List.append_nil _).symm
theorem row_ok (c : Int) (many : Nat) {P : Tp SI → Prop} (hp : ∀ r, Rw many r → P r) : OK (m_law_row c (many : Int)) P := by
  have m0 := Int.emod_nonneg c (b := 7) (by decide)
  have m1 := Int.emod_lt_of_pos c (b := 7) (by decide)
  have n0 := Int.emod_nonneg (c / 7) (b := 27) (by decide)
  have n1 := Int.emod_lt_of_pos (c / 7) (b := 27) (by decide)
  unfold m_law_row
  simp only [Option.bind_assoc, bindS, bind_self]
  refine ok_cond (fun _ => ok_cond (fun _ => ok_some (hp _ .yes)) fun h => ?_) fun h => ?_
  · have h := of_decide_eq_false h
    exact ok_bind (ok_at n0 (by rw [abc_size]; omega) fun z _ => ok_some (hp _ (.lamp _)))
  · simp only [Bool.or_eq_false_iff, decide_eq_false_iff_not] at h
    have hm : (0 : Int) < (many : Int) := by omega
    have a0 := Int.emod_nonneg (c / 7) (b := (many : Int)) (by omega)
    have a1 := Int.emod_lt_of_pos (c / 7) hm
    have b0 := Int.emod_nonneg (c / 7 * 7919 % 10007) (b := (many : Int)) (by omega)
    have b1 := Int.emod_lt_of_pos (c / 7 * 7919 % 10007) hm
    refine ok_bind (ok_mod hm (ok_bind (ok_mod hm ?_)))
    obtain ⟨i, hi⟩ := Int.eq_ofNat_of_zero_le a0
    obtain ⟨j, hj⟩ := Int.eq_ofNat_of_zero_le b0
    rw [hi] at a1 ⊢
    rw [hj] at b1 ⊢
    refine ok_cond (fun h2 => ?_) fun h2 => ?_
    · have h2 := of_decide_eq_true h2
      refine ok_bind (ok_at (by omega) (by show c % 7 - 1 < 2; omega) fun w hw => ok_some (hp _ (.one ?_ (by omega))))
      have := List.mem_of_getElem? hw
      simpa using this
    · have h2 := of_decide_eq_false h2
      refine ok_bind (ok_at (by omega) (by show c % 7 - 3 < 4; omega) fun w hw => ok_some (hp _ (.two ?_ (by omega) (by omega))))
      have := List.mem_of_getElem? hw
      simp only [List.mem_cons, List.not_mem_nil, or_false] at this
      rcases this with h | h | h | h
      · exact .inl h
      · exact .inl h
      · exact .inr h
      · exact .inr h
theorem book_ok (cells : List Int) (hc : cells.length ≤ 200) {P : List (Tp SI) → Prop} (hp : ∀ rows, Book rows → rows.length ≤ cells.length → P rows) : OK (m_law_book cells) P := by
  have hs : sizeLine = 16777216 := sizeLine_eq
  unfold m_law_book
  simp only [Option.bind_assoc, bindS, bind_self]
  refine ok_bind (ok_for' (fun i (s : List (Tp SI) × List Int) => Book s.1 ∧ s.1.length ≤ i ∧ s.2.length = s.1.length ∧ ∀ n ∈ s.2, 0 ≤ n ∧ n ≤ 200) ⟨fun k r h => by simp at h, Nat.zero_le _, rfl, fun n hn => by cases hn⟩ (fun i a s ha ⟨h1, h2, h3, h4⟩ => ?_) fun s ⟨h1, h2, h3, h4⟩ => ok_some (hp _ h1 (by omega)))
  have hi := (List.getElem?_eq_some_iff.mp ha).1
  refine ok_bind (row_ok _ _ fun r hr => ok_bind (size_ok (by rw [h3]; exact hr) h4 fun m hm => ?_))
  refine ok_cond (fun h => ?_) fun _ => ok_some ⟨_, rfl, h1, by dsimp only; omega, h3, h4⟩
  simp only [Bool.and_eq_true, decide_eq_true_iff] at h
  refine ok_bind (ok_push (by omega) (ok_bind (ok_push (by omega) (ok_some ⟨_, rfl, ?_, ?_, ?_, ?_⟩))))
  · intro k r' hk
    by_cases hlt : k < s.1.length
    · rw [List.getElem?_append_left hlt] at hk
      exact h1 k r' hk
    · rw [List.getElem?_append_right (by omega)] at hk
      have : k - s.1.length = 0 := by
        have := (List.getElem?_eq_some_iff.mp hk).1
        simp at this
        omega
      rw [this] at hk
      cases hk
      have e : k = s.1.length := by omega
      rw [e]
      exact hr
  · simp only [List.length_append, List.length_singleton]
    omega
  · simp only [List.length_append, List.length_singleton]
    omega
  · intro n hn
    rcases List.mem_append.mp hn with hn | hn
    · exact h4 n hn
    · rw [List.mem_singleton] at hn
      rw [hn]
      exact ⟨hm, by omega⟩
theorem isW_u {rows : List (Tp SI)} {k : Nat} {r : Tp SI} (hr : rows[k]? = some r) (hw : wd r = "until") : isW rows k = true := by
  unfold isW isU
  rw [List.getD_eq_getElem?_getD, hr]
  show (decide (wd r = "until") || _) = true
  rw [decide_eq_true hw]
  rfl
theorem isW_n {rows : List (Tp SI)} {k : Nat} (h : nxt k ∈ rows) : isW rows k = true := by
  unfold isW
  rw [decide_eq_true h, Bool.or_true]

theorem v_ly : decide (("lamp" : Str) = "yes") = false := by decide +kernel
theorem v_yl : decide (("yes" : Str) = "lamp") = false := by decide +kernel
theorem v_yn : decide (("yes" : Str) = "not") = false := by decide +kernel
theorem v_ya : decide (("yes" : Str) = "and") = false := by decide +kernel
theorem v_yx : decide (("yes" : Str) = "next") = false := by decide +kernel
theorem v_yu : decide (("yes" : Str) = "until") = false := by decide +kernel
theorem v_ny : decide (("not" : Str) = "yes") = false := by decide +kernel
theorem v_nl : decide (("not" : Str) = "lamp") = false := by decide +kernel
theorem v_xy : decide (("next" : Str) = "yes") = false := by decide +kernel
theorem v_xl : decide (("next" : Str) = "lamp") = false := by decide +kernel
theorem v_xn : decide (("next" : Str) = "not") = false := by decide +kernel
theorem v_xa : decide (("next" : Str) = "and") = false := by decide +kernel
theorem v_ay : decide (("and" : Str) = "yes") = false := by decide +kernel
theorem v_al : decide (("and" : Str) = "lamp") = false := by decide +kernel
theorem v_an : decide (("and" : Str) = "not") = false := by decide +kernel
theorem v_uy : decide (("until" : Str) = "yes") = false := by decide +kernel
theorem v_ul : decide (("until" : Str) = "lamp") = false := by decide +kernel
theorem v_un : decide (("until" : Str) = "not") = false := by decide +kernel
theorem v_ua : decide (("until" : Str) = "and") = false := by decide +kernel
theorem v_ux : decide (("until" : Str) = "next") = false := by decide +kernel
theorem dT (w : Str) : decide (w = w) = true := decide_eq_true rfl
def g (l : List Bool) (p : Nat) : Bool := l.getD p false
theorem at_g {l : List Bool} {p : Nat} (h : p < l.length) : atI l (p : Int) = some (g l p) := atI_nat (by unfold g; simp [h])
def ix (r : Tp SI) (k : Nat) : Nat := (((r.l[k]?).bind asI).getD 0).toNat
def lp (r : Tp SI) : Str := ((r.l[1]?).bind asS).getD ""
/-- a row's truth, by the truths of the rows ahead and what is claimed -/
def tr (lit : Str) (f : Nat → Bool) (v : List Bool) (k : Nat) (r : Tp SI) : Bool :=
  cond (decide (wd r = "yes")) true (cond (decide (wd r = "lamp")) (inS (lp r) lit) (cond (decide (wd r = "not")) (!g v (ix r 1)) (cond (decide (wd r = "and")) (g v (ix r 1) && g v (ix r 2)) (cond (decide (wd r = "next")) (f (ix r 1)) (g v (ix r 2) || (g v (ix r 1) && f k))))))
section
variable (lit : Str) (f : Nat → Bool) (v : List Bool) (k : Nat)
theorem tr_yes : tr lit f v k ⟨[.s "yes"]⟩ = true := by
  show cond (decide (("yes" : Str) = "yes")) _ _ = _
  rw [dT]; rfl
theorem tr_lamp (c : Str) : tr lit f v k ⟨[.s "lamp", .s c]⟩ = inS c lit := by
  show cond (decide (("lamp" : Str) = "yes")) _ (cond (decide (("lamp" : Str) = "lamp")) _ _) = _
  rw [v_ly, dT]; rfl
theorem tr_not (i : Nat) : tr lit f v k ⟨[.s "not", .i (i : Int)]⟩ = !g v i := by
  show cond (decide (("not" : Str) = "yes")) _ (cond (decide (("not" : Str) = "lamp")) _ (cond (decide (("not" : Str) = "not")) _ _)) = _
  rw [v_ny, v_nl, dT]; rfl
theorem tr_and (i j : Nat) : tr lit f v k ⟨[.s "and", .i (i : Int), .i (j : Int)]⟩ = (g v i && g v j) := by
  show cond (decide (("and" : Str) = "yes")) _ (cond (decide (("and" : Str) = "lamp")) _ (cond (decide (("and" : Str) = "not")) _ (cond (decide (("and" : Str) = "and")) _ _))) = _
  rw [v_ay, v_al, v_an, dT]; rfl
theorem tr_next (i : Nat) : tr lit f v k ⟨[.s "next", .i (i : Int)]⟩ = f i := by
  show cond (decide (("next" : Str) = "yes")) _ (cond (decide (("next" : Str) = "lamp")) _ (cond (decide (("next" : Str) = "not")) _ (cond (decide (("next" : Str) = "and")) _ (cond (decide (("next" : Str) = "next")) _ _)))) = _
  rw [v_xy, v_xl, v_xn, v_xa, dT]; rfl
theorem tr_until (i j : Nat) : tr lit f v k ⟨[.s "until", .i (i : Int), .i (j : Int)]⟩ = (g v j || (g v i && f k)) := by
  show cond (decide (("until" : Str) = "yes")) _ (cond (decide (("until" : Str) = "lamp")) _ (cond (decide (("until" : Str) = "not")) _ (cond (decide (("until" : Str) = "and")) _ (cond (decide (("until" : Str) = "next")) _ _)))) = _
  rw [v_uy, v_ul, v_un, v_ua, v_ux]; rfl
end
def rw_ (rows : List (Tp SI)) (k : Nat) : Tp SI := rows.getD k ⟨[]⟩
def vw (rows : List (Tp SI)) (lit : Str) (f : Nat → Bool) : Nat → List Bool
  | 0 => []
  | k + 1 => vw rows lit f k ++ [tr lit f (vw rows lit f k) k (rw_ rows k)]
theorem vw_len (rows : List (Tp SI)) (lit : Str) (f : Nat → Bool) : ∀ k, (vw rows lit f k).length = k
  | 0 => rfl
  | k + 1 => by
    show (vw rows lit f k ++ _).length = _
    rw [List.length_append, vw_len rows lit f k]
    rfl
theorem vw_low (rows : List (Tp SI)) (lit : Str) (f : Nat → Bool) {i k : Nat} (h : i < k) : ∀ n, k ≤ n → g (vw rows lit f n) i = g (vw rows lit f k) i := by
  intro n hn
  induction n with
  | zero => omega
  | succ n ih =>
    by_cases e : k = n + 1
    · rw [e]
    · rw [← ih (by omega)]
      show g (vw rows lit f n ++ _) i = _
      unfold g
      rw [List.getD_eq_getElem?_getD, List.getElem?_append_left (by rw [vw_len]; omega), ← List.getD_eq_getElem?_getD]
theorem vw_at (rows : List (Tp SI)) (lit : Str) (f : Nat → Bool) {k n : Nat} (h : k < n) : g (vw rows lit f n) k = tr lit f (vw rows lit f k) k (rw_ rows k) := by
  rw [vw_low rows lit f (Nat.lt_succ_self k) n h]
  show g (vw rows lit f k ++ _) k = _
  unfold g
  rw [List.getD_eq_getElem?_getD, List.getElem?_append_right (by rw [vw_len]; exact Nat.le_refl _), vw_len, Nat.sub_self]
  rfl
theorem vw_more (rows : List (Tp SI)) (r : Tp SI) (lit : Str) (f : Nat → Bool) : ∀ k, k ≤ rows.length → vw (rows ++ [r]) lit f k = vw rows lit f k
  | 0, _ => rfl
  | k + 1, h => by
    have e : rw_ (rows ++ [r]) k = rw_ rows k := by
      unfold rw_
      rw [List.getD_eq_getElem?_getD, List.getElem?_append_left (by omega), ← List.getD_eq_getElem?_getD]
    show vw (rows ++ [r]) lit f k ++ _ = vw rows lit f k ++ _
    rw [vw_more rows r lit f k (by omega), e]
def fm (l : List (Int × Bool)) (k : Nat) : Bool := (getM l (k : Int)).getD false
theorem fm_get {rows : List (Tp SI)} {l : List (Int × Bool)} (hm : l.map (·.1) = (ws rows rows.length).map (fun (k : Nat) => (k : Int))) {k : Nat} (hk : k < rows.length) (hw : isW rows k = true) : getM l (k : Int) = some (fm l k) := by
  obtain ⟨b, e⟩ := getM_key (l := l) (k := (k : Int)) (by rw [hm]; exact List.mem_map.mpr ⟨k, mem_ws.mpr ⟨hk, hw⟩, rfl⟩)
  unfold fm
  rw [e]
  rfl
theorem putM_app {l : List (Int × Bool)} {k : Int} {a : Bool} (h : k ∉ l.map (·.1)) : putM l k a = l ++ [(k, a)] := by
  unfold putM
  rw [if_neg]
  intro q
  obtain ⟨x, hx, e⟩ := List.any_eq_true.mp q
  exact h (List.mem_map.mpr ⟨x, hx, of_decide_eq_true e⟩)
theorem fold_put : ∀ (l acc : List (Int × Bool)), ((acc ++ l).map (·.1)).Nodup → l.foldl (fun m q => putM m q.1 q.2) acc = acc ++ l
  | [], acc, _ => by simp
  | q :: l, acc, h => by
    have hq : q.1 ∉ acc.map (·.1) := by
      rw [List.map_append, List.nodup_append] at h
      exact fun z => h.2.2 _ z _ (by simp) rfl
    rw [List.foldl_cons, putM_app hq, fold_put l (acc ++ [(q.1, q.2)]) (by rw [List.append_assoc]; exact h), List.append_assoc]
    rfl
theorem zip_parts : ∀ l : List (Int × Bool), (l.map (·.1)).zip (l.map (·.2)) = l
  | [] => rfl
  | q :: l => by rw [List.map_cons, List.map_cons, List.zip_cons_cons, zip_parts l]
theorem getM_mem : ∀ {l : List (Int × Bool)} {q : Int × Bool}, (l.map (·.1)).Nodup → q ∈ l → getM l q.1 = some q.2
  | [], _, _, h => by cases h
  | p :: l, q, nd, h => by
    obtain ⟨j, b⟩ := p
    rw [List.map_cons, List.nodup_cons] at nd
    unfold getM
    rcases List.mem_cons.mp h with h | h
    · rw [h, if_pos rfl]
    · rw [if_neg (fun e => nd.1 (List.mem_map.mpr ⟨q, h, e.symm⟩))]
      exact getM_mem nd.2 h
theorem ws_nodup (rows : List (Tp SI)) (n : Nat) : ((ws rows n).map (fun (k : Nat) => (k : Int))).Nodup := by
  rw [List.nodup_iff_pairwise_ne]
  exact List.Pairwise.map _ (fun a b q e => absurd q (by omega)) (ws_pw rows n)
theorem truth_eq {rows : List (Tp SI)} {lit : Str} {l : List (Int × Bool)} (hm : l.map (·.1) = (ws rows rows.length).map (fun (k : Nat) => (k : Int))) {k : Nat} {r : Tp SI} {v : List Bool} (hr : rows[k]? = some r) (hw : Rw k r) (hv : v.length = k) : m_truth_of rows (k : Int) lit ⟨l⟩ v = some (tr lit (fm l) v k r) := by
  have hk := (List.getElem?_eq_some_iff.mp hr).1
  have e0 : atI rows (k : Int) = some r := atI_nat hr
  refine OK.eq ?_
  unfold m_truth_of
  simp only [Option.bind_assoc, bindS, bind_self, e0]
  have at_ : ∀ j, j < k → atI v (j : Int) = some (g v j) := fun j hj => at_g (by omega)
  cases hw with
  | yes =>
    rw [tr_yes]
    simp only [at_s0, asS, bindS, v_yl, v_yn, v_ya, v_yx, v_yu, cond_false]
    exact ok_some rfl
  | lamp c =>
    rw [tr_lamp]
    simp only [at_s0, at_s1, asS, bindS]
    exact ok_cond (fun _ => ok_some rfl) fun h => absurd trivial (of_decide_eq_false h)
  | @one w j hw hj =>
    rcases hw with rfl | rfl
    · rw [tr_not]
      simp only [at_s0, at_s1, asS, asI, bindS, v_nl, cond_false, at_ j hj]
      exact ok_cond (fun _ => ok_some rfl) fun h => absurd trivial (of_decide_eq_false h)
    · rw [tr_next]
      simp only [at_s0, at_s1, asS, asI, bindS, v_xl, v_xn, v_xa, cond_false]
      exact ok_cond (fun _ => ⟨_, fm_get hm (by omega) (isW_n (List.mem_of_getElem? hr)), rfl⟩) fun h => absurd trivial (of_decide_eq_false h)
  | @two w j i hw hj hi =>
    rcases hw with rfl | rfl
    · rw [tr_and]
      simp only [at_s0, at_s1, at_s2, asS, asI, bindS, v_al, v_an, cond_false, at_ j hj, at_ i hi]
      refine ok_cond (fun _ => ok_cond (fun h => ok_some ?_) fun h => ok_some ?_) fun h => absurd trivial (of_decide_eq_false h)
      · rw [h]; rfl
      · rw [h]; rfl
    · rw [tr_until]
      simp only [at_s0, at_s1, at_s2, asS, asI, bindS, v_ul, v_un, v_ua, v_ux, cond_false, at_ j hj, at_ i hi]
      refine ok_cond (fun _ => ok_cond (fun h => ok_some ?_) fun h => ok_cond (fun h2 => ⟨_, fm_get hm hk (isW_u hr rfl), ?_⟩) fun h2 => ok_some ?_) fun h => absurd trivial (of_decide_eq_false h)
      · rw [h]; rfl
      · rw [h, h2]; rfl
      · rw [h, h2]; rfl
theorem view_eq (rows : List (Tp SI)) (hb : Book rows) (hl : rows.length < 64) (lit : Str) (l : List (Int × Bool)) (hm : l.map (·.1) = (ws rows rows.length).map (fun (k : Nat) => (k : Int))) : m_view_with rows lit ⟨l⟩ = some ⟨vw rows lit (fm l) rows.length⟩ := by
  have hs : sizeLine = 16777216 := sizeLine_eq
  refine OK.eq ?_
  unfold m_view_with
  simp only [Option.bind_assoc, bindS, bind_self]
  refine ok_bind (ok_rng (n := rows.length) (by omega) (by omega) (by omega) ?_)
  refine ok_bind (ok_for' (fun i (s : List Bool) => s = vw rows lit (fm l) i) rfl (fun i a s ha h1 => ?_) fun s h1 => ok_some (by rw [rng_len] at h1; rw [h1]))
  obtain ⟨hi, rfl⟩ := rng_at ha
  obtain ⟨r, hr⟩ : ∃ r, rows[i]? = some r := ⟨_, List.getElem?_eq_getElem hi⟩
  subst h1
  rw [truth_eq hm hr (hb i r hr) (vw_len ..)]
  refine ok_bs (ok_bind (ok_push (by rw [vw_len]; omega) (ok_some ⟨_, rfl, ?_⟩)))
  have e : rw_ rows i = r := by
    unfold rw_
    rw [List.getD_eq_getElem?_getD, hr]
    rfl
  show _ = vw rows lit (fm l) i ++ [tr lit (fm l) (vw rows lit (fm l) i) i (rw_ rows i)]
  rw [e]
theorem look_eq (rows : List (Tp SI)) (hb : Book rows) (hl : rows.length < 64) (lit : Str) (l : List (Int × Bool)) (hm : l.map (·.1) = (ws rows rows.length).map (fun (k : Nat) => (k : Int))) : m_look rows lit ⟨l.map (·.2)⟩ = some ⟨vw rows lit (fm l) rows.length⟩ := by
  have nd : (l.map (·.1)).Nodup := by rw [hm]; exact ws_nodup _ _
  have hz : dictZ (l.map (·.1)) (l.map (·.2)) = some ⟨l⟩ := by
    have hlen : l.length ≤ 63 := by
      have := congrArg List.length hm
      rw [List.length_map, List.length_map] at this
      have := ws_len rows rows.length
      omega
    unfold dictZ
    rw [if_pos ⟨by rw [List.length_map, List.length_map], by rw [List.length_map]; omega⟩, zip_parts, fold_put l [] (by simpa using nd)]
    rfl
  refine OK.eq ?_
  unfold m_look
  simp only [Option.bind_assoc, bindS, bind_self, waits_eq rows hb hl]
  rw [← hm, hz]
  exact ok_bs ⟨_, view_eq rows hb hl lit l hm, rfl⟩
theorem fits_ok (rows : List (Tp SI)) (hb : Book rows) (lit : Str) (m : MpF Bool) (hm : m.l.map (·.1) = (ws rows rows.length).map (fun (k : Nat) => (k : Int))) {k : Nat} (hk : k < rows.length) : m_law_fits rows (k : Int) ⟨vw rows lit (fm m.l) rows.length⟩ lit m = some true := by
  obtain ⟨r, hr⟩ : ∃ r, rows[k]? = some r := ⟨_, List.getElem?_eq_getElem hk⟩
  have er : rw_ rows k = r := by
    unfold rw_
    rw [List.getD_eq_getElem?_getD, hr]
    rfl
  have e0 : atI rows (k : Int) = some r := atI_nat hr
  have ev := vw_at rows lit (fm m.l) hk
  rw [er] at ev
  have at_ : ∀ j, j < rows.length → atI (vw rows lit (fm m.l) rows.length) (j : Int) = some (g (vw rows lit (fm m.l) rows.length) j) := fun j hj => at_g (by rw [vw_len]; exact hj)
  have lo : ∀ j, j < k → g (vw rows lit (fm m.l) rows.length) j = g (vw rows lit (fm m.l) k) j := fun j hj => vw_low rows lit (fm m.l) hj _ (by omega)
  refine OK.eq ?_
  unfold m_law_fits
  simp only [Option.bind_assoc, bindS, bind_self, e0, at_ k hk]
  have hw := hb k r hr
  cases hw with
  | yes =>
    rw [tr_yes] at ev
    simp only [at_s0, asS, bindS]
    exact ok_cond (fun _ => ok_some ev) fun h => absurd trivial (of_decide_eq_false h)
  | lamp c =>
    rw [tr_lamp] at ev
    simp only [at_s0, at_s1, asS, bindS, v_ly, cond_false]
    exact ok_cond (fun _ => ok_some (decide_eq_true ev)) fun h => absurd trivial (of_decide_eq_false h)
  | @one w j hw hj =>
    rcases hw with rfl | rfl
    · rw [tr_not, ← lo j hj] at ev
      simp only [at_s0, at_s1, asS, asI, bindS, v_ny, v_nl, cond_false, at_ j (by omega)]
      refine ok_cond (fun _ => ok_some ?_) fun h => absurd trivial (of_decide_eq_false h)
      rw [ev]
      cases g (vw rows lit (fm m.l) rows.length) j <;> rfl
    · rw [tr_next] at ev
      simp only [at_s0, at_s1, asS, asI, bindS, v_xy, v_xl, v_xn, v_xa, cond_false]
      exact ok_cond (fun _ => ok_bind ⟨_, fm_get hm (by omega) (isW_n (List.mem_of_getElem? hr)), ok_some (decide_eq_true ev)⟩) fun h => absurd trivial (of_decide_eq_false h)
  | @two w j i hw hj hi =>
    rcases hw with rfl | rfl
    · rw [tr_and, ← lo j hj, ← lo i hi] at ev
      simp only [at_s0, at_s1, at_s2, asS, asI, bindS, v_ay, v_al, v_an, cond_false, at_ j (by omega), at_ i (by omega)]
      refine ok_cond (fun _ => ok_by (P := fun b => b = (g (vw rows lit (fm m.l) rows.length) j && g (vw rows lit (fm m.l) rows.length) i)) (ok_cond (fun h => ok_some ?_) fun h => ok_some ?_) fun b h => ok_some (decide_eq_true (ev.trans h.symm))) fun h => absurd trivial (of_decide_eq_false h)
      · rw [h]; rfl
      · rw [h]; rfl
    · rw [tr_until, ← lo j hj, ← lo i hi] at ev
      simp only [at_s0, at_s1, at_s2, asS, asI, bindS, v_uy, v_ul, v_un, v_ua, v_ux, cond_false, at_ j (by omega), at_ i (by omega)]
      refine ok_by (P := fun b => b = (g (vw rows lit (fm m.l) rows.length) i || (g (vw rows lit (fm m.l) rows.length) j && fm m.l k))) (ok_cond (fun h => ok_some ?_) fun h => ok_cond (fun h2 => ⟨_, fm_get hm hk (isW_u hr rfl), ?_⟩) fun h2 => ok_some ?_) fun b h => ok_some (decide_eq_true (ev.trans h.symm))
      · rw [h]; rfl
      · rw [h, h2]; rfl
      · rw [h, h2]; rfl
theorem v_nu : decide (("not" : Str) = "until") = false := by decide +kernel
theorem no_nxt (k N : Nat) : nxt k ≠ ⟨[.s "not", .i (N : Int)]⟩ := fun e => by
  have := congrArg wd e
  exact absurd (show ("next" : Str) = "not" from this) (of_decide_eq_false v_xn)
theorem lawT (b : Bool) : m_law_truth b = some true := by cases b <;> rfl
theorem cut61 (ns : List Int) (hl : ns.length ≤ 63) {P : List Int → Prop} (hp : ∀ ys : List Int, ys.length ≤ 61 → P ys) : OK (cutX ⟨ns⟩ (some 2) (some 101)) P := by
  have hs : sizeLine = 16777216 := sizeLine_eq
  refine ⟨_, if_pos (show ns.length ≤ sizeLine by omega), hp _ ?_⟩
  show (cutA ns (some ((2 : Nat) : Int)) (some ((101 : Nat) : Int))).length ≤ 61
  unfold cutA
  rw [HT.sIx_nat, HT.sIx_nat, List.length_take, List.length_drop]
  omega
theorem law_true (ns : List Int) (hl : ns.length ≤ 63) : m_law ⟨ns⟩ = some true := by
  have hs : sizeLine = 16777216 := sizeLine_eq
  refine OK.eq ?_
  unfold m_law
  simp only [Option.bind_assoc, bindS, bind_self]
  refine ok_bind (cut61 ns hl fun cells hc => ok_bind (book_ok cells (by omega) fun rows hb hr => ok_bind (cell0_ok _ 0 (by decide) fun n0 => ok_bind (lit_ok _ fun lit hlit => ok_bind (cell0_ok _ 1 (by decide) fun n1 => ok_bind (behind_keys rows hb (by omega) n1 fun m hm => ?_))))))
  have nd : (m.l.map (·.1)).Nodup := by rw [hm]; exact ws_nodup _ _
  have hlm : m.l.length ≤ 63 := by
    have := congrArg List.length hm
    rw [List.length_map, List.length_map] at this
    have := ws_len rows rows.length
    omega
  have hk : keysO m = some (m.l.map (·.1)) := if_pos (by omega)
  have hmp : mapO (fun k_ : Int => getM m.l k_) (m.l.map (·.1)) = some (m.l.map (·.2)) := by
    refine OK.eq (ok_map (g := fun z : Int => (getM m.l z).getD false) (fun z hz => ?_) ?_)
    · obtain ⟨b, e⟩ := getM_key hz
      rw [e]
      rfl
    · rw [List.map_map]
      refine List.map_congr_left fun q hq => ?_
      show (getM m.l q.1).getD false = q.2
      rw [getM_mem nd hq]
      rfl
  simp only [hk, hmp, bindS, look_eq rows hb (by omega) lit m.l hm, vw_len]
  refine ok_cond (fun h => by simp at h) fun _ => ok_bind (ok_rng (n := rows.length) (by omega) (by omega) (by omega) ?_)
  have at_ : ∀ j, j < rows.length → atI (vw rows lit (fm m.l) rows.length) (j : Int) = some (g (vw rows lit (fm m.l) rows.length) j) := fun j hj => at_g (by rw [vw_len]; exact hj)
  refine ok_bind (ok_for' (fun _ _ => True) trivial (fun i a s ha _ => ?_) fun s _ => ?_)
  · obtain ⟨hi, rfl⟩ := rng_at ha
    simp only [at_ i hi, bindS, lawT, fits_ok rows hb lit m hm hi]
    exact ok_by (P := fun b => b = false) (ok_cond (fun h => by cases h) fun _ => ok_some rfl) fun b h => ok_cond (fun h' => by rw [h] at h'; cases h') fun _ => ok_some ⟨_, rfl, trivial⟩
  · refine ok_cond (fun h => by simp at h) fun _ => ok_cond (fun _ => ok_some rfl) fun he => ?_
    have he := of_decide_eq_false he
    have hn : 0 < rows.length := List.length_pos_iff.mpr he
    obtain ⟨N, eN⟩ : ∃ N, rows.length = N + 1 := ⟨rows.length - 1, by omega⟩
    refine ok_bind (ok_push (by omega) ?_)
    have eI : (rows.length : Int) - 1 = (N : Int) := by omega
    rw [eI]
    have hb2 : Book (rows ++ [⟨[.s "not", .i (N : Int)]⟩]) := by
      intro k r hk
      by_cases hlt : k < rows.length
      · rw [List.getElem?_append_left hlt] at hk
        exact hb k r hk
      · have hk2 := (List.getElem?_eq_some_iff.mp hk).1
        rw [List.length_append, List.length_singleton] at hk2
        have e : k = rows.length := by omega
        subst e
        rw [List.getElem?_append_right (Nat.le_refl _), Nat.sub_self] at hk
        cases hk
        exact .one (.inl rfl) (by omega)
    have hlen2 : (rows ++ [(⟨[.s "not", .i (N : Int)]⟩ : Tp SI)]).length = rows.length + 1 := by rw [List.length_append]; rfl
    have ew : ws (rows ++ [⟨[.s "not", .i (N : Int)]⟩]) (rows ++ [(⟨[.s "not", .i (N : Int)]⟩ : Tp SI)]).length = ws rows rows.length := by
      have isW_eq : ∀ k, k < rows.length → isW (rows ++ [⟨[.s "not", .i (N : Int)]⟩]) k = isW rows k := by
        intro k hk
        unfold isW isU
        rw [List.getD_eq_getElem?_getD, List.getElem?_append_left hk, ← List.getD_eq_getElem?_getD]
        congr 1
        refine decide_eq_decide.mpr ⟨fun q => ?_, fun q => List.mem_append_left _ q⟩
        rcases List.mem_append.mp q with q | q
        · exact q
        · rw [List.mem_singleton] at q
          exact absurd q (no_nxt k N)
      have isW_n0 : isW (rows ++ [⟨[.s "not", .i (N : Int)]⟩]) rows.length = false := by
        unfold isW isU
        rw [List.getD_eq_getElem?_getD, List.getElem?_append_right (Nat.le_refl _), Nat.sub_self]
        show (decide (("not" : Str) = "until") || _) = false
        rw [v_nu, Bool.false_or, decide_eq_false_iff_not]
        intro q
        rcases List.mem_append.mp q with q | q
        · exact absurd (nxt_lt hb q) (Nat.lt_irrefl _)
        · rw [List.mem_singleton] at q
          exact absurd q (no_nxt _ N)
      rw [hlen2]
      unfold ws
      rw [List.range_succ, List.filter_append, List.filter_cons, isW_n0]
      have ef : List.filter (isW (rows ++ [⟨[.s "not", .i (N : Int)]⟩])) (List.range rows.length) = List.filter (isW rows) (List.range rows.length) := List.filter_congr fun k hk => isW_eq k (List.mem_range.mp hk)
      rw [ef]
      exact List.append_nil _
    have hm2 : m.l.map (·.1) = (ws (rows ++ [⟨[.s "not", .i (N : Int)]⟩]) (rows ++ [(⟨[.s "not", .i (N : Int)]⟩ : Tp SI)]).length).map (fun (k : Nat) => (k : Int)) := by rw [ew]; exact hm
    have hlast : vw (rows ++ [⟨[.s "not", .i (N : Int)]⟩]) lit (fm m.l) (rows ++ [(⟨[.s "not", .i (N : Int)]⟩ : Tp SI)]).length = vw rows lit (fm m.l) rows.length ++ [!g (vw rows lit (fm m.l) rows.length) N] := by
      rw [hlen2]
      show vw (rows ++ _) lit (fm m.l) rows.length ++ [tr lit (fm m.l) (vw (rows ++ _) lit (fm m.l) rows.length) rows.length (rw_ (rows ++ _) rows.length)] = _
      have e : rw_ (rows ++ [⟨[.s "not", .i (N : Int)]⟩]) rows.length = ⟨[.s "not", .i (N : Int)]⟩ := by
        unfold rw_
        rw [List.getD_eq_getElem?_getD, List.getElem?_append_right (Nat.le_refl _), Nat.sub_self]
        rfl
      rw [vw_more rows _ lit (fm m.l) rows.length (Nat.le_refl _), e, tr_not]
    have hat : atI (vw rows lit (fm m.l) rows.length) (-1 : Int) = some (g (vw rows lit (fm m.l) rows.length) N) := by
      have hne : vw rows lit (fm m.l) rows.length ≠ [] := fun q => by
        have := congrArg List.length q
        rw [vw_len] at this
        exact absurd this (Nat.ne_of_gt hn)
      refine OK.eq (ok_last hne ?_)
      rw [List.getLast_eq_getElem]
      unfold g
      have hN : (vw rows lit (fm m.l) rows.length).length - 1 = N := by rw [vw_len]; omega
      simp only [hN]
      have : N < (vw rows lit (fm m.l) rows.length).length := by rw [vw_len]; omega
      simp [this]
    simp only [hk, hmp, bindS, look_eq _ hb2 (by rw [hlen2]; omega) lit m.l hm2, hlast, hat]
    refine ok_cond (fun h => ?_) fun _ => ok_bind (ok_for' (fun _ _ => True) trivial (fun i a s ha _ => ?_) fun s _ => ?_)
    · exfalso
      rw [List.length_append, vw_len] at h
      simp at h
    · simp only [lawT, bindS]
      exact ok_cond (fun h => by cases h) fun _ => ok_some ⟨_, rfl, trivial⟩
    · refine ok_bind ⟨_, if_pos (by rw [vw_len]; show rows.length + 1 ≤ _; omega), ok_some ?_⟩
      exact decide_eq_true rfl
end My

set_option Elab.async false
set_option linter.all false
set_option maxRecDepth 100000
set_option maxHeartbeats 4000000
namespace My
open PySem PySem.Spec PyProof.Rows L2
theorem law_imp {K : PySem.W.Frag} {vs : List V} {H : Hp} {Q : VK} {E : XK} (h : sp_law K vs H Q E) : spM K mm_law vs H Q E := by
  obtain ⟨a, ns, rfl, hS, hl, q⟩ := h
  exact ⟨H, (⟨ns⟩, ()), true, Same.refl H, ⟨.ref a, [], rfl, ⟨a, rfl, hS⟩, rfl⟩, law_true ns hl, fun v G2 H2 x r => by cases r; exact q H2⟩
set_option maxHeartbeats 1000000 in
theorem all_mk {l : PySem.W.OpenLaw} {w : World} {K : PySem.W.Frag} {h : Heap} {mg : Str → Option Value} {fa : Addr} (X : K.In h) (G : h.Ns mainGlobals mg) (hfa : mg "law" = some (.ref fa))
    {f0 f1 f2 f3 f4 f5 f6 f7 f8 f9 f10 f11 f12 f13 : Addr} {od0 an0 od1 an1 od2 an2 od3 an3 od4 an4 od5 an5 od6 an6 od7 an7 od8 an8 od9 an9 od10 an10 od11 an11 od12 an12 od13 an13 : Option Addr} {sl0 sl1 sl2 sl3 sl4 sl5 sl6 sl7 sl8 sl9 sl10 sl11 sl12 sl13 : Array (Option Value)} {oc0 kV0 dc0 pm0 cd0 ct0 oc1 kV1 dc1 pm1 cd1 ct1 oc2 kV2 dc2 pm2 cd2 ct2 oc3 kV3 dc3 pm3 cd3 ct3 oc4 kV4 dc4 pm4 cd4 ct4 oc5 kV5 dc5 pm5 cd5 ct5 oc6 kV6 dc6 pm6 cd6 ct6 oc7 kV7 dc7 pm7 cd7 ct7 oc8 kV8 dc8 pm8 cd8 ct8 oc9 kV9 dc9 pm9 cd9 ct9 oc10 kV10 dc10 pm10 cd10 ct10 oc11 kV11 dc11 pm11 cd11 ct11 oc12 kV12 dc12 pm12 cd12 ct12 oc13 kV13 dc13 pm13 cd13 ct13 : Value}
    (a0 : PySem.W.nsIn K mainGlobals "waits" = some (some (.ref f0))) (l0 : K.lookup f0 = some ⟨oc0, od0, .func (PySem.W.fnOf "waits" "waits" (defArgs s_waits) (defBody s_waits) (defScope s_waits) .none kV0 dc0 pm0 an0 cd0 ct0), sl0⟩) (c0 : PySem.W.codeIn K cd0 "waits" = true) (k0 : PySem.W.keepIn K (.ref f0) = true)
    (a1 : PySem.W.nsIn K mainGlobals "hopes" = some (some (.ref f1))) (l1 : K.lookup f1 = some ⟨oc1, od1, .func (PySem.W.fnOf "hopes" "hopes" (defArgs s_hopes) (defBody s_hopes) (defScope s_hopes) .none kV1 dc1 pm1 an1 cd1 ct1), sl1⟩) (c1 : PySem.W.codeIn K cd1 "hopes" = true) (k1 : PySem.W.keepIn K (.ref f1) = true)
    (a2 : PySem.W.nsIn K mainGlobals "truth_of" = some (some (.ref f2))) (l2 : K.lookup f2 = some ⟨oc2, od2, .func (PySem.W.fnOf "truth_of" "truth_of" (defArgs s_truth_of) (defBody s_truth_of) (defScope s_truth_of) .none kV2 dc2 pm2 an2 cd2 ct2), sl2⟩) (c2 : PySem.W.codeIn K cd2 "truth_of" = true) (k2 : PySem.W.keepIn K (.ref f2) = true)
    (a3 : PySem.W.nsIn K mainGlobals "view_with" = some (some (.ref f3))) (l3 : K.lookup f3 = some ⟨oc3, od3, .func (PySem.W.fnOf "view_with" "view_with" (defArgs s_view_with) (defBody s_view_with) (defScope s_view_with) .none kV3 dc3 pm3 an3 cd3 ct3), sl3⟩) (c3 : PySem.W.codeIn K cd3 "view_with" = true) (k3 : PySem.W.keepIn K (.ref f3) = true)
    (a4 : PySem.W.nsIn K mainGlobals "look" = some (some (.ref f4))) (l4 : K.lookup f4 = some ⟨oc4, od4, .func (PySem.W.fnOf "look" "look" (defArgs s_look) (defBody s_look) (defScope s_look) .none kV4 dc4 pm4 an4 cd4 ct4), sl4⟩) (c4 : PySem.W.codeIn K cd4 "look" = true) (k4 : PySem.W.keepIn K (.ref f4) = true)
    (a5 : PySem.W.nsIn K mainGlobals "_law_cell" = some (some (.ref f5))) (l5 : K.lookup f5 = some ⟨oc5, od5, .func (PySem.W.fnOf "_law_cell" "_law_cell" (defArgs s_law_cell) (defBody s_law_cell) (defScope s_law_cell) .none kV5 dc5 pm5 an5 cd5 ct5), sl5⟩) (c5 : PySem.W.codeIn K cd5 "_law_cell" = true) (k5 : PySem.W.keepIn K (.ref f5) = true)
    (a6 : PySem.W.nsIn K mainGlobals "_law_truth" = some (some (.ref f6))) (l6 : K.lookup f6 = some ⟨oc6, od6, .func (PySem.W.fnOf "_law_truth" "_law_truth" (defArgs s_law_truth) (defBody s_law_truth) (defScope s_law_truth) .none kV6 dc6 pm6 an6 cd6 ct6), sl6⟩) (c6 : PySem.W.codeIn K cd6 "_law_truth" = true) (k6 : PySem.W.keepIn K (.ref f6) = true)
    (a7 : PySem.W.nsIn K mainGlobals "_law_row" = some (some (.ref f7))) (l7 : K.lookup f7 = some ⟨oc7, od7, .func (PySem.W.fnOf "_law_row" "_law_row" (defArgs s_law_row) (defBody s_law_row) (defScope s_law_row) .none kV7 dc7 pm7 an7 cd7 ct7), sl7⟩) (c7 : PySem.W.codeIn K cd7 "_law_row" = true) (k7 : PySem.W.keepIn K (.ref f7) = true)
    (a8 : PySem.W.nsIn K mainGlobals "_law_size" = some (some (.ref f8))) (l8 : K.lookup f8 = some ⟨oc8, od8, .func (PySem.W.fnOf "_law_size" "_law_size" (defArgs s_law_size) (defBody s_law_size) (defScope s_law_size) .none kV8 dc8 pm8 an8 cd8 ct8), sl8⟩) (c8 : PySem.W.codeIn K cd8 "_law_size" = true) (k8 : PySem.W.keepIn K (.ref f8) = true)
    (a9 : PySem.W.nsIn K mainGlobals "_law_book" = some (some (.ref f9))) (l9 : K.lookup f9 = some ⟨oc9, od9, .func (PySem.W.fnOf "_law_book" "_law_book" (defArgs s_law_book) (defBody s_law_book) (defScope s_law_book) .none kV9 dc9 pm9 an9 cd9 ct9), sl9⟩) (c9 : PySem.W.codeIn K cd9 "_law_book" = true) (k9 : PySem.W.keepIn K (.ref f9) = true)
    (a10 : PySem.W.nsIn K mainGlobals "_law_lit" = some (some (.ref f10))) (l10 : K.lookup f10 = some ⟨oc10, od10, .func (PySem.W.fnOf "_law_lit" "_law_lit" (defArgs s_law_lit) (defBody s_law_lit) (defScope s_law_lit) .none kV10 dc10 pm10 an10 cd10 ct10), sl10⟩) (c10 : PySem.W.codeIn K cd10 "_law_lit" = true) (k10 : PySem.W.keepIn K (.ref f10) = true)
    (a11 : PySem.W.nsIn K mainGlobals "_law_behind" = some (some (.ref f11))) (l11 : K.lookup f11 = some ⟨oc11, od11, .func (PySem.W.fnOf "_law_behind" "_law_behind" (defArgs s_law_behind) (defBody s_law_behind) (defScope s_law_behind) .none kV11 dc11 pm11 an11 cd11 ct11), sl11⟩) (c11 : PySem.W.codeIn K cd11 "_law_behind" = true) (k11 : PySem.W.keepIn K (.ref f11) = true)
    (a12 : PySem.W.nsIn K mainGlobals "_law_fits" = some (some (.ref f12))) (l12 : K.lookup f12 = some ⟨oc12, od12, .func (PySem.W.fnOf "_law_fits" "_law_fits" (defArgs s_law_fits) (defBody s_law_fits) (defScope s_law_fits) .none kV12 dc12 pm12 an12 cd12 ct12), sl12⟩) (c12 : PySem.W.codeIn K cd12 "_law_fits" = true) (k12 : PySem.W.keepIn K (.ref f12) = true)
    (a13 : PySem.W.nsIn K mainGlobals "law" = some (some (.ref f13))) (l13 : K.lookup f13 = some ⟨oc13, od13, .func (PySem.W.fnOf "law" "law" (defArgs s_law) (defBody s_law) (defScope s_law) .none kV13 dc13 pm13 an13 cd13 ct13), sl13⟩) (c13 : PySem.W.codeIn K cd13 "law" = true) (k13 : PySem.W.keepIn K (.ref f13) = true)
    (z0 : PySem.W.nsIn K mainGlobals "dict" = some none)
    (z1 : PySem.W.nsIn K mainGlobals "enumerate" = some none)
    (z2 : PySem.W.nsIn K mainGlobals "isinstance" = some none)
    (z3 : PySem.W.nsIn K mainGlobals "len" = some none)
    (z4 : PySem.W.nsIn K mainGlobals "list" = some none)
    (z5 : PySem.W.nsIn K mainGlobals "range" = some none)
    (z6 : PySem.W.nsIn K mainGlobals "set" = some none)
    (z7 : PySem.W.nsIn K mainGlobals "sorted" = some none)
    (z8 : PySem.W.nsIn K mainGlobals "sum" = some none)
    (z9 : PySem.W.nsIn K mainGlobals "tuple" = some none)
    (z10 : PySem.W.nsIn K mainGlobals "zip" = some none) :
    ∃ fd : FuncData, (∀ (s : Shared) (v : Value), BindsTo s fd ⟨[v], []⟩ [("_law_script", v)]) ∧ ∀ base : Heap, K.In base → base.Ns mainGlobals mg → FnOk l.prog w K mg base CX0 4 fa fd ["_law_script"] (sp_law K) := by
  have e := hfa.symm.trans (PySem.W.mg_of X G a13)
  cases e
  have T : Txt mg := ⟨PySem.W.mg_none_of X G z0, PySem.W.mg_none_of X G z1, PySem.W.mg_none_of X G z2, PySem.W.mg_none_of X G z3, PySem.W.mg_none_of X G z4, PySem.W.mg_none_of X G z5, PySem.W.mg_none_of X G z6, PySem.W.mg_none_of X G z7, PySem.W.mg_none_of X G z8, PySem.W.mg_none_of X G z9, PySem.W.mg_none_of X G z10⟩
  have F0 := fun_mk (st := s_waits) l0 c0 k0
  have b0 := F0.binds (ps := ["rows"]) fun _ _ _ _ _ _ us hl => match us, hl with | [_], _ => rfl
  have F1 := fun_mk (st := s_hopes) l1 c1 k1
  have b1 := F1.binds (ps := ["rows"]) fun _ _ _ _ _ _ us hl => match us, hl with | [_], _ => rfl
  have F2 := fun_mk (st := s_truth_of) l2 c2 k2
  have b2 := F2.binds (ps := ["rows", "number", "moment", "claimed", "view"]) fun _ _ _ _ _ _ us hl => match us, hl with | [_, _, _, _, _], _ => rfl
  have F3 := fun_mk (st := s_view_with) l3 c3 k3
  have b3 := F3.binds (ps := ["rows", "moment", "claimed"]) fun _ _ _ _ _ _ us hl => match us, hl with | [_, _, _], _ => rfl
  have F4 := fun_mk (st := s_look) l4 c4 k4
  have b4 := F4.binds (ps := ["rows", "moment", "claims"]) fun _ _ _ _ _ _ us hl => match us, hl with | [_, _, _], _ => rfl
  have F5 := fun_mk (st := s_law_cell) l5 c5 k5
  have b5 := F5.binds (ps := ["_law_script", "_law_k"]) fun _ _ _ _ _ _ us hl => match us, hl with | [_, _], _ => rfl
  have F6 := fun_mk (st := s_law_truth) l6 c6 k6
  have b6 := F6.binds (ps := ["_law_thing"]) fun _ _ _ _ _ _ us hl => match us, hl with | [_], _ => rfl
  have F7 := fun_mk (st := s_law_row) l7 c7 k7
  have b7 := F7.binds (ps := ["_law_cell_here", "_law_many"]) fun _ _ _ _ _ _ us hl => match us, hl with | [_, _], _ => rfl
  have F8 := fun_mk (st := s_law_size) l8 c8 k8
  have b8 := F8.binds (ps := ["_law_row_here", "_law_sizes"]) fun _ _ _ _ _ _ us hl => match us, hl with | [_, _], _ => rfl
  have F9 := fun_mk (st := s_law_book) l9 c9 k9
  have b9 := F9.binds (ps := ["_law_cells"]) fun _ _ _ _ _ _ us hl => match us, hl with | [_], _ => rfl
  have F10 := fun_mk (st := s_law_lit) l10 c10 k10
  have b10 := F10.binds (ps := ["_law_cell_here"]) fun _ _ _ _ _ _ us hl => match us, hl with | [_], _ => rfl
  have F11 := fun_mk (st := s_law_behind) l11 c11 k11
  have b11 := F11.binds (ps := ["_law_rows", "_law_cell_here"]) fun _ _ _ _ _ _ us hl => match us, hl with | [_, _], _ => rfl
  have F12 := fun_mk (st := s_law_fits) l12 c12 k12
  have b12 := F12.binds (ps := ["_law_rows", "_law_k", "_law_view", "_law_lit_here", "_law_behind_here"]) fun _ _ _ _ _ _ us hl => match us, hl with | [_, _, _, _, _], _ => rfl
  have F13 := fun_mk (st := s_law) l13 c13 k13
  refine ⟨PySem.W.fnOf "law" "law" (defArgs s_law) (defBody s_law) (defScope s_law) .none kV13 dc13 pm13 an13 cd13 ct13, fun s v => .of_eq rfl, fun base _ _ => ?_⟩
  have D_law_row : DefOk l.prog w K mg base "_law_row" 1 ["_law_cell_here", "_law_many"] (spM K mm_law_row) := def_of F7 (PySem.W.mg_of X G a7) b7 (ok_law_row F7 T)
  have D_law_size : DefOk l.prog w K mg base "_law_size" 1 ["_law_row_here", "_law_sizes"] (spM K mm_law_size) := def_of F8 (PySem.W.mg_of X G a8) b8 (ok_law_size F8 T)
  have D_law_book : DefOk l.prog w K mg base "_law_book" 2 ["_law_cells"] (spM K mm_law_book) := def_of F9 (PySem.W.mg_of X G a9) b9 (ok_law_book F9 T D_law_row D_law_size)
  have D_law_lit : DefOk l.prog w K mg base "_law_lit" 1 ["_law_cell_here"] (spM K mm_law_lit) := def_of F10 (PySem.W.mg_of X G a10) b10 (ok_law_lit F10 T)
  have D_law_behind : DefOk l.prog w K mg base "_law_behind" 1 ["_law_rows", "_law_cell_here"] (spM K mm_law_behind) := def_of F11 (PySem.W.mg_of X G a11) b11 (ok_law_behind F11 T)
  have D_truth_of : DefOk l.prog w K mg base "truth_of" 1 ["rows", "number", "moment", "claimed", "view"] (spM K mm_truth_of) := def_of F2 (PySem.W.mg_of X G a2) b2 (ok_truth_of F2 T)
  have D_view_with : DefOk l.prog w K mg base "view_with" 2 ["rows", "moment", "claimed"] (spM K mm_view_with) := def_of F3 (PySem.W.mg_of X G a3) b3 (ok_view_with F3 T D_truth_of)
  have D_hopes : DefOk l.prog w K mg base "hopes" 1 ["rows"] (spM K mm_hopes) := def_of F1 (PySem.W.mg_of X G a1) b1 (ok_hopes F1 T)
  have D_waits : DefOk l.prog w K mg base "waits" 2 ["rows"] (spM K mm_waits) := def_of F0 (PySem.W.mg_of X G a0) b0 (ok_waits F0 T D_hopes)
  have D_look : DefOk l.prog w K mg base "look" 3 ["rows", "moment", "claims"] (spM K mm_look) := def_of F4 (PySem.W.mg_of X G a4) b4 (ok_look F4 T D_view_with D_waits)
  have D_law_cell : DefOk l.prog w K mg base "_law_cell" 1 ["_law_script", "_law_k"] (spM K mm_law_cell) := def_of F5 (PySem.W.mg_of X G a5) b5 (ok_law_cell F5 T)
  have D_law_truth : DefOk l.prog w K mg base "_law_truth" 1 ["_law_thing"] (spM K mm_law_truth) := def_of F6 (PySem.W.mg_of X G a6) b6 (ok_law_truth F6 T)
  have D_law_fits : DefOk l.prog w K mg base "_law_fits" 1 ["_law_rows", "_law_k", "_law_view", "_law_lit_here", "_law_behind_here"] (spM K mm_law_fits) := def_of F12 (PySem.W.mg_of X G a12) b12 (ok_law_fits F12 T)
  exact (ok_law F13 T D_law_book D_law_lit D_law_behind D_look D_law_cell D_law_truth D_law_fits).imp fun _ _ _ _ h => law_imp h
theorem walk {l : PySem.W.OpenLaw} {q : Program} {loose : List Str} {XP : (Str → Option Value) → Heap → Prop} {YP : World → Heap → Prop} {d : DefRec} {K : Params → PySem.W.Frag} (hn : l.most = some 63) (hdf : d.params.defaults = [])
    (hY : ∀ (w : World) (h : Heap), YP w h → (K w.params).In h)
    (F : ∀ (w : World) (mg : Str → Option Value) (fa : Addr) (h : Heap), (K w.params).In h → h.Ns mainGlobals mg → mg d.name = some (.ref fa) →
      ∃ fd : FuncData, (∀ (s : Shared) (u : Value), BindsTo s fd ⟨[u], []⟩ [("_law_script", u)]) ∧ ∀ base : Heap, (K w.params).In base → base.Ns mainGlobals mg → FnOk l.prog w (K w.params) mg base CX0 4 fa fd ["_law_script"] (sp_law (K w.params))) :
    PySem.W.WalkO q loose XP YP l.row.toRowW d [] (fun f vs => PySem.call f vs) :=
  L2.walk_of (n := 63) (k := 4) (x := "_law_script") (CX := fun _ => CX0) (sp := fun w => sp_law (K w.params)) hn (by decide) hdf ⟨rfl, by decide, by decide⟩ hY F (fun _ _ a ns hl _ hS => ⟨a, ns, rfl, hS, hl, fun _ => rfl⟩) fun _ _ _ _ _ z => z
end My
open PySem PySem.W PyProof.Rows
set_option maxRecDepth 100000 in
set_option maxHeartbeats 0 in
theorem PySem.Challenge.cw_lassoscribe_k20_a_look_holds : PySem.Challenge.rw_lassoscribe_k20_a_look.Holds := by
  w_on; o_law; k_head; (case hw => w_witness2)
  k_fill
  refine My.walk (l := PySem.Challenge.rw_lassoscribe_k20_a_look) rfl rfl (fun w h Y => PySem.W.kIn_of Y) ?F
  case F =>
    intro w mg fa h KX G hmg
    refine' My.all_mk KX G hmg ?a0 ?l0 ?c0 ?k0 ?a1 ?l1 ?c1 ?k1 ?a2 ?l2 ?c2 ?k2 ?a3 ?l3 ?c3 ?k3 ?a4 ?l4 ?c4 ?k4 ?a5 ?l5 ?c5 ?k5 ?a6 ?l6 ?c6 ?k6 ?a7 ?l7 ?c7 ?k7 ?a8 ?l8 ?c8 ?k8 ?a9 ?l9 ?c9 ?k9 ?a10 ?l10 ?c10 ?k10 ?a11 ?l11 ?c11 ?k11 ?a12 ?l12 ?c12 ?k12 ?a13 ?l13 ?c13 ?k13 ?z0 ?z1 ?z2 ?z3 ?z4 ?z5 ?z6 ?z7 ?z8 ?z9 ?z10
    (case a0 => k_is)
    (case l0 => k_is)
    (case c0 => k_is)
    (case k0 => k_is)
    (case a1 => k_is)
    (case l1 => k_is)
    (case c1 => k_is)
    (case k1 => k_is)
    (case a2 => k_is)
    (case l2 => k_is)
    (case c2 => k_is)
    (case k2 => k_is)
    (case a3 => k_is)
    (case l3 => k_is)
    (case c3 => k_is)
    (case k3 => k_is)
    (case a4 => k_is)
    (case l4 => k_is)
    (case c4 => k_is)
    (case k4 => k_is)
    (case a5 => k_is)
    (case l5 => k_is)
    (case c5 => k_is)
    (case k5 => k_is)
    (case a6 => k_is)
    (case l6 => k_is)
    (case c6 => k_is)
    (case k6 => k_is)
    (case a7 => k_is)
    (case l7 => k_is)
    (case c7 => k_is)
    (case k7 => k_is)
    (case a8 => k_is)
    (case l8 => k_is)
    (case c8 => k_is)
    (case k8 => k_is)
    (case a9 => k_is)
    (case l9 => k_is)
    (case c9 => k_is)
    (case k9 => k_is)
    (case a10 => k_is)
    (case l10 => k_is)
    (case c10 => k_is)
    (case k10 => k_is)
    (case a11 => k_is)
    (case l11 => k_is)
    (case c11 => k_is)
    (case k11 => k_is)
    (case a12 => k_is)
    (case l12 => k_is)
    (case c12 => k_is)
    (case k12 => k_is)
    (case a13 => k_is)
    (case l13 => k_is)
    (case c13 => k_is)
    (case k13 => k_is)
    (case z0 => k_is)
    (case z1 => k_is)
    (case z2 => k_is)
    (case z3 => k_is)
    (case z4 => k_is)
    (case z5 => k_is)
    (case z6 => k_is)
    (case z7 => k_is)
    (case z8 => k_is)
    (case z9 => k_is)
    (case z10 => k_is)

