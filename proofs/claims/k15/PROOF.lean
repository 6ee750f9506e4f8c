import PyProof.Rows.All
import Wide.All
import OpenK.AllK
import Wide.FinOn
import Lean
import PyProof.EqAt
import PyProof.EqKinds
import PyProof.TupleCall
import PyProof.NeKinds
import PyProof.EnumFor
import PyProof.EnumMake
import PyProof.Rows.EnumRows
import PyProof.Rows.Range3
import PyProof.NoPylong
import PyProof.ListRange
import PyProof.TupleOfSeq
import PyProof.TupleOfStr
import PyProof.Draws
import PyProof.ZipIter
import PyProof.Rows.ZipGen
import PyProof.Rows.SortStr
import PyProof.Rows.TupAdd
import PyProof.SetRoads
import PyProof.Rows.SetFrom
import PyProof.StrWalks
import PyProof.CollectWalk
import KE.KDictList
import PyProof.Tail
import PyProof.TupleIter
import PyProof.AttrMiss
import KE.KDictOf
import OpenK.KTop
import PySem.Challenge.RW_lassoscribe_k15_plain_words_alone
-- CHANGE: your row's module here, as the last of these rows
set_option Elab.async false
set_option linter.all false
set_option maxRecDepth 100000
namespace L2
open PySem PySem.Spec PyProof.Rows

/-- a key: an int or a str -/
abbrev Key := Sum Int Str
def keyIs : Key → Value → Bool
  | .inl k, v => Value.isInt k v
  | .inr x, v => Value.isStrOf x v
def keyH (w : World) : Key → Int
  | .inl k => hashInt k
  | .inr x => hashStr w x
theorem keyIs_shape : ∀ {k : Key} {v : Value}, keyIs k v = true → (∃ i t, k = Sum.inl i ∧ v = Value.int i t) ∨ (∃ x t, k = Sum.inr x ∧ v = Value.str x t)
  | .inl i, v, h => by
    obtain ⟨t, e⟩ := Value.isInt_shape (k := i) (v := v) h
    exact .inl ⟨i, t, rfl, e⟩
  | .inr x, v, h => by
    obtain ⟨t, e⟩ := Value.isStrOf_shape (x := x) (v := v) h
    exact .inr ⟨x, t, rfl, e⟩
theorem keyIs_int (i : Int) (t : Tok) : keyIs (.inl i) (.int i t) = true := by simp [keyIs, Value.isInt]
theorem keyIs_str (x : Str) (t : Tok) : keyIs (.inr x) (.str x t) = true := by simp [keyIs, Value.isStrOf]
theorem key_ll (a b : Int) : decide ((Sum.inl a : Key) = Sum.inl b) = (a == b) := by
  by_cases e : a = b
  · subst e; simp
  · have h : ¬ (Sum.inl a : Key) = Sum.inl b := fun q => e (Sum.inl.inj q)
    rw [decide_eq_false h]
    exact (beq_eq_false_iff_ne.mpr e).symm
theorem key_rr (a b : Str) : decide ((Sum.inr a : Key) = Sum.inr b) = decide (a = b) := by
  by_cases e : a = b
  · subst e; simp
  · have h : ¬ (Sum.inr a : Key) = Sum.inr b := fun q => e (Sum.inr.inj q)
    rw [decide_eq_false h, decide_eq_false e]
theorem key_lr (a : Int) (b : Str) : decide ((Sum.inl a : Key) = Sum.inr b) = false := decide_eq_false (fun q => nomatch q)
theorem key_rl (a : Str) (b : Int) : decide ((Sum.inr a : Key) = Sum.inl b) = false := decide_eq_false (fun q => nomatch q)

def mixKind (prog : Program) (w : World) : PySem.KeyKind prog w Key where
  is := keyIs
  hash := keyH w
  inj := fun v a b ha hb => by
    rcases keyIs_shape ha with ⟨i, t, rfl, rfl⟩ | ⟨x, t, rfl, rfl⟩
    · rcases keyIs_shape hb with ⟨j, u, rfl, e⟩ | ⟨y, u, rfl, e⟩
      · injection e with e1 _; rw [e1]
      · exact nomatch e
    · rcases keyIs_shape hb with ⟨j, u, rfl, e⟩ | ⟨y, u, rfl, e⟩
      · exact nomatch e
      · injection e with e1 _; rw [e1]
  byValue := fun k v h => by
    rcases keyIs_shape h with ⟨i, t, rfl, rfl⟩ | ⟨x, t, rfl, rfl⟩ <;> rfl
  pyHash := fun hv h => by
    rcases keyIs_shape hv with ⟨i, t, rfl, rfl⟩ | ⟨x, t, rfl, rfl⟩
    · exact wpAny_pyHash_int h
    · exact wpAny_pyHash_str h
  eqBool := fun hu hv h => by
    rcases keyIs_shape hu with ⟨i, t, rfl, rfl⟩ | ⟨x, t, rfl, rfl⟩
    · rcases keyIs_shape hv with ⟨j, u, rfl, rfl⟩ | ⟨y, u, rfl, rfl⟩
      · rw [key_ll] at h; exact wpAny_eqBool_int h
      · rw [key_lr] at h; exact SeqAt.EqAt.int_str i t y u _ _ _ _ h
    · rcases keyIs_shape hv with ⟨j, u, rfl, rfl⟩ | ⟨y, u, rfl, rfl⟩
      · rw [key_rl] at h; exact SeqAt.EqAt.str_int x t j u _ _ _ _ h
      · rw [key_rr] at h; exact wpAny_eqBool_str h
  «strs» := fun k x t v h => by
    rcases keyIs_shape h with ⟨i, u, rfl, e⟩ | ⟨y, u, rfl, e⟩
    · exact nomatch e
    · injection e with e1 _
      subst e1
      cases v <;> rfl

end L2

namespace L2
open PySem PySem.Spec PyProof.Rows

/-- a value, without the heap -/
inductive V where
  | non | bl (b : Bool) | int (i : Int) | str (x : Str) | byt (b : Array UInt8) | flt (b : UInt64) | ref (a : Addr) | ty (n : String)
  deriving DecidableEq

def RelV : V → Value → Prop
  | .non, u => u = Value.none
  | .bl b, u => u = Value.bool b
  | .int i, u => ∃ t, u = Value.int i t
  | .str x, u => ∃ t, u = Value.str x t
  | .byt b, u => ∃ t, u = Value.bytes b t
  | .flt b, u => ∃ t, u = Value.float b t
  | .ref a, u => u = Value.ref a
  | .ty n, u => u = Value.type n

abbrev Vals : List V → List Value → Prop := Paired RelV
theorem Vals.length {xs : List V} {us : List Value} (r : Vals xs us) : xs.length = us.length := Paired.length r
theorem Vals.get : ∀ {xs : List V} {us : List Value} {i : Nat} {x : V}, Vals xs us → xs[i]? = some x → ∃ u, us[i]? = some u ∧ RelV x u
  | _, _, _, _, .nil, e => by simp at e
  | _, _, 0, _, .cons r _, e => by simp at e; subst e; exact ⟨_, rfl, r⟩
  | _, _, i + 1, x, .cons _ t, e => by
    obtain ⟨u, h1, h2⟩ := Vals.get (i := i) (x := x) t (by simpa using e)
    exact ⟨u, by simpa using h1, h2⟩
theorem Vals.set {x : V} {u : Value} (r : RelV x u) : ∀ {xs : List V} {us : List Value} (i : Nat), Vals xs us → Vals (xs.set i x) (us.set i u)
  | _, _, _, .nil => .nil
  | _, _, 0, .cons _ t => .cons r t
  | _, _, i + 1, .cons q t => .cons q (Vals.set r i t)
theorem Vals.append : ∀ {xs ys : List V} {us ws : List Value}, Vals xs us → Vals ys ws → Vals (xs ++ ys) (us ++ ws)
  | _, _, _, _, .nil, s => s
  | _, _, _, _, .cons r t, s => .cons r (Vals.append t s)
theorem Vals.take : ∀ {xs : List V} {us : List Value} (n : Nat), Vals xs us → Vals (xs.take n) (us.take n)
  | _, _, 0, _ => .nil
  | _, _, _ + 1, .nil => .nil
  | _, _, n + 1, .cons r t => .cons r (Vals.take n t)
theorem Vals.drop : ∀ {xs : List V} {us : List Value} (n : Nat), Vals xs us → Vals (xs.drop n) (us.drop n)
  | _, _, 0, r => r
  | _, _, _ + 1, .nil => .nil
  | _, _, n + 1, .cons _ t => Vals.drop n t
def RelO : Option V → Option Value → Prop
  | some v, some u => RelV v u
  | none, none => True
  | _, _ => False
def KV {κ : Type} : List (κ × V) → List (κ × Value) → Prop := Paired fun (p : κ × V) (q : κ × Value) => p.1 = q.1 ∧ RelV p.2 q.2

/-- a key of a dict (00_mix): an int or a text -/
def kV : Key → V
  | .inl i => .int i
  | .inr x => .str x

/-- what stands at a tracked address -/
inductive HO where
  /-- a list -/
  | lst (xs : List V)
  /-- a tuple (never changes) -/
  | tup (xs : List V)
  /-- a dict whose keys are ints and texts; one whose keys are tuples of ints and texts (the empty one is both) -/
  | dK (kvs : List (Key × V)) | dT (kvs : List (List Key × V))
  /-- a set of ints: its members, its size -/
  | set (S : Int → Bool) (n : Nat)
  /-- an instance of the class at C, its dict at dx, its attributes -/
  | ins (C dx : Addr) (fs : List (Str × V))
  /-- the dict of the instance at x -/
  | own (x : Addr)
  /-- the dict of an exception -/
  | xd (fs : List (Str × V))
  /-- a bound method, f of x -/
  | met (f x : Addr)
  /-- a range object lo, lo + 1, .. below hi -/
  | rng (lo hi : Int)
  /-- a thing that is known to the object (the script; a dict while a loop walks it): read, never written while it is so -/
  | frz (o : Obj) (u : HO)
  /-- a code object's table -/
  | tbl (ps : Array Value)
  /-- any other thing, by what is true of its one object (a def of one's own: SetO a S n := HO.ext fun h => ..) -/
  | ext (φ : Heap → Prop)

abbrev Hp := Addr → Option HO
def upd (H : Hp) (a : Addr) (o : HO) : Hp := fun b => if b = a then some o else H b
theorem upd_same {H : Hp} {a : Addr} {o : HO} : upd H a o a = some o := by unfold upd; rw [if_pos rfl]
theorem upd_ne {H : Hp} {a b : Addr} {o : HO} (h : b ≠ a) : upd H a o b = H b := by unfold upd; rw [if_neg h]
/-- two objects of different content stand apart -/
theorem ne_of {H : Hp} {a b : Addr} {o u : HO} (h : H a = some o) (h' : H b = some u) (d : o ≠ u) : a ≠ b := by
  intro e; subst e; rw [h] at h'; exact d (Option.some.inj h')
theorem ne_of_none {H : Hp} {a b : Addr} {o : HO} (h : H a = some o) (h' : H b = none) : a ≠ b := by
  intro e; subst e; rw [h] at h'; cases h'

section
variable (P : Program) (w : World)
def ObjOk (H : Hp) (h : Heap) (a : Addr) : HO → Prop
  | .lst xs => xs.length ≤ sizeLine ∧ ∃ (its : List Value) (n : Nat), Vals xs its ∧ h.get? a = some { cls := .type "list", data := .seq its.toArray n }
  | .tup xs => xs.length ≤ sizeLine ∧ ∃ its : List Value, Vals xs its ∧ IsTup h a its.toArray
  | .dK kvs => kvs.length ≤ sizeLine ∧ (a == sysModules) = false ∧ ∃ vs, KV kvs vs ∧ h.DictOf (mixKind P w) a vs
  | .dT kvs => kvs.length ≤ sizeLine ∧ (a == sysModules) = false ∧ ∃ xs : List (List Key × Addr × Value),
      Paired (fun (p : List Key × V) (q : List Key × Addr × Value) => p.1 = q.1 ∧ H q.2.1 = some (.tup (p.1.map kV)) ∧ RelV p.2 q.2.2) kvs xs ∧
      ∃ o es ep, h.get? a = some o ∧ o.ExactDict ∧ o.data = .dict es ep ∧ es.toList = xs.map (entryOfKey (tupleKind (mixKind P w))) ∧ (xs.map (·.1)).Nodup
  | .set S n => h.SetOf (intKind P w) a S n
  | .ins C dx fs => H dx = some (.own a) ∧ fs.length ≤ 1000 ∧ dx ≠ a ∧ h.get? a = some (PySem.W.instObj C dx) ∧
      ∃ mA, h.Ns1 dx mA ∧ (∀ f, RelO (fs.lookup f) (mA f)) ∧ PySem.Within mA (fs.map (·.1))
  | .own _ => ∃ o, h.get? a = some o
  | .xd fs => ∃ mA, h.Ns1 a mA ∧ ∀ f, RelO (fs.lookup f) (mA f)
  | .rng lo hi => ∃ t u v, h.get? a = some { cls := .type "range", data := .fields #[.int lo t, .int hi u, .int 1 v] }
  | .frz o u => h.get? a = some o ∧ ObjOk H h a u
  | .tbl ps => h.get? a = some { cls := .none, data := .fields ps }
  | .met f x => h.get? a = some (PySem.W.methodObj (.ref f) (.ref x))
  | .ext φ => φ h ∧ (∃ o, h.get? a = some o) ∧ ∀ h1 h2 : Heap, φ h1 → (∀ o, h1.get? a = some o → h2.get? a = some o) → φ h2
/-- the abstract heap is held -/
def HOk (H : Hp) (h : Heap) : Prop := ∀ a o, H a = some o → ObjOk P w H h a o
end

section
variable {P : Program} {w : World} {H H' : Hp} {h h' : Heap} {a : Addr} {o : HO}
theorem ObjOk.lt (x : ObjOk P w H h a o) : a < h.objs.size := by
  cases o with
  | lst xs => obtain ⟨_, _, _, _, e⟩ := x; exact Heap.lt_size e
  | tup xs => obtain ⟨_, _, _, p⟩ := x; exact p.lt
  | dK kvs => obtain ⟨_, _, _, _, o, _, _, e, _⟩ := x; exact Heap.lt_size e
  | dT kvs => obtain ⟨_, _, _, _, o, _, _, e, _⟩ := x; exact Heap.lt_size e
  | set S n => obtain ⟨o, _, _, _, e, _⟩ := x; exact Heap.lt_size e
  | ins C dx fs => obtain ⟨_, _, _, e, _⟩ := x; exact Heap.lt_size e
  | own y => obtain ⟨_, e⟩ := x; exact Heap.lt_size e
  | xd fs => obtain ⟨_, ⟨_, _, _, e, _⟩, _⟩ := x; exact Heap.lt_size e
  | rng lo hi => obtain ⟨_, _, _, e⟩ := x; exact Heap.lt_size e
  | frz ob u => obtain ⟨e, _⟩ := x; exact Heap.lt_size e
  | tbl ps => exact Heap.lt_size (show h.get? a = some _ from x)
  | met f y => exact Heap.lt_size (show h.get? a = some _ from x)
  | ext φ => obtain ⟨_, ⟨_, e⟩, _⟩ := x; exact Heap.lt_size e
theorem Paired.mapP {α β : Type} {F G : α → β → Prop} : ∀ {l₁ : List α} {l₂ : List β}, Paired F l₁ l₂ → (∀ a b, F a b → G a b) → Paired G l₁ l₂
  | _, _, .nil, _ => .nil
  | _, _, .cons r t, f => .cons (f _ _ r) (Paired.mapP t f)
theorem Paired.imp' {α β : Type} {F G : α → β → Prop} (f : ∀ a b, F a b → G a b) {l₁ : List α} {l₂ : List β} (r : Paired F l₁ l₂) : Paired G l₁ l₂ := Paired.mapP r f
/-- what an object's description leans on: its own object, its own dict, the tuples -/
theorem ObjOk.stay (x : ObjOk P w H h a o) (k : ∀ b u, (b = a ∨ H b = some (.own a)) → h.get? b = some u → h'.get? b = some u)
    (ho : ∀ b, H b = some (.own a) → H' b = some (.own a)) (ht : ∀ b xs, H b = some (.tup xs) → H' b = some (.tup xs)) : ObjOk P w H' h' a o := by
  induction o with
  | lst xs => obtain ⟨z, its, n, r, e⟩ := x; exact ⟨z, its, n, r, k _ _ (.inl rfl) e⟩
  | tup xs => obtain ⟨z, its, r, ob, e, c⟩ := x; exact ⟨z, its, r, ob, k _ _ (.inl rfl) e, c⟩
  | dK kvs => obtain ⟨z, y, vs, r, ob, es, ep, e, c⟩ := x; exact ⟨z, y, vs, r, ob, es, ep, k _ _ (.inl rfl) e, c⟩
  | dT kvs =>
    obtain ⟨z, y, xs, r, ob, es, ep, e, c⟩ := x
    exact ⟨z, y, xs, Paired.mapP r fun p q z => ⟨z.1, ht _ _ z.2.1, z.2.2⟩, ob, es, ep, k _ _ (.inl rfl) e, c⟩
  | set S n => obtain ⟨ob, es, ep, t, e, c⟩ := x; exact ⟨ob, es, ep, t, k _ _ (.inl rfl) e, c⟩
  | ins C dx fs =>
    obtain ⟨d, z, ne, e, mA, ⟨od, es, ep, e2, c⟩, r⟩ := x
    exact ⟨ho _ d, z, ne, k _ _ (.inl rfl) e, mA, ⟨od, es, ep, k _ _ (.inr d) e2, c⟩, r⟩
  | own y => obtain ⟨ob, e⟩ := x; exact ⟨ob, k _ _ (.inl rfl) e⟩
  | xd fs => obtain ⟨mA, ⟨od, es, ep, e, c⟩, r⟩ := x; exact ⟨mA, ⟨od, es, ep, k _ _ (.inl rfl) e, c⟩, r⟩
  | rng lo hi => obtain ⟨t, u, v, e⟩ := x; exact ⟨t, u, v, k _ _ (.inl rfl) e⟩
  | frz ob u ih => obtain ⟨e, q⟩ := x; exact ⟨k _ _ (.inl rfl) e, ih q⟩
  | tbl ps =>
    have e : h.get? a = some { cls := .none, data := .fields ps } := x
    show h'.get? a = some { cls := .none, data := .fields ps }
    exact k a _ (.inl rfl) e
  | met f y =>
    have e : h.get? a = some (PySem.W.methodObj (.ref f) (.ref y)) := x
    show h'.get? a = some (PySem.W.methodObj (.ref f) (.ref y))
    exact k a _ (.inl rfl) e
  | ext φ => obtain ⟨p, ⟨o, e⟩, st⟩ := x; exact ⟨st _ _ p fun o q => k _ _ (.inl rfl) q, ⟨o, k _ _ (.inl rfl) e⟩, st⟩
theorem HOk.lt (x : HOk P w H h) (e : H a = some o) : a < h.objs.size := (x a o e).lt
theorem HOk.fresh (x : HOk P w H h) (e : h.objs.size ≤ a) : H a = none := by
  cases q : H a with
  | none => rfl
  | some u => exact absurd (Nat.lt_of_lt_of_le (x.lt q) e) (Nat.lt_irrefl _)
/-- every object of the heap is kept -/
theorem HOk.kept (x : HOk P w H h) (k : ∀ b u, h.get? b = some u → h'.get? b = some u) : HOk P w H h' := fun a o e =>
  (x a o e).stay (fun b u _ q => k b u q) (fun _ q => q) fun _ _ q => q
/-- a new object is laid and tracked -/
theorem HOk.laid (x : HOk P w H h) (k : ∀ b u, h.get? b = some u → h'.get? b = some u) (hp : h.objs.size ≤ a) (new : ObjOk P w (upd H a o) h' a o) : HOk P w (upd H a o) h' := fun b u e => by
  have hn := x.fresh hp
  by_cases hb : b = a
  · subst hb; rw [upd_same] at e; cases e; exact new
  · rw [upd_ne hb] at e
    exact (x b u e).stay (fun c v _ q => k c v q) (fun c q => by rw [upd_ne (ne_of_none q hn)]; exact q) fun c xs q => by rw [upd_ne (ne_of_none q hn)]; exact q
end

/-- what may be read as u: it is u, or a known u -/
def Rd (H : Hp) (a : Addr) (u : HO) : Prop := H a = some u ∨ ∃ o, H a = some (.frz o u)
theorem Rd.of {H : Hp} {a : Addr} {u : HO} (h : H a = some u) : Rd H a u := .inl h
theorem Rd.ok {P : Program} {w : World} {H : Hp} {h : Heap} {a : Addr} {u : HO} (r : Rd H a u) (x : HOk P w H h) : ObjOk P w H h a u := by
  rcases r with r | ⟨o, r⟩
  · exact x a u r
  · obtain ⟨_, q⟩ := x a _ r
    exact q
/-- what may be written -/
def Mut : Option HO → Prop
  | some (.lst _) => True
  | some (.dK _) => True
  | some (.dT _) => True
  | some (.set _ _) => True
  | some (.ins _ _ _) => True
  | some (.ext _) => True
  | _ => False
section
variable {P : Program} {w : World} {H : Hp} {h h' : Heap} {x e : Addr} {o' : HO}
/-- the object at e is changed: x itself, or the dict of the instance x -/
theorem HOk.write (ok : HOk P w H h) (mu : Mut (H x)) (he : e = x ∨ H e = some (.own x)) (k : ∀ b u, b ≠ e → h.get? b = some u → h'.get? b = some u) (heo : ∃ u, h'.get? e = some u)
    (new : ObjOk P w (upd H x o') h' x o') : HOk P w (upd H x o') h' := fun b u q => by
  have nown : ∀ c y, H c = some (.own y) → c ≠ x := fun c y r z => by subst z; rw [r] at mu; exact mu
  have ntup : ∀ c xs, H c = some (.tup xs) → c ≠ x := fun c xs r z => by subst z; rw [r] at mu; exact mu
  by_cases hb : b = x
  · subst hb; rw [upd_same] at q; cases q; exact new
  · rw [upd_ne hb] at q
    by_cases hbe : b = e
    · have q' : H b = some (.own x) := by
        rcases he with z | z
        · exact absurd (hbe.trans z) hb
        · rw [hbe]; exact z
      rw [q] at q'; cases q'
      obtain ⟨v, hv⟩ := heo
      exact ⟨v, by rw [hbe]; exact hv⟩
    · refine (ok b u q).stay (fun c v hc r => k c v ?_ r) (fun c r => by rw [upd_ne (nown c b r)]; exact r) fun c xs r => by rw [upd_ne (ntup c xs r)]; exact r
      rcases hc with rfl | hc
      · exact hbe
      · rintro rfl
        rcases he with z | z
        · exact nown c b hc z
        · rw [hc] at z; cases z; exact hb rfl
end

structure Un (fs ex : List Addr) (H H' : Hp) (h h' : Heap) : Prop where
  keep : ∀ b o, h.get? b = some o → H b = none → b ∉ fs → b ∉ ex → h'.get? b = some o
  slot : ∀ b o, h.get? b = some o → H b = none → b ∈ fs → b ∉ ex → ∃ sl, h'.get? b = some { o with slots := sl }
  free : ∀ b o, h.get? b = some o → H b = none → b ∉ ex → H' b = none
  there : ∀ b o, h.get? b = some o → b ∉ ex → ∃ o', h'.get? b = some o'
  tups : ∀ b xs, H b = some (.tup xs) → H' b = some (.tup xs)
  frzs : ∀ b o u, H b = some (.frz o u) → H' b = some (.frz o u)
  tbls : ∀ b ps, H b = some (.tbl ps) → ∃ more, H' b = some (.tbl (ps ++ more))
section
variable {fs fs' ex ex' : List Addr} {H H1 H2 : Hp} {h h1 h2 h' : Heap} {a x e : Addr} {o : HO}
theorem Un.any (u : Un fs ex H H1 h h1) {b : Addr} {ob : Obj} (q : h.get? b = some ob) (n : H b = none) (hx : b ∉ ex) : ∃ sl, h1.get? b = some { ob with slots := sl } := by
  by_cases hb : b ∈ fs
  · exact u.slot b ob q n hb hx
  · exact ⟨ob.slots, u.keep b ob q n hb hx⟩
theorem Un.trans (a : Un fs ex H H1 h h1) (b : Un fs ex H1 H2 h1 h2) : Un fs ex H H2 h h2 where
  keep := fun c ob q n hc hx => b.keep c ob (a.keep c ob q n hc hx) (a.free c ob q n hx) hc hx
  slot := fun c ob q n hc hx => by
    obtain ⟨sl, e1⟩ := a.slot c ob q n hc hx
    obtain ⟨sl', e2⟩ := b.slot c _ e1 (a.free c ob q n hx) hc hx
    exact ⟨sl', e2⟩
  free := fun c ob q n hx => by
    obtain ⟨o', e1⟩ := a.there c ob q hx
    exact b.free c o' e1 (a.free c ob q n hx) hx
  there := fun c ob q hx => by
    obtain ⟨o', e1⟩ := a.there c ob q hx
    exact b.there c o' e1 hx
  tups := fun c xs q => b.tups c xs (a.tups c xs q)
  frzs := fun c ob xs q => b.frzs c ob xs (a.frzs c ob xs q)
  tbls := fun c ps q => by
    obtain ⟨m1, e1⟩ := a.tbls c ps q
    obtain ⟨m2, e2⟩ := b.tbls c _ e1
    exact ⟨m1 ++ m2, by rw [e2, Array.append_assoc]⟩
theorem Un.kept (k : ∀ b u, h.get? b = some u → h'.get? b = some u) : Un fs ex H H h h' :=
  ⟨fun b ob q _ _ _ => k b ob q, fun b ob q _ _ _ => ⟨ob.slots, k b ob q⟩, fun _ _ _ n _ => n, fun b ob q _ => ⟨ob, k b ob q⟩, fun _ _ q => q, fun _ _ _ q => q, fun _ ps q => ⟨#[], by rw [q]; simp⟩⟩
theorem Un.refl : Un fs ex H H h h := Un.kept fun _ _ q => q
theorem Un.laid (k : ∀ b u, h.get? b = some u → h'.get? b = some u) (hp : h.objs.size ≤ a) (hn : H a = none) : Un fs ex H (upd H a o) h h' where
  keep := fun b u q _ _ _ => k b u q
  slot := fun b u q _ _ _ => ⟨u.slots, k b u q⟩
  free := fun b u q n _ => by rw [upd_ne (Nat.ne_of_lt (Nat.lt_of_lt_of_le (Heap.lt_size q) hp))]; exact n
  there := fun b u q _ => ⟨u, k b u q⟩
  tups := fun b xs q => by rw [upd_ne (ne_of_none q hn)]; exact q
  frzs := fun b u xs q => by rw [upd_ne (ne_of_none q hn)]; exact q
  tbls := fun b ps q => ⟨#[], by rw [upd_ne (ne_of_none q hn), q]; simp⟩
theorem Un.write (mu : Mut (H x)) (he : e = x ∨ H e = some (.own x)) (k : ∀ b u, b ≠ e → h.get? b = some u → h'.get? b = some u) (heo : ∃ u, h'.get? e = some u) : Un fs ex H (upd H x o) h h' := by
  have hx : ∀ b, H b = none → b ≠ x := fun b n z => by subst z; rw [n] at mu; exact mu
  have hb : ∀ b, H b = none → b ≠ e := fun b n z => by
    subst z
    rcases he with r | r
    · exact hx b n r
    · rw [n] at r; cases r
  have hm : ∀ b u, H b = some u → ¬ Mut (some u) → b ≠ x := fun b u q nm z => by subst z; rw [q] at mu; exact nm mu
  refine ⟨fun b u q n _ _ => k b u (hb b n) q, fun b u q n _ _ => ⟨u.slots, k b u (hb b n) q⟩, fun b u q n _ => by rw [upd_ne (hx b n)]; exact n, fun b u q _ => ?_,
    fun b xs q => by rw [upd_ne (hm b _ q fun z => z)]; exact q, fun b u xs q => by rw [upd_ne (hm b _ q fun z => z)]; exact q, fun b ps q => ⟨#[], by rw [upd_ne (hm b _ q fun z => z), q]; simp⟩⟩
  by_cases hbe : b = e
  · subst hbe; exact heo
  · exact ⟨u, k b u hbe q⟩
theorem Un.mono (u : Un fs ex H H1 h h1) (hs : ∀ b ∈ fs, b ∈ fs') (hx : ∀ b ∈ ex, b ∈ ex') : Un fs' ex' H H1 h h1 :=
  ⟨fun b ob q n hb he => u.keep b ob q n (fun z => hb (hs b z)) fun z => he (hx b z), fun _ _ q n _ he => u.any q n fun z => he (hx _ z), fun b ob q n he => u.free b ob q n fun z => he (hx b z), fun b ob q he => u.there b ob q fun z => he (hx b z), u.tups, u.frzs, u.tbls⟩
end

def trk (h : Heap) (H : Hp) : List Addr := (List.range h.objs.size).filter fun a => (H a).isSome
def hidT (h : Heap) (H : Hp) : Heap := PySem.W.hideAll h (trk h H)
theorem hidT_size (h : Heap) (H : Hp) : (hidT h H).objs.size = h.objs.size := PySem.W.hideAll_size _ _
theorem hidT_get {h : Heap} {H : Hp} {b : Addr} {o : Obj} (e : h.get? b = some o) (n : H b = none) : (hidT h H).get? b = some o :=
  PySem.W.hideAll_get _ e fun hm => by
    have q : (H b).isSome = true := (List.mem_filter.mp hm).2
    rw [n] at q; simp at q
theorem of_hidT {h : Heap} {H : Hp} {b : Addr} {o : Obj} (e : (hidT h H).get? b = some o) : h.get? b = some o ∧ H b = none := by
  have e' : h.get? b = some o := PySem.W.of_hideAll (trk h H) e
  refine ⟨e', ?_⟩
  cases q : H b with
  | none => rfl
  | some x =>
    have hm : b ∈ trk h H := List.mem_filter.mpr ⟨List.mem_range.mpr (Heap.lt_size e'), by simp [q]⟩
    have z : (hidT h H).get? b = none := PySem.W.hideAll_none (trk h H) hm
    rw [z] at e; cases e

def allNews (g h : Heap) (L : Addr) : List (Addr × Obj) := (List.range h.objs.size).filterMap fun a => if a = L ∨ (g.get? a).isSome = true then none else (h.get? a).map fun o => (a, o)
def rest (g h : Heap) (L d : Addr) : List (Addr × Obj) := (allNews g h L).filter fun p => decide (p.1 ≠ d)
end L2

namespace L2
open PySem PySem.Spec PyProof.Rows

/-- the module's facts, over the base: the heap at the law's entry without what is tracked there -/
structure Mod (K : PySem.W.Frag) (mg : Str → Option Value) (base : Heap) : Prop where
  kin : K.In base
  glob : base.Ns mainGlobals mg
  blt : ∃ mb, base.Ns builtinsNs mb ∧ ∀ x : Str, x ≠ "__name__" → mb x = bootBuiltins x
  nolimit : base.NoLimit

/-- the context: a def's body (or a comprehension's block) running. base: fixed through the whole law; s₀, H₀: the entry; outer: the frames whose slots others may change (a def's callers); stack: all frames that run;
   ex: iterators that were made ahead of the entry and are walked here (a comprehension's); fn: the names whose cells were made at the entry (a def: all; a comprehension's block: its own); calm: not within an except suite; pn: pins that every state bears; xe: what is wanted of an exception that leaves the code -/
structure Cx where
  prog : Program
  w : World
  K : PySem.W.Frag
  mg : Str → Option Value
  base : Heap
  A : Around
  N : List Str
  s₀ : Shared
  H₀ : Hp
  env : Env
  outer : List Env
  stack : List Env
  ex : List Addr
  fn : Str → Bool
  calm : Bool
  pn : List (Addr × Obj)
  xe : Value → Shared → Prop
/-- the callers' frames -/
def frs (l : List Env) : List Addr := l.filterMap (·.frame)
abbrev Cx.fs (X : Cx) : List Addr := frs X.outer

def Vis (sc : Scope) (x : Str) : Prop := sc.names.lookup x = some .local ∨ sc.names.lookup x = some .cell ∨ sc.names.lookup x = some .free
def Loc (sc : Scope) (x : Str) : Prop := sc.names.lookup x = some .local ∨ sc.names.lookup x = some .cell
def Look (env : Env) (h : Heap) (m : Str → Option Value) (x : Str) (u : Value) : Prop :=
  (env.kindOf x = some .local ∧ m x = some u) ∨ ((env.kindOf x = some .cell ∨ env.kindOf x = some .free) ∧ ∃ c, env.cells.lookup x = some c ∧ h.IsCell c (some u))

structure Cx.Ok (X : Cx) : Prop where
  mod : Mod X.K X.mg X.base
  kind : X.env.scope.kind = .function
  glob : X.env.globals = mainGlobals
  blt : X.env.builtins = builtinsNs
  above : X.s₀.heap.objs.size ≤ X.env.locals
  inj : ∀ x y c, X.env.cells.lookup x = some c → X.env.cells.lookup y = some c → x = y
  has : ∀ x, (X.env.kindOf x = some .cell ∨ X.env.kindOf x = some .free) → ∃ c, X.env.cells.lookup x = some c
  cab : ∀ x c, X.fn x = true → X.env.cells.lookup x = some c → X.s₀.heap.objs.size ≤ c
  hd : X.calm = true → X.A.handled = none
  frames : X.A.frames = some X.stack
  stk : X.stack = X.outer ∨ (X.stack = X.env :: X.outer ∧ X.env.frame = some X.env.locals)
  exf : ∀ b ∈ X.ex, b ≠ X.env.locals ∧ ∀ x c, X.env.cells.lookup x = some c → c ≠ b
  bs : ∀ b o, X.base.get? b = some o → X.s₀.heap.get? b = some o ∧ X.H₀ b = none
  bsz : X.base.objs.size ≤ X.s₀.heap.objs.size
  noex : ∀ b o, X.base.get? b = some o → b ∉ X.ex
  exfs : ∀ b ∈ X.ex, b ∉ X.fs
  funs : X.s₀.heap.FunFrames X.base X.outer
  frf : ∀ b ∈ X.fs, X.H₀ b = none

structure Inv (X : Cx) (pins : List (Addr × Obj)) (σ : List (Option V)) (H : Hp) (s : Shared) : Prop where
  ok : X.Ok
  os : s.os = X.s₀.os
  bare : AllBare s.gens
  base : Un X.fs X.ex X.H₀ H X.s₀.heap s.heap
  loc : ∃ m, s.heap.Ns X.env.locals m ∧ ∀ (i : Nat) (x : Str) (v : V), X.N[i]? = some x → σ[i]? = some (some v) → Vis X.env.scope x → ∃ u, RelV v u ∧ Look X.env s.heap m x u
  cell : ∀ x c, X.env.cells.lookup x = some c → ∃ v, s.heap.IsCell c v
  free : H X.env.locals = none
  freeC : ∀ x c, X.env.cells.lookup x = some c → H c = none
  pin : ∀ p ∈ X.pn ++ pins, s.heap.get? p.1 = some p.2 ∧ H p.1 = none ∧ p.1 ≠ X.env.locals ∧ p.1 ∉ X.fs ∧ ∀ v, p.2.data ≠ .cell v
  hok : HOk X.prog X.w H s.heap
  len : σ.length = X.N.length

section
variable {X : Cx} {pins : List (Addr × Obj)} {σ : List (Option V)} {H H' : Hp} {s : Shared} {h' : Heap}

theorem Cx.Ok.nofr (ok : X.Ok) {b : Addr} {o : Obj} (e : X.base.get? b = some o) : b ∉ X.fs := fun hb => by
  have := (ok.funs.mem hb).1
  rw [e] at this; cases this
theorem Inv.bs (I : Inv X pins σ H s) : ∀ b o, X.base.get? b = some o → s.heap.get? b = some o ∧ H b = none := fun b o e =>
  ⟨I.base.keep b o (I.ok.bs b o e).1 (I.ok.bs b o e).2 (I.ok.nofr e) (I.ok.noex b o e), I.base.free b o (I.ok.bs b o e).1 (I.ok.bs b o e).2 (I.ok.noex b o e)⟩
theorem Inv.bk (I : Inv X pins σ H s) : ∀ b o, X.base.get? b = some o → s.heap.get? b = some o := fun b o e => (I.bs b o e).1
theorem Inv.mod (I : Inv X pins σ H s) : Mod X.K X.mg X.base := I.ok.mod
theorem Inv.kIn (I : Inv X pins σ H s) : X.K.In s.heap := I.ok.mod.kin.keeps I.bk
theorem Inv.nolimit (I : Inv X pins σ H s) : s.heap.NoLimit := I.ok.mod.nolimit.keeps I.bk
theorem Inv.lt (I : Inv X pins σ H s) : X.env.locals < s.heap.objs.size := let ⟨_, hn, _⟩ := I.loc; hn.lt
theorem Inv.sz (I : Inv X pins σ H s) : X.s₀.heap.objs.size ≤ s.heap.objs.size := Nat.le_trans I.ok.above (Nat.le_of_lt I.lt)
theorem Inv.nofs (I : Inv X pins σ H s) {a : Addr} (h : s.heap.objs.size ≤ a) : a ∉ X.fs := fun hb => by
  obtain ⟨_, o, ho, _⟩ := I.ok.funs.mem hb
  exact absurd (Nat.lt_of_lt_of_le (Heap.lt_size ho) (Nat.le_trans I.sz h)) (Nat.lt_irrefl _)
theorem Inv.cne (I : Inv X pins σ H s) : ∀ x c, X.env.cells.lookup x = some c → c ≠ X.env.locals := fun x c e z => by
  obtain ⟨v, o, ho, hd⟩ := I.cell x c e
  obtain ⟨m, ⟨o', es, ep, ho', hd', _⟩, _⟩ := I.loc
  rw [z, ho'] at ho; cases ho; rw [hd'] at hd; cases hd
theorem Inv.funs (I : Inv X pins σ H s) : s.heap.FunFrames X.base X.outer := by
  have all : ∀ (l : List Env), (∀ b ∈ frs l, b ∈ X.fs) → X.s₀.heap.FunFrames X.base l → s.heap.FunFrames X.base l := by
    intro l
    induction l with
    | nil => intro _ _; trivial
    | cons env r ih =>
      intro hs hl
      obtain ⟨hk, ⟨L, o, hf, hn, ho, hd⟩, hr⟩ := hl
      have hL : L ∈ X.fs := hs L (by unfold frs; rw [List.filterMap_cons, hf]; exact List.mem_cons_self)
      obtain ⟨sl, e⟩ := I.base.slot L o ho (I.ok.frf L hL) hL fun z => I.ok.exfs L z hL
      exact ⟨hk, ⟨L, _, hf, hn, e, hd⟩, ih (fun b hb => hs b (by unfold frs; rw [List.filterMap_cons, hf]; exact List.mem_cons_of_mem _ hb)) hr⟩
  exact all X.outer (fun _ hb => hb) I.ok.funs

/-- the frames that run, for a call -/
theorem Inv.stack (I : Inv X pins σ H s) : s.heap.FunFrames X.base X.stack := by
  rcases I.ok.stk with e | ⟨e, hf⟩
  · rw [e]; exact I.funs
  · rw [e]
    obtain ⟨m, hn, _⟩ := I.loc
    refine .cons (by rw [I.ok.kind]; decide) hf hn ?_ I.funs
    exact Heap.get?_none_of_le (Nat.le_trans I.ok.bsz I.ok.above)
theorem Inv.stkSub (I : Inv X pins σ H s) : ∀ b ∈ frs X.stack, b ∈ X.env.locals :: X.fs := fun b hb => by
  rcases I.ok.stk with e | ⟨e, hf⟩
  · rw [e] at hb; exact List.mem_cons_of_mem _ hb
  · rw [e] at hb
    unfold frs at hb
    rw [List.filterMap_cons, hf] at hb
    exact hb
theorem Inv.stkFree (I : Inv X pins σ H s) : ∀ b ∈ frs X.stack, H b = none := fun b hb => by
  rcases List.mem_cons.mp (I.stkSub b hb) with e | hb
  · rw [e]; exact I.free
  · obtain ⟨_, o, ho, _⟩ := I.ok.funs.mem hb
    exact I.base.free b o ho (I.ok.frf b hb) fun z => I.ok.exfs b z hb

/-- THE STEP: the untracked objects but the frame and the records at ch are kept (the callers' frames up to slots), the frame's map is kept, the new abstract heap is held -/
theorem Inv.step {g' : Array GenState} {t' : Nat} {d' : Drawn} {ch : List Addr} (I : Inv X pins σ H s)
    (hch : ∀ b ∈ ch, (b ∈ X.ex ∨ X.s₀.heap.objs.size ≤ b) ∧ b ≠ X.env.locals ∧ (∀ x c, X.env.cells.lookup x = some c → c ≠ b) ∧ ∀ p ∈ X.pn ++ pins, p.1 ≠ b)
    (keep : ∀ b o, b ≠ X.env.locals → b ∉ X.fs → b ∉ ch → s.heap.get? b = some o → H b = none → h'.get? b = some o)
    (slot : ∀ b o, b ≠ X.env.locals → b ∈ X.fs → b ∉ ch → s.heap.get? b = some o → H b = none → ∃ sl, h'.get? b = some { o with slots := sl }) (free : ∀ b o, b ∉ ch → s.heap.get? b = some o → H b = none → H' b = none)
    (there : ∀ b o, b ∉ ch → s.heap.get? b = some o → ∃ o', h'.get? b = some o')
    (tups : ∀ b xs, H b = some (.tup xs) → H' b = some (.tup xs)) (frzs : ∀ b o u, H b = some (.frz o u) → H' b = some (.frz o u)) (tbls : ∀ b ps, H b = some (.tbl ps) → ∃ more, H' b = some (.tbl (ps ++ more)))
    (ns : ∀ m, s.heap.Ns X.env.locals m → h'.Ns X.env.locals m) (hok : HOk X.prog X.w H' h') (hg : AllBare g') :
    Inv X pins σ H' { s with heap := h', gens := g', drawn := d', toks := t' } := by
  have neL : ∀ b o, X.s₀.heap.get? b = some o → b ≠ X.env.locals := fun b o e => Nat.ne_of_lt (Nat.lt_of_lt_of_le (Heap.lt_size e) I.ok.above)
  have neC : ∀ b o, X.s₀.heap.get? b = some o → b ∉ X.ex → b ∉ ch := fun b o e hx hb => by
    rcases (hch b hb).1 with z | z
    · exact hx z
    · exact absurd (Nat.lt_of_lt_of_le (Heap.lt_size e) z) (Nat.lt_irrefl _)
  have cellK : ∀ x c, X.env.cells.lookup x = some c → ∀ v, s.heap.IsCell c v → h'.IsCell c v := fun x c e v ⟨o, ho, hd⟩ => by
    have nch : c ∉ ch := fun z => (hch c z).2.2.1 x c e rfl
    by_cases hc : c ∈ X.fs
    · obtain ⟨sl, q⟩ := slot c o (I.cne x c e) hc nch ho (I.freeC x c e)
      exact ⟨_, q, hd⟩
    · exact ⟨o, keep c o (I.cne x c e) hc nch ho (I.freeC x c e), hd⟩
  refine ⟨I.ok, I.os, hg, ⟨fun b o e n hb hx => ?_, fun b o e n hb hx => ?_, fun b o e n hx => ?_, fun b o e hx => ?_, fun b xs e => tups b xs (I.base.tups b xs e), fun b o xs e => frzs b o xs (I.base.frzs b o xs e), fun b ps e => ?_⟩, ?_, fun x c e => ?_, ?_, fun x c e => ?_, fun p hp => ?_, hok, I.len⟩
  · exact keep b o (neL b o e) hb (neC b o e hx) (I.base.keep b o e n hb hx) (I.base.free b o e n hx)
  · obtain ⟨sl, e1⟩ := I.base.slot b o e n hb hx
    obtain ⟨sl', e2⟩ := slot b _ (neL b o e) hb (neC b o e hx) e1 (I.base.free b o e n hx)
    exact ⟨sl', e2⟩
  · obtain ⟨o', e1⟩ := I.base.there b o e hx
    exact free b o' (neC b o e hx) e1 (I.base.free b o e n hx)
  · obtain ⟨o', e1⟩ := I.base.there b o e hx
    exact there b o' (neC b o e hx) e1
  · obtain ⟨m1, e1⟩ := I.base.tbls b ps e
    obtain ⟨m2, e2⟩ := tbls b _ e1
    exact ⟨m1 ++ m2, by rw [e2, Array.append_assoc]⟩
  · obtain ⟨m, hn, hl⟩ := I.loc
    refine ⟨m, ns m hn, fun i x v e1 e2 e3 => ?_⟩
    obtain ⟨u, r, l⟩ := hl i x v e1 e2 e3
    refine ⟨u, r, ?_⟩
    rcases l with l | ⟨k, c, e, z⟩
    · exact .inl l
    · exact .inr ⟨k, c, e, cellK x c e _ z⟩
  · obtain ⟨v, z⟩ := I.cell x c e
    exact ⟨v, cellK x c e v z⟩
  · obtain ⟨m, ⟨o, _, _, ho, _⟩, _⟩ := I.loc
    exact free _ o (fun z => (hch _ z).2.1 rfl) ho I.free
  · obtain ⟨v, o, ho, hd⟩ := I.cell x c e
    exact free c o (fun z => (hch c z).2.2.1 x c e rfl) ho (I.freeC x c e)
  · obtain ⟨e, n, ne, nf, d⟩ := I.pin p hp
    have nch : p.1 ∉ ch := fun z => (hch p.1 z).2.2.2 p hp rfl
    exact ⟨keep p.1 p.2 ne nf nch e n, free p.1 p.2 nch e n, ne, nf, d⟩
/-- .. where the frame's own object is kept too -/
theorem Inv.un {t' : Nat} (I : Inv X pins σ H s) (u : Un X.fs [] H H' s.heap h') (hok : HOk X.prog X.w H' h') : Inv X pins σ H' { s with heap := h', toks := t' } := by
  obtain ⟨m, ⟨o, es, ep, ho, r⟩, _⟩ := id I.loc
  obtain ⟨sl, hL⟩ := u.any ho I.free (by simp)
  exact I.step (g' := s.gens) (d' := s.drawn) (ch := []) (fun _ z => nomatch z) (fun b o _ hb _ e n => u.keep b o e n hb (by simp)) (fun b o _ hb _ e n => u.slot b o e n hb (by simp)) (fun b o _ e n => u.free b o e n (by simp)) (fun b o _ e => u.there b o e (by simp)) u.tups u.frzs u.tbls (fun m' hm => by
    obtain ⟨o', es', ep', ho', r'⟩ := hm
    rw [ho] at ho'; cases ho'
    exact ⟨_, es', ep', hL, r'⟩) hok I.bare
/-- behind a call (or a comprehension's block): the slots of this frame may have changed too, the records at ch may have turned -/
theorem Inv.call {g' : Array GenState} {t' : Nat} {d' : Drawn} {ch : List Addr} (I : Inv X pins σ H s) (u : Un (frs X.stack) ch H H' s.heap h') (hok : HOk X.prog X.w H' h') (hg : AllBare g')
    (hch : ∀ b ∈ ch, (b ∈ X.ex ∨ X.s₀.heap.objs.size ≤ b) ∧ b ≠ X.env.locals ∧ (∀ x c, X.env.cells.lookup x = some c → c ≠ b) ∧ ∀ p ∈ X.pn ++ pins, p.1 ≠ b) :
    Inv X pins σ H' { s with heap := h', gens := g', drawn := d', toks := t' } := by
  obtain ⟨m, ⟨o, es, ep, ho, r⟩, _⟩ := id I.loc
  obtain ⟨sl, hL⟩ := u.any ho I.free fun z => (hch _ z).2.1 rfl
  exact I.step (ch := ch) hch (fun b o hL hb hc e n => u.keep b o e n (fun z => (List.mem_cons.mp (I.stkSub b z)).elim hL hb) hc) (fun b o _ _ hc e n => u.any e n hc) (fun b o hc e n => u.free b o e n hc) (fun b o hc e => u.there b o e hc) u.tups u.frzs u.tbls (fun m' hm => by
    obtain ⟨o', es', ep', ho', r'⟩ := hm
    rw [ho] at ho'; cases ho'
    exact ⟨_, es', ep', hL, r'⟩) hok hg
/-- an untracked record of ours (an iterator) has turned -/
theorem Inv.turned {t' : Nat} {it : Addr} (I : Inv X pins σ H s) (k : ∀ b o, b ≠ it → s.heap.get? b = some o → h'.get? b = some o) (hn : H it = none) (hL : it ≠ X.env.locals)
    (h1 : it ∈ X.ex ∨ X.s₀.heap.objs.size ≤ it) (h2 : ∀ x c, X.env.cells.lookup x = some c → c ≠ it) (h3 : ∀ p ∈ X.pn ++ pins, p.1 ≠ it) : Inv X pins σ H { s with heap := h', toks := t' } := by
  have nit : ∀ b u, H b = some u → b ≠ it := fun b u e z => by rw [z, hn] at e; cases e
  refine I.step (g' := s.gens) (d' := s.drawn) (ch := [it]) (fun b hb => ?_) (fun b o _ _ hc e _ => k b o (fun z => hc (by simp [z])) e) (fun b o _ _ hc e _ => ⟨o.slots, k b o (fun z => hc (by simp [z])) e⟩) (fun _ _ _ _ n => n)
    (fun b o hc e => ⟨o, k b o (fun z => hc (by simp [z])) e⟩) (fun _ _ e => e) (fun _ _ _ e => e) (fun b ps e => ⟨#[], by rw [e]; simp⟩) (fun m hm => ?_) (fun b u e => ?_) I.bare
  · have e : b = it := by simpa using hb
    subst e
    exact ⟨h1, hL, h2, h3⟩
  · obtain ⟨o, es, ep, ho, r⟩ := hm
    exact ⟨o, es, ep, k _ o (Ne.symm hL) ho, r⟩
  · refine (I.hok b u e).stay (fun c v hc q => k c v ?_ q) (fun _ q => q) fun _ _ q => q
    rcases hc with z | z
    · rw [z]; exact nit b u e
    · exact nit c _ z
theorem Inv.tok (I : Inv X pins σ H s) (t : Nat) : Inv X pins σ H { s with toks := t } := I.un (h' := s.heap) (t' := t) Un.refl I.hok
/-- all objects kept -/
theorem Inv.kept {t' : Nat} (I : Inv X pins σ H s) (k : ∀ b u, s.heap.get? b = some u → h'.get? b = some u) : Inv X pins σ H { s with heap := h', toks := t' } := I.un (Un.kept k) (I.hok.kept k)
/-- a new object laid and tracked -/
theorem Inv.laid {a : Addr} {o : HO} {t' : Nat} (I : Inv X pins σ H s) (k : ∀ b u, s.heap.get? b = some u → h'.get? b = some u) (hp : s.heap.objs.size ≤ a) (new : ObjOk X.prog X.w (upd H a o) h' a o) :
    Inv X pins σ (upd H a o) { s with heap := h', toks := t' } := I.un (Un.laid k hp (I.hok.fresh hp)) (I.hok.laid k hp new)
/-- an object written -/
theorem Inv.write {x e : Addr} {o : HO} {t' : Nat} (I : Inv X pins σ H s) (mu : Mut (H x)) (he : e = x ∨ H e = some (.own x)) (k : ∀ b u, b ≠ e → s.heap.get? b = some u → h'.get? b = some u) (heo : ∃ u, h'.get? e = some u)
    (new : ObjOk X.prog X.w (upd H x o) h' x o) : Inv X pins σ (upd H x o) { s with heap := h', toks := t' } := I.un (Un.write mu he k heo) (I.hok.write mu he k heo new)
/-- forgetting slots, pins -/
theorem Inv.weak {σ' : List (Option V)} (I : Inv X pins σ H s) (hl : σ'.length = σ.length) (w : ∀ (i : Nat) v, σ'[i]? = some (some v) → σ[i]? = some (some v)) : Inv X pins σ' H s :=
  ⟨I.ok, I.os, I.bare, I.base, let ⟨m, hn, hl'⟩ := I.loc; ⟨m, hn, fun i x v e1 e2 e3 => hl' i x v e1 (w i v e2) e3⟩, I.cell, I.free, I.freeC, I.pin, I.hok, hl.trans I.len⟩
theorem Inv.pins_of {pins' : List (Addr × Obj)} (I : Inv X pins σ H s) (h : ∀ p ∈ pins', s.heap.get? p.1 = some p.2 ∧ H p.1 = none ∧ p.1 ≠ X.env.locals ∧ p.1 ∉ X.fs ∧ ∀ v, p.2.data ≠ .cell v) : Inv X pins' σ H s :=
  ⟨I.ok, I.os, I.bare, I.base, I.loc, I.cell, I.free, I.freeC, fun p hp => (List.mem_append.mp hp).elim (fun z => I.pin p (List.mem_append_left _ z)) (h p), I.hok, I.len⟩

theorem nodup_ix {N : List Str} (hN : N.Nodup) {i j : Nat} {x : Str} (a : N[i]? = some x) (b : N[j]? = some x) : i = j := by
  obtain ⟨h1, e1⟩ := List.getElem?_eq_some_iff.mp a
  obtain ⟨h2, e2⟩ := List.getElem?_eq_some_iff.mp b
  exact (List.getElem_inj hN).mp (e1.trans e2.symm)

/-- a name is stored; what changed -/
theorem store_ok2 {M : Model} {A : Around} {E : Value → Shared → Prop} {i : Nat} {x : Str} {v : V} {u : Value} {Q : Unit → Shared → Prop} (I : Inv X pins σ H s) (hN : X.N.Nodup) (hi : X.N[i]? = some x) (hx : Loc X.env.scope x) (r : RelV v u)
    (h : ∀ s', Inv X pins (σ.set i (some v)) H s' → (∃ a, Heap.SameBut a s.heap s'.heap ∧ (a = X.env.locals ∨ X.env.cells.lookup x = some a)) → Q () s') (hf : X.fn x = true ∨ X.env.scope.names.lookup x = some .local := by first | exact .inl rfl | exact .inr rfl | assumption) : wpAny M A (storeName X.env x u) Q E s := by
  obtain ⟨m, hn, hl⟩ := id I.loc
  have hcls : (X.env.scope.kind == .class || (X.env.scope.kind == .module && X.env.locals != X.env.globals)) = false := by rw [I.ok.kind]; rfl
  have hiσ : i < σ.length := by rw [I.len]; exact (List.getElem?_eq_some_iff.mp hi).1
  have cne := I.cne
  have tracked : ∀ {a : Addr} {h' : Heap}, (∃ o, s.heap.get? a = some o ∧ H a = none) → Heap.SameBut a s.heap h' → HOk X.prog X.w H h' := fun {a h'} ha hs b ob e => by
    obtain ⟨_, _, hfree⟩ := ha
    refine (I.hok b ob e).stay (fun c w' hc q => (hs.2 c ?_).trans q) (fun _ q => q) fun _ _ q => q
    rintro rfl
    rcases hc with rfl | hc
    · rw [hfree] at e; cases e
    · rw [hfree] at hc; cases hc
  rcases hx with hk | hk
  · refine wpAny_storeName_local hk hn (fun h' hn' hs => ?_) hcls
    obtain ⟨oL, _, _, hoL, _⟩ := id hn
    refine h _ ⟨I.ok, I.os, I.bare, ⟨fun b o e n hb hx => ?_, fun b o e n hb hx => ?_, I.base.free, fun b o e hx => ?_, I.base.tups, I.base.frzs, I.base.tbls⟩, ⟨_, hn', fun j y v' e1 e2 e3 => ?_⟩, fun y c e => ?_, I.free, I.freeC, fun p hp => ?_, tracked ⟨oL, hoL, I.free⟩ hs, by simpa using I.len⟩ ⟨_, hs, .inl rfl⟩
    · exact (hs.2 b (Nat.ne_of_lt (Nat.lt_of_lt_of_le (Heap.lt_size e) I.ok.above))).trans (I.base.keep b o e n hb hx)
    · obtain ⟨sl, e1⟩ := I.base.slot b o e n hb hx
      exact ⟨sl, (hs.2 b (Nat.ne_of_lt (Nat.lt_of_lt_of_le (Heap.lt_size e) I.ok.above))).trans e1⟩
    · obtain ⟨o', e1⟩ := I.base.there b o e hx
      exact ⟨o', (hs.2 b (Nat.ne_of_lt (Nat.lt_of_lt_of_le (Heap.lt_size e) I.ok.above))).trans e1⟩
    · by_cases hj : j = i
      · subst hj
        rw [hi] at e1; cases e1
        rw [List.getElem?_set_self hiσ] at e2
        cases e2
        exact ⟨u, r, .inl ⟨hk, by simp⟩⟩
      · rw [List.getElem?_set_ne (Ne.symm hj)] at e2
        obtain ⟨u', r', q⟩ := hl j y v' e1 e2 e3
        refine ⟨u', r', ?_⟩
        rcases q with ⟨k, e⟩ | ⟨k, c, e, z⟩
        · refine .inl ⟨k, ?_⟩
          have : y ≠ x := fun e => hj (nodup_ix hN e1 (e ▸ hi))
          simp [this, e]
        · exact .inr ⟨k, c, e, z.sameBut hs (cne y c e)⟩
    · obtain ⟨w', z⟩ := I.cell y c e
      exact ⟨w', z.sameBut hs (cne y c e)⟩
    · obtain ⟨e, n, ne, nf, d⟩ := I.pin p hp
      exact ⟨(hs.2 p.1 ne).trans e, n, ne, nf, d⟩
  · have hfn : X.fn x = true := by
      rcases hf with z | z
      · exact z
      · rw [z] at hk; cases hk
    obtain ⟨c, hc⟩ := I.ok.has x (.inl hk)
    obtain ⟨w', z⟩ := I.cell x c hc
    refine wpAny_storeName_cell I.ok.kind hk hc z (fun h' hc' hs => ?_)
    obtain ⟨oc, hoc, hocd⟩ := id z
    refine h { s with heap := h' } ⟨I.ok, I.os, I.bare, ⟨fun b o e n hb hx => ?_, fun b o e n hb hx => ?_, I.base.free, fun b o e hx => ?_, I.base.tups, I.base.frzs, I.base.tbls⟩, ⟨m, hn.sameBut hs (Ne.symm (cne x c hc)), fun j y v' e1 e2 e3 => ?_⟩, fun y c' e => ?_, I.free, I.freeC, fun p hp => ?_, tracked ⟨oc, hoc, I.freeC x c hc⟩ hs, by simpa using I.len⟩ ⟨c, hs, .inr hc⟩
    · exact (hs.2 b (Nat.ne_of_lt (Nat.lt_of_lt_of_le (Heap.lt_size e) (I.ok.cab x c hfn hc)))).trans (I.base.keep b o e n hb hx)
    · obtain ⟨sl, e1⟩ := I.base.slot b o e n hb hx
      exact ⟨sl, (hs.2 b (Nat.ne_of_lt (Nat.lt_of_lt_of_le (Heap.lt_size e) (I.ok.cab x c hfn hc)))).trans e1⟩
    · obtain ⟨o', e1⟩ := I.base.there b o e hx
      exact ⟨o', (hs.2 b (Nat.ne_of_lt (Nat.lt_of_lt_of_le (Heap.lt_size e) (I.ok.cab x c hfn hc)))).trans e1⟩
    · by_cases hj : j = i
      · subst hj
        rw [hi] at e1; cases e1
        rw [List.getElem?_set_self hiσ] at e2
        cases e2
        exact ⟨u, r, .inr ⟨.inl hk, c, hc, hc'⟩⟩
      · rw [List.getElem?_set_ne (Ne.symm hj)] at e2
        obtain ⟨u', r', q⟩ := hl j y v' e1 e2 e3
        refine ⟨u', r', ?_⟩
        rcases q with q | ⟨k, c', e, z'⟩
        · exact .inl q
        · refine .inr ⟨k, c', e, z'.sameBut hs ?_⟩
          rintro rfl
          exact hj (nodup_ix hN e1 (I.ok.inj _ _ _ e hc ▸ hi))
    · by_cases hcc : c' = c
      · subst hcc; exact ⟨_, hc'⟩
      · obtain ⟨w2, z2⟩ := I.cell y c' e
        exact ⟨w2, z2.sameBut hs hcc⟩
    · obtain ⟨e, n, ne, nf, d⟩ := I.pin p hp
      refine ⟨(hs.2 p.1 ?_).trans e, n, ne, nf, d⟩
      intro q
      rw [q, hoc] at e
      have q' : oc = p.2 := Option.some.inj e
      exact d w' (by rw [← q']; exact hocd)
theorem store_ok {M : Model} {A : Around} {E : Value → Shared → Prop} {i : Nat} {x : Str} {v : V} {u : Value} {Q : Unit → Shared → Prop} (I : Inv X pins σ H s) (hN : X.N.Nodup) (hi : X.N[i]? = some x) (hx : Loc X.env.scope x) (r : RelV v u)
    (h : ∀ s', Inv X pins (σ.set i (some v)) H s' → Q () s') (hf : X.fn x = true ∨ X.env.scope.names.lookup x = some .local := by first | exact .inl rfl | exact .inr rfl | assumption) : wpAny M A (storeName X.env x u) Q E s :=
  store_ok2 I hN hi hx r (fun s' I' _ => h s' I') hf
/-- behind a call or a block, the state as it is -/
theorem Inv.call' {s' : Shared} {ch : List Addr} (I : Inv X pins σ H s) (ho : s'.os = s.os) (u : Un (frs X.stack) ch H H' s.heap s'.heap) (hok : HOk X.prog X.w H' s'.heap) (hg : AllBare s'.gens)
    (hch : ∀ b ∈ ch, (b ∈ X.ex ∨ X.s₀.heap.objs.size ≤ b) ∧ b ≠ X.env.locals ∧ (∀ x c, X.env.cells.lookup x = some c → c ≠ b) ∧ ∀ p ∈ X.pn ++ pins, p.1 ≠ b) : Inv X pins σ H' s' := by
  obtain ⟨h', g', d', t', o'⟩ := s'
  have e : o' = s.os := ho
  subst e
  exact I.call (g' := g') (t' := t') (d' := d') u hok hg hch
end

/-- an exception: its class, its own dict's address (where it has one), the abstract heap behind it -/
abbrev XK := Value → Option Addr → Hp → Prop
abbrev St := List (Option V)
abbrev VK := V → Hp → Prop
/-- an expression's reading; a test's; an argument list's -/
abbrev TE := St → Hp → VK → Prop
abbrev TT := St → Hp → (Bool → Hp → Prop) → Prop
abbrev TA := St → Hp → (List V → Hp → Prop) → Prop
/-- what is wanted behind a statement -/
structure Ends where
  nx : St → Hp → Prop
  rt : VK
  bk : St → Hp → Prop := fun _ _ => False
  ct : St → Hp → Prop := fun _ _ => False
abbrev TS := Ends → St → Hp → Prop

def EP (X : Cx) (pins : List (Addr × Obj)) (σ : St) (Q : VK) (u : Value) (s' : Shared) : Prop := ∃ v H', Inv X pins σ H' s' ∧ RelV v u ∧ Q v H'
def TP (X : Cx) (pins : List (Addr × Obj)) (σ : St) (Q : Bool → Hp → Prop) (b : Bool) (s' : Shared) : Prop := ∃ H', Inv X pins σ H' s' ∧ Q b H'
def AP (X : Cx) (pins : List (Addr × Obj)) (σ : St) (Q : List V → Hp → Prop) (us : List Value) (s' : Shared) : Prop := ∃ vs H', Inv X pins σ H' s' ∧ Vals vs us ∧ Q vs H'
def SP (X : Cx) (pins : List (Addr × Obj)) (D : Ends) (f : Flow) (s' : Shared) : Prop :=
  match f with
  | .next => ∃ σ' H', Inv X pins σ' H' s' ∧ D.nx σ' H'
  | .brk => ∃ σ' H', Inv X pins σ' H' s' ∧ D.bk σ' H'
  | .cont => ∃ σ' H', Inv X pins σ' H' s' ∧ D.ct σ' H'
  | .ret u => ∃ v σ' H', Inv X pins σ' H' s' ∧ RelV v u ∧ D.rt v H'

def PE (X : Cx) (e : Expr) (t : TE) : Prop :=
  ∀ (pins : List (Addr × Obj)) (s : Shared) (σ : St) (H : Hp) (Q : VK), Inv X pins σ H s → t σ H Q → wpAny (model X.prog X.w) X.A (eval e X.env) (EP X pins σ Q) X.xe s
def PT (X : Cx) (e : Expr) (t : TT) : Prop :=
  ∀ (pins : List (Addr × Obj)) (s : Shared) (σ : St) (H : Hp) (Q : Bool → Hp → Prop), Inv X pins σ H s → t σ H Q → wpAny (model X.prog X.w) X.A (isTrue e X.env (eval e X.env)) (TP X pins σ Q) X.xe s
/-- a test whatever its 'whole' is (and, or) -/
def PW (X : Cx) (e : Expr) (t : TT) : Prop :=
  ∀ (whole : Sem Value) (pins : List (Addr × Obj)) (s : Shared) (σ : St) (H : Hp) (Q : Bool → Hp → Prop), Inv X pins σ H s → t σ H Q → wpAny (model X.prog X.w) X.A (isTrue e X.env whole) (TP X pins σ Q) X.xe s
theorem PW.pt {X : Cx} {e : Expr} {t : TT} (h : PW X e t) : PT X e t := h _
/-- an argument list (no star), from the left -/
def PA (X : Cx) (es : List Expr) (t : TA) : Prop :=
  ∀ (pos : Pos) (pins : List (Addr × Obj)) (s : Shared) (σ : St) (H : Hp) (Q : List V → Hp → Prop), Inv X pins σ H s → t σ H Q → wpAny (model X.prog X.w) X.A (spliced (backTo pos (starEach es X.env))) (AP X pins σ Q) X.xe s
def PS (X : Cx) (st : Stmt) (t : TS) : Prop :=
  ∀ (pins : List (Addr × Obj)) (s : Shared) (σ : St) (H : Hp) (D : Ends), Inv X pins σ H s → t D σ H → wpAny (model X.prog X.w) X.A (exec st X.env) (SP X pins D) X.xe s
def PSs (X : Cx) (st : List Stmt) (t : TS) : Prop :=
  ∀ (pins : List (Addr × Obj)) (s : Shared) (σ : St) (H : Hp) (D : Ends), Inv X pins σ H s → t D σ H → wpAny (model X.prog X.w) X.A (execs st X.env) (SP X pins D) X.xe s
/-- weaken the end -/
theorem thn {α : Type} {t : Sem α} {Q Q' : α → Shared → Prop} {M : Model} {A : Around} {E : Value → Shared → Prop} {s : Shared} (h : wpAny M A t Q E s) (hQ : ∀ a s, Q a s → Q' a s) : wpAny M A t Q' E s := wpAny_mono h hQ fun _ _ x => x
end L2

namespace L2
open PySem PySem.Spec PyProof.Rows
section
variable {X : Cx}

abbrev tVar (i : Nat) : TE := fun σ H Q => ∃ v, σ[i]? = some (some v) ∧ Q v H
abbrev tC (v : V) : TE := fun _ H Q => Q v H
theorem pe_var {i : Nat} {x : Str} {pos : Pos} (hN : X.N[i]? = some x) (hv : Vis X.env.scope x) (hd : (x == ("__debug__" : Str)) = false := by decide) (hcd : (x == ("__classdict__" : Str)) = false := by decide) : PE X (.Name x pos) (tVar i) := by
  intro pins s σ H Q I h
  obtain ⟨v, e, h⟩ := h
  obtain ⟨m, hn, hl⟩ := I.loc
  obtain ⟨u, r, l⟩ := hl i x v hN e hv
  have fin : EP X pins σ Q u s := ⟨v, H, I, r, h⟩
  rcases l with ⟨hk, hm⟩ | ⟨hk, c, hc, hcell⟩
  · exact wpAny_Name (wpAny_loadName_local I.ok.kind hk hn hm fin) hd
  · rcases hk with hk | hk
    · exact wpAny_Name (wpAny_loadName_cell I.ok.kind hk hc hcell fin) hd
    · exact wpAny_Name (wpAny_loadName_free I.ok.kind hk hc hcell fin hcd) hd
theorem pe_int {i j pos} : PE X (.Constant (.int i) j pos) (tC (.int i)) := fun _ _ _ H _ I h => wpAny_Constant_int ⟨.int i, H, I.tok _, ⟨_, rfl⟩, h⟩
theorem pe_bl {b j pos} : PE X (.Constant (.bool b) j pos) (tC (.bl b)) := fun _ _ _ H _ I h => Constant_bool ⟨.bl b, H, I, rfl, h⟩
theorem pe_non {j pos} : PE X (.Constant .none j pos) (tC .non) := fun _ _ _ H _ I h => Constant_none ⟨.non, H, I, rfl, h⟩
theorem pe_str {x j pos} : PE X (.Constant (.str x) j pos) (tC (.str x)) := fun _ _ _ H _ I h => Calls.Constant_str ⟨.str x, H, I.tok _, ⟨_, rfl⟩, h⟩

/-- a global name of the def -/
def Gl (X : Cx) (x : Str) : Prop := X.env.kindOf x = some .globalImplicit
theorem ld_glob {E : Value → Shared → Prop} {pins : List (Addr × Obj)} {s : Shared} {σ : St} {H : Hp} {x : Str} {u : Value} {pos : Pos} {Q : Value → Shared → Prop} (I : Inv X pins σ H s) (hg : Gl X x) (hm : X.mg x = some u) (h : Q u s)
    (hd : (x == ("__debug__" : Str)) = false := by decide) : wpAny (model X.prog X.w) X.A (eval (.Name x pos) X.env) Q E s :=
  Calls.Name_function_global I.ok.kind hg (Calls.loadGlobal_global (by rw [I.ok.glob]; exact I.mod.glob.keeps I.bk) hm h) hd
theorem ld_blt {E : Value → Shared → Prop} {pins : List (Addr × Obj)} {s : Shared} {σ : St} {H : Hp} {x : Str} {u : Value} {pos : Pos} {Q : Value → Shared → Prop} (I : Inv X pins σ H s) (hg : Gl X x) (hm : X.mg x = none) (hv : bootBuiltins x = some u) (h : Q u s)
    (hn : x ≠ "__name__" := by decide) (hd : (x == ("__debug__" : Str)) = false := by decide) : wpAny (model X.prog X.w) X.A (eval (.Name x pos) X.env) Q E s := by
  obtain ⟨mb, h1, h2⟩ := I.mod.blt
  exact Calls.Name_function_global I.ok.kind hg (Calls.loadGlobal_builtin (by rw [I.ok.glob]; exact I.mod.glob.keeps I.bk) hm (by rw [I.ok.blt]; exact h1.keeps I.bk) ((h2 x hn).trans hv) h) hd
/-- a module's constant, a class, a function, as a value -/
theorem pe_glob {x : Str} {v : V} {u : Value} {pos : Pos} (hg : Gl X x) (hm : X.mg x = some u) (r : RelV v u) (hd : (x == ("__debug__" : Str)) = false := by decide) : PE X (.Name x pos) (tC v) :=
  fun _ _ _ H _ I h => ld_glob I hg hm ⟨v, H, I, r, h⟩ hd
theorem pe_bltn {x : Str} {v : V} {u : Value} {pos : Pos} (hg : Gl X x) (hm : X.mg x = none) (hv : bootBuiltins x = some u) (r : RelV v u) (hn : x ≠ "__name__" := by decide) (hd : (x == ("__debug__" : Str)) = false := by decide) : PE X (.Name x pos) (tC v) :=
  fun _ _ _ H _ I h => ld_blt I hg hm hv ⟨v, H, I, r, h⟩ hn hd

/-- two ints -/
def t2I (ta tb : TE) (k : Int → Int → Hp → Prop) : St → Hp → Prop := fun σ H => ta σ H fun x H1 => tb σ H1 fun y H2 => ∃ i j, x = .int i ∧ y = .int j ∧ k i j H2
def tAdd (ta tb : TE) : TE := fun σ H Q => t2I ta tb (fun i j H2 => Q (.int (i + j)) H2) σ H
def tSub (ta tb : TE) : TE := fun σ H Q => t2I ta tb (fun i j H2 => Q (.int (i - j)) H2) σ H
/-- the left factor below 2^64 -/
def tMul (ta tb : TE) : TE := fun σ H Q => t2I ta tb (fun i j H2 => (-(2 ^ 64) < i ∧ i < 2 ^ 64) ∧ Q (.int (i * j)) H2) σ H
variable {a b : Expr} {ta tb : TE} {pos : Pos}
def PC (X : Cx) (op : CmpOp) (a b : Expr) (t : TE) : Prop :=
  ∀ (pins : List (Addr × Obj)) (s : Shared) (σ : St) (H : Hp) (Q : VK), Inv X pins σ H s → t σ H Q →
    wpAny (model X.prog X.w) X.A (eval a X.env) (fun v s₁ => wpAny (model X.prog X.w) X.A (eval b X.env) (fun u s₂ => wpAny (model X.prog X.w) X.A (compareOp op v u) (EP X pins σ Q) X.xe s₂) X.xe s₁) X.xe s
theorem nobehind (b : Expr) {op : CmpOp} (h : op ≠ .In) (h2 : op ≠ .NotIn) : behindInMarks op b = false := by
  have e1 : (op == CmpOp.In) = false := by cases op <;> first | rfl | exact absurd rfl h
  have e2 : (op == CmpOp.NotIn) = false := by cases op <;> first | rfl | exact absurd rfl h2
  cases b <;> simp [behindInMarks, e1, e2]
def tCmp (p : Int → Int → Bool) (ta tb : TE) : TE := fun σ H Q => t2I ta tb (fun i j H2 => Q (.bl (p i j)) H2) σ H
abbrev tLt : TE → TE → TE := tCmp fun i j => decide (i < j)
abbrev tLe : TE → TE → TE := tCmp fun i j => decide (i ≤ j)
abbrev tGt : TE → TE → TE := tCmp fun i j => decide (j < i)
abbrev tGe : TE → TE → TE := tCmp fun i j => decide (j ≤ i)
abbrev tEqI : TE → TE → TE := tCmp fun i j => decide (i = j)
abbrev tNeI : TE → TE → TE := tCmp fun i j => !decide (i = j)
/-- is None -/
def tIsN (ta : TE) : TE := fun σ H Q => ta σ H fun x H1 => Q (.bl (decide (x = .non))) H1
def tNotN (ta : TE) : TE := fun σ H Q => ta σ H fun x H1 => Q (.bl (!decide (x = .non))) H1
/-- a comparison as a value, as a test -/
def tB (t : TE) : TT := fun σ H Q => t σ H fun x H1 => ∃ c, x = .bl c ∧ Q c H1
theorem pe_cmp {op : CmpOp} {t : TE} (h : PC X op a b t) (h1 : behindInMarks op b = false := by first | exact nobehind _ (by decide) (by decide) | rfl) : PE X (.Compare a [op] [b] pos) t := fun pins s σ H Q I hw => wpAny_Compare1 (h pins s σ H Q I hw) h1
variable {tA tB' : TT} {rest : List Expr}
abbrev tAnd (t u : TT) : TT := fun σ H Q => t σ H fun c H1 => if c = true then u σ H1 Q else Q false H1
abbrev tOr (t u : TT) : TT := fun σ H Q => t σ H fun c H1 => if c = true then Q true H1 else u σ H1 Q
abbrev tNot (t : TT) : TT := fun σ H Q => t σ H fun c H1 => Q (!c) H1
theorem pw_and1 (ha : PT X a tA) : PW X (.BoolOp .And [a] pos) tA := by
  intro wh pins s σ H Q I h
  refine isTrue_and (thn (ha pins s σ H Q I h) fun c s1 e => ?_)
  cases c with
  | true => exact isTrue_and_nil e
  | false => exact e
theorem pw_or1 (ha : PT X a tA) : PW X (.BoolOp .Or [a] pos) tA := by
  intro wh pins s σ H Q I h
  refine isTrue_or (thn (ha pins s σ H Q I h) fun c s1 e => ?_)
  cases c with
  | false => exact isTrue_or_nil e
  | true => exact e
theorem pw_and (ha : PT X a tA) (hb : PW X (.BoolOp .And (b :: rest) pos) tB') : PW X (.BoolOp .And (a :: b :: rest) pos) (tAnd tA tB') := by
  intro wh pins s σ H Q I h
  refine isTrue_and (thn (ha pins s σ H _ I h) fun c s1 ⟨H1, I1, q1⟩ => ?_)
  cases c with
  | true => exact hb wh pins s1 σ H1 Q I1 q1
  | false => exact ⟨H1, I1, q1⟩
theorem pw_or (ha : PT X a tA) (hb : PW X (.BoolOp .Or (b :: rest) pos) tB') : PW X (.BoolOp .Or (a :: b :: rest) pos) (tOr tA tB') := by
  intro wh pins s σ H Q I h
  refine isTrue_or (thn (ha pins s σ H _ I h) fun c s1 ⟨H1, I1, q1⟩ => ?_)
  cases c with
  | true => exact ⟨H1, I1, q1⟩
  | false => exact hb wh pins s1 σ H1 Q I1 q1
theorem pt_not (ha : PT X a tA) : PT X (.UnaryOp .Not a pos) (tNot tA) := by
  intro pins s σ H Q I h
  exact isTrue_not (ha pins s σ H (fun c H1 => Q (!c) H1) I h)
/-- .. as values (bools) -/
abbrev tAndV (ta tb : TE) : TE := fun σ H Q => ta σ H fun x H1 => ∃ c, x = .bl c ∧ if c = true then tb σ H1 Q else Q (.bl false) H1
abbrev tOrV (ta tb : TE) : TE := fun σ H Q => ta σ H fun x H1 => ∃ c, x = .bl c ∧ if c = true then Q (.bl true) H1 else tb σ H1 Q
abbrev tNotV (ta : TE) : TE := fun σ H Q => ta σ H fun x H1 => ∃ c, x = .bl c ∧ Q (.bl (!c)) H1
theorem pe_one {op} {t : TE} (h : PE X a t) : PE X (.BoolOp op [a] pos) t := fun pins s σ H Q I hw => BoolOp_one (h pins s σ H Q I hw)
theorem pe_and (ha : PE X a ta) (hb : PE X (.BoolOp .And (b :: rest) pos) tb) : PE X (.BoolOp .And (a :: b :: rest) pos) (tAndV ta tb) := by
  intro pins s σ H Q I h
  refine BoolOp_and (thn (ha pins s σ H _ I h) fun v s1 ⟨x, H1, I1, r1, q1⟩ => ?_)
  obtain ⟨c, rfl, q1⟩ := q1
  cases r1
  refine wpAny_truthy_bool ?_
  cases c with
  | true => exact hb pins s1 σ H1 Q I1 q1
  | false => exact ⟨.bl false, H1, I1, rfl, q1⟩
theorem pe_or (ha : PE X a ta) (hb : PE X (.BoolOp .Or (b :: rest) pos) tb) : PE X (.BoolOp .Or (a :: b :: rest) pos) (tOrV ta tb) := by
  intro pins s σ H Q I h
  refine BoolOp_or (thn (ha pins s σ H _ I h) fun v s1 ⟨x, H1, I1, r1, q1⟩ => ?_)
  obtain ⟨c, rfl, q1⟩ := q1
  cases r1
  refine wpAny_truthy_bool ?_
  cases c with
  | false => exact hb pins s1 σ H1 Q I1 q1
  | true => exact ⟨.bl true, H1, I1, rfl, q1⟩
/-- a if t else b -/
def tIf (t : TT) (ta tb : TE) : TE := fun σ H Q => t σ H fun c H1 => if c = true then ta σ H1 Q else tb σ H1 Q
end
end L2

namespace L2
open PySem PySem.Spec PyProof.Rows

def SqL (K : PySem.W.Frag) (H : Hp) (a : Addr) (xs : List V) : Prop :=
  Rd H a (.lst xs) ∨
    ∃ (o : Obj) (its : Array Value) (n : Nat), K.lookup a = some o ∧ o.cls = .type "list" ∧ o.dict = none ∧ o.data = .seq its n ∧ its.size ≤ sizeLine ∧ Vals xs its.toList
def SqT (K : PySem.W.Frag) (H : Hp) (a : Addr) (xs : List V) : Prop :=
  Rd H a (.tup xs) ∨
    ∃ (o : Obj) (its : Array Value) (n : Nat), K.lookup a = some o ∧ o.cls = .type "tuple" ∧ o.data = .seq its n ∧ its.size ≤ sizeLine ∧ Vals xs its.toList
def absV : Value → Option V
  | .none => some .non
  | .bool b => some (.bl b)
  | .int i _ => some (.int i)
  | .str x _ => some (.str x)
  | .bytes b _ => some (.byt b)
  | .float b _ => some (.flt b)
  | .ref a => some (.ref a)
  | .type n => some (.ty n)
  | _ => none
theorem RelV.abs {x : V} {u : Value} (r : RelV x u) : absV u = some x := by
  cases x with
  | non => cases r; rfl
  | bl _ => cases r; rfl
  | int _ => obtain ⟨t, rfl⟩ := r; rfl
  | str _ => obtain ⟨t, rfl⟩ := r; rfl
  | byt _ => obtain ⟨t, rfl⟩ := r; rfl
  | flt _ => obtain ⟨t, rfl⟩ := r; rfl
  | ref _ => cases r; rfl
  | ty _ => cases r; rfl
theorem RelV.inj {x y : V} {u : Value} (r : RelV x u) (q : RelV y u) : x = y := Option.some.inj (r.abs.symm.trans q.abs)
theorem Vals.inj : ∀ {xs ys : List V} {us : List Value}, Vals xs us → Vals ys us → xs = ys
  | _, _, _, .nil, .nil => rfl
  | _, _, _, .cons r t, .cons r' t' => by rw [r.inj r', Vals.inj t t']
section
variable {X : Cx} {pins : List (Addr × Obj)} {σ : St} {H : Hp} {s : Shared} {a : Addr} {xs ys : List V}
theorem SqL.of {K : PySem.W.Frag} (h : H a = some (.lst xs)) : SqL K H a xs := .inl (.inl h)
theorem SqT.of {K : PySem.W.Frag} (h : H a = some (.tup xs)) : SqT K H a xs := .inl (.inl h)
theorem Inv.list (I : Inv X pins σ H s) (h : SqL X.K H a xs) : ∃ its : List Value, Vals xs its ∧ PlainL s.heap a its.toArray ∧ xs.length ≤ sizeLine := by
  rcases h with h | ⟨o, its, n, hk, hc, hd, hs, hz, r⟩
  · obtain ⟨z, its, n, r, e⟩ := h.ok I.hok
    exact ⟨its, r, ⟨_, n, e, rfl, rfl, rfl⟩, z⟩
  · refine ⟨its.toList, r, ⟨o, n, I.kIn a o hk, hc, hd, by simpa using hs⟩, ?_⟩
    have e := r.length
    simp only [Array.length_toList] at e
    omega
theorem Inv.tuple (I : Inv X pins σ H s) (h : SqT X.K H a xs) : ∃ its : List Value, Vals xs its ∧ IsTup s.heap a its.toArray ∧ xs.length ≤ sizeLine := by
  rcases h with h | ⟨o, its, n, hk, hc, hs, hz, r⟩
  · obtain ⟨z, its, r, p⟩ := h.ok I.hok
    exact ⟨its, r, p, z⟩
  · refine ⟨its.toList, r, ⟨o, I.kIn a o hk, hc, n, by simpa using hs⟩, ?_⟩
    have e := r.length
    simp only [Array.length_toList] at e
    omega
theorem Inv.list_inj (I : Inv X pins σ H s) (h : SqL X.K H a xs) (h' : SqL X.K H a ys) : xs = ys := by
  obtain ⟨its, r, ⟨o, n, e, _, _, d⟩, _⟩ := I.list h
  obtain ⟨its', r', ⟨o', n', e', _, _, d'⟩, _⟩ := I.list h'
  rw [e] at e'; cases e'
  rw [d] at d'
  injection d' with d1 _
  have : its = its' := by simpa using congrArg Array.toList d1
  subst this
  exact r.inj r'
theorem Inv.tuple_inj (I : Inv X pins σ H s) (h : SqT X.K H a xs) (h' : SqT X.K H a ys) : xs = ys := by
  obtain ⟨its, r, ⟨o, e, _, n, d⟩, _⟩ := I.tuple h
  obtain ⟨its', r', ⟨o', e', _, n', d'⟩, _⟩ := I.tuple h'
  rw [e] at e'; cases e'
  rw [d] at d'
  injection d' with d1 _
  have : its = its' := by simpa using congrArg Array.toList d1
  subst this
  exact r.inj r'
end

abbrev Cx.wish (X : Cx) (E : Value → Shared → Prop) : Cx := { X with xe := E }
/-- no exception leaves -/
abbrev Cx.nox (X : Cx) : Cx := X.wish fun _ _ => False
theorem Cx.Ok.wish {X : Cx} (ok : X.Ok) (E : Value → Shared → Prop) : (X.wish E).Ok :=
  ⟨ok.mod, ok.kind, ok.glob, ok.blt, ok.above, ok.inj, ok.has, ok.cab, ok.hd, ok.frames, ok.stk, ok.exf, ok.bs, ok.bsz, ok.noex, ok.exfs, ok.funs, ok.frf⟩
theorem Cx.Ok.unwish {X : Cx} {E : Value → Shared → Prop} (ok : (X.wish E).Ok) : X.Ok :=
  ⟨ok.mod, ok.kind, ok.glob, ok.blt, ok.above, ok.inj, ok.has, ok.cab, ok.hd, ok.frames, ok.stk, ok.exf, ok.bs, ok.bsz, ok.noex, ok.exfs, ok.funs, ok.frf⟩
section
variable {X : Cx} {pins : List (Addr × Obj)} {σ : St} {H : Hp} {s : Shared} {E : Value → Shared → Prop}
theorem Inv.wish (I : Inv X pins σ H s) (E : Value → Shared → Prop) : Inv (X.wish E) pins σ H s := ⟨I.ok.wish E, I.os, I.bare, I.base, I.loc, I.cell, I.free, I.freeC, I.pin, I.hok, I.len⟩
theorem Inv.unwish (I : Inv (X.wish E) pins σ H s) : Inv X pins σ H s := ⟨I.ok.unwish, I.os, I.bare, I.base, I.loc, I.cell, I.free, I.freeC, I.pin, I.hok, I.len⟩
theorem SP.unwish {D : Ends} {f : Flow} {s' : Shared} (h : SP (X.wish E) pins D f s') : SP X pins D f s' := by
  cases f with
  | next => obtain ⟨σ', H', I, q⟩ := h; exact ⟨σ', H', I.unwish, q⟩
  | brk => obtain ⟨σ', H', I, q⟩ := h; exact ⟨σ', H', I.unwish, q⟩
  | cont => obtain ⟨σ', H', I, q⟩ := h; exact ⟨σ', H', I.unwish, q⟩
  | ret u => obtain ⟨v, σ', H', I, r, q⟩ := h; exact ⟨v, σ', H', I.unwish, r, q⟩
theorem PE.nox {e : Expr} {t : TE} (h : PE X.nox e t) : PE X e t := fun pins s σ H Q I hw =>
  wpAny_mono (h pins s σ H Q (I.wish _) hw) (fun _ _ ⟨v, H', I', r, q⟩ => ⟨v, H', I'.unwish, r, q⟩) fun _ _ z => False.elim z
theorem PT.nox {e : Expr} {t : TT} (h : PT X.nox e t) : PT X e t := fun pins s σ H Q I hw =>
  wpAny_mono (h pins s σ H Q (I.wish _) hw) (fun _ _ ⟨H', I', q⟩ => ⟨H', I'.unwish, q⟩) fun _ _ z => False.elim z
theorem PSs.nox {st : List Stmt} {t : TS} (h : PSs X.nox st t) : PSs X st t := fun pins s σ H D I hw =>
  wpAny_mono (h pins s σ H D (I.wish _) hw) (fun _ _ q => q.unwish) fun _ _ z => False.elim z
end

section
variable {X : Cx} {st : Stmt} {rest : List Stmt} {t u : TS} {e : Expr} {te : TE} {pos : Pos}
abbrev tNext : TS := fun D σ H => D.nx σ H
abbrev tSeq (t u : TS) : TS := fun D σ H => t { D with nx := u D } σ H
theorem pss_nil : PSs X [] tNext := fun _ _ σ H _ I h => wpAny_execs_nil ⟨σ, H, I, h⟩
theorem pss_cons (h1 : PS X st t) (h2 : PSs X rest u) : PSs X (st :: rest) (tSeq t u) := by
  intro pins s σ H D I h
  refine wpAny_execs_cons (thn (h1 pins s σ H { D with nx := u D } I h) fun f s1 q => ?_)
  cases f with
  | next =>
    obtain ⟨σ', H', I', q⟩ := q
    exact h2 pins s1 σ' H' D I' q
  | ret v => exact q
  | brk => exact q
  | cont => exact q
def tBreak : TS := fun D σ H => D.bk σ H
def tCont : TS := fun D σ H => D.ct σ H
/-- in a def's body nothing is shown -/
theorem Inv.quiet {pins : List (Addr × Obj)} {σ : St} {H : Hp} {s : Shared} (I : Inv X pins σ H s) : interactive X.env = false := by simp [interactive, I.ok.kind]
/-- an expression whose value is dropped -/
abbrev tDrop (te : TE) : TS := fun D σ H => te σ H fun _ H1 => D.nx σ H1
theorem ps_expr (he : PE X e te) (hs : swapsWith e none pos.line X.env = pure false := by rfl) : PS X (.Expr e pos) (tDrop te) := by
  intro pins s σ H D I h
  exact wpAny_Expr_any (thn (he pins s σ H _ I h) fun v s1 ⟨x, H1, I1, r1, q1⟩ => ⟨σ, H1, I1, q1⟩) I.quiet hs
abbrev tRet (te : TE) : TS := fun D σ H => te σ H D.rt
theorem ps_ret (he : PE X e te) : PS X (.Return (some e) pos) (tRet te) := by
  intro pins s σ H D I h
  exact wpAny_Return_some (thn (he pins s σ H _ I h) fun v s1 ⟨x, H1, I1, r1, q1⟩ => ⟨x, σ, H1, I1, r1, q1⟩)
def tRetN : TS := fun D _ H => D.rt .non H
abbrev tIfS (c : TT) (t u : TS) : TS := fun D σ H => c σ H fun b H1 => if b = true then t D σ H1 else u D σ H1
theorem ps_if {c : Expr} {a b : List Stmt} {tc : TT} (hc : PT X c tc) (ha : PSs X a t) (hb : PSs X b u) : PS X (.If c a b pos) (tIfS tc t u) := by
  intro pins s σ H D I h
  refine wpAny_If (thn (hc pins s σ H _ I h) fun d s1 ⟨H1, I1, q1⟩ => ?_)
  cases d with
  | true => exact ha pins s1 σ H1 D I1 q1
  | false => exact hb pins s1 σ H1 D I1 q1
/-- code that the proof never comes to -/
def tNever : TS := fun _ _ _ => False
end

abbrev TG := V → St → Hp → (St → Hp → Prop) → Prop
abbrev TGs := List V → St → Hp → (St → Hp → Prop) → Prop
def PG (X : Cx) (target : Expr) (t : TG) : Prop :=
  ∀ (pins : List (Addr × Obj)) (s : Shared) (σ : St) (H : Hp) (v : V) (u : Value) (Q : St → Hp → Prop), Inv X pins σ H s → RelV v u → t v σ H Q →
    wpAny (model X.prog X.w) X.A (assign target X.env u) (fun _ s' => ∃ σ' H', Inv X pins σ' H' s' ∧ Q σ' H') X.xe s
/-- several targets, one after another -/
def PGs (X : Cx) (ts : List Expr) (t : TGs) : Prop :=
  ∀ (pins : List (Addr × Obj)) (s : Shared) (σ : St) (H : Hp) (vs : List V) (us : List Value) (Q : St → Hp → Prop), Inv X pins σ H s → Vals vs us → t vs σ H Q →
    wpAny (model X.prog X.w) X.A (assignInOrder ((assignEach ts X.env).map (·.2)) us) (fun _ s' => ∃ σ' H', Inv X pins σ' H' s' ∧ Q σ' H') X.xe s
/-- o[i] = v, by values -/
abbrev TSet := V → V → V → Hp → (Hp → Prop) → Prop
def PSet (X : Cx) (t : TSet) : Prop :=
  ∀ (pins : List (Addr × Obj)) (s : Shared) (σ : St) (H : Hp) (o i v : V) (ov iv u : Value) (Q : Hp → Prop), Inv X pins σ H s → RelV o ov → RelV i iv → RelV v u → t o i v H Q →
    wpAny (model X.prog X.w) X.A (setItem ov iv u) (fun _ s' => ∃ H', Inv X pins σ H' s' ∧ Q H') X.xe s
/-- a op= b, by values -/
abbrev TIp := V → V → Hp → VK → Prop
def PIp (X : Cx) (op : Operator) (t : TIp) : Prop :=
  ∀ (pins : List (Addr × Obj)) (s : Shared) (σ : St) (H : Hp) (x y : V) (v u : Value) (Q : VK), Inv X pins σ H s → RelV x v → RelV y u → t x y H Q →
    wpAny (model X.prog X.w) X.A (inplaceOp op v u) (EP X pins σ Q) X.xe s
section
variable {X : Cx} {pos : Pos}
abbrev gName (i : Nat) : TG := fun v σ H Q => Q (σ.set i (some v)) H
theorem pg_name {i : Nat} {x : Str} (hN : X.N.Nodup) (hi : X.N[i]? = some x) (hx : Loc X.env.scope x) (hf : X.fn x = true ∨ X.env.scope.names.lookup x = some .local := by first | exact .inl rfl | exact .inr rfl | assumption) : PG X (.Name x pos) (gName i) := by
  intro pins s σ H v u Q I r h
  exact wpAny_assign_Name (store_ok I hN hi hx r (fun s' I' => ⟨_, H, I', h⟩) hf)
def gNil : TGs := fun vs σ H Q => vs = [] ∧ Q σ H
def gCons (t : TG) (u : TGs) : TGs := fun vs σ H Q => ∃ v r, vs = v :: r ∧ t v σ H fun σ' H' => u r σ' H' Q
/-- (a, b, ..) = a tuple of that length -/
def gTup (K : PySem.W.Frag) (n : Nat) (t : TGs) : TG := fun v σ H Q => ∃ a xs, v = .ref a ∧ SqT K H a xs ∧ xs.length = n ∧ t xs σ H Q
/-- o[i] = .. -/
def gSub (to ti : TE) (t : TSet) : TG := fun v σ H Q => to σ H fun o H1 => ti σ H1 fun i H2 => t o i v H2 fun H3 => Q σ H3
theorem pg_sub {o i : Expr} {to ti : TE} {t : TSet} (ho : PE X o to) (hi : PE X i ti) (hs : PSet X t)
    (ha : ∀ v, assign (.Subscript o i pos) X.env v = (do
      let ov ← holding [v] (eval o X.env)
      let iv ← holding [v, ov] (eval i X.env)
      standAt pos
      holding [v, ov, iv] (setItem ov iv v)
      release [v, ov, iv] []) := by intro _; rfl) : PG X (.Subscript o i pos) (gSub to ti t) := by
  intro pins s σ H v u Q I r h
  rw [ha]
  refine wpAny_bind (wpAny_holding (thn (ho pins s σ H _ I h) fun ov s1 ⟨x, H1, I1, r1, q1⟩ => ?_))
  refine wpAny_bind (wpAny_holding (thn (hi pins s1 σ H1 _ I1 q1) fun iv s2 ⟨y, H2, I2, r2, q2⟩ => ?_))
  refine wpAny_bind (wpAny_standAt (wpAny_bind (wpAny_holding (thn (hs pins s2 σ H2 x y v ov iv u _ I2 r1 r2 r q2) fun _ s3 ⟨H3, I3, q3⟩ => ?_))))
  exact wpAny_release ⟨σ, H3, I3, q3⟩
/-- target = value -/
abbrev tAsg (te : TE) (g : TG) : TS := fun D σ H => te σ H fun x H1 => g x σ H1 D.nx
theorem ps_asg {tg e : Expr} {te : TE} {g : TG} (he : PE X e te) (hg : PG X tg g) (hs : swapsWithSole [tg] e pos.line X.env = pure false := by rfl) (hw : swappedStores [tg] e X.env = pure none := by rfl)
    (h1 : (assignEach [tg] X.env).map (·.2) = [assign tg X.env] := by rfl) : PS X (.Assign [tg] e pos) (tAsg te g) := by
  intro pins s σ H D I h
  refine wpAny_Assign_stores (thn (he pins s σ H _ I h) fun v s1 ⟨x, H1, I1, r1, q1⟩ => ?_) hs hw
  rw [h1]
  exact thn (hg pins s1 σ H1 x v _ I1 r1 q1) fun _ s2 q => q
/-- name = value -/
theorem ps_set {i : Nat} {x : Str} {e : Expr} {te : TE} {pos' : Pos} (hN : X.N.Nodup) (hi : X.N[i]? = some x) (hx : Loc X.env.scope x) (he : PE X e te) (hs : swapsWith e (some (.Name x pos')) pos.line X.env = pure false := by rfl) (hf : X.fn x = true ∨ X.env.scope.names.lookup x = some .local := by first | exact .inl rfl | exact .inr rfl | assumption) :
    PS X (.Assign [.Name x pos'] e pos) (tAsg te (gName i)) := by
  intro pins s σ H D I h
  refine wpAny_Assign_Name (thn (he pins s σ H _ I h) fun v s1 ⟨y, H1, I1, r1, q1⟩ => ?_) hs
  exact store_ok I1 hN hi hx r1 (fun s2 I2 => ⟨_, H1, I2, q1⟩) hf
/-- a, b = x, y with plain local names: stored from the right; the pair itself is not tracked (the opening rows as in PyProof/Rows/TupAssign.lean:23) -/
def tPar (i j : Nat) (ta : TA) : TS := fun D σ H => ta σ H fun vs H1 => ∃ v w, vs = [v, w] ∧ D.nx ((σ.set i (some v)).set j (some w)) H1
/-- name op= e -/
def tAug (i : Nat) (te : TE) (ti : TIp) : TS := fun D σ H => ∃ x, σ[i]? = some (some x) ∧ te σ H fun y H1 => ti x y H1 fun z H2 => D.nx (σ.set i (some z)) H2
/-- o[i] op= e -/
def tAugS (to ti te : TE) (tget : V → V → Hp → VK → Prop) (tip : TIp) (tset : TSet) : TS := fun D σ H => to σ H fun o H1 => ti σ H1 fun i H2 => tget o i H2 fun x H3 => te σ H3 fun y H4 => tip x y H4 fun z H5 => tset o i z H5 fun H6 => D.nx σ H6
/-- o[i], by values -/
def PGet (X : Cx) (t : V → V → Hp → VK → Prop) : Prop :=
  ∀ (pins : List (Addr × Obj)) (s : Shared) (σ : St) (H : Hp) (o i : V) (ov iv : Value) (Q : VK), Inv X pins σ H s → RelV o ov → RelV i iv → t o i H Q →
    wpAny (model X.prog X.w) X.A (getItem ov iv) (EP X pins σ Q) X.xe s
/-- ints -/
def ipI (f : Int → Int → Int) : TIp := fun x y H Q => ∃ i j, x = .int i ∧ y = .int j ∧ Q (.int (f i j)) H
end

section
variable {X : Cx} {pos : Pos}
/-- the invariant W with its measure -/
def tWhile (c : TT) (tb : TS) : TS := fun D σ H => ∃ W : Nat → St → Hp → Prop, (∃ m, W m σ H) ∧ ∀ m σ H, W m σ H →
  c σ H fun b H1 => if b = true then ∃ N : St → Hp → Prop, (∀ σ' H', N σ' H' → ∃ m', m' < m ∧ W m' σ' H') ∧ tb { D with nx := N, ct := N, bk := D.nx } σ H1 else D.nx σ H1
theorem ps_while {c : Expr} {body : List Stmt} {tc : TT} {tb : TS} (hp : PassesOwn (model X.prog X.w) X.A X.env X.xe) (hc : PT X c tc) (hb : PSs X body tb) : PS X (.While c body [] pos) (tWhile tc tb) := by
  intro pins s σ H D I h
  obtain ⟨W, ⟨m0, w0⟩, turn⟩ := h
  refine wpAny_While (codeAny_whileLoop (fun n s' => ∃ σ' H', Inv X pins σ' H' s' ∧ W n σ' H') ?_ m0 ⟨σ, H, I, w0⟩)
  rintro n s1 ⟨σ1, H1, I1, w1⟩
  refine wpAny_passesOwn hp (thn (hc pins s1 σ1 H1 _ I1 (turn n σ1 H1 w1)) fun b s2 ⟨H2, I2, q2⟩ => ?_)
  cases b with
  | true =>
    obtain ⟨N, hN, q2⟩ := q2
    rw [if_pos rfl]
    refine wpAny_passesOwn hp (thn (hb pins s2 σ1 H2 _ I2 q2) fun f s3 q3 => ?_)
    cases f with
    | next =>
      obtain ⟨σ3, H3, I3, n3⟩ := q3
      obtain ⟨m', hm, w3⟩ := hN σ3 H3 n3
      exact ⟨m', hm, σ3, H3, I3, w3⟩
    | cont =>
      obtain ⟨σ3, H3, I3, n3⟩ := q3
      obtain ⟨m', hm, w3⟩ := hN σ3 H3 n3
      exact ⟨m', hm, σ3, H3, I3, w3⟩
    | brk => exact q3
    | ret v => exact q3
  | false =>
    rw [if_neg Bool.false_ne_true]
    exact wpAny_execs_nil ⟨σ1, H2, I2, q2⟩
end

/-- at turn i: it yields x (the heap may grow), or it stops -/
structure It where
  go : Nat → Hp → Prop
  yld : Nat → Hp → V → Hp → Prop
  stop : Nat → Hp → Prop
/-- the iterator's own objects may turn: they are not the frame's, not pinned, younger than the entry (or a comprehension's own) -/
def FpOk (X : Cx) (pins : List (Addr × Obj)) (H : Hp) (b : Addr) : Prop :=
  H b = none ∧ b ≠ X.env.locals ∧ b ∉ X.fs ∧ (b ∈ X.ex ∨ X.s₀.heap.objs.size ≤ b) ∧ (∀ x c, X.env.cells.lookup x = some c → c ≠ b) ∧ ∀ p ∈ X.pn ++ pins, p.1 ≠ b
theorem Inv.fpOk {X : Cx} {pins : List (Addr × Obj)} {σ : St} {H H' : Hp} {s : Shared} {b : Addr} (I : Inv X pins σ H s) (hb : s.heap.objs.size ≤ b) (hn : H' b = none) : FpOk X pins H' b := by
  refine ⟨hn, Nat.ne_of_gt (Nat.lt_of_lt_of_le I.lt hb), I.nofs hb, .inr (Nat.le_trans I.sz hb), fun x c e z => ?_, fun p hp z => ?_⟩
  · obtain ⟨v, q⟩ := I.cell x c e
    exact absurd (Nat.lt_of_lt_of_le q.lt (by rw [z]; exact hb)) (Nat.lt_irrefl _)
  · exact absurd (Nat.lt_of_lt_of_le (Heap.lt_size (I.pin p hp).1) (by rw [z]; exact hb)) (Nat.lt_irrefl _)
structure Turn (P : Program) (w : World) (K : PySem.W.Frag) (tg : Expr) (J : It) (fp : List Addr) (it : Addr) (tn : Nat → Heap → Prop) : Prop where
  mem : it ∈ fp
  obj : ∀ i h, tn i h → ∀ b ∈ fp, ∃ o, h.get? b = some o ∧ ∀ v, o.data ≠ .cell v
  keep : ∀ i h h', tn i h → (∀ b ∈ fp, ∀ o, h.get? b = some o → h'.get? b = some o) → tn i h'
  item : ∀ (X : Cx), X.prog = P → X.w = w → X.K = K → X.calm = true → ∀ (i : Nat) (pins : List (Addr × Obj)) (s : Shared) (σ : St) (H : Hp) (E : Value → Shared → Prop), Inv X pins σ H s → (∀ b ∈ fp, FpOk X pins H b) → tn i s.heap → J.go i H →
    wpAny (model P w) X.A (pyNext (.ref it)) (fun r s1 => ∃ u, r = some u ∧
      wpAny (model P w) X.A (letOwnedTupleGo tg (.ref it) u) (fun _ s2 => ∃ x H', Inv X pins σ H' s2 ∧ RelV x u ∧ J.yld i H x H' ∧ tn (i + 1) s2.heap ∧ ∀ b ∈ fp, H' b = none) E s1) E s
  done : ∀ (X : Cx), X.prog = P → X.w = w → X.K = K → X.calm = true → ∀ (i : Nat) (pins : List (Addr × Obj)) (s : Shared) (σ : St) (H : Hp) (E : Value → Shared → Prop), Inv X pins σ H s → (∀ b ∈ fp, FpOk X pins H b) → tn i s.heap → J.stop i H →
    wpAny (model P w) X.A (pyNext (.ref it)) (fun r s1 => r = none ∧ Inv X pins σ H s1) E s
  self : ∀ (A : Around) (i : Nat) (s : Shared) (Q : Value → Shared → Prop) (E : Value → Shared → Prop), tn i s.heap → Q (.ref it) s → wpAny (model P w) A (pyIter (.ref it)) Q E s
abbrev TI := St → Hp → (It → Hp → Prop) → Prop
/-- an iterator has come -/
def PIE (X : Cx) (pins : List (Addr × Obj)) (σ : St) (tg : Expr) (R : It → Hp → Prop) (itv : Value) (s2 : Shared) : Prop :=
  ∃ (it : Addr) (fp : List Addr) (tn : Nat → Heap → Prop) (J : It) (H' : Hp), itv = .ref it ∧ Inv X pins σ H' s2 ∧ Turn X.prog X.w X.K tg J fp it tn ∧ tn 0 s2.heap ∧ (∀ b ∈ fp, FpOk X pins H' b) ∧ R J H'
def PI (X : Cx) (tg iter : Expr) (wi : TI) : Prop :=
  ∀ (pins : List (Addr × Obj)) (s : Shared) (σ : St) (H : Hp) (R : It → Hp → Prop), Inv X pins σ H s → wi σ H R →
    wpAny (model X.prog X.w) X.A (eval iter X.env) (fun v s1 => wpAny (model X.prog X.w) X.A (pyIter v) (PIE X pins σ tg R) X.xe s1) X.xe s

/-- the step ahead of the store is nothing for an iterator that keeps no tuple -/
theorem go_of {M : Model} {A : Around} {E : Value → Shared → Prop} {s : Shared} {tg : Expr} {it : Addr} {u : Value} {o : Obj} {n : String} {vs : Array Value} {Q : Unit → Shared → Prop} (ho : s.heap.get? it = some o) (hc : o.cls = .type n) (hd : o.data = .fields vs)
    (hn : ["enumerate", "zip", "dict_itemiterator", "dict_reverseitemiterator", "odict_iterator", "itertools.zip_longest", "itertools.pairwise"].contains n = false) (hQ : Q () s) : wpAny M A (letOwnedTupleGo tg (.ref it) u) Q E s := by
  unfold letOwnedTupleGo
  cases tg <;> first
    | exact wpAny_pure hQ
    | (cases u <;> first
        | exact wpAny_pure hQ
        | (refine wpAny_bind (wpAny_load ho ?_)
           rw [hc, hd]
           show wpAny M A (if (["enumerate", "zip", "dict_itemiterator", "dict_reverseitemiterator", "odict_iterator", "itertools.zip_longest", "itertools.pairwise"].contains n && vs[0]? == some (rawInt _)) = true then _ else _) Q E s
           rw [if_neg (by intro h; rw [hn, Bool.false_and] at h; cases h)]
           exact wpAny_pure hQ))

/-- the list at a, as it stands at each turn (a loop may append to it) -/
def Itl (K : PySem.W.Frag) (a : Addr) : It :=
  ⟨fun i H => ∃ xs x, SqL K H a xs ∧ xs[i]? = some x, fun i H x H' => H' = H ∧ ∀ xs, SqL K H a xs → xs[i]? = some x, fun i H => ∃ xs, SqL K H a xs ∧ xs.length ≤ i⟩
def Itt (K : PySem.W.Frag) (a : Addr) : It :=
  ⟨fun i H => ∃ xs x, SqT K H a xs ∧ xs[i]? = some x, fun i H x H' => H' = H ∧ ∀ xs, SqT K H a xs → xs[i]? = some x, fun i H => ∃ xs, SqT K H a xs ∧ xs.length ≤ i⟩
/-- lo, lo + 1, .. (n of them) -/
def Itr (lo : Int) (n : Nat) : It := ⟨fun i _ => i < n, fun i H x H' => H' = H ∧ x = .int (lo + i), fun i _ => n ≤ i⟩
theorem turn_list {P : Program} {w : World} {K : PySem.W.Frag} {tg : Expr} (a it : Addr) : Turn P w K tg (Itl K a) [it] it (fun i h => h.IsListIter it a i) where
  mem := by simp
  obj := fun i h st b hb => by
    have e : b = it := by simpa using hb
    subst e
    obtain ⟨o, e, c, d⟩ := st
    exact ⟨o, e, fun v z => by rw [d] at z; cases z⟩
  keep := fun i h h' st k => st.at fun o e => k it (by simp) o e
  item := by
    intro X hP hw hK hc i pins s σ H E I hf st hg
    subst hP hw hK
    obtain ⟨xs, x, hq, hx⟩ := hg
    obtain ⟨its, rv, p, hz⟩ := I.list hq
    obtain ⟨u, hu, ru⟩ := rv.get hx
    obtain ⟨f0, f1, f2, f3, f4, f5⟩ := hf it (by simp)
    refine wpAny_pyNext_list_item st p.isList (x := u) (by simpa using hu) fun h' st' sb => ?_
    have I1 : Inv X pins σ H { s with heap := h' } := I.turned (t' := s.toks) (fun b o hb e => (sb.2 b hb).trans e) f0 f1 f3 f4 f5
    obtain ⟨o, e, c, d⟩ := id st'
    exact ⟨u, rfl, go_of (s := { s with heap := h' }) e c d (by decide) ⟨x, H, I1, ru, ⟨rfl, fun ys hy => by rw [I.list_inj hy hq]; exact hx⟩, st', fun b hb => (hf b hb).1⟩⟩
  done := by
    intro X hP hw hK hc i pins s σ H E I hf st hg
    subst hP hw hK
    obtain ⟨xs, hq, hx⟩ := hg
    obtain ⟨its, rv, p, hz⟩ := I.list hq
    obtain ⟨f0, f1, f2, f3, f4, f5⟩ := hf it (by simp)
    have hl := rv.length
    exact wpAny_pyNext_list_end (I.ok.hd hc) st p.isList (by simp; omega) fun h' eb => ⟨rfl, I.turned (t' := s.toks) (fun b o hb e => eb b o hb e) f0 f1 f3 f4 f5⟩
  self := fun _ _ _ _ _ st h => wpAny_pyIter_listiter st h
theorem turn_tuple {P : Program} {w : World} {K : PySem.W.Frag} {tg : Expr} (a it : Addr) : Turn P w K tg (Itt K a) [it] it (fun i h => h.IsTupleIter it a i) where
  mem := by simp
  obj := fun i h st b hb => by
    have e : b = it := by simpa using hb
    subst e
    obtain ⟨o, e, c, d⟩ := st
    exact ⟨o, e, fun v z => by rw [d] at z; cases z⟩
  keep := fun i h h' st k => st.at fun o e => k it (by simp) o e
  item := by
    intro X hP hw hK hc i pins s σ H E I hf st hg
    subst hP hw hK
    obtain ⟨xs, x, hq, hx⟩ := hg
    obtain ⟨its, rv, p, hz⟩ := I.tuple hq
    obtain ⟨u, hu, ru⟩ := rv.get hx
    obtain ⟨f0, f1, f2, f3, f4, f5⟩ := hf it (by simp)
    refine wpAny_pyNext_tuple_item st (show s.heap.IsTuple a its.toArray from p) (x := u) (by simpa using hu) fun h' st' sb => ?_
    have I1 : Inv X pins σ H { s with heap := h' } := I.turned (t' := s.toks) (fun b o hb e => (sb.2 b hb).trans e) f0 f1 f3 f4 f5
    obtain ⟨o, e, c, d⟩ := id st'
    exact ⟨u, rfl, go_of (s := { s with heap := h' }) e c d (by decide) ⟨x, H, I1, ru, ⟨rfl, fun ys hy => by rw [I.tuple_inj hy hq]; exact hx⟩, st', fun b hb => (hf b hb).1⟩⟩
  done := by
    intro X hP hw hK hc i pins s σ H E I hf st hg
    subst hP hw hK
    obtain ⟨xs, hq, hx⟩ := hg
    obtain ⟨its, rv, p, hz⟩ := I.tuple hq
    obtain ⟨f0, f1, f2, f3, f4, f5⟩ := hf it (by simp)
    have hl := rv.length
    exact wpAny_pyNext_tuple_end (I.ok.hd hc) st (show s.heap.IsTuple a its.toArray from p) (by simp; omega) fun h' eb => ⟨rfl, I.turned (t' := s.toks) (fun b o hb e => eb b o hb e) f0 f1 f3 f4 f5⟩
  self := fun _ _ _ _ _ st h => wpAny_pyIter_tupleiter st h
theorem turn_range {P : Program} {w : World} {K : PySem.W.Frag} {tg : Expr} (it : Addr) (lo : Int) (n : Nat) : Turn P w K tg (Itr lo n) [it] it (fun i h => IsRangeIter h it (lo + (i : Nat) * 1) ((n : Int) - (i : Nat)) 1) where
  mem := by simp
  obj := fun i h st b hb => by
    have e : b = it := by simpa using hb
    subst e
    exact ⟨_, st, fun v z => by
      have z' : Data.fields _ = Data.cell v := z
      cases z'⟩
  keep := fun i h h' st k => k it (by simp) _ st
  item := by
    intro X hP hw hK hc i pins s σ H E I hf st hg
    subst hP hw hK
    obtain ⟨f0, f1, f2, f3, f4, f5⟩ := hf it (by simp)
    have W := Walks.range (prog := X.prog) (w := X.w) (I.ok.hd hc) it lo 1 n
    refine W.item i s _ _ hg st fun v h' tk hv st' kk => ?_
    obtain ⟨t, rfl⟩ := hv
    have I1 : Inv X pins σ H { s with heap := h', toks := tk } := I.turned (fun b o hb e => kk b o (by simpa using hb) e) f0 f1 f3 f4 f5
    refine ⟨_, rfl, go_of (s := { s with heap := h', toks := tk }) (n := "range_iterator") st' rfl rfl (by decide) ⟨.int (lo + i), H, I1, ⟨t, ?_⟩, ⟨rfl, rfl⟩, st', fun b hb => (hf b hb).1⟩⟩
    rw [Int.mul_one]
  done := by
    intro X hP hw hK hc i pins s σ H E I hf st hg
    subst hP hw hK
    obtain ⟨f0, f1, f2, f3, f4, f5⟩ := hf it (by simp)
    exact wpAny_pyNext_range_end (I.ok.hd hc) st (by have : n ≤ i := hg; omega) fun h' eb => ⟨rfl, I.turned (t' := s.toks) (fun b o hb e => eb b o hb e) f0 f1 f3 f4 f5⟩
  self := fun _ _ _ _ _ st h => wpAny_pyIter_rangeiter st h
end L2

namespace L2
open PySem PySem.Spec PyProof.Rows
section
variable {X : Cx} {tg : Expr}
def iList (K : PySem.W.Frag) (tl : TE) : TI := fun σ H R => tl σ H fun x H1 => ∃ a, x = .ref a ∧ (∃ xs, SqL K H1 a xs) ∧ R (Itl K a) H1
def iTup (K : PySem.W.Frag) (tl : TE) : TI := fun σ H R => tl σ H fun x H1 => ∃ a, x = .ref a ∧ (∃ xs, SqT K H1 a xs) ∧ R (Itt K a) H1
/-- a range object just made, walked -/
theorem range_it {pins : List (Addr × Obj)} {σ : St} {H : Hp} {s : Shared} {R : It → Hp → Prop} {E : Value → Shared → Prop} {lo hi : Int} {t u v : Tok} {tk : Nat} (I : Inv X pins σ H s) (h1 : -(2 ^ 62) ≤ lo) (h2 : lo < 2 ^ 62) (h3 : -(2 ^ 62) ≤ hi) (h4 : hi < 2 ^ 62)
    (q : R (Itr lo (hi - lo).toNat) H) : wpAny (model X.prog X.w) X.A (pyIter (.ref s.heap.objs.size)) (PIE X pins σ tg R) E { s with heap := s.heap.push { cls := .type "range", data := .fields #[.int lo t, .int hi u, .int 1 v] }, toks := tk } := by
  refine wpAny_pyIter_range (IsRange.new ..) (small_one h1 h2 h3 h4) ?_
  have I1 : Inv X pins σ H { s with heap := s.heap.push { cls := .type "range", data := .fields #[.int lo t, .int hi u, .int 1 v] }, toks := tk } := I.kept fun b o e => Heap.get?_push_of_some _ e
  refine ⟨(s.heap.push { cls := .type "range", data := .fields #[.int lo t, .int hi u, .int 1 v] }).objs.size, [(s.heap.push { cls := .type "range", data := .fields #[.int lo t, .int hi u, .int 1 v] }).objs.size], _, _, H, rfl,
    I1.kept (t' := tk) fun b o e => Heap.get?_push_of_some _ e, turn_range _ lo (hi - lo).toNat, ?_, fun b hb => ?_, q⟩
  · have e1 : lo + ((0 : Nat) : Int) * 1 = lo := by simp
    have e2 : (((hi - lo).toNat : Nat) : Int) - ((0 : Nat) : Int) = Builtin.Range.rangeSize lo hi 1 := by rw [rangeSize_one]; split <;> omega
    show IsRangeIter _ _ (lo + ((0 : Nat) : Int) * 1) ((((hi - lo).toNat : Nat) : Int) - ((0 : Nat) : Int)) 1
    rw [e1, e2]
    exact Heap.get?_push_size _ rfl
  · have e : b = (s.heap.push { cls := .type "range", data := .fields #[.int lo t, .int hi u, .int 1 v] }).objs.size := by simpa using hb
    subst e
    exact I1.fpOk (Nat.le_refl _) (I1.hok.fresh (Nat.le_refl _))
def iRng1 (ta : TA) : TI := fun σ H R => ta σ H fun vs H1 => ∃ j : Int, vs = [.int j] ∧ -(2 ^ 62) ≤ j ∧ j < 2 ^ 62 ∧ R (Itr 0 j.toNat) H1
def iRng2 (ta : TA) : TI := fun σ H R => ta σ H fun vs H1 => ∃ i j : Int, vs = [.int i, .int j] ∧ (-(2 ^ 62) ≤ i ∧ i < 2 ^ 62 ∧ -(2 ^ 62) ≤ j ∧ j < 2 ^ 62) ∧ R (Itr i (j - i).toNat) H1
theorem pi_range1 {a : Expr} {ta : TA} {p pos : Pos} (hg : Gl X "range") (hm : X.mg "range" = none) (ha : PA X [a] ta) (hs : starEach [a] X.env = [(false, eval a X.env)] := by rfl) : PI X tg (.Call (.Name "range" p) [a] [] pos) (iRng1 ta) := by
  intro pins s σ H R I h
  refine Call_ (ld_blt I hg hm boot_range (PyProof.Rows.callWith_type1 (thn (ha pos pins s σ H _ I h) fun us s1 ⟨vs, H1, I1, r1, q1⟩ => ?_) hs rfl))
  obtain ⟨j, e, q1, q2, q⟩ := q1
  subst e
  cases r1 with
  | cons r rr =>
    cases rr
    obtain ⟨t, rfl⟩ := r
    exact call_range_1 (range_it I1 (by omega) (by omega) q1 q2 (by simpa using q))
/-- W: the invariant by the turn and a measure; N: what the body is to reach -/
def tFor (wi : TI) (g : TG) (tb : TS) : TS := fun D σ H => wi σ H fun J H1 => ∃ W : Nat → Nat → St → Hp → Prop, (∃ m, W 0 m σ H1) ∧ ∀ i m σ H, W i m σ H →
  (J.stop i H ∧ D.nx σ H) ∨ (J.go i H ∧ ∃ N : St → Hp → Prop, (∀ σ' H', N σ' H' → ∃ m', m' < m ∧ W (i + 1) m' σ' H') ∧ ∀ x H', J.yld i H x H' → g x σ H' fun σ2 H2 => tb { D with nx := N, ct := N, bk := D.nx } σ2 H2)
/-- the records at fp as they stand -/
def pinsAt (fp : List Addr) (h : Heap) : List (Addr × Obj) := fp.filterMap fun b => (h.get? b).map fun o => (b, o)
theorem mem_pinsAt {fp : List Addr} {h : Heap} {b : Addr} {o : Obj} (hb : b ∈ fp) (e : h.get? b = some o) : (b, o) ∈ pinsAt fp h := List.mem_filterMap.mpr ⟨b, hb, by rw [e]; rfl⟩
theorem of_pinsAt {fp : List Addr} {h : Heap} {p : Addr × Obj} (hp : p ∈ pinsAt fp h) : p.1 ∈ fp ∧ h.get? p.1 = some p.2 := by
  obtain ⟨b, hb, e⟩ := List.mem_filterMap.mp hp
  cases q : h.get? b with
  | none => rw [q] at e; cases e
  | some o =>
    rw [q] at e
    have e' : (b, o) = p := Option.some.inj e
    subst e'
    exact ⟨hb, q⟩
theorem Inv.pinned {pins : List (Addr × Obj)} {σ : St} {H : Hp} {s : Shared} {fp : List Addr} (I : Inv X pins σ H s) (hf : ∀ b ∈ fp, FpOk X pins H b) (ho : ∀ b ∈ fp, ∃ o, s.heap.get? b = some o ∧ ∀ v, o.data ≠ .cell v) : Inv X (pins ++ pinsAt fp s.heap) σ H s :=
  I.pins_of fun p hp => (List.mem_append.mp hp).elim (fun z => I.pin p (List.mem_append_right _ z)) fun z => by
    obtain ⟨hb, e⟩ := of_pinsAt z
    obtain ⟨f0, f1, f2, _⟩ := hf p.1 hb
    obtain ⟨o, e', d⟩ := ho p.1 hb
    rw [e] at e'; cases e'
    exact ⟨e, f0, f1, f2, d⟩
theorem Inv.unpinned {pins pl : List (Addr × Obj)} {σ : St} {H : Hp} {s : Shared} (I : Inv X (pins ++ pl) σ H s) : Inv X pins σ H s := I.pins_of fun p hp => I.pin p (List.mem_append_right _ (List.mem_append_left _ hp))
theorem ps_for {iter : Expr} {body : List Stmt} {wi : TI} {g : TG} {tb : TS} {pos : Pos} (hp : PassesOwn (model X.prog X.w) X.A X.env X.xe) (hc : X.calm = true) (hi : PI X tg iter wi) (hg : PG X tg g) (hb : PSs X body tb)
    (hs : ∀ x, foldedSetIterable iter X.env x = pure x := by intro _; rfl) : PS X (.For tg iter body [] pos) (tFor wi g tb) := by
  intro pins s σ H D I h
  refine wpAny_For (thn (hi pins s σ H _ I h) fun v s1 h1 => thn h1 fun itv s2 h2 => ?_) hs
  obtain ⟨it, fp, tn, J, H2, e, I2, T, st2, f2, W, ⟨m0, w0⟩, turn⟩ := h2
  subst e
  -- what stays true of the iterator's objects through the loop
  have stat : ∀ {H' : Hp}, (∀ b ∈ fp, H' b = none) → ∀ b ∈ fp, FpOk X pins H' b := fun hn b hb => ⟨hn b hb, (f2 b hb).2⟩
  refine codeAny_forLoop_any (fun n s' => ∃ i σ' H', Inv X pins σ' H' s' ∧ tn i s'.heap ∧ (∀ b ∈ fp, H' b = none) ∧ W i n σ' H') ?_ m0 ⟨0, σ, H2, I2, st2, fun b hb => (f2 b hb).1, w0⟩
  rintro n s3 ⟨i, σ3, H3, I3, st3, fr3, w3⟩
  rcases turn i n σ3 H3 w3 with ⟨stop, qn⟩ | ⟨go, N, hN, step⟩
  · refine wpAny_passesOwn hp (thn (T.done X rfl rfl rfl hc i pins s3 σ3 H3 X.xe I3 (stat fr3) st3 stop) fun r s4 ⟨hr, I4⟩ => ?_)
    subst hr
    exact wpAny_execs_nil ⟨σ3, H3, I4, qn⟩
  · refine wpAny_passesOwn hp (thn (T.item X rfl rfl rfl hc i pins s3 σ3 H3 X.xe I3 (stat fr3) st3 go) fun r s4 ⟨u, hr, h4⟩ => ?_)
    subst hr
    refine wpAny_passesOwn hp (thn h4 fun _ s5 ⟨x, H5, I5, r5, y5, st5, fr5⟩ => ?_)
    have I5' := I5.pinned (stat fr5) (T.obj _ _ st5)
    refine wpAny_passesOwn hp (thn (hg _ s5 σ3 H5 x u _ I5' r5 (step x H5 y5)) fun _ s6 ⟨σ6, H6, I6, q6⟩ => ?_)
    refine wpAny_passesOwn hp (thn (hb _ s6 σ6 H6 _ I6 q6) fun f s7 q7 => ?_)
    have again : ∀ {σ7 : St} {H7 : Hp}, Inv X (pins ++ pinsAt fp s5.heap) σ7 H7 s7 → N σ7 H7 → ∃ m, m < n ∧ ∃ i σ' H', Inv X pins σ' H' s7 ∧ tn i s7.heap ∧ (∀ b ∈ fp, H' b = none) ∧ W i m σ' H' := fun {σ7 H7} I7 n7 => by
      obtain ⟨m', hm, w7⟩ := hN σ7 H7 n7
      refine ⟨m', hm, i + 1, σ7, H7, I7.unpinned, T.keep _ _ _ st5 fun b hb o e => (I7.pin (b, o) (List.mem_append_right _ (List.mem_append_right _ (mem_pinsAt hb e)))).1, fun b hb => ?_, w7⟩
      obtain ⟨o, e, d⟩ := T.obj _ _ st5 b hb
      exact (I7.pin (b, o) (List.mem_append_right _ (List.mem_append_right _ (mem_pinsAt hb e)))).2.1
    cases f with
    | next => obtain ⟨σ7, H7, I7, n7⟩ := q7; exact again I7 n7
    | cont => obtain ⟨σ7, H7, I7, n7⟩ := q7; exact again I7 n7
    | brk => obtain ⟨σ7, H7, I7, q7⟩ := q7; exact ⟨σ7, H7, I7.unpinned, q7⟩
    | ret v => obtain ⟨x7, σ7, H7, I7, r7, q7⟩ := q7; exact ⟨x7, σ7, H7, I7.unpinned, r7, q7⟩
end

end L2

namespace L2
open PySem PySem.Spec PyProof.Rows

abbrev R2 := V → V → Hp → VK → Prop
/-- a two-place operation on values: f is binaryOp op, inplaceOp op or compareOp op -/
def OpR (X : Cx) (f : Value → Value → Sem Value) (r : R2) : Prop :=
  ∀ (pins : List (Addr × Obj)) (s : Shared) (σ : St) (H : Hp) (x y : V) (v u : Value) (Q : VK), Inv X pins σ H s → RelV x v → RelV y u → r x y H Q →
    wpAny (model X.prog X.w) X.A (f v u) (EP X pins σ Q) X.xe s
/-- a one-place operation -/
def UnR (X : Cx) (f : Value → Sem Value) (r : V → Hp → VK → Prop) : Prop :=
  ∀ (pins : List (Addr × Obj)) (s : Shared) (σ : St) (H : Hp) (x : V) (v : Value) (Q : VK), Inv X pins σ H s → RelV x v → r x H Q →
    wpAny (model X.prog X.w) X.A (f v) (EP X pins σ Q) X.xe s
/-- a call of a value that is known (a builtin, a type) with values -/
def CallR (X : Cx) (f : Value) (r : List V → Hp → VK → Prop) : Prop :=
  ∀ (pins : List (Addr × Obj)) (s : Shared) (σ : St) (H : Hp) (xs : List V) (us : List Value) (Q : VK), Inv X pins σ H s → Vals xs us → r xs H Q →
    wpAny (model X.prog X.w) X.A (call f us) (EP X pins σ Q) X.xe s
/-- a value's truth -/
def TruR (X : Cx) (r : V → Hp → (Bool → Hp → Prop) → Prop) : Prop :=
  ∀ (pins : List (Addr × Obj)) (s : Shared) (σ : St) (H : Hp) (x : V) (v : Value) (Q : Bool → Hp → Prop), Inv X pins σ H s → RelV x v → r x H Q →
    wpAny (model X.prog X.w) X.A (truthy v) (TP X pins σ Q) X.xe s

abbrev tOp (r : R2) (ta tb : TE) : TE := fun σ H Q => ta σ H fun x H1 => tb σ H1 fun y H2 => r x y H2 Q
abbrev tUn (r : V → Hp → VK → Prop) (ta : TE) : TE := fun σ H Q => ta σ H fun x H1 => r x H1 Q
/-- ints in, under C, and a value out -/
def rI (C : Int → Int → Prop) (g : Int → Int → V) : R2 := fun x y H Q => ∃ i j, x = .int i ∧ y = .int j ∧ C i j ∧ Q (g i j) H
def rI0 (g : Int → Int → V) : R2 := fun x y H Q => ∃ i j, x = .int i ∧ y = .int j ∧ Q (g i j) H
def rU (g : Int → V) : V → Hp → VK → Prop := fun x H Q => ∃ i, x = .int i ∧ Q (g i) H

section
variable {X : Cx} {a b c : Expr} {ta tb tc : TE} {pos : Pos}

theorem binT (ha : PE X a ta) (hb : PE X b tb) {pins : List (Addr × Obj)} {s : Shared} {σ : St} {H : Hp} {R : V → V → Hp → Prop} (I : Inv X pins σ H s)
    (h : ta σ H fun x H1 => tb σ H1 fun y H2 => R x y H2) {Q : Value → Shared → Prop} {f : Value → Value → Sem Value}
    (hf : ∀ v u s2 x y H2, Inv X pins σ H2 s2 → RelV x v → RelV y u → R x y H2 → wpAny (model X.prog X.w) X.A (f v u) Q X.xe s2) :
    wpAny (model X.prog X.w) X.A (eval a X.env) (fun v s₁ => wpAny (model X.prog X.w) X.A (eval b X.env) (fun u s₂ => wpAny (model X.prog X.w) X.A (f v u) Q X.xe s₂) X.xe s₁) X.xe s := by
  refine thn (ha pins s σ H _ I h) fun v s1 ⟨x, H1, I1, r1, q1⟩ => ?_
  refine thn (hb pins s1 σ H1 _ I1 q1) fun u s2 ⟨y, H2, I2, r2, q2⟩ => ?_
  exact hf v u s2 x y H2 I2 r1 r2 q2

theorem pe_op {op : Operator} {r : R2} (ho : OpR X (binaryOp op) r) (ha : PE X a ta) (hb : PE X b tb) : PE X (.BinOp a op b pos) (tOp r ta tb) := by
  intro pins s σ H Q I h
  exact wpAny_BinOp (binT ha hb I h fun v u s2 x y H2 I2 rx ry q => ho pins s2 σ H2 x y v u Q I2 rx ry q)
theorem opI {f : Value → Value → Sem Value} {C : Int → Int → Prop} {g : Int → Int → Int}
    (rule : ∀ (i j : Int) (t u : Tok) (s : Shared) (Q : Value → Shared → Prop) (E : Value → Shared → Prop), C i j → Q (.int (g i j) s.toks) { s with toks := s.toks + 1 } → wpAny (model X.prog X.w) X.A (f (.int i t) (.int j u)) Q E s) :
    OpR X f (rI C fun i j => .int (g i j)) := by
  intro pins s σ H x y v u Q I rx ry h
  obtain ⟨i, j, rfl, rfl, hc, q⟩ := h
  obtain ⟨t, rfl⟩ := rx
  obtain ⟨t', rfl⟩ := ry
  exact rule i j t t' s _ _ hc ⟨.int (g i j), H, I.tok _, ⟨_, rfl⟩, q⟩
theorem opI0 {f : Value → Value → Sem Value} {g : Int → Int → Int}
    (rule : ∀ (i j : Int) (t u : Tok) (s : Shared) (Q : Value → Shared → Prop) (E : Value → Shared → Prop), Q (.int (g i j) s.toks) { s with toks := s.toks + 1 } → wpAny (model X.prog X.w) X.A (f (.int i t) (.int j u)) Q E s) :
    OpR X f (rI0 fun i j => .int (g i j)) := by
  intro pins s σ H x y v u Q I rx ry h
  obtain ⟨i, j, rfl, rfl, q⟩ := h
  obtain ⟨t, rfl⟩ := rx
  obtain ⟨t', rfl⟩ := ry
  exact rule i j t t' s _ _ ⟨.int (g i j), H, I.tok _, ⟨_, rfl⟩, q⟩
theorem opB0 {f : Value → Value → Sem Value} {g : Int → Int → Bool}
    (rule : ∀ (i j : Int) (t u : Tok) (s : Shared) (Q : Value → Shared → Prop) (E : Value → Shared → Prop), Q (.bool (g i j)) s → wpAny (model X.prog X.w) X.A (f (.int i t) (.int j u)) Q E s) :
    OpR X f (rI0 fun i j => .bl (g i j)) := by
  intro pins s σ H x y v u Q I rx ry h
  obtain ⟨i, j, rfl, rfl, q⟩ := h
  obtain ⟨t, rfl⟩ := rx
  obtain ⟨t', rfl⟩ := ry
  exact rule i j t t' s _ _ ⟨.bl (g i j), H, I, rfl, q⟩

def CDiv (i j : Int) : Prop := 0 < j ∧ j < 1073741824
def CDivN (i j : Int) : Prop := j ≠ 0 ∧ j.natAbs < 1073741824
def CPow (i j : Int) : Prop := 0 ≤ j ∧ j ≤ 1000000 ∧ i.natAbs < 2 ^ 64
def CMul (i j : Int) : Prop := (-(2 ^ 64) < i ∧ i < 2 ^ 64) ∨ (-(2 ^ 64) < j ∧ j < 2 ^ 64)
theorem CMul.ok {i j : Int} (h : CMul i j) : IntMulOk i j := by
  rcases h with ⟨h1, h2⟩ | ⟨h1, h2⟩
  · exact .of_left (intBits_le_64 h1 h2)
  · exact .of_right (intBits_le_64 h1 h2)
theorem op_add : OpR X (binaryOp .Add) (rI0 fun i j => .int (i + j)) := opI0 fun _ _ _ _ _ _ _ q => add_int q
theorem op_sub : OpR X (binaryOp .Sub) (rI0 fun i j => .int (i - j)) := opI0 fun _ _ _ _ _ _ _ q => sub_int q
theorem op_mul : OpR X (binaryOp .Mult) (rI CMul fun i j => .int (i * j)) := opI fun _ _ _ _ _ _ _ hc q => mul_int q hc.ok
/-- // by a positive divisor -/
theorem op_fdiv : OpR X (binaryOp .FloorDiv) (rI CDiv fun i j => .int (i / j)) := opI fun i j _ _ _ _ _ hc q => by
  have h1 : (0 : Int) < j := hc.1
  have h2 : j < 1073741824 := hc.2
  exact floordiv_int (by omega) (by rw [Int.fdiv_eq_ediv_of_nonneg i (by omega)]; exact q) (.inl (PyProof.noPylong_small (by omega)))
/-- % by a positive divisor of any size -/
theorem op_mod : OpR X (binaryOp .Mod) (rI (fun _ j => 0 < j) fun i j => .int (i % j)) := opI fun i j _ _ _ _ _ hc q => by
  have h1 : (0 : Int) < j := hc
  exact mod_int' (by omega) (by rw [Int.fmod_eq_emod_of_nonneg i (by omega)]; exact q)
end

/-- the scalars that == tells apart as data does -/
def scal : V → V → Bool
  | .non, .non => true | .non, .int _ => true | .int _, .non => true | .non, .bl _ => true | .bl _, .non => true | .non, .str _ => true | .str _, .non => true
  | .int _, .int _ => true | .bl _, .bl _ => true | .str _, .str _ => true | .byt _, .byt _ => true
  | .int _, .str _ => true | .str _, .int _ => true | .bl _, .str _ => true | .str _, .bl _ => true
  | _, _ => false
def rEq : R2 := fun x y H Q => scal x y = true ∧ Q (.bl (decide (x = y))) H
def rNe : R2 := fun x y H Q => scal x y = true ∧ Q (.bl (!decide (x = y))) H

theorem dec_int {i j : Int} : decide (V.int i = V.int j) = (i == j) := by
  rw [Bool.eq_iff_iff]
  simp
theorem dec_bl {i j : Bool} : decide (V.bl i = V.bl j) = (i == j) := by
  rw [Bool.eq_iff_iff]
  simp
theorem dec_str {i j : Str} : decide (V.str i = V.str j) = (i == j) := by
  rw [Bool.eq_iff_iff]
  simp
theorem dec_byt {i j : Array UInt8} : decide (V.byt i = V.byt j) = (i.toList == j.toList) := by
  rw [Bool.eq_iff_iff]
  cases i
  cases j
  simp

section
variable {X : Cx} {a b c : Expr} {ta tb tc : TE} {pos : Pos}
theorem fin_bl {pins : List (Addr × Obj)} {σ : St} {H : Hp} {s : Shared} {Q : VK} {k k' : Bool} (I : Inv X pins σ H s) (q : Q (.bl k) H) (e : k = k') : EP X pins σ Q (.bool k') s := by
  subst e
  exact ⟨.bl k, H, I, rfl, q⟩
theorem op_eq : OpR X (compareOp .Eq) rEq := by
  intro pins s σ H x y v u Q I rx ry h
  obtain ⟨hs, q⟩ := h
  cases x with
  | non =>
    cases rx
    cases y with
    | non => cases ry; exact PySem.EqNone.eq_none_none (fin_bl I q (by simp))
    | bl j => cases ry; exact PySem.EqNone.eq_none_bool (fin_bl I q (by simp))
    | int j => obtain ⟨t', rfl⟩ := ry; exact PySem.EqNone.eq_none_int (fin_bl I q (by simp))
    | str j => obtain ⟨t', rfl⟩ := ry; exact PySem.EqNone.eq_none_str (fin_bl I q (by simp))
    | _ => exact absurd (show false = true from hs) Bool.false_ne_true
  | bl i =>
    cases rx
    cases y with
    | non => cases ry; exact PySem.EqNone.eq_bool_none (fin_bl I q (by simp))
    | bl j => cases ry; exact eq_bool (fin_bl I q dec_bl)
    | str j => obtain ⟨t', rfl⟩ := ry; exact PySem.EqMixed.eq_bool_str (fin_bl I q (by simp))
    | _ => exact absurd (show false = true from hs) Bool.false_ne_true
  | int i =>
    obtain ⟨t, rfl⟩ := rx
    cases y with
    | non => cases ry; exact PySem.EqNone.eq_int_none (fin_bl I q (by simp))
    | int j => obtain ⟨t', rfl⟩ := ry; exact eq_int (fin_bl I q dec_int)
    | str j => obtain ⟨t', rfl⟩ := ry; exact PySem.EqMixed.eq_int_str (fin_bl I q (by simp))
    | _ => exact absurd (show false = true from hs) Bool.false_ne_true
  | str i =>
    obtain ⟨t, rfl⟩ := rx
    cases y with
    | non => cases ry; exact PySem.EqNone.eq_str_none (fin_bl I q (by simp))
    | bl j => cases ry; exact PySem.EqMixed.eq_str_bool (fin_bl I q (by simp))
    | int j => obtain ⟨t', rfl⟩ := ry; exact PySem.EqMixed.eq_str_int (fin_bl I q (by simp))
    | str j => obtain ⟨t', rfl⟩ := ry; exact eq_str (fin_bl I q dec_str)
    | _ => exact absurd (show false = true from hs) Bool.false_ne_true
  | byt i =>
    obtain ⟨t, rfl⟩ := rx
    cases y with
    | byt j => obtain ⟨t', rfl⟩ := ry; exact PySem.W.eq_bytes (fin_bl I q dec_byt)
    | _ => exact absurd (show false = true from hs) Bool.false_ne_true
  | _ => cases y <;> exact absurd (show false = true from hs) Bool.false_ne_true
theorem op_ne : OpR X (compareOp .NotEq) rNe := by
  intro pins s σ H x y v u Q I rx ry h
  obtain ⟨hs, q⟩ := h
  cases x with
  | non =>
    cases rx
    cases y with
    | non => cases ry; exact PySem.EqNone.ne_none_none (fin_bl I q (by simp))
    | bl j => cases ry; exact PySem.EqNone.ne_none_bool (fin_bl I q (by simp))
    | int j => obtain ⟨t', rfl⟩ := ry; exact PySem.EqNone.ne_none_int (fin_bl I q (by simp))
    | str j => obtain ⟨t', rfl⟩ := ry; exact PySem.EqNone.ne_none_str (fin_bl I q (by simp))
    | _ => exact absurd (show false = true from hs) Bool.false_ne_true
  | bl i =>
    cases rx
    cases y with
    | non => cases ry; exact PySem.EqNone.ne_bool_none (fin_bl I q (by simp))
    | bl j => cases ry; exact ne_bool (fin_bl I q (congrArg not dec_bl))
    | str j => obtain ⟨t', rfl⟩ := ry; exact PySem.EqMixed.ne_bool_str (fin_bl I q (by simp))
    | _ => exact absurd (show false = true from hs) Bool.false_ne_true
  | int i =>
    obtain ⟨t, rfl⟩ := rx
    cases y with
    | non => cases ry; exact PySem.EqNone.ne_int_none (fin_bl I q (by simp))
    | int j => obtain ⟨t', rfl⟩ := ry; exact ne_int (fin_bl I q (congrArg not dec_int))
    | str j => obtain ⟨t', rfl⟩ := ry; exact PySem.EqMixed.ne_int_str (fin_bl I q (by simp))
    | _ => exact absurd (show false = true from hs) Bool.false_ne_true
  | str i =>
    obtain ⟨t, rfl⟩ := rx
    cases y with
    | non => cases ry; exact PySem.EqNone.ne_str_none (fin_bl I q (by simp))
    | bl j => cases ry; exact PySem.EqMixed.ne_str_bool (fin_bl I q (by simp))
    | int j => obtain ⟨t', rfl⟩ := ry; exact PySem.EqMixed.ne_str_int (fin_bl I q (by simp))
    | str j => obtain ⟨t', rfl⟩ := ry; exact ne_str (fin_bl I q (congrArg not dec_str))
    | _ => exact absurd (show false = true from hs) Bool.false_ne_true
  | byt i =>
    obtain ⟨t, rfl⟩ := rx
    cases y with
    | byt j => obtain ⟨t', rfl⟩ := ry; exact PySem.W.ne_bytes (fin_bl I q (congrArg not dec_byt))
    | _ => exact absurd (show false = true from hs) Bool.false_ne_true
  | _ => cases y <;> exact absurd (show false = true from hs) Bool.false_ne_true

theorem op_lt : OpR X (compareOp .Lt) (rI0 fun i j => .bl (decide (i < j))) := opB0 fun _ _ _ _ _ _ _ q => lt_int q
theorem op_le : OpR X (compareOp .LtE) (rI0 fun i j => .bl (decide (i ≤ j))) := opB0 fun _ _ _ _ _ _ _ q => le_int q
theorem op_gt : OpR X (compareOp .Gt) (rI0 fun i j => .bl (decide (j < i))) := opB0 fun _ _ _ _ _ _ _ q => gt_int q
/-- is None, is not None: the right side a value none -/
theorem op_isN : OpR X (compareOp .Is) (fun x y H Q => y = .non ∧ Q (.bl (decide (x = .non))) H) := by
  intro pins s σ H x y v u Q I rx ry h
  obtain ⟨rfl, q⟩ := h
  cases ry
  refine is_none_gen (fin_bl I q ?_)
  cases x <;> first
    | (cases rx; rfl)
    | (obtain ⟨t, rfl⟩ := rx; rfl)
/-- is, is not of two objects that are tracked lists or instances -/
def isObj : HO → Bool
  | .lst _ => true
  | .ins _ _ _ => true
  | _ => false
/-- two rules for one operation: by cases -/
theorem OpR.or {f : Value → Value → Sem Value} {r r' : R2} (h : OpR X f r) (h' : OpR X f r') : OpR X f (fun x y H Q => r x y H Q ∨ r' x y H Q) := by
  intro pins s σ H x y v u Q I rx ry q
  rcases q with q | q
  · exact h pins s σ H x y v u Q I rx ry q
  · exact h' pins s σ H x y v u Q I rx ry q

theorem nomark (b : Expr) {op : CmpOp} (h : op ≠ .In := by decide) (h2 : op ≠ .NotIn := by decide) : behindInMarks op b = false := by
  have e1 : (op == CmpOp.In) = false := by cases op <;> first | rfl | exact absurd rfl h
  have e2 : (op == CmpOp.NotIn) = false := by cases op <;> first | rfl | exact absurd rfl h2
  cases b <;> simp [behindInMarks, e1, e2]
/-- a comparison as a value; hm: nomark b, or (for in, not in) by with_unfolding_all rfl -/
theorem pe_cmpR {op : CmpOp} {r : R2} (ho : OpR X (compareOp op) r) (ha : PE X a ta) (hb : PE X b tb) (hm : behindInMarks op b = false) : PE X (.Compare a [op] [b] pos) (tOp r ta tb) := by
  intro pins s σ H Q I h
  exact wpAny_Compare1 (binT ha hb I h fun v u s2 x y H2 I2 rx ry q => ho pins s2 σ H2 x y v u Q I2 rx ry q) hm
/-- a reading of a value as a test -/
abbrev tTest (t : TE) : TT := fun σ H Q => t σ H fun x H' => ∃ k, x = .bl k ∧ Q k H'
theorem pt_cmpR {op : CmpOp} {r : R2} (ho : OpR X (compareOp op) r) (ha : PE X a ta) (hb : PE X b tb) (hm : behindInMarks op b = false) : PT X (.Compare a [op] [b] pos) (tTest (tOp r ta tb)) := by
  intro pins s σ H Q I h
  refine wpAny_isTrue_Compare1 (thn (ha pins s σ H _ I h) fun v s1 ⟨x, H1, I1, r1, q1⟩ => thn (hb pins s1 σ H1 _ I1 q1) fun u s2 ⟨y, H2, I2, r2, q2⟩ =>
    thn (ho pins s2 σ H2 x y v u _ I2 r1 r2 q2) fun c s3 ⟨z, H3, I3, r3, k, e, q3⟩ => ?_) hm
  subst e
  cases r3
  exact wpAny_truthy_bool ⟨H3, I3, q3⟩
/-- a op1 b op2 c -/
def tChain (r r' : R2) (ta tb tc : TE) : TE := fun σ H Q => ta σ H fun x H1 => tb σ H1 fun y H2 => r x y H2 fun z H3 => ∃ k, z = .bl k ∧
  (if k = true then tc σ H3 fun w' H4 => r' y w' H4 Q else Q (.bl false) H3)
theorem pe_chain {op op' : CmpOp} {r r' : R2} (ho : OpR X (compareOp op) r) (ho' : OpR X (compareOp op') r') (ha : PE X a ta) (hb : PE X b tb) (hc : PE X c tc)
    (hm : lastMarks [op, op'] [b, c] = false := by with_unfolding_all rfl) : PE X (.Compare a [op, op'] [b, c] pos) (tChain r r' ta tb tc) := by
  intro pins s σ H Q I h
  refine Compare_chain (thn (ha pins s σ H _ I h) fun v s1 ⟨x, H1, I1, r1, q1⟩ => chain_link (thn (hb pins s1 σ H1 _ I1 q1) fun u s2 ⟨y, H2, I2, r2, q2⟩ =>
    thn (ho pins s2 σ H2 x y v u _ I2 r1 r2 q2) fun d s3 ⟨z, H3, I3, r3, k, e, q3⟩ => ?_)) hm
  subst e
  cases r3
  refine wpAny_truthy_bool ?_
  cases k with
  | false => exact ite_ff ⟨.bl false, H3, I3, rfl, q3⟩
  | true => exact ite_tt (chain_last (thn (hc pins s3 σ H3 _ I3 q3) fun w' s4 ⟨z', H4, I4, r4, q4⟩ => ho' pins s4 σ H4 y z' u w' Q I4 r2 r4 q4))
theorem pt_chain {op op' : CmpOp} {r r' : R2} (ho : OpR X (compareOp op) r) (ho' : OpR X (compareOp op') r') (ha : PE X a ta) (hb : PE X b tb) (hc : PE X c tc)
    (hm : lastMarks [op, op'] [b, c] = false := by with_unfolding_all rfl) : PT X (.Compare a [op, op'] [b, c] pos) (tTest (tChain r r' ta tb tc)) := by
  intro pins s σ H Q I h
  refine isTrue_chain (thn (ha pins s σ H _ I h) fun v s1 ⟨x, H1, I1, r1, q1⟩ => test_link (thn (hb pins s1 σ H1 _ I1 q1) fun u s2 ⟨y, H2, I2, r2, q2⟩ =>
    thn (ho pins s2 σ H2 x y v u _ I2 r1 r2 q2) fun d s3 ⟨z, H3, I3, r3, k, e, q3⟩ => ?_)) hm
  subst e
  cases r3
  refine wpAny_truthy_bool ?_
  cases k with
  | false =>
    obtain ⟨k', e', q'⟩ := q3
    cases e'
    exact ite_ff ⟨H3, I3, q'⟩
  | true =>
    refine ite_tt (test_last (thn (hc pins s3 σ H3 _ I3 q3) fun w' s4 ⟨z', H4, I4, r4, q4⟩ => thn (ho' pins s4 σ H4 y z' u w' _ I4 r2 r4 q4) fun d' s5 ⟨z2, H5, I5, r5, k2, e2, q5⟩ => ?_))
    subst e2
    cases r5
    exact wpAny_truthy_bool ⟨H5, I5, q5⟩

/-- a value's truth by the abstract heap -/
def TruV (K : PySem.W.Frag) (x : V) (H : Hp) (k : Bool) : Prop :=
  match x with
  | .non => k = false
  | .bl b => k = b
  | .int i => k = (i != 0)
  | .str y => y.length ≤ sizeLine ∧ k = ((y.length : Int) != 0)
  | .byt y => y.size ≤ sizeLine ∧ k = ((y.size : Int) != 0)
  | .ref p => (∃ xs, SqL K H p xs ∧ k = !xs.isEmpty) ∨ (∃ xs, SqT K H p xs ∧ k = !xs.isEmpty) ∨ ∃ kvs, H p = some (.dK kvs) ∧ k = !kvs.isEmpty
  | _ => False
theorem isEmpty_kv {κ : Type} {kvs : List (κ × V)} {vs : List (κ × Value)} (r : KV kvs vs) : (!vs.isEmpty) = !kvs.isEmpty := by
  cases r <;> rfl
theorem isEmpty_of {xs : List V} {its : List Value} (r : Vals xs its) : (!its.toArray.isEmpty) = !xs.isEmpty := by
  cases r <;> simp
theorem line63 : (sizeLine : Nat) < 2 ^ 63 := by rw [sizeLine_eq]; decide
theorem tru_ok : TruR X (fun x H Q => ∃ k, TruV X.K x H k ∧ Q k H) := by
  intro pins s σ H x v Q I rx h
  obtain ⟨k, e, q⟩ := h
  have hl := line63
  have hs : sizeLine = 16777216 := sizeLine_eq
  cases x with
  | non =>
    cases rx
    have e' : k = false := e
    subst e'
    exact truthy_none ⟨H, I, q⟩
  | bl b =>
    cases rx
    have e' : k = b := e
    subst e'
    exact wpAny_truthy_bool ⟨H, I, q⟩
  | int i =>
    obtain ⟨t, rfl⟩ := rx
    have e' : k = (i != 0) := e
    subst e'
    exact PySem.P.truthy_int ⟨H, I, q⟩
  | str y =>
    obtain ⟨t, rfl⟩ := rx
    obtain ⟨hy, e'⟩ : y.length ≤ sizeLine ∧ k = ((y.length : Int) != 0) := e
    subst e'
    exact PySem.P.truthy_str (by omega) ⟨H, I.tok _, q⟩
  | byt y =>
    obtain ⟨t, rfl⟩ := rx
    obtain ⟨hy, e'⟩ : y.size ≤ sizeLine ∧ k = ((y.size : Int) != 0) := e
    subst e'
    exact PySem.W.truthy_bytes (by omega) ⟨H, I.tok _, q⟩
  | ref p =>
    cases rx
    have e' : (∃ xs, SqL X.K H p xs ∧ k = !xs.isEmpty) ∨ (∃ xs, SqT X.K H p xs ∧ k = !xs.isEmpty) ∨ ∃ kvs, H p = some (.dK kvs) ∧ k = !kvs.isEmpty := e
    rcases e' with ⟨xs, hx, e'⟩ | ⟨xs, hx, e'⟩ | ⟨kvs, hx, e'⟩
    · subst e'
      obtain ⟨its, r, pl, hz⟩ := I.list hx
      have hlen := r.length
      exact wpAny_truthy_list pl.isList (by simp only [List.size_toArray]; omega) ⟨H, I.tok _, by rw [isEmpty_of r]; exact q⟩
    · subst e'
      obtain ⟨its, r, pl, hz⟩ := I.tuple hx
      have hlen := r.length
      exact truthy_tuple pl (by simp only [List.size_toArray]; omega) ⟨H, I.tok _, by rw [isEmpty_of r]; exact q⟩
    · subst e'
      obtain ⟨hz, hS, vs, r, m⟩ : kvs.length ≤ sizeLine ∧ (p == sysModules) = false ∧ ∃ vs, KV kvs vs ∧ s.heap.DictOf (mixKind X.prog X.w) p vs := I.hok p _ hx
      have hlen : kvs.length = vs.length := Paired.length r
      exact wpAny_truthy_dict hS m (by omega) ⟨H, I.tok _, by rw [isEmpty_kv r]; exact q⟩
  | _ => exact (show False from e).elim
/-- any expression whose test is its value's truth (a name, a call, a subscript, a field ..: he by fun _ => rfl) -/
theorem pt_truth (ha : PE X a ta) (he : ∀ whole, isTrue a X.env whole = (do let v ← whole; standAt a.pos; holding [v] (truthy v))) :
    PT X a (fun σ H Q => ta σ H fun x H' => ∃ k, TruV X.K x H' k ∧ Q k H') := by
  intro pins s σ H Q I h
  exact isTrue_plain (thn (ha pins s σ H _ I h) fun v s1 ⟨x, H1, I1, r1, q1⟩ => tru_ok pins s1 σ H1 x v Q I1 r1 q1) (he _)

theorem op_add_str : OpR X (binaryOp .Add) (fun x y H Q => ∃ i j, x = .str i ∧ y = .str j ∧ i.length + j.length ≤ sizeLine ∧ Q (.str (i ++ j)) H) := by
  intro pins s σ H x y v u Q I rx ry h
  obtain ⟨i, j, rfl, rfl, hz, q⟩ := h
  obtain ⟨t, rfl⟩ := rx
  obtain ⟨t', rfl⟩ := ry
  exact add_str (fun t' tk => ⟨.str (i ++ j), H, I.tok _, ⟨_, rfl⟩, q⟩) hz
def PlainIxT (b : Expr) : Prop := ∀ o i, subscripted b false o i = operate [o, i] (getItem o i)
theorem vals1 {x : V} {us : List Value} (r : Vals [x] us) : ∃ u, us = [u] ∧ RelV x u := by
  cases r with
  | cons r1 r2 => cases r2; exact ⟨_, rfl, r1⟩
theorem vals2 {x y : V} {us : List Value} (r : Vals [x, y] us) : ∃ u w', us = [u, w'] ∧ RelV x u ∧ RelV y w' := by
  cases r with
  | cons r1 r2 =>
    cases r2 with
    | cons r3 r4 => cases r4; exact ⟨_, _, rfl, r1, r3⟩
/-- len of a str, a bytes, a list, a tuple -/
def LenV (K : PySem.W.Frag) (x : V) (H : Hp) (n : Nat) : Prop :=
  match x with
  | .str y => y.length ≤ sizeLine ∧ n = y.length
  | .byt y => y.size ≤ sizeLine ∧ n = y.size
  | .ref p => (∃ xs, SqL K H p xs ∧ n = xs.length) ∨ ∃ xs, SqT K H p xs ∧ n = xs.length
  | _ => False
end
end L2

namespace L2
open PySem PySem.Spec PyProof.Rows

structure ObjM (h : Heap) (x dx C : Addr) (mA : Str → Option Value) : Prop where
  obj : h.get? x = some (PySem.W.instObj C dx)
  ns : h.Ns1 dx mA
  ne : dx ≠ x

section
variable {prog : Program} {w : World} {A : Around} {E : Value → Shared → Prop} {s : Shared} {K : PySem.W.Frag} {x dx C f : Addr} {mA : Str → Option Value} {name : Str} {v : Value}

end

def putF (f : Str) (v : V) : List (Str × V) → List (Str × V)
  | [] => [(f, v)]
  | (g, x) :: r => if g = f then (g, v) :: r else (g, x) :: putF f v r
section
variable {P : Program} {w : World} {H H' : Hp} {h h' : Heap} {a C dx : Addr} {fs fs' : List (Str × V)}
end

structure Cls (K : PySem.W.Frag) (C : Addr) : Prop where
  pg : PySem.W.plainGet K C Str.empty = true
  hd : PySem.W.hasDictIn K C = true
  po : PySem.W.plainOver K C = true
  sa : PySem.W.findIn K (.ref C) "__setattr__" = some (some (.builtin "object.__setattr__"))
theorem Cls.get {K : PySem.W.Frag} {C : Addr} (c : Cls K C) (f : Str) : PySem.W.plainGet K C f = true := c.pg
/-- no class of it has the name -/
def NoAttr (K : PySem.W.Frag) (C : Addr) (f : Str) : Prop := PySem.W.findIn K (.ref C) f = some none
/-- a constant of the class -/
structure Con (K : PySem.W.Frag) (C : Addr) (f : Str) (v : V) (u : Value) : Prop where
  at_ : PySem.W.findIn K (.ref C) f = some (some u)
  rel : RelV v u
  get : PySem.W.specialIn K u "__get__" = some none
  cp : PySem.W.copiedNames.contains f = false
/-- a method: a plain def of the class or of one above it -/
structure Meth (K : PySem.W.Frag) (C : Addr) (m : Str) (f : Addr) : Prop where
  at_ : PySem.W.findIn K (.ref C) m = some (some (.ref f))
  fn : PySem.W.isFn K (.ref f) = true
  kp : PySem.W.keepIn K (.ref f) = true

section
variable {X : Cx} {pins : List (Addr × Obj)} {σ : St} {H : Hp} {s : Shared} {a C dx : Addr} {fs : List (Str × V)} {f : Str} {v : V} {A : Around} {E : Value → Shared → Prop}

/-- a new instance, tracked, without attributes -/
theorem Inv.made (I : Inv X pins σ H s) : Inv X pins σ (upd (upd H s.heap.objs.size (.own (s.heap.objs.size + 1))) (s.heap.objs.size + 1) (.ins C s.heap.objs.size []))
    { s with heap := (s.heap.push PySem.W.emptyDict).push (PySem.W.instObj C s.heap.objs.size) } := by
  have e1 : (s.heap.push PySem.W.emptyDict).get? s.heap.objs.size = some PySem.W.emptyDict := Heap.get?_push_size s.heap rfl
  have e2 : ((s.heap.push PySem.W.emptyDict).push (PySem.W.instObj C s.heap.objs.size)).get? (s.heap.objs.size + 1) = some (PySem.W.instObj C s.heap.objs.size) := by
    have := Heap.get?_push_size (s.heap.push PySem.W.emptyDict) (o := PySem.W.instObj C s.heap.objs.size) rfl
    rwa [Heap.size_push] at this
  have e3 : (s.heap.push PySem.W.emptyDict).Ns s.heap.objs.size (fun _ => none) := ⟨PySem.W.emptyDict, #[], _, e1, rfl, (fun e he => absurd he (by simp)), fun _ => rfl⟩
  have I1 := I.laid (a := s.heap.objs.size) (o := .own (s.heap.objs.size + 1)) (h' := s.heap.push PySem.W.emptyDict) (t' := s.toks) (fun b u q => Heap.get?_push_of_some _ q) (Nat.le_refl _) ⟨_, e1⟩
  refine I1.laid (a := s.heap.objs.size + 1) (o := .ins C s.heap.objs.size []) (t' := s.toks) (fun b u q => Heap.get?_push_of_some _ q) (Nat.le_of_eq (Heap.size_push _ _)) ?_
  have ne : s.heap.objs.size ≠ s.heap.objs.size + 1 := Nat.ne_of_lt (Nat.lt_succ_self _)
  refine ⟨by rw [upd_ne ne, upd_same], Nat.zero_le _, ne, e2, fun _ => none, (Heap.Ns1.of_empty e3).at fun o q => Heap.get?_push_of_some _ q, fun _ => True.intro, fun y hy => absurd rfl hy⟩

end

/-- e.f, an attribute of the instance -/
def tFld (K : PySem.W.Frag) (ta : TE) (f : Str) : TE := fun σ H Q => ta σ H fun x H1 => ∃ a C dx fs v, x = .ref a ∧ H1 a = some (.ins C dx fs) ∧ Cls K C ∧ NoAttr K C f ∧ fs.lookup f = some v ∧ Q v H1
/-- e.f, a constant of the class -/
def tCon (K : PySem.W.Frag) (ta : TE) (f : Str) : TE := fun σ H Q => ta σ H fun x H1 => ∃ a C dx fs v u, x = .ref a ∧ H1 a = some (.ins C dx fs) ∧ Cls K C ∧ Con K C f v u ∧ fs.lookup f = none ∧ Q v H1
/-- e.f = value -/
def sFld (K : PySem.W.Frag) (ta tv : TE) (f : Str) : TS := fun D σ H => tv σ H fun y H1 => ta σ H1 fun x H2 => ∃ a C dx fs, x = .ref a ∧ H2 a = some (.ins C dx fs) ∧ Cls K C ∧ NoAttr K C f ∧ fs.length < 1000 ∧
  D.nx σ (upd H2 a (.ins C dx (putF f y fs)))
/-- an augmented operator on two values -/
def InOp (X : Cx) (op : Operator) (rd : V → V → Hp → VK → Prop) : Prop :=
  ∀ (pins : List (Addr × Obj)) (s : Shared) (σ : St) (H : Hp) (x y : V) (u v : Value) (Q : VK), Inv X pins σ H s → RelV x u → RelV y v → rd x y H Q → wpAny (model X.prog X.w) X.A (inplaceOp op u v) (EP X pins σ Q) X.xe s
/-- e.f op= value -/
def sFldAug (K : PySem.W.Frag) (ta tv : TE) (rd : V → V → Hp → VK → Prop) (f : Str) : TS := fun D σ H => ta σ H fun x H1 => ∃ a C dx fs v, x = .ref a ∧ H1 a = some (.ins C dx fs) ∧ Cls K C ∧ NoAttr K C f ∧ fs.lookup f = some v ∧
  tv σ H1 fun y H2 => rd v y H2 fun z H3 => ∃ dx' fs', H3 a = some (.ins C dx' fs') ∧ fs'.length < 1000 ∧ D.nx σ (upd H3 a (.ins C dx' (putF f z fs')))

section
variable {X : Cx} {o e value : Expr} {f : Str} {pos pos' tpos : Pos} {ta tv : TE}
def rAdd : V → V → Hp → VK → Prop := fun x y H Q => ∃ i j, x = .int i ∧ y = .int j ∧ Q (.int (i + j)) H
def rSub : V → V → Hp → VK → Prop := fun x y H Q => ∃ i j, x = .int i ∧ y = .int j ∧ Q (.int (i - j)) H
end

section
variable {X : Cx} {pins : List (Addr × Obj)} {σ : St} {H : Hp} {s : Shared} {A : Around} {E : Value → Shared → Prop} {Q : Value → Shared → Prop} {c : Value} {b : Bool}
/-- the type of a value, as the fragment's deciders take it; for an instance its class -/
inductive TyOf (K : PySem.W.Frag) (H : Hp) : V → Value → Prop where
  | non : TyOf K H .non (.type "NoneType")
  | bl (x : Bool) : TyOf K H (.bl x) (.type "bool")
  | int (i : Int) : TyOf K H (.int i) (.type "int")
  | str (x : Str) : TyOf K H (.str x) (.type "str")
  | flt (x : UInt64) : TyOf K H (.flt x) (.type "float")
  | lst {a : Addr} {xs : List V} (e : H a = some (.lst xs)) : TyOf K H (.ref a) (.type "list")
  | frz {a : Addr} {o : Obj} {xs : List V} (e : H a = some (.frz o (.lst xs))) : TyOf K H (.ref a) (.type "list")
  | tup {a : Addr} {xs : List V} (e : H a = some (.tup xs)) : TyOf K H (.ref a) (.type "tuple")
  | dK {a : Addr} {kvs : List (Key × V)} (e : H a = some (.dK kvs)) : TyOf K H (.ref a) (.type "dict")
  | dT {a : Addr} {kvs : List (List Key × V)} (e : H a = some (.dT kvs)) : TyOf K H (.ref a) (.type "dict")
  | ins {a C dx : Addr} {fs : List (Str × V)} (e : H a = some (.ins C dx fs)) (cl : Cls K C) (ha : PySem.W.findIn K (.ref C) "__class__" = some (some (.builtin "object.__class__")))
      (hn : PySem.W.specialIn K (.builtin "object.__class__") "__get__" = some (some (.builtin "getset_descriptor.__get__"))) (htk : PySem.W.takesIn K (.builtin "object.__class__") = some true)
      (hm : PySem.W.mroIn K C (.type "object") = some true) : TyOf K H (.ref a) (.ref C)
end
end L2

namespace L2
open PySem PySem.Spec PyProof.Rows

structure Room (k : Nat) (A : Around) : Prop where
  hd : A.handled = none
  dp : A.depth + 3 * k + 5 < recursionLimit
  un : A.units + 16 * k + 200 < cLine
theorem Room.mono {j k : Nat} {A : Around} (r : Room k A) (h : j ≤ k) : Room j A := ⟨r.hd, by have := r.dp; omega, by have := r.un; omega⟩
theorem Room.deeper {k : Nat} {A : Around} (r : Room (k + 1) A) (env : Env) : Room k (A.deeper env) :=
  ⟨r.hd, by have := r.dp; show A.depth + 1 + 3 * k + 5 < _; omega, by have := r.un; show A.units + 3 + 16 * k + 200 < _; omega⟩
theorem Room.in1 {k : Nat} {A : Around} (r : Room (k + 1) A) : Room k A.in1 :=
  ⟨r.hd, by have := r.dp; show A.depth + 3 * k + 5 < _; omega, by have := r.un; show A.units + 1 + 16 * k + 200 < _; omega⟩
theorem Room.depth {k : Nat} {A : Around} (r : Room k A) : A.depth < recursionLimit := by have := r.dp; omega
theorem Room.units {k : Nat} {A : Around} (r : Room k A) : A.units + 64 < cLine := by have := r.un; omega
abbrev tNil : TA := fun _ H Q => Q [] H
abbrev tCons (ta : TE) (tr : TA) : TA := fun σ H Q => ta σ H fun x H1 => tr σ H1 fun xs H2 => Q (x :: xs) H2
section
variable {X : Cx} {e : Expr} {es : List Expr} {te : TE} {t : TA} {pos : Pos}
theorem pa_nil : PA X [] tNil := fun _ _ _ _ H Q I h => Calls.spliced_nil ⟨[], H, I, .nil, h⟩
theorem pa_cons (ha : PE X e te) (hr : PA X es t) (hs : starEach (e :: es) X.env = (false, eval e X.env) :: starEach es X.env := by rfl) : PA X (e :: es) (tCons te t) := by
  intro pos pins s σ H Q I h
  rw [hs]
  show wpAny _ _ (spliced ((false, eval e X.env) :: backTo pos (starEach es X.env))) _ _ s
  refine Calls.spliced_cons (thn (ha pins s σ H _ I h) fun u s1 ⟨x, H1, I1, r1, q1⟩ => ?_)
  exact thn (hr pos pins s1 σ H1 _ I1 q1) fun us s2 ⟨xs, H2, I2, r2, q2⟩ => ⟨x :: xs, H2, I2, .cons r1 r2, q2⟩

/-- a tuple, a list of written items -/
abbrev tTup (t : TA) : TE := fun σ H Q => t σ H fun xs H1 => xs.length ≤ sizeLine ∧ ∀ p, H1 p = none → Q (.ref p) (upd H1 p (.tup xs))
abbrev tLst (t : TA) : TE := fun σ H Q => t σ H fun xs H1 => xs.length ≤ sizeLine ∧ ∀ p, H1 p = none → Q (.ref p) (upd H1 p (.lst xs))
theorem pe_tup {x1} (h : PA X es t) : PE X (.Tuple es x1 pos) (tTup t) := by
  intro pins s σ H Q I hq
  refine wpAny_Tuple_spliced (thn (h pos pins s σ H _ I hq) fun us s1 ⟨xs, H1, I1, r, z, q⟩ => ⟨by rw [← r.length]; exact z, ?_⟩)
  have hf : H1 s1.heap.objs.size = none := I1.hok.fresh (Nat.le_refl _)
  refine ⟨.ref s1.heap.objs.size, upd H1 s1.heap.objs.size (.tup xs), I1.laid (t' := s1.toks) (fun b u e => Heap.get?_push_of_some _ e) (Nat.le_refl _) ?_, rfl, q _ hf⟩
  exact ⟨z, us, r, ⟨_, Heap.get?_push_size _ rfl, rfl, _, rfl⟩⟩
theorem pe_lst (h : PA X es t) : PE X (.List es pos) (tLst t) := by
  intro pins s σ H Q I hq
  refine wpAny_List_spliced (thn (h pos pins s σ H _ I hq) fun us s1 ⟨xs, H1, I1, r, z, q⟩ => ⟨by rw [← r.length]; exact z, ?_⟩)
  have hf : H1 s1.heap.objs.size = none := I1.hok.fresh (Nat.le_refl _)
  refine ⟨.ref s1.heap.objs.size, upd H1 s1.heap.objs.size (.lst xs), I1.laid (t' := s1.toks) (fun b u e => Heap.get?_push_of_some _ e) (Nat.le_refl _) ?_, rfl, q _ hf⟩
  exact ⟨z, us, 0, r, Heap.get?_push_size _ rfl⟩
end

/-- a def's promise: the bound arguments in the parameters' order, the heap, the wanted end, the wanted exception -/
abbrev Sp := List V → Hp → VK → XK → Prop
/-- how an exception lies behind a call (file 08 gives it): the callers' frames, abstract heap and state ahead of the call, the wish, the exception, the state -/
abbrev CXT := List Env → Hp → Shared → XK → Value → Shared → Prop

/-- the state at a call -/
structure Env0 (P : Program) (w : World) (K : PySem.W.Frag) (mg : Str → Option Value) (base : Heap) (A : Around) (outer : List Env) (s : Shared) (H : Hp) : Prop where
  frames : A.frames = some outer
  mod : Mod K mg base
  bs : ∀ b o, base.get? b = some o → s.heap.get? b = some o ∧ H b = none
  bsz : base.objs.size ≤ s.heap.objs.size
  funs : s.heap.FunFrames base outer
  frf : ∀ b ∈ frs outer, H b = none
  hok : HOk P w H s.heap
  bare : AllBare s.gens
/-- a call's end -/
def CE (outer : List Env) (P : Program) (w : World) (H : Hp) (s : Shared) (Q : VK) (u : Value) (s' : Shared) : Prop :=
  ∃ v H', s'.os = s.os ∧ AllBare s'.gens ∧ Un (frs outer) [] H H' s.heap s'.heap ∧ HOk P w H' s'.heap ∧ RelV v u ∧ Q v H'
def CR (CX : CXT) (outer : List Env) (P : Program) (w : World) (H : Hp) (s : Shared) (Q : VK) (E : XK) (r : Result) (s' : Shared) : Prop :=
  match r with
  | .ok (.ret u) => CE outer P w H s Q u s'
  | .ok _ => False
  | .error e => CX outer H s E e s'
structure FnOk (P : Program) (w : World) (K : PySem.W.Frag) (mg : Str → Option Value) (base : Heap) (CX : CXT) (k : Nat) (f : Addr) (fd : FuncData) (ps : List Str) (sp : Sp) : Prop where
  len : ∀ vs H Q E, sp vs H Q E → vs.length = ps.length
  run : ∀ (A : Around) (outer : List Env) (s : Shared) (H : Hp) (args : Args) (us : List Value) (vs : List V) (Q : VK) (E : XK), Room k A → Env0 P w K mg base A outer s H → BindsTo s fd args (ps.zip us) → Vals vs us → sp vs H Q E →
    codeAny (model P w) A (.call (.ref f) args) (CR CX outer P w H s Q E) s
theorem FnOk.mono {P : Program} {w : World} {K : PySem.W.Frag} {mg : Str → Option Value} {base : Heap} {CX : CXT} {j k : Nat} {f : Addr} {fd : FuncData} {ps : List Str} {sp : Sp} (F : FnOk P w K mg base CX j f fd ps sp) (h : j ≤ k) :
    FnOk P w K mg base CX k f fd ps sp := ⟨F.len, fun A outer s H args us vs Q E hr => F.run A outer s H args us vs Q E (hr.mono h)⟩
/-- a weaker promise -/
theorem FnOk.imp {P : Program} {w : World} {K : PySem.W.Frag} {mg : Str → Option Value} {base : Heap} {CX : CXT} {k : Nat} {f : Addr} {fd : FuncData} {ps : List Str} {sp sp' : Sp} (F : FnOk P w K mg base CX k f fd ps sp)
    (h : ∀ vs H Q E, sp' vs H Q E → sp vs H Q E) : FnOk P w K mg base CX k f fd ps sp' :=
  ⟨fun vs H Q E q => F.len vs H Q E (h _ _ _ _ q), fun A outer s H args us vs Q E hr he hb hv hs => F.run A outer s H args us vs Q E hr he hb hv (h _ _ _ _ hs)⟩

theorem Env0.in1 {P : Program} {w : World} {K : PySem.W.Frag} {mg : Str → Option Value} {base : Heap} {A : Around} {outer : List Env} {s : Shared} {H : Hp} (e : Env0 P w K mg base A outer s H) :
    Env0 P w K mg base A.in1 outer s H := ⟨e.frames, e.mod, e.bs, e.bsz, e.funs, e.frf, e.hok, e.bare⟩

section
variable {X : Cx} {pins : List (Addr × Obj)} {σ : St} {H : Hp} {s s' : Shared}
/-- from a body: what a callee wants -/
theorem Inv.env0 (I : Inv X pins σ H s) : Env0 X.prog X.w X.K X.mg X.base X.A X.stack s H :=
  ⟨I.ok.frames, I.ok.mod, I.bs, Nat.le_trans I.ok.bsz I.sz, I.stack, I.stkFree, I.hok, I.bare⟩
/-- behind a call -/
theorem Inv.after {Q : VK} {u : Value} (I : Inv X pins σ H s) (h : CE X.stack X.prog X.w H s Q u s') : EP X pins σ Q u s' := by
  obtain ⟨v, H', os, bare, un, hok, r, q⟩ := h
  obtain ⟨hh, g, d, t, os'⟩ := s'
  obtain rfl : os' = s.os := os
  exact ⟨v, H', I.call (h' := hh) (g' := g) (d' := d) (t' := t) (ch := []) un hok bare (fun b z => absurd z (by simp)), r, q⟩
end

/-- f(..): the written arguments, then the defaults dvs; E: what is wanted of an exception -/
abbrev tCall (sp : Sp) (dvs : List V) (E : XK) (t : TA) : TE := fun σ H Q => t σ H fun vs H1 => sp (vs ++ dvs) H1 Q E
/-- o.m(..) of an instance of the class at C -/
def tMeth (C : Addr) (m : Str) (sp : Sp) (dvs : List V) (E : XK) (ta : TE) (t : TA) : TE := fun σ H Q => ta σ H fun x H1 => ∃ a dx fs, x = .ref a ∧ H1 a = some (.ins C dx fs) ∧ fs.lookup m = none ∧
  t σ H1 fun vs H2 => sp (x :: (vs ++ dvs)) H2 Q E
/-- C(..): a new instance and its dict, then __init__ -/
def tMake (C : Addr) (sp : Sp) (dvs : List V) (E : XK) (t : TA) : TE := fun σ H Q => t σ H fun vs H1 => ∀ x dx, H1 x = none → H1 dx = none → dx ≠ x →
  sp (.ref x :: (vs ++ dvs)) (upd (upd H1 dx (.own x)) x (.ins C dx [])) (fun v H2 => v = .non ∧ Q (.ref x) H2) E

/-- how the parameters are bound: us the positional arguments, kw the keywords' values by name, ds the defaults that fill up -/
def Binds (K : PySem.W.Frag) (fd : FuncData) (ps : List Str) (ds : List Value) : Prop :=
  ∀ (s : Shared) (us : List Value), K.In s.heap → (us ++ ds).length = ps.length → BindsTo s fd ⟨us, []⟩ (ps.zip (us ++ ds))
/-- every parameter is given -/
theorem Binds.all {K : PySem.W.Frag} {fd : FuncData} {ps : List Str} (h : ∀ us : List Value, us.length = ps.length → bindArgs fd ⟨us, []⟩ = pure (ps.zip us)) : Binds K fd ps [] := fun s us _ hl => by
  rw [List.append_nil] at hl ⊢
  exact .of_eq (h us hl)

/-- an exception of a callee reaches what this body wants of exceptions -/
def Passes (CX : CXT) (X : Cx) (E : XK) : Prop := ∀ (pins : List (Addr × Obj)) (σ : St) (H : Hp) (s : Shared) (e : Value) (s' : Shared), Inv X pins σ H s → CX X.stack H s E e s' → X.xe e s'

section
variable {X : Cx} {CX : CXT} {k : Nat} {f C : Addr} {fd : FuncData} {ps : List Str} {sp : Sp} {dvs : List V} {ds : List Value} {E : XK} {x m : Str} {p pos apos : Pos} {e o : Expr} {es : List Expr} {ta : TE} {t : TA}

/-- the callee runs -/
theorem run_fn {pins : List (Addr × Obj)} {σ : St} {H : Hp} {s : Shared} {Q : VK} {us : List Value} {vs : List V} (F : FnOk X.prog X.w X.K X.mg X.base CX k f fd ps sp) (hr : Room k X.A) (hb : Binds X.K fd ps ds) (hd : Vals dvs ds) (hx : Passes CX X E)
    (I : Inv X pins σ H s) (r : Vals vs us) (h : sp (vs ++ dvs) H Q E) : wpAny (model X.prog X.w) X.A (call (.ref f) us) (EP X pins σ Q) X.xe s := by
  have r2 : Vals (vs ++ dvs) (us ++ ds) := r.append hd
  have hl : (us ++ ds).length = ps.length := by rw [← r2.length]; exact F.len _ _ _ _ h
  refine wpAny_call (codeAny_mono (F.run X.A X.stack s H ⟨us, []⟩ (us ++ ds) (vs ++ dvs) Q E hr I.env0 (hb s us I.kIn hl) r2 h) fun r s' hq => ?_)
  cases r with
  | error e => exact hx pins σ H s e s' I hq
  | ok fl =>
    cases fl with
    | ret u => exact I.after hq
    | next => exact False.elim hq
    | brk => exact False.elim hq
    | cont => exact False.elim hq

theorem pe_call (F : FnOk X.prog X.w X.K X.mg X.base CX k f fd ps sp) (hr : Room k X.A) (hg : Gl X x) (hm : X.mg x = some (.ref f)) (hk : PySem.W.keepIn X.K (.ref f) = true) (hb : Binds X.K fd ps ds) (hd : Vals dvs ds) (hx : Passes CX X E)
    (ha : PA X (e :: es) t) (hdb : (x == ("__debug__" : Str)) = false := by decide) (he : starEach (e :: es) X.env = (false, eval e X.env) :: starEach es X.env := by rfl) (hpl : (backTo pos (starEach es X.env)).any (·.1) = false := by rfl) :
    PE X (.Call (.Name x p) (e :: es) [] pos) (tCall sp dvs E t) := by
  intro pins s σ H Q I h
  refine wpAny_Call_Name_kw (ld_glob I hg hm ?_ hdb)
  refine PySem.W.callWith_K (h₀ := X.base) I.ok.mod.kin hk (thn (ha pos pins s σ H _ I h) fun us s1 ⟨vs, H1, I1, r, q⟩ => ⟨I1.kIn, ?_⟩) he hpl
  exact run_fn F hr hb hd hx I1 r q
/-- what a class must have to be made -/
structure Mk (K : PySem.W.Frag) (C f : Addr) : Prop where
  makes : PySem.W.makesIn K C = true
  init : PySem.W.findIn K (.ref C) "__init__" = some (some (.ref f))
  fn : PySem.W.isFn K (.ref f) = true
  kp : PySem.W.keepIn K (.ref C) = true

end

/-- the values of the keywords, from the left -/
def PK (X : Cx) (kws : List Keyword) (t : TA) : Prop :=
  ∀ (pos : Pos) (pins : List (Addr × Obj)) (s : Shared) (σ : St) (H : Hp) (Q : List V → Hp → Prop), Inv X pins σ H s → t σ H Q → wpAny (model X.prog X.w) X.A (evalAll ((backToKw pos (keywordEach kws X.env)).map (·.2))) (AP X pins σ Q) X.xe s
section
variable {X : Cx} {CX : CXT} {k : Nat} {f C : Addr} {fd : FuncData} {ps ks : List Str} {sp : Sp} {E : XK} {x m : Str} {p pos apos kpos : Pos} {e o : Expr} {es : List Expr} {kws : List Keyword} {te ta : TE} {t tk : TA} {nm : Option Str}
/-- how a call with keywords binds: g puts the positional values us and the keywords' values ws (names ks) in the parameters' order, defaults among them -/
structure KBinds (K : PySem.W.Frag) (fd : FuncData) (ps ks : List Str) (g : List Value → List Value → List Value) (gV : List V → List V → List V) : Prop where
  to : ∀ (s : Shared) (us ws : List Value), K.In s.heap → (g us ws).length = ps.length → BindsTo s fd ⟨us, ks.zip ws⟩ (ps.zip (g us ws))
  rel : ∀ {vs : List V} {us : List Value} {zs : List V} {ws : List Value}, Vals vs us → Vals zs ws → Vals (gV vs zs) (g us ws)
def tCallK (sp : Sp) (gV : List V → List V → List V) (E : XK) (t tk : TA) : TE := fun σ H Q => t σ H fun vs H1 => tk σ H1 fun zs H2 => sp (gV vs zs) H2 Q E
variable {g : List Value → List Value → List Value} {gV : List V → List V → List V}
end

/-- names: the parameters first -/
structure FnScope (N P : List Str) (sc : Scope) : Prop where
  kind : sc.kind = .function
  co : sc.isCoroutine = false
  gen : sc.isGenerator = false
  nd : N.Nodup
  pre : N.take P.length = P
  par : ∀ x ∈ P, sc.names.lookup x = some .local ∨ sc.names.lookup x = some .cell
  nofree : ∀ y ∈ sc.names, y.2 ≠ .free

theorem bindL_out {kindOf : Str → Option NameKind} {x : Str} : ∀ {binds : List (Str × Value)} {m : Str → Option Value}, (∀ v, (x, v) ∉ binds) → bindL kindOf binds m x = m x
  | [], _, _ => rfl
  | (n, v) :: r, m, h => by
    unfold bindL
    rw [bindL_out fun w hw => h w (List.mem_cons_of_mem _ hw)]
    split
    · have : x ≠ n := by rintro rfl; exact h v List.mem_cons_self
      simp [this]
    · rfl
theorem bindC_out {kindOf : Str → Option NameKind} {x : Str} : ∀ {binds : List (Str × Value)} {m : Str → Option Value}, (∀ v, (x, v) ∉ binds) → bindC kindOf binds m x = m x
  | [], _, _ => rfl
  | (n, v) :: r, m, h => by
    unfold bindC
    rw [bindC_out fun w hw => h w (List.mem_cons_of_mem _ hw)]
    split
    · rfl
    · have : x ≠ n := by rintro rfl; exact h v List.mem_cons_self
      simp [this]
theorem bindL_get {kindOf : Str → Option NameKind} {x : Str} {v : Value} : ∀ {P : List Str} {vs : List Value} {i : Nat} {m : Str → Option Value}, P.Nodup → P[i]? = some x → vs[i]? = some v → kindOf x = some .local →
    bindL kindOf (P.zip vs) m x = some v
  | [], _, _, _, _, h, _, _ => by simp at h
  | _ :: _, [], _, _, _, _, h, _ => by simp at h
  | p :: P, w :: vs, 0, m, nd, h1, h2, hk => by
    simp at h1 h2; subst h1; subst h2
    show bindL kindOf ((p, w) :: P.zip vs) m p = _
    unfold bindL
    rw [bindL_out fun v hv => (List.nodup_cons.mp nd).1 (List.of_mem_zip hv).1, if_pos hk]
    simp
  | p :: P, w :: vs, i + 1, m, nd, h1, h2, hk => by
    show bindL kindOf ((p, w) :: P.zip vs) m x = _
    unfold bindL
    exact bindL_get (i := i) (List.nodup_cons.mp nd).2 (by simpa using h1) (by simpa using h2) hk
theorem bindC_get {kindOf : Str → Option NameKind} {x : Str} {v : Value} : ∀ {P : List Str} {vs : List Value} {i : Nat} {m : Str → Option Value}, P.Nodup → P[i]? = some x → vs[i]? = some v → kindOf x ≠ some .local →
    bindC kindOf (P.zip vs) m x = some v
  | [], _, _, _, _, h, _, _ => by simp at h
  | _ :: _, [], _, _, _, _, h, _ => by simp at h
  | p :: P, w :: vs, 0, m, nd, h1, h2, hk => by
    simp at h1 h2; subst h1; subst h2
    show bindC kindOf ((p, w) :: P.zip vs) m p = _
    unfold bindC
    rw [bindC_out fun v hv => (List.nodup_cons.mp nd).1 (List.of_mem_zip hv).1, if_neg hk]
    simp
  | p :: P, w :: vs, i + 1, m, nd, h1, h2, hk => by
    show bindC kindOf ((p, w) :: P.zip vs) m x = _
    unfold bindC
    exact bindC_get (i := i) (List.nodup_cons.mp nd).2 (by simpa using h1) (by simpa using h2) hk

/-- the names' values at the entry -/
def start (N : List Str) (vs : List V) : St := vs.map some ++ List.replicate (N.length - vs.length) none

/-- the context of a def's body, at its entry; an exception leaves the frame, then lies as CX says -/
def cxOf (CX : CXT) (P : Program) (w : World) (K : PySem.W.Frag) (mg : Str → Option Value) (base : Heap) (N : List Str) (qual : Str) (scope : Scope) (f : Addr) (cd : Value) (A : Around) (outer : List Env) (s : Shared) (H : Hp) (E : XK) : Cx where
  prog := P
  w := w
  K := K
  mg := mg
  base := base
  A := A.deeper (envOfC qual scope s.heap.objs.size f cd)
  N := N
  s₀ := s
  H₀ := H
  env := envOfC qual scope s.heap.objs.size f cd
  outer := outer
  stack := envOfC qual scope s.heap.objs.size f cd :: outer
  ex := []
  calm := true
  fn := fun _ => true
  pn := []
  xe := fun e s' => wpAny (model P w) (A.deeper (envOfC qual scope s.heap.objs.size f cd)) (leaving (envOfC qual scope s.heap.objs.size f cd) e) (fun _ s'' => CX outer H s E e s'') (fun e' s'' => CX outer H s E e' s'') s'

theorem cell_has {sc : Scope} {n : Nat} {x : Str} (h : sc.names.lookup x = some .cell) : ∃ c, (cellsFrom n sc.names []).lookup x = some c := by
  have q := PySem.W.cellsFrom_some sc.names n [] (.inl h)
  exact Option.isSome_iff_exists.mp q

theorem inv_start {CX : CXT} {P : Program} {w : World} {K : PySem.W.Frag} {mg : Str → Option Value} {base : Heap} {N ps : List Str} {qual : Str} {scope : Scope} {f : Addr} {cd : Value} {A : Around} {outer : List Env} {s s1 : Shared} {H : Hp} {E : XK} {us : List Value} {vs : List V}
    (S : FnScope N ps scope) (hd : A.handled = none) (e0 : Env0 P w K mg base A outer s H) (hl : vs.length = ps.length) (r : Vals vs us)
    (x : InCallC s s.heap.objs.size (bindL (envOfC qual scope s.heap.objs.size f cd).kindOf (ps.zip us) fun _ => none) (cellsFrom (s.heap.objs.size + 1) scope.names []) (bindC (envOfC qual scope s.heap.objs.size f cd).kindOf (ps.zip us) fun _ => none) s1) :
    Inv (cxOf CX P w K mg base N qual scope f cd A outer s H E) [] (start N vs) H s1 := by
  have hpl : ps.length ≤ N.length := by have := congrArg List.length S.pre; rw [List.length_take] at this; omega
  obtain ⟨h1, tk, rfl, hk⟩ := x.done
  have noA : ∀ b : Addr, b ∉ (cxOf CX P w K mg base N qual scope f cd A outer s H E).ex := fun b z => absurd (show b ∈ ([] : List Addr) from z) (by simp)
  refine ⟨⟨e0.mod, S.kind, rfl, rfl, Nat.le_refl _, fun y z c h1 h2 => ?_, fun y hy => ?_, fun y c _ h => ?_, fun _ => hd, Around.frames_deeper e0.frames, .inr ⟨rfl, rfl⟩, fun b z => absurd z (noA b), e0.bs, e0.bsz, fun b _ _ => noA b, fun b z => absurd z (noA b), e0.funs, e0.frf⟩,
    rfl, e0.bare, Un.kept hk, ⟨_, x.toInCall.ns, fun i y v h1 h2 h3 => ?_⟩, fun y c h => ⟨_, x.cell y c h⟩, e0.hok.fresh (Nat.le_refl _), fun y c h => ?_, fun p hp => absurd (show p ∈ ([] : List (Addr × Obj)) from hp) (by simp), e0.hok.kept hk, ?_⟩
  · exact name_of_addr x.apart (PySem.mem_of_lookup h1) (PySem.mem_of_lookup h2)
  · have hy : scope.names.lookup y = some .cell ∨ scope.names.lookup y = some .free := hy
    rcases hy with hy | hy
    · exact cell_has hy
    · exact absurd rfl (S.nofree _ (PySem.mem_of_lookup hy))
  · exact Nat.le_of_lt (x.above y c (PySem.mem_of_lookup h))
  · have hi : i < vs.length := by
      unfold start at h2
      by_cases hi : i < vs.length
      · exact hi
      · rw [List.getElem?_append_right (by simpa using hi)] at h2
        rw [List.getElem?_replicate] at h2
        split at h2 <;> cases h2
    have ha : vs[i]? = some v := by
      unfold start at h2
      rw [List.getElem?_append_left (by simpa using hi), List.getElem?_map] at h2
      cases e : vs[i]? with
      | none => rw [e] at h2; cases h2
      | some a => rw [e] at h2; cases h2; rfl
    obtain ⟨u, hu, rv⟩ := r.get ha
    have hp : ps[i]? = some y := by
      rw [← S.pre, List.getElem?_take_of_lt (by omega)]; exact h1
    have ndP : ps.Nodup := by rw [← S.pre]; exact S.nd.sublist (List.take_sublist _ _)
    refine ⟨u, rv, ?_⟩
    rcases S.par y (List.mem_of_getElem? hp) with k | k
    · exact .inl ⟨k, bindL_get ndP hp hu k⟩
    · obtain ⟨c, e⟩ := cell_has (n := s.heap.objs.size + 1) k
      refine .inr ⟨.inl k, c, e, ?_⟩
      have q := x.cell y c e
      rw [bindC_get ndP hp hu (by show scope.names.lookup y ≠ _; rw [k]; decide)] at q
      exact q
  · exact e0.hok.fresh (Nat.le_of_lt (x.above y c (PySem.mem_of_lookup h)))
  · unfold start
    show _ = N.length
    rw [List.length_append, List.length_map, List.length_replicate]
    omega

/-- THE RULE: a def (or a method) of the text, by its body. The body's reading t is chosen for each entry; it is run at the parameters' values -/
theorem fn_of {CX : CXT} {P : Program} {w : World} {K : PySem.W.Frag} {mg : Str → Option Value} {base : Heap} {k : Nat} {f : Addr} {name qual : Str} {params : Arguments} {body : List Stmt} {scope : Scope} {dV kV doc pm cdv ct oc : Value} {an od : Option Addr}
    {osl : Array (Option Value)} {N ps : List Str} {sp : Sp} (lk : K.lookup f = some ⟨oc, od, .func (PySem.W.fnOf name qual params body scope dV kV doc pm an cdv ct), osl⟩) (hcd : PySem.W.codeIn K cdv qual = true) (S : FnScope N ps scope)
    (len : ∀ vs H Q E, sp vs H Q E → vs.length = ps.length)
    (hbody : ∀ (A : Around) (outer : List Env) (s : Shared) (H : Hp) (vs : List V) (Q : VK) (E : XK), Room k (A.deeper (envOfC qual scope s.heap.objs.size f cdv)) → sp vs H Q E →
      ∃ t, PSs (cxOf CX P w K mg base N qual scope f cdv A outer s H E) body t ∧ t { nx := fun _ H' => Q .non H', rt := Q } (start N vs) H) :
    FnOk P w K mg base CX (k + 1) f (PySem.W.fnOf name qual params body scope dV kV doc pm an cdv ct) ps sp := by
  refine ⟨len, fun A outer s H args us vs Q E hr e0 hb r hsp => ?_⟩
  have hl := len _ _ _ _ hsp
  have KX : K.In s.heap := e0.mod.kin.keeps fun b o e => (e0.bs b o e).1
  have lim : s.heap.NoLimit := e0.mod.nolimit.keeps fun b o e => (e0.bs b o e).1
  have hkind : ∀ y ∈ ps.zip us, scope.names.lookup y.1 = some .local ∨ (scope.names.lookup y.1 = some .cell ∧ ((cellsFrom (s.heap.objs.size + 1) scope.names []).lookup y.1).isSome = true) := fun ⟨n, v⟩ hy => by
    rcases S.par n (List.of_mem_zip hy).1 with q | q
    · exact .inl q
    · exact .inr ⟨q, PySem.W.cellsFrom_some _ _ _ (.inl q)⟩
  refine codeAny_call_function hr.depth (KX _ _ lk) rfl S.co S.gen rfl (PySem.W.codeRec_of KX hcd) (hb _ _ _ _ ?_)
  refine wpAny_newFunctionEnv_cells S.kind hkind fun env he s1 x => ?_
  subst he
  refine ⟨lim.keeps x.toInCall.keep, codeAny_func ?_⟩
  obtain ⟨t, ht, hq⟩ := hbody A outer s H vs Q E (hr.deeper _) hsp
  have I : Inv (cxOf CX P w K mg base N qual scope f cdv A outer s H E) [] (start N vs) H s1 := inv_start S hr.hd e0 hl r x
  refine wpAny_mono (ht [] s1 (start N vs) H _ I hq) (fun fl s' hs => ?_) fun e s' hs => hs
  have fin : ∀ {σ' : St} {H' : Hp} {v : V} {u : Value}, Inv (cxOf CX P w K mg base N qual scope f cdv A outer s H E) [] σ' H' s' → RelV v u → Q v H' → CE outer P w H s Q u s' :=
    fun {σ' H' v u} J rv q => ⟨v, H', J.os, J.bare, J.base, J.hok, rv, q⟩
  cases fl with
  | ret u =>
    obtain ⟨v, σ', H', J, rv, q⟩ := hs
    exact fin J rv q
  | next =>
    obtain ⟨σ', H', J, q⟩ := hs
    exact fin (v := V.non) (u := Value.none) J rfl q
  | brk =>
    obtain ⟨_, _, _, q⟩ := hs
    exact False.elim q
  | cont =>
    obtain ⟨_, _, _, q⟩ := hs
    exact False.elim q
end L2

namespace L2
open PySem PySem.Spec PyProof.Rows
section
variable {X : Cx} {x : Str} {p pos : Pos} {e : Expr} {es : List Expr} {t : TA} {id T : String} {r : List V → Hp → VK → Prop}

abbrev tCB (r : List V → Hp → VK → Prop) (t : TA) : TE := fun σ H Q => t σ H fun vs H1 => r vs H1 Q
/-- f(e, ..), f a built-in function -/
theorem pe_callB (hc : CallR X (.builtin id) r) (hg : Gl X x) (hm : X.mg x = none) (hv : bootBuiltins x = some (.builtin id)) (ha : PA X (e :: es) t) (hn : x ≠ "__name__" := by decide) (hdb : (x == ("__debug__" : Str)) = false := by decide)
    (he : starEach (e :: es) X.env = (false, eval e X.env) :: starEach es X.env := by rfl) (hpl : (backTo pos (starEach es X.env)).any (·.1) = false := by rfl) : PE X (.Call (.Name x p) (e :: es) [] pos) (tCB r t) := by
  intro pins s σ H Q I h
  refine wpAny_Call_Name_kw (ld_blt I hg hm hv ?_ hn hdb)
  exact PyProof.Rows.callWith_builtin1 (thn (ha pos pins s σ H _ I h) fun us s1 ⟨vs, H1, I1, r1, q1⟩ => hc pins s1 σ H1 vs us Q I1 r1 q1) he hpl
/-- T(e, ..), T a built-in type -/
theorem pe_callTy (hc : CallR X (.type T) r) (hg : Gl X x) (hm : X.mg x = none) (hv : bootBuiltins x = some (.type T)) (ha : PA X (e :: es) t) (hn : x ≠ "__name__" := by decide) (hdb : (x == ("__debug__" : Str)) = false := by decide)
    (he : starEach (e :: es) X.env = (false, eval e X.env) :: starEach es X.env := by rfl) (hpl : (backTo pos (starEach es X.env)).any (·.1) = false := by rfl) : PE X (.Call (.Name x p) (e :: es) [] pos) (tCB r t) := by
  intro pins s σ H Q I h
  refine wpAny_Call_Name_kw (ld_blt I hg hm hv ?_ hn hdb)
  exact PyProof.Rows.callWith_type1 (thn (ha pos pins s σ H _ I h) fun us s1 ⟨vs, H1, I1, r1, q1⟩ => hc pins s1 σ H1 vs us Q I1 r1 q1) he hpl
end
end L2

namespace HT
open PySem PyProof.Rows

/-- t < u of tuples of ints -/
def lexLt : List Int → List Int → Bool
  | [], [] => false
  | [], _ :: _ => true
  | _ :: _, [] => false
  | x :: xs, y :: ys => if x = y then lexLt xs ys else decide (x < y)
section
open PySem.SeqAt
open PySem.AutoSeq1 (wpAny_loadPart')
open PySem.MeetsSeq PySem.MeetsSeq2 PySem.MeetsSeq3

end

section
variable {prog : Program} {w : World} {A : Around} {E : Value → Shared → Prop} {s : Shared}

/-- a slice's bound as a place among n (d where it is left out) -/
def sIx (n d : Nat) : Option Int → Nat
  | none => d
  | some v => if v < 0 then (v + (n : Int)).toNat else min v.toNat n
theorem sIx_nat (n d k : Nat) : sIx n d (some (k : Int)) = min k n := by
  show (if (k : Int) < 0 then ((k : Int) + (n : Int)).toNat else min (k : Int).toNat n) = min k n
  rw [if_neg (by omega), Int.toNat_natCast]
theorem sIx_le (n d : Nat) (hd : d ≤ n) (o : Option Int) : sIx n d o ≤ n := by
  cases o with
  | none => exact hd
  | some v =>
    show (if v < 0 then (v + (n : Int)).toNat else min v.toNat n) ≤ n
    by_cases hv : v < 0
    · rw [if_pos hv]; omega
    · rw [if_neg hv]; exact Nat.min_le_right _ _
theorem clip_eq (v : Int) (n d : Nat) : (if v < 0 then max (v + (n : Int)) 0 else min v (n : Int)) = ((sIx n d (some v) : Nat) : Int) := by
  show (if v < 0 then max (v + (n : Int)) 0 else min v (n : Int)) = (((if v < 0 then (v + (n : Int)).toNat else min v.toNat n) : Nat) : Int)
  by_cases hv : v < 0
  · simp only [if_pos hv]; omega
  · simp only [if_neg hv]; omega
theorem adjust_gen (lo hi : Option Int) (n : Nat) : Builtin.Slice.sliceAdjust lo hi 1 (n : Int) = (((sIx n 0 lo : Nat) : Int), ((sIx n n hi : Nat) : Int)) := by
  have h1 : ¬ ((1 : Int) < 0) := by omega
  unfold Builtin.Slice.sliceAdjust
  simp only [h1, if_false]
  refine Prod.ext ?_ ?_
  · cases lo with
    | none => rfl
    | some v => exact clip_eq v n 0
  · cases hi with
    | none => rfl
    | some v => exact clip_eq v n n
theorem places_gen (i j : Nat) : Builtin.Slice.slicePlaces (i : Int) (j : Int) 1 = j - i := by
  unfold Builtin.Slice.slicePlaces
  have h1 : (1 : Int) > 0 := by omega
  simp only [h1, if_true, Int.ediv_one]
  split <;> omega
theorem slicePart_ {v : Value} {o : Option Int} {Q : Option Int → Shared → Prop} (p : IsPart v o) (h : Q o s) : wpAny (model prog w) A (Builtin.Slice.slicePartIndex v) Q E s := by
  cases p with
  | none => exact slicePart_none h
  | int i t => exact slicePart_int h
theorem sliceApplied_gen {sl : Addr} {vl vu : Value} {lo hi : Option Int} {n : Nat} {Q : Int × Int × Nat → Shared → Prop} (hs : s.heap.IsSliceOf sl vl vu .none) (pl : IsPart vl lo) (pu : IsPart vu hi)
    (h : Q (((sIx n 0 lo : Nat) : Int), 1, sIx n n hi - sIx n 0 lo) s) : wpAny (model prog w) A (Builtin.Slice.sliceApplied (.ref sl) (pure (n : Int))) Q E s := by
  obtain ⟨os, hos, hcs, hds⟩ := id hs
  unfold Builtin.Slice.sliceApplied Builtin.Slice.sliceFields
  refine wpAny_bind (wpAny_bind (wpAny_field hos hds (x := vl) rfl (wpAny_bind (wpAny_field hos hds (x := vu) rfl (wpAny_bind (wpAny_field hos hds (x := .none) rfl (wpAny_pure ?_)))))))
  refine wpAny_bind (slicePart_none ?_)
  show wpAny _ _ (if ((1 : Int) == 0) = true then _ else _) _ _ s
  rw [if_neg (by decide)]
  refine wpAny_bind (slicePart_ pl (wpAny_bind (slicePart_ pu (wpAny_bind (wpAny_pure ?_)))))
  show wpAny _ _ (match Builtin.Slice.sliceAdjust lo hi 1 (n : Int) with | (lo, hi) => pure (lo, (1 : Int), Builtin.Slice.slicePlaces lo hi 1)) _ _ s
  rw [adjust_gen lo hi n]
  show wpAny _ _ (pure (((sIx n 0 lo : Nat) : Int), (1 : Int), Builtin.Slice.slicePlaces ((sIx n 0 lo : Nat) : Int) ((sIx n n hi : Nat) : Int) 1)) _ _ s
  rw [places_gen]
  exact wpAny_pure h
theorem pick_gen (xs : Array Value) (i k : Nat) : ((List.range k).filterMap fun (m : Nat) => xs[((i : Int) + (m : Int) * 1).toNat]?).toArray = ((xs.toList.drop i).take k).toArray := by
  have e : (fun (m : Nat) => xs[((i : Int) + (m : Int) * 1).toNat]?) = fun m => xs[i + m]? := by
    funext m
    have : ((i : Int) + (m : Int) * 1).toNat = i + m := by omega
    rw [this]
  rw [e]
  have := pick_run xs i k
  rw [List.filterMap_map] at this
  have e2 : ((fun x => xs[x]?) ∘ fun x => i + x) = fun m => xs[i + m]? := rfl
  rw [e2] at this
  rw [this]

theorem getItem_tuple_cut {t sl : Addr} {items : Array Value} {vl vu : Value} {lo hi : Option Int} {Q : Value → Shared → Prop} (ht : IsTup s.heap t items) (hs : s.heap.IsSliceOf sl vl vu .none) (pl : IsPart vl lo) (pu : IsPart vu hi)
    (hw : ¬ (sIx items.size 0 lo = 0 ∧ sIx items.size items.size hi = items.size))
    (h : Q (.ref s.heap.objs.size) { s with heap := s.heap.push { cls := .type "tuple", data := .seq ((items.toList.drop (sIx items.size 0 lo)).take (sIx items.size items.size hi - sIx items.size 0 lo)).toArray } })
    (hsz : items.size ≤ sizeLine) : wpAny (model prog w) A (getItem (.ref t) (.ref sl)) Q E s := by
  have htake : sizeOk (.seq ((items.toList.drop (sIx items.size 0 lo)).take (sIx items.size items.size hi - sIx items.size 0 lo)).toArray) := by
    show ((items.toList.drop (sIx items.size 0 lo)).take (sIx items.size items.size hi - sIx items.size 0 lo)).toArray.size ≤ sizeLine
    rw [List.size_toArray, List.length_take, List.length_drop, Array.length_toList]
    omega
  have hj : sIx items.size items.size hi ≤ items.size := sIx_le _ _ (Nat.le_refl _) hi
  obtain ⟨os, hos, hcs, hds⟩ := id hs
  have hTs : s.TypeIs (.ref sl) "slice" := ⟨os, hos, hcs⟩
  unfold getItem
  try with_reducible refine wpAny_holding ?_
  first | refine wpAny_bind (wpAny_pure ?_) | skip
  refine wpAny_bind (wpAny_sequenceKey ht.typeIs (by decide) ?_)
  refine wpAny_bind (wpAny_callSpecial?_slot (name := Str.ofString "__getitem__") ht.typeIs PyProof.Rows.slot_tuple_getitem
    (wpAny_call_entry PyProof.Rows.slot_tuple_getitem ht.typeIs entry_tuple_getitem ?_ (args_tuple_getitem _ _)))
  show wpAny _ _ (Builtin.Tuple.tupleItemsOf (.ref t) >>= _) _ _ s
  refine wpAny_bind (tupleItemsOf_ ht ?_)
  refine wpAny_bind (wpAny_typeOf hTs ?_)
  rw [if_pos (by decide)]
  refine wpAny_bind (sliceApplied_gen hs pl pu ?_)
  have hno : ¬ ((((sIx items.size 0 lo : Nat) : Int) == 0 && (1 : Int) == 1 && (sIx items.size items.size hi - sIx items.size 0 lo) == items.size) = true) := by
    intro q
    rw [Bool.and_eq_true, Bool.and_eq_true] at q
    have q1 : ((sIx items.size 0 lo : Nat) : Int) = 0 := eq_of_beq q.1.1
    have q2 : sIx items.size items.size hi - sIx items.size 0 lo = items.size := eq_of_beq q.2
    exact hw ⟨by omega, by omega⟩
  show wpAny _ _ (if (((sIx items.size 0 lo : Nat) : Int) == 0 && (1 : Int) == 1 && (sIx items.size items.size hi - sIx items.size 0 lo) == items.size) = true then _ else _) _ _ s
  rw [if_neg hno, pick_gen]
  first
    | exact wpAny_bind (m := Builtin.Tuple.tupleExact _) (wpAny_newObj_type (wpAny_pure ⟨_, rfl, wpAny_pure h⟩) htake)
    | exact wpAny_bind (m := Builtin.Tuple.tupleExact _) (wpAny_newObj_type (wpAny_bind (wpAny_pure (wpAny_pure ⟨_, rfl, wpAny_pure h⟩))) htake)
    | exact wpAny_bind (wpAny_bind (m := Builtin.Tuple.tupleExact _) (wpAny_newObj_type (wpAny_pure (wpAny_pure ⟨_, rfl, wpAny_pure h⟩)) htake))
    | exact wpAny_bind (wpAny_bind (m := Builtin.Tuple.tupleExact _) (wpAny_newObj_type (wpAny_pure ⟨_, rfl, wpAny_pure h⟩) htake))
end
end HT

namespace L2
open PySem PySem.Spec PyProof.Rows

abbrev TO := St → Hp → (Option Int → Hp → Prop) → Prop
/-- a slice's part (left out, or an int) -/
def PO (X : Cx) (e : Option Expr) (t : TO) : Prop :=
  ∀ (pins : List (Addr × Obj)) (s : Shared) (σ : St) (H : Hp) (Q : Option Int → Hp → Prop), Inv X pins σ H s → t σ H Q →
    wpAny (model X.prog X.w) X.A (evalPart e X.env) (fun u s' => ∃ o H', Inv X pins σ H' s' ∧ IsPart u o ∧ Q o H') X.xe s
abbrev tNoPart : TO := fun _ H Q => Q none H
abbrev tPart (t : TE) : TO := fun σ H Q => t σ H fun x H1 => ∃ i, x = .int i ∧ Q (some i) H1

section
variable {X : Cx} {e : Expr} {te : TE} {lo hi : Option Expr} {tl th : TO} {pos p2 : Pos}

theorem po_none : PO X none tNoPart := by
  intro pins s σ H Q I h
  rw [evalPart_none]
  exact wpAny_pure ⟨none, H, I, .none, h⟩
theorem po_some (h : PE X e te) : PO X (some e) (tPart te) := by
  intro pins s σ H Q I hw
  rw [evalPart_some]
  refine thn (h pins s σ H _ I hw) fun u s1 ⟨x, H1, I1, r1, q1⟩ => ?_
  obtain ⟨i, rfl, q⟩ := q1
  obtain ⟨t, rfl⟩ := r1
  exact ⟨some i, H1, I1, .int i t, q⟩

/-- what a slice of a value is, by values: the slice object stands at sl -/
def SlR (X : Cx) (r : V → Option Int → Option Int → Hp → VK → Prop) : Prop :=
  ∀ (pins : List (Addr × Obj)) (s : Shared) (σ : St) (H : Hp) (x : V) (v vl vu : Value) (lo hi : Option Int) (sl : Addr) (Q : VK), Inv X pins σ H s → RelV x v → s.heap.IsSliceOf sl vl vu .none → IsPart vl lo → IsPart vu hi → r x lo hi H Q →
    ∃ T id, typeLookup (.type T) "__getitem__" = pure (some (.builtin id)) ∧ s.TypeIs v T ∧ wpAny (model X.prog X.w) X.A (getItem v (.ref sl)) (EP X pins σ Q) X.xe s
theorem SlR.or {r r' : V → Option Int → Option Int → Hp → VK → Prop} (h : SlR X r) (h' : SlR X r') : SlR X (fun x lo hi H Q => r x lo hi H Q ∨ r' x lo hi H Q) := by
  intro pins s σ H x v vl vu lo hi sl Q I rx hs pl pu q
  rcases q with q | q
  · exact h pins s σ H x v vl vu lo hi sl Q I rx hs pl pu q
  · exact h' pins s σ H x v vl vu lo hi sl Q I rx hs pl pu q
abbrev tSl (r : V → Option Int → Option Int → Hp → VK → Prop) (te : TE) (tl th : TO) : TE := fun σ H Q => te σ H fun x H1 => tl σ H1 fun l H2 => th σ H2 fun u H3 => r x l u H3 Q
/-- a[lo:hi], any a -/
theorem pe_slice {r : V → Option Int → Option Int → Hp → VK → Prop} (hr : SlR X r) (he : PE X e te) (hl : PO X lo tl) (hu : PO X hi th) : PE X (.Subscript e (.Slice lo hi none p2) pos) (tSl r te tl th) := by
  intro pins s σ H Q I h
  refine Subscript_ (thn (he pins s σ H _ I h) fun v s1 ⟨x, H1, I1, r1, q1⟩ => ?_)
  refine wpAny_Slice (thn (hl pins s1 σ H1 _ I1 q1) fun vl s2 ⟨l, H2, I2, pl, q2⟩ => thn (hu pins s2 σ H2 _ I2 q2) fun vu s3 ⟨u, H3, I3, pu, q3⟩ => ?_)
  rw [evalPart_none]
  refine wpAny_pure ?_
  have I4 : Inv X pins σ H3 { s3 with heap := s3.heap.push { cls := .type "slice", data := .fields #[vl, vu, .none] } } := I3.kept (t' := s3.toks) fun b ob q => Heap.get?_push_of_some _ q
  obtain ⟨T, id, hT, ht, hg⟩ := hr pins { s3 with heap := s3.heap.push { cls := .type "slice", data := .fields #[vl, vu, .none] } } σ H3 x v vl vu l u s3.heap.objs.size Q I4 r1 (Heap.IsSliceOf.new ..) pl pu q3
  show wpAny (model X.prog X.w) X.A (subscriptTail e (.Slice lo hi none p2) v (.ref s3.heap.objs.size)) (EP X pins σ Q) X.xe { s3 with heap := s3.heap.push { cls := .type "slice", data := .fields #[vl, vu, .none] } }
  exact tail_any (ops := [.ref s3.heap.objs.size, v]) ht hT hg (by with_unfolding_all rfl)

/-- the items of xs[lo:hi] -/
def cutV (xs : List V) (lo hi : Option Int) : List V := (xs.drop (HT.sIx xs.length 0 lo)).take (HT.sIx xs.length xs.length hi - HT.sIx xs.length 0 lo)
theorem cutV_length (xs : List V) (lo hi : Option Int) : (cutV xs lo hi).length ≤ xs.length := by
  unfold cutV
  rw [List.length_take, List.length_drop]
  omega
/-- t[lo:hi], not the whole of it (the whole would be t itself) -/
def rSlT (K : PySem.W.Frag) : V → Option Int → Option Int → Hp → VK → Prop := fun x lo hi H Q => ∃ a xs, x = .ref a ∧ SqT K H a xs ∧
  ¬ (HT.sIx xs.length 0 lo = 0 ∧ HT.sIx xs.length xs.length hi = xs.length) ∧ ∀ p, H p = none → Q (.ref p) (upd H p (.tup (cutV xs lo hi)))
theorem sl_tup : SlR X (rSlT X.K) := by
  intro pins s σ H x v vl vu lo hi sl Q I rx hs pl pu h
  obtain ⟨a, xs, rfl, hx, hw, q⟩ := h
  cases rx
  obtain ⟨its, r, ht, hz⟩ := I.tuple hx
  have hlen : its.toArray.size = xs.length := by rw [List.size_toArray]; exact r.length.symm
  refine ⟨"tuple", _, PyProof.Rows.slot_tuple_getitem.lookup, ht.typeIs, ?_⟩
  refine HT.getItem_tuple_cut ht hs pl pu (by rw [hlen]; exact hw) ?_ (by rw [hlen]; exact hz)
  rw [hlen]
  refine ⟨.ref s.heap.objs.size, _, I.laid (t' := s.toks) (o := .tup (cutV xs lo hi)) (fun b ob q => Heap.get?_push_of_some _ q) (Nat.le_refl _) ?_, rfl, q _ (I.hok.fresh (Nat.le_refl _))⟩
  exact ⟨Nat.le_trans (cutV_length xs lo hi) hz, _, (r.drop (HT.sIx xs.length 0 lo)).take (HT.sIx xs.length xs.length hi - HT.sIx xs.length 0 lo), IsTup.new _ _⟩

def rLtT (K : PySem.W.Frag) : R2 := fun x y H Q => ∃ a b ns ms, x = .ref a ∧ y = .ref b ∧ SqT K H a (ns.map V.int) ∧ SqT K H b (ms.map V.int) ∧ Q (.bl (HT.lexLt ns ms)) H
/-- t + u, t not empty: u empty gives t itself -/
def rCatT (K : PySem.W.Frag) : R2 := fun x y H Q => ∃ a b xs ys, x = .ref a ∧ y = .ref b ∧ SqT K H a xs ∧ SqT K H b ys ∧ xs ≠ [] ∧ xs.length + ys.length ≤ sizeLine ∧
  (ys = [] → Q (.ref a) H) ∧ (ys ≠ [] → ∀ p, H p = none → Q (.ref p) (upd H p (.tup (xs ++ ys))))
end
end L2

namespace L2
open PySem PySem.Spec PyProof.Rows

/-- the place that an index of any sign means -/
def ixN (n : Nat) (i : Int) : Option Nat := if 0 ≤ i then (if i < n then some i.toNat else none) else if -(n : Int) ≤ i then some (i + n).toNat else none
def atI {α : Type} (xs : List α) (i : Int) : Option α := (ixN xs.length i).bind fun j => xs[j]?
theorem ixN_seq {n : Nat} {i : Int} {j : Nat} (h : ixN n i = some j) : seqIndex? i n = some j ∧ j < n ∧ -(n : Int) ≤ i ∧ i < n := by
  unfold ixN at h
  by_cases h0 : 0 ≤ i
  · rw [if_pos h0] at h
    by_cases h1 : i < n
    · rw [if_pos h1] at h
      have e : i.toNat = j := Option.some.inj h
      exact ⟨by rw [seqIndex_of h0 h1, e], by omega, by omega, h1⟩
    · rw [if_neg h1] at h; cases h
  · rw [if_neg h0] at h
    by_cases h1 : -(n : Int) ≤ i
    · rw [if_pos h1] at h
      have e : (i + n).toNat = j := Option.some.inj h
      exact ⟨by rw [seqIndex_neg (by omega) h1, e], by omega, h1, by omega⟩
    · rw [if_neg h1] at h; cases h
theorem atI_get {α : Type} {xs : List α} {i : Int} {v : α} (h : atI xs i = some v) : ∃ j, seqIndex? i xs.length = some j ∧ xs[j]? = some v ∧ j < xs.length ∧ -(xs.length : Int) ≤ i ∧ i < xs.length := by
  unfold atI at h
  cases e : ixN xs.length i with
  | none => rw [e] at h; cases h
  | some j =>
    rw [e] at h
    obtain ⟨h1, h2, h3, h4⟩ := ixN_seq e
    exact ⟨j, h1, h, h2, h3, h4⟩
theorem atI_nat {α : Type} {xs : List α} {j : Nat} {v : α} (h : xs[j]? = some v) : atI xs (j : Int) = some v := by
  have hj : j < xs.length := (List.getElem?_eq_some_iff.mp h).1
  have e : ixN xs.length (j : Int) = some j := by
    unfold ixN
    rw [if_pos (by omega), if_pos (by omega)]; simp
  unfold atI; rw [e]; exact h
/-- what stands as an index of a plain subscript -/
def PlainIx (b : Expr) : Prop := ∀ o i, subscripted b false o i = operate [o, i] (getItem o i)
/-- a subscript by values -/
def IxR (X : Cx) (r : R2) : Prop :=
  ∀ (value slice : Expr) (pins : List (Addr × Obj)) (s : Shared) (σ : St) (H : Hp) (x y : V) (v u : Value) (Q : VK), Inv X pins σ H s → RelV x v → RelV y u → r x y H Q →
    subscripted slice false v u = operate [v, u] (getItem v u) → wpAny (model X.prog X.w) X.A (subscriptTail value slice v u) (EP X pins σ Q) X.xe s
/-- a call of a builtin's method by values: the receiver, the arguments -/
def MtR (X : Cx) (id : String) (r : V → List V → Hp → VK → Prop) : Prop :=
  ∀ (pins : List (Addr × Obj)) (s : Shared) (σ : St) (H : Hp) (x : V) (xs : List V) (v : Value) (us : List Value) (Q : VK), Inv X pins σ H s → RelV x v → Vals xs us → r x xs H Q →
    wpAny (model X.prog X.w) X.A (call (.builtin id) (v :: us)) (EP X pins σ Q) X.xe s
section
variable {X : Cx} {a b : Expr} {ta tb : TE} {pos : Pos}
theorem IxR.or {r r' : R2} (h : IxR X r) (h' : IxR X r') : IxR X (fun x y H Q => r x y H Q ∨ r' x y H Q) := by
  intro value slice pins s σ H x y v u Q I rx ry q hs
  rcases q with q | q
  · exact h value slice pins s σ H x y v u Q I rx ry q hs
  · exact h' value slice pins s σ H x y v u Q I rx ry q hs
theorem MtR.or {id : String} {r r' : V → List V → Hp → VK → Prop} (h : MtR X id r) (h' : MtR X id r') : MtR X id (fun x xs H Q => r x xs H Q ∨ r' x xs H Q) := by
  intro pins s σ H x xs v us Q I rx rs q
  rcases q with q | q
  · exact h pins s σ H x xs v us Q I rx rs q
  · exact h' pins s σ H x xs v us Q I rx rs q
/-- a[b] -/
theorem pe_ix {r : R2} (hr : IxR X r) (ha : PE X a ta) (hb : PE X b tb) (hs : PlainIx b) : PE X (.Subscript a b pos) (tOp r ta tb) := by
  intro pins s σ H Q I h
  exact Subscript_ (binT ha hb I h fun v u s2 x y H2 I2 rx ry q => hr a b pins s2 σ H2 x y v u Q I2 rx ry q (hs _ _))

def rIxL (K : PySem.W.Frag) : R2 := fun x y H Q => ∃ p xs i v, x = .ref p ∧ y = .int i ∧ SqL K H p xs ∧ atI xs i = some v ∧ Q v H
def rIxT (K : PySem.W.Frag) : R2 := fun x y H Q => ∃ p xs i v, x = .ref p ∧ y = .int i ∧ SqT K H p xs ∧ atI xs i = some v ∧ Q v H
def rIxS : R2 := fun x y H Q => ∃ z i c, x = .str z ∧ y = .int i ∧ z.length ≤ sizeLine ∧ atI z.cps.toList i = some c ∧ Q (.str ⟨#[c]⟩) H
theorem ix_list : IxR X (rIxL X.K) := by
  intro value slice pins s σ H x y v u Q I rx ry h hs
  obtain ⟨p, xs, i, z, rfl, rfl, hq, he, q⟩ := h
  cases rx
  obtain ⟨t, rfl⟩ := ry
  obtain ⟨its, r, pl, hz⟩ := I.list hq
  obtain ⟨j, h1, h2, h3, h4, h5⟩ := atI_get he
  obtain ⟨w, ew, rw'⟩ := r.get h2
  have hl := r.length
  have hn := line63
  have fin : EP X pins σ Q w s := ⟨z, H, I, rw', q⟩
  by_cases h0 : 0 ≤ i
  · have hj : i.toNat = j := by
      rw [seqIndex_of h0 h5] at h1
      exact Option.some.inj h1
    exact item_listR pl.isList h0 (by omega) (by rw [hj]; simpa using ew) fin hs
  · have hj : (i + (its.toArray.size : Int)).toNat = j := by
      rw [seqIndex_neg (by omega) h4] at h1
      rw [List.size_toArray, ← hl]
      exact Option.some.inj h1
    exact subscriptTail_builtinR (x := w) pl.isList.typeIs slot_list_getitem.lookup
      (wpAny_getItem_list_neg (Q := fun r s' => r = w ∧ EP X pins σ Q r s') pl.isList (by omega) (by rw [List.size_toArray] <;> omega) (by omega) (by rw [hj]; simpa using ew) ⟨rfl, fin⟩) hs
theorem ix_tup : IxR X (rIxT X.K) := by
  intro value slice pins s σ H x y v u Q I rx ry h hs
  obtain ⟨p, xs, i, z, rfl, rfl, hq, he, q⟩ := h
  cases rx
  obtain ⟨t, rfl⟩ := ry
  obtain ⟨its, r, pl, hz⟩ := I.tuple hq
  obtain ⟨j, h1, h2, h3, h4, h5⟩ := atI_get he
  obtain ⟨w, ew, rw'⟩ := r.get h2
  have hl := r.length
  have hn := line63
  have fin : EP X pins σ Q w s := ⟨z, H, I, rw', q⟩
  exact subscriptTail_builtinR (x := w) pl.typeIs slot_tuple_getitem.lookup
    (getItem_tuple (j := j) (Q := fun r s' => r = w ∧ EP X pins σ Q r s') pl (by omega) (by omega) (by rw [List.size_toArray, ← hl]; exact h1) (by simpa using ew) ⟨rfl, fin⟩) hs
theorem ix_str : IxR X rIxS := by
  intro value slice pins s σ H x y v u Q I rx ry h hs
  obtain ⟨z, i, c, rfl, rfl, hz, he, q⟩ := h
  obtain ⟨t, rfl⟩ := rx
  obtain ⟨t', rfl⟩ := ry
  obtain ⟨j, h1, h2, h3, h4, h5⟩ := atI_get he
  have hl : z.cps.toList.length = z.length := by simp [Str.length]
  rw [hl] at h1 h4 h5
  have hn := line63
  exact tail_any (typeIs_str s z t) slot_str_getitem.lookup (getItem_str (c := c) (by
    have e1 : decide (i < -(2 ^ 63 : Int)) = false := decide_eq_false (by omega)
    have e2 : decide (i ≥ 2 ^ 63) = false := decide_eq_false (by omega)
    rw [e1, e2, Bool.or_false]) (by rw [h1]; simpa using h2) ⟨.str ⟨#[c]⟩, H, I.tok _, ⟨_, rfl⟩, q⟩) hs
/-- list, tuple or str -/
def rIx (K : PySem.W.Frag) : R2 := fun x y H Q => rIxL K x y H Q ∨ rIxT K x y H Q ∨ rIxS x y H Q
/-- the list's object behind a store -/
theorem mapSeq_set (its : List Value) (n j : Nat) (u : Value) : Obj.mapSeq (·.setIfInBounds j u) { cls := .type "list", data := .seq its.toArray n } = { cls := .type "list", data := .seq (its.set j u).toArray n } := by
  simp [Obj.mapSeq]
theorem Inv.lst {pins : List (Addr × Obj)} {σ : St} {H : Hp} {s : Shared} {p : Addr} {xs : List V} (I : Inv X pins σ H s) (h : H p = some (.lst xs)) :
    ∃ (its : List Value) (n : Nat), Vals xs its ∧ s.heap.get? p = some { cls := .type "list", data := .seq its.toArray n } ∧ xs.length ≤ sizeLine := by
  obtain ⟨z, its, n, r, e⟩ := I.hok p _ h
  exact ⟨its, n, r, e, z⟩
/-- the list at p is written by an update of its object -/
theorem Inv.lstUpd {pins : List (Addr × Obj)} {σ : St} {H : Hp} {s : Shared} {p : Addr} {xs ys : List V} {its its' : List Value} {n n' : Nat} {f : Obj → Obj} (I : Inv X pins σ H s) (h : H p = some (.lst xs))
    (ho : s.heap.get? p = some { cls := .type "list", data := .seq its.toArray n }) (hf : f { cls := .type "list", data := .seq its.toArray n } = { cls := .type "list", data := .seq its'.toArray n' }) (r : Vals ys its') (hz : ys.length ≤ sizeLine) (t : Nat) :
    Inv X pins σ (upd H p (.lst ys)) { s with heap := s.heap.update p f, toks := t } := by
  have e : (s.heap.update p f).get? p = some { cls := .type "list", data := .seq its'.toArray n' } := by
    rw [Heap.get?_update_self f ho (by rw [hf] <;> rfl), hf]
  refine I.write (x := p) (e := p) (by rw [h]; trivial) (.inl rfl) (fun b u hb q => (Heap.get?_update_other _ _ (Ne.symm hb)).trans q) ⟨_, e⟩ ?_
  exact ⟨hz, its', n', r, e⟩
def rSetL : V → V → V → Hp → (Hp → Prop) → Prop := fun o i v H Q => ∃ p xs k j, o = .ref p ∧ i = .int k ∧ H p = some (.lst xs) ∧ ixN xs.length k = some j ∧ Q (upd H p (.lst (xs.set j v)))
theorem set_list : PSet X rSetL := by
  intro pins s σ H o i v ov iv u Q I ro ri rv h
  obtain ⟨p, xs, k, j, rfl, rfl, hp, hj, q⟩ := h
  cases ro
  obtain ⟨t, rfl⟩ := ri
  obtain ⟨its, n, r, ho, hz⟩ := I.lst hp
  obtain ⟨h1, h2, h3, h4⟩ := ixN_seq hj
  have hl := r.length
  have hn := line63
  have I' : Inv X pins σ (upd H p (.lst (xs.set j v))) { s with heap := s.heap.update p (Obj.mapSeq (·.setIfInBounds j u)) } :=
    I.lstUpd hp ho (mapSeq_set its n j u) (r.set rv j) (by rw [List.length_set]; exact hz) s.toks
  by_cases h0 : 0 ≤ k
  · have hk : k.toNat = j := by
      rw [seqIndex_of h0 h4] at h1
      exact Option.some.inj h1
    exact PySem.W.ki_setAt ho h0 (by omega) (by rw [List.size_toArray, ← hl]; exact h4) (by rw [hk]; exact ⟨_, I', q⟩)
  · have hk : (k + (its.toArray.size : Int)).toNat = j := by
      rw [seqIndex_neg (by omega) h3] at h1
      rw [List.size_toArray, ← hl]
      exact Option.some.inj h1
    exact PySem.W.ki_setBack ho (by omega) (by rw [List.size_toArray, ← hl]; exact h3) (by omega) (by rw [hk]; exact ⟨_, I', q⟩)

theorem slice_bounds (lo hi : Option Int) (n : Nat) : (sliceBounds lo hi none n).1 = ((HT.sIx n 0 lo : Nat) : Int) ∧ (sliceBounds lo hi none n).2.1 = ((HT.sIx n n hi : Nat) : Int) ∧ (sliceBounds lo hi none n).2.2 = 1 := by
  refine ⟨?_, ?_, rfl⟩
  · cases lo with
    | none => simp [sliceBounds, HT.sIx]
    | some i =>
      simp only [sliceBounds, HT.sIx, Option.getD_none, show (1 : Int) > 0 by decide, if_true]
      by_cases h : i < 0
      · simp only [h, if_true] <;> omega
      · simp only [h, if_false] <;> omega
  · cases hi with
    | none => simp [sliceBounds, HT.sIx]
    | some i =>
      simp only [sliceBounds, HT.sIx, Option.getD_none, show (1 : Int) > 0 by decide, if_true]
      by_cases h : i < 0
      · simp only [h, if_true] <;> omega
      · simp only [h, if_false] <;> omega
theorem slicePick_cut (its : List Value) (lo hi : Option Int) : slicePick its.toArray lo hi none = ((its.drop (HT.sIx its.length 0 lo)).take (HT.sIx its.length its.length hi - HT.sIx its.length 0 lo)).toArray := by
  obtain ⟨h1, h2, h3⟩ := slice_bounds lo hi its.toArray.size
  unfold slicePick
  rw [h1, h2, h3]
  simp only [sliceRange_one, pick_run, List.size_toArray] <;> rfl
/-- xs[lo:hi] of a list: a new list -/
def rSlL (K : PySem.W.Frag) : V → Option Int → Option Int → Hp → VK → Prop := fun x lo hi H Q => ∃ a xs, x = .ref a ∧ SqL K H a xs ∧ ∀ p, H p = none → Q (.ref p) (upd H p (.lst (cutV xs lo hi)))
theorem sl_list : SlR X (rSlL X.K) := by
  intro pins s σ H x v vl vu lo hi sl Q I rx hs pl pu h
  obtain ⟨a, xs, rfl, hx, q⟩ := h
  cases rx
  obtain ⟨its, r, ht, hz⟩ := I.list hx
  have hlen := r.length
  refine ⟨"list", _, slot_list_getitem.lookup, ht.isList.typeIs, ?_⟩
  refine wpAny_getItem_list_slice ht.isList hs pl pu .none (by simp) ?_ (by rw [List.size_toArray] <;> omega)
  rw [slicePick_cut, ← hlen]
  refine ⟨.ref s.heap.objs.size, _, I.laid (t' := s.toks) (o := .lst (cutV xs lo hi)) (fun b ob q => Heap.get?_push_of_some _ q) (Nat.le_refl _) ?_, rfl, q _ (I.hok.fresh (Nat.le_refl _))⟩
  exact ⟨Nat.le_trans (cutV_length xs lo hi) hz, _, 0, (r.drop (HT.sIx xs.length 0 lo)).take (HT.sIx xs.length xs.length hi - HT.sIx xs.length 0 lo), Heap.get?_push_size _ rfl⟩

def flatV : V → Bool
  | .non => true
  | .bl _ => true
  | .int _ => true
  | .str _ => true
  | _ => false
/-- == of flat values -/
def eqV : V → V → Bool
  | .non, .non => true
  | .bl a, .bl b => a == b
  | .bl a, .int b => (if a then 1 else 0) == b
  | .int a, .bl b => a == (if b then 1 else 0)
  | .int a, .int b => a == b
  | .str a, .str b => a == b
  | _, _ => false
/-- the items' answers, read off the values (a value's own answer does not lean on its token) -/
def eqU (x : V) (u : Value) : Bool := match u with
  | .none => eqV .non x
  | .bool b => eqV (.bl b) x
  | .int i _ => eqV (.int i) x
  | .str z _ => eqV (.str z) x
  | _ => false
def inV (x : V) (xs : List V) : Bool := xs.any fun y => eqV y x
/-- x in a list or tuple of flat items -/
def rIn (K : PySem.W.Frag) (neg : Bool) : R2 := fun x y H Q => ∃ p xs, y = .ref p ∧ (SqL K H p xs ∨ SqT K H p xs) ∧ flatV x = true ∧ xs.all flatV = true ∧ Q (.bl (if neg then !inV x xs else inV x xs)) H
theorem call_len_seq : CallR X (.builtin "len") (fun xs H Q => ∃ p ys, xs = [.ref p] ∧ (SqL X.K H p ys ∨ SqT X.K H p ys) ∧ Q (.int ys.length) H) := by
  intro pins s σ H xs us Q I r h
  obtain ⟨p, ys, rfl, hq, q⟩ := h
  obtain ⟨u, rfl, rx⟩ := vals1 r
  cases rx
  have hn := line63
  rcases hq with hq | hq
  · obtain ⟨its, r', pl, hz⟩ := I.list hq
    have hlen := r'.length
    exact Calls.call_len_list pl.isList (by simp only [List.size_toArray] <;> omega) ⟨.int ys.length, H, I.tok _, ⟨s.toks + 1, by rw [List.size_toArray, hlen]⟩, q⟩
  · obtain ⟨its, r', pl, hz⟩ := I.tuple hq
    have hlen := r'.length
    exact len_tuple pl (by simp only [List.size_toArray] <;> omega) ⟨.int ys.length, H, I.tok _, ⟨s.toks + 1, by rw [List.size_toArray, hlen]⟩, q⟩
theorem call_len_str : CallR X (.builtin "len") (fun xs H Q => ∃ z, xs = [.str z] ∧ z.length ≤ sizeLine ∧ Q (.int z.length) H) := by
  intro pins s σ H xs us Q I r h
  obtain ⟨z, rfl, hz, q⟩ := h
  obtain ⟨u, rfl, t, rfl⟩ := vals1 r
  have hn := line63
  exact len_str (by omega) ⟨.int z.length, H, I.tok _, ⟨_, rfl⟩, q⟩
theorem CallR.or {f : Value} {r r' : List V → Hp → VK → Prop} (h : CallR X f r) (h' : CallR X f r') : CallR X f (fun xs H Q => r xs H Q ∨ r' xs H Q) := by
  intro pins s σ H xs us Q I rs q
  rcases q with q | q
  · exact h pins s σ H xs us Q I rs q
  · exact h' pins s σ H xs us Q I rs q
/-- the value is of that builtin type -/
def tyV (K : PySem.W.Frag) (T : String) (x : V) (H : Hp) : Prop := match x with
  | .str _ => T = "str"
  | .int _ => T = "int"
  | .ref p => (T = "list" ∧ ∃ xs, SqL K H p xs) ∨ (T = "tuple" ∧ ∃ o, K.lookup p = some o ∧ o.cls = .type "tuple" ∧ o.dict = none) ∨
      (T = "dict" ∧ ((∃ kvs, H p = some (.dK kvs)) ∨ ∃ kvs, H p = some (.dT kvs))) ∨ (T = "set" ∧ ∃ S n, H p = some (.set S n))
  | _ => False
theorem tyV_is {pins : List (Addr × Obj)} {σ : St} {H : Hp} {s : Shared} {T : String} {x : V} {v : Value} (I : Inv X pins σ H s) (r : RelV x v) (ty : tyV X.K T x H) :
    s.TypeIs v T ∧ ∀ a, v = .ref a → ∃ ob, s.heap.get? a = some ob ∧ ob.dict = none := by
  cases x with
  | str z =>
    obtain ⟨t, rfl⟩ := r
    cases (show T = "str" from ty)
    exact ⟨typeIs_str s z t, fun _ e => nomatch e⟩
  | int i =>
    obtain ⟨t, rfl⟩ := r
    cases (show T = "int" from ty)
    exact ⟨typeIs_int s i t, fun _ e => nomatch e⟩
  | ref p =>
    cases r
    rcases ty with ⟨rfl, xs, hq⟩ | ⟨rfl, o, hk, hc, hd⟩ | ⟨rfl, hk⟩ | ⟨rfl, S, n, hk⟩
    · obtain ⟨its, _, pl, _⟩ := I.list hq
      refine ⟨pl.isList.typeIs, fun a e => ?_⟩
      cases e
      obtain ⟨o, n, e, c, hd, _⟩ := pl
      exact ⟨o, e, hd⟩
    · refine ⟨⟨o, I.kIn p o hk, hc⟩, fun a e => ?_⟩
      cases e
      exact ⟨o, I.kIn _ o hk, hd⟩
    · have z : ∃ o, s.heap.get? p = some o ∧ o.ExactDict := by
        rcases hk with ⟨kvs, hk⟩ | ⟨kvs, hk⟩
        · obtain ⟨_, _, _, _, o, _, _, e, ex, _⟩ := I.hok p _ hk
          exact ⟨o, e, ex⟩
        · obtain ⟨_, _, _, _, o, _, _, e, ex, _⟩ := I.hok p _ hk
          exact ⟨o, e, ex⟩
      obtain ⟨o, e, ex⟩ := z
      refine ⟨⟨o, e, ex.1⟩, fun a e2 => ?_⟩
      cases e2
      exact ⟨o, e, ex.2.1⟩
    · obtain ⟨o, _, _, _, e, ex, _⟩ := I.hok p _ hk
      refine ⟨⟨o, e, ex.1⟩, fun a e2 => ?_⟩
      cases e2
      exact ⟨o, e, ex.2.1⟩
  | _ => exact False.elim ty
abbrev tBM0 (K : PySem.W.Frag) (T : String) (r : V → List V → Hp → VK → Prop) (to : TE) : TE := fun σ H Q => to σ H fun x H1 => tyV K T x H1 ∧ r x [] H1 Q
abbrev tBM (K : PySem.W.Frag) (T : String) (r : V → List V → Hp → VK → Prop) (to : TE) (t : TA) : TE := fun σ H Q => to σ H fun x H1 => tyV K T x H1 ∧ t σ H1 fun xs H2 => r x xs H2 Q
variable {o e : Expr} {es : List Expr} {to : TE} {t : TA} {name : Str} {apos cpos : Pos} {T id : String} {r : V → List V → Hp → VK → Prop}
theorem pe_bm0 (pa : PlainAttrs T) (slot : Slot T name id) (hty : typeOf (.builtin id) = pure (.type "method_descriptor")) (hm : MtR X id r) (ho : PE X o to)
    (hbase : attributeBase o name X.env (eval o X.env) = eval o X.env := by rfl) (hline : (apos.endLine == cpos.line) = true := by rfl) : PE X (.Call (.Attribute o name apos) [] [] cpos) (tBM0 X.K T r to) := by
  intro pins s σ H Q I h
  refine wpAny_Call_method0_late hbase hline (thn (ho pins s σ H _ I h) fun v s1 ⟨x, H1, I1, r1, ty, q1⟩ => ?_)
  obtain ⟨h1, h2⟩ := tyV_is I1 r1 ty
  exact ⟨T, id, pa, slot, hty, h1, h2, Calls.callWith_builtin rfl (PySem.evalArgs_none (hm pins s1 σ H1 x [] v [] Q I1 r1 .nil q1))⟩
theorem pe_bm (pa : PlainAttrs T) (slot : Slot T name id) (hty : typeOf (.builtin id) = pure (.type "method_descriptor")) (hm : MtR X id r) (ho : PE X o to) (ha : PA X (e :: es) t)
    (hbase : attributeBase o name X.env (eval o X.env) = eval o X.env := by rfl)
    (hfew : ((backTo cpos (starEach (e :: es) X.env)).all (fun x => !x.1) && (backToKw cpos (keywordEach [] X.env)).all (fun x => x.1.isSome)
      && decide ((e :: es).length + ([] : List Keyword).length + (if ([] : List Keyword).isEmpty then 0 else 1) < 30)) = true := by rfl)
    (hline : (apos.endLine == cpos.line) = true := by rfl) (hs : starEach (e :: es) X.env = (false, eval e X.env) :: starEach es X.env := by rfl) (hplain : (backTo cpos (starEach es X.env)).any (·.1) = false := by rfl) :
    PE X (.Call (.Attribute o name apos) (e :: es) [] cpos) (tBM X.K T r to t) := by
  intro pins s σ H Q I h
  refine wpAny_Call_method_late hbase hfew hline rfl (thn (ho pins s σ H _ I h) fun v s1 ⟨x, H1, I1, r1, ty, q1⟩ => ?_)
  obtain ⟨h1, h2⟩ := tyV_is I1 r1 ty
  refine ⟨T, id, pa, slot, hty, h1, h2, ?_⟩
  have hA := ha cpos pins s1 σ H1 _ I1 q1
  rw [hs] at hA ⊢
  refine Calls.callWith_builtin (by show (false || (backTo cpos (starEach es X.env)).any (·.1)) = false; rw [hplain] <;> rfl) (Calls.evalArgs_plain ?_)
  exact thn hA fun us s2 ⟨vs, H2, I2, r2, q2⟩ => hm pins s2 σ H2 x vs v us Q I2 r1 r2 q2
/- xs.append(e), list.index on a module's tuple .. are MtR facts of 06m -/
end
end L2

namespace L2
open PySem PySem.Spec PyProof.Rows

def MtM (X : Cx) (id : String) (r : V → List V → Hp → VK → Prop) : Prop :=
  ∀ (pins : List (Addr × Obj)) (s : Shared) (σ : St) (H : Hp) (x : V) (xs : List V) (v : Value) (us : List Value) (Q : VK), Inv X pins σ H s → RelV x v → Vals xs us → r x xs H Q →
    wpAny (model X.prog X.w) X.A (call (.builtin id) (v :: us)) (EP X pins σ Q) X.xe s

theorem Vals.one : ∀ {x : V} {us : List Value}, Vals [x] us → ∃ u, us = [u] ∧ RelV x u
  | _, _, .cons r .nil => ⟨_, rfl, r⟩
theorem Vals.two : ∀ {x y : V} {us : List Value}, Vals [x, y] us → ∃ u v, us = [u, v] ∧ RelV x u ∧ RelV y v
  | _, _, _, .cons r (.cons q .nil) => ⟨_, _, rfl, r, q⟩
theorem Vals.zero : ∀ {us : List Value}, Vals [] us → us = []
  | _, .nil => rfl
theorem Vals.dropLast {xs : List V} {us : List Value} (h : Vals xs us) : Vals xs.dropLast us.dropLast := by
  induction h with
  | nil => exact .nil
  | cons r t ih =>
    cases t with
    | nil => exact .nil
    | cons q t' => exact .cons r ih
theorem Vals.eraseIdx : ∀ {xs : List V} {us : List Value} (i : Nat), Vals xs us → Vals (xs.eraseIdx i) (us.eraseIdx i)
  | _, _, _, .nil => .nil
  | _, _, 0, .cons _ t => t
  | _, _, i + 1, .cons r t => .cons r (Vals.eraseIdx i t)
theorem Vals.reverse {xs : List V} {us : List Value} (h : Vals xs us) : Vals xs.reverse us.reverse := by
  induction h with
  | nil => exact .nil
  | cons r t ih => rw [List.reverse_cons, List.reverse_cons]; exact Vals.append ih (.cons r .nil)
theorem Vals.rep {xs : List V} {us : List Value} (h : Vals xs us) : ∀ k : Nat, Vals (List.replicate k xs).flatten (List.replicate k us).flatten
  | 0 => .nil
  | k + 1 => by
    rw [List.replicate_succ, List.replicate_succ, List.flatten_cons, List.flatten_cons]
    exact Vals.append h (Vals.rep h k)
theorem erase_last {α : Type} (l : List α) : l.eraseIdx (l.length - 1) = l.dropLast := by
  induction l with
  | nil => rfl
  | cons a r ih =>
    cases r with
    | nil => rfl
    | cons b r =>
      have e : (a :: b :: r).length - 1 = ((b :: r).length - 1) + 1 := by
        have h1 : (a :: b :: r).length = r.length + 2 := rfl
        have h2 : (b :: r).length = r.length + 1 := rfl
        omega
      rw [e, List.eraseIdx_cons_succ, ih]
      all_goals rfl
theorem foldl_rep (its : List Value) : ∀ (k : Nat) (acc : List Value),
    List.foldl (fun x1 x2 => x1 ++ x2) acc.toArray (List.replicate k its.toArray) = (acc ++ (List.replicate k its).flatten).toArray
  | 0, acc => by simp
  | k + 1, acc => by
    have e : acc.toArray ++ its.toArray = (acc ++ its).toArray := by simp
    have e2 : (acc ++ its) ++ (List.replicate k its).flatten = acc ++ (List.replicate (k + 1) its).flatten := by
      rw [List.replicate_succ, List.flatten_cons, List.append_assoc]
    rw [← e2, ← foldl_rep its k (acc ++ its), ← e, List.replicate_succ, List.foldl_cons]

section
variable {X : Cx} {pins : List (Addr × Obj)} {σ : St} {H : Hp} {s : Shared} {l b : Addr} {xs ys zs : List V}

theorem Inv.lset {its its' : List Value} {n : Nat} {f : Array Value → Array Value} {t' : Nat} (I : Inv X pins σ H s) (hH : H l = some (.lst xs))
    (e : s.heap.get? l = some { cls := .type "list", data := .seq its.toArray n }) (hf : f its.toArray = its'.toArray) (hv : Vals ys its') (hz : ys.length ≤ sizeLine) :
    Inv X pins σ (upd H l (.lst ys)) { s with heap := s.heap.update l (Obj.mapSeq f), toks := t' } := by
  have q := PySem.IsL.update e f
  rw [hf] at q
  refine I.write (x := l) (e := l) (by rw [hH]; exact trivial) (.inl rfl) (fun b' u hb hu => (Heap.get?_update_other s.heap (Obj.mapSeq f) (Ne.symm hb)).trans hu) ⟨_, q⟩ ?_
  exact ⟨hz, its', _, hv, q⟩
theorem Inv.lnew {its : List Value} {t' : Nat} (I : Inv X pins σ H s) (hv : Vals ys its) (hz : ys.length ≤ sizeLine) :
    Inv X pins σ (upd H s.heap.objs.size (.lst ys)) { s with heap := s.heap.push { cls := .type "list", data := .seq its.toArray }, toks := t' } :=
  I.laid (fun _ _ q => Heap.get?_push_of_some _ q) (Nat.le_refl _) ⟨hz, its, 0, hv, Heap.get?_push_size _ rfl⟩
theorem Inv.fresh (I : Inv X pins σ H s) : H s.heap.objs.size = none := I.hok.fresh (Nat.le_refl _)
theorem Inv.lstM (I : Inv X pins σ H s) (hH : H l = some (.lst xs)) : xs.length ≤ sizeLine ∧ ∃ (its : List Value) (n : Nat), Vals xs its ∧ xs.length = its.length ∧ s.heap.get? l = some { cls := .type "list", data := .seq its.toArray n } := by
  obtain ⟨z, its, n, r, e⟩ := I.hok l _ hH
  exact ⟨z, its, n, r, r.length, e⟩

theorem notLongL {n : Nat} (h : n ≤ sizeLine) : Builtin.List.listTooLong n = false := by
  unfold Builtin.List.listTooLong
  exact decide_eq_false (by omega)
end

section
variable {X : Cx}

def rAppend : V → List V → Hp → VK → Prop := fun x vs H Q => ∃ l xs y, x = .ref l ∧ vs = [y] ∧ H l = some (.lst xs) ∧ xs.length < sizeLine ∧ Q .non (upd H l (.lst (xs ++ [y])))
theorem mt_append : MtM X "list.append" rAppend := by
  intro pins s σ H x vs v us Q I rx rv h
  obtain ⟨l, xs, y, rfl, rfl, hH, hz, q⟩ := h
  cases rx
  obtain ⟨u, rfl, ru⟩ := rv.one
  obtain ⟨z, its, n, r, hl, e⟩ := I.lstM hH
  refine call_meets F.slot_list_append ⟨_, e, rfl⟩ F.entry_list_append (F.args_list_append_2 _ _) (PySem.list_append l its.toArray n u (by rw [List.size_toArray]; omega)) ⟨e, ?_⟩
  refine ⟨.non, _, I.lset (its' := its ++ [u]) hH e (by simp) (r.append (.cons ru .nil)) ?_, rfl, q⟩
  rw [List.length_append, List.length_singleton]
  omega

def rExtend : V → List V → Hp → VK → Prop := fun x vs H Q => ∃ l b xs zs, x = .ref l ∧ vs = [.ref b] ∧ H l = some (.lst xs) ∧ H b = some (.lst zs) ∧ xs.length + zs.length ≤ sizeLine ∧ Q .non (upd H l (.lst (xs ++ zs)))
def rPop : V → List V → Hp → VK → Prop := fun x vs H Q => ∃ l xs y, x = .ref l ∧ vs = [] ∧ H l = some (.lst xs) ∧ xs[xs.length - 1]? = some y ∧ Q y (upd H l (.lst xs.dropLast))
theorem mt_pop : MtM X "list.pop" rPop := by
  intro pins s σ H x vs v us Q I rx rv h
  obtain ⟨l, xs, y, rfl, rfl, hH, hy, q⟩ := h
  cases rx
  have hus := rv.zero
  subst hus
  obtain ⟨z, its, n, r, hl, e⟩ := I.lstM hH
  obtain ⟨u, hu, ru⟩ := r.get hy
  have hy' : its.toArray[its.toArray.size - 1]? = some u := by
    show its.toArray[its.length - 1]? = some u
    rw [← Array.getElem?_toList, ← hl]
    exact hu
  refine call_meets F.slot_list_pop ⟨_, e, rfl⟩ F.entry_list_pop (F.args_list_pop_1 _) (MeetsSeq.list_pop_last l its.toArray n u hy' (by rw [List.size_toArray]; omega)) ⟨e, ?_⟩
  refine ⟨y, _, I.lset (its' := its.dropLast) hH e ?_ r.dropLast ?_, ru, q⟩
  · show its.toArray.eraseIdxIfInBounds (its.toArray.size - 1) = its.dropLast.toArray
    rw [List.size_toArray, List.eraseIdxIfInBounds_toArray, erase_last]
  · rw [List.length_dropLast]
    omega

def rPopAt : V → List V → Hp → VK → Prop := fun x vs H Q => ∃ l xs i k y, x = .ref l ∧ vs = [.int i] ∧ H l = some (.lst xs) ∧ -(2 ^ 63) ≤ i ∧ i < 2 ^ 63 ∧ seqIndex? i xs.length = some k ∧ xs[k]? = some y ∧ Q y (upd H l (.lst (xs.eraseIdx k)))
def rReverse : V → List V → Hp → VK → Prop := fun x vs H Q => ∃ l xs, x = .ref l ∧ vs = [] ∧ H l = some (.lst xs) ∧ Q .non (upd H l (.lst xs.reverse))
def rClear : V → List V → Hp → VK → Prop := fun x vs H Q => ∃ l xs, x = .ref l ∧ vs = [] ∧ H l = some (.lst xs) ∧ Q .non (upd H l (.lst []))
def rCat : R2 := fun x y H Q => ∃ l b xs zs, x = .ref l ∧ y = .ref b ∧ H l = some (.lst xs) ∧ H b = some (.lst zs) ∧ xs.length + zs.length ≤ sizeLine ∧ ∀ p, H p = none → Q (.ref p) (upd H p (.lst (xs ++ zs)))
/-- a list times an int (a negative one is nothing) -/
def rRep : R2 := fun x y H Q => ∃ l k xs, x = .ref l ∧ y = .int k ∧ H l = some (.lst xs) ∧ -(2 ^ 63) ≤ k ∧ k < 2 ^ 63 ∧ xs.length * k.toNat ≤ sizeLine ∧
  ∀ p, H p = none → Q (.ref p) (upd H p (.lst (List.replicate k.toNat xs).flatten))
theorem len_rep {α : Type} (xs : List α) (k : Nat) : (List.replicate k xs).flatten.length = k * xs.length := by
  induction k with
  | zero => simp
  | succ k ih => rw [List.replicate_succ, List.flatten_cons, List.length_append, ih, Nat.succ_mul, Nat.add_comm]
theorem op_rep : OpR X (binaryOp .Mult) rRep := by
  intro pins s σ H x y v u Q I rx ry h
  obtain ⟨l, k, xs, rfl, rfl, hH, h1, h2, hz, q⟩ := h
  cases rx
  obtain ⟨t, rfl⟩ := ry
  obtain ⟨z, its, n, r, hl, e⟩ := I.lstM hH
  have hlen : its.toArray.size * k.toNat ≤ sizeLine := by rw [List.size_toArray, ← hl]; exact hz
  have hcap : ¬ its.toArray.size * k.toNat > (2 ^ 63 - 1) / 8 := by
    have : (sizeLine : Nat) ≤ (2 ^ 63 - 1) / 8 := by decide
    omega
  have hfit : ¬ (!Builtin.List.listFitsIndex k) = true := by
    rw [fitsIndex_both h1 h2]
    exact Bool.false_ne_true
  have hlong : ¬ Builtin.List.listTooLong (its.toArray.size * k.toNat) = true := by
    rw [notLongL hlen]
    exact Bool.false_ne_true
  have hnew : List.foldl (fun x1 x2 => x1 ++ x2) #[] (List.replicate (if its.toArray.isEmpty = true then 0 else k.toNat) its.toArray) = (List.replicate k.toNat its).flatten.toArray := by
    have f0 : ∀ m : Nat, List.foldl (fun x1 x2 => x1 ++ x2) #[] (List.replicate m its.toArray) = (List.replicate m its).flatten.toArray := fun m => by
      have := foldl_rep its m []
      rw [List.nil_append] at this
      exact this
    rw [f0]
    cases its with
    | nil => simp
    | cons a r' => rw [if_neg (by simp)]
  refine wpAny_binaryOp_repeat_ref (T := "list") (U := "int") (by decide) ⟨_, e, rfl⟩ (fun s' => typeIs_int s' k t) noFill_list_mul F.fills_int_mul F.slot_int_rmul repeat_list F.slot_int_index.lookup
    (call_meets F.slot_int_rmul (typeIs_int s k t) F.entry_int_rmul (F.args_int_rmul_2 _ _) (int___rmul___int_list k t l its.toArray n)
      ⟨e, rfl, ⟨_, e, rfl⟩, call_meets F.slot_list_mul ⟨_, e, rfl⟩ F.entry_list_mul (F.args_list_mul_2 _ _) (AutoListH.list___mul___list_int_3 l its.toArray n k t hfit hcap hlong) ⟨e, ?_⟩⟩)
  rw [hnew]
  exact ⟨.ref _, _, I.lnew (t' := s.toks) (r.rep k.toNat) (by rw [len_rep, Nat.mul_comm]; exact hz), rfl, q _ I.fresh⟩

end

section
variable {prog : Program} {w : World} {A : Around} {E : Value → Shared → Prop} {s : Shared}
end

section
variable {X : Cx}
end
end L2

namespace Att
open PySem PySem.W PySem.Calls PyProof.Rows

theorem ints_of_wellAll {P : Params} {h : Heap} : ∀ (ns : List Int) (vs : List Value), WellAll P h vs (ns.map WData.int) → IntsAre vs ns := by
  intro ns
  induction ns with
  | nil =>
    intro vs w
    rw [List.map_nil] at w
    cases w
    exact .nil
  | cons n ns ih =>
    intro vs w
    rw [List.map_cons] at w
    cases w with
    | cons a b =>
      cases a
      exact .cons _ _ (ih _ b)

theorem script_of {l : OpenLaw} {n : Nat} (hn : l.most = some n) {P : Params} {h : Heap} {args : List WData} {vals : List Value}
    (hpre : l.row.toRowW.claim.pre args = true) (hwl : WellAll P h vals args) :
    ∃ a vs ns, vals = [Value.ref a] ∧ args = [WData.list (ns.map WData.int)] ∧ h.get? a = some { cls := .type "list", data := .seq vs.toArray } ∧ IntsAre vs ns ∧ ns.length ≤ n := by
  have hsh : WShape.hasAll [] args [.list .int] = true := (pre_splitW hpre).1
  have hc : l.pre.holds [] { args := args } = true := (pre_splitW hpre).2
  obtain ⟨d, r, rfl, h1, h2⟩ := hasAllW_cons hsh
  obtain rfl := hasAllW_nil h2
  obtain ⟨xs, rfl, h3⟩ := hasW_list h1
  obtain ⟨ns, rfl⟩ := items_int h3
  have hlen : ns.length ≤ n := by
    unfold OpenLaw.pre at hc
    have h4 : (WTm.not (.lt (.lit (.int (n : Int))) (.len (.arg 0)))).holds [] { args := [.list (ns.map .int)] } = true := by
      have h4 := (holds_andW hc).1
      rw [hn] at h4
      exact h4
    have h5 := condW_of h4 (w_not (w_lt w_lit (w_len_list (w_arg rfl))))
    rw [List.length_map] at h5
    refine Nat.le_of_not_lt fun q => ?_
    have q' : (n : Int) < ((ns.length : Nat) : Int) := by omega
    first
      | (rw [decide_eq_true q'] at h5; exact absurd h5 (by decide))
      | (simp at h5; omega)
  cases hwl with
  | cons w1 w2 =>
    cases w2
    cases w1 with
    | list ho hall => exact ⟨_, _, ns, rfl, rfl, ho, ints_of_wellAll ns _ hall, hlen⟩

theorem post_true (l : OpenLaw) (args : List WData) : l.row.toRowW.claim.post args (.bool true) args = true :=
  postW_of (r := l.row.toRowW) (X := (true == true))
    (show WShape.has [] (.bool true) .bool = true by first | rfl | decide | simp [WShape.has, WShape.arms, WShape.armsAll])
    (show (WTm.eq .res (.lit (.bool true))).value [] { args := args, res := some (.bool true), after := args } = some (.bool (true == true)) from w_eq_bool (w_res rfl) w_lit) rfl

/-- the same from a codeAny of the CALL (for a layer whose function contracts speak of calls) -/
theorem attach_call {l : OpenLaw} {n : Nat} {q : Program} {loose : List Str} {XP : (Str → Option Value) → Heap → Prop} {YP : World → Heap → Prop} {d : DefRec}
    (hn : l.most = some n) (hdf : d.params.defaults = [])
    (call : ∀ (w : World) (s₀ s₁ : Shared) (mg mb : Str → Option Value) (fa : Addr) (o : Obj) (pm cd doc : Value) (a : Addr) (vs : List Value) (ns : List Int),
      Ground q loose [] XP w s₀ mg mb s₁.heap → YP w s₁.heap →
      s₁.heap.get? fa = some o → o.data = .func (docDef d.name d.params d.body d.scope pm cd doc) → s₁.heap.CodeRec cd d.name → mg d.name = some (.ref fa) →
      s₁.heap.get? a = some { cls := .type "list", data := .seq vs.toArray } → IntsAre vs ns → ns.length ≤ n → s₁.gens = #[] →
      codeAny (model l.prog w) callerA (.call (.ref fa) ⟨[.ref a], []⟩) (fun r s' => r = .ok (.ret (.bool true)) ∧ OldK s₁.heap s'.heap ∧ s'.os = s₁.os ∧ AllBare s'.gens) s₁) :
    WalkO q loose XP YP l.row.toRowW d [] (fun f vs => PySem.call f vs) := by
  intro w s₀ s₁ mg mb G Y fa o pm cd doc dV kV ho hd hcd hD hmg hg args vals as hpre hlay hrd hwl hlo
  obtain rfl : dV = .none := Dflts.none hD hdf
  obtain rfl : kV = .none := Dflts.noKw hD
  obtain ⟨a, vs, ns, rfl, rfl, hobj, hints, hlen⟩ := script_of hn hpre hwl
  refine enter_call (codeAny_mono (call w s₀ s₁ mg mb fa o pm cd doc a vs ns G Y ho (fd_plain hd) hcd hmg hobj hints hlen hg) fun r s' hq => ?_)
  obtain ⟨rfl, h2, h3, h4⟩ := hq
  exact ⟨.inl ⟨.bool true, .bool true, [], rfl, fun _ => rfl, .bool true, post_true l _, fun _ => ⟨List.Pairwise.nil, fun _ hm => (nomatch hm)⟩⟩, h2, h3, h4⟩

section
variable {prog : Program} {w : World} {A : Around} {E : Value → Shared → Prop} {s : Shared} {K : Frag}

def noObjs (h : Heap) : Heap := { h with objs := #[] }
def ledger (h : Heap) (L d : Addr) : List (Addr × Obj) := (List.range h.objs.size).filterMap fun a => if a = L ∨ a = d then none else (h.get? a).map fun o => (a, o)
end
end Att

namespace L2
open PySem PySem.Spec PyProof.Rows

theorem vals_ints : ∀ {vs : List Value} {ns : List Int}, IntsAre vs ns → Vals (ns.map V.int) vs
  | _, _, .nil => .nil
  | _, _, .cons n t h => .cons ⟨t, rfl⟩ (vals_ints h)

/-- nothing is tracked but the script, known to the object (or it is an object of the module) -/
def Only (H : Hp) : Prop := ∀ b, H b = none ∨ ∃ o xs, H b = some (.frz o (.lst xs))

/-- THE HEAD: the law's promise, at the heap behind the top. F, the promise of the law's def, may use that base is part of the heap (so K.In base, base.Ns mainGlobals mg stand in Mod) -/
theorem law_call {P : Program} {w : World} {K : PySem.W.Frag} {mg mb : Str → Option Value} {CX : CXT} {k : Nat} {fa a : Addr} {fd : FuncData} {x : Str} {sp : Sp} {s₁ : Shared} {vs : List Value} {ns : List Int}
    (KX : K.In s₁.heap) (hns : s₁.heap.Ns mainGlobals mg) (hb : s₁.heap.Ns builtinsNs mb) (hbb : ∀ x : Str, x ≠ "__name__" → mb x = bootBuiltins x) (hlim : s₁.heap.NoLimit) (hg : s₁.gens = #[])
    (ha : s₁.heap.get? a = some { cls := .type "list", data := .seq vs.toArray }) (hi : IntsAre vs ns) (hl : ns.length ≤ sizeLine) (hr : Room k callerA)
    (F : ∀ base : Heap, K.In base → base.Ns mainGlobals mg → FnOk P w K mg base CX k fa fd [x] sp) (hbind : ∀ (s : Shared) (u : Value), BindsTo s fd ⟨[u], []⟩ [(x, u)])
    (hsp : ∀ H : Hp, Only H → SqL K H a (ns.map V.int) → sp [.ref a] H (fun v _ => v = .bl true) fun _ _ _ => False)
    (hCX : ∀ H e s', CX [] H s₁ (fun _ _ _ => False) e s' → False) :
    codeAny (model P w) callerA (.call (.ref fa) ⟨[.ref a], []⟩) (fun r s' => r = .ok (.ret (.bool true)) ∧ OldK s₁.heap s'.heap ∧ s'.os = s₁.os ∧ AllBare s'.gens) s₁ := by
  have rv := vals_ints hi
  have lenV := hi.length
  -- from an abstract heap in which nothing but the script may be tracked
  have core : ∀ H : Hp, Only H → SqL K H a (ns.map V.int) → HOk P w H s₁.heap → (∀ b, H b ≠ none → b = a) → (H a ≠ none → K.lookup a = none) →
      codeAny (model P w) callerA (.call (.ref fa) ⟨[.ref a], []⟩) (fun r s' => r = .ok (.ret (.bool true)) ∧ OldK s₁.heap s'.heap ∧ s'.os = s₁.os ∧ AllBare s'.gens) s₁ := by
    intro H hO hS hok hA hK
    have base_of : ∀ {b : Addr} {o : Obj}, s₁.heap.get? b = some o → H b = none → (hidT s₁.heap H).get? b = some o := fun e n => hidT_get e n
    have noA : ∀ {b : Addr} {o : Obj} {es : Array DictEntry} {ep : Nat}, s₁.heap.get? b = some o → o.data = .dict es ep → H b = none := fun {b o es ep} e d => by
      cases q : H b with
      | none => rfl
      | some u =>
        have e' : b = a := hA b (by rw [q]; simp)
        subst e'
        rw [ha] at e; cases e
        have d' : Data.seq vs.toArray _ = Data.dict es ep := d
        cases d'
    have nsK : ∀ {b : Addr} {m : Str → Option Value}, s₁.heap.Ns b m → (hidT s₁.heap H).Ns b m := fun {b m} ⟨o, es, ep, e, d, r⟩ => ⟨o, es, ep, base_of e (noA e d), d, r⟩
    have hKb : K.In (hidT s₁.heap H) := fun b o e => base_of (KX b o e) (by
      cases q : H b with
      | none => rfl
      | some u =>
        have e' : b = a := hA b (by rw [q]; simp)
        subst e'
        rw [hK (by rw [q]; simp)] at e; cases e)
    have hM : Mod K mg (hidT s₁.heap H) := ⟨hKb, nsK hns, ⟨mb, nsK hb, hbb⟩, let ⟨mc, h1, h2⟩ := hlim; ⟨mc, nsK h1, h2⟩⟩
    have e0 : Env0 P w K mg (hidT s₁.heap H) callerA [] s₁ H := ⟨rfl, hM, fun b o e => of_hidT e, Nat.le_of_eq (hidT_size _ _), trivial, fun b hb => absurd (show b ∈ ([] : List Addr) from hb) (by simp), hok, .of_eq hg⟩
    refine codeAny_mono ((F _ hKb (nsK hns)).run callerA [] s₁ H ⟨[.ref a], []⟩ [.ref a] [.ref a] _ _ hr e0 (hbind s₁ (.ref a)) (.cons rfl .nil) (hsp H hO hS)) fun r s' h => ?_
    cases r with
    | error e => exact (hCX H e s' h).elim
    | ok fl =>
      cases fl with
      | next => exact False.elim h
      | brk => exact False.elim h
      | cont => exact False.elim h
      | ret u =>
        obtain ⟨v, H', os, bare, un, hok', r', q⟩ := h
        have q' : v = .bl true := q
        subst q'
        obtain rfl : u = Value.bool true := r'
        refine ⟨rfl, OldK.of_keep fun b o e => ?_, os, bare⟩
        cases q : H b with
        | none => exact un.keep b o e q (by intro z; exact absurd (show b ∈ ([] : List Addr) from z) (by simp)) (by simp)
        | some u =>
          rcases hO b with z | ⟨ob, xs, z⟩
          · rw [q] at z; cases z
          · have z2 := un.frzs b ob _ z
            obtain ⟨e1, _⟩ := hok b _ z
            obtain ⟨e2, _⟩ := hok' b _ z2
            rw [e] at e1; cases e1
            exact e2
  cases hk : K.lookup a with
  | some o =>
    -- the script is one of the module's own objects
    have e := KX a o hk
    rw [ha] at e
    cases e
    refine core (fun _ => none) (fun _ => .inl rfl) (.inr ⟨_, vs.toArray, _, hk, rfl, rfl, rfl, by rw [List.size_toArray, lenV]; exact hl, by simpa using rv⟩) (fun b u z => by have z' : (none : Option HO) = some u := z; cases z') (fun b z => absurd rfl z) fun z => absurd rfl z
  | none =>
    refine core (fun b => if b = a then some (.frz { cls := .type "list", data := .seq vs.toArray } (.lst (ns.map V.int))) else none) (fun b => ?_) (.inl (.inr ⟨{ cls := .type "list", data := .seq vs.toArray }, if_pos rfl⟩)) (fun b u z => ?_) (fun b z => ?_) fun _ => hk
    · by_cases hb : b = a
      · exact .inr ⟨_, _, if_pos hb⟩
      · exact .inl (if_neg hb)
    · by_cases hb : b = a
      · have z' := (if_pos hb).symm.trans z
        cases z'
        subst hb
        exact ⟨ha, by rw [List.length_map]; exact hl, vs, _, rv, ha⟩
      · have z' := (if_neg hb).symm.trans z
        cases z'
    · by_cases hb : b = a
      · exact hb
      · exact absurd (if_neg hb) z
end L2

namespace L2
open PySem PySem.Spec PyProof.Rows

abbrev KOf {K : PySem.W.Frag} {h : Heap} (_ : K.In h) : PySem.W.Frag := K

/-- the goal that k_head leaves (case hc), from the law's promise. F gives the function object fd (K's own) once, then the promise over every base -/
theorem walk_of {l : PySem.W.OpenLaw} {n k : Nat} {q : Program} {loose : List Str} {XP : (Str → Option Value) → Heap → Prop} {YP : World → Heap → Prop} {d : DefRec} {K : Params → PySem.W.Frag} {CX : World → CXT} {sp : World → Sp} {x : Str}
    (hn : l.most = some n) (hn2 : n ≤ sizeLine) (hdf : d.params.defaults = []) (hr : Room k callerA)
    (hY : ∀ (w : World) (h : Heap), YP w h → (K w.params).In h)
    (F : ∀ (w : World) (mg : Str → Option Value) (fa : Addr) (h : Heap), (K w.params).In h → h.Ns mainGlobals mg → mg d.name = some (.ref fa) →
      ∃ fd : FuncData, (∀ (s : Shared) (u : Value), BindsTo s fd ⟨[u], []⟩ [(x, u)]) ∧
        ∀ base : Heap, (K w.params).In base → base.Ns mainGlobals mg → FnOk l.prog w (K w.params) mg base (CX w) k fa fd [x] (sp w))
    (hsp : ∀ (w : World) (H : Hp) (a : Addr) (ns : List Int), ns.length ≤ n → Only H → SqL (K w.params) H a (ns.map V.int) → sp w [.ref a] H (fun v _ => v = .bl true) fun _ _ _ => False)
    (hCX : ∀ (w : World) (H : Hp) (s : Shared) (e : Value) (s' : Shared), CX w [] H s (fun _ _ _ => False) e s' → False) :
    PySem.W.WalkO q loose XP YP l.row.toRowW d [] (fun f vs => PySem.call f vs) := by
  refine Att.attach_call hn hdf fun w s₀ s₁ mg mb fa o pm cd doc a vs ns G Y ho hd hcd hmg hobj hints hlen hg => ?_
  have KX := hY w _ Y
  obtain ⟨fd, hb, hF⟩ := F w mg fa _ KX G.T.g hmg
  exact law_call KX G.T.g G.T.b G.T.builtins G.T.nolimit hg hobj hints (Nat.le_trans hlen hn2) hr hF hb (fun H hO hS => hsp w H a ns hlen hO hS) fun H e s' => hCX w H s₁ e s'
end L2



namespace L2
open PySem PySem.Spec PyProof.Rows

/-- the j-th statement of a class's body -/
def inClass (s : Stmt) (j : Nat) : Stmt := match s with
  | .ClassDef _ _ _ body _ _ _ _ _ _ _ => body.getD j (.Pass ⟨0, 0, 0, 0⟩)
  | _ => .Pass ⟨0, 0, 0, 0⟩
def defArgs (s : Stmt) : Arguments := match s with
  | .FunctionDef _ a _ _ _ _ _ _ _ _ => a
  | _ => { posonlyargs := [], args := [], vararg := none, kwonlyargs := [], kw_defaults := [], kwarg := none, defaults := [] }
def defBody (s : Stmt) : List Stmt := match s with
  | .FunctionDef _ _ b _ _ _ _ _ _ _ => b
  | _ => []
def defScope (s : Stmt) : Scope := match s with
  | .FunctionDef _ _ _ _ _ _ sc _ _ _ => sc
  | _ => { kind := .function, names := [], isGenerator := false, isCoroutine := false }

abbrev CX0 : CXT := fun _ _ _ _ _ _ => False
abbrev E0 : XK := fun _ _ _ => False
theorem pass0 {X : Cx} : Passes CX0 X E0 := fun _ _ _ _ _ _ _ h => h.elim

structure Fun (K : PySem.W.Frag) (x qual : Str) (st : Stmt) (f : Addr) (fd : FuncData) : Prop where
  ex : ∃ (oc : Value) (od : Option Addr) (kV doc pm : Value) (an : Option Addr) (cdv ct : Value) (osl : Array (Option Value)),
    fd = PySem.W.fnOf x qual (defArgs st) (defBody st) (defScope st) .none kV doc pm an cdv ct ∧ K.lookup f = some ⟨oc, od, .func fd, osl⟩ ∧ PySem.W.codeIn K cdv qual = true
  kp : PySem.W.keepIn K (.ref f) = true
section
variable {P : Program} {w : World} {K : PySem.W.Frag} {mg : Str → Option Value} {base : Heap}
/-- THE RULE for a def: its body as a term of rules, and the reading of that term -/
theorem Fun.ok {x qual : Str} {st : Stmt} {f : Addr} {fd : FuncData} {N ps : List Str} {k : Nat} {sp : Sp} (F : Fun K x qual st f fd) (S : FnScope N ps (defScope st)) (len : ∀ vs H Q E, sp vs H Q E → vs.length = ps.length)
    (hbody : ∀ (cdv : Value) (A : Around) (outer : List Env) (s : Shared) (H : Hp) (vs : List V) (Q : VK) (E : XK), Room k (A.deeper (envOfC qual (defScope st) s.heap.objs.size f cdv)) → sp vs H Q E →
      ∃ t, PSs (cxOf CX0 P w K mg base N qual (defScope st) f cdv A outer s H E).nox (defBody st) t ∧ t { nx := fun _ H' => Q .non H', rt := Q } (start N vs) H) : FnOk P w K mg base CX0 (k + 1) f fd ps sp := by
  obtain ⟨oc, od, kV, doc, pm, an, cdv, ct, osl, rfl, lk, hcd⟩ := F.ex
  refine fn_of lk hcd S len fun A outer s H vs Q E hr hsp => ?_
  obtain ⟨t, h, q⟩ := hbody cdv A outer s H vs Q E hr hsp
  exact ⟨t, h.nox, q⟩
/-- how its arguments bind (no defaults): h is «fun _ _ _ _ _ _ us hl => match us, hl with | [_, _], _ => rfl», one _ a parameter -/
theorem Fun.binds {x qual : Str} {st : Stmt} {f : Addr} {fd : FuncData} {ps : List Str} (F : Fun K x qual st f fd)
    (h : ∀ (kV doc pm : Value) (an : Option Addr) (cdv ct : Value) (us : List Value), us.length = ps.length → bindArgs (PySem.W.fnOf x qual (defArgs st) (defBody st) (defScope st) .none kV doc pm an cdv ct) ⟨us, []⟩ = pure (ps.zip us)) : Binds K fd ps [] := by
  obtain ⟨oc, od, kV, doc, pm, an, cdv, ct, osl, rfl, lk, hcd⟩ := F.ex
  exact .all (h kV doc pm an cdv ct)
theorem fun_mk {x qual : Str} {st : Stmt} {f : Addr} {oc : Value} {od an : Option Addr} {osl : Array (Option Value)} {kV doc pm cdv ct : Value} (l : K.lookup f = some ⟨oc, od, .func (PySem.W.fnOf x qual (defArgs st) (defBody st) (defScope st) .none kV doc pm an cdv ct), osl⟩)
    (c : PySem.W.codeIn K cdv qual = true) (k : PySem.W.keepIn K (.ref f) = true) : Fun K x qual st f (PySem.W.fnOf x qual (defArgs st) (defBody st) (defScope st) .none kV doc pm an cdv ct) := ⟨⟨oc, od, kV, doc, pm, an, cdv, ct, osl, rfl, l, c⟩, k⟩
end
section
variable {X : Cx}
theorem pv (i : Nat) {x : Str} {pos : Pos} (hN : X.N[i]? = some x := by rfl) (hv : Vis X.env.scope x := by first | exact Or.inl rfl | exact Or.inr (Or.inl rfl) | exact Or.inr (Or.inr rfl)) (hd : (x == ("__debug__" : Str)) = false := by decide)
    (hcd : (x == ("__classdict__" : Str)) = false := by decide) : PE X (.Name x pos) (tVar i) := pe_var hN hv hd hcd
end

theorem iteF {A B : Prop} (h : B) : if false = true then A else B := by
  rw [if_neg Bool.false_ne_true]
  exact h
theorem iteT {A B : Prop} (h : A) : if true = true then A else B := by
  rw [if_pos rfl]
  exact h
/-- all that was tracked is as it was -/
def Same (H H' : Hp) : Prop := ∀ b o, H b = some o → H' b = some o
theorem Same.refl (H : Hp) : Same H H := fun _ _ h => h
theorem Same.trans {H H1 H2 : Hp} (a : Same H H1) (b : Same H1 H2) : Same H H2 := fun c o h => b c o (a c o h)
theorem Same.free {H H' : Hp} (e : Same H H') {l : Addr} (h : H' l = Option.none) : H l = Option.none := by
  cases q : H l with
  | none => rfl
  | some o =>
    rw [e l o q] at h
    cases h
theorem Same.seq {K : PySem.W.Frag} {H H' : Hp} {a : Addr} {xs : List V} (e : Same H H') (h : SqL K H a xs) : SqL K H' a xs := by
  rcases h with (h | ⟨o, h⟩) | h
  · exact .inl (.inl (e _ _ h))
  · exact .inl (.inr ⟨o, e _ _ h⟩)
  · exact .inr h

end L2
namespace L2
open PySem PySem.Spec PyProof.Rows

section
variable {κ : Type} [DecidableEq κ]
def valV (kvs : List (κ × V)) (k : κ) : Option V := (kvs.find? fun kv => decide (kv.1 = k)).map (·.2)
/-- in its place, or at the end -/
def putK (kvs : List (κ × V)) (k : κ) (v : V) : List (κ × V) :=
  if (kvs.any fun kv => decide (kv.1 = k)) = true then kvs.map (fun kv => if kv.1 = k then (kv.1, v) else kv) else kvs ++ [(k, v)]
def dropK (kvs : List (κ × V)) (k : κ) : List (κ × V) := kvs.filter fun kv => decide (kv.1 ≠ k)

theorem valV_pos {p : κ × V} {r : List (κ × V)} {k : κ} (e : p.1 = k) : valV (p :: r) k = some p.2 := by simp [valV, List.find?_cons, e]
theorem valV_neg {p : κ × V} {r : List (κ × V)} {k : κ} (e : ¬ p.1 = k) : valV (p :: r) k = valV r k := by simp [valV, List.find?_cons, e]
theorem valV_any (k : κ) : ∀ kvs : List (κ × V), (kvs.any fun kv => decide (kv.1 = k)) = (valV kvs k).isSome
  | [] => rfl
  | p :: r => by
    rw [List.any_cons]
    by_cases e : p.1 = k
    · simp only [valV_pos e, decide_eq_true e, Bool.true_or, Option.isSome_some]
    · rw [valV_neg e, decide_eq_false e, Bool.false_or]; exact valV_any k r
theorem RelO.isSome_eq {o : Option V} {u : Option Value} (r : RelO o u) : o.isSome = u.isSome := by
  cases o with
  | none => cases u with
    | none => rfl
    | some _ => exact (show False from r).elim
  | some _ => cases u with
    | none => exact (show False from r).elim
    | some _ => rfl
theorem RelO.getD {o : Option V} {u : Option Value} {d : V} {d' : Value} (r : RelO o u) (rd : RelV d d') : RelV (o.getD d) (u.getD d') := by
  cases o with
  | none => cases u with
    | none => exact rd
    | some _ => exact (show False from r).elim
  | some _ => cases u with
    | none => exact (show False from r).elim
    | some _ => exact r

/-- raw tables of the same keys -/
theorem KV.val {kvs : List (κ × V)} {vs : List (κ × Value)} (r : KV kvs vs) (k : κ) : RelO (valV kvs k) (valueAt vs k) := by
  unfold KV at r
  induction r with
  | nil => exact True.intro
  | @cons p q ps qs h t ih =>
    obtain ⟨h1, h2⟩ := h
    by_cases e : p.1 = k
    · have e' : q.1 = k := h1.symm.trans e
      have b : valueAt (q :: qs) k = some q.2 := by simp [valueAt, List.find?_cons, e']
      rw [valV_pos e, b]; exact h2
    · have e' : ¬ q.1 = k := fun z => e (h1.trans z)
      have b : valueAt (q :: qs) k = valueAt qs k := by simp [valueAt, List.find?_cons, e']
      rw [valV_neg e, b]; exact ih
theorem KV.any {kvs : List (κ × V)} {vs : List (κ × Value)} (r : KV kvs vs) (k : κ) : (kvs.any fun kv => decide (kv.1 = k)) = vs.any fun kv => decide (kv.1 = k) := by
  unfold KV at r
  induction r with
  | nil => rfl
  | cons h t ih => rw [List.any_cons, List.any_cons, ih, h.1]
theorem KV.repl {kvs : List (κ × V)} {vs : List (κ × Value)} (r : KV kvs vs) (k : κ) {y : V} {u : Value} (ry : RelV y u) :
    KV (kvs.map fun kv => if kv.1 = k then (kv.1, y) else kv) (vs.map fun kv => if kv.1 = k then (kv.1, u) else kv) := by
  unfold KV at r ⊢
  induction r with
  | nil => exact .nil
  | @cons p q ps qs h t ih =>
    rw [List.map_cons, List.map_cons]
    refine .cons ?_ ih
    obtain ⟨h1, h2⟩ := h
    by_cases e : p.1 = k
    · rw [if_pos e, if_pos (h1.symm.trans e)]; exact ⟨h1, ry⟩
    · rw [if_neg e, if_neg (fun z => e (h1.trans z))]; exact ⟨h1, h2⟩
theorem KV.put {kvs : List (κ × V)} {vs : List (κ × Value)} (r : KV kvs vs) (k : κ) {y : V} {u : Value} (ry : RelV y u) : KV (putK kvs k y) (stored vs k u) := by
  unfold putK stored
  rw [r.any k]
  by_cases e : (vs.any fun kv => decide (kv.1 = k)) = true
  · rw [if_pos e, if_pos e]; exact r.repl k ry
  · rw [if_neg e, if_neg e]; exact Paired.snoc r ⟨rfl, ry⟩
theorem KV.drop {kvs : List (κ × V)} {vs : List (κ × Value)} (r : KV kvs vs) (k : κ) : KV (dropK kvs k) (without vs k) := by
  unfold KV at r ⊢
  unfold dropK without
  induction r with
  | nil => exact .nil
  | @cons p q ps qs h t ih =>
    obtain ⟨h1, h2⟩ := h
    rw [List.filter_cons, List.filter_cons]
    by_cases e : p.1 = k
    · have a : ¬ decide (p.1 ≠ k) = true := by simp [e]
      have b : ¬ decide (q.1 ≠ k) = true := by simp [h1.symm.trans e]
      rw [if_neg a, if_neg b]; exact ih
    · have e' : ¬ q.1 = k := fun z => e (h1.trans z)
      have a : decide (p.1 ≠ k) = true := by simp [e]
      have b : decide (q.1 ≠ k) = true := by simp [e']
      rw [if_pos a, if_pos b]; exact .cons ⟨h1, h2⟩ ih
theorem KV.keys {kvs : List (κ × V)} {vs : List (κ × Value)} (r : KV kvs vs) : kvs.map (·.1) = vs.map (·.1) := by
  unfold KV at r
  induction r with
  | nil => rfl
  | cons h t ih => rw [List.map_cons, List.map_cons, ih, h.1]
theorem KV.length {kvs : List (κ × V)} {vs : List (κ × Value)} (r : KV kvs vs) : kvs.length = vs.length := Paired.length r
end


/-- raw entries of a dict with tuple keys -/
abbrev KT (H : Hp) : List (List Key × V) → List (List Key × Addr × Value) → Prop := Paired fun p q => p.1 = q.1 ∧ H q.2.1 = some (.tup (p.1.map kV)) ∧ RelV p.2 q.2.2
theorem KT.val {H : Hp} {kvs : List (List Key × V)} {xs : List (List Key × Addr × Value)} (r : KT H kvs xs) (k : List Key) : RelO (valV kvs k) ((atKey xs k).map (·.2)) := by
  induction r with
  | nil => exact True.intro
  | @cons p q ps qs h t ih =>
    obtain ⟨h1, _, h2⟩ := h
    by_cases e : p.1 = k
    · have e' : q.1 = k := h1.symm.trans e
      have b : atKey (q :: qs) k = some q.2 := by simp [atKey, List.find?_cons, e']
      rw [valV_pos e, b]; exact h2
    · have e' : ¬ q.1 = k := fun z => e (h1.trans z)
      have b : atKey (q :: qs) k = atKey qs k := by simp [atKey, List.find?_cons, e']
      rw [valV_neg e, b]; exact ih
theorem KT.repl {H : Hp} {kvs : List (List Key × V)} {xs : List (List Key × Addr × Value)} (r : KT H kvs xs) (k : List Key) {y : V} {u : Value} (ry : RelV y u) :
    KT H (kvs.map fun kv => if kv.1 = k then (kv.1, y) else kv) (xs.map (putAt k u)) := by
  induction r with
  | nil => exact .nil
  | @cons p q ps qs h t ih =>
    rw [List.map_cons, List.map_cons]
    refine .cons ?_ ih
    obtain ⟨h1, h2, h3⟩ := h
    unfold putAt
    by_cases e : p.1 = k
    · rw [if_pos e, if_pos (h1.symm.trans e)]; exact ⟨h1, h2, ry⟩
    · rw [if_neg e, if_neg (fun z => e (h1.trans z))]; exact ⟨h1, h2, h3⟩
theorem KT.put {H : Hp} {kvs : List (List Key × V)} {xs : List (List Key × Addr × Value)} (r : KT H kvs xs) (k : List Key) {b : Addr} {y : V} {u : Value} (hb : H b = some (.tup (k.map kV))) (ry : RelV y u) :
    KT H (putK kvs k y) (storedH xs k b u) := by
  have e : (kvs.any fun kv => decide (kv.1 = k)) = (atKey xs k).isSome := by
    rw [valV_any, (r.val k).isSome_eq, Option.isSome_map]
  unfold putK storedH
  rw [e]
  by_cases q : (atKey xs k).isSome = true
  · rw [if_pos q, if_pos q]; exact r.repl k ry
  · rw [if_neg q, if_neg q]; exact Paired.snoc r ⟨rfl, hb, ry⟩
theorem KT.keeps {H H' : Hp} {kvs : List (List Key × V)} {xs : List (List Key × Addr × Value)} (r : KT H kvs xs) (ht : ∀ b ys, H b = some (.tup ys) → H' b = some (.tup ys)) : KT H' kvs xs :=
  Paired.mapP r fun _ _ z => ⟨z.1, ht _ _ z.2.1, z.2.2⟩

section
variable {P : Program} {w : World} {H : Hp} {h : Heap} {a : Addr}
end

/-- what the dict at a holds at the key y -/
def DGet (H : Hp) (a : Addr) (y : V) (r : Option V) : Prop :=
  (∃ kvs k, Rd H a (.dK kvs) ∧ y = kV k ∧ r = valV kvs k) ∨ ∃ kvs k b, Rd H a (.dT kvs) ∧ y = .ref b ∧ H b = some (.tup (k.map kV)) ∧ r = valV kvs k
/-- the heap behind a[y] = v -/
def DPut (H : Hp) (a : Addr) (y v : V) (H' : Hp) : Prop :=
  (∃ kvs k, H a = some (.dK kvs) ∧ y = kV k ∧ kvs.length < sizeLine ∧ H' = upd H a (.dK (putK kvs k v))) ∨
  ∃ kvs k b, H a = some (.dT kvs) ∧ y = .ref b ∧ H b = some (.tup (k.map kV)) ∧ kvs.length < sizeLine ∧ H' = upd H a (.dT (putK kvs k v))
theorem DGet.k {H : Hp} {a : Addr} {kvs : List (Key × V)} {k : Key} (e : H a = some (.dK kvs)) : DGet H a (kV k) (valV kvs k) := .inl ⟨kvs, k, .inl e, rfl, rfl⟩
theorem DGet.t {H : Hp} {a b : Addr} {kvs : List (List Key × V)} {k : List Key} (e : H a = some (.dT kvs)) (eb : H b = some (.tup (k.map kV))) : DGet H a (.ref b) (valV kvs k) := .inr ⟨kvs, k, b, .inl e, rfl, eb, rfl⟩
theorem DPut.k {H : Hp} {a : Addr} {kvs : List (Key × V)} {k : Key} {v : V} (e : H a = some (.dK kvs)) (hl : kvs.length < sizeLine) : DPut H a (kV k) v (upd H a (.dK (putK kvs k v))) := .inl ⟨kvs, k, e, rfl, hl, rfl⟩
theorem DPut.t {H : Hp} {a b : Addr} {kvs : List (List Key × V)} {k : List Key} {v : V} (e : H a = some (.dT kvs)) (eb : H b = some (.tup (k.map kV))) (hl : kvs.length < sizeLine) :
    DPut H a (.ref b) v (upd H a (.dT (putK kvs k v))) := .inr ⟨kvs, k, b, e, rfl, eb, hl, rfl⟩


section
variable {X : Cx} {pins : List (Addr × Obj)} {σ : St} {H : Hp} {s : Shared} {a : Addr} {y v : V} {u r : Value} {o : Option V} {A : Around} {E : Value → Shared → Prop}

end

section
variable {X : Cx} {pins : List (Addr × Obj)} {σ : St} {H : Hp} {s : Shared} {a : Addr} {kvs : List (Key × V)} {k : Key} {u : Value} {A : Around} {E : Value → Shared → Prop}
end


/-- the element of a subscription, not a slice -/
def NoSl (i : Expr) : Prop := ∀ ov iv, subscripted i false ov iv = operate [ov, iv] (getItem ov iv)
theorem subD_of {prog : Program} {w : World} {A : Around} {E : Value → Shared → Prop} {s : Shared} {env : Env} {value slice : Expr} {pos : Pos} {T id : String} {Q : Value → Shared → Prop}
    (hl : typeLookup (.type T) "__getitem__" = pure (some (.builtin id))) (hs : NoSl slice)
    (h : wpAny (model prog w) A (eval value env) (fun o s₁ => wpAny (model prog w) A (eval slice env) (fun i s₂ => s₂.TypeIs o T ∧ wpAny (model prog w) A (getItem o i) Q E s₂) E s₁) E s) :
    wpAny (model prog w) A (eval (.Subscript value slice pos) env) Q E s := by
  refine Subscript_ (wpAny_mono h (fun o s₁ h₁ => wpAny_mono h₁ (fun i s₂ h₂ => ?_) fun _ _ x => x) fun _ _ x => x)
  obtain ⟨hT, h₂⟩ := h₂
  unfold subscriptTail
  refine wpAny_bind ?_
  rw [getitemInPython_of_ne hT.not_modules]
  refine wpAny_bind (wpAny_specialOf hT hl ?_)
  have fin : wpAny (model prog w) A (subscripted slice false o i) (fun r s₃ => wpAny (model prog w) A (letTemporaryGo value o r >>= fun _ => pure r) Q E s₃) E s₂ := by
    rw [hs o i]
    exact wpAny_operating (wpAny_mono h₂ (fun r s₃ h₃ => wpAny_bind (wpAny_letTemporaryGo (wpAny_pure h₃))) fun _ _ x => x)
  first
    | exact wpAny_pure (wpAny_bind fin)
    | exact wpAny_bind (wpAny_pure (wpAny_bind fin))
    | exact wpAny_bind fin

/-- d[y] -/
def tDGet (td ty : TE) : TE := fun σ H Q => td σ H fun x H1 => ty σ H1 fun y H2 => ∃ a v, x = .ref a ∧ DGet H2 a y (some v) ∧ Q v H2
/-- y in d, y not in d -/
def tDIn (ty td : TE) : TE := fun σ H Q => ty σ H fun y H1 => td σ H1 fun x H2 => ∃ a o, x = .ref a ∧ DGet H2 a y o ∧ Q (.bl o.isSome) H2
def tDNotIn (ty td : TE) : TE := fun σ H Q => ty σ H fun y H1 => td σ H1 fun x H2 => ∃ a o, x = .ref a ∧ DGet H2 a y o ∧ Q (.bl (!o.isSome)) H2
/-- d[y] = v -/
def sDPut (td ty tv : TE) : TS := fun D σ H => tv σ H fun v H1 => td σ H1 fun x H2 => ty σ H2 fun y H3 => ∃ a H4, x = .ref a ∧ DPut H3 a y v H4 ∧ D.nx σ H4
/-- d[y] op= v -/
def sDAug (td ty tv : TE) (rd : V → V → Hp → VK → Prop) : TS := fun D σ H => td σ H fun x H1 => ty σ H1 fun y H2 => ∃ a v, x = .ref a ∧ DGet H2 a y (some v) ∧
  tv σ H2 fun y2 H3 => rd v y2 H3 fun z H4 => ∃ H5, DPut H4 a y z H5 ∧ D.nx σ H5
/-- del d[y] -/
def sDDel (td ty : TE) : TS := fun D σ H => td σ H fun x H1 => ty σ H1 fun y H2 => ∃ a kvs k, x = .ref a ∧ H2 a = some (.dK kvs) ∧ y = kV k ∧ (valV kvs k).isSome = true ∧ D.nx σ (upd H2 a (.dK (dropK kvs k)))

section
variable {X : Cx} {o i e value : Expr} {pos pos' tpos : Pos} {td ty tv : TE}
end


/-- {}, to be a dict of the kind that is wanted -/
def tDNewK : TE := fun _ H Q => ∀ p, H p = none → Q (.ref p) (upd H p (.dK []))
def tDNewT : TE := fun _ H Q => ∀ p, H p = none → Q (.ref p) (upd H p (.dT []))
section
variable {X : Cx} {pos : Pos}
end

/-- the pairs of a display, from the left -/
def tPairs : List (TE × TE) → St → Hp → (List (V × V) → Hp → Prop) → Prop
  | [], _, H, Q => Q [] H
  | (tk, tv) :: r, σ, H, Q => tk σ H fun x H1 => tv σ H1 fun y H2 => tPairs r σ H2 fun ps H3 => Q ((x, y) :: ps) H3
abbrev VV : List (V × V) → List (Value × Value) → Prop := Paired fun p q => RelV p.1 q.1 ∧ RelV p.2 q.2
def PPs (X : Cx) (pos : Pos) (keys : List (Option Expr)) (values : List Expr) (trs : List (TE × TE)) : Prop :=
  ∀ (pins : List (Addr × Obj)) (s : Shared) (σ : St) (H : Hp) (Q : List (V × V) → Hp → Prop), Inv X pins σ H s → tPairs trs σ H Q →
    wpAny (model X.prog X.w) X.A (evalPairs (pairTrees keys values X.env pos)) (fun vs s' => ∃ ps H', Inv X pins σ H' s' ∧ VV ps vs ∧ Q ps H') X.xe s
def mergeK (kvs more : List (Key × V)) : List (Key × V) := more.foldl (fun acc kv => putK acc kv.1 kv.2) kvs
/-- {k: v, ..} with keys ints and texts; the new dict stands empty while the pairs are made -/
def tDisp (trs : List (TE × TE)) : TE := fun σ H Q => ∀ p, H p = none → tPairs trs σ (upd H p (.dK [])) fun ps H2 => H2 p = some (.dK []) ∧ ∃ kvs : List (Key × V), ps = kvs.map (fun kv => (kV kv.1, kv.2)) ∧ kvs.length ≤ 15 ∧ Q (.ref p) (upd H2 p (.dK (mergeK [] kvs)))
/-- a method call o.m(e) of a built-in, with one argument: what must be seen of the text -/
structure M1 (X : Cx) (o : Expr) (m : Str) (apos : Pos) (e : Expr) (cpos : Pos) : Prop where
  base : attributeBase o m X.env (eval o X.env) = eval o X.env
  few : ((backTo cpos (starEach [e] X.env)).all (fun x => !x.1) && (backToKw cpos (keywordEach [] X.env)).all (fun x => x.1.isSome)
    && decide (([e] : List Expr).length + ([] : List Keyword).length + (if ([] : List Keyword).isEmpty then 0 else 1) < 30)) = true
  line : (apos.endLine == cpos.line) = true
  trees : backTo cpos (starEach [e] X.env) = [(false, eval e X.env)]
structure M2 (X : Cx) (o : Expr) (m : Str) (apos : Pos) (e f : Expr) (cpos : Pos) : Prop where
  base : attributeBase o m X.env (eval o X.env) = eval o X.env
  few : ((backTo cpos (starEach [e, f] X.env)).all (fun x => !x.1) && (backToKw cpos (keywordEach [] X.env)).all (fun x => x.1.isSome)
    && decide (([e, f] : List Expr).length + ([] : List Keyword).length + (if ([] : List Keyword).isEmpty then 0 else 1) < 30)) = true
  line : (apos.endLine == cpos.line) = true
  trees : backTo cpos (starEach [e, f] X.env) = [(false, eval e X.env), (false, eval f X.env)]

/-- a is a dict, whatever its keys -/
def IsD (H : Hp) (a : Addr) : Prop := (∃ kvs, Rd H a (.dK kvs)) ∨ ∃ kvs, Rd H a (.dT kvs)
section
variable {X : Cx} {pins : List (Addr × Obj)} {σ : St} {H : Hp} {s : Shared} {a : Addr} {y d : V} {u r : Value} {o : Option V} {A : Around} {E : Value → Shared → Prop}
end

def tDGet1 (td ty : TE) : TE := fun σ H Q => td σ H fun x H1 => ∃ a, x = .ref a ∧ IsD H1 a ∧ ty σ H1 fun y H2 => ∃ o, DGet H2 a y o ∧ Q (o.getD .non) H2
def tDGet2 (td ty tx : TE) : TE := fun σ H Q => td σ H fun x H1 => ∃ a, x = .ref a ∧ IsD H1 a ∧ ty σ H1 fun y H2 => tx σ H2 fun z H3 => ∃ o, DGet H3 a y o ∧ Q (o.getD z) H3
/-- d.pop(k): there; d.pop(k, x): there or not -/
def tDPop1 (td ty : TE) : TE := fun σ H Q => td σ H fun x H1 => ∃ a, x = .ref a ∧ IsD H1 a ∧ ty σ H1 fun y H2 => ∃ kvs k v, H2 a = some (.dK kvs) ∧ y = kV k ∧ valV kvs k = some v ∧ Q v (upd H2 a (.dK (dropK kvs k)))
def tDPop2 (td ty tx : TE) : TE := fun σ H Q => td σ H fun x H1 => ∃ a, x = .ref a ∧ IsD H1 a ∧ ty σ H1 fun y H2 => tx σ H2 fun z H3 => ∃ kvs k, H3 a = some (.dK kvs) ∧ y = kV k ∧
  (∀ v, valV kvs k = some v → Q v (upd H3 a (.dK (dropK kvs k)))) ∧ (valV kvs k = none → Q z H3)
section
variable {X : Cx} {o e f : Expr} {apos cpos : Pos} {td ty tx : TE}
end

section
variable {X : Cx} {pins : List (Addr × Obj)} {σ : St} {H : Hp} {s : Shared} {a : Addr} {kvs : List (Key × V)} {A : Around} {E : Value → Shared → Prop}
end


section
variable {X : Cx} {pins : List (Addr × Obj)} {σ : St} {H : Hp} {s : Shared} {a : Addr} {y : V} {u : Value} {A : Around} {E : Value → Shared → Prop}
end
end L2


set_option Elab.async false
set_option maxRecDepth 100000
namespace L2
open PySem PySem.Spec PyProof.Rows
theorem sum_ones : ∀ (cs : List Nat), ((cs.map fun c => (⟨#[c]⟩ : Str)).map (·.length)).sum = cs.length
  | [] => rfl
  | c :: cs => by
    have := sum_ones cs
    simp only [List.map_cons, List.sum_cons, this, List.length_cons]
    show 1 + cs.length = _
    omega
theorem sing_lt (a b : Nat) : ([a] < [b]) ↔ a < b := by
  rw [List.cons_lt_cons_iff]
  simp
end L2

set_option Elab.async false
set_option maxRecDepth 100000
namespace L2
open PySem PySem.Spec PyProof.Rows

def tCut (Pv : St → Hp → Prop) (t u : TS) : TS := fun D σ H => t { D with nx := Pv } σ H ∧ ∀ σ H, Pv σ H → u D σ H
def clOf (scope : Scope) (env : Env) : List (Str × Addr) :=
  (scope.names.filterMap fun p => if p.2 == NameKind.free then (env.cells.lookup p.1).map fun c => (p.1, c) else none).reverse

theorem closure_loop {env : Env} : ∀ (names : List (Str × NameKind)) (acc : List (Str × Addr)), (∀ y ∈ names, y.2 = .free → ∃ c, env.cells.lookup y.1 = some c) →
    (forIn names acc fun (x : Str × NameKind) (cs : List (Str × Addr)) => (match x with
      | (name, kind) => if (kind == NameKind.free) = true then do
          let c ← cellOf env name
          pure (ForInStep.yield ((name, c) :: cs))
        else pure (ForInStep.yield cs) : Sem (ForInStep (List (Str × Addr))))) =
      pure ((names.filterMap fun p => if p.2 == NameKind.free then (env.cells.lookup p.1).map fun c => (p.1, c) else none).reverse ++ acc)
  | [], acc, _ => rfl
  | (n, k) :: r, acc, h => by
    rw [List.forIn_cons]
    by_cases hk : k = .free
    · subst hk
      obtain ⟨c, hc⟩ := h (n, .free) List.mem_cons_self rfl
      have e1 : cellOf env n = pure c := by unfold cellOf; rw [hc]
      have ih := closure_loop r ((n, c) :: acc) fun y hy => h y (List.mem_cons_of_mem _ hy)
      simp only [beq_self_eq_true, if_true, e1, pure_bind, List.filterMap_cons, hc, Option.map_some, List.reverse_cons, List.append_assoc, List.singleton_append]
      exact ih
    · have hb : (k == NameKind.free) = false := by simpa using hk
      have ih := closure_loop r acc fun y hy => h y (List.mem_cons_of_mem _ hy)
      simp only [hb, Bool.false_eq_true, if_false, pure_bind, List.filterMap_cons]
      exact ih

theorem closureFor_eq {scope : Scope} {env : Env} (h : ∀ y ∈ scope.names, y.2 = .free → ∃ c, env.cells.lookup y.1 = some c) : closureFor scope env = pure (clOf scope env) := by
  have e := closure_loop (env := env) scope.names [] h
  unfold closureFor
  rw [List.append_nil] at e
  exact (congrArg (· >>= pure) e).trans (by rfl)

theorem clOf_mem {scope : Scope} {env : Env} {y : Str} {c : Addr} (h : (y, c) ∈ clOf scope env) : (y, NameKind.free) ∈ scope.names ∧ env.cells.lookup y = some c := by
  unfold clOf at h
  obtain ⟨⟨n, k⟩, hp, e⟩ := List.mem_filterMap.mp (List.mem_reverse.mp h)
  by_cases hk : k = .free
  · subst hk
    simp only [beq_self_eq_true, if_true] at e
    cases hc : env.cells.lookup n with
    | none => rw [hc] at e; cases e
    | some c' =>
      rw [hc] at e
      have e' : (n, c') = (y, c) := Option.some.inj e
      cases e'
      exact ⟨hp, hc⟩
  · have hb : (k == NameKind.free) = false := by simpa using hk
    simp only [hb, Bool.false_eq_true, if_false] at e
    cases e
theorem clOf_sub {scope : Scope} {env : Env} {y : Str} {c : Addr} (h : (clOf scope env).lookup y = some c) : env.cells.lookup y = some c := (clOf_mem (PySem.mem_of_lookup h)).2
theorem lookup_of_mem {α : Type} {y : Str} : ∀ {l : List (Str × α)} {c : α}, (y, c) ∈ l → ∃ c', l.lookup y = some c'
  | (n, a) :: r, c, h => by
    by_cases e : y = n
    · subst e; exact ⟨a, by simp [List.lookup_cons]⟩
    · have hb : (y == n) = false := by simpa using e
      rcases List.mem_cons.mp h with h | h
      · cases h; exact absurd rfl e
      · obtain ⟨c', h'⟩ := lookup_of_mem h
        exact ⟨c', by simp [List.lookup_cons, hb, h']⟩
theorem clOf_has {scope : Scope} {env : Env} {y : Str} {c : Addr} (h1 : (y, NameKind.free) ∈ scope.names) (h2 : env.cells.lookup y = some c) : (clOf scope env).lookup y = some c := by
  have m : (y, c) ∈ clOf scope env := by
    unfold clOf
    exact List.mem_reverse.mpr (List.mem_filterMap.mpr ⟨(y, .free), h1, by simp [h2]⟩)
  obtain ⟨c', h'⟩ := lookup_of_mem m
  have := clOf_sub h'
  rw [h2] at this
  cases this
  exact h'
theorem relabel_free {scope : Scope} {env : Env} (hcell : ∀ y ∈ scope.names, y.2 ≠ .cell) {y : Str} (h : (relabel scope env).names.lookup y = some .cell ∨ (relabel scope env).names.lookup y = some .free) : (y, NameKind.free) ∈ scope.names := by
  have m : ∃ k, (k = .cell ∨ k = .free) ∧ (y, k) ∈ (relabel scope env).names := by
    rcases h with h | h
    · exact ⟨_, .inl rfl, PySem.mem_of_lookup h⟩
    · exact ⟨_, .inr rfl, PySem.mem_of_lookup h⟩
  obtain ⟨k, hk, hm⟩ := m
  unfold relabel at hm
  obtain ⟨⟨n, k'⟩, hp, e⟩ := List.mem_map.mp hm
  dsimp only at e
  by_cases hf : k' = .free
  · subst hf
    split at e <;> (cases e; exact hp)
  · have hb : (k' == NameKind.free) = false := by simpa using hf
    rw [hb, Bool.false_and, Bool.false_and, if_neg (by decide)] at e
    cases e
    rcases hk with hk | hk
    · exact absurd hk (hcell _ hp)
    · exact absurd hk hf

def cxComp (X : Cx) (N : List Str) (scope : Scope) (C : Addr) (s : Shared) (H : Hp) (fp : List Addr) : Cx where
  prog := X.prog
  w := X.w
  K := X.K
  mg := X.mg
  base := X.base
  A := X.A
  N := N
  s₀ := s
  H₀ := H
  env := compEnvC scope (clOf scope X.env) C X.env
  outer := X.stack
  stack := X.stack
  ex := fp
  fn := fun _ => false
  calm := true
  pn := []
  xe := fun _ _ => False

/-- the captured names and their slots in the frame around -/
def Caps (X : Cx) (scope : Scope) : List Str → List Nat → Prop
  | [], [] => True
  | x :: xs, i :: is => (X.N[i]? = some x ∧ (X.env.scope.names.lookup x = some .cell ∨ X.env.scope.names.lookup x = some .free) ∧ scope.names.lookup x = some .free) ∧ Caps X scope xs is
  | _, _ => False
theorem Caps.len {X : Cx} {scope : Scope} : ∀ {xs : List Str} {is : List Nat}, Caps X scope xs is → is.length = xs.length
  | [], [], _ => rfl
  | _ :: _, _ :: _, h => congrArg (· + 1) (Caps.len h.2)
  | [], _ :: _, h => h.elim
  | _ :: _, [], h => h.elim
theorem Caps.at {X : Cx} {scope : Scope} : ∀ {xs : List Str} {is : List Nat} {j : Nat} {x : Str}, Caps X scope xs is → xs[j]? = some x → ∃ i, is[j]? = some i ∧ X.N[i]? = some x ∧ (X.env.scope.names.lookup x = some .cell ∨ X.env.scope.names.lookup x = some .free) ∧ scope.names.lookup x = some .free
  | [], [], _, _, _, e => by simp at e
  | y :: _, i :: _, 0, x, h, e => by
    simp at e; subst e
    exact ⟨i, rfl, h.1⟩
  | _ :: xs, _ :: is, j + 1, x, h, e => by
    obtain ⟨i, h1, h2⟩ := Caps.at (j := j) h.2 (by simpa using e)
    exact ⟨i, by simpa using h1, h2⟩
  | [], _ :: _, _, _, h, _ => h.elim
  | _ :: _, [], _, _, h, _ => h.elim

/-- the block's slots: the loop's name, then the captured ones -/
def inner (cap : List Nat) (σ : St) : St := none :: cap.map fun i => (σ[i]?).join

def PTs (X : Cx) (ifs : List Expr) (t : TT) : Prop :=
  ∀ (pins : List (Addr × Obj)) (s : Shared) (σ : St) (H : Hp) (Q : Bool → Hp → Prop), Inv X pins σ H s → t σ H Q →
    wpAny (model X.prog X.w) X.A (forIn ifs true fun c r => if r = true then do let ok ← isTrue c X.env (eval c X.env); pure (ForInStep.yield ok) else pure (ForInStep.yield r)) (TP X pins σ Q) X.xe s
def tYes : TT := fun _ H Q => Q true H
theorem pts_nil {X : Cx} : PTs X [] tYes := fun _ _ _ H _ I h => wpAny_tests_nil ⟨H, I, h⟩
theorem pts_one {X : Cx} {c : Expr} {t : TT} (h : PT X c t) : PTs X [c] t := fun pins s σ H Q I q => wpAny_tests_one (h pins s σ H Q I q)

/-- the turn of a list comprehension, the step ahead of the store kept -/
theorem compLoop_any {prog : Program} {w : World} {A : Around} {R : Result → Shared → Prop} {s : Shared} {elt target iter : Expr} {ifs : List Expr} {scope : Scope} {pos : Pos} {it acc : Value} {env : Env} (I : Nat → Shared → Prop)
    (turn : ∀ n s, I n s → wpAny (model prog w) A (pyNext it) (fun r s₁ => match r with
      | none => R (.ok .next) s₁
      | some v => wpAny (model prog w) A (letOwnedTupleGo target it v) (fun _ s₁' => wpAny (model prog w) A (assign target env v) (fun _ s₂ =>
          wpAny (model prog w) A (forIn ifs true fun c r => if r = true then do let ok ← isTrue c env (eval c env); pure (ForInStep.yield ok) else pure (ForInStep.yield r)) (fun ok s₃ =>
            if ok = true then wpAny (model prog w) A (eval elt env) (fun x s₄ =>
              wpAny (model prog w) A (call (.builtin "list.append") [acc, x]) (fun _ s₅ => ∃ m, m < n ∧ I m s₅) (fun _ _ => False) s₄) (fun _ _ => False) s₃
            else ∃ m, m < n ∧ I m s₃) (fun _ _ => False) s₂) (fun _ _ => False) s₁') (fun _ _ => False) s₁) (fun _ _ => False) s)
    (n : Nat) (h : I n s) :
    codeAny (model prog w) A (.compLoop (.ListComp elt [⟨target, iter, ifs, 0⟩] scope pos) 0 it acc env) R s := by
  refine codeAny_loop rfl I (fun n s hI => ?_) n h
  show wpAny _ A ((compTurn (.ListComp elt [⟨target, iter, ifs, 0⟩] scope pos) 0 it acc env).onRaise (fun x => do noteFrame x env; theTreesLotGoes x)) _ _ s
  refine wpAny_noted ?_
  rw [compTurn_list]
  refine wpAny_bind (wpAny_standAt (wpAny_bind (wpAny_mono (turn n s hI) (fun r s₁ h₁ => ?_) fun _ _ h' => h'.elim)))
  cases r with
  | none => exact wpAny_pure h₁
  | some v =>
    refine wpAny_bind (wpAny_mono h₁ (fun _ s₁' h₁' => ?_) fun _ _ h' => h'.elim)
    refine wpAny_bind (wpAny_mono h₁' (fun _ s₂ h₂ => wpAny_bind (wpAny_mono h₂ (fun ok s₃ h₃ => ?_) fun _ _ h' => h'.elim)) fun _ _ h' => h'.elim)
    cases ok with
    | false => exact wpAny_pure ⟨rfl, h₃⟩
    | true =>
      exact wpAny_bind (wpAny_bind (wpAny_mono h₃ (fun x s₄ h₄ => wpAny_bind (wpAny_mono h₄ (fun _ s₅ h₅ => wpAny_pure (wpAny_pure ⟨rfl, h₅⟩)) fun _ _ h' => h'.elim)) fun _ _ h' => h'.elim))

/-- [elt for x in iter if ..] : W the invariant: the turn, a measure, the list so far, the heap -/
def tComp (cap : List Nat) (wi : TI) (tc : TT) (te : TE) : TE := fun σ H Q => wi σ H fun J H1 => ∀ p, H1 p = none →
  ∃ W : Nat → Nat → List V → Hp → Prop, (∃ m, W 0 m [] (upd H1 p (.lst []))) ∧ ∀ i m xs H2, W i m xs H2 →
    (J.stop i H2 ∧ Q (.ref p) H2) ∨ (J.go i H2 ∧ ∃ N : List V → Hp → Prop, (∀ xs' H', N xs' H' → ∃ m', m' < m ∧ W (i + 1) m' xs' H') ∧
      ∀ x H3, J.yld i H2 x H3 → tc ((inner cap σ).set 0 (some x)) H3 fun b H5 => if b = true then te ((inner cap σ).set 0 (some x)) H5 fun v H6 => H6 p = some (.lst xs) ∧ xs.length < sizeLine ∧ N (xs ++ [v]) (upd H6 p (.lst (xs ++ [v]))) else N xs H5)

section
variable {X : Cx} {pins : List (Addr × Obj)} {σ : St}

structure CompScope (X : Cx) (scope : Scope) : Prop where
  cell : ∀ y ∈ scope.names, y.2 ≠ .cell
  kind : scope.kind = .function
  names : ∀ y ∈ scope.names, y.2 = .local → scope.names.lookup y.1 = some .local
  free : ∀ y ∈ scope.names, y.2 = .free → X.env.scope.names.lookup y.1 = some .cell ∨ X.env.scope.names.lookup y.1 = some .free

theorem CompScope.clos {scope : Scope} {H : Hp} {s : Shared} (S : CompScope X scope) (I : Inv X pins σ H s) : closureFor scope X.env = pure (clOf scope X.env) :=
  closureFor_eq fun y hy hf => I.ok.has y.1 (S.free y hy hf)

/-- the block's own invariant at its entry -/
theorem comp_start {scope : Scope} {x : Str} {cn : List Str} {cap : List Nat} {s3 : Shared} {H3 : Hp} {fp : List Addr} {h₁ : Heap} {tk : Nat} {H2 : Hp} (S : CompScope X scope) (I : Inv X pins σ H3 s3) (hc : X.calm = true) (hcap : Caps X scope cn cap)
    (f2 : ∀ b ∈ fp, FpOk X pins H2 b) (lt : ∀ b ∈ fp, b < s3.heap.objs.size) (keep : ∀ b o, s3.heap.get? b = some o → h₁.get? b = some o) (hns : h₁.Ns s3.heap.objs.size fun _ => none) :
    Inv (cxComp X (x :: cn) scope s3.heap.objs.size s3 H3 fp) [] (inner cap σ) H3 { s3 with heap := h₁, toks := tk } := by
  have noS : ∀ b o, X.base.get? b = some o → b < X.s₀.heap.objs.size := fun b o e => Nat.lt_of_lt_of_le (Heap.lt_size e) I.ok.bsz
  refine ⟨⟨I.ok.mod, S.kind, I.ok.glob, I.ok.blt, Nat.le_refl _, fun y z c h1 h2 => I.ok.inj y z c (clOf_sub h1) (clOf_sub h2), fun y hy => ?_, fun y c h => ?_, fun _ => I.ok.hd hc, I.ok.frames, .inl rfl, fun b hb => ⟨Nat.ne_of_lt (lt b hb), fun y c h => (f2 b hb).2.2.2.2.1 y c (clOf_sub h)⟩,
    I.bs, Nat.le_trans I.ok.bsz I.sz, fun b o e hb => ?_, fun b hb z => ?_, I.stack, I.stkFree⟩, rfl, I.bare, Un.kept keep, ⟨_, hns, fun i y v e1 e2 e3 => ?_⟩, fun y c e => ?_, I.hok.fresh (Nat.le_refl _), fun y c e => I.freeC y c (clOf_sub e), fun p hp => absurd (show p ∈ ([] : List (Addr × Obj)) from hp) (by simp), I.hok.kept keep, ?_⟩
  · have m := relabel_free S.cell hy
    obtain ⟨c, hc'⟩ := I.ok.has y (S.free _ m rfl)
    exact ⟨c, clOf_has m hc'⟩
  · cases h
  · rcases (f2 b hb).2.2.2.1 with z | z
    · exact I.ok.noex b o e z
    · exact absurd (Nat.lt_of_lt_of_le (noS b o e) z) (Nat.lt_irrefl _)
  · rcases List.mem_cons.mp (I.stkSub b z) with e | e
    · exact (f2 b hb).2.1 e
    · exact (f2 b hb).2.2.1 e
  · cases i with
    | zero =>
      have e2 : (some none : Option (Option V)) = some (some v) := e2
      cases e2
    | succ j =>
      have e1 : cn[j]? = some y := e1
      obtain ⟨k, hk, hN, hkind, hfr⟩ := hcap.at e1
      have e2 : (cap.map fun i => (σ[i]?).join)[j]? = some (some v) := e2
      rw [List.getElem?_map, hk] at e2
      have e2 : (σ[k]?).join = some v := Option.some.inj e2
      have e2 : σ[k]? = some (some v) := by
        cases q : σ[k]? with
        | none => rw [q] at e2; cases e2
        | some o => rw [q] at e2; cases o with
          | none => cases e2
          | some v' => have e2 : some v' = some v := e2; rw [e2]
      obtain ⟨m, hn, hl⟩ := I.loc
      obtain ⟨u, r, l⟩ := hl k y v hN e2 (.inr hkind)
      refine ⟨u, r, ?_⟩
      rcases l with ⟨kl, _⟩ | ⟨_, c, hc', o, ho, hd⟩
      · have kl : X.env.scope.names.lookup y = some .local := kl
        rw [kl] at hkind
        rcases hkind with z | z <;> cases z
      · refine .inr ⟨?_, c, clOf_has (PySem.mem_of_lookup hfr) hc', o, keep c o ho, hd⟩
        rcases e3 with z | z
        · -- relabelled local: the name is local in the block
          exfalso
          have z : (relabel scope X.env).names.lookup y = some .local := z
          have hm := PySem.mem_of_lookup z
          unfold relabel at hm
          obtain ⟨⟨n, k'⟩, hp, e⟩ := List.mem_map.mp hm
          dsimp only at e
          have hl2 : (y, NameKind.local) ∈ scope.names := by
            split at e
            · cases e
            · cases e; exact hp
          have := S.names _ hl2 rfl
          rw [hfr] at this
          cases this
        · exact z
  · obtain ⟨v, o, ho, hd⟩ := I.cell y c (clOf_sub e)
    exact ⟨v, o, keep c o ho, hd⟩
  · show (inner cap σ).length = (x :: cn).length
    unfold inner
    rw [List.length_cons, List.length_map, hcap.len, List.length_cons]

/-- the block's end, back in the frame around -/
theorem comp_out {scope : Scope} {N : List Str} {C : Addr} {s3 s' : Shared} {H2 H3 Hf : Hp} {fp : List Addr} {pins' : List (Addr × Obj)} {σ' : St} (I : Inv X pins σ H3 s3) (J : Inv (cxComp X N scope C s3 H3 fp) pins' σ' Hf s') (f2 : ∀ b ∈ fp, FpOk X pins H2 b) : Inv X pins σ Hf s' :=
  I.call' (ch := fp) J.os J.base J.hok J.bare fun b hb => ⟨(f2 b hb).2.2.2.1, (f2 b hb).2.1, (f2 b hb).2.2.2.2.1, (f2 b hb).2.2.2.2.2⟩

theorem comp_core {scope : Scope} {x : Str} {px pos : Pos} {elt iter : Expr} {ifs : List Expr} {cn : List Str} {cap : List Nat} {s2 : Shared} {H2 : Hp} {it : Addr} {fp : List Addr} {tn : Nat → Heap → Prop} {J : It} {tc : TT} {te : TE} {Q : VK} {RR : Value → Addr → Result → Shared → Prop} {E : Value → Shared → Prop}
    (S : CompScope X scope) (I2 : Inv X pins σ H2 s2) (hc : X.calm = true) (hcap : Caps X scope cn cap) (hx : scope.names.lookup x = some .local) (hnd : (x :: cn).Nodup)
    (T : Turn X.prog X.w X.K (.Name x px) J fp it tn) (st2 : tn 0 s2.heap) (f2 : ∀ b ∈ fp, FpOk X pins H2 b)
    (body : ∀ (C : Addr) (s : Shared) (H : Hp) (fp : List Addr), PTs (cxComp X (x :: cn) scope C s H fp) ifs tc ∧ PE (cxComp X (x :: cn) scope C s H fp) elt te)
    (q : ∀ p, H2 p = none → ∃ W : Nat → Nat → List V → Hp → Prop, (∃ m, W 0 m [] (upd H2 p (.lst []))) ∧ ∀ i m xs H3, W i m xs H3 →
      (J.stop i H3 ∧ Q (.ref p) H3) ∨ (J.go i H3 ∧ ∃ N : List V → Hp → Prop, (∀ xs' H', N xs' H' → ∃ m', m' < m ∧ W (i + 1) m' xs' H') ∧
        ∀ v H4, J.yld i H3 v H4 → tc ((inner cap σ).set 0 (some v)) H4 fun b H5 => if b = true then te ((inner cap σ).set 0 (some v)) H5 fun v H6 => H6 p = some (.lst xs) ∧ xs.length < sizeLine ∧ N (xs ++ [v]) (upd H6 p (.lst (xs ++ [v]))) else N xs H5))
    (hRR : ∀ (p C : Addr) (s3 s' : Shared) (H3 Hf : Hp) (σ' : St), Inv X pins σ H3 s3 → s3.heap.objs.size = C → Inv (cxComp X (x :: cn) scope C s3 H3 fp) [] σ' Hf s' → Q (.ref p) Hf → RR (.ref p) C (.ok .next) s') :
    wpAny (model X.prog X.w) X.A (newList []) (fun acc s₃ => wpAny (model X.prog X.w) X.A (newFunctionEnv scope X.env.globals (clOf scope X.env) [] X.env.qual none .none (some X.env)) (fun cenv s₄ =>
      codeAny (model X.prog X.w) X.A (.compStart (.ListComp elt [⟨.Name x px, iter, ifs, 0⟩] scope pos) 0 (.ref it) acc { cenv with scope := relabel scope X.env }) (RR acc cenv.locals) s₄) E s₃) E s2 := by
  refine wpAny_newObj_type (wpAny_newFunctionEnv S.cell (by intro y hy; simp at hy) (fun h₁ hns₁ hsb₁ => ?_) S.kind)
  dsimp only at hns₁ hsb₁ ⊢
  have hfr : H2 s2.heap.objs.size = none := I2.hok.fresh (Nat.le_refl _)
  obtain ⟨W, ⟨m0, w0⟩, turn⟩ := q _ hfr
  have I3 : Inv X pins σ (upd H2 s2.heap.objs.size (.lst [])) { s2 with heap := s2.heap.push { cls := .type "list", data := .seq ([] : List Value).toArray } } :=
    I2.lnew (its := []) (t' := s2.toks) .nil (Nat.zero_le _)
  generalize hs3 : ({ s2 with heap := s2.heap.push { cls := .type "list", data := .seq ([] : List Value).toArray } } : Shared) = s3 at I3
  have hs3h : s3.heap = s2.heap.push { cls := .type "list", data := .seq ([] : List Value).toArray } := by rw [← hs3]
  have hst3 : tn 0 s3.heap := T.keep _ _ _ st2 fun b hb o e => by rw [hs3h]; exact Heap.get?_push_of_some _ e
  have ltf : ∀ b ∈ fp, b < s3.heap.objs.size := fun b hb => by
    obtain ⟨o, e, _⟩ := T.obj _ _ hst3 b hb
    exact Heap.lt_size e
  have hC : (s2.heap.push { cls := .type "list", dict := none, data := .seq ([] : List Value).toArray }).objs.size = s3.heap.objs.size := by rw [hs3h]
  rw [hC] at hns₁ hsb₁ ⊢
  have keep : ∀ b o, s3.heap.get? b = some o → h₁.get? b = some o := fun b o e => by
    refine hsb₁.extBut b o (Nat.ne_of_lt (Heap.lt_size e)) (Heap.get?_push_of_some _ ?_)
    rw [hs3h] at e
    exact e
  have J4 : Inv (cxComp X (x :: cn) scope s3.heap.objs.size s3 (upd H2 s2.heap.objs.size (.lst [])) fp) [] (inner cap σ) (upd H2 s2.heap.objs.size (.lst [])) { s3 with heap := h₁, toks := s2.toks + ([] : List (Str × Value)).length } :=
    comp_start S I3 hc hcap f2 ltf keep hns₁
  have st4 : tn 0 h₁ := T.keep _ _ _ hst3 fun b hb o e => keep b o e
  have fr4 : ∀ b ∈ fp, (upd H2 s2.heap.objs.size (.lst [])) b = none := fun b hb => by
    obtain ⟨o, e, _⟩ := T.obj _ _ st2 b hb
    rw [upd_ne (Nat.ne_of_lt (Heap.lt_size e))]
    exact (f2 b hb).1
  have hst : ({ s2 with heap := h₁, toks := s2.toks + ([] : List (Str × Value)).length } : Shared) = { s3 with heap := h₁, toks := s2.toks + ([] : List (Str × Value)).length } := by rw [← hs3]
  have loop : codeAny (model X.prog X.w) X.A (.compLoop (.ListComp elt [⟨.Name x px, iter, ifs, 0⟩] scope pos) 0 (.ref it) (.ref s2.heap.objs.size) (compEnvC scope (clOf scope X.env) s3.heap.objs.size X.env))
      (RR (.ref s2.heap.objs.size) s3.heap.objs.size) { s2 with heap := h₁, toks := s2.toks + ([] : List (Str × Value)).length } := by
    rw [hst]
    generalize hX' : cxComp X (x :: cn) scope s3.heap.objs.size s3 (upd H2 s2.heap.objs.size (.lst [])) fp = X' at J4
    have hfpk : ∀ {Hc : Hp}, (∀ b ∈ fp, Hc b = none) → ∀ b ∈ fp, FpOk X' [] Hc b := fun {Hc} hn b hb => by
      subst hX'
      refine ⟨hn b hb, (J4.ok.exf b hb).1, J4.ok.exfs b hb, .inl hb, (J4.ok.exf b hb).2, fun p hp => absurd (show p ∈ ([] : List (Addr × Obj)) from hp) (by simp)⟩
    refine compLoop_any (fun n s' => ∃ i xs Hc, Inv X' [] (inner cap σ) Hc s' ∧ tn i s'.heap ∧ (∀ b ∈ fp, Hc b = none) ∧ W i n xs Hc) ?_ m0 ⟨0, [], _, J4, st4, fr4, w0⟩
    rintro n s5 ⟨i, xs, Hc, I5, st5, fr5, w5⟩
    have B := body s3.heap.objs.size s3 (upd H2 s2.heap.objs.size (.lst [])) fp
    rcases turn i n xs Hc w5 with ⟨stop, qn⟩ | ⟨go, N, hN, step⟩
    · subst hX'
      refine thn (T.done (cxComp X (x :: cn) scope s3.heap.objs.size s3 (upd H2 s2.heap.objs.size (.lst [])) fp) rfl rfl rfl rfl i [] s5 (inner cap σ) Hc (fun _ _ => False) I5 (hfpk fr5) st5 stop) fun r s6 ⟨hr, I6⟩ => ?_
      subst hr
      exact hRR _ _ s3 s6 _ Hc _ I3 rfl I6 qn
    · subst hX'
      refine thn (T.item (cxComp X (x :: cn) scope s3.heap.objs.size s3 (upd H2 s2.heap.objs.size (.lst [])) fp) rfl rfl rfl rfl i [] s5 (inner cap σ) Hc (fun _ _ => False) I5 (hfpk fr5) st5 go) fun r s6 ⟨u, hr, h6⟩ => ?_
      subst hr
      refine thn h6 fun _ s7 ⟨v, H7, I7, r7, y7, st7, fr7⟩ => ?_
      have I7' := I7.pinned (hfpk fr7) (T.obj _ _ st7)
      have hlook : (relabel scope X.env).names.lookup x = some .local := lookup_relabel_local hx
      refine wpAny_assign_Name (store_ok (X := cxComp X (x :: cn) scope s3.heap.objs.size s3 (upd H2 s2.heap.objs.size (.lst [])) fp) I7' (i := 0) hnd rfl (.inl hlook) r7 (fun s8 I8 => ?_) (.inr hlook))
      have again : ∀ {s9 : Shared} {H9 : Hp} {ys : List V}, Inv (cxComp X (x :: cn) scope s3.heap.objs.size s3 (upd H2 s2.heap.objs.size (.lst [])) fp) ([] ++ pinsAt fp s7.heap) ((inner cap σ).set 0 (some v)) H9 s9 → N ys H9 →
          ∃ m, m < n ∧ ∃ i xs Hc, Inv (cxComp X (x :: cn) scope s3.heap.objs.size s3 (upd H2 s2.heap.objs.size (.lst [])) fp) [] (inner cap σ) Hc s9 ∧ tn i s9.heap ∧ (∀ b ∈ fp, Hc b = none) ∧ W i m xs Hc := fun {s9 H9 ys} I9 n9 => by
        obtain ⟨m', hm, w9⟩ := hN ys H9 n9
        refine ⟨m', hm, i + 1, ys, H9, (I9.unpinned (pins := [])).weak (by simp [inner]) (fun j w e => ?_), T.keep _ _ _ st7 fun b hb o e => (I9.pin (b, o) (List.mem_append_right _ (List.mem_append_right _ (mem_pinsAt hb e)))).1, fun b hb => ?_, w9⟩
        · cases j with
          | zero =>
            have e : (some none : Option (Option V)) = some (some w) := e
            cases e
          | succ j => exact e
        · obtain ⟨o, e, _⟩ := T.obj _ _ st7 b hb
          exact (I9.pin (b, o) (List.mem_append_right _ (List.mem_append_right _ (mem_pinsAt hb e)))).2.1
      refine thn (B.1 _ s8 _ H7 _ I8 (step v H7 y7)) fun ok s9 ⟨H9, I9, q9⟩ => ?_
      cases ok with
      | false =>
        rw [if_neg Bool.false_ne_true] at q9 ⊢
        exact again I9 q9
      | true =>
        rw [if_pos rfl] at q9 ⊢
        refine thn (B.2 _ s9 _ H9 _ I9 q9) fun uy s10 ⟨y, H10, I10, r10, hp, hl, n10⟩ => ?_
        refine thn (mt_append _ s10 _ H10 (.ref s2.heap.objs.size) [y] (.ref s2.heap.objs.size) [uy] (fun _ H11 => N (xs ++ [y]) H11) I10 rfl (.cons r10 .nil) ⟨_, xs, y, rfl, rfl, hp, hl, n10⟩) fun _ s11 ⟨_, H11, I11, _, n11⟩ => ?_
        exact again I11 n11
  exact codeAny_compStart_list loop (T.self _ _ _ _ _ st4 loop)

theorem pe_comp {scope : Scope} {x : Str} {px pos : Pos} {elt iter : Expr} {ifs : List Expr} {cn : List Str} {cap : List Nat} {wi : TI} {tc : TT} {te : TE}
    (hc : X.calm = true) (S : CompScope X scope) (hx : scope.names.lookup x = some .local) (hnd : (x :: cn).Nodup) (hcap : Caps X scope cn cap) (hi : PI X (.Name x px) iter wi)
    (body : ∀ (C : Addr) (s : Shared) (H : Hp) (fp : List Addr), PTs (cxComp X (x :: cn) scope C s H fp) ifs tc ∧ PE (cxComp X (x :: cn) scope C s H fp) elt te)
    (hs : ∀ x, foldedSetIterable iter X.env x = pure x := by intro _; rfl) : PE X (.ListComp elt [⟨.Name x px, iter, ifs, 0⟩] scope pos) (tComp cap wi tc te) := by
  intro pins s σ H Q I h
  rw [eval_ListComp]
  refine wpAny_comprehension_free (use := none) rfl hs (S.clos I) S.kind S.names (thn (hi pins s σ H _ I h) fun xv s1 h1 => thn h1 fun itv s2 h2 => ?_)
  obtain ⟨it, fp, tn, J, H2, e, I2, T, st2, f2, q⟩ := h2
  subst e
  refine comp_core (RR := fun acc C => compPost (model X.prog X.w) X.A X.xe none (EP X pins σ Q) acc C) S I2 hc hcap hx hnd T st2 f2 body q ?_
  intro p C s3 s' H3 Hf σ' I3 hC J' qf
  subst hC
  have I4 := comp_out I3 J' f2
  obtain ⟨m, hn, _⟩ := J'.loc
  refine ⟨m, hn, fun h' hs' => ?_⟩
  refine ⟨.ref p, Hf, ?_, rfl, qf⟩
  have f := I3.fpOk (H' := Hf) (Nat.le_refl _) J'.free
  exact I4.turned (t' := s'.toks) (it := s3.heap.objs.size) (fun b o hb e => (hs'.2 b hb).trans e) f.1 f.2.1 f.2.2.2.1 f.2.2.2.2.1 f.2.2.2.2.2

/-- y = [..], where the store comes ahead of the block's end -/
theorem ps_setcomp {scope : Scope} {x y : Str} {px py pos spos : Pos} {elt iter : Expr} {ifs : List Expr} {cn : List Str} {cap : List Nat} {wi : TI} {tc : TT} {te : TE} {i : Nat}
    (hN : X.N.Nodup) (hi : X.N[i]? = some y) (hy : Loc X.env.scope y) (hc : X.calm = true) (S : CompScope X scope) (hx : scope.names.lookup x = some .local) (hnd : (x :: cn).Nodup) (hcap : Caps X scope cn cap) (hit : PI X (.Name x px) iter wi)
    (body : ∀ (C : Addr) (s : Shared) (H : Hp) (fp : List Addr), PTs (cxComp X (x :: cn) scope C s H fp) ifs tc ∧ PE (cxComp X (x :: cn) scope C s H fp) elt te)
    (hsw : swapsWith (.ListComp elt [⟨.Name x px, iter, ifs, 0⟩] scope pos) (some (.Name y py)) spos.line X.env = pure true := by rfl)
    (hf : X.fn y = true ∨ X.env.scope.names.lookup y = some .local := by first | exact .inl rfl | exact .inr rfl | assumption)
    (hs : ∀ x, foldedSetIterable iter X.env x = pure x := by intro _; rfl) : PS X (.Assign [.Name y py] (.ListComp elt [⟨.Name x px, iter, ifs, 0⟩] scope pos) spos) (tAsg (tComp cap wi tc te) (gName i)) := by
  intro pins s σ H D I h
  rw [exec_Assign_Name_used _ _ _ _ hsw]
  refine wpAny_bind (wpAny_standAt (wpAny_bind ?_))
  show wpAny _ X.A (do let _ ← comprehension (.ListComp elt [⟨.Name x px, iter, ifs, 0⟩] scope pos) scope X.env _ (newList []) false (eval iter X.env) (some (assign (.Name y py) X.env))) _ _ s
  refine wpAny_bind (wpAny_mono (wpAny_comprehension_free (use := some (assign (.Name y py) X.env)) (Q := fun _ s' => SP X pins D .next s') rfl hs (S.clos I) S.kind S.names
    (thn (hit pins s σ H _ I h) fun xv s1 h1 => thn h1 fun itv s2 h2 => ?_)) (fun _ s' hq => wpAny_pure (wpAny_pure hq)) fun _ _ e => e)
  obtain ⟨it, fp, tn, J, H2, e, I2, T, st2, f2, q⟩ := h2
  subst e
  refine comp_core (Q := fun v H1 => gName i v σ H1 D.nx) (RR := fun acc C => compPost (model X.prog X.w) X.A X.xe (some (assign (.Name y py) X.env)) (fun _ s' => SP X pins D .next s') acc C) S I2 hc hcap hx hnd T st2 f2 body q ?_
  intro p C s3 s' H3 Hf σ' I3 hC J' qf
  subst hC
  have I4 := comp_out I3 J' f2
  obtain ⟨m, hn, _⟩ := J'.loc
  have f := I3.fpOk (H' := Hf) (Nat.le_refl _) J'.free
  show wpAny _ X.A (assign (.Name y py) X.env (.ref p)) _ _ _
  refine wpAny_assign_Name (store_ok2 (v := V.ref p) I4 hN hi hy rfl (fun s'' I5 ch => ?_) hf)
  obtain ⟨a, hsb, ha⟩ := ch
  have hCa : s3.heap.objs.size ≠ a := by
    rcases ha with rfl | ha
    · exact f.2.1
    · exact fun z => f.2.2.2.2.1 y a ha z.symm
  refine ⟨m, hn.sameBut hsb hCa, fun h' hs' => ?_⟩
  exact ⟨_, Hf, I5.turned (t' := s''.toks) (it := s3.heap.objs.size) (fun b o hb e => (hs'.2 b hb).trans e) f.1 f.2.1 f.2.2.2.1 f.2.2.2.2.1 f.2.2.2.2.2, qf⟩
end
end L2

set_option Elab.async false
set_option maxRecDepth 100000
namespace L2
open PySem PySem.Spec PyProof.Rows

theorem bt_len : bootBuiltins "len" = some (.builtin "len") := by decide +kernel
theorem bt_isinstance : bootBuiltins "isinstance" = some (.builtin "isinstance") := by decide +kernel
theorem bt_sorted : bootBuiltins "sorted" = some (.builtin "sorted") := by decide +kernel
theorem bt_tuple : bootBuiltins "tuple" = some (.type "tuple") := by decide +kernel
theorem bt_str : bootBuiltins "str" = some (.type "str") := by decide +kernel
theorem bt_set : bootBuiltins "set" = some (.type "set") := by decide +kernel
theorem pe_globI {X : Cx} {x : Str} {i : Int} {pos : Pos} (hg : Gl X x) (h : ∃ t, X.mg x = some (.int i t)) (hd : (x == ("__debug__" : Str)) = false := by decide) : PE X (.Name x pos) (tC (.int i)) := by
  obtain ⟨t, h⟩ := h
  exact pe_glob (u := .int i t) hg h ⟨t, rfl⟩ hd

def kitC (T c : String) : Option Bool := if (T == c) = true then some true else if PySem.W.kitMeta c = true then (fastBuiltinMro T).map (·.contains (.type c)) else none
theorem kit_of {K : PySem.W.Frag} {T c : String} {b : Bool} (h : kitC T c = some b) : PySem.W.kitOne K (.type T) (.type c) = some b := by
  unfold kitC at h
  unfold PySem.W.kitOne
  by_cases e : T = c
  · subst e
    rw [if_pos (by simp)] at h
    rw [if_pos (by simp)]
    exact h
  · rw [if_neg (by simpa using e)] at h
    rw [if_neg (by intro z; exact e (by simpa using z))]
    exact h

structure DefOk (P : Program) (w : World) (K : PySem.W.Frag) (mg : Str → Option Value) (base : Heap) (x : Str) (k : Nat) (ps : List Str) (sp : Sp) : Prop where
  ex : ∃ f fd, FnOk P w K mg base CX0 k f fd ps sp ∧ mg x = some (.ref f) ∧ PySem.W.keepIn K (.ref f) = true ∧ Binds K fd ps []
section
variable {X : Cx} {x : Str} {k j : Nat} {ps : List Str} {sp : Sp} {e : Expr} {es : List Expr} {t : TA} {p pos : Pos}
theorem pe_def (F : DefOk X.prog X.w X.K X.mg X.base x k ps sp) (hr : Room j X.A) (hj : k ≤ j) (hg : Gl X x) (ha : PA X (e :: es) t) (hdb : (x == ("__debug__" : Str)) = false := by decide)
    (he : starEach (e :: es) X.env = (false, eval e X.env) :: starEach es X.env := by rfl) (hpl : (backTo pos (starEach es X.env)).any (·.1) = false := by rfl) :
    PE X (.Call (.Name x p) (e :: es) [] pos) (tCall sp [] E0 t) := by
  obtain ⟨f, fd, G, m, kp, b⟩ := F.ex
  exact pe_call G (hr.mono hj) hg m kp b .nil pass0 ha hdb he hpl
end
theorem def_of {P : Program} {w : World} {K : PySem.W.Frag} {mg : Str → Option Value} {base : Heap} {x : Str} {st : Stmt} {f : Addr} {fd : FuncData} {k : Nat} {ps : List Str} {sp : Sp} (F : Fun K x x st f fd) (m : mg x = some (.ref f)) (b : Binds K fd ps []) (G : FnOk P w K mg base CX0 k f fd ps sp) : DefOk P w K mg base x k ps sp :=
  ⟨f, fd, G, m, F.kp, b⟩

theorem free_of {X : Cx} {scope : Scope} (h : (scope.names.all fun p => p.2 != .free || X.env.scope.names.lookup p.1 == some .cell || X.env.scope.names.lookup p.1 == some .free) = true) :
    ∀ y ∈ scope.names, y.2 = .free → X.env.scope.names.lookup y.1 = some .cell ∨ X.env.scope.names.lookup y.1 = some .free := fun y hy hf => by
  have := List.all_eq_true.mp h y hy
  rw [hf] at this
  simpa using this

theorem Same.new {H : Hp} {p : Addr} {o : HO} (h : H p = none) : Same H (upd H p o) := fun b u e => by rw [upd_ne (ne_of_none e h)]; exact e
theorem Same.put {H H' : Hp} {p : Addr} {o : HO} (s : Same H H') (h : H p = none) : Same H (upd H' p o) := fun b u e => by rw [upd_ne (ne_of_none e h)]; exact s b u e
theorem TyOf.mono {K : PySem.W.Frag} {H H' : Hp} {v : V} {t : Value} (s : Same H H') (h : TyOf K H v t) : TyOf K H' v t := by
  cases h with
  | non => exact .non
  | bl b => exact .bl b
  | int i => exact .int i
  | str x => exact .str x
  | flt x => exact .flt x
  | lst e => exact .lst (s _ _ e)
  | frz e => exact .frz (s _ _ e)
  | tup e => exact .tup (s _ _ e)
  | dK e => exact .dK (s _ _ e)
  | dT e => exact .dT (s _ _ e)
  | ins e c a b d m => exact .ins (s _ _ e) c a b d m

def Its (x : Str) : It := ⟨fun i _ => i < x.cps.size, fun i H v H' => H' = H ∧ ∃ c, x.cps[i]? = some c ∧ v = .str ⟨#[c]⟩, fun i _ => i = x.cps.size⟩
def StrIt (it : Addr) (x : Str) (t : Tok) (i : Nat) (h : Heap) : Prop := h.IsStrIter it "str_ascii_iterator" x t i ∨ h.IsStrIter it "str_iterator" x t i
theorem turn_str {P : Program} {w : World} {K : PySem.W.Frag} {tg : Expr} (x : Str) (t : Tok) (it : Addr) : Turn P w K tg (Its x) [it] it (StrIt it x t) where
  mem := by simp
  obj := fun i h st b hb => by
    have e : b = it := by simpa using hb
    subst e
    rcases st with ⟨o, e, c, d⟩ | ⟨o, e, c, d⟩ <;> exact ⟨o, e, fun v z => by rw [d] at z; cases z⟩
  keep := fun i h h' st k => by
    rcases st with ⟨o, e, r⟩ | ⟨o, e, r⟩
    · exact .inl ⟨o, k it (by simp) o e, r⟩
    · exact .inr ⟨o, k it (by simp) o e, r⟩
  item := by
    intro X hP hw hK hc i pins s σ H E I hf st hg
    subst hP hw hK
    obtain ⟨f0, f1, f2, f3, f4, f5⟩ := hf it (by simp)
    rcases st with st | st
    · refine (Walks.strAscii (prog := X.prog) (w := X.w) (I.ok.hd hc) it x t).item i s _ _ hg st fun v h' tk hv st' kk => ?_
      obtain ⟨c, u, hcx, rfl⟩ := hv
      have I1 := I.turned (h' := h') (t' := tk) (fun b o hb e => kk b o (by simpa using hb) e) f0 f1 f3 f4 f5
      obtain ⟨o, e, hc', d⟩ := id st'
      exact ⟨_, rfl, go_of (s := { s with heap := h', toks := tk }) e hc' d (by decide) ⟨.str ⟨#[c]⟩, H, I1, ⟨u, rfl⟩, ⟨rfl, c, hcx, rfl⟩, .inl st', fun b hb => (hf b hb).1⟩⟩
    · refine (Walks.strWide (prog := X.prog) (w := X.w) (I.ok.hd hc) it x t).item i s _ _ hg st fun v h' tk hv st' kk => ?_
      obtain ⟨c, u, hcx, rfl⟩ := hv
      have I1 := I.turned (h' := h') (t' := tk) (fun b o hb e => kk b o (by simpa using hb) e) f0 f1 f3 f4 f5
      obtain ⟨o, e, hc', d⟩ := id st'
      exact ⟨_, rfl, go_of (s := { s with heap := h', toks := tk }) e hc' d (by decide) ⟨.str ⟨#[c]⟩, H, I1, ⟨u, rfl⟩, ⟨rfl, c, hcx, rfl⟩, .inr st', fun b hb => (hf b hb).1⟩⟩
  done := by
    intro X hP hw hK hc i pins s σ H E I hf st hg
    subst hP hw hK
    obtain ⟨f0, f1, f2, f3, f4, f5⟩ := hf it (by simp)
    have hg : i = x.cps.size := hg
    subst hg
    rcases st with st | st
    · exact (Walks.strAscii (prog := X.prog) (w := X.w) (I.ok.hd hc) it x t).done s _ _ st fun h' tk kk => ⟨rfl, I.turned (fun b o hb e => kk b o (by simpa using hb) e) f0 f1 f3 f4 f5⟩
    · exact (Walks.strWide (prog := X.prog) (w := X.w) (I.ok.hd hc) it x t).done s _ _ st fun h' tk kk => ⟨rfl, I.turned (fun b o hb e => kk b o (by simpa using hb) e) f0 f1 f3 f4 f5⟩
  self := fun _ _ _ _ _ st h => by
    rcases st with st | st
    · exact wpAny_pyIter_striter_ascii st h
    · exact wpAny_pyIter_striter_wide st h
section
variable {X : Cx} {tg : Expr}
/-- for over a text, a list or a tuple, whichever it is -/
def iAny (K : PySem.W.Frag) (tl : TE) : TI := fun σ H R => tl σ H fun v H1 => match v with
  | .str x => R (Its x) H1
  | .ref a => ((∃ xs, SqL K H1 a xs) ∧ R (Itl K a) H1) ∨ ((∃ xs, SqT K H1 a xs) ∧ R (Itt K a) H1)
  | _ => False
theorem pi_any {l : Expr} {tl : TE} (hl : PE X l tl) : PI X tg l (iAny X.K tl) := by
  intro pins s σ H R I h
  refine thn (hl pins s σ H _ I h) fun v s1 ⟨x, H1, I1, r1, q1⟩ => ?_
  have one : ∀ b ∈ [s1.heap.objs.size], FpOk X pins H1 b := fun b hb => by
    have e : b = s1.heap.objs.size := by simpa using hb
    subst e
    exact I1.fpOk (Nat.le_refl _) (I1.hok.fresh (Nat.le_refl _))
  cases x with
  | str z =>
    obtain ⟨t, rfl⟩ := r1
    have q1 : R (Its z) H1 := q1
    cases ha : z.cps.all (· < 128)
    · exact wpAny_pyIter_wide ha ⟨s1.heap.objs.size, [s1.heap.objs.size], _, _, H1, rfl, I1.kept (t' := s1.toks) fun b o e => Heap.get?_push_of_some _ e, turn_str z t _, .inr ⟨_, Heap.get?_push_size _ rfl, rfl, rfl⟩, one, q1⟩
    · exact wpAny_pyIter_ascii ha ⟨s1.heap.objs.size, [s1.heap.objs.size], _, _, H1, rfl, I1.kept (t' := s1.toks) fun b o e => Heap.get?_push_of_some _ e, turn_str z t _, .inl ⟨_, Heap.get?_push_size _ rfl, rfl, rfl⟩, one, q1⟩
  | ref a =>
    cases r1
    have q1 : ((∃ xs, SqL X.K H1 a xs) ∧ R (Itl X.K a) H1) ∨ ((∃ xs, SqT X.K H1 a xs) ∧ R (Itt X.K a) H1) := q1
    rcases q1 with ⟨⟨xs, hq⟩, q⟩ | ⟨⟨xs, hq⟩, q⟩
    · obtain ⟨its, rv, p, hz⟩ := I1.list hq
      exact wpAny_pyIter_list p.isList ⟨s1.heap.objs.size, [s1.heap.objs.size], _, _, H1, rfl, I1.kept (t' := s1.toks) fun b o e => Heap.get?_push_of_some _ e, turn_list a _, ⟨_, Heap.get?_push_size _ rfl, rfl, rfl⟩, one, q⟩
    · obtain ⟨its, rv, p, hz⟩ := I1.tuple hq
      exact wpAny_pyIter_tuple (show s1.heap.IsTuple a its.toArray from p) ⟨s1.heap.objs.size, [s1.heap.objs.size], _, _, H1, rfl, I1.kept (t' := s1.toks) fun b o e => Heap.get?_push_of_some _ e, turn_tuple a _, ⟨_, Heap.get?_push_size _ rfl, rfl, rfl⟩, one, q⟩
  | _ => exact (show False from q1).elim
end
/-- J yields just xs, whatever the heap (that bears H) -/
structure Yields (J : It) (H : Hp) (xs : List V) : Prop where
  go : ∀ i H', Same H H' → i < xs.length → J.go i H'
  stop : ∀ H', Same H H' → J.stop xs.length H'
  yld : ∀ i H' x H'', Same H H' → i < xs.length → J.yld i H' x H'' → H'' = H' ∧ xs[i]? = some x
def signsV (x : Str) : List V := x.cps.toList.map fun c => .str ⟨#[c]⟩
theorem yields_str (x : Str) (H : Hp) : Yields (Its x) H (signsV x) where
  go := fun i H' _ hi => by
    have : (signsV x).length = x.cps.size := by simp [signsV]
    show i < x.cps.size
    omega
  stop := fun H' _ => by
    show (signsV x).length = x.cps.size
    simp [signsV]
  yld := fun i H' v H'' _ _ y => by
    obtain ⟨rfl, c, hc, rfl⟩ := y
    refine ⟨rfl, ?_⟩
    simp only [signsV, List.getElem?_map, Array.getElem?_toList, hc, Option.map_some]
theorem yields_range (lo : Int) (n : Nat) (H : Hp) : Yields (Itr lo n) H ((List.range n).map fun (i : Nat) => V.int (lo + (i : Int))) where
  go := fun i H' _ hi => by
    show i < n
    simpa using hi
  stop := fun H' _ => by
    show n ≤ ((List.range n).map fun (i : Nat) => V.int (lo + (i : Int))).length
    simp
  yld := fun i H' v H'' _ hi y => by
    obtain ⟨rfl, rfl⟩ := y
    rw [List.length_map, List.length_range] at hi
    refine ⟨rfl, ?_⟩
    simp [hi]
theorem yields_list {K : PySem.W.Frag} {a : Addr} {xs : List V} {H : Hp} (h : SqL K H a xs) : Yields (Itl K a) H xs where
  go := fun i H' s hi => ⟨xs, xs[i], s.seq h, by simp [hi]⟩
  stop := fun H' s => ⟨xs, s.seq h, Nat.le_refl _⟩
  yld := fun i H' v H'' s _ y => ⟨y.1, y.2 xs (s.seq h)⟩

/-- the list that a comprehension with a test and an element tells -/
def compL (f : V → Bool) (g : V → V) (xs : List V) : List V := (xs.filter f).map g
section
variable {X : Cx}
def rPlus (K : PySem.W.Frag) : R2 := fun x y H Q => match x, y with
  | .int i, .int j => Q (.int (i + j)) H
  | .str a, .str b => a.length + b.length ≤ sizeLine ∧ Q (.str (a ++ b)) H
  | .ref a, .ref b => ∃ xs ys, Rd H a (.lst xs) ∧ Rd H b (.lst ys) ∧ xs.length + ys.length ≤ sizeLine ∧ ∀ p, H p = none → Q (.ref p) (upd H p (.lst (xs ++ ys)))
  | _, _ => False
theorem op_catS : OpR X (binaryOp .Add) (fun x y H Q => ∃ a b xs ys, x = .ref a ∧ y = .ref b ∧ Rd H a (.lst xs) ∧ Rd H b (.lst ys) ∧ xs.length + ys.length ≤ sizeLine ∧ ∀ p, H p = none → Q (.ref p) (upd H p (.lst (xs ++ ys)))) := by
  intro pins s σ H x y v u Q I rx ry h
  obtain ⟨l, b, xs, zs, rfl, rfl, hH, hB, hz, q⟩ := h
  cases rx
  cases ry
  obtain ⟨z, its, n, r, e⟩ := hH.ok I.hok
  obtain ⟨z2, its2, n2, r2, e2⟩ := hB.ok I.hok
  have hl := r.length
  have hl2 := r2.length
  refine PySem.P.add_list e e2 ?_ (by rw [List.size_toArray, List.size_toArray]; omega)
  have ea : its.toArray ++ its2.toArray = (its ++ its2).toArray := by simp
  rw [ea]
  exact ⟨.ref _, _, I.lnew (t' := s.toks) (r.append r2) (by rw [List.length_append]; omega), rfl, q _ I.fresh⟩
theorem op_plus : OpR X (binaryOp .Add) (rPlus X.K) := by
  intro pins s σ H x y v u Q I rx ry h
  cases x with
  | int i => cases y with
    | int j => exact op_add pins s σ H _ _ v u Q I rx ry ⟨i, j, rfl, rfl, h⟩
    | _ => exact (show False from h).elim
  | str a => cases y with
    | str b => exact op_add_str pins s σ H _ _ v u Q I rx ry ⟨a, b, rfl, rfl, h.1, h.2⟩
    | _ => exact (show False from h).elim
  | ref a => cases y with
    | ref b =>
      obtain ⟨xs, ys, h1, h2, h3, h4⟩ := h
      exact op_catS pins s σ H _ _ v u Q I rx ry ⟨a, b, xs, ys, rfl, rfl, h1, h2, h3, h4⟩
    | _ => exact (show False from h).elim
  | _ => exact (show False from h).elim
/-- an order's test: ints or texts -/
def rOrd (fi : Int → Int → Bool) (fs : List Nat → List Nat → Bool) : R2 := fun x y H Q => match x, y with
  | .int i, .int j => Q (.bl (fi i j)) H
  | .str a, .str b => Q (.bl (fs a.cps.toList b.cps.toList)) H
  | _, _ => False
theorem ord_of {f : Value → Value → Sem Value} {fi : Int → Int → Bool} {fs : List Nat → List Nat → Bool} (hi : OpR X f (rI0 fun i j => .bl (fi i j)))
    (hs : ∀ (s : Shared) (a b : Str) (t u : Tok) (Q : Value → Shared → Prop), Q (.bool (fs a.cps.toList b.cps.toList)) s → wpAny (model X.prog X.w) X.A (f (.str a t) (.str b u)) Q X.xe s) : OpR X f (rOrd fi fs) := by
  intro pins s σ H x y v u Q I rx ry h
  cases x with
  | int i => cases y with
    | int j => exact hi pins s σ H _ _ v u Q I rx ry ⟨i, j, rfl, rfl, h⟩
    | _ => exact (show False from h).elim
  | str a => cases y with
    | str b =>
      obtain ⟨t, rfl⟩ := rx
      obtain ⟨t', rfl⟩ := ry
      exact hs s a b t t' _ ⟨.bl _, H, I, rfl, h⟩
    | _ => exact (show False from h).elim
  | _ => exact (show False from h).elim
theorem op_ltU : OpR X (compareOp .Lt) (rOrd (fun i j => decide (i < j)) fun a b => decide (a < b)) := ord_of op_lt fun _ _ _ _ _ _ h => lt_str h
theorem op_leU : OpR X (compareOp .LtE) (rOrd (fun i j => decide (i ≤ j)) fun a b => !decide (b < a)) := ord_of op_le fun _ _ _ _ _ _ h => PySem.P.le_str h
theorem op_gtU : OpR X (compareOp .Gt) (rOrd (fun i j => decide (j < i)) fun a b => decide (b < a)) := ord_of op_gt fun _ _ _ _ _ _ h => PySem.P.gt_str h
def rMul (K : PySem.W.Frag) : R2 := fun x y H Q => match x, y with
  | .int i, .int j => CMul i j ∧ Q (.int (i * j)) H
  | .ref l, .int k => ∃ xs, H l = some (.lst xs) ∧ -(2 ^ 63) ≤ k ∧ k < 2 ^ 63 ∧ xs.length * k.toNat ≤ sizeLine ∧ ∀ p, H p = none → Q (.ref p) (upd H p (.lst (List.replicate k.toNat xs).flatten))
  | _, _ => False
theorem op_mulU : OpR X (binaryOp .Mult) (rMul X.K) := by
  intro pins s σ H x y v u Q I rx ry h
  cases x with
  | int i => cases y with
    | int j => exact op_mul pins s σ H _ _ v u Q I rx ry ⟨i, j, rfl, rfl, h.1, h.2⟩
    | _ => exact (show False from h).elim
  | ref l => cases y with
    | int k =>
      obtain ⟨xs, h1, h2, h3, h4, h5⟩ := h
      exact op_rep pins s σ H _ _ v u Q I rx ry ⟨l, k, xs, rfl, rfl, h1, h2, h3, h4, h5⟩
    | _ => exact (show False from h).elim
  | _ => exact (show False from h).elim

def rSl (K : PySem.W.Frag) : V → Option Int → Option Int → Hp → VK → Prop := fun x lo hi H Q => match x with
  | .str z => z.length ≤ sizeLine ∧ Q (.str (Txt.slice z lo hi)) H
  | .ref a => (∃ xs, SqL K H a xs ∧ ∀ p, H p = none → Q (.ref p) (upd H p (.lst (cutV xs lo hi))))
  | _ => False
theorem sl_str : SlR X (fun x lo hi H Q => ∃ z, x = .str z ∧ z.length ≤ sizeLine ∧ Q (.str (Txt.slice z lo hi)) H) := by
  intro pins s σ H x v vl vu lo hi sl Q I rx hs pl pu h
  obtain ⟨z, rfl, hz, q⟩ := h
  obtain ⟨t, rfl⟩ := rx
  refine ⟨"str", _, F.slot_str_getitem.lookup, typeIs_str _ _ _, ?_⟩
  have fin : ∀ (t' : Tok) (k : Nat), EP X pins σ Q (.str (Txt.slice z lo hi) t') { s with toks := k } := fun t' k => ⟨.str _, H, I.tok k, ⟨t', rfl⟩, q⟩
  cases pl with
  | none => cases pu with
    | none => exact wpAny_getItem_str_slice (l := none) (u := none) (st := none) hs rfl (post_val_or_str ⟨Nat.le_trans (Txt.slice_le z _ _) hz, fin⟩)
    | int j uj => exact wpAny_getItem_str_slice (l := none) (u := some (j, uj)) (st := none) hs rfl (post_val_or_str ⟨Nat.le_trans (Txt.slice_le z _ _) hz, fin⟩)
  | int i ui => cases pu with
    | none => exact wpAny_getItem_str_slice (l := some (i, ui)) (u := none) (st := none) hs rfl (post_val_or_str ⟨Nat.le_trans (Txt.slice_le z _ _) hz, fin⟩)
    | int j uj => exact wpAny_getItem_str_slice (l := some (i, ui)) (u := some (j, uj)) (st := none) hs rfl (post_val_or_str ⟨Nat.le_trans (Txt.slice_le z _ _) hz, fin⟩)
theorem sl_any : SlR X (rSl X.K) := by
  intro pins s σ H x v vl vu lo hi sl Q I rx hs pl pu h
  cases x with
  | str z => exact sl_str pins s σ H _ v vl vu lo hi sl Q I rx hs pl pu ⟨z, rfl, h.1, h.2⟩
  | ref a =>
    obtain ⟨xs, h1, h2⟩ := h
    exact sl_list pins s σ H _ v vl vu lo hi sl Q I rx hs pl pu ⟨a, xs, rfl, h1, h2⟩
  | _ => exact (show False from h).elim
def rAt (K : PySem.W.Frag) : R2 := fun x y H Q => match x, y with
  | .str z, .int i => z.length ≤ sizeLine ∧ ∃ c, atI z.cps.toList i = some c ∧ Q (.str ⟨#[c]⟩) H
  | .ref p, .int i => (∃ xs v, SqL K H p xs ∧ atI xs i = some v ∧ Q v H) ∨ (∃ xs v, SqT K H p xs ∧ atI xs i = some v ∧ Q v H)
  | _, _ => False
theorem ix_any : IxR X (rAt X.K) := by
  intro value slice pins s σ H x y v u Q I rx ry q hs
  cases x with
  | str z => cases y with
    | int i =>
      obtain ⟨hz, c, hc, q⟩ := q
      exact ix_str value slice pins s σ H _ _ v u Q I rx ry ⟨z, i, c, rfl, rfl, hz, hc, q⟩ hs
    | _ => exact (show False from q).elim
  | ref p => cases y with
    | int i =>
      rcases q with ⟨xs, w', h1, h2, h3⟩ | ⟨xs, w', h1, h2, h3⟩
      · exact ix_list value slice pins s σ H _ _ v u Q I rx ry ⟨p, xs, i, w', rfl, rfl, h1, h2, h3⟩ hs
      · exact ix_tup value slice pins s σ H _ _ v u Q I rx ry ⟨p, xs, i, w', rfl, rfl, h1, h2, h3⟩ hs
    | _ => exact (show False from q).elim
  | _ => exact (show False from q).elim

def rLen (K : PySem.W.Frag) : List V → Hp → VK → Prop := fun vs H Q => match vs with
  | [.str z] => z.length ≤ sizeLine ∧ Q (.int z.length) H
  | [.ref p] => ∃ ys, (SqL K H p ys ∨ SqT K H p ys) ∧ Q (.int ys.length) H
  | _ => False
theorem call_lenU : CallR X (.builtin "len") (rLen X.K) := by
  intro pins s σ H vs us Q I r h
  match vs, h with
  | [.str z], h => exact call_len_str pins s σ H _ us Q I r ⟨z, rfl, h.1, h.2⟩
  | [.ref p], h =>
    obtain ⟨ys, h1, h2⟩ := h
    exact call_len_seq pins s σ H _ us Q I r ⟨p, ys, rfl, h1, h2⟩

theorem strsAre_of {ys : List Str} : ∀ {us : List Value}, Vals (ys.map V.str) us → StrsAre us ys := by
  induction ys with
  | nil => intro us r; rw [List.map_nil] at r; cases r; exact .nil
  | cons n ns ih =>
    intro us r
    rw [List.map_cons] at r
    cases r with
    | cons r1 r2 =>
      obtain ⟨t, e⟩ := r1
      subst e
      exact .cons n t (ih r2)
def rJoin (K : PySem.W.Frag) : V → List V → Hp → VK → Prop := fun x vs H Q => ∃ z l ys, x = .str z ∧ vs = [.ref l] ∧ SqL K H l (ys.map V.str) ∧ (ys.map (·.length)).sum + ys.length * z.length ≤ 16777216 ∧ Q (.str (Txt.join z ys)) H
theorem mt_join : MtR X "str.join" (rJoin X.K) := by
  intro pins s σ H x vs v us Q I rx rv h
  obtain ⟨z, l, ys, rfl, rfl, hl, hz, q⟩ := h
  obtain ⟨t, rfl⟩ := rx
  obtain ⟨u, rfl, ru⟩ := vals1 rv
  cases ru
  obtain ⟨its, r, pl, _⟩ := I.list hl
  exact join_list pl.isList (by simpa using strsAre_of r) hz fun t' k => ⟨.str _, H, I.tok k, ⟨t', rfl⟩, q⟩
end
end L2

set_option Elab.async false
set_option maxRecDepth 100000
namespace L2
open PySem PySem.Spec PyProof.Rows

structure EqTy (K : PySem.W.Frag) (k : Nat) {α : Type} [DecidableEq α] (R : Hp → V → α → Prop) : Prop where
  fn : ∀ {X : Cx} {pins : List (Addr × Obj)} {σ : St} {H : Hp} {s : Shared} {x : V} {a b : α}, X.K = K → Inv X pins σ H s → R H x a → R H x b → a = b
  eq : ∀ {X : Cx} {pins : List (Addr × Obj)} {σ : St} {H : Hp} {s : Shared} {x y : V} {u v : Value} {a b : α} (A : Around), X.K = K → Inv X pins σ H s → A.units + k < cLine → RelV x u → RelV y v → R H x a → R H y b → SeqAt.EqAt A s u v (decide (a = b))
  rc : ∀ {X : Cx} {pins : List (Addr × Obj)} {σ : St} {H : Hp} {s : Shared} {x y : V} {u v : Value} {a b : α} (A : Around), X.K = K → Inv X pins σ H s → A.units + k < cLine → RelV x u → RelV y v → R H x a → R H y b → SeqAt.RcAt A s u v (decide (a = b)) ∧ SeqAt.RcNeAt A s u v (!decide (a = b))

def isStr : Hp → V → Str → Prop := fun _ x a => x = .str a
def isInt : Hp → V → Int → Prop := fun _ x a => x = .int a
def isBl : Hp → V → Bool → Prop := fun _ x a => x = .bl a
theorem dec_beq {α : Type} [DecidableEq α] [BEq α] [LawfulBEq α] (a b : α) : (a == b) = decide (a = b) := by
  by_cases h : a = b
  · subst h; simp
  · rw [decide_eq_false h]; simpa using h
theorem eqStr {K : PySem.W.Frag} : EqTy K 0 isStr where
  fn := fun _ _ h1 h2 => by cases h1; cases h2; rfl
  eq := fun A _ _ _ r1 r2 h1 h2 => by
    cases h1; cases h2
    obtain ⟨t, rfl⟩ := r1
    obtain ⟨t', rfl⟩ := r2
    rw [← dec_beq]
    exact SeqAt.EqAt.str_str _ _ _ _
  rc := fun A _ _ _ r1 r2 h1 h2 => by
    cases h1; cases h2
    obtain ⟨t, rfl⟩ := r1
    obtain ⟨t', rfl⟩ := r2
    rw [← dec_beq]
    exact ⟨SeqAt.RcAt.str_str _ _ _ _, SeqAt.RcNeAt.str_str _ _ _ _⟩
theorem eqInt {K : PySem.W.Frag} : EqTy K 0 isInt where
  fn := fun _ _ h1 h2 => by cases h1; cases h2; rfl
  eq := fun A _ _ _ r1 r2 h1 h2 => by
    cases h1; cases h2
    obtain ⟨t, rfl⟩ := r1
    obtain ⟨t', rfl⟩ := r2
    rw [← dec_beq]
    exact SeqAt.EqAt.int_int _ _ _ _
  rc := fun A _ _ _ r1 r2 h1 h2 => by
    cases h1; cases h2
    obtain ⟨t, rfl⟩ := r1
    obtain ⟨t', rfl⟩ := r2
    rw [← dec_beq]
    exact ⟨SeqAt.RcAt.int_int _ _ _ _, SeqAt.RcNeAt.int_int _ _ _ _⟩
theorem eqBl {K : PySem.W.Frag} : EqTy K 0 isBl where
  fn := fun _ _ h1 h2 => by cases h1; cases h2; rfl
  eq := fun A _ _ _ r1 r2 h1 h2 => by
    cases h1; cases h2
    cases r1; cases r2
    rw [← dec_beq]
    exact SeqAt.EqAt.bool_bool _ _
  rc := fun A _ _ _ r1 r2 h1 h2 => by
    cases h1; cases h2
    cases r1; cases r2
    rw [← dec_beq]
    exact ⟨SeqAt.RcAt.bool_bool _ _, SeqAt.RcNeAt.bool_bool _ _⟩

theorem Paired.at' {α β : Type} {F : α → β → Prop} : ∀ {l₁ : List α} {l₂ : List β} {i : Nat} {a : α} {b : β}, Paired F l₁ l₂ → l₁[i]? = some a → l₂[i]? = some b → F a b
  | _, _, _, _, _, .nil, e, _ => by simp at e
  | _, _, 0, _, _, .cons h _, e1, e2 => by simp at e1 e2; subst e1; subst e2; exact h
  | _, _, i + 1, _, _, .cons _ t, e1, e2 => Paired.at' (i := i) t (by simpa using e1) (by simpa using e2)
theorem paired_fn {α β : Type} {F : α → β → Prop} (hf : ∀ a b c, F a b → F a c → b = c) : ∀ {xs : List α} {as bs : List β}, Paired F xs as → Paired F xs bs → as = bs
  | _, _, _, .nil, .nil => rfl
  | _, _, _, .cons h t, .cons h' t' => by rw [hf _ _ _ h h', paired_fn hf t t']
theorem all_dec {α : Type} [DecidableEq α] : ∀ (as bs : List α) (hl : as.length = bs.length), ((List.range as.length).all fun j => decide (as[j]? = bs[j]?)) = decide (as = bs) := by
  intro as bs hl
  apply Bool.eq_iff_iff.mpr
  rw [decide_eq_true_iff, List.all_eq_true]
  constructor
  · intro h
    apply List.ext_getElem? 
    intro i
    by_cases hi : i < as.length
    · exact of_decide_eq_true (h i (List.mem_range.mpr hi))
    · rw [List.getElem?_eq_none (by omega), List.getElem?_eq_none (by omega)]
  · rintro rfl i _
    simp

/-- a list of such data -/
def isLst (K : PySem.W.Frag) {α : Type} (R : Hp → V → α → Prop) : Hp → V → List α → Prop := fun H x as => ∃ l xs, x = .ref l ∧ SqL K H l xs ∧ Paired (R H) xs as
theorem items_eqAt {K : PySem.W.Frag} {k : Nat} {α : Type} [DecidableEq α] {R : Hp → V → α → Prop} (E : EqTy K k R) {X : Cx} {pins : List (Addr × Obj)} {σ : St} {H : Hp} {s : Shared} {A : Around} (hK : X.K = K) (I : Inv X pins σ H s) (hu : A.units + (k + 1) < cLine)
    {xs ys : List V} {us vs : List Value} {as bs : List α} (rx : Vals xs us) (ry : Vals ys vs) (px : Paired (R H) xs as) (py : Paired (R H) ys bs) :
    ∀ j (h1 : j < us.toArray.size) (h2 : j < vs.toArray.size), SeqAt.EqAt A.in1 s us.toArray[j] vs.toArray[j] (decide (as[j]? = bs[j]?)) := by
  intro j h1 h2
  have h1' : j < us.length := by simpa using h1
  have h2' : j < vs.length := by simpa using h2
  have lx := rx.length
  have ly := ry.length
  have lpx := Paired.length px
  have lpy := Paired.length py
  have ex : xs[j]? = some xs[j] := List.getElem?_eq_getElem (by omega)
  have ey : ys[j]? = some ys[j] := List.getElem?_eq_getElem (by omega)
  have ea : as[j]? = some as[j] := List.getElem?_eq_getElem (by omega)
  have eb : bs[j]? = some bs[j] := List.getElem?_eq_getElem (by omega)
  obtain ⟨u, hu', ru⟩ := rx.get ex
  obtain ⟨v, hv', rv⟩ := ry.get ey
  have e1 : us.toArray[j] = u := by
    rw [List.getElem?_eq_getElem h1'] at hu'
    simpa using hu'
  have e2 : vs.toArray[j] = v := by
    rw [List.getElem?_eq_getElem h2'] at hv'
    simpa using hv'
  rw [e1, e2, ea, eb]
  have := E.eq A.in1 hK I (show A.units + 1 + k < cLine by omega) ru rv (Paired.at' px ex ea) (Paired.at' py ey eb)
  have e3 : decide (some as[j] = some bs[j]) = decide (as[j] = bs[j]) := by simp
  rw [e3]
  exact this
theorem eqLst {K : PySem.W.Frag} {k : Nat} {α : Type} [DecidableEq α] {R : Hp → V → α → Prop} (E : EqTy K k R) : EqTy K (k + 1) (isLst K R) := by
  have fn : ∀ {X : Cx} {pins : List (Addr × Obj)} {σ : St} {H : Hp} {s : Shared} {x : V} {a b : List α}, X.K = K → Inv X pins σ H s → isLst K R H x a → isLst K R H x b → a = b := by
    intro X pins σ H s x a b hK I ha hb
    obtain ⟨l, xs, rfl, h1, p1⟩ := ha
    obtain ⟨l', ys, e, h2, p2⟩ := hb
    cases e
    subst hK
    have := I.list_inj h1 h2
    subst this
    exact paired_fn (F := R H) (fun _ _ _ p q => E.fn rfl I p q) p1 p2
  have rc : ∀ {X : Cx} {pins : List (Addr × Obj)} {σ : St} {H : Hp} {s : Shared} {x y : V} {u v : Value} {a b : List α} (A : Around), X.K = K → Inv X pins σ H s → A.units + (k + 1) < cLine → RelV x u → RelV y v → isLst K R H x a → isLst K R H y b →
      SeqAt.RcAt A s u v (decide (a = b)) ∧ SeqAt.RcNeAt A s u v (!decide (a = b)) := by
    intro X pins σ H s x y u v a b A hK I hu r1 r2 ha hb
    obtain ⟨l, xs, rfl, h1, p1⟩ := ha
    obtain ⟨l', ys, rfl, h2, p2⟩ := hb
    cases r1; cases r2
    subst hK
    obtain ⟨us, rx, plx, _⟩ := I.list h1
    obtain ⟨vs, ry, ply, _⟩ := I.list h2
    have lx := rx.length
    have ly := ry.length
    have lpx := Paired.length p1
    have lpy := Paired.length p2
    by_cases hl : a.length = b.length
    · have hsz : us.toArray.size = vs.toArray.size := by simp; omega
      have it := items_eqAt E rfl I hu rx ry p1 p2
      have ed : ((List.range us.toArray.size).all fun j => decide (a[j]? = b[j]?)) = decide (a = b) := by
        rw [← all_dec a b hl, List.size_toArray, ← lx, lpx]
      rw [← ed]
      exact ⟨SeqAt.RcAt.lists plx.isList ply.isList hsz (by omega) it, SeqAt.RcNeAt.lists plx.isList ply.isList hsz (by omega) it⟩
    · have hsz : (us.toArray.size != vs.toArray.size) = true := by simp; omega
      have ne : a ≠ b := fun e => hl (by rw [e])
      rw [decide_eq_false ne]
      exact ⟨SeqAt.RcAt.lists_lengths plx.isList ply.isList hsz (by omega), SeqAt.RcNeAt.lists_lengths plx.isList ply.isList hsz (by omega)⟩
  refine ⟨fn, ?_, rc⟩
  intro X pins σ H s x y u v a b A hK I hu r1 r2 ha hb
  have h := (rc A hK I hu r1 r2 ha hb).1
  obtain ⟨l, xs, rfl, h1, p1⟩ := id ha
  obtain ⟨l', ys, rfl, h2, p2⟩ := id hb
  cases r1; cases r2
  by_cases e : l = l'
  · subst e
    have : a = b := fn hK I ha hb
    rw [decide_eq_true this]
    exact SeqAt.EqAt.same _
  · exact SeqAt.EqAt.of_refs e h

/-- a tuple of two such data -/
def isPair (K : PySem.W.Frag) {α β : Type} (R : Hp → V → α → Prop) (S : Hp → V → β → Prop) : Hp → V → α × β → Prop := fun H x p => ∃ t a b, x = .ref t ∧ SqT K H t [a, b] ∧ R H a p.1 ∧ S H b p.2
theorem eqPair {K : PySem.W.Frag} {k : Nat} {α β : Type} [DecidableEq α] [DecidableEq β] {R : Hp → V → α → Prop} {S : Hp → V → β → Prop} (E : EqTy K k R) (G : EqTy K k S) : EqTy K (k + 1) (isPair K R S) := by
  have fn : ∀ {X : Cx} {pins : List (Addr × Obj)} {σ : St} {H : Hp} {s : Shared} {x : V} {a b : α × β}, X.K = K → Inv X pins σ H s → isPair K R S H x a → isPair K R S H x b → a = b := by
    intro X pins σ H s x a b hK I ha hb
    obtain ⟨l, x1, x2, rfl, h1, p1, p2⟩ := ha
    obtain ⟨l', y1, y2, e, h2, q1, q2⟩ := hb
    cases e
    subst hK
    have := I.tuple_inj h1 h2
    cases this
    exact Prod.ext (E.fn rfl I p1 q1) (G.fn rfl I p2 q2)
  have rc : ∀ {X : Cx} {pins : List (Addr × Obj)} {σ : St} {H : Hp} {s : Shared} {x y : V} {u v : Value} {a b : α × β} (A : Around), X.K = K → Inv X pins σ H s → A.units + (k + 1) < cLine → RelV x u → RelV y v → isPair K R S H x a → isPair K R S H y b →
      SeqAt.RcAt A s u v (decide (a = b)) ∧ SeqAt.RcNeAt A s u v (!decide (a = b)) := by
    intro X pins σ H s x y u v a b A hK I hu r1 r2 ha hb
    obtain ⟨l, x1, x2, rfl, h1, p1, p2⟩ := ha
    obtain ⟨l', y1, y2, rfl, h2, q1, q2⟩ := hb
    cases r1; cases r2
    subst hK
    obtain ⟨us, rx, plx, _⟩ := I.tuple h1
    obtain ⟨vs, ry, ply, _⟩ := I.tuple h2
    obtain ⟨u1, u2, rfl, ru1, ru2⟩ := vals2 rx
    obtain ⟨v1, v2, rfl, rv1, rv2⟩ := vals2 ry
    have e1 := E.eq A.in1 rfl I (show A.units + 1 + k < cLine by omega) ru1 rv1 p1 q1
    have e2 := G.eq A.in1 rfl I (show A.units + 1 + k < cLine by omega) ru2 rv2 p2 q2
    have it : ∀ j (h1 : j < [u1, u2].toArray.size) (h2 : j < [v1, v2].toArray.size), SeqAt.EqAt A.in1 s [u1, u2].toArray[j] [v1, v2].toArray[j] ((fun j => if j = 0 then decide (a.1 = b.1) else decide (a.2 = b.2)) j) := by
      intro j h1 h2
      match j, h1 with
      | 0, _ => exact e1
      | 1, _ => exact e2
      | j + 2, h => exact absurd h (by simp)
    have ed : ((List.range (min [u1, u2].toArray.size [v1, v2].toArray.size)).all (fun j => if j = 0 then decide (a.1 = b.1) else decide (a.2 = b.2)) && [u1, u2].toArray.size == [v1, v2].toArray.size) = decide (a = b) := by
      apply Bool.eq_iff_iff.mpr
      rw [decide_eq_true_iff]
      constructor
      · intro h
        have h : (decide (a.1 = b.1) && (decide (a.2 = b.2) && true) && true) = true := h
        simp only [Bool.and_true, Bool.and_eq_true, decide_eq_true_iff] at h
        exact Prod.ext h.1 h.2
      · rintro rfl
        show (decide (a.1 = a.1) && (decide (a.2 = a.2) && true) && true) = true
        simp
    rw [← ed]
    exact ⟨SeqAt.RcAt.tuples plx ply (by omega) it, SeqAt.RcNeAt.tuples plx ply (by omega) it⟩
  refine ⟨fn, ?_, rc⟩
  intro X pins σ H s x y u v a b A hK I hu r1 r2 ha hb
  have h := (rc A hK I hu r1 r2 ha hb).1
  obtain ⟨l, x1, x2, rfl, h1, p1, p2⟩ := id ha
  obtain ⟨l', y1, y2, rfl, h2, q1, q2⟩ := id hb
  cases r1; cases r2
  by_cases e : l = l'
  · subst e
    have : a = b := fn hK I ha hb
    rw [decide_eq_true this]
    exact SeqAt.EqAt.same _
  · exact SeqAt.EqAt.of_refs e h
section
variable {X : Cx}
end
/-- texts in a list; a run -/
abbrev isStrs (K : PySem.W.Frag) : Hp → V → List Str → Prop := isLst K isStr
abbrev isRunV (K : PySem.W.Frag) : Hp → V → List Str × List Str → Prop := isPair K (isStrs K) (isStrs K)
end L2

set_option Elab.async false
set_option linter.all false
set_option maxRecDepth 100000
set_option maxHeartbeats 4000000
namespace L2
open PySem PySem.Spec PyProof.Rows

class Rp (α : Type) where
  rel : PySem.W.Frag → Hp → V → α → Prop
  mono : ∀ {K : PySem.W.Frag} {H H' : Hp} {v : V} {a : α}, Same H H' → rel K H v a → rel K H' v a
theorem Same.rd {H H' : Hp} {a : Addr} {u : HO} (s : Same H H') (h : Rd H a u) : Rd H' a u := by
  rcases h with h | ⟨o, h⟩
  · exact .inl (s _ _ h)
  · exact .inr ⟨o, s _ _ h⟩
theorem Same.tup {K : PySem.W.Frag} {H H' : Hp} {a : Addr} {xs : List V} (e : Same H H') (h : SqT K H a xs) : SqT K H' a xs := by
  rcases h with h | h
  · exact .inl (e.rd h)
  · exact .inr h
instance rpInt : Rp Int := ⟨fun _ _ v a => v = .int a, fun _ h => h⟩
instance rpBool : Rp Bool := ⟨fun _ _ v a => v = .bl a, fun _ h => h⟩
instance rpStr : Rp Str := ⟨fun _ _ v a => v = .str a ∧ a.length ≤ sizeLine, fun _ h => h⟩
instance rpUnit : Rp Unit := ⟨fun _ _ v _ => v = .non, fun _ h => h⟩
instance rpList {α : Type} [Rp α] : Rp (List α) :=
  ⟨fun K H v as => ∃ l xs, v = .ref l ∧ Rd H l (.lst xs) ∧ xs.length ≤ sizeLine ∧ Paired (Rp.rel K H) xs as,
   fun s ⟨l, xs, e, h, z, p⟩ => ⟨l, xs, e, s.rd h, z, Paired.imp' (fun _ _ r => Rp.mono s r) p⟩⟩
instance rpPair {α β : Type} [Rp α] [Rp β] : Rp (α × β) :=
  ⟨fun K H v p => ∃ t a b, v = .ref t ∧ SqT K H t [a, b] ∧ Rp.rel K H a p.1 ∧ Rp.rel K H b p.2,
   fun s ⟨t, a, b, e, h, r1, r2⟩ => ⟨t, a, b, e, s.tup h, Rp.mono s r1, Rp.mono s r2⟩⟩
/-- tuples of one, three, four; of alike things -/
structure T1 (α : Type) where
  a : α
  deriving DecidableEq
structure T3 (α β γ : Type) where
  a : α
  b : β
  c : γ
  deriving DecidableEq
structure T4 (α β γ δ : Type) where
  a : α
  b : β
  c : γ
  d : δ
  deriving DecidableEq
structure Tp (α : Type) where
  l : List α
  deriving DecidableEq
instance rpT1 {α : Type} [Rp α] : Rp (T1 α) :=
  ⟨fun K H v p => ∃ t a, v = .ref t ∧ SqT K H t [a] ∧ Rp.rel K H a p.a, fun s ⟨t, a, e, h, r1⟩ => ⟨t, a, e, s.tup h, Rp.mono s r1⟩⟩
instance rpT3 {α β γ : Type} [Rp α] [Rp β] [Rp γ] : Rp (T3 α β γ) :=
  ⟨fun K H v p => ∃ t a b c, v = .ref t ∧ SqT K H t [a, b, c] ∧ Rp.rel K H a p.a ∧ Rp.rel K H b p.b ∧ Rp.rel K H c p.c,
   fun s ⟨t, a, b, c, e, h, r1, r2, r3⟩ => ⟨t, a, b, c, e, s.tup h, Rp.mono s r1, Rp.mono s r2, Rp.mono s r3⟩⟩
instance rpT4 {α β γ δ : Type} [Rp α] [Rp β] [Rp γ] [Rp δ] : Rp (T4 α β γ δ) :=
  ⟨fun K H v p => ∃ t a b c d, v = .ref t ∧ SqT K H t [a, b, c, d] ∧ Rp.rel K H a p.a ∧ Rp.rel K H b p.b ∧ Rp.rel K H c p.c ∧ Rp.rel K H d p.d,
   fun s ⟨t, a, b, c, d, e, h, r1, r2, r3, r4⟩ => ⟨t, a, b, c, d, e, s.tup h, Rp.mono s r1, Rp.mono s r2, Rp.mono s r3, Rp.mono s r4⟩⟩
instance rpTp {α : Type} [Rp α] : Rp (Tp α) :=
  ⟨fun K H v as => ∃ t xs, v = .ref t ∧ SqT K H t xs ∧ xs.length ≤ sizeLine ∧ Paired (Rp.rel K H) xs as.l,
   fun s ⟨l, xs, e, h, z, p⟩ => ⟨l, xs, e, s.tup h, z, Paired.imp' (fun _ _ r => Rp.mono s r) p⟩⟩
instance rpOpt {α : Type} [Rp α] : Rp (Option α) :=
  ⟨fun K H v o => match o with | none => v = .non | some a => Rp.rel K H v a,
   fun {K H H' v o} s h => by cases o with | none => exact h | some a => exact Rp.mono (α := α) s h⟩

/-- argument lists -/
class RpA (α : Type) where
  n : Nat
  rel : PySem.W.Frag → Hp → List V → α → Prop
  mono : ∀ {K : PySem.W.Frag} {H H' : Hp} {v : List V} {a : α}, Same H H' → rel K H v a → rel K H' v a
  len : ∀ {K : PySem.W.Frag} {H : Hp} {v : List V} {a : α}, rel K H v a → v.length = n
instance raNil : RpA Unit := ⟨0, fun _ _ vs _ => vs = [], fun _ h => h, fun h => by rw [h]; rfl⟩
instance raCons {α β : Type} [Rp α] [RpA β] : RpA (α × β) :=
  ⟨RpA.n β + 1, fun K H vs p => ∃ v r, vs = v :: r ∧ Rp.rel K H v p.1 ∧ RpA.rel K H r p.2,
   fun s ⟨v, r, e, h1, h2⟩ => ⟨v, r, e, Rp.mono s h1, RpA.mono s h2⟩, fun ⟨v, r, e, h1, h2⟩ => by rw [e, List.length_cons, RpA.len h2]⟩

structure Ext (G H G' H' : Hp) : Prop where
  gg : Same G G'
  gh : Same G' H'
  hh : Same H H'
  no : ∀ b, G b = none → H b ≠ none → G' b = none
section
variable {G H G1 H1 G2 H2 G0 H0 : Hp} {p : Addr} {o : HO}
theorem Ext.refl (s : Same G H) : Ext G H G H := ⟨.refl _, s, .refl _, fun _ h _ => h⟩
theorem Ext.trans (x : Ext G H G1 H1) (y : Ext G1 H1 G2 H2) : Ext G H G2 H2 :=
  ⟨x.gg.trans y.gg, y.gh, x.hh.trans y.hh, fun b h1 h2 => y.no b (x.no b h1 h2) fun z => h2 (x.hh.free z)⟩
theorem Same.both (s : Same G H) : Same (upd G p o) (upd H p o) := fun b u e => by
  by_cases hb : b = p
  · subst hb
    rw [upd_same] at e ⊢
    exact e
  · rw [upd_ne hb] at e ⊢
    exact s b u e
theorem Ext.new (s : Same G H) (h : H p = none) : Ext G H (upd G p o) (upd H p o) :=
  ⟨Same.new (s.free h), s.both, Same.new h, fun b h1 h2 => by
    have hb : b ≠ p := fun z => h2 (by rw [z]; exact h)
    rw [upd_ne hb]
    exact h1⟩
theorem Ext.own (s : Same G H) (h : H p = none) : Ext G H G (upd H p o) := ⟨.refl _, s.trans (Same.new h), Same.new h, fun _ h _ => h⟩
theorem Ext.put (x : Ext G0 H0 G H) (h0 : H0 p = none) (hg : G p = none) : Ext G0 H0 G (upd H p o) := ⟨x.gg, x.gh.put hg, x.hh.put h0, x.no⟩
theorem Ext.frz (x : Ext G0 H0 G H) (h0 : H0 p = none) (hg : G p = none) (hh : H p = some o) : Ext G0 H0 (upd G p o) H :=
  ⟨x.gg.trans (Same.new hg), fun b u e => by
    by_cases hb : b = p
    · subst hb
      rw [upd_same] at e
      rw [hh]
      exact e
    · rw [upd_ne hb] at e
      exact x.gh b u e, x.hh, fun b h1 h2 => by
    have hb : b ≠ p := fun z => h2 (by rw [z]; exact h0)
    rw [upd_ne hb]
    exact x.no b h1 h2⟩
end

section
variable {K : PySem.W.Frag} {σ : St} {G : Hp}
def EV (K : PySem.W.Frag) {α : Type} [Rp α] (te : TE) (σ : St) (G : Hp) (m : Option α) : Prop :=
  ∀ G1, Same G G1 → ∀ a, m = some a → ∀ H, Same G1 H → ∀ Q : VK, (∀ v G2 H2, Ext G1 H G2 H2 → Rp.rel K G2 v a → Q v H2) → te σ H Q
def TV (t : TT) (σ : St) (G : Hp) (m : Option Bool) : Prop :=
  ∀ G1, Same G G1 → ∀ a, m = some a → ∀ H, Same G1 H → ∀ Q : Bool → Hp → Prop, (∀ G2 H2, Ext G1 H G2 H2 → Q a H2) → t σ H Q
def AV (K : PySem.W.Frag) {α : Type} [RpA α] (t : TA) (σ : St) (G : Hp) (m : Option α) : Prop :=
  ∀ G1, Same G G1 → ∀ a, m = some a → ∀ H, Same G1 H → ∀ Q : List V → Hp → Prop, (∀ vs G2 H2, Ext G1 H G2 H2 → RpA.rel K G2 vs a → Q vs H2) → t σ H Q
/-- written items, n of them, alike -/
def LV (K : PySem.W.Frag) {α : Type} [Rp α] (t : TA) (σ : St) (G : Hp) (n : Nat) (m : Option (List α)) : Prop :=
  ∀ G1, Same G G1 → ∀ a, m = some a → ∀ H, Same G1 H → ∀ Q : List V → Hp → Prop, (∀ vs G2 H2, Ext G1 H G2 H2 → vs.length = n → Paired (Rp.rel K G2) vs a → Q vs H2) → t σ H Q
def OV (t : TO) (σ : St) (G : Hp) (m : Option (Option Int)) : Prop :=
  ∀ G1, Same G G1 → ∀ a, m = some a → ∀ H, Same G1 H → ∀ Q : Option Int → Hp → Prop, (∀ G2 H2, Ext G1 H G2 H2 → Q a H2) → t σ H Q
/-- a new list -/
def FV (K : PySem.W.Frag) {α : Type} [Rp α] (te : TE) (σ : St) (G : Hp) (m : Option (List α)) : Prop :=
  ∀ G1, Same G G1 → ∀ a, m = some a → ∀ H, Same G1 H → ∀ Q : VK, (∀ p vs G2 H2, Ext G1 H G2 H2 → H p = none → G2 p = none → H2 p = some (.lst vs) → vs.length ≤ sizeLine → Paired (Rp.rel K G2) vs a → Q (.ref p) H2) → te σ H Q
/-- what is walked -/
def IV (K : PySem.W.Frag) {α : Type} [Rp α] (wi : TI) (σ : St) (G : Hp) (m : Option (List α)) : Prop :=
  ∀ G1, Same G G1 → ∀ a, m = some a → ∀ H, Same G1 H → ∀ R : It → Hp → Prop, (∀ J vs G2 H2, Ext G1 H G2 H2 → Yields J G2 vs → Paired (Rp.rel K G2) vs a → R J H2) → wi σ H R

section
variable {α β γ δ : Type} [Rp α] [Rp β] [Rp γ] [Rp δ] {ta tb tc td : TE} {ma : Option α} {mb : Option β} {mc : Option γ}
theorem EV.run {te : TE} {H : Hp} {a : α} {Q : VK} {m : Option α} (e : EV K te σ G m) (hm : m = some a) (s : Same G H) (k : ∀ v G2 H2, Ext G H G2 H2 → Rp.rel K G2 v a → Q v H2) : te σ H Q := e G (.refl G) a hm H s Q k
theorem TV.run {t : TT} {H : Hp} {a : Bool} {Q : Bool → Hp → Prop} {m : Option Bool} (e : TV t σ G m) (hm : m = some a) (s : Same G H) (k : ∀ G2 H2, Ext G H G2 H2 → Q a H2) : t σ H Q := e G (.refl G) a hm H s Q k
theorem EV.of {te : TE} {m m' : Option α} (e : EV K te σ G m) (h : m = m') : EV K te σ G m' := h ▸ e

theorem FV.ev {te : TE} {m : Option (List α)} (e : FV K te σ G m) : EV K te σ G m := by
  intro G1 s1 a ha H sH Q k
  refine e G1 s1 a ha H sH Q fun p vs G2 H2 x h0 hg hh hz hp => ?_
  exact k _ _ _ (x.frz h0 hg hh) ⟨p, vs, rfl, .inl upd_same, hz, Paired.imp' (fun _ _ r => Rp.mono (Same.new hg) r) hp⟩

theorem ev_var {i : Nat} {v : V} {a : α} (h : σ[i]? = some (some v)) (r : Rp.rel K G v a) : EV K (tVar i) σ G (some a) := fun G1 s a' e H sH Q k => by
  cases e
  exact ⟨v, h, k v G1 H (.refl sH) (Rp.mono s r)⟩
theorem ev_c {v : V} {a : α} (h : ∀ G, Rp.rel K G v a) : EV K (tC v) σ G (some a) := fun G1 s a' e H sH Q k => by
  cases e
  exact k v G1 H (.refl sH) (h _)
theorem ev_i {i : Int} : EV K (tC (.int i)) σ G (some i) := ev_c fun _ => rfl
theorem ev_b {b : Bool} : EV K (tC (.bl b)) σ G (some b) := ev_c fun _ => rfl
theorem ev_s {x : Str} (h : x.length ≤ sizeLine := by decide +kernel) : EV K (tC (.str x)) σ G (some x) := ev_c fun _ => ⟨rfl, h⟩
/-- None and something, of a thing that may be None -/
theorem ev_none : EV K (tC .non) σ G (some (none : Option α)) := ev_c fun _ => rfl
theorem ev_some {te : TE} {m : Option α} (e : EV K te σ G m) : EV K te σ G (m.bind fun a => some (some a)) := by
  intro G1 s1 c hc H sH Q k
  obtain ⟨a, ha, hc⟩ := Option.bind_eq_some_iff.mp hc
  cases hc
  exact e G1 s1 a ha H sH Q k

theorem ev_bin {r : R2} {f : α → β → Option γ}
    (h : ∀ {G H : Hp} {v u : V} {a : α} {b : β} {c : γ}, Same G H → Rp.rel K G v a → Rp.rel K G u b → f a b = some c → ∀ {Q : VK}, (∀ w G2 H2, Ext G H G2 H2 → Rp.rel K G2 w c → Q w H2) → r v u H Q)
    (ea : EV K ta σ G ma) (eb : EV K tb σ G mb) : EV K (tOp r ta tb) σ G (ma.bind fun a => mb.bind fun b => f a b) := by
  intro G1 s1 c hc H sH Q k
  obtain ⟨a, ha, hc⟩ := Option.bind_eq_some_iff.mp hc
  obtain ⟨b, hb, hc⟩ := Option.bind_eq_some_iff.mp hc
  refine ea G1 s1 a ha H sH _ fun v G2 H2 x2 r2 => ?_
  refine eb G2 (s1.trans x2.gg) b hb H2 x2.gh _ fun u G3 H3 x3 r3 => ?_
  exact h x3.gh (Rp.mono x3.gg r2) r3 hc fun w G4 H4 x4 r4 => k w G4 H4 ((x2.trans x3).trans x4) r4
instance decMul (i j : Int) : Decidable (CMul i j) := by unfold CMul; infer_instance
instance decDiv (i j : Int) : Decidable (CDiv i j) := by unfold CDiv; infer_instance
instance decPow (i j : Int) : Decidable (CPow i j) := by unfold CPow; infer_instance
def mulO (a b : Int) : Option Int := if CMul a b then some (a * b) else none
def divO (a b : Int) : Option Int := if CDiv a b then some (a / b) else none
def modO (a b : Int) : Option Int := if 0 < b then some (a % b) else none
def powO (a b : Int) : Option Int := if CPow a b then some (a ^ b.toNat) else none
theorem ite_some {p : Prop} [Decidable p] {α : Type} {a c : α} (h : (if p then some a else none) = some c) : p ∧ a = c := by
  by_cases hp : p
  · rw [if_pos hp] at h
    exact ⟨hp, Option.some.inj h⟩
  · rw [if_neg hp] at h
    cases h
section
variable {ia ib : Option Int}
theorem ev_add (ea : EV K ta σ G ia) (eb : EV K tb σ G ib) : EV K (tOp (rPlus K) ta tb) σ G (ia.bind fun a => ib.bind fun b => some (a + b)) :=
  ev_bin (fun s ra rb e Q k => by cases ra; cases rb; cases e; exact k _ _ _ (.refl s) rfl) ea eb
theorem ev_sub (ea : EV K ta σ G ia) (eb : EV K tb σ G ib) : EV K (tOp (rI0 fun i j => .int (i - j)) ta tb) σ G (ia.bind fun a => ib.bind fun b => some (a - b)) :=
  ev_bin (fun s ra rb e Q k => by cases ra; cases rb; cases e; exact ⟨_, _, rfl, rfl, k _ _ _ (.refl s) rfl⟩) ea eb
theorem ev_mul (ea : EV K ta σ G ia) (eb : EV K tb σ G ib) : EV K (tOp (rMul K) ta tb) σ G (ia.bind fun a => ib.bind fun b => mulO a b) :=
  ev_bin (fun s ra rb e Q k => by cases ra; cases rb; obtain ⟨h, rfl⟩ := ite_some e; exact ⟨h, k _ _ _ (.refl s) rfl⟩) ea eb
theorem ev_mod (ea : EV K ta σ G ia) (eb : EV K tb σ G ib) : EV K (tOp (rI (fun _ j => 0 < j) fun i j => .int (i % j)) ta tb) σ G (ia.bind fun a => ib.bind fun b => modO a b) :=
  ev_bin (fun s ra rb e Q k => by cases ra; cases rb; obtain ⟨h, rfl⟩ := ite_some e; exact ⟨_, _, rfl, rfl, h, k _ _ _ (.refl s) rfl⟩) ea eb
theorem ev_div (ea : EV K ta σ G ia) (eb : EV K tb σ G ib) : EV K (tOp (rI CDiv fun i j => .int (i / j)) ta tb) σ G (ia.bind fun a => ib.bind fun b => divO a b) :=
  ev_bin (fun s ra rb e Q k => by cases ra; cases rb; obtain ⟨h, rfl⟩ := ite_some e; exact ⟨_, _, rfl, rfl, h, k _ _ _ (.refl s) rfl⟩) ea eb
theorem ev_ord {p : Int → Int → Bool} {q : List Nat → List Nat → Bool} (ea : EV K ta σ G ia) (eb : EV K tb σ G ib) : EV K (tOp (rOrd p q) ta tb) σ G (ia.bind fun a => ib.bind fun b => some (p a b)) :=
  ev_bin (fun s ra rb e Q k => by cases ra; cases rb; cases e; exact k _ _ _ (.refl s) rfl) ea eb
theorem ev_eqI (ea : EV K ta σ G ia) (eb : EV K tb σ G ib) : EV K (tOp rEq ta tb) σ G (ia.bind fun a => ib.bind fun b => some (decide (a = b))) :=
  ev_bin (fun s ra rb e Q k => by cases ra; cases rb; cases e; exact ⟨rfl, k _ _ _ (.refl s) (by show V.bl _ = V.bl _; congr 1; simp)⟩) ea eb
end
section
variable {ba bb : Option Bool}
theorem ev_and (ea : EV K ta σ G ba) (eb : EV K tb σ G bb) : EV K (tAndV ta tb) σ G (ba.bind fun a => cond a bb (some false)) := by
  intro G1 s1 c hc H sH Q k
  obtain ⟨a, ha, hc⟩ := Option.bind_eq_some_iff.mp hc
  refine ea G1 s1 a ha H sH _ fun v G2 H2 x2 r2 => ?_
  cases r2
  refine ⟨_, rfl, ?_⟩
  cases a with
  | false => cases hc; exact iteF (k _ _ _ x2 rfl)
  | true => exact iteT (eb G2 (s1.trans x2.gg) c hc H2 x2.gh _ fun u G3 H3 x3 r3 => k _ _ _ (x2.trans x3) r3)
theorem ev_or (ea : EV K ta σ G ba) (eb : EV K tb σ G bb) : EV K (tOrV ta tb) σ G (ba.bind fun a => cond a (some true) bb) := by
  intro G1 s1 c hc H sH Q k
  obtain ⟨a, ha, hc⟩ := Option.bind_eq_some_iff.mp hc
  refine ea G1 s1 a ha H sH _ fun v G2 H2 x2 r2 => ?_
  cases r2
  refine ⟨_, rfl, ?_⟩
  cases a with
  | true => cases hc; exact iteT (k _ _ _ x2 rfl)
  | false => exact iteF (eb G2 (s1.trans x2.gg) c hc H2 x2.gh _ fun u G3 H3 x3 r3 => k _ _ _ (x2.trans x3) r3)
theorem tv_test (ea : EV K ta σ G ba) : TV (tTest ta) σ G ba := by
  intro G1 s1 c hc H sH Q k
  refine ea G1 s1 c hc H sH _ fun v G2 H2 x2 r2 => ?_
  cases r2
  exact ⟨_, rfl, k _ _ x2⟩
theorem tv_not {t : TT} (ea : TV t σ G ba) : TV (tNot t) σ G (ba.bind fun a => some (!a)) := by
  intro G1 s1 c hc H sH Q k
  obtain ⟨a, ha, hc⟩ := Option.bind_eq_some_iff.mp hc
  cases hc
  exact ea G1 s1 a ha H sH _ fun G2 H2 x2 => k _ _ x2
theorem tv_and {t u : TT} (ea : TV t σ G ba) (eb : TV u σ G bb) : TV (tAnd t u) σ G (ba.bind fun a => cond a bb (some false)) := by
  intro G1 s1 c hc H sH Q k
  obtain ⟨a, ha, hc⟩ := Option.bind_eq_some_iff.mp hc
  refine ea G1 s1 a ha H sH _ fun G2 H2 x2 => ?_
  cases a with
  | false => cases hc; exact iteF (k _ _ x2)
  | true => exact iteT (eb G2 (s1.trans x2.gg) c hc H2 x2.gh _ fun G3 H3 x3 => k _ _ (x2.trans x3))
theorem tv_or {t u : TT} (ea : TV t σ G ba) (eb : TV u σ G bb) : TV (tOr t u) σ G (ba.bind fun a => cond a (some true) bb) := by
  intro G1 s1 c hc H sH Q k
  obtain ⟨a, ha, hc⟩ := Option.bind_eq_some_iff.mp hc
  refine ea G1 s1 a ha H sH _ fun G2 H2 x2 => ?_
  cases a with
  | true => cases hc; exact iteT (k _ _ x2)
  | false => exact iteF (eb G2 (s1.trans x2.gg) c hc H2 x2.gh _ fun G3 H3 x3 => k _ _ (x2.trans x3))
/-- a truth, a number, a text, a list as a test -/
theorem tv_tru {f : α → Bool} (h : ∀ {G : Hp} {v : V} {a : α}, Rp.rel K G v a → TruV K v G (f a)) (mn : ∀ {G H : Hp} {v : V} {k : Bool}, Same G H → TruV K v G k → TruV K v H k) (ea : EV K ta σ G ma) :
    TV (fun σ H Q => ta σ H fun x H' => ∃ k, TruV K x H' k ∧ Q k H') σ G (ma.bind fun a => some (f a)) := by
  intro G1 s1 c hc H sH Q k
  obtain ⟨a, ha, hc⟩ := Option.bind_eq_some_iff.mp hc
  cases hc
  refine ea G1 s1 a ha H sH _ fun v G2 H2 x2 r2 => ?_
  exact ⟨_, mn x2.gh (h r2), k _ _ x2⟩
end
end
end
end L2

set_option Elab.async false
set_option linter.all false
set_option maxRecDepth 100000
set_option maxHeartbeats 4000000
namespace L2
open PySem PySem.Spec PyProof.Rows
section
variable {K : PySem.W.Frag} {σ : St} {G : Hp} {α β γ δ : Type} [Rp α] [Rp β] [Rp γ] [Rp δ] {ta tb tc td : TE} {ma : Option α} {mb : Option β} {mc : Option γ} {md : Option δ}

section
variable {sa sb : Option Str} {ia ib : Option Int}
def catS (a b : Str) : Option Str := if a.length + b.length ≤ sizeLine then some (a ++ b) else none
theorem ev_ordS {p : Int → Int → Bool} {q : List Nat → List Nat → Bool} (ea : EV K ta σ G sa) (eb : EV K tb σ G sb) : EV K (tOp (rOrd p q) ta tb) σ G (sa.bind fun a => sb.bind fun b => some (q a.cps.toList b.cps.toList)) :=
  ev_bin (fun s ra rb e Q k => by obtain ⟨rfl, z1⟩ := ra; obtain ⟨rfl, z2⟩ := rb; cases e; exact k _ _ _ (.refl s) rfl) ea eb
theorem ev_eqS (ea : EV K ta σ G sa) (eb : EV K tb σ G sb) : EV K (tOp rEq ta tb) σ G (sa.bind fun a => sb.bind fun b => some (decide (a = b))) :=
  ev_bin (fun s ra rb e Q k => by obtain ⟨rfl, z1⟩ := ra; obtain ⟨rfl, z2⟩ := rb; cases e; exact ⟨rfl, k _ _ _ (.refl s) (by show V.bl _ = V.bl _; congr 1; simp)⟩) ea eb
theorem ev_neS (ea : EV K ta σ G sa) (eb : EV K tb σ G sb) : EV K (tOp rNe ta tb) σ G (sa.bind fun a => sb.bind fun b => some (!decide (a = b))) :=
  ev_bin (fun s ra rb e Q k => by obtain ⟨rfl, z1⟩ := ra; obtain ⟨rfl, z2⟩ := rb; cases e; exact ⟨rfl, k _ _ _ (.refl s) (by show V.bl _ = V.bl _; congr 1; simp)⟩) ea eb
/-- a text in a text -/
def inS (a b : Str) : Bool := !(Builtin.Str.occurrences b a 0 b.length 1).isEmpty
theorem ev_atS (ea : EV K ta σ G sa) (eb : EV K tb σ G ib) : EV K (tOp (rAt K) ta tb) σ G (sa.bind fun a => ib.bind fun i => (atI a.cps.toList i).bind fun c => some (⟨#[c]⟩ : Str)) :=
  ev_bin (fun s ra rb e Q k => by
    obtain ⟨rfl, z1⟩ := ra; cases rb
    obtain ⟨c, hc, e⟩ := Option.bind_eq_some_iff.mp e
    cases e
    exact ⟨z1, c, hc, k _ _ _ (.refl s) ⟨rfl, by show 1 ≤ sizeLine; decide⟩⟩) ea eb
end
theorem paired_atI {R : V → α → Prop} {xs : List V} {as : List α} {i : Int} {a : α} (p : Paired R xs as) (h : atI as i = some a) : ∃ v, atI xs i = some v ∧ R v a := by
  have hl := Paired.length p
  unfold atI at h ⊢
  obtain ⟨j, hj, h⟩ := Option.bind_eq_some_iff.mp h
  rw [hl, hj]
  have hlt : j < xs.length := by
    have := (List.getElem?_eq_some_iff.mp h).1
    omega
  exact ⟨xs[j], List.getElem?_eq_getElem hlt, Paired.at' p (List.getElem?_eq_getElem hlt) h⟩
theorem Paired.app {α β : Type} {F : α → β → Prop} : ∀ {l1 l2 : List α} {m1 m2 : List β}, Paired F l1 m1 → Paired F l2 m2 → Paired F (l1 ++ l2) (m1 ++ m2)
  | _, _, _, _, .nil, h => h
  | _, _, _, _, .cons r t, h => .cons r (Paired.app t h)
theorem Paired.tk {α β : Type} {F : α → β → Prop} : ∀ (n : Nat) {l : List α} {m : List β}, Paired F l m → Paired F (l.take n) (m.take n)
  | 0, _, _, _ => by simpa using .nil
  | n + 1, _, _, .nil => by simpa using .nil
  | n + 1, _, _, .cons r t => .cons r (Paired.tk n t)
theorem Paired.dp {α β : Type} {F : α → β → Prop} : ∀ (n : Nat) {l : List α} {m : List β}, Paired F l m → Paired F (l.drop n) (m.drop n)
  | 0, _, _, h => h
  | n + 1, _, _, .nil => by simpa using .nil
  | n + 1, _, _, .cons r t => Paired.dp n t
theorem Paired.rep {α β : Type} {F : α → β → Prop} {l : List α} {m : List β} (h : Paired F l m) : ∀ n : Nat, Paired F (List.replicate n l).flatten (List.replicate n m).flatten
  | 0 => .nil
  | n + 1 => by
    rw [List.replicate_succ, List.replicate_succ, List.flatten_cons, List.flatten_cons]
    exact Paired.app h (Paired.rep h n)
theorem Paired.st {α β : Type} {F : α → β → Prop} {a : α} {b : β} (r : F a b) : ∀ {l : List α} {m : List β} (j : Nat), Paired F l m → Paired F (l.set j a) (m.set j b)
  | _, _, _, .nil => .nil
  | _, _, 0, .cons _ t => .cons r t
  | _, _, j + 1, .cons q t => .cons q (Paired.st r j t)
section
variable {la lb : Option (List α)} {ia ib : Option Int}
theorem ev_at (ea : EV K ta σ G la) (eb : EV K tb σ G ib) : EV K (tOp (rAt K) ta tb) σ G (la.bind fun a => ib.bind fun i => atI a i) :=
  ev_bin (fun s ra rb e Q k => by
    obtain ⟨l, xs, rfl, h, z, p⟩ := ra; cases rb
    obtain ⟨v, hv, r⟩ := paired_atI p e
    exact .inl ⟨xs, v, .inl (s.rd h), hv, k _ _ _ (.refl s) r⟩) ea eb
theorem ev_atT {pa : Option (Tp α)} (ea : EV K ta σ G pa) (eb : EV K tb σ G ib) : EV K (tOp (rAt K) ta tb) σ G (pa.bind fun a => ib.bind fun i => atI a.l i) :=
  ev_bin (fun s ra rb e Q k => by
    obtain ⟨l, xs, rfl, h, z, p⟩ := ra; cases rb
    obtain ⟨v, hv, r⟩ := paired_atI p e
    exact .inr ⟨xs, v, s.tup h, hv, k _ _ _ (.refl s) r⟩) ea eb
/-- what a new list's rule asks and gives -/
theorem fv_of {H : Hp} {Q : VK} {as : List α} {G1 : Hp} (s : Same G1 H) {vs : List V} (hz : vs.length ≤ sizeLine) (hp : Paired (Rp.rel K G1) vs as)
    (k : ∀ p vs G2 H2, Ext G1 H G2 H2 → H p = none → G2 p = none → H2 p = some (.lst vs) → vs.length ≤ sizeLine → Paired (Rp.rel K G2) vs as → Q (.ref p) H2) : ∀ p, H p = none → Q (.ref p) (upd H p (.lst vs)) :=
  fun p h => k p vs G1 _ (.own s h) h (s.free h) upd_same hz hp
theorem FV.mono {H H' G1 G2 : Hp} {as : List α} {Q : VK} (x : Ext G1 H G2 H')
    (k : ∀ p vs G3 H3, Ext G1 H G3 H3 → H p = none → G3 p = none → H3 p = some (.lst vs) → vs.length ≤ sizeLine → Paired (Rp.rel K G3) vs as → Q (.ref p) H3) :
    ∀ p vs G3 H3, Ext G2 H' G3 H3 → H' p = none → G3 p = none → H3 p = some (.lst vs) → vs.length ≤ sizeLine → Paired (Rp.rel K G3) vs as → Q (.ref p) H3 :=
  fun p vs G3 H3 y h0 => k p vs G3 H3 (x.trans y) (x.hh.free h0)
def catL {α : Type} (a b : List α) : Option (List α) := if a.length + b.length ≤ sizeLine then some (a ++ b) else none
theorem fv_cat (ea : EV K ta σ G la) (eb : EV K tb σ G lb) : FV K (tOp (rPlus K) ta tb) σ G (la.bind fun a => lb.bind fun b => catL a b) := by
  intro G1 s1 c hc H sH Q k
  obtain ⟨a, ha, hc⟩ := Option.bind_eq_some_iff.mp hc
  obtain ⟨b, hb, hc⟩ := Option.bind_eq_some_iff.mp hc
  obtain ⟨hl, rfl⟩ := ite_some hc
  refine ea G1 s1 a ha H sH _ fun v G2 H2 x2 r2 => ?_
  refine eb G2 (s1.trans x2.gg) b hb H2 x2.gh _ fun u G3 H3 x3 r3 => ?_
  obtain ⟨l1, xs, rfl, h1, z1, p1⟩ := Rp.mono x3.gg r2
  obtain ⟨l2, ys, rfl, h2, z2, p2⟩ := r3
  have e1 := Paired.length p1
  have e2 := Paired.length p2
  have hz : (xs ++ ys).length ≤ sizeLine := by rw [List.length_append]; omega
  exact ⟨xs, ys, x3.gh.rd h1, x3.gh.rd h2, by rw [List.length_append] at hz; exact hz, fv_of x3.gh hz (Paired.app p1 p2) (FV.mono (x2.trans x3) k)⟩
def cutA {α : Type} (xs : List α) (lo hi : Option Int) : List α := (xs.drop (HT.sIx xs.length 0 lo)).take (HT.sIx xs.length xs.length hi - HT.sIx xs.length 0 lo)
theorem Paired.cut {α : Type} {R : V → α → Prop} {xs : List V} {as : List α} (p : Paired R xs as) (lo hi : Option Int) : Paired R (cutV xs lo hi) (cutA as lo hi) := by
  unfold cutV cutA
  rw [Paired.length p]
  exact Paired.tk _ (Paired.dp _ p)
section
variable {t1 t2 : TO} {m1 m2 : Option (Option Int)}
theorem ov_none : OV tNoPart σ G (some none) := fun G1 s1 a ha H sH Q k => by
  cases ha
  exact k _ _ (.refl sH)
theorem ov_some (ea : EV K ta σ G ia) : OV (tPart ta) σ G (ia.bind fun i => some (some i)) := by
  intro G1 s1 c hc H sH Q k
  obtain ⟨a, ha, hc⟩ := Option.bind_eq_some_iff.mp hc
  cases hc
  refine ea G1 s1 a ha H sH _ fun v G2 H2 x2 r2 => ?_
  cases r2
  exact ⟨_, rfl, k _ _ x2⟩
theorem ev_sliceS {sa : Option Str} (ea : EV K ta σ G sa) (e1 : OV t1 σ G m1) (e2 : OV t2 σ G m2) : EV K (tSl (rSl K) ta t1 t2) σ G (sa.bind fun a => m1.bind fun lo => m2.bind fun hi => some (Txt.slice a lo hi)) := by
  intro G1 s1 c hc H sH Q k
  obtain ⟨a, ha, hc⟩ := Option.bind_eq_some_iff.mp hc
  obtain ⟨lo, hlo, hc⟩ := Option.bind_eq_some_iff.mp hc
  obtain ⟨hi, hhi, hc⟩ := Option.bind_eq_some_iff.mp hc
  cases hc
  refine ea G1 s1 a ha H sH _ fun v G2 H2 x2 r2 => ?_
  refine e1 G2 (s1.trans x2.gg) lo hlo H2 x2.gh _ fun G3 H3 x3 => ?_
  refine e2 G3 (s1.trans (x2.trans x3).gg) hi hhi H3 x3.gh _ fun G4 H4 x4 => ?_
  obtain ⟨rfl, z⟩ := r2
  exact ⟨z, k _ _ _ ((x2.trans x3).trans x4) ⟨rfl, Nat.le_trans (Txt.slice_le _ _ _) z⟩⟩
end
end
section
variable {t : TA} {n : Nat} {ml : Option (List α)}
theorem lv_nil : LV K tNil σ G 0 (some ([] : List α)) := fun G1 s1 a ha H sH Q k => by
  cases ha
  exact k _ _ _ (.refl sH) rfl .nil
theorem lv_cons (ea : EV K ta σ G ma) (er : LV K t σ G n ml) : LV K (tCons ta t) σ G (n + 1) (ma.bind fun a => ml.bind fun r => some (a :: r)) := by
  intro G1 s1 c hc H sH Q k
  obtain ⟨a, ha, hc⟩ := Option.bind_eq_some_iff.mp hc
  obtain ⟨r, hr, hc⟩ := Option.bind_eq_some_iff.mp hc
  cases hc
  refine ea G1 s1 a ha H sH _ fun v G2 H2 x2 r2 => ?_
  refine er G2 (s1.trans x2.gg) r hr H2 x2.gh _ fun vs G3 H3 x3 hl hp => ?_
  exact k _ _ _ (x2.trans x3) (by rw [List.length_cons, hl]) (.cons (Rp.mono x3.gg r2) hp)
theorem fv_lst (e : LV K t σ G n ml) (hn : n ≤ sizeLine := by decide) : FV K (tLst t) σ G ml := by
  intro G1 s1 c hc H sH Q k
  refine e G1 s1 c hc H sH _ fun vs G2 H2 x2 hl hp => ?_
  exact ⟨by omega, fv_of x2.gh (by omega) hp (FV.mono x2 k)⟩
theorem ev_tupL (e : LV K t σ G n ml) (hn : n ≤ sizeLine := by decide) : EV K (tTup t) σ G (ml.bind fun l => some (Tp.mk l)) := by
  intro G1 s1 c hc H sH Q k
  obtain ⟨l, hl, hc⟩ := Option.bind_eq_some_iff.mp hc
  cases hc
  refine e G1 s1 l hl H sH _ fun vs G2 H2 x2 hl hp => ⟨by omega, fun p h => ?_⟩
  exact k _ _ _ (x2.trans (.new x2.gh h)) ⟨p, vs, rfl, SqT.of upd_same, by omega, Paired.imp' (fun _ _ r => Rp.mono (Same.new (x2.gh.free h)) r) hp⟩
end
section
variable {t : TA} {A B : Type} [RpA A] [RpA B] {mA : Option A}
theorem av_nil : AV K tNil σ G (some ()) := fun G1 s1 a ha H sH Q k => by
  cases ha
  exact k _ _ _ (.refl sH) rfl
theorem av_cons (ea : EV K ta σ G ma) (er : AV K t σ G mA) : AV K (tCons ta t) σ G (ma.bind fun a => mA.bind fun r => some (a, r)) := by
  intro G1 s1 c hc H sH Q k
  obtain ⟨a, ha, hc⟩ := Option.bind_eq_some_iff.mp hc
  obtain ⟨r, hr, hc⟩ := Option.bind_eq_some_iff.mp hc
  cases hc
  refine ea G1 s1 a ha H sH _ fun v G2 H2 x2 r2 => ?_
  refine er G2 (s1.trans x2.gg) r hr H2 x2.gh _ fun vs G3 H3 x3 hp => ?_
  exact k _ _ _ (x2.trans x3) ⟨v, vs, rfl, Rp.mono x3.gg r2, hp⟩
/-- a def that tells what its model m tells -/
def spM (K : PySem.W.Frag) {A : Type} {ρ : Type} [RpA A] [Rp ρ] (m : A → Option ρ) : Sp := fun vs H Q _ =>
  ∃ G a r, Same G H ∧ RpA.rel K G vs a ∧ m a = some r ∧ ∀ v G2 H2, Ext G H G2 H2 → Rp.rel K G2 v r → Q v H2
theorem spM_len {A : Type} {ρ : Type} [RpA A] [Rp ρ] {m : A → Option ρ} {vs : List V} {H : Hp} {Q : VK} {E : XK} (h : spM K m vs H Q E) : vs.length = RpA.n A := by
  obtain ⟨G, a, r, _, h, _⟩ := h
  exact RpA.len h
theorem ev_len {la : Option (List α)} (ea : EV K ta σ G la) : EV K (tCB (rLen K) (tCons ta tNil)) σ G (la.bind fun a => some (a.length : Int)) := by
  intro G1 s1 c hc H sH Q k
  obtain ⟨a, ha, hc⟩ := Option.bind_eq_some_iff.mp hc
  cases hc
  refine ea G1 s1 a ha H sH _ fun v G2 H2 x2 r2 => ?_
  obtain ⟨l, xs, rfl, h, z, p⟩ := r2
  exact ⟨xs, .inl (.inl (x2.gh.rd h)), by rw [Paired.length p]; exact k _ _ _ x2 rfl⟩
theorem ev_lenT {la : Option (Tp α)} (ea : EV K ta σ G la) : EV K (tCB (rLen K) (tCons ta tNil)) σ G (la.bind fun a => some (a.l.length : Int)) := by
  intro G1 s1 c hc H sH Q k
  obtain ⟨a, ha, hc⟩ := Option.bind_eq_some_iff.mp hc
  cases hc
  refine ea G1 s1 a ha H sH _ fun v G2 H2 x2 r2 => ?_
  obtain ⟨l, xs, rfl, h, z, p⟩ := r2
  exact ⟨xs, .inr (x2.gh.tup h), by rw [Paired.length p]; exact k _ _ _ x2 rfl⟩
theorem ev_lenS {sa : Option Str} (ea : EV K ta σ G sa) : EV K (tCB (rLen K) (tCons ta tNil)) σ G (sa.bind fun a => some (a.length : Int)) := by
  intro G1 s1 c hc H sH Q k
  obtain ⟨a, ha, hc⟩ := Option.bind_eq_some_iff.mp hc
  cases hc
  refine ea G1 s1 a ha H sH _ fun v G2 H2 x2 r2 => ?_
  obtain ⟨rfl, z⟩ := r2
  exact ⟨z, k _ _ _ x2 rfl⟩
end
inductive TyS (K : PySem.W.Frag) (H : Hp) : V → String → Prop where
  | non : TyS K H .non "NoneType"
  | bl (x : Bool) : TyS K H (.bl x) "bool"
  | int (i : Int) : TyS K H (.int i) "int"
  | str (x : Str) : TyS K H (.str x) "str"
  | lst {a : Addr} {xs : List V} (e : SqL K H a xs) : TyS K H (.ref a) "list"
  | tup {a : Addr} {xs : List V} (e : SqT K H a xs) : TyS K H (.ref a) "tuple"
  | dK {a : Addr} {kvs : List (Key × V)} (e : Rd H a (.dK kvs)) : TyS K H (.ref a) "dict"
  | dT {a : Addr} {kvs : List (List Key × V)} (e : Rd H a (.dT kvs)) : TyS K H (.ref a) "dict"
def rInst (K : PySem.W.Frag) : List V → Hp → VK → Prop := fun vs H Q => ∃ x t T b, vs = [x, .ty T] ∧ TyS K H x t ∧ kitC t T = some b ∧ Q (.bl b) H
theorem call_inst {X : Cx} : CallR X (.builtin "isinstance") (rInst X.K) := by
  intro pins s σ H vs us Q I r h
  obtain ⟨x, t, T, b, rfl, ty, e, q⟩ := h
  obtain ⟨u, w', rfl, rx, r2⟩ := vals2 r
  obtain rfl : w' = Value.type T := r2
  have e := kit_of (K := X.K) e
  have fin : ∀ tk, EP X pins σ Q (.bool b) { s with toks := tk } := fun tk => ⟨.bl b, H, I.tok tk, rfl, q⟩
  cases ty with
  | non => cases (show u = Value.none from rx); exact PySem.W.kia_one PySem.W.kitx_none I.kIn True.intro e (fun z => nomatch z) fin
  | bl y => cases (show u = Value.bool y from rx); exact PySem.W.kia_one PySem.W.kitx_bool I.kIn True.intro e (fun z => nomatch z) fin
  | int i => obtain ⟨t, q'⟩ := (show ∃ t, u = Value.int i t from rx); cases q'; exact PySem.W.kia_one PySem.W.kitx_int I.kIn True.intro e (fun z => nomatch z) fin
  | str y => obtain ⟨t, q'⟩ := (show ∃ t, u = Value.str y t from rx); cases q'; exact PySem.W.kia_one PySem.W.kitx_str I.kIn True.intro e (fun z => nomatch z) fin
  | @lst a xs ea =>
    cases (show u = Value.ref a from rx)
    obtain ⟨its, _, pl, _⟩ := I.list ea
    obtain ⟨o, n, h1, h2, _⟩ := pl
    exact PySem.W.kia_one PySem.W.kitx_list I.kIn ⟨o, h1, h2⟩ e (fun z => nomatch z) fin
  | @tup a xs ea =>
    cases (show u = Value.ref a from rx)
    obtain ⟨its, _, pl, _⟩ := I.tuple ea
    obtain ⟨o, h1, h2, _⟩ := pl
    exact PySem.W.kia_one PySem.W.kitx_tuple I.kIn ⟨o, h1, h2⟩ e (fun z => nomatch z) fin
  | @dK a kvs ea =>
    cases (show u = Value.ref a from rx)
    obtain ⟨_, _, vs, _, p⟩ := ea.ok I.hok
    obtain ⟨o, es, ep, h1, h2, _⟩ := p
    exact PySem.W.kia_one PySem.W.kitx_dict I.kIn ⟨o, h1, h2.1⟩ e (fun z => nomatch z) fin
  | @dT a kvs ea =>
    cases (show u = Value.ref a from rx)
    obtain ⟨_, _, xs, _, o, es, ep, h1, h2, _⟩ := ea.ok I.hok
    exact PySem.W.kia_one PySem.W.kitx_dict I.kIn ⟨o, h1, h2.1⟩ e (fun z => nomatch z) fin
class RpT (α : Type) [Rp α] where
  tn : String
  ty : ∀ {K : PySem.W.Frag} {H : Hp} {v : V} {a : α}, Rp.rel K H v a → TyS K H v tn
instance rtInt : RpT Int := ⟨"int", fun h => by cases h; exact .int _⟩
instance rtBool : RpT Bool := ⟨"bool", fun h => by cases h; exact .bl _⟩
instance rtStr : RpT Str := ⟨"str", fun h => by obtain ⟨rfl, _⟩ := h; exact .str _⟩
instance rtUnit : RpT Unit := ⟨"NoneType", fun h => by cases h; exact .non⟩
instance rtList : RpT (List α) := ⟨"list", fun h => by obtain ⟨l, xs, rfl, h, _⟩ := h; exact .lst (.inl h)⟩
instance rtPair : RpT (α × β) := ⟨"tuple", fun h => by obtain ⟨l, x, y, rfl, h, _⟩ := h; exact .tup h⟩
instance rtT1 : RpT (T1 α) := ⟨"tuple", fun h => by obtain ⟨l, x, rfl, h, _⟩ := h; exact .tup h⟩
instance rtT3 : RpT (T3 α β γ) := ⟨"tuple", fun h => by obtain ⟨l, x, y, z, rfl, h, _⟩ := h; exact .tup h⟩
instance rtT4 : RpT (T4 α β γ δ) := ⟨"tuple", fun h => by obtain ⟨l, x, y, z, w, rfl, h, _⟩ := h; exact .tup h⟩
instance rtTp : RpT (Tp α) := ⟨"tuple", fun h => by obtain ⟨l, xs, rfl, h, _⟩ := h; exact .tup h⟩
theorem TyS.mono {H H' : Hp} {v : V} {t : String} (s : Same H H') (h : TyS K H v t) : TyS K H' v t := by
  cases h with
  | non => exact .non
  | bl => exact .bl _
  | int => exact .int _
  | str => exact .str _
  | lst e => exact .lst (s.seq e)
  | tup e => exact .tup (s.tup e)
  | dK e => exact .dK (s.rd e)
  | dT e => exact .dT (s.rd e)
/-- isinstance(x, T), x of a known kind -/
theorem ev_inst [RpT α] {T : String} {b : Bool} (h : kitC (RpT.tn α) T = some b) (ea : EV K ta σ G ma) : EV K (tCB (rInst K) (tCons ta (tCons (tC (.ty T)) tNil))) σ G (ma.bind fun _ => some b) := by
  intro G1 s1 c hc H sH Q k
  obtain ⟨a, ha, hc⟩ := Option.bind_eq_some_iff.mp hc
  cases hc
  refine ea G1 s1 a ha H sH _ fun v G2 H2 x2 r2 => ?_
  exact ⟨_, _, _, _, rfl, (RpT.ty r2).mono x2.gh, h, k _ _ _ x2 rfl⟩
theorem EqTy.imp {k : Nat} {α : Type} [DecidableEq α] {R R' : Hp → V → α → Prop} (E : EqTy K k R) (h : ∀ H v a, R' H v a → R H v a) : EqTy K k R' :=
  ⟨fun hK I a b => E.fn hK I (h _ _ _ a) (h _ _ _ b), fun A hK I hu r1 r2 a b => E.eq A hK I hu r1 r2 (h _ _ _ a) (h _ _ _ b), fun A hK I hu r1 r2 a b => E.rc A hK I hu r1 r2 (h _ _ _ a) (h _ _ _ b)⟩
class RpE (α : Type) [Rp α] [DecidableEq α] where
  k : Nat
  ty : ∀ K : PySem.W.Frag, EqTy K k (Rp.rel (α := α) K)
instance reInt : RpE Int := ⟨0, fun _ => eqInt⟩
instance reBool : RpE Bool := ⟨0, fun _ => eqBl⟩
instance reStr : RpE Str := ⟨0, fun _ => eqStr.imp fun _ _ _ h => h.1⟩
instance reList {α : Type} [Rp α] [DecidableEq α] [RpE α] : RpE (List α) := ⟨RpE.k α + 1, fun K => (eqLst (RpE.ty K)).imp fun _ _ _ ⟨l, xs, e, h, _, p⟩ => ⟨l, xs, e, .inl h, p⟩⟩
theorem EqTy.up {k j : Nat} {α : Type} [DecidableEq α] {R : Hp → V → α → Prop} (E : EqTy K k R) (h : k ≤ j) : EqTy K j R :=
  ⟨fun hK I a b => E.fn hK I a b, fun A hK I hu r1 r2 a b => E.eq A hK I (by omega) r1 r2 a b, fun A hK I hu r1 r2 a b => E.rc A hK I (by omega) r1 r2 a b⟩
instance rePair {α β : Type} [Rp α] [DecidableEq α] [RpE α] [Rp β] [DecidableEq β] [RpE β] : RpE (α × β) :=
  ⟨max (RpE.k α) (RpE.k β) + 1, fun K => (eqPair ((RpE.ty (α := α) K).up (Nat.le_max_left _ _)) ((RpE.ty (α := β) K).up (Nat.le_max_right _ _)))⟩
section
variable {α : Type} [Rp α] [DecidableEq α] {m1 m2 : Option α}
def rEqD (K : PySem.W.Frag) (α : Type) [Rp α] [DecidableEq α] : R2 := fun x y H Q => ∃ a b : α, Rp.rel K H x a ∧ Rp.rel K H y b ∧ Q (.bl (decide (a = b))) H
def rNeD (K : PySem.W.Frag) (α : Type) [Rp α] [DecidableEq α] : R2 := fun x y H Q => ∃ a b : α, Rp.rel K H x a ∧ Rp.rel K H y b ∧ Q (.bl (!decide (a = b))) H
end
end
end L2

set_option Elab.async false
set_option linter.all false
set_option maxRecDepth 100000
set_option maxHeartbeats 4000000
namespace L2
open PySem PySem.Spec PyProof.Rows

inductive Fl (S ρ : Type) where
  | nx (s : S)
  | bk (s : S)
  | rt (r : ρ)
def forO {α S ρ : Type} (f : α → S → Option (Fl S ρ)) : List α → S → Option (Fl S ρ)
  | [], s => some (.nx s)
  | a :: as, s => (f a s).bind fun fl => match fl with
    | .nx s' => forO f as s'
    | .bk s' => some (.nx s')
    | .rt r => some (.rt r)
def whileN {S ρ : Type} (c : S → Option Bool) (f : S → Option (Fl S ρ)) : Nat → S → Option (Fl S ρ)
  | 0, _ => none
  | n + 1, s => (c s).bind fun b => cond b ((f s).bind fun fl => match fl with
    | .nx s' => whileN c f n s'
    | .bk s' => some (.nx s')
    | .rt r => some (.rt r)) (some (.nx s))
def fuelW : Nat := 16777216
def compO {α β : Type} (fc : α → Option Bool) (fe : α → Option β) : List α → Option (List β)
  | [] => some []
  | a :: r => (fc a).bind fun b => cond b ((fe a).bind fun y => (compO fc fe r).bind fun ys => some (y :: ys)) (compO fc fe r)
def mapO {α β : Type} (fe : α → Option β) : List α → Option (List β)
  | [] => some []
  | a :: r => (fe a).bind fun y => (mapO fe r).bind fun ys => some (y :: ys)
theorem compO_true {α β : Type} (fe : α → Option β) : ∀ as, compO (fun _ => some true) fe as = mapO fe as
  | [] => rfl
  | a :: r => by
    show ((fe a).bind fun y => (compO (fun _ => some true) fe r).bind fun ys => some (y :: ys)) = _
    rw [compO_true fe r]
    rfl
def rngO (lo hi : Int) : Option (List Int) := if (-(2 ^ 62) ≤ lo ∧ lo < 2 ^ 62 ∧ -(2 ^ 62) ≤ hi ∧ hi < 2 ^ 62) ∧ (hi - lo).toNat ≤ sizeLine then some ((List.range (hi - lo).toNat).map fun (i : Nat) => lo + (i : Int)) else none

section
variable {K : PySem.W.Frag} {σ : St} {G : Hp} {α β γ δ : Type} [Rp α] [Rp β] [Rp γ] [Rp δ] {ta tb tc td : TE} {ma : Option α} {mb : Option β} {mc : Option γ} {md : Option δ}
def IW (K : PySem.W.Frag) {α : Type} [Rp α] (wi : TI) (σ : St) (G : Hp) (m : Option (List α)) : Prop :=
  ∀ G1, Same G G1 → ∀ a, m = some a → ∀ H, Same G1 H → ∀ R : It → Hp → Prop, (∀ J vs G2 H2, Ext G1 H G2 H2 → Yields J G2 vs → vs.length ≤ sizeLine → Paired (Rp.rel K G2) vs a → R J H2) → wi σ H R
theorem iw_list {la : Option (List α)} (ea : EV K ta σ G la) : IW K (iAny K ta) σ G la := by
  intro G1 s1 a ha H sH R k
  refine ea G1 s1 a ha H sH _ fun v G2 H2 x2 r2 => ?_
  obtain ⟨l, xs, rfl, h, z, p⟩ := r2
  exact .inl ⟨⟨xs, .inl (x2.gh.rd h)⟩, k _ xs G2 H2 x2 (yields_list (.inl h)) z p⟩
def signsO (x : Str) : List Str := x.cps.toList.map fun c => (⟨#[c]⟩ : Str)
theorem paired_signs (x : Str) (H : Hp) : Paired (Rp.rel K H) (signsV x) (signsO x) := by
  unfold signsV signsO
  induction x.cps.toList with
  | nil => exact .nil
  | cons c r ih => exact .cons ⟨rfl, by show 1 ≤ sizeLine; decide⟩ ih
theorem iw_str {sa : Option Str} (ea : EV K ta σ G sa) : IW K (iAny K ta) σ G (sa.bind fun a => some (signsO a)) := by
  intro G1 s1 a ha H sH R k
  obtain ⟨b, hb, ha⟩ := Option.bind_eq_some_iff.mp ha
  cases ha
  refine ea G1 s1 b hb H sH _ fun v G2 H2 x2 r2 => ?_
  obtain ⟨rfl, z⟩ := r2
  exact k _ (signsV b) G2 H2 x2 (yields_str b G2) (by unfold signsV; rw [List.length_map]; exact z) (paired_signs b G2)
theorem paired_ints (H : Hp) (f : Nat → Int) : ∀ l : List Nat, Paired (Rp.rel K H) (l.map fun i => V.int (f i)) (l.map fun i => f i)
  | [] => .nil
  | a :: r => .cons rfl (paired_ints H f r)
theorem iw_rng1 {ia : Option Int} (ea : EV K ta σ G ia) : IW K (iRng1 (tCons ta tNil)) σ G (ia.bind fun j => rngO 0 j) := by
  intro G1 s1 a ha H sH R k
  obtain ⟨j, hj, ha⟩ := Option.bind_eq_some_iff.mp ha
  obtain ⟨⟨hb, hz⟩, rfl⟩ := ite_some ha
  refine ea G1 s1 j hj H sH _ fun v G2 H2 x2 r2 => ?_
  cases r2
  refine ⟨j, rfl, hb.2.2.1, hb.2.2.2, ?_⟩
  have e : (j - 0).toNat = j.toNat := by omega
  rw [e] at hz k
  exact k (Itr 0 j.toNat) _ G2 H2 x2 (yields_range 0 j.toNat G2) (by rw [List.length_map, List.length_range]; exact hz) (paired_ints G2 (fun i => (0 : Int) + (i : Int)) _)
theorem tv_yes : TV tYes σ G (some true) := fun G1 s1 a ha H sH Q k => by
  cases ha
  exact k _ _ (.refl sH)
theorem Paired.getR {F : V → α → Prop} : ∀ {xs : List V} {as : List α} {i : Nat} {v : V}, Paired F xs as → xs[i]? = some v → ∃ a, as[i]? = some a ∧ F v a
  | _, _, _, _, .nil, e => by simp at e
  | _, _, 0, _, .cons r _, e => by simp at e; subst e; exact ⟨_, rfl, r⟩
  | _, _, i + 1, _, .cons _ t, e => Paired.getR (i := i) t (by simpa using e)
theorem fv_comp {cap : List Nat} {wi : TI} {tt : TT} {te : TE} {mi : Option (List α)} {fc : α → Option Bool} {fe : α → Option β} (ei : IW K wi σ G mi)
    (hb : ∀ (x : V) (a : α) (G1 : Hp), Same G G1 → Rp.rel K G1 x a → TV tt ((inner cap σ).set 0 (some x)) G1 (fc a) ∧ EV K te ((inner cap σ).set 0 (some x)) G1 (fe a)) :
    FV K (tComp cap wi tt te) σ G (mi.bind fun as => compO fc fe as) := by
  intro G1 s1 c hc H sH Q k
  obtain ⟨as, has, hc⟩ := Option.bind_eq_some_iff.mp hc
  refine ei G1 s1 as has H sH _ fun J vs Ga Ha xa Y hz pr p hp => ?_
  have hla := Paired.length pr
  refine ⟨fun i m ys H2 => m = vs.length - i ∧ i ≤ vs.length ∧ ∃ G2 bs cs, Ext Ga Ha G2 H2 ∧ G2 p = none ∧ H2 p = some (.lst ys) ∧ ys.length ≤ i ∧ Paired (Rp.rel K G2) ys bs ∧ compO fc fe (as.drop i) = some cs ∧ c = bs ++ cs,
    ⟨vs.length, by simp, Nat.zero_le _, Ga, [], c, .own xa.gh hp, xa.gh.free hp, upd_same, Nat.le_refl _, .nil, hc, rfl⟩, ?_⟩
  rintro i m ys H2 ⟨rfl, hi, G2, bs, cs, x2, hg, hh, hy, hpr, hcs, rfl⟩
  by_cases hlt : i < vs.length
  · refine .inr ⟨Y.go i _ (x2.gg.trans x2.gh) hlt, fun ys' H' => ∃ G2 bs' cs', Ext Ga Ha G2 H' ∧ G2 p = none ∧ H' p = some (.lst ys') ∧ ys'.length ≤ i + 1 ∧ Paired (Rp.rel K G2) ys' bs' ∧ compO fc fe (as.drop (i + 1)) = some cs' ∧ bs ++ cs = bs' ++ cs',
      fun ys' H' ⟨G3, bs', cs', h⟩ => ⟨vs.length - (i + 1), by omega, rfl, hlt, G3, bs', cs', h⟩, fun x H3 y => ?_⟩
    obtain ⟨rfl, hx⟩ := Y.yld i _ x H3 (x2.gg.trans x2.gh) hlt y
    obtain ⟨a, hai, ra⟩ := Paired.getR pr hx
    have hd : as.drop i = a :: as.drop (i + 1) := by
      obtain ⟨h1, h2⟩ := List.getElem?_eq_some_iff.mp hai
      rw [List.drop_eq_getElem_cons h1, h2]
    rw [hd] at hcs
    obtain ⟨b, hbb, hcs⟩ := Option.bind_eq_some_iff.mp hcs
    have B := hb x a G2 (s1.trans (xa.gg.trans x2.gg)) (Rp.mono x2.gg ra)
    refine B.1 G2 (.refl _) b hbb _ x2.gh _ fun G5 H5 x5 => ?_
    have hp5 : H5 p = some (.lst ys) := x5.hh _ _ hh
    have hg5 : G5 p = none := x5.no p hg (by rw [hh]; exact fun z => nomatch z)
    cases b with
    | false =>
      rw [if_neg Bool.false_ne_true]
      exact ⟨G5, bs, cs, x2.trans x5, hg5, hp5, by omega, Paired.imp' (fun _ _ r => Rp.mono x5.gg r) hpr, hcs, rfl⟩
    | true =>
      rw [if_pos rfl]
      obtain ⟨z, hze, hcs⟩ := Option.bind_eq_some_iff.mp hcs
      obtain ⟨cs', hcs', hcs⟩ := Option.bind_eq_some_iff.mp hcs
      cases hcs
      refine B.2 G5 x5.gg z hze H5 x5.gh _ fun v G6 H6 x6 r6 => ?_
      have hp6 : H6 p = some (.lst ys) := x6.hh _ _ hp5
      have hg6 : G6 p = none := x6.no p hg5 (by rw [hp5]; exact fun z => nomatch z)
      refine ⟨hp6, by omega, G6, bs ++ [z], cs', ((x2.trans x5).trans x6).put hp hg6, hg6, upd_same, ?_, Paired.app (Paired.imp' (fun _ _ r => Rp.mono (x5.trans x6).gg r) hpr) (.cons r6 .nil), hcs', by simp⟩
      rw [List.length_append, List.length_singleton]
      omega
  · have e : i = vs.length := by omega
    subst e
    have hd : as.drop vs.length = [] := List.drop_eq_nil_of_le (by omega)
    rw [hd] at hcs
    cases hcs
    refine .inl ⟨Y.stop _ (x2.gg.trans x2.gh), ?_⟩
    rw [List.append_nil] at k
    exact k p ys G2 H2 (xa.trans x2) (xa.hh.free hp) hg hh (by omega) hpr
theorem fv_map {cap : List Nat} {wi : TI} {te : TE} {mi : Option (List α)} {fe : α → Option β} (ei : IW K wi σ G mi)
    (hb : ∀ (x : V) (a : α) (G1 : Hp), Same G G1 → Rp.rel K G1 x a → EV K te ((inner cap σ).set 0 (some x)) G1 (fe a)) :
    FV K (tComp cap wi tYes te) σ G (mi.bind fun as => mapO fe as) := by
  have h := fv_comp (tt := tYes) (fc := fun _ => some true) ei fun x a G1 s r => ⟨tv_yes, hb x a G1 s r⟩
  have e : (fun as => compO (fun _ => some true) fe as) = fun as => mapO fe as := funext (compO_true fe)
  rw [e] at h
  exact h

def joinO (z : Str) (ys : List Str) : Option Str := if (ys.map (·.length)).sum + ys.length * z.length ≤ 16777216 then some (Txt.join z ys) else none
theorem paired_strs {H : Hp} : ∀ {xs : List V} {ys : List Str}, Paired (Rp.rel K H) xs ys → xs = ys.map V.str
  | _, _, .nil => rfl
  | _, _, .cons r t => by
    obtain ⟨rfl, _⟩ := r
    rw [paired_strs t]
    rfl
theorem join_le (z : Str) : ∀ (ps : List Str) (acc : Array Nat), (ps.foldl (fun acc p => acc ++ z.cps ++ p.cps) acc).size = acc.size + (ps.map (·.length)).sum + ps.length * z.length
  | [], acc => by simp
  | p :: ps, acc => by
    rw [List.foldl_cons, join_le z ps]
    simp only [Array.size_append, List.map_cons, List.sum_cons, List.length_cons, Nat.succ_mul]
    have : p.cps.size = p.length := rfl
    have : z.cps.size = z.length := rfl
    omega
theorem join_len (z : Str) (ys : List Str) : (Txt.join z ys).length ≤ (ys.map (·.length)).sum + ys.length * z.length := by
  show ((ys.drop 1).foldl (fun acc p => acc ++ z.cps ++ p.cps) (ys.headD Str.empty).cps).size ≤ _
  rw [join_le]
  cases ys with
  | nil => simp; rfl
  | cons a r =>
    simp only [List.headD_cons, List.drop_succ_cons, List.drop_zero, List.map_cons, List.sum_cons, List.length_cons, Nat.succ_mul]
    have : a.cps.size = a.length := rfl
    omega
theorem ev_join {sa : Option Str} {lb : Option (List Str)} (ea : EV K ta σ G sa) (eb : EV K tb σ G lb) : EV K (tBM K "str" (rJoin K) ta (tCons tb tNil)) σ G (sa.bind fun z => lb.bind fun ys => joinO z ys) := by
  intro G1 s1 c hc H sH Q k
  obtain ⟨a, ha, hc⟩ := Option.bind_eq_some_iff.mp hc
  obtain ⟨b, hb, hc⟩ := Option.bind_eq_some_iff.mp hc
  obtain ⟨hz, rfl⟩ := ite_some hc
  refine ea G1 s1 a ha H sH _ fun v G2 H2 x2 r2 => ?_
  obtain ⟨rfl, za⟩ := r2
  refine ⟨rfl, ?_⟩
  refine eb G2 (s1.trans x2.gg) b hb H2 x2.gh _ fun u G3 H3 x3 r3 => ?_
  obtain ⟨l, xs, rfl, h, z, p⟩ := r3
  obtain rfl := paired_strs p
  exact ⟨a, l, b, rfl, rfl, .inl (x3.gh.rd h), hz, k _ _ _ (x2.trans x3) ⟨rfl, Nat.le_trans (join_len _ _) (by rw [sizeLine_eq]; exact hz)⟩⟩

def repL {α : Type} (a : List α) (k : Int) : Option (List α) := if (-(2 ^ 63) ≤ k ∧ k < 2 ^ 63) ∧ a.length * k.toNat ≤ sizeLine then some (List.replicate k.toNat a).flatten else none
/-- is None, is not None -/
theorem ev_isN {mo : Option (Option α)} (hn : ∀ {G : Hp} {v : V} {a : α}, Rp.rel K G v a → v ≠ .non) (ea : EV K ta σ G mo) :
    EV K (tOp (fun x y H Q => y = .non ∧ Q (.bl (decide (x = .non))) H) ta (tC .non)) σ G (mo.bind fun o => some o.isNone) := by
  intro G1 s1 c hc H sH Q k
  obtain ⟨a, ha, hc⟩ := Option.bind_eq_some_iff.mp hc
  cases hc
  refine ea G1 s1 a ha H sH _ fun v G2 H2 x2 r2 => ⟨rfl, ?_⟩
  refine k _ _ _ x2 ?_
  show V.bl _ = V.bl _
  congr 1
  cases a with
  | none => exact decide_eq_true r2
  | some a => exact decide_eq_false (hn r2)
theorem nn_int {G : Hp} {v : V} {a : Int} (h : Rp.rel K G v a) : v ≠ .non := by cases h; exact fun z => nomatch z
end

section
variable {K : PySem.W.Frag} {σ : St} {G H : Hp} {α β : Type} [Rp α] [Rp β] {te : TE} {tt : TT} {t u rest : TS} {D : Ends} {i : Nat} {a : α} {m : Option α}
theorem sv_set (e : EV K te σ G m) (hm : m = some a) (s : Same G H) (k : ∀ v G2 H2, Ext G H G2 H2 → Rp.rel K G2 v a → rest D (σ.set i (some v)) H2) : tSeq (tAsg te (gName i)) rest D σ H := e.run hm s k
theorem sv_ret (e : EV K te σ G m) (hm : m = some a) (s : Same G H) (k : ∀ v G2 H2, Ext G H G2 H2 → Rp.rel K G2 v a → D.rt v H2) : tSeq (tRet te) rest D σ H := e.run hm s k
theorem sv_if {b : Bool} {m : Option Bool} (e : TV tt σ G m) (hm : m = some b) (s : Same G H) (k : ∀ G2 H2, Ext G H G2 H2 → if b = true then t { D with nx := rest D } σ H2 else u { D with nx := rest D } σ H2) :
    tSeq (tIfS tt t u) rest D σ H := e.run hm s k
/-- two ways that come together again -/
theorem sv_join (Pv : St → Hp → Prop) (h : ∀ nx : St → Hp → Prop, (∀ σ' H', Pv σ' H' → nx σ' H') → tSeq t tNext { D with nx := nx } σ H) (key : ∀ σ' H', Pv σ' H' → rest D σ' H') : tSeq t rest D σ H := h (rest D) key

structure LoopOb (K : PySem.W.Frag) {α S ρ : Type} [Rp α] (RR : ρ → V → Hp → Hp → Prop) (f : α → S → Option (Fl S ρ)) (g : TG) (tb : TS) (D : Ends) (σ : St) (G2 H2 : Hp) (as : List α) (s0 : S) (res : Fl S ρ) (RS : S → St → Hp → Hp → Prop) : Prop where
  start : RS s0 σ G2 H2
  keep : ∀ s σ' G' H', RS s σ' G' H' → Same G2 G' ∧ Same G' H'
  step : ∀ (x : V) (a : α) (s : S) (σ1 : St) (G1 H1 : Hp) (fl : Fl S ρ), a ∈ as → RS s σ1 G1 H1 → Rp.rel K G1 x a → f a s = some fl → ∀ D' : Ends, (∀ s' σ' G' H', fl = .nx s' → RS s' σ' G' H' → D'.nx σ' H') → (∀ s' σ' G' H', fl = .nx s' → RS s' σ' G' H' → D'.ct σ' H') →
    (∀ s' σ' G' H', fl = .bk s' → RS s' σ' G' H' → D'.bk σ' H') → (∀ r v G' H', fl = .rt r → RR r v G' H' → D'.rt v H') → g x σ1 H1 fun σ2 H2 => tb D' σ2 H2
  nxt : ∀ s σ' G' H', res = .nx s → RS s σ' G' H' → D.nx σ' H'
  rtn : ∀ r v G' H', res = .rt r → RR r v G' H' → D.rt v H'
theorem sv_for {S ρ : Type} {RR : ρ → V → Hp → Hp → Prop} {f : α → S → Option (Fl S ρ)} {wi : TI} {g : TG} {tb : TS} {mi : Option (List α)} {as : List α} {s0 : S} {res : Fl S ρ} (ei : IW K wi σ G mi) (hm : mi = some as) (hf : forO f as s0 = some res) (sg : Same G H)
    (k : ∀ G2 H2, Ext G H G2 H2 → ∃ RS, LoopOb K RR f g tb { D with nx := rest D } σ G2 H2 as s0 res RS) : tSeq (tFor wi g tb) rest D σ H := by
  refine ei G (.refl G) as hm H sg _ fun J vs G2 H2 x2 Y hz pr => ?_
  obtain ⟨RS, L⟩ := k G2 H2 x2
  have hla := Paired.length pr
  refine ⟨fun i m σ' H' => m = vs.length - i ∧ i ≤ vs.length ∧ ∃ s G', RS s σ' G' H' ∧ forO f (as.drop i) s = some res, ⟨vs.length, by simp, Nat.zero_le _, s0, G2, L.start, hf⟩, ?_⟩
  rintro i m σ' H' ⟨rfl, hi, s, G', rs, hfo⟩
  obtain ⟨k1, k2⟩ := L.keep _ _ _ _ rs
  by_cases hlt : i < vs.length
  · refine .inr ⟨Y.go i _ (k1.trans k2) hlt, fun σ'' H'' => ∃ s' G'', RS s' σ'' G'' H'' ∧ forO f (as.drop (i + 1)) s' = some res, fun σ'' H'' ⟨s', G'', h⟩ => ⟨vs.length - (i + 1), by omega, rfl, hlt, s', G'', h⟩, fun x H3 y => ?_⟩
    obtain ⟨rfl, hx⟩ := Y.yld i _ x H3 (k1.trans k2) hlt y
    obtain ⟨a, hai, ra⟩ := Paired.getR pr hx
    have hd : as.drop i = a :: as.drop (i + 1) := by
      obtain ⟨h1, h2⟩ := List.getElem?_eq_some_iff.mp hai
      rw [List.drop_eq_getElem_cons h1, h2]
    rw [hd] at hfo
    obtain ⟨fl, hfl, hfo⟩ := Option.bind_eq_some_iff.mp hfo
    refine L.step x a s σ' G' _ fl (List.mem_of_getElem? hai) rs (Rp.mono k1 ra) hfl _ ?_ ?_ ?_ ?_
    · intro s' σ'' G'' H'' e r
      subst e
      exact ⟨s', G'', r, hfo⟩
    · intro s' σ'' G'' H'' e r
      subst e
      exact ⟨s', G'', r, hfo⟩
    · intro s' σ'' G'' H'' e r
      subst e
      exact L.nxt s' σ'' G'' H'' (Option.some.inj hfo).symm r
    · intro r v G'' H'' e rl
      subst e
      exact L.rtn r v G'' H'' (Option.some.inj hfo).symm rl
  · have e : i = vs.length := by omega
    subst e
    have hd : as.drop vs.length = [] := List.drop_eq_nil_of_le (by omega)
    rw [hd] at hfo
    exact .inl ⟨Y.stop _ (k1.trans k2), L.nxt s σ' G' H' (Option.some.inj hfo).symm rs⟩

structure WhileOb (K : PySem.W.Frag) {S ρ : Type} (RR : ρ → V → Hp → Hp → Prop) (c : S → Option Bool) (f : S → Option (Fl S ρ)) (tt : TT) (tb : TS) (D : Ends) (σ : St) (G2 H2 : Hp) (s0 : S) (res : Fl S ρ) (RS : S → St → Hp → Hp → Prop) : Prop where
  start : RS s0 σ G2 H2
  keep : ∀ s σ' G' H', RS s σ' G' H' → Same G' H'
  test : ∀ s σ' G' H' b, RS s σ' G' H' → c s = some b → ∀ Q : Bool → Hp → Prop, (∀ G'' H'', RS s σ' G'' H'' → Q b H'') → tt σ' H' Q
  step : ∀ (s : S) (σ1 : St) (G1 H1 : Hp) (fl : Fl S ρ), RS s σ1 G1 H1 → f s = some fl → c s = some true → ∀ D' : Ends, (∀ s' σ' G' H', fl = .nx s' → RS s' σ' G' H' → D'.nx σ' H') → (∀ s' σ' G' H', fl = .nx s' → RS s' σ' G' H' → D'.ct σ' H') →
    (∀ s' σ' G' H', fl = .bk s' → RS s' σ' G' H' → D'.bk σ' H') → (∀ r v G' H', fl = .rt r → RR r v G' H' → D'.rt v H') → tb D' σ1 H1
  nxt : ∀ s σ' G' H', res = .nx s → RS s σ' G' H' → D.nx σ' H'
  rtn : ∀ r v G' H', res = .rt r → RR r v G' H' → D.rt v H'
theorem sv_while {S ρ : Type} {RR : ρ → V → Hp → Hp → Prop} {c : S → Option Bool} {f : S → Option (Fl S ρ)} {tb : TS} {n : Nat} {s0 : S} {res : Fl S ρ} (hf : whileN c f n s0 = some res) (RS : S → St → Hp → Hp → Prop)
    (L : WhileOb K RR c f tt tb { D with nx := rest D } σ G H s0 res RS) : tSeq (tWhile tt tb) rest D σ H := by
  refine ⟨fun m σ' H' => ∃ s G', RS s σ' G' H' ∧ whileN c f m s = some res, ⟨n, s0, G, L.start, hf⟩, ?_⟩
  rintro m σ' H' ⟨s, G', rs, hw⟩
  cases m with
  | zero => cases hw
  | succ m =>
    obtain ⟨b, hb, hw⟩ := Option.bind_eq_some_iff.mp hw
    refine L.test s σ' G' H' b rs hb _ fun G'' H'' rs' => ?_
    cases b with
    | false => exact iteF (L.nxt s σ' G'' H'' (Option.some.inj hw).symm rs')
    | true =>
      obtain ⟨fl, hfl, hw⟩ := Option.bind_eq_some_iff.mp hw
      refine iteT ⟨fun σ2 H2 => ∃ s' G2, RS s' σ2 G2 H2 ∧ whileN c f m s' = some res, fun σ2 H2 h => ⟨m, Nat.lt_succ_self m, h⟩, ?_⟩
      refine L.step s σ' G'' H'' fl rs' hfl hb _ ?_ ?_ ?_ ?_
      · intro s' σ2 G2 H2 e r
        subst e
        exact ⟨s', G2, r, hw⟩
      · intro s' σ2 G2 H2 e r
        subst e
        exact ⟨s', G2, r, hw⟩
      · intro s' σ2 G2 H2 e r
        subst e
        exact L.nxt s' σ2 G2 H2 (Option.some.inj hw).symm r
      · intro r v G2 H2 e rl
        subst e
        exact L.rtn r v G2 H2 (Option.some.inj hw).symm rl
end

structure Own (K : PySem.W.Frag) {α : Type} [Rp α] (G H : Hp) (v : V) (p : Addr) (vs : List V) (as : List α) : Prop where
  v : v = .ref p
  g : G p = none
  h : H p = some (.lst vs)
  z : vs.length ≤ sizeLine
  p : Paired (Rp.rel K G) vs as
section
variable {K : PySem.W.Frag} {σ : St} {G H G1 H1 G0 H0 : Hp} {α β : Type} [Rp α] [Rp β] {te ti : TE} {tt : TT} {t u rest : TS} {D : Ends} {i : Nat} {a : α} {m : Option α} {as : List α} {v : V} {p q : Addr} {vs : List V}
theorem Own.ext (o : Own K G H v p vs as) (x : Ext G H G1 H1) : Own K G1 H1 v p vs as :=
  ⟨o.v, x.no p o.g (by rw [o.h]; exact fun z => nomatch z), x.hh _ _ o.h, o.z, Paired.imp' (fun _ _ r => Rp.mono x.gg r) o.p⟩
theorem Own.put {ho : HO} (o : Own K G H v p vs as) (h : p ≠ q) : Own K G (upd H q ho) v p vs as := ⟨o.v, o.g, by rw [upd_ne h]; exact o.h, o.z, o.p⟩
/-- it is told: known from here on -/
theorem Own.tell (o : Own K G H v p vs as) : Rp.rel K (upd G p (.lst vs)) v as := ⟨p, vs, o.v, .inl upd_same, o.z, Paired.imp' (fun _ _ r => Rp.mono (Same.new o.g) r) o.p⟩
theorem Own.same (o : Own K G H v p vs as) (s : Same G H) : Same (upd G p (.lst vs)) H := fun b x e => by
  by_cases hb : b = p
  · subst hb
    rw [upd_same] at e
    rw [o.h]
    exact e
  · rw [upd_ne hb] at e
    exact s b x e
theorem sv_own {m : Option (List α)} {as : List α} (e : FV K te σ G m) (hm : m = some as) (s : Same G H) (k : ∀ p vs G2 H2, Ext G H G2 H2 → H p = none → Own K G2 H2 (.ref p) p vs as → rest D (σ.set i (some (.ref p))) H2) : tSeq (tAsg te (gName i)) rest D σ H :=
  e G (.refl G) as hm H s _ fun p vs G2 H2 x h0 hg hh hz hp => k p vs G2 H2 x h0 ⟨rfl, hg, hh, hz, hp⟩
def pushO {α : Type} (as : List α) (a : α) : Option (List α) := if as.length < sizeLine then some (as ++ [a]) else none
theorem sv_append {as' : List α} (hσ : σ[i]? = some (some v)) (o : Own K G H v p vs as) (e : EV K te σ G m) (hm : m = some a) (hp : pushO as a = some as') (s : Same G H)
    (k : ∀ G2 H2 w, Ext G H G2 H2 → Own K G2 (upd H2 p (.lst (vs ++ [w]))) v p (vs ++ [w]) as' → rest D σ (upd H2 p (.lst (vs ++ [w])))) : tSeq (tDrop (tBM K "list" rAppend (tVar i) (tCons te tNil))) rest D σ H := by
  obtain ⟨hl, rfl⟩ := ite_some hp
  have hlen := Paired.length o.p
  obtain ⟨rfl, og, oh, oz, op⟩ := o
  refine ⟨_, hσ, .inl ⟨rfl, _, SqL.of oh⟩, ?_⟩
  refine e.run hm s fun w G2 H2 x r => ?_
  refine ⟨p, vs, w, rfl, rfl, x.hh _ _ oh, by omega, ?_⟩
  refine k G2 H2 w x ⟨rfl, x.no p og (by rw [oh]; exact fun z => nomatch z), upd_same, ?_, Paired.app (Paired.imp' (fun _ _ r => Rp.mono x.gg r) op) (.cons r .nil)⟩
  rw [List.length_append, List.length_singleton]
  omega
/-- an own list read on the spot, where what comes out of it holds none -/
class Imm (α : Type) [Rp α] : Prop where
  im : ∀ {K : PySem.W.Frag} {H H' : Hp} {v : V} {a : α}, (∀ b xs, Rd H b (.tup xs) → Rd H' b (.tup xs)) → Rp.rel K H v a → Rp.rel K H' v a
instance imInt : Imm Int := ⟨fun _ h => h⟩
instance imBool : Imm Bool := ⟨fun _ h => h⟩
instance imStr : Imm Str := ⟨fun _ h => h⟩
instance imUnit : Imm Unit := ⟨fun _ h => h⟩
theorem SqT.im {H H' : Hp} {t : Addr} {xs : List V} (f : ∀ b xs, Rd H b (.tup xs) → Rd H' b (.tup xs)) (h : SqT K H t xs) : SqT K H' t xs := by
  rcases h with h | h
  · exact .inl (f _ _ h)
  · exact .inr h
instance imPair {α β : Type} [Rp α] [Rp β] [Imm α] [Imm β] : Imm (α × β) := ⟨fun f ⟨t, a, b, e, h, r1, r2⟩ => ⟨t, a, b, e, h.im f, Imm.im f r1, Imm.im f r2⟩⟩
instance imT1 {α : Type} [Rp α] [Imm α] : Imm (T1 α) := ⟨fun f ⟨t, a, e, h, r1⟩ => ⟨t, a, e, h.im f, Imm.im f r1⟩⟩
instance imT3 {α β γ : Type} [Rp α] [Rp β] [Rp γ] [Imm α] [Imm β] [Imm γ] : Imm (T3 α β γ) := ⟨fun f ⟨t, a, b, c, e, h, r1, r2, r3⟩ => ⟨t, a, b, c, e, h.im f, Imm.im f r1, Imm.im f r2, Imm.im f r3⟩⟩
instance imTp {α : Type} [Rp α] [Imm α] : Imm (Tp α) := ⟨fun f ⟨t, xs, e, h, z, p⟩ => ⟨t, xs, e, h.im f, z, Paired.imp' (fun _ _ r => Imm.im f r) p⟩⟩
instance imOpt {α : Type} [Rp α] [Imm α] : Imm (Option α) := ⟨fun {K H H' v a} f h => by cases a with | none => exact h | some a => exact Imm.im (α := α) f h⟩
def del (G : Hp) (p : Addr) : Hp := fun b => if b = p then none else G b
theorem del_ne {G : Hp} {p b : Addr} (h : b ≠ p) : del G p b = G b := by unfold del; rw [if_neg h]
theorem del_same {G : Hp} {p : Addr} : del G p p = none := by unfold del; rw [if_pos rfl]
theorem Ext.del {ho : HO} {G2 H2 : Hp} (hg : G p = none) (x : Ext (upd G p ho) H G2 H2) : Ext G H (L2.del G2 p) H2 :=
  ⟨fun b o e => by
    have hb : b ≠ p := ne_of_none e hg
    rw [del_ne hb]
    exact x.gg b o (by rw [upd_ne hb]; exact e), fun b o e => by
    by_cases hb : b = p
    · subst hb
      rw [del_same] at e
      cases e
    · rw [del_ne hb] at e
      exact x.gh b o e, x.hh, fun b h1 h2 => by
    by_cases hb : b = p
    · subst hb
      exact del_same
    · rw [del_ne hb]
      exact x.no b (by rw [upd_ne hb]; exact h1) h2⟩
theorem Imm.del {β : Type} [Rp β] [Imm β] {G2 : Hp} {w : V} {c : β} {ys : List V} (h : G2 p = some (.lst ys)) (r : Rp.rel K G2 w c) : Rp.rel K (L2.del G2 p) w c :=
  Imm.im (fun b xs e => by
    have hb : b ≠ p := fun z => by
      subst z
      rcases e with e | ⟨o, e⟩ <;> (rw [h] at e; cases e)
    rcases e with e | ⟨o, e⟩
    · exact .inl (by rw [del_ne hb]; exact e)
    · exact .inr ⟨o, by rw [del_ne hb]; exact e⟩) r
/-- an expression that reads an own list -/
theorem EV.runB {β : Type} [Rp β] [Imm β] {mb : Option β} {b : β} {Q : VK} (o : Own K G H v p vs as) (e : EV K te σ (upd G p (.lst vs)) mb) (hm : mb = some b) (s : Same G H) (k : ∀ w G2 H2, Ext G H G2 H2 → Rp.rel K G2 w b → Q w H2) : te σ H Q :=
  e.run hm (o.same s) fun w G2 H2 x r => k w (del G2 p) H2 (x.del o.g) (Imm.del (x.gg _ _ upd_same) r)
theorem TV.runB {mb : Option Bool} {b : Bool} {Q : Bool → Hp → Prop} (o : Own K G H v p vs as) (e : TV tt σ (upd G p (.lst vs)) mb) (hm : mb = some b) (s : Same G H) (k : ∀ G2 H2, Ext G H G2 H2 → Q b H2) : tt σ H Q :=
  e.run hm (o.same s) fun G2 H2 x => k (del G2 p) H2 (x.del o.g)
end
end L2

set_option Elab.async false
set_option linter.all false
set_option maxRecDepth 100000
set_option maxHeartbeats 4000000
namespace L2
open PySem PySem.Spec PyProof.Rows
section
variable {K : PySem.W.Frag} {σ : St} {G : Hp}
theorem ev_def1 {ρ A0 : Type} [Rp ρ] [Rp A0] {t0 : TE} {m0 : Option A0} {m : A0 × Unit → Option ρ} (e0 : EV K t0 σ G m0) : EV K (tCall (spM K m) [] E0 (tCons t0 tNil)) σ G (m0.bind fun a0 => m (a0, ())) := by
  intro G1 s1 c hc H sH Q k
  obtain ⟨a0, ha0, hc⟩ := Option.bind_eq_some_iff.mp hc
  refine e0 G1 s1 a0 ha0 H sH _ fun v0 G2 H2 x0 r0 => ?_
  have y0 := x0
  exact ⟨G2, _, c, y0.gh, ⟨v0, _, rfl, r0, rfl⟩, hc, fun v G9 H9 x9 r9 => k v G9 H9 (y0.trans x9) r9⟩
theorem ev_def2 {ρ A0 A1 : Type} [Rp ρ] [Rp A0] [Rp A1] {t0 t1 : TE} {m0 : Option A0} {m1 : Option A1} {m : A0 × A1 × Unit → Option ρ} (e0 : EV K t0 σ G m0) (e1 : EV K t1 σ G m1) : EV K (tCall (spM K m) [] E0 (tCons t0 (tCons t1 tNil))) σ G (m0.bind fun a0 => m1.bind fun a1 => m (a0, a1, ())) := by
  intro G1 s1 c hc H sH Q k
  obtain ⟨a0, ha0, hc⟩ := Option.bind_eq_some_iff.mp hc
  obtain ⟨a1, ha1, hc⟩ := Option.bind_eq_some_iff.mp hc
  refine e0 G1 s1 a0 ha0 H sH _ fun v0 G2 H2 x0 r0 => ?_
  have y0 := x0
  refine e1 G2 (s1.trans y0.gg) a1 ha1 H2 y0.gh _ fun v1 G3 H3 x1 r1 => ?_
  have y1 := y0.trans x1
  exact ⟨G3, _, c, y1.gh, ⟨v0, _, rfl, (Rp.mono x1.gg r0), ⟨v1, _, rfl, r1, rfl⟩⟩, hc, fun v G9 H9 x9 r9 => k v G9 H9 (y1.trans x9) r9⟩
theorem ev_def3 {ρ A0 A1 A2 : Type} [Rp ρ] [Rp A0] [Rp A1] [Rp A2] {t0 t1 t2 : TE} {m0 : Option A0} {m1 : Option A1} {m2 : Option A2} {m : A0 × A1 × A2 × Unit → Option ρ} (e0 : EV K t0 σ G m0) (e1 : EV K t1 σ G m1) (e2 : EV K t2 σ G m2) : EV K (tCall (spM K m) [] E0 (tCons t0 (tCons t1 (tCons t2 tNil)))) σ G (m0.bind fun a0 => m1.bind fun a1 => m2.bind fun a2 => m (a0, a1, a2, ())) := by
  intro G1 s1 c hc H sH Q k
  obtain ⟨a0, ha0, hc⟩ := Option.bind_eq_some_iff.mp hc
  obtain ⟨a1, ha1, hc⟩ := Option.bind_eq_some_iff.mp hc
  obtain ⟨a2, ha2, hc⟩ := Option.bind_eq_some_iff.mp hc
  refine e0 G1 s1 a0 ha0 H sH _ fun v0 G2 H2 x0 r0 => ?_
  have y0 := x0
  refine e1 G2 (s1.trans y0.gg) a1 ha1 H2 y0.gh _ fun v1 G3 H3 x1 r1 => ?_
  have y1 := y0.trans x1
  refine e2 G3 (s1.trans y1.gg) a2 ha2 H3 y1.gh _ fun v2 G4 H4 x2 r2 => ?_
  have y2 := y1.trans x2
  exact ⟨G4, _, c, y2.gh, ⟨v0, _, rfl, (Rp.mono x2.gg (Rp.mono x1.gg r0)), ⟨v1, _, rfl, (Rp.mono x2.gg r1), ⟨v2, _, rfl, r2, rfl⟩⟩⟩, hc, fun v G9 H9 x9 r9 => k v G9 H9 (y2.trans x9) r9⟩
section
variable {ta tb : TE} {a b : Bool} {tt tu : TT} {mb : Option Bool}
theorem TV.of {m m' : Option Bool} (e : TV tt σ G m) (h : m = m') : TV tt σ G m' := h ▸ e
theorem tv_andP (ea : TV tt σ G (some a)) (eb : TV tu σ G (some b)) : TV (tAnd tt tu) σ G (some (a && b)) := (tv_and ea eb).of (by cases a <;> rfl)
theorem tv_orP (ea : TV tt σ G (some a)) (eb : TV tu σ G (some b)) : TV (tOr tt tu) σ G (some (a || b)) := (tv_or ea eb).of (by cases a <;> rfl)
theorem ev_get {α : Type} [Rp α] {te : TE} {mo : Option (Option α)} (e : EV K te σ G mo) : EV K te σ G (mo.bind fun o => o) := by
  intro G1 s1 c hc H sH Q k
  obtain ⟨o, ho, hc⟩ := Option.bind_eq_some_iff.mp hc
  subst hc
  exact e G1 s1 _ ho H sH Q k
theorem TruV.mono {G H : Hp} {v : V} {k : Bool} (s : Same G H) (h : TruV K v G k) : TruV K v H k := by
  cases v with
  | ref p =>
    rcases h with ⟨xs, hx, e⟩ | ⟨xs, hx, e⟩ | ⟨kvs, hx, e⟩
    · exact .inl ⟨xs, s.seq hx, e⟩
    · exact .inr (.inl ⟨xs, s.tup hx, e⟩)
    · exact .inr (.inr ⟨kvs, s _ _ hx, e⟩)
  | _ => exact h
theorem tv_b {mb : Option Bool} (ea : EV K ta σ G mb) : TV (fun σ H Q => ta σ H fun x H' => ∃ k, TruV K x H' k ∧ Q k H') σ G mb := by
  have h := tv_tru (K := K) (f := fun (a : Bool) => a) (fun {G v a} (r : Rp.rel K G v a) => by cases r; exact rfl) (fun s => TruV.mono s) ea
  refine h.of ?_
  cases mb <;> rfl
end
theorem cT {α : Type} {A B : Option α} {r : Option α} (h : cond true A B = r) : A = r := h
theorem cF {α : Type} {A B : Option α} {r : Option α} (h : cond false A B = r) : B = r := h
theorem sv_turn {i : Nat} {x : V} {σ : St} {H : Hp} {tb : TS} {D : Ends} (h : tb D (σ.set i (some x)) H) : gName i x σ H fun σ2 H2 => tb D σ2 H2 := h
end
end L2

set_option Elab.async false
set_option linter.all false
set_option maxRecDepth 100000
set_option maxHeartbeats 4000000
namespace L2
open PySem PySem.Spec PyProof.Rows
section
variable {K : PySem.W.Frag} {σ : St} {G H : Hp} {α β γ : Type} [Rp α] [Rp β] [Rp γ] {ta tb te : TE} {ia ib : Option Int} {c : Int} {rest t u : TS} {D : Ends} {i j : Nat} {tt : TT}
theorem ev_mulL (eb : EV K tb σ G ib) (hc : -(2 ^ 64) < c ∧ c < 2 ^ 64 := by decide) : EV K (tOp (rMul K) (tC (.int c)) tb) σ G (ib.bind fun b => some (c * b)) := by
  have h := ev_mul (ev_i (K := K) (σ := σ) (G := G) (i := c)) eb
  have e : ((some c).bind fun a => ib.bind fun b => mulO a b) = ib.bind fun b => some (c * b) := by
    show (ib.bind fun b => mulO c b) = _
    congr 1; funext b
    unfold mulO
    rw [if_pos (.inl hc)]
  exact h.of e
theorem ev_modR (ea : EV K ta σ G ia) (hc : 0 < c := by decide) : EV K (tOp (rI (fun _ j => 0 < j) fun i j => .int (i % j)) ta (tC (.int c))) σ G (ia.bind fun a => some (a % c)) := by
  have h := ev_mod ea (ev_i (K := K) (σ := σ) (G := G) (i := c))
  have e : (ia.bind fun a => (some c).bind fun b => modO a b) = ia.bind fun a => some (a % c) := by
    congr 1; funext a
    show modO a c = _
    unfold modO
    rw [if_pos hc]
  exact h.of e
theorem ev_divR (ea : EV K ta σ G ia) (hc : 0 < c ∧ c < 1073741824 := by decide) : EV K (tOp (rI CDiv fun i j => .int (i / j)) ta (tC (.int c))) σ G (ia.bind fun a => some (a / c)) := by
  have h := ev_div ea (ev_i (K := K) (σ := σ) (G := G) (i := c))
  have e : (ia.bind fun a => (some c).bind fun b => divO a b) = ia.bind fun a => some (a / c) := by
    congr 1; funext a
    show divO a c = _
    unfold divO
    rw [if_pos (show CDiv a c from hc)]
  exact h.of e
structure Scr where
  l : List Int
instance rpScr : Rp Scr := ⟨fun K H v a => ∃ l, v = .ref l ∧ SqL K H l (a.l.map V.int), fun s ⟨l, e, h⟩ => ⟨l, e, s.seq h⟩⟩
theorem ev_lenX {ma : Option Scr} (ea : EV K ta σ G ma) : EV K (tCB (rLen K) (tCons ta tNil)) σ G (ma.bind fun a => some (a.l.length : Int)) := by
  intro G1 s1 c hc H sH Q k
  obtain ⟨a, ha, hc⟩ := Option.bind_eq_some_iff.mp hc
  cases hc
  refine ea G1 s1 a ha H sH _ fun v G2 H2 x2 r2 => ?_
  obtain ⟨l, rfl, h⟩ := r2
  exact ⟨_, .inl (x2.gh.seq h), by rw [List.length_map]; exact k _ _ _ x2 rfl⟩
theorem pairedI {H : Hp} : ∀ ns : List Int, Paired (Rp.rel K H) (ns.map V.int) ns
  | [] => .nil
  | _ :: r => .cons rfl (pairedI r)
theorem ev_atX {ma : Option Scr} (ea : EV K ta σ G ma) (eb : EV K tb σ G ib) : EV K (tOp (rAt K) ta tb) σ G (ma.bind fun a => ib.bind fun i => atI a.l i) :=
  ev_bin (fun s ra rb e Q k => by
    obtain ⟨l, rfl, h⟩ := ra; cases rb
    obtain ⟨v, hv, r⟩ := paired_atI (pairedI (K := K) _) e
    exact .inl ⟨_, v, s.seq h, hv, k _ _ _ (.refl s) r⟩) ea eb
theorem decOI {G : Hp} {v u : V} {a b : Option Int} (ra : Rp.rel K G v a) (rb : Rp.rel K G u b) : scal v u = true ∧ decide (v = u) = decide (a = b) := by
  cases a with
  | none =>
    cases (show v = V.non from ra)
    cases b with
    | none => cases (show u = V.non from rb); exact ⟨rfl, rfl⟩
    | some j => cases (show u = V.int j from rb); exact ⟨rfl, by simp⟩
  | some i =>
    cases (show v = V.int i from ra)
    cases b with
    | none => cases (show u = V.non from rb); exact ⟨rfl, by simp⟩
    | some j => cases (show u = V.int j from rb); exact ⟨rfl, by simp⟩
theorem ev_neOI {oa ob : Option (Option Int)} (ea : EV K ta σ G oa) (eb : EV K tb σ G ob) : EV K (tOp rNe ta tb) σ G (oa.bind fun a => ob.bind fun b => some (!decide (a = b))) :=
  ev_bin (fun s ra rb e Q k => by cases e; obtain ⟨h1, h2⟩ := decOI ra rb; exact ⟨h1, k _ _ _ (.refl s) (by show V.bl _ = V.bl _; rw [h2])⟩) ea eb
theorem sv_ifB {b : Bool} {m : Option Bool} {v : V} {p : Addr} {vs : List V} {as : List β} (o : Own K G H v p vs as) (e : TV tt σ (upd G p (.lst vs)) m) (hm : m = some b) (s : Same G H) (k : ∀ G2 H2, Ext G H G2 H2 → if b = true then t { D with nx := rest D } σ H2 else u { D with nx := rest D } σ H2) :
    tSeq (tIfS tt t u) rest D σ H := TV.runB o e hm s k
def setO {α : Type} (as : List α) (k : Int) (a : α) : Option (List α) := (ixN as.length k).bind fun j => some (as.set j a)
end
end L2

set_option Elab.async false
set_option linter.all false
set_option maxRecDepth 100000
set_option maxHeartbeats 4000000
namespace L2
open PySem PySem.Spec PyProof.Rows
structure Own2 (K : PySem.W.Frag) {α β : Type} [Rp α] [Rp β] (G H : Hp) (v : V) (p q : Addr) (vs ws : List V) (a : List α × List β) : Prop where
  t : ∃ t, v = .ref t ∧ G t = some (.tup [.ref p, .ref q])
  o1 : Own K G H (.ref p) p vs a.1
  o2 : Own K G H (.ref q) q ws a.2
  ne : p ≠ q
section
variable {K : PySem.W.Frag} {σ : St} {G H G1 H1 G0 H0 : Hp} {α β γ : Type} [Rp α] [Rp β] [Rp γ] {ta tb te ti : TE} {tt : TT} {t u rest : TS} {D : Ends} {i j : Nat} {v : V} {p q r : Addr} {vs ws : List V} {a : List α × List β}
theorem Own2.ext (o : Own2 K G H v p q vs ws a) (x : Ext G H G1 H1) : Own2 K G1 H1 v p q vs ws a :=
  ⟨let ⟨t, e, h⟩ := o.t; ⟨t, e, x.gg _ _ h⟩, o.o1.ext x, o.o2.ext x, o.ne⟩
theorem Own2.put {ho : HO} (o : Own2 K G H v p q vs ws a) (h1 : p ≠ r) (h2 : q ≠ r) : Own2 K G (upd H r ho) v p q vs ws a := ⟨o.t, o.o1.put h1, o.o2.put h2, o.ne⟩
def two (G : Hp) (p q : Addr) (vs ws : List V) : Hp := upd (upd G p (.lst vs)) q (.lst ws)
theorem Own2.g2 (o : Own2 K G H v p q vs ws a) : (upd G p (.lst vs)) q = none := by rw [upd_ne (Ne.symm o.ne)]; exact o.o2.g
theorem Own2.up (o : Own2 K G H v p q vs ws a) : Same G (two G p q vs ws) := (Same.new o.o1.g).trans (Same.new o.g2)
theorem Own2.same (o : Own2 K G H v p q vs ws a) (s : Same G H) : Same (two G p q vs ws) H := fun b x e => by
  unfold two at e
  by_cases hb : b = q
  · subst hb
    rw [upd_same] at e
    rw [o.o2.h]
    exact e
  · rw [upd_ne hb] at e
    exact o.o1.same s b x e
theorem Own2.tell (o : Own2 K G H v p q vs ws a) : Rp.rel K (two G p q vs ws) v a := by
  obtain ⟨t, rfl, ht⟩ := o.t
  refine ⟨t, .ref p, .ref q, rfl, SqT.of (o.up _ _ ht), ⟨p, vs, rfl, .inl ?_, o.o1.z, Paired.imp' (fun _ _ r => Rp.mono o.up r) o.o1.p⟩, ⟨q, ws, rfl, .inl upd_same, o.o2.z, Paired.imp' (fun _ _ r => Rp.mono o.up r) o.o2.p⟩⟩
  unfold two
  rw [upd_ne o.ne]
  exact upd_same
theorem Own2.frz (o : Own2 K G H v p q vs ws a) (x : Ext G0 H0 G H) (h1 : H0 p = none) (h2 : H0 q = none) : Ext G0 H0 (two G p q vs ws) H :=
  (x.frz h1 o.o1.g o.o1.h).frz h2 o.g2 o.o2.h
/-- a new pair of lists -/
def NV (K : PySem.W.Frag) {α β : Type} [Rp α] [Rp β] (te : TE) (σ : St) (G : Hp) (m : Option (List α × List β)) : Prop :=
  ∀ G1, Same G G1 → ∀ a, m = some a → ∀ H, Same G1 H → ∀ Q : VK, (∀ v p q vs ws G2 H2, Ext G1 H G2 H2 → H p = none → H q = none → Own2 K G2 H2 v p q vs ws a → Q v H2) → te σ H Q
theorem NV.ev {m : Option (List α × List β)} (e : NV K te σ G m) : EV K te σ G m := by
  intro G1 s1 a ha H sH Q k
  refine e G1 s1 a ha H sH Q fun v p q vs ws G2 H2 x h1 h2 o => ?_
  exact k v _ H2 (o.frz x h1 h2) o.tell
/-- what a def hands back is new -/
def spN (K : PySem.W.Frag) {A : Type} [RpA A] {α β : Type} [Rp α] [Rp β] (m : A → Option (List α × List β)) : Sp := fun vs H Q _ =>
  ∃ G a r, Same G H ∧ RpA.rel K G vs a ∧ m a = some r ∧ ∀ v p q vs ws G2 H2, Ext G H G2 H2 → H p = none → H q = none → Own2 K G2 H2 v p q vs ws r → Q v H2
def spL (K : PySem.W.Frag) {A : Type} [RpA A] {α : Type} [Rp α] (m : A → Option (List α)) : Sp := fun vs H Q _ =>
  ∃ G a r, Same G H ∧ RpA.rel K G vs a ∧ m a = some r ∧ ∀ p vs G2 H2, Ext G H G2 H2 → H p = none → Own K G2 H2 (.ref p) p vs r → Q (.ref p) H2
/-- xs.insert(0, e) -/
def consO {α : Type} (a : α) (as : List α) : Option (List α) := if as.length < sizeLine then some (a :: as) else none
def rInsert0 : V → List V → Hp → VK → Prop := fun x vs H Q => ∃ l xs y, x = .ref l ∧ vs = [.int 0, y] ∧ H l = some (.lst xs) ∧ xs.length < sizeLine ∧ Q .non (upd H l (.lst (y :: xs)))
end
end L2

set_option Elab.async false
set_option linter.all false
set_option maxRecDepth 100000
set_option maxHeartbeats 4000000
namespace L2
open PySem PySem.Spec PyProof.Rows
section
variable {X : Cx} {K : PySem.W.Frag}
theorem op_plusK (h : X.K = K) : OpR X (binaryOp .Add) (rPlus K) := h ▸ op_plus
theorem op_mulK (h : X.K = K) : OpR X (binaryOp .Mult) (rMul K) := h ▸ op_mulU
theorem sl_anyK (h : X.K = K) : SlR X (rSl K) := h ▸ sl_any
theorem ix_anyK (h : X.K = K) : IxR X (rAt K) := h ▸ ix_any
theorem call_lenK (h : X.K = K) : CallR X (.builtin "len") (rLen K) := h ▸ call_lenU
theorem call_instK (h : X.K = K) : CallR X (.builtin "isinstance") (rInst K) := h ▸ call_inst
theorem mt_joinK (h : X.K = K) : MtR X "str.join" (rJoin K) := h ▸ mt_join
theorem pi_anyK {tg l : Expr} {tl : TE} (h : X.K = K) (hl : PE X l tl) : PI X tg l (iAny K tl) := h ▸ pi_any hl
theorem pt_truthK {a : Expr} {ta : TE} (h : X.K = K) (ha : PE X a ta) (he : ∀ whole, isTrue a X.env whole = (do let v ← whole; standAt a.pos; holding [v] (truthy v))) :
    PT X a (fun σ H Q => ta σ H fun x H' => ∃ k, TruV K x H' k ∧ Q k H') := h ▸ pt_truth ha he
section
variable {o e : Expr} {es : List Expr} {to : TE} {t : TA} {name : Str} {apos cpos : Pos} {T id : String} {r : V → List V → Hp → VK → Prop}
theorem pe_bmK (h : X.K = K) (pa : PlainAttrs T) (slot : Slot T name id) (hty : typeOf (.builtin id) = pure (.type "method_descriptor")) (hm : MtR X id r) (ho : PE X o to) (ha : PA X (e :: es) t)
    (hbase : attributeBase o name X.env (eval o X.env) = eval o X.env := by rfl)
    (hfew : ((backTo cpos (starEach (e :: es) X.env)).all (fun x => !x.1) && (backToKw cpos (keywordEach [] X.env)).all (fun x => x.1.isSome)
      && decide ((e :: es).length + ([] : List Keyword).length + (if ([] : List Keyword).isEmpty then 0 else 1) < 30)) = true := by rfl)
    (hline : (apos.endLine == cpos.line) = true := by rfl) (hs : starEach (e :: es) X.env = (false, eval e X.env) :: starEach es X.env := by rfl) (hplain : (backTo cpos (starEach es X.env)).any (·.1) = false := by rfl) :
    PE X (.Call (.Attribute o name apos) (e :: es) [] cpos) (tBM K T r to t) := h ▸ pe_bm pa slot hty hm ho ha hbase hfew hline hs hplain
end
end
theorem sv_nx {f : St → Hp → Prop} {rt : VK} {bk ct : St → Hp → Prop} {σ : St} {H : Hp} (h : f σ H) : ({ nx := f, rt := rt, bk := bk, ct := ct } : Ends).nx σ H := h
end L2

set_option Elab.async false
set_option linter.all false
set_option maxRecDepth 100000
set_option maxHeartbeats 4000000
namespace L2
open PySem PySem.Spec PyProof.Rows
section
variable {K : PySem.W.Frag} {σ : St} {G H : Hp} {α β γ : Type} [Rp α] [Rp β] [Rp γ] {ta tb te : TE} {rest t u : TS} {D : Ends} {i j : Nat}
def extO {α : Type} (as bs : List α) : Option (List α) := if as.length + bs.length ≤ sizeLine then some (as ++ bs) else none
def rCountS (K : PySem.W.Frag) : V → List V → Hp → VK → Prop := fun x vs H Q => ∃ (l : Addr) (ys : List Str) (y : Str), x = .ref l ∧ vs = [.str y] ∧ SqL K H l (ys.map V.str) ∧ Q (.int (countIn (.str y) (ys.map PyData.str))) H
end
end L2

set_option Elab.async false
set_option linter.all false
set_option maxRecDepth 100000
set_option maxHeartbeats 4000000
namespace L2
open PySem PySem.Spec PyProof.Rows
inductive D where
  | non
  | bl (b : Bool)
  | int (i : Int)
  | str (x : Str)
  | lst (l : List D)
  | tup (l : List D)
  | dic
mutual
inductive RelD (K : PySem.W.Frag) (H : Hp) : V → D → Prop where
  | non : RelD K H .non .non
  | bl (b : Bool) : RelD K H (.bl b) (.bl b)
  | int (i : Int) : RelD K H (.int i) (.int i)
  | str (x : Str) (z : x.length ≤ sizeLine) : RelD K H (.str x) (.str x)
  | lst {a : Addr} {xs : List V} {ds : List D} (h : Rd H a (.lst xs)) (z : xs.length ≤ sizeLine) (r : RelDs K H xs ds) : RelD K H (.ref a) (.lst ds)
  | tup {a : Addr} {xs : List V} {ds : List D} (h : SqT K H a xs) (z : xs.length ≤ sizeLine) (r : RelDs K H xs ds) : RelD K H (.ref a) (.tup ds)
  | dK {a : Addr} {kvs : List (Key × V)} (h : Rd H a (.dK kvs)) : RelD K H (.ref a) .dic
inductive RelDs (K : PySem.W.Frag) (H : Hp) : List V → List D → Prop where
  | nil : RelDs K H [] []
  | cons {x : V} {d : D} {xs : List V} {ds : List D} (h : RelD K H x d) (t : RelDs K H xs ds) : RelDs K H (x :: xs) (d :: ds)
end
mutual
theorem RelD.mono {K : PySem.W.Frag} {H H' : Hp} (s : Same H H') : ∀ {v : V} {d : D}, RelD K H v d → RelD K H' v d
  | _, _, .non => .non
  | _, _, .bl b => .bl b
  | _, _, .int i => .int i
  | _, _, .str x z => .str x z
  | _, _, .lst h z r => .lst (s.rd h) z (RelDs.mono s r)
  | _, _, .tup h z r => .tup (s.tup h) z (RelDs.mono s r)
  | _, _, .dK h => .dK (s.rd h)
theorem RelDs.mono {K : PySem.W.Frag} {H H' : Hp} (s : Same H H') : ∀ {v : List V} {d : List D}, RelDs K H v d → RelDs K H' v d
  | _, _, .nil => .nil
  | _, _, .cons h t => .cons (RelD.mono s h) (RelDs.mono s t)
end
instance rpD : Rp D := ⟨RelD, fun s h => RelD.mono s h⟩
theorem relDs_of {K : PySem.W.Frag} {H : Hp} : ∀ {xs : List V} {ds : List D}, Paired (Rp.rel K H) xs ds → RelDs K H xs ds
  | _, _, .nil => .nil
  | _, _, .cons h t => .cons h (relDs_of t)
theorem of_relDs {K : PySem.W.Frag} {H : Hp} : ∀ {xs : List V} {ds : List D}, RelDs K H xs ds → Paired (Rp.rel K H) xs ds
  | _, _, .nil => .nil
  | _, _, .cons h t => .cons h (of_relDs t)
class ToD (α : Type) [Rp α] where
  to : α → D
  rel : ∀ {K : PySem.W.Frag} {H : Hp} {v : V} {a : α}, Rp.rel K H v a → RelD K H v (to a)
theorem toDs {K : PySem.W.Frag} {H : Hp} {α : Type} [Rp α] [ToD α] : ∀ {xs : List V} {as : List α}, Paired (Rp.rel K H) xs as → Paired (Rp.rel (α := D) K H) xs (as.map ToD.to)
  | _, _, .nil => .nil
  | _, _, .cons h t => .cons (ToD.rel h) (toDs t)
instance tdD : ToD D := ⟨id, fun h => h⟩
instance tdInt : ToD Int := ⟨.int, fun h => by cases h; exact .int _⟩
instance tdBool : ToD Bool := ⟨.bl, fun h => by cases h; exact .bl _⟩
instance tdStr : ToD Str := ⟨.str, fun h => by obtain ⟨rfl, z⟩ := h; exact .str _ z⟩
instance tdUnit : ToD Unit := ⟨fun _ => .non, fun h => by cases h; exact .non⟩
instance tdList {α : Type} [Rp α] [ToD α] : ToD (List α) := ⟨fun l => .lst (l.map ToD.to), fun ⟨l, xs, e, h, z, p⟩ => by subst e; exact .lst h z (relDs_of (toDs p))⟩
instance tdTp {α : Type} [Rp α] [ToD α] : ToD (Tp α) := ⟨fun l => .tup (l.l.map ToD.to), fun ⟨l, xs, e, h, z, p⟩ => by subst e; exact .tup h z (relDs_of (toDs p))⟩
instance tdPair {α β : Type} [Rp α] [ToD α] [Rp β] [ToD β] : ToD (α × β) := ⟨fun p => .tup [ToD.to p.1, ToD.to p.2], fun ⟨t, x, y, e, h, r1, r2⟩ => by subst e; exact .tup h (by show 2 ≤ sizeLine; decide) (.cons (ToD.rel r1) (.cons (ToD.rel r2) .nil))⟩
def asStr : D → Option Str
  | .str x => some x
  | _ => none
def asLst : D → Option (List D)
  | .lst l => some l
  | _ => none
def dk : D → String
  | .non => "NoneType"
  | .bl _ => "bool"
  | .int _ => "int"
  | .str _ => "str"
  | .lst _ => "list"
  | .tup _ => "tuple"
  | .dic => "dict"
def isK (T : String) (d : D) : Bool := dk d == T || (T == "int" && dk d == "bool")
def lenD : D → Option Int
  | .str x => some (x.length : Int)
  | .lst l => some (l.length : Int)
  | .tup l => some (l.length : Int)
  | _ => none
def atD : D → Int → Option D
  | .lst l, i => atI l i
  | .tup l, i => atI l i
  | .str x, i => (atI x.cps.toList i).bind fun c => some (.str ⟨#[c]⟩)
  | _, _ => none
def iterD : D → Option (List D)
  | .lst l => some l
  | .tup l => some l
  | .str x => some ((signsO x).map D.str)
  | _ => none
section
variable {K : PySem.W.Frag} {σ : St} {G : Hp} {α β : Type} [Rp α] [Rp β] {ta tb te : TE} {md : Option D}
theorem ev_toD [ToD α] {m : Option α} (e : EV K te σ G m) : EV K te σ G (m.bind fun a => some (ToD.to a)) := by
  intro G1 s1 c hc H sH Q k
  obtain ⟨a, ha, hc⟩ := Option.bind_eq_some_iff.mp hc
  cases hc
  exact e G1 s1 a ha H sH Q fun v G2 H2 x r => k v G2 H2 x (ToD.rel r)
theorem RelD.ty {H : Hp} {v : V} {d : D} (r : RelD K H v d) : TyS K H v (dk d) := by
  cases r with
  | non => exact .non
  | bl => exact .bl _
  | int => exact .int _
  | str => exact .str _
  | lst h => exact .lst (.inl h)
  | tup h => exact .tup h
  | dK h => exact .dK h
theorem kit_all : ∀ n ∈ ["NoneType", "bool", "int", "str", "list", "tuple", "dict"], ∀ T ∈ ["str", "list", "tuple", "bool", "int", "dict"], kitC n T = some (n == T || (T == "int" && n == "bool")) := by decide +kernel
theorem isK_ok {T : String} (hT : T ∈ ["str", "list", "tuple", "bool", "int", "dict"]) (d : D) : kitC (dk d) T = some (isK T d) := by
  unfold isK
  exact kit_all (dk d) (by cases d <;> simp [dk]) T hT
theorem ev_instD {T : String} (hT : T ∈ ["str", "list", "tuple", "bool", "int", "dict"]) (ea : EV K ta σ G md) : EV K (tCB (rInst K) (tCons ta (tCons (tC (.ty T)) tNil))) σ G (md.bind fun d => some (isK T d)) := by
  intro G1 s1 c hc H sH Q k
  obtain ⟨a, ha, hc⟩ := Option.bind_eq_some_iff.mp hc
  cases hc
  refine ea G1 s1 a ha H sH _ fun v G2 H2 x2 r2 => ?_
  exact ⟨_, _, _, _, rfl, (RelD.ty r2).mono x2.gh, isK_ok hT a, k _ _ _ x2 rfl⟩
theorem RelDs.len {H : Hp} {xs : List V} {ds : List D} (r : RelDs K H xs ds) : xs.length = ds.length := Paired.length (of_relDs r)
end
end L2

set_option Elab.async false
set_option linter.all false
set_option maxRecDepth 100000
set_option maxHeartbeats 4000000
namespace L2
open PySem PySem.Spec PyProof.Rows
section
variable {K : PySem.W.Frag} {σ : St} {G : Hp} {ta : TE}
def rAllB (K : PySem.W.Frag) : List V → Hp → VK → Prop := fun vs H Q => ∃ (l : Addr) (bs : List Bool), vs = [.ref l] ∧ SqL K H l (bs.map V.bl) ∧ Q (.bl (bs.all id)) H
end
end L2

set_option Elab.async false
set_option linter.all false
set_option maxRecDepth 100000
set_option maxHeartbeats 4000000
namespace L2
open PySem PySem.Spec PyProof.Rows
def OK {α : Type} (m : Option α) (P : α → Prop) : Prop := ∃ a, m = some a ∧ P a
section
variable {α β S ρ : Type} {m : Option α} {P Q : α → Prop} {R : β → Prop}
theorem OK.mono (h : OK m P) (k : ∀ a, P a → Q a) : OK m Q := let ⟨a, e, p⟩ := h; ⟨a, e, k a p⟩
theorem ok_some {a : α} (h : P a) : OK (some a) P := ⟨a, rfl, h⟩
theorem ok_bind {f : α → Option β} (h : OK m fun a => OK (f a) R) : OK (m.bind f) R := by
  obtain ⟨a, rfl, h⟩ := h
  exact h
theorem ok_by {f : α → Option β} (h : OK m P) (k : ∀ a, P a → OK (f a) R) : OK (m.bind f) R := ok_bind (h.mono k)
theorem ok_cond {b : Bool} {x y : Option α} (h1 : b = true → OK x P) (h2 : b = false → OK y P) : OK (cond b x y) P := by
  cases b with
  | true => exact h1 rfl
  | false => exact h2 rfl
theorem OK.eq {a : α} (h : OK m fun b => b = a) : m = some a := by obtain ⟨b, e, rfl⟩ := h; exact e
theorem OK.of {a : α} (e : m = some a) (h : P a) : OK m P := ⟨a, e, h⟩
theorem bindS {α β : Type} (a : α) (f : α → Option β) : (some a).bind f = f a := by rw [Option.bind_some]
theorem bind_self {α : Type} (m : Option α) : (m.bind fun x => some x) = m := by cases m <;> rfl
theorem ok_mod {a b : Int} {P : Int → Prop} (hb : 0 < b) (h : P (a % b)) : OK (modO a b) P := ⟨_, if_pos hb, h⟩
theorem ok_mul {a b : Int} {P : Int → Prop} (hb : CMul a b) (h : P (a * b)) : OK (mulO a b) P := ⟨_, if_pos hb, h⟩
theorem ok_catL {a b : List α} {P : List α → Prop} (hb : a.length + b.length ≤ sizeLine) (h : P (a ++ b)) : OK (catL a b) P := ⟨_, if_pos hb, h⟩
theorem ok_push {a : List α} {b : α} {P : List α → Prop} (hb : a.length < sizeLine) (h : P (a ++ [b])) : OK (pushO a b) P := ⟨_, if_pos hb, h⟩
theorem ok_rng {lo hi : Int} {n : Nat} {P : List Int → Prop} (hn : hi - lo = n) (h0 : -1000000000 ≤ lo ∧ lo ≤ 1000000000) (h1 : n ≤ sizeLine) (h : P ((List.range n).map fun (i : Nat) => lo + (i : Int))) : OK (rngO lo hi) P := by
  have hs : sizeLine = 16777216 := sizeLine_eq
  have e : (hi - lo).toNat = n := by omega
  refine ⟨_, if_pos ⟨⟨by omega, by omega, by omega, by omega⟩, by omega⟩, ?_⟩
  rw [e]
  exact h
theorem ok_at {a : List α} {i : Int} (h0 : 0 ≤ i) (h1 : i < a.length) (h : ∀ x, a[i.toNat]? = some x → P x) : OK (atI a i) P := by
  obtain ⟨k, rfl⟩ := Int.eq_ofNat_of_zero_le h0
  have hk : k < a.length := by omega
  refine ⟨a[k], atI_nat (by simp [hk]), h _ ?_⟩
  rw [Int.toNat_natCast]
  simp [hk]
/-- a loop by its invariant: J behind a break, R of what is handed back from within -/
theorem ok_for {f : α → S → Option (Fl S ρ)} {as : List α} {s0 : S} (I : Nat → S → Prop) (J : S → Prop) (R : ρ → Prop) {P : Fl S ρ → Prop} (h0 : I 0 s0)
    (hs : ∀ (i : Nat) a s, as[i]? = some a → I i s → OK (f a s) fun fl => match fl with | .nx s' => I (i + 1) s' | .bk s' => J s' | .rt r => R r)
    (hn : ∀ s, I as.length s → P (.nx s)) (hj : ∀ s, J s → P (.nx s)) (hr : ∀ r, R r → P (.rt r)) : OK (forO f as s0) P := by
  have key : ∀ (n i : Nat) (s : S), n = as.length - i → i ≤ as.length → I i s → OK (forO f (as.drop i) s) P := by
    intro n
    induction n with
    | zero =>
      intro i s hn0 hi hI
      have e : i = as.length := by omega
      subst e
      rw [List.drop_length]
      exact ok_some (hn s hI)
    | succ n ih =>
      intro i s hn0 hi hI
      have hlt : i < as.length := by omega
      rw [List.drop_eq_getElem_cons hlt]
      obtain ⟨fl, e, h⟩ := hs i as[i] s (by simp [hlt]) hI
      show OK ((f as[i] s).bind _) P
      rw [e]
      cases fl with
      | nx s' => exact ih (i + 1) s' (by omega) hlt h
      | bk s' => exact ok_some (hj s' h)
      | rt r => exact ok_some (hr r h)
  exact key as.length 0 s0 (by omega) (Nat.zero_le _) h0
/-- a loop that goes through -/
theorem ok_for' {f : α → S → Option (Fl S ρ)} {as : List α} {s0 : S} (I : Nat → S → Prop) {P : Fl S ρ → Prop} (h0 : I 0 s0)
    (hs : ∀ (i : Nat) a s, as[i]? = some a → I i s → OK (f a s) fun fl => ∃ s', fl = .nx s' ∧ I (i + 1) s') (hn : ∀ s, I as.length s → P (.nx s)) : OK (forO f as s0) P :=
  ok_for I (fun _ => False) (fun _ => False) h0 (fun i a s ha hI => (hs i a s ha hI).mono fun fl ⟨s', e, h⟩ => by subst e; exact h) hn (fun _ h => h.elim) fun _ h => h.elim
theorem ok_while {c : S → Option Bool} {f : S → Option (Fl S ρ)} {s0 : S} (I : S → Prop) (J : S → Prop) (R : ρ → Prop) (μ : S → Nat) {P : Fl S ρ → Prop} (h0 : I s0) (hμ : μ s0 < 1000000)
    (hs : ∀ s, I s → OK (c s) fun b => if b = true then OK (f s) fun fl => match fl with | .nx s' => I s' ∧ μ s' < μ s | .bk s' => J s' | .rt r => R r else P (.nx s))
    (hj : ∀ s, J s → P (.nx s)) (hr : ∀ r, R r → P (.rt r)) : OK (whileN c f fuelW s0) P := by
  have key : ∀ (n : Nat) (s : S), μ s < n → I s → OK (whileN c f n s) P := by
    intro n
    induction n with
    | zero => intro s h; exact absurd h (Nat.not_lt_zero _)
    | succ n ih =>
      intro s hlt hI
      obtain ⟨b, e, h⟩ := hs s hI
      show OK ((c s).bind _) P
      rw [e]
      cases b with
      | false =>
        rw [if_neg Bool.false_ne_true] at h
        exact ok_some h
      | true =>
        rw [if_pos rfl] at h
        obtain ⟨fl, e2, h⟩ := h
        show OK ((f s).bind _) P
        rw [e2]
        cases fl with
        | nx s' => exact ih s' (by have := h.2; omega) h.1
        | bk s' => exact ok_some (hj s' h)
        | rt r => exact ok_some (hr r h)
  exact key fuelW s0 (by unfold fuelW; omega) h0
theorem ok_map {f : α → Option β} {g : α → β} {P : List β → Prop} : ∀ {as : List α}, (∀ a ∈ as, f a = some (g a)) → P (as.map g) → OK (mapO f as) P := by
  intro as
  have key : ∀ as : List α, (∀ a ∈ as, f a = some (g a)) → mapO f as = some (as.map g) := by
    intro as
    induction as with
    | nil => intro _; rfl
    | cons a r ih =>
      intro h
      show ((f a).bind fun y => (mapO f r).bind fun ys => some (y :: ys)) = _
      rw [h a List.mem_cons_self, ih fun x hx => h x (List.mem_cons_of_mem _ hx)]
      rfl
  exact fun h p => ⟨_, key as h, p⟩
theorem ok_comp {fc : α → Option Bool} {fe : α → Option β} {c : α → Bool} {g : α → β} {P : List β → Prop} {as : List α} (hc : ∀ a ∈ as, fc a = some (c a)) (he : ∀ a ∈ as, c a = true → fe a = some (g a)) (p : P ((as.filter c).map g)) : OK (compO fc fe as) P := by
  have key : ∀ as : List α, (∀ a ∈ as, fc a = some (c a)) → (∀ a ∈ as, c a = true → fe a = some (g a)) → compO fc fe as = some ((as.filter c).map g) := by
    intro as
    induction as with
    | nil => intro _ _; rfl
    | cons a r ih =>
      intro h1 h2
      have i := ih (fun x hx => h1 x (List.mem_cons_of_mem _ hx)) fun x hx => h2 x (List.mem_cons_of_mem _ hx)
      show ((fc a).bind fun b => cond b ((fe a).bind fun y => (compO fc fe r).bind fun ys => some (y :: ys)) (compO fc fe r)) = _
      rw [h1 a List.mem_cons_self, i]
      cases hb : c a with
      | true =>
        show ((fe a).bind fun y => _) = _
        rw [h2 a List.mem_cons_self hb]
        simp [hb]
      | false => simp [hb]
  exact ⟨_, key as hc he, p⟩
end
end L2

set_option Elab.async false
set_option linter.all false
set_option maxRecDepth 100000
namespace Lasso
variable {α β : Type}
def sqO (st ring : List α) (n : Nat) : Option α := if n < st.length then st[n]? else ring[(n - st.length) % ring.length]?
def Per (s : Nat → β) (p m : Nat) : Prop := ∀ n, m ≤ n → s (n + p) = s n
theorem Per.mul {s : Nat → β} {p m : Nat} (h : Per s p m) : ∀ k n, m ≤ n → s (n + k * p) = s n
  | 0, n, _ => by simp
  | k + 1, n, hn => by
    have e : n + (k + 1) * p = (n + k * p) + p := by rw [Nat.succ_mul, Nat.add_assoc]
    rw [e, h _ (by omega), Per.mul h k n hn]
theorem Per.mod {s : Nat → β} {a b : Nat} (ha : Per s a 0) (hb : Per s b 0) : Per s (b % a) 0 := fun n _ => by
  have h1 := ha.mul (b / a) (n + b % a) (Nat.zero_le _)
  have e : n + b % a + b / a * a = n + b := by
    have := Nat.mod_add_div b a
    rw [Nat.mul_comm] at this
    omega
  rw [← h1, e]
  exact hb n (Nat.zero_le _)
structure Canon (s : Nat → Option α) (st ring : List α) : Prop where
  pos : 0 < ring.length
  shows : ∀ n, sqO st ring n = s n
  per : ∀ p m, 0 < p → Per s p m → ring.length ≤ p
  stem : ∀ m, st.length = m + 1 → s (m + ring.length) ≠ s m
/-- the ring is its first d things, said again -/
def Again (ring : List α) (d : Nat) : Prop := ring.length % d = 0 ∧ ring.drop d = ring.take (ring.length - d)
/-- the shortest part -/
structure Prim (ring u : List α) : Prop where
  pos : 0 < u.length
  le : u.length ≤ ring.length
  all : ∀ n, ring[n % ring.length]? = u[n % u.length]?
  min : ∀ p, 0 < p → Per (fun n => ring[n % ring.length]?) p 0 → u.length ≤ p
/-- of the stem's last places, b are as the ring tells -/
def Back (st u : List α) (b : Nat) : Prop := b ≤ st.length ∧ ∀ j, j < b → st[st.length - 1 - j]? = u[u.length - 1 - j % u.length]?
end Lasso

set_option Elab.async false
set_option linter.all false
set_option maxRecDepth 100000
namespace Lasso
variable {α : Type} [DecidableEq α]
def dst : Option α → List α → List α
  | _, [] => []
  | l, x :: xs => if some x = l then dst (some x) xs else x :: dst (some x) xs
def lastO : Option α → List α → Option α
  | l, [] => l
  | _, x :: xs => lastO (some x) xs
end Lasso

set_option Elab.async false
set_option linter.all false
set_option maxRecDepth 100000
set_option maxHeartbeats 4000000
namespace L2
open PySem PySem.Spec PyProof.Rows
abbrev RunT := List Str × List Str
structure Cell3 (G0 H0 G : Hp) (L : Addr) (H : Hp) (n : Nat) (x : V) : Prop where
  ex : ∃ t p q, x = .ref t ∧ H t = some (.tup [.ref p, .ref q]) ∧ (G p = none ∧ H0 p = none ∧ p ≠ L ∧ ∃ vs, H p = some (.lst vs) ∧ vs.length ≤ n) ∧ (G q = none ∧ H0 q = none ∧ q ≠ L ∧ ∃ ws, H q = some (.lst ws) ∧ ws.length ≤ n)
section
variable {K : PySem.W.Frag} {σ : St} {G H G0 H0 Gx G1 H1 G2 H2 : Hp} {α β : Type} [Rp α] [Rp β] {ta tb tc te : TE} {tt : TT} {t u rest : TS} {D : Ends} {i j : Nat} {v : V}
theorem Cell3.put {L c : Addr} {n : Nat} {x : V} {ys : List V} (h : Cell3 G0 H0 G L H n x) (hc : ∃ zs, H c = some (.lst zs)) (hl : ys.length ≤ n + 1) : Cell3 G0 H0 G L (upd H c (.lst ys)) (n + 1) x := by
  obtain ⟨zs, hzs⟩ := hc
  obtain ⟨t, p, q, rfl, ht, ⟨p1, p2, p3, vs, p4, p5⟩, ⟨q1, q2, q3, ws, q4, q5⟩⟩ := h.ex
  have nt : t ≠ c := ne_of ht hzs (fun z => by cases z)
  have one : ∀ (a : Addr) (xs : List V), H a = some (.lst xs) → xs.length ≤ n → ∃ xs', (upd H c (.lst ys)) a = some (.lst xs') ∧ xs'.length ≤ n + 1 := fun a xs ha hx => by
    by_cases e : a = c
    · subst e
      exact ⟨ys, upd_same, hl⟩
    · exact ⟨xs, by rw [upd_ne e]; exact ha, by omega⟩
  exact ⟨t, p, q, rfl, by rw [upd_ne nt]; exact ht, ⟨p1, p2, p3, one p vs p4 p5⟩, ⟨q1, q2, q3, one q ws q4 q5⟩⟩
/-- told: known with the new cells (Gx), and without them (G) -/
structure Told (K : PySem.W.Frag) (H0 G Gx H : Hp) (v : V) (r : List RunT) : Prop where
  up : Same G Gx
  sm : Same Gx H
  rel : Rp.rel K Gx v r
  cells : ∃ L xs, v = .ref L ∧ H L = some (.lst xs) ∧ G L = none ∧ H0 L = none ∧ Paired (fun x (a : RunT) => ∃ t p q vs ws, x = .ref t ∧ H t = some (.tup [.ref p, .ref q]) ∧ (G p = none ∧ H0 p = none ∧ p ≠ L ∧ H p = some (.lst vs) ∧ vs.length = a.1.length) ∧ (G q = none ∧ H0 q = none ∧ q ≠ L ∧ H q = some (.lst ws) ∧ ws.length = a.2.length)) xs r
theorem Told.ext {r : List RunT} (o : Told K H0 G Gx H v r) (x : Ext G H G1 H1) : ∃ L xs, v = .ref L ∧ H1 L = some (.lst xs) ∧ G1 L = none ∧ H0 L = none ∧ Paired (fun x (a : RunT) => ∃ t p q vs ws, x = .ref t ∧ H1 t = some (.tup [.ref p, .ref q]) ∧ (G1 p = none ∧ H0 p = none ∧ p ≠ L ∧ H1 p = some (.lst vs) ∧ vs.length = a.1.length) ∧ (G1 q = none ∧ H0 q = none ∧ q ≠ L ∧ H1 q = some (.lst ws) ∧ ws.length = a.2.length)) xs r := by
  obtain ⟨L, xs, e, hL, gL, h0, p⟩ := o.cells
  have nn : ∀ {a : Addr} {o : HO}, H a = some o → H a ≠ none := fun h z => by rw [h] at z; cases z
  refine ⟨L, xs, e, x.hh _ _ hL, x.no L gL (nn hL), h0, Paired.imp' (fun y a ⟨t, p, q, vs, ws, e, ht, ⟨p1, p2, p3, p4, p5⟩, ⟨q1, q2, q3, q4, q5⟩⟩ => ?_) p⟩
  exact ⟨t, p, q, vs, ws, e, x.hh _ _ ht, ⟨x.no p p1 (nn p4), p2, p3, x.hh _ _ p4, p5⟩, ⟨x.no q q1 (nn q4), q2, q3, x.hh _ _ q4, q5⟩⟩
def spoilO (r : List RunT) : Option Unit := if (∀ a ∈ r, a.1.length ≤ 100000 ∧ a.2.length ≤ 100000) ∧ r.length ≤ 1000 then some () else none
abbrev tSpoil (j : Nat) (x y : Str) : TS := tSeq (tDrop (tBM K "list" rAppend (tOp (rAt K) (tVar j) (tC (.int 0))) (tCons (tC (.str x)) tNil))) (tSeq (tDrop (tBM K "list" rInsert0 (tOp (rAt K) (tVar j) (tC (.int 1))) (tCons (tC (.int 0)) (tCons (tC (.str y)) tNil)))) tNext)
/-- the def that tells three new runs in a list -/
def spT (K : PySem.W.Frag) {A : Type} [RpA A] (m : A → Option (List RunT)) : Sp := fun vs H Q _ =>
  ∃ G a r, Same G H ∧ RpA.rel K G vs a ∧ m a = some r ∧ ∀ v G2 Gx H2, Ext G H G2 H2 → Ext G H Gx H2 → Told K H G2 Gx H2 v r → Q v H2
def XV (K : PySem.W.Frag) (te : TE) (σ : St) (G : Hp) (m : Option (List RunT)) : Prop :=
  ∀ G1, Same G G1 → ∀ a, m = some a → ∀ H, Same G1 H → ∀ Q : VK, (∀ v G2 Gx H2, Ext G1 H G2 H2 → Ext G1 H Gx H2 → Told K H G2 Gx H2 v a → Q v H2) → te σ H Q
theorem XV.ev {m : Option (List RunT)} (e : XV K te σ G m) : EV K te σ G m := by
  intro G1 s1 a ha H sH Q k
  exact e G1 s1 a ha H sH Q fun v G2 Gx H2 x xg o => k v Gx H2 xg o.rel
end
end L2

set_option Elab.async false
set_option linter.all false
set_option maxRecDepth 100000
set_option maxHeartbeats 4000000
namespace L2
open PySem PySem.Spec PyProof.Rows
def popO {α : Type} : List α → Option (α × List α)
  | [] => none
  | [a] => some (a, [])
  | a :: b :: r => (popO (b :: r)).bind fun p => some (p.1, a :: p.2)
theorem popO_eq {α : Type} : ∀ {as : List α} (h : as ≠ []), popO as = some (as.getLast h, as.dropLast)
  | [], h => absurd rfl h
  | [a], _ => rfl
  | a :: b :: r, _ => by
    show ((popO (b :: r)).bind fun p => some (p.1, a :: p.2)) = _
    rw [popO_eq (by simp)]
    rfl
theorem Paired.last {α β : Type} {R : α → β → Prop} : ∀ {vs : List α} {as : List β} {a : β} {as' : List β}, Paired R vs as → popO as = some (a, as') → ∃ w, vs[vs.length - 1]? = some w ∧ R w a ∧ Paired R vs.dropLast as'
  | _, _, _, _, .nil, hp => by cases hp
  | _, _, _, _, .cons h .nil, hp => by
    cases hp
    exact ⟨_, rfl, h, .nil⟩
  | _, _, _, _, .cons h (.cons h2 t), hp => by
    obtain ⟨q, hq, e⟩ := Option.bind_eq_some_iff.mp hp
    cases e
    obtain ⟨w, hw, r, pr⟩ := Paired.last (.cons h2 t) hq
    exact ⟨w, by simpa using hw, r, .cons h pr⟩
section
variable {X : Cx} {K : PySem.W.Frag} {o : Expr} {to : TE} {name : Str} {apos cpos : Pos} {T id : String} {r : V → List V → Hp → VK → Prop}
theorem pe_bm0K (h : X.K = K) (pa : PlainAttrs T) (slot : Slot T name id) (hty : typeOf (.builtin id) = pure (.type "method_descriptor")) (hm : MtR X id r) (ho : PE X o to)
    (hbase : attributeBase o name X.env (eval o X.env) = eval o X.env := by rfl) (hline : (apos.endLine == cpos.line) = true := by rfl) : PE X (.Call (.Attribute o name apos) [] [] cpos) (tBM0 K T r to) := h ▸ pe_bm0 pa slot hty hm ho hbase hline
end
section
variable {K : PySem.W.Frag} {σ : St} {G H G1 H1 G0 H0 : Hp} {α β : Type} [Rp α] [Rp β] {te ti : TE} {tt : TT} {t u rest : TS} {D : Ends} {i j : Nat} {a : α} {m : Option α} {as : List α} {v : V} {p q : Addr} {vs : List V}
theorem sv_pop {as' : List α} (hσ : σ[i]? = some (some v)) (o : Own K G H v p vs as) (hp : popO as = some (a, as'))
    (k : ∀ w, Rp.rel K G w a → Own K G (upd H p (.lst vs.dropLast)) v p vs.dropLast as' → rest D (σ.set j (some w)) (upd H p (.lst vs.dropLast))) : tSeq (tAsg (tBM0 K "list" rPop (tVar i)) (gName j)) rest D σ H := by
  obtain ⟨rfl, og, oh, oz, op⟩ := o
  obtain ⟨w, hw, r, pr⟩ := Paired.last op hp
  refine ⟨_, hσ, .inl ⟨rfl, _, SqL.of oh⟩, p, vs, w, rfl, rfl, oh, hw, ?_⟩
  refine k w r ⟨rfl, og, upd_same, ?_, pr⟩
  rw [List.length_dropLast]
  omega
/-- the heap but for the cells in C -/
def era (H : Hp) (C : List Addr) : Hp := fun a => if a ∈ C then none else H a
theorem era_in {C : List Addr} {b : Addr} (h : b ∈ C) : era H C b = none := if_pos h
theorem era_out {C : List Addr} {b : Addr} (h : b ∉ C) : era H C b = H b := if_neg h
theorem era_same {C : List Addr} : Same (era H C) H := fun b o e => by
  by_cases h : b ∈ C
  · rw [era_in h] at e
    cases e
  · rw [era_out h] at e
    exact e
/-- within the def: begun -/
theorem Ext.begin {C : List Addr} (s : Same G H) : Ext G (era H C) G H := ⟨.refl _, s, era_same, fun _ h _ => h⟩
/-- behind the call: gone on -/
theorem Ext.past {C : List Addr} (x : Ext G0 H0 G H) (h0 : ∀ b ∈ C, H0 b = none) (y : Ext G (era H C) G1 H1) : Ext G0 H0 G1 H1 := by
  refine ⟨x.gg.trans y.gg, y.gh, fun b o e => ?_, fun b g h => ?_⟩
  · have hb : b ∉ C := fun hc => by
      rw [h0 b hc] at e
      cases e
    exact y.hh b o (by rw [era_out hb]; exact x.hh b o e)
  · have hb : b ∉ C := fun hc => h (h0 b hc)
    refine y.no b (x.no b g h) ?_
    rw [era_out hb]
    cases e : H0 b with
    | none => exact absurd e h
    | some o =>
      rw [x.hh b o e]
      exact fun z => nomatch z
theorem Own.past {C : List Addr} (o : Own K G H v p vs as) (hp : p ∉ C) (y : Ext G (era H C) G1 H1) : Own K G1 H1 v p vs as :=
  ⟨o.v, y.no p o.g (by rw [era_out hp, o.h]; exact fun z => nomatch z), y.hh _ _ (by rw [era_out hp]; exact o.h), o.z, Paired.imp' (fun _ _ r => Rp.mono y.gg r) o.p⟩
def spW1 (K : PySem.W.Frag) {A : Type} [RpA A] {α : Type} [Rp α] (m : List α → A → Option (List α)) : Sp := fun vs H Q _ =>
  ∃ G p xs us as a r, vs = .ref p :: us ∧ Same G H ∧ Own K G H (.ref p) p xs as ∧ RpA.rel K G us a ∧ m as a = some r ∧
    ∀ G2 H2 xs', Ext G (era H [p]) G2 H2 → Own K G2 H2 (.ref p) p xs' r → Q .non H2
def spW2 (K : PySem.W.Frag) {A : Type} [RpA A] {α β : Type} [Rp α] [Rp β] (m : List α → List β → A → Option (List α × List β)) : Sp := fun vs H Q _ =>
  ∃ G p q xs ys us as bs a r, vs = .ref p :: .ref q :: us ∧ Same G H ∧ p ≠ q ∧ Own K G H (.ref p) p xs as ∧ Own K G H (.ref q) q ys bs ∧ RpA.rel K G us a ∧ m as bs a = some r ∧
    ∀ G2 H2 xs' ys', Ext G (era H [p, q]) G2 H2 → Own K G2 H2 (.ref p) p xs' r.1 → Own K G2 H2 (.ref q) q ys' r.2 → Q .non H2
theorem spW2_len {A : Type} [RpA A] {m : List α → List β → A → Option (List α × List β)} {vs : List V} {Q : VK} {E : XK} (h : spW2 K m vs H Q E) : vs.length = RpA.n A + 2 := by
  obtain ⟨G, p, q, xs, ys, us, as, bs, a, r, rfl, _, _, _, _, h, _⟩ := h
  rw [List.length_cons, List.length_cons, RpA.len h]
theorem sv_callW2 {A : Type} [RpA A] {bs : List β} {w : V} {ws : List V} {mA : Option A} {ta : TA} {c : A} {m : List α → List β → A → Option (List α × List β)} {r : List α × List β} (hσ : σ[i]? = some (some v)) (hτ : σ[j]? = some (some w)) (o : Own K G H v p vs as) (o2 : Own K G H w q ws bs) (ne : p ≠ q) (ea : AV K ta σ G mA) (ha : mA = some c) (hm : m as bs c = some r) (s : Same G H)
    (k : ∀ G1 H1 G2 H2 vs' ws', Ext G H G1 H1 → Ext G1 (era H1 [p, q]) G2 H2 → Own K G2 H2 v p vs' r.1 → Own K G2 H2 w q ws' r.2 → rest D σ H2) : tSeq (tDrop (tCall (spW2 K m) [] E0 (tCons (tVar i) (tCons (tVar j) ta)))) rest D σ H := by
  have ov := o.v
  have ow := o2.v
  subst ov
  subst ow
  refine ⟨_, hσ, _, hτ, ?_⟩
  refine ea G (.refl G) c ha H s _ fun us G1 H1 x h => ?_
  exact ⟨G1, p, q, vs, ws, us, as, bs, c, r, List.append_nil _, x.gh, ne, o.ext x, o2.ext x, h, hm, fun G2 H2 xs' ys' y o' o2' => k G1 H1 G2 H2 xs' ys' x y o' o2'⟩
end
end L2

set_option Elab.async false
set_option linter.all false
set_option maxRecDepth 100000
set_option maxHeartbeats 4000000
namespace L2
open PySem PySem.Spec PyProof.Rows
inductive Nt where
  | txt (x : Str)
  | tup (l : List Nt)
mutual
def Nt.dec : (a b : Nt) → Decidable (a = b)
  | .txt x, .txt y => if h : x = y then .isTrue (by rw [h]) else .isFalse fun e => h (by cases e; rfl)
  | .txt _, .tup _ => .isFalse fun e => by cases e
  | .tup _, .txt _ => .isFalse fun e => by cases e
  | .tup l, .tup m => match Nt.decs l m with
    | .isTrue h => .isTrue (by rw [h])
    | .isFalse h => .isFalse fun e => h (by cases e; rfl)
def Nt.decs : (l m : List Nt) → Decidable (l = m)
  | [], [] => .isTrue rfl
  | [], _ :: _ => .isFalse fun e => by cases e
  | _ :: _, [] => .isFalse fun e => by cases e
  | a :: l, b :: m => match Nt.dec a b with
    | .isFalse h => .isFalse fun e => h (by cases e; rfl)
    | .isTrue h => match Nt.decs l m with
      | .isTrue h2 => .isTrue (by rw [h, h2])
      | .isFalse h2 => .isFalse fun e => h2 (by cases e; rfl)
end
instance ntDec : DecidableEq Nt := Nt.dec
mutual
def Nt.dep : Nt → Nat
  | .txt _ => 0
  | .tup l => Nt.deps l + 1
def Nt.deps : List Nt → Nat
  | [] => 0
  | a :: l => max (Nt.dep a) (Nt.deps l)
end
mutual
inductive RelN (K : PySem.W.Frag) (H : Hp) : V → Nt → Prop where
  | txt (x : Str) (z : x.length ≤ sizeLine) : RelN K H (.str x) (.txt x)
  | tup {a : Addr} {xs : List V} {ds : List Nt} (h : SqT K H a xs) (z : xs.length ≤ sizeLine) (r : RelNs K H xs ds) : RelN K H (.ref a) (.tup ds)
inductive RelNs (K : PySem.W.Frag) (H : Hp) : List V → List Nt → Prop where
  | nil : RelNs K H [] []
  | cons {x : V} {d : Nt} {xs : List V} {ds : List Nt} (h : RelN K H x d) (t : RelNs K H xs ds) : RelNs K H (x :: xs) (d :: ds)
end
mutual
theorem RelN.mono {K : PySem.W.Frag} {H H' : Hp} (s : Same H H') : ∀ {v : V} {d : Nt}, RelN K H v d → RelN K H' v d
  | _, _, .txt x z => .txt x z
  | _, _, .tup h z r => .tup (s.tup h) z (RelNs.mono s r)
theorem RelNs.mono {K : PySem.W.Frag} {H H' : Hp} (s : Same H H') : ∀ {v : List V} {d : List Nt}, RelNs K H v d → RelNs K H' v d
  | _, _, .nil => .nil
  | _, _, .cons h t => .cons (RelN.mono s h) (RelNs.mono s t)
end
instance rpN : Rp Nt := ⟨RelN, fun s h => RelN.mono s h⟩
theorem relNs_of {K : PySem.W.Frag} {H : Hp} : ∀ {xs : List V} {ds : List Nt}, Paired (Rp.rel K H) xs ds → RelNs K H xs ds
  | _, _, .nil => .nil
  | _, _, .cons h t => .cons h (relNs_of t)
theorem of_relNs {K : PySem.W.Frag} {H : Hp} : ∀ {xs : List V} {ds : List Nt}, RelNs K H xs ds → Paired (Rp.rel K H) xs ds
  | _, _, .nil => .nil
  | _, _, .cons h t => .cons h (of_relNs t)
/-- kept where the tuples stay -/
theorem SqT.keep {K : PySem.W.Frag} {H H' : Hp} {a : Addr} {xs : List V} (s : ∀ b ys, Rd H b (.tup ys) → Rd H' b (.tup ys)) (h : SqT K H a xs) : SqT K H' a xs := by
  rcases h with h | h
  · exact .inl (s _ _ h)
  · exact .inr h
mutual
theorem RelN.keep {K : PySem.W.Frag} {H H' : Hp} (s : ∀ b ys, Rd H b (.tup ys) → Rd H' b (.tup ys)) : ∀ {v : V} {d : Nt}, RelN K H v d → RelN K H' v d
  | _, _, .txt x z => .txt x z
  | _, _, .tup h z r => .tup (SqT.keep s h) z (RelNs.keep s r)
theorem RelNs.keep {K : PySem.W.Frag} {H H' : Hp} (s : ∀ b ys, Rd H b (.tup ys) → Rd H' b (.tup ys)) : ∀ {v : List V} {d : List Nt}, RelNs K H v d → RelNs K H' v d
  | _, _, .nil => .nil
  | _, _, .cons h t => .cons (RelN.keep s h) (RelNs.keep s t)
end
instance imN : Imm Nt := ⟨fun s h => RelN.keep s h⟩
def isTxt : Hp → V → Nt → Prop := fun _ v a => ∃ x, v = .str x ∧ a = .txt x
def isU (K : PySem.W.Frag) (R : Hp → V → Nt → Prop) : Hp → V → Nt → Prop := fun H v a => isTxt H v a ∨ ∃ t xs l, v = .ref t ∧ SqT K H t xs ∧ a = .tup l ∧ Paired (R H) xs l
theorem txt_dec (x y : Str) : decide (Nt.txt x = Nt.txt y) = (x == y) := by
  rw [dec_beq]
  exact decide_eq_decide.mpr ⟨fun e => by cases e; rfl, fun e => by rw [e]⟩
theorem eqTxt {K : PySem.W.Frag} : EqTy K 0 isTxt where
  fn := fun _ _ ⟨x, h1, e1⟩ ⟨y, h2, e2⟩ => by subst h1; cases h2; rw [e1, e2]
  eq := fun A _ _ _ r1 r2 ⟨x, h1, e1⟩ ⟨y, h2, e2⟩ => by
    subst h1; subst h2; subst e1; subst e2
    obtain ⟨t, rfl⟩ := r1
    obtain ⟨t', rfl⟩ := r2
    rw [txt_dec]
    exact SeqAt.EqAt.str_str _ _ _ _
  rc := fun A _ _ _ r1 r2 ⟨x, h1, e1⟩ ⟨y, h2, e2⟩ => by
    subst h1; subst h2; subst e1; subst e2
    obtain ⟨t, rfl⟩ := r1
    obtain ⟨t', rfl⟩ := r2
    rw [txt_dec]
    exact ⟨SeqAt.RcAt.str_str _ _ _ _, SeqAt.RcNeAt.str_str _ _ _ _⟩
theorem tups_dec {as bs : List Nt} {n m : Nat} (hn : n = as.length) (hm : m = bs.length) : ((List.range (min n m)).all (fun j => decide (as[j]? = bs[j]?)) && n == m) = decide (Nt.tup as = Nt.tup bs) := by
  subst hn
  subst hm
  by_cases hl : as.length = bs.length
  · rw [← hl, Nat.min_self, beq_self_eq_true, Bool.and_true, all_dec as bs hl]
    exact decide_eq_decide.mpr ⟨fun e => by rw [e], fun e => by cases e; rfl⟩
  · have h : (as.length == bs.length) = false := by simpa using hl
    have ne : Nt.tup as ≠ Nt.tup bs := fun e => by
      cases e
      exact hl rfl
    rw [h, Bool.and_false, decide_eq_false ne]
theorem eqNu {K : PySem.W.Frag} {k : Nat} {R : Hp → V → Nt → Prop} (E : EqTy K k R) : EqTy K (k + 1) (isU K R) := by
  have fn : ∀ {X : Cx} {pins : List (Addr × Obj)} {σ : St} {H : Hp} {s : Shared} {x : V} {a b : Nt}, X.K = K → Inv X pins σ H s → isU K R H x a → isU K R H x b → a = b := by
    intro X pins σ H s x a b hK I ha hb
    rcases ha with ⟨z, rfl, rfl⟩ | ⟨t, xs, l, rfl, h1, rfl, p1⟩
    · rcases hb with ⟨z', e, rfl⟩ | ⟨t, xs, l, e, _⟩
      · cases e
        rfl
      · cases e
    · rcases hb with ⟨z', e, rfl⟩ | ⟨t', ys, l', e, h2, rfl, p2⟩
      · cases e
      · cases e
        subst hK
        have := I.tuple_inj h1 h2
        subst this
        rw [paired_fn (F := R H) (fun _ _ _ p q => E.fn rfl I p q) p1 p2]
  have rc : ∀ {X : Cx} {pins : List (Addr × Obj)} {σ : St} {H : Hp} {s : Shared} {x y : V} {u v : Value} {a b : Nt} (A : Around), X.K = K → Inv X pins σ H s → A.units + (k + 1) < cLine → RelV x u → RelV y v → isU K R H x a → isU K R H y b →
      SeqAt.RcAt A s u v (decide (a = b)) ∧ SeqAt.RcNeAt A s u v (!decide (a = b)) := by
    intro X pins σ H s x y u v a b A hK I hu r1 r2 ha hb
    rcases ha with ha | ⟨t, xs, l, rfl, h1, rfl, p1⟩
    · rcases hb with hb | ⟨t', ys, l', rfl, h2, rfl, p2⟩
      · exact eqTxt.rc (K := K) A hK I (by omega) r1 r2 ha hb
      · obtain ⟨z, rfl, rfl⟩ := ha
        obtain ⟨tk, rfl⟩ := r1
        cases r2
        subst hK
        obtain ⟨vs, ry, ply, _⟩ := I.tuple h2
        rw [decide_eq_false (fun e => by cases e)]
        exact ⟨SeqAt.RcAt.str_tuple _ _ ply (by omega), SeqAt.RcNeAt.str_tuple _ _ ply (by omega)⟩
    · rcases hb with ⟨z, rfl, rfl⟩ | ⟨t', ys, l', rfl, h2, rfl, p2⟩
      · obtain ⟨tk, rfl⟩ := r2
        cases r1
        subst hK
        obtain ⟨us, rx, plx, _⟩ := I.tuple h1
        rw [decide_eq_false (fun e => by cases e)]
        exact ⟨SeqAt.RcAt.tuple_str _ _ plx (by omega), SeqAt.RcNeAt.tuple_str _ _ plx (by omega)⟩
      · cases r1; cases r2
        subst hK
        obtain ⟨us, rx, plx, _⟩ := I.tuple h1
        obtain ⟨vs, ry, ply, _⟩ := I.tuple h2
        have lx := rx.length
        have ly := ry.length
        have lpx := Paired.length p1
        have lpy := Paired.length p2
        have it := items_eqAt E rfl I hu rx ry p1 p2
        rw [← tups_dec (as := l) (bs := l') (n := us.toArray.size) (m := vs.toArray.size) (by simp; omega) (by simp; omega)]
        exact ⟨SeqAt.RcAt.tuples plx ply (by omega) it, SeqAt.RcNeAt.tuples plx ply (by omega) it⟩
  refine ⟨fn, ?_, rc⟩
  intro X pins σ H s x y u v a b A hK I hu r1 r2 ha hb
  have h := (rc A hK I hu r1 r2 ha hb).1
  rcases id ha with ha' | ⟨t, xs, l, rfl, h1, rfl, p1⟩
  · rcases id hb with hb' | ⟨t', ys, l', rfl, h2, rfl, p2⟩
    · exact eqTxt.eq (K := K) A hK I (by omega) r1 r2 ha' hb'
    · obtain ⟨z, rfl, rfl⟩ := ha'
      obtain ⟨tk, rfl⟩ := r1
      cases r2
      subst hK
      obtain ⟨vs, ry, ply, _⟩ := I.tuple h2
      rw [decide_eq_false (fun e => by cases e)]
      exact SeqAt.EqAt.str_tuple _ _ ply (by omega)
  · rcases id hb with ⟨z, rfl, rfl⟩ | ⟨t', ys, l', rfl, h2, rfl, p2⟩
    · obtain ⟨tk, rfl⟩ := r2
      cases r1
      subst hK
      obtain ⟨us, rx, plx, _⟩ := I.tuple h1
      rw [decide_eq_false (fun e => by cases e)]
      exact SeqAt.EqAt.tuple_str _ _ plx (by omega)
    · cases r1; cases r2
      by_cases e : t = t'
      · subst e
        have := fn hK I ha hb
        rw [decide_eq_true this]
        exact SeqAt.EqAt.same _
      · exact SeqAt.EqAt.of_refs e h
def isN (K : PySem.W.Frag) (d : Nat) : Hp → V → Nt → Prop := fun H v a => RelN K H v a ∧ a.dep ≤ d
theorem isNs {K : PySem.W.Frag} {H : Hp} {d : Nat} : ∀ {xs : List V} {l : List Nt}, RelNs K H xs l → Nt.deps l ≤ d → Paired (isN K d H) xs l
  | _, _, .nil, _ => .nil
  | _, _, .cons h t, hd => by
    unfold Nt.deps at hd
    exact .cons ⟨h, by omega⟩ (isNs t (by omega))
theorem eqN {K : PySem.W.Frag} : ∀ d : Nat, EqTy K d (isN K d)
  | 0 => eqTxt.imp fun H v a ⟨h, hd⟩ => by
    cases h with
    | txt x z => exact ⟨x, rfl, rfl⟩
    | tup h z r =>
      unfold Nt.dep at hd
      omega
  | d + 1 => (eqNu (eqN d)).imp fun H v a ⟨h, hd⟩ => by
    cases h with
    | txt x z => exact .inl ⟨x, rfl, rfl⟩
    | tup h z r =>
      unfold Nt.dep at hd
      exact .inr ⟨_, _, _, rfl, h, rfl, isNs r (by omega)⟩
def rEqN (K : PySem.W.Frag) : R2 := fun x y H Q => ∃ a b : Nt, isN K 180 H x a ∧ isN K 180 H y b ∧ Q (.bl (decide (a = b))) H
def rNeN (K : PySem.W.Frag) : R2 := fun x y H Q => ∃ a b : Nt, isN K 180 H x a ∧ isN K 180 H y b ∧ Q (.bl (!decide (a = b))) H
theorem op_eqN {X : Cx} {K : PySem.W.Frag} {j : Nat} (hK : X.K = K) (hr : Room j X.A) : OpR X (compareOp .Eq) (rEqN K) := by
  intro pins s σ H x y v u Q I rx ry h
  obtain ⟨a, b, h1, h2, q⟩ := h
  exact ((eqN 180).rc X.A hK I (by have := hr.un; omega) rx ry h1 h2).1 _ _ _ _ ⟨.bl _, H, I, rfl, q⟩
theorem op_neN {X : Cx} {K : PySem.W.Frag} {j : Nat} (hK : X.K = K) (hr : Room j X.A) : OpR X (compareOp .NotEq) (rNeN K) := by
  intro pins s σ H x y v u Q I rx ry h
  obtain ⟨a, b, h1, h2, q⟩ := h
  exact ((eqN 180).rc X.A hK I (by have := hr.un; omega) rx ry h1 h2).2 _ _ _ _ ⟨.bl _, H, I, rfl, q⟩
def eqNO (a b : Nt) : Option Bool := if a.dep ≤ 180 ∧ b.dep ≤ 180 then some (decide (a = b)) else none
def neNO (a b : Nt) : Option Bool := if a.dep ≤ 180 ∧ b.dep ≤ 180 then some (!decide (a = b)) else none
section
variable {K : PySem.W.Frag} {σ : St} {G : Hp} {ta tb te : TE} {m1 m2 md : Option Nt}
theorem ev_eqN (ea : EV K ta σ G m1) (eb : EV K tb σ G m2) : EV K (tOp (rEqN K) ta tb) σ G (m1.bind fun a => m2.bind fun b => eqNO a b) :=
  ev_bin (fun s ra rb e Q k => by
    obtain ⟨⟨h1, h2⟩, rfl⟩ := ite_some e
    exact ⟨_, _, ⟨RelN.mono s ra, h1⟩, ⟨RelN.mono s rb, h2⟩, k _ _ _ (.refl s) rfl⟩) ea eb
theorem ev_neN (ea : EV K ta σ G m1) (eb : EV K tb σ G m2) : EV K (tOp (rNeN K) ta tb) σ G (m1.bind fun a => m2.bind fun b => neNO a b) :=
  ev_bin (fun s ra rb e Q k => by
    obtain ⟨⟨h1, h2⟩, rfl⟩ := ite_some e
    exact ⟨_, _, ⟨RelN.mono s ra, h1⟩, ⟨RelN.mono s rb, h2⟩, k _ _ _ (.refl s) rfl⟩) ea eb
theorem ev_txtN {m : Option Str} (e : EV K te σ G m) : EV K te σ G (m.bind fun x => some (Nt.txt x)) := by
  intro G1 s1 c hc H sH Q k
  obtain ⟨x, hx, hc⟩ := Option.bind_eq_some_iff.mp hc
  cases hc
  exact e G1 s1 x hx H sH Q fun v G2 H2 x2 ⟨e, z⟩ => k v G2 H2 x2 (by subst e; exact .txt _ z)
theorem ev_tupN {m : Option (Tp Nt)} (e : EV K te σ G m) : EV K te σ G (m.bind fun t => some (Nt.tup t.l)) := by
  intro G1 s1 c hc H sH Q k
  obtain ⟨t, ht, hc⟩ := Option.bind_eq_some_iff.mp hc
  cases hc
  exact e G1 s1 t ht H sH Q fun v G2 H2 x2 ⟨a, xs, e, h, z, p⟩ => k v G2 H2 x2 (by subst e; exact .tup h z (relNs_of p))
def asTxt : Nt → Option Str
  | .txt x => some x
  | .tup _ => none
def asTup : Nt → Option (Tp Nt)
  | .txt _ => none
  | .tup l => some ⟨l⟩
theorem ev_asTxt (e : EV K te σ G md) : EV K te σ G (md.bind fun d => asTxt d) := by
  intro G1 s1 c hc H sH Q k
  obtain ⟨d, hd, hc⟩ := Option.bind_eq_some_iff.mp hc
  refine e G1 s1 d hd H sH Q fun v G2 H2 x r => ?_
  cases r with
  | txt y z =>
    cases hc
    exact k _ _ _ x ⟨rfl, z⟩
  | tup h z r => cases hc
/-- a sentence read as a tuple: len, indexes, slices, walks are the tuple's -/
theorem ev_asTup (e : EV K te σ G md) : EV K te σ G (md.bind fun d => asTup d) := by
  intro G1 s1 c hc H sH Q k
  obtain ⟨d, hd, hc⟩ := Option.bind_eq_some_iff.mp hc
  refine e G1 s1 d hd H sH Q fun v G2 H2 x r => ?_
  cases r with
  | txt y z => cases hc
  | tup h z r =>
    cases hc
    exact k _ _ _ x ⟨_, _, rfl, h, z, of_relNs r⟩
end
end L2

set_option Elab.async false
set_option linter.all false
set_option maxRecDepth 100000
set_option maxHeartbeats 4000000
namespace L2
open PySem PySem.Spec PyProof.Rows
section
variable {X : Cx} {K : PySem.W.Frag}
theorem sl_tupK (h : X.K = K) : SlR X (rSlT K) := h ▸ sl_tup
end
section
variable {K : PySem.W.Frag} {σ : St} {G : Hp} {α : Type} [Rp α] {ta tb tc te : TE} {t1 t2 : TO} {ia ib ic : Option Int} {m1 m2 : Option (Option Int)}
theorem ev_chain {p p' : Int → Int → Bool} {q q' : List Nat → List Nat → Bool} (ea : EV K ta σ G ia) (eb : EV K tb σ G ib) (ec : EV K tc σ G ic) :
    EV K (tChain (rOrd p q) (rOrd p' q') ta tb tc) σ G (ia.bind fun a => ib.bind fun b => cond (p a b) (ic.bind fun c => some (p' b c)) (some false)) := by
  intro G1 s1 r hr H sH Q k
  obtain ⟨a, ha, hr⟩ := Option.bind_eq_some_iff.mp hr
  obtain ⟨b, hb, hr⟩ := Option.bind_eq_some_iff.mp hr
  refine ea G1 s1 a ha H sH _ fun v G2 H2 x2 r2 => ?_
  refine eb G2 (s1.trans x2.gg) b hb H2 x2.gh _ fun u G3 H3 x3 r3 => ?_
  cases r2
  cases r3
  refine ⟨p a b, rfl, ?_⟩
  cases hp : p a b with
  | false =>
    rw [hp] at hr
    cases hr
    rw [if_neg Bool.false_ne_true]
    exact k _ _ _ (x2.trans x3) rfl
  | true =>
    rw [hp] at hr
    obtain ⟨c, hc, hr⟩ := Option.bind_eq_some_iff.mp (cT hr)
    cases hr
    rw [if_pos rfl]
    refine ec G3 (s1.trans (x2.trans x3).gg) c hc H3 x3.gh _ fun w G4 H4 x4 r4 => ?_
    cases r4
    exact k _ _ _ ((x2.trans x3).trans x4) rfl
def cutT? {α : Type} (l : List α) (lo hi : Option Int) : Option (Tp α) := if ¬ (HT.sIx l.length 0 lo = 0 ∧ HT.sIx l.length l.length hi = l.length) then some ⟨cutA l lo hi⟩ else none
theorem ev_sliceT {ma : Option (Tp α)} (ea : EV K ta σ G ma) (e1 : OV t1 σ G m1) (e2 : OV t2 σ G m2) : EV K (tSl (rSlT K) ta t1 t2) σ G (ma.bind fun a => m1.bind fun lo => m2.bind fun hi => cutT? a.l lo hi) := by
  intro G1 s1 c hc H sH Q k
  obtain ⟨a, ha, hc⟩ := Option.bind_eq_some_iff.mp hc
  obtain ⟨lo, hlo, hc⟩ := Option.bind_eq_some_iff.mp hc
  obtain ⟨hi, hhi, hc⟩ := Option.bind_eq_some_iff.mp hc
  obtain ⟨hw, rfl⟩ := ite_some hc
  refine ea G1 s1 a ha H sH _ fun v G2 H2 x2 r2 => ?_
  refine e1 G2 (s1.trans x2.gg) lo hlo H2 x2.gh _ fun G3 H3 x3 => ?_
  refine e2 G3 (s1.trans (x2.trans x3).gg) hi hhi H3 x3.gh _ fun G4 H4 x4 => ?_
  obtain ⟨l, xs, rfl, h, z, p⟩ := Rp.mono (x3.trans x4).gg r2
  have hl := Paired.length p
  refine ⟨l, xs, rfl, x4.gh.tup h, by rw [hl]; exact hw, fun q hq => ?_⟩
  have hg : G4 q = none := x4.gh.free hq
  refine k _ (upd G4 q (.tup (cutV xs lo hi))) _ (((x2.trans x3).trans x4).trans ⟨Same.new hg, fun b o e => ?_, Same.new hq, fun b h1 h2 => ?_⟩) ⟨q, _, rfl, .inl (.inl upd_same), Nat.le_trans (cutV_length _ _ _) z, Paired.imp' (fun _ _ r => Rp.mono (Same.new hg) r) (Paired.cut p lo hi)⟩
  · by_cases hb : b = q
    · subst hb
      rw [upd_same] at e ⊢
      exact e
    · rw [upd_ne hb] at e ⊢
      exact x4.gh b o e
  · have hb : b ≠ q := fun e => h2 (by rw [e]; exact hq)
    rw [upd_ne hb]
    exact h1
class Flat (α : Type) [Rp α] [DecidableEq α] : Prop where
  fl : ∀ {K : PySem.W.Frag} {H : Hp} {v : V} {a : α}, Rp.rel K H v a → flatV v = true
  eq : ∀ {K : PySem.W.Frag} {H H' : Hp} {v u : V} {a b : α}, Rp.rel K H v a → Rp.rel K H' u b → eqV v u = decide (a = b)
instance flInt : Flat Int := ⟨fun h => by cases h; rfl, fun h h' => by cases h; cases h'; exact dec_beq _ _⟩
instance flStr : Flat Str := ⟨fun h => by obtain ⟨rfl, _⟩ := h; rfl, fun h h' => by obtain ⟨rfl, _⟩ := h; obtain ⟨rfl, _⟩ := h'; exact dec_beq _ _⟩
instance flBool : Flat Bool := ⟨fun h => by cases h; rfl, fun h h' => by cases h; cases h'; exact dec_beq _ _⟩
end
mutual
def Nt.toD : Nt → D
  | .txt x => .str x
  | .tup l => .tup (Nt.toDs l)
def Nt.toDs : List Nt → List D
  | [] => []
  | a :: l => Nt.toD a :: Nt.toDs l
end
mutual
theorem RelN.toD {K : PySem.W.Frag} {H : Hp} : ∀ {v : V} {a : Nt}, RelN K H v a → RelD K H v a.toD
  | _, _, .txt x z => by unfold Nt.toD; exact .str x z
  | _, _, .tup h z r => by unfold Nt.toD; exact .tup h z (RelNs.toD r)
theorem RelNs.toD {K : PySem.W.Frag} {H : Hp} : ∀ {xs : List V} {l : List Nt}, RelNs K H xs l → RelDs K H xs (Nt.toDs l)
  | _, _, .nil => by unfold Nt.toDs; exact .nil
  | _, _, .cons h t => by unfold Nt.toDs; exact .cons (RelN.toD h) (RelNs.toD t)
end
instance tdN : ToD Nt := ⟨Nt.toD, fun h => RelN.toD h⟩
end L2

set_option Elab.async false
set_option linter.all false
set_option maxRecDepth 100000
set_option maxHeartbeats 4000000
namespace L2
open PySem PySem.Spec PyProof.Rows
section
variable {K : PySem.W.Frag} {σ : St} {G H G1 H1 G0 H0 : Hp} {α β γ : Type} [Rp α] [Rp β] [Rp γ] {te ti : TE} {tt : TT} {t u rest : TS} {D : Ends} {i j : Nat} {as : List α} {bs : List β} {v w : V} {p q : Addr} {vs ws : List V}
theorem Own.over {o : HO} (h : Own K G H v p vs as) (ne : p ≠ q) (hq : G q = none) : Own K (upd G q o) H v p vs as :=
  ⟨h.v, by rw [upd_ne ne]; exact h.g, h.h, h.z, Paired.imp' (fun _ _ r => Rp.mono (Same.new hq) r) h.p⟩
theorem EV.runBB [Imm γ] {mb : Option γ} {b : γ} {Q : VK} (o1 : Own K G H v p vs as) (o2 : Own K G H w q ws bs) (ne : q ≠ p) (e : EV K te σ (upd (upd G p (.lst vs)) q (.lst ws)) mb) (hm : mb = some b) (s : Same G H)
    (k : ∀ w G2 H2, Ext G H G2 H2 → Rp.rel K G2 w b → Q w H2) : te σ H Q :=
  EV.runB (o2.over ne o1.g) e hm (o1.same s) fun w G2 H2 x r => k w (del G2 p) H2 (x.del o1.g) (Imm.del (x.gg _ _ upd_same) r)
theorem TV.runBB {mb : Option Bool} {b : Bool} {Q : Bool → Hp → Prop} (o1 : Own K G H v p vs as) (o2 : Own K G H w q ws bs) (ne : q ≠ p) (e : TV tt σ (upd (upd G p (.lst vs)) q (.lst ws)) mb) (hm : mb = some b) (s : Same G H)
    (k : ∀ G2 H2, Ext G H G2 H2 → Q b H2) : tt σ H Q :=
  TV.runB (o2.over ne o1.g) e hm (o1.same s) fun G2 H2 x => k (del G2 p) H2 (x.del o1.g)
theorem sv_ifBB {b : Bool} {m : Option Bool} (o1 : Own K G H v p vs as) (o2 : Own K G H w q ws bs) (ne : q ≠ p) (e : TV tt σ (upd (upd G p (.lst vs)) q (.lst ws)) m) (hm : m = some b) (s : Same G H)
    (k : ∀ G2 H2, Ext G H G2 H2 → if b = true then t { D with nx := rest D } σ H2 else u { D with nx := rest D } σ H2) : tSeq (tIfS tt t u) rest D σ H := TV.runBB o1 o2 ne e hm s k
/-- own[k] = a value that is read from it on the spot -/
theorem sv_setitemB [Imm α] {a : α} {m : Option α} {mi : Option Int} {k' : Int} {as' : List α} (hσ : σ[i]? = some (some v)) (o : Own K G H v p vs as) (e : EV K te σ (upd G p (.lst vs)) m) (hm : m = some a) (ei : EV K ti σ G mi) (hi : mi = some k') (hs : setO as k' a = some as') (s : Same G H)
    (k : ∀ G2 H2 w j, Ext G H G2 H2 → Own K G2 (upd H2 p (.lst (vs.set j w))) v p (vs.set j w) as' → rest D σ (upd H2 p (.lst (vs.set j w)))) : tSeq (tAsg te (gSub (tVar i) ti rSetL)) rest D σ H := by
  obtain ⟨j, hj, e'⟩ := Option.bind_eq_some_iff.mp hs
  cases e'
  have hlen := Paired.length o.p
  refine EV.runB o e hm s fun w G2 H2 x r => ?_
  have o2 := o.ext x
  refine ⟨v, hσ, ?_⟩
  refine ei G2 x.gg k' hi H2 x.gh _ fun u G3 H3 x3 r3 => ?_
  cases r3
  have o3 := o2.ext x3
  refine ⟨p, vs, k', j, o3.v, rfl, o3.h, by rw [hlen]; exact hj, ?_⟩
  exact k G3 H3 w j (x.trans x3) ⟨o3.v, o3.g, upd_same, by rw [List.length_set]; exact o3.z, Paired.st (Rp.mono x3.gg r) j o3.p⟩
end
end L2

set_option Elab.async false
set_option linter.all false
set_option maxRecDepth 100000
set_option maxHeartbeats 4000000
namespace L2
open PySem PySem.Spec PyProof.Rows
section
variable {K : PySem.W.Frag} {σ : St} {G H G1 H1 G2 H2 G0 H0 : Hp} {α β γ δ : Type} [Rp α] [Rp β] [Rp γ] [Rp δ] {te ta tb ti : TE} {t : TA} {tt : TT} {rest : TS} {D : Ends} {i j n : Nat} {as as' : List α} {v w : V} {p q : Addr} {vs ws : List V}
theorem Ext.era (x : Ext G H G2 H2) (g : G2 p = none) : Ext G (era H [p]) G2 (L2.era H2 [p]) := by
  refine ⟨x.gg, fun b o e => ?_, fun b o e => ?_, fun b h1 h2 => x.no b h1 fun z => h2 ?_⟩
  · have hb : b ≠ p := fun z => by
      rw [z, g] at e
      cases e
    rw [era_out (by simpa using hb)]
    exact x.gh b o e
  · by_cases hb : b = p
    · rw [era_in (by simpa using hb)] at e
      cases e
    · rw [era_out (by simpa using hb)] at e ⊢
      exact x.hh b o e
  · by_cases hb : b = p
    · exact era_in (by simpa using hb)
    · rw [era_out (by simpa using hb)]
      exact z
/-- the own list is there -/
def BV (K : PySem.W.Frag) (te : TE) (σ : St) (G : Hp) (v : V) (p : Addr) (vs : List V) (as : List α) (m : Option γ) : Prop :=
  ∀ G1, Same G G1 → ∀ c, m = some c → ∀ H, Same G1 H → Own K G1 H v p vs as → ∀ Q : VK, (∀ w G2 H2, Ext G1 H G2 H2 → Rp.rel K G2 w c → Q w H2) → te σ H Q
/-- it is shorter by one behind it -/
def PV (K : PySem.W.Frag) (te : TE) (σ : St) (G : Hp) (v : V) (p : Addr) (vs : List V) (as as' : List α) (m : Option γ) : Prop :=
  ∀ G1, Same G G1 → ∀ c, m = some c → ∀ H, Same G1 H → Own K G1 H v p vs as → ∀ Q : VK, (∀ w G2 H2, Ext G1 (era H [p]) G2 H2 → Own K G2 H2 v p vs.dropLast as' → Rp.rel K G2 w c → Q w H2) → te σ H Q
def PL (K : PySem.W.Frag) (t : TA) (σ : St) (G : Hp) (v : V) (p : Addr) (vs : List V) (as as' : List α) (n : Nat) (m : Option (List γ)) : Prop :=
  ∀ G1, Same G G1 → ∀ c, m = some c → ∀ H, Same G1 H → Own K G1 H v p vs as → ∀ Q : List V → Hp → Prop, (∀ ws G2 H2, Ext G1 (era H [p]) G2 H2 → Own K G2 H2 v p vs.dropLast as' → ws.length = n → Paired (Rp.rel K G2) ws c → Q ws H2) → t σ H Q
theorem bv_ev {m : Option γ} (e : EV K te σ G m) : BV K te σ G v p vs as m := fun G1 s1 c hc H sH _ Q k => e G1 s1 c hc H sH Q k
theorem bv_own [Imm γ] {m : Option γ} (hp : G p = none) (e : EV K te σ (upd G p (.lst vs)) m) : BV K te σ G v p vs as m := fun G1 s1 c hc H sH o Q k => by
  have s2 : Same (upd G p (.lst vs)) (upd G1 p (.lst vs)) := fun b u h => by
    by_cases hb : b = p
    · subst hb
      rw [upd_same] at h ⊢
      exact h
    · rw [upd_ne hb] at h ⊢
      exact s1 b u h
  exact EV.runB o (fun G2 s3 => e G2 (s2.trans s3)) hc sH k
theorem pv_pop {a : α} (hσ : σ[i]? = some (some v)) (hp : popO as = some (a, as')) : PV K (tBM0 K "list" rPop (tVar i)) σ G v p vs as as' (some a) := by
  intro G1 s1 c hc H sH o Q k
  cases hc
  obtain ⟨rfl, og, oh, oz, op⟩ := o
  obtain ⟨w, hw, r, pr⟩ := Paired.last op hp
  refine ⟨_, hσ, .inl ⟨rfl, _, SqL.of oh⟩, p, vs, w, rfl, rfl, oh, hw, ?_⟩
  refine k w G1 _ ⟨.refl _, fun b u e => ?_, fun b u e => ?_, fun _ h _ => h⟩ ⟨rfl, og, upd_same, ?_, pr⟩ r
  · have hb : b ≠ p := fun z => by
      rw [z, og] at e
      cases e
    rw [upd_ne hb]
    exact sH b u e
  · by_cases hb : b = p
    · rw [era_in (by simpa using hb)] at e
      cases e
    · rw [era_out (by simpa using hb)] at e
      rw [upd_ne hb]
      exact e
  · rw [List.length_dropLast]
    omega
theorem pl_here {m : Option γ} {ml : Option (List γ)} (e : PV K te σ G v p vs as as' m) (l : LV K t σ G n ml) : PL K (tCons te t) σ G v p vs as as' (n + 1) (m.bind fun a => ml.bind fun r => some (a :: r)) := by
  intro G1 s1 c hc H sH o Q k
  obtain ⟨a, ha, hc⟩ := Option.bind_eq_some_iff.mp hc
  obtain ⟨r, hr, hc⟩ := Option.bind_eq_some_iff.mp hc
  cases hc
  refine e G1 s1 a ha H sH o _ fun w G2 H2 x2 o2 r2 => ?_
  refine l G2 (s1.trans x2.gg) r hr H2 x2.gh _ fun ws G3 H3 x3 hl hp => ?_
  exact k _ G3 H3 (x2.trans x3) (o2.ext x3) (by rw [List.length_cons, hl]) (.cons (Rp.mono x3.gg r2) hp)
theorem pl_there {m : Option γ} {ml : Option (List γ)} (e : BV K te σ G v p vs as m) (l : PL K t σ G v p vs as as' n ml) : PL K (tCons te t) σ G v p vs as as' (n + 1) (m.bind fun a => ml.bind fun r => some (a :: r)) := by
  intro G1 s1 c hc H sH o Q k
  obtain ⟨a, ha, hc⟩ := Option.bind_eq_some_iff.mp hc
  obtain ⟨r, hr, hc⟩ := Option.bind_eq_some_iff.mp hc
  cases hc
  refine e G1 s1 a ha H sH o _ fun w G2 H2 x2 r2 => ?_
  have o2 := o.ext x2
  refine l G2 (s1.trans x2.gg) r hr H2 x2.gh o2 _ fun ws G3 H3 x3 o3 hl hp => ?_
  exact k _ G3 H3 ((x2.era o2.g).trans x3) o3 (by rw [List.length_cons, hl]) (.cons (Rp.mono x3.gg r2) hp)
theorem pv_tupN {ml : Option (List Nt)} (l : PL K t σ G v p vs as as' n ml) (hn : n ≤ sizeLine := by decide) : PV K (tTup t) σ G v p vs as as' (ml.bind fun l => some (Nt.tup l)) := by
  intro G1 s1 c hc H sH o Q k
  obtain ⟨l', hl', hc⟩ := Option.bind_eq_some_iff.mp hc
  cases hc
  refine l G1 s1 l' hl' H sH o _ fun ws G2 H2 x2 o2 hl hp => ⟨by omega, fun q h => ?_⟩
  have x3 : Ext G2 H2 (upd G2 q (.tup ws)) (upd H2 q (.tup ws)) := .new x2.gh h
  exact k _ _ _ (x2.trans x3) (o2.ext x3) (.tup (SqT.of upd_same) (by omega) (relNs_of (Paired.imp' (fun _ _ r => Rp.mono x3.gg r) hp)))
theorem sv_appendP {a : α} {m : Option α} {as'' : List α} (hσ : σ[i]? = some (some v)) (o : Own K G H v p vs as) (e : PV K te σ G v p vs as as' m) (hm : m = some a) (hp : pushO as' a = some as'') (s : Same G H)
    (k : ∀ G2 H2 w, Ext G (era H [p]) G2 H2 → Own K G2 (upd H2 p (.lst (vs.dropLast ++ [w]))) v p (vs.dropLast ++ [w]) as'' → rest D σ (upd H2 p (.lst (vs.dropLast ++ [w])))) : tSeq (tDrop (tBM K "list" rAppend (tVar i) (tCons te tNil))) rest D σ H := by
  obtain ⟨hl, rfl⟩ := ite_some hp
  have ov := o.v
  subst ov
  refine ⟨_, hσ, .inl ⟨rfl, _, SqL.of o.h⟩, ?_⟩
  refine e G (.refl G) a hm H s o _ fun w G2 H2 x o2 r => ?_
  have hlen := Paired.length o2.p
  refine ⟨p, _, w, rfl, rfl, o2.h, by omega, ?_⟩
  refine k G2 H2 w x ⟨rfl, o2.g, upd_same, ?_, Paired.app o2.p (.cons r .nil)⟩
  rw [List.length_append, List.length_singleton]
  omega
def cutX (x : Scr) (lo hi : Option Int) : Option (List Int) := if x.l.length ≤ sizeLine then some (cutA x.l lo hi) else none
theorem paired_scr (H : Hp) : ∀ l : List Int, Paired (Rp.rel K H) (l.map V.int) l
  | [] => .nil
  | a :: r => .cons rfl (paired_scr H r)
theorem fv_sliceX {t1 t2 : TO} {m1 m2 : Option (Option Int)} {ma : Option Scr} (ea : EV K ta σ G ma) (e1 : OV t1 σ G m1) (e2 : OV t2 σ G m2) : FV K (tSl (rSl K) ta t1 t2) σ G (ma.bind fun a => m1.bind fun lo => m2.bind fun hi => cutX a lo hi) := by
  intro G1 s1 c hc H sH Q k
  obtain ⟨a, ha, hc⟩ := Option.bind_eq_some_iff.mp hc
  obtain ⟨lo, hlo, hc⟩ := Option.bind_eq_some_iff.mp hc
  obtain ⟨hi, hhi, hc⟩ := Option.bind_eq_some_iff.mp hc
  obtain ⟨z, rfl⟩ := ite_some hc
  refine ea G1 s1 a ha H sH _ fun v G2 H2 x2 r2 => ?_
  refine e1 G2 (s1.trans x2.gg) lo hlo H2 x2.gh _ fun G3 H3 x3 => ?_
  refine e2 G3 (s1.trans (x2.trans x3).gg) hi hhi H3 x3.gh _ fun G4 H4 x4 => ?_
  obtain ⟨l, rfl, h⟩ := Rp.mono (x3.trans x4).gg r2
  exact ⟨_, x4.gh.seq h, fv_of x4.gh (Nat.le_trans (cutV_length _ _ _) (by rw [List.length_map]; exact z)) (Paired.cut (paired_scr G4 a.l) lo hi) (FV.mono ((x2.trans x3).trans x4) k)⟩
end
end L2

set_option Elab.async false
set_option linter.all false
set_option maxRecDepth 100000
set_option maxHeartbeats 4000000
namespace L2
open PySem PySem.Spec PyProof.Rows
theorem pe_globR {X : Cx} {x : Str} {a : Addr} {pos : Pos} (hg : Gl X x) (h : X.mg x = some (.ref a)) (hd : (x == ("__debug__" : Str)) = false := by decide) : PE X (.Name x pos) (tC (.ref a)) :=
  pe_glob (u := .ref a) hg h rfl hd
theorem rel_tup1 {K : PySem.W.Frag} {a : Addr} {od : Option Addr} {n : Nat} {osl : Array (Option Value)} {x : Str} {t : Tok} (h : K.lookup a = some ⟨.type "tuple", od, .seq #[.str x t] n, osl⟩) (z : x.length ≤ sizeLine) (G : Hp) :
    Rp.rel K G (.ref a) (Nt.tup [Nt.txt x]) :=
  RelN.tup (xs := [.str x]) (.inr ⟨_, _, _, h, rfl, rfl, (by show 1 ≤ sizeLine; decide), .cons ⟨t, rfl⟩ .nil⟩) (by show 1 ≤ sizeLine; decide) (.cons (.txt x z) .nil)
section
variable {K : PySem.W.Frag} {σ : St} {G : Hp} {ta : TE}
theorem ev_tupNL {t : TA} {n : Nat} {ml : Option (List Nt)} (e : LV K t σ G n ml) (z : n ≤ sizeLine := by decide) : EV K (tTup t) σ G (ml.bind fun l => some (Nt.tup l)) :=
  (ev_tupN (ev_tupL e z)).of (by cases ml <;> rfl)
end
end L2

set_option Elab.async false
set_option linter.all false
set_option maxRecDepth 100000
set_option maxHeartbeats 4000000
namespace L2
open PySem PySem.Spec PyProof.Rows
def Itn (K : PySem.W.Frag) (a : Addr) : It :=
  ⟨fun i H => ∃ xs x, SqL K H a xs ∧ xs[i]? = some x, fun i H x H' => ∃ t v, x = .ref t ∧ H t = none ∧ H' = upd H t (.tup [.int i, v]) ∧ ∀ xs, SqL K H a xs → xs[i]? = some v, fun i H => ∃ xs, SqL K H a xs ∧ xs.length ≤ i⟩
def iEnum (K : PySem.W.Frag) (ta : TA) : TI := fun σ H R => ta σ H fun vs H1 => ∃ a, vs = [.ref a] ∧ (∃ xs, SqL K H1 a xs) ∧ R (Itn K a) H1
def enumI {α : Type} : Nat → List α → List (Int × α)
  | _, [] => []
  | n, a :: l => ((n : Int), a) :: enumI (n + 1) l
section
variable {K : PySem.W.Frag} {σ : St} {G H : Hp} {α β γ : Type} [Rp α] [Rp β] [Rp γ] {ta tb te : TE} {rest : TS} {D : Ends} {i j : Nat}
/-- a list to be walked by enumerate -/
def IE (K : PySem.W.Frag) {α : Type} [Rp α] (wi : TI) (σ : St) (G : Hp) (m : Option (List α)) : Prop :=
  ∀ G1, Same G G1 → ∀ a, m = some a → ∀ H, Same G1 H → ∀ R : It → Hp → Prop, (∀ l vs G2 H2, Ext G1 H G2 H2 → Rd G2 l (.lst vs) → Paired (Rp.rel K G2) vs a → R (Itn K l) H2) → wi σ H R
structure LoopObE (K : PySem.W.Frag) {α S ρ : Type} [Rp α] (RR : ρ → V → Hp → Hp → Prop) (f : Int × α → S → Option (Fl S ρ)) (g : TG) (tb : TS) (D : Ends) (σ : St) (G2 H2 : Hp) (s0 : S) (res : Fl S ρ) (RS : S → St → Hp → Hp → Prop) : Prop where
  start : RS s0 σ G2 H2
  keep : ∀ s σ' G' H', RS s σ' G' H' → Same G2 G' ∧ Same G' H'
  step : ∀ (x : V) (t : Addr) (a : Int × α) (s : S) (σ1 : St) (G1 H1 : Hp) (fl : Fl S ρ), RS s σ1 G1 H1 → H1 t = none → Rp.rel K G1 x a.2 → f a s = some fl → ∀ D' : Ends, (∀ s' σ' G' H', fl = .nx s' → RS s' σ' G' H' → D'.nx σ' H') → (∀ s' σ' G' H', fl = .nx s' → RS s' σ' G' H' → D'.ct σ' H') →
    (∀ s' σ' G' H', fl = .bk s' → RS s' σ' G' H' → D'.bk σ' H') → (∀ r v G' H', fl = .rt r → RR r v G' H' → D'.rt v H') → g (.ref t) σ1 (upd H1 t (.tup [.int a.1, x])) fun σ2 H2 => tb D' σ2 H2
  nxt : ∀ s σ' G' H', res = .nx s → RS s σ' G' H' → D.nx σ' H'
  rtn : ∀ r v G' H', res = .rt r → RR r v G' H' → D.rt v H'
def shrO (a b : Int) : Option Int := if 0 ≤ b then some (a / 2 ^ b.toNat) else none
def rAnyB (K : PySem.W.Frag) : List V → Hp → VK → Prop := fun vs H Q => ∃ (l : Addr) (bs : List Bool), vs = [.ref l] ∧ SqL K H l (bs.map V.bl) ∧ Q (.bl (bs.any id)) H
end
end L2

set_option Elab.async false
set_option linter.all false
set_option maxRecDepth 100000
set_option maxHeartbeats 4000000
namespace L2
open PySem PySem.Spec PyProof.Rows
def isTps (K : PySem.W.Frag) {α : Type} (R : Hp → V → α → Prop) : Hp → V → Tp α → Prop := fun H x a => ∃ t xs, x = .ref t ∧ SqT K H t xs ∧ Paired (R H) xs a.l
theorem tp_dec {α : Type} [DecidableEq α] {as bs : Tp α} {n m : Nat} (hn : n = as.l.length) (hm : m = bs.l.length) : ((List.range (min n m)).all (fun j => decide (as.l[j]? = bs.l[j]?)) && n == m) = decide (as = bs) := by
  obtain ⟨as⟩ := as
  obtain ⟨bs⟩ := bs
  subst hn
  subst hm
  by_cases hl : as.length = bs.length
  · show ((List.range (min as.length bs.length)).all (fun j => decide (as[j]? = bs[j]?)) && as.length == bs.length) = _
    rw [← hl, Nat.min_self, beq_self_eq_true, Bool.and_true, all_dec as bs hl]
    exact decide_eq_decide.mpr ⟨fun e => by rw [e], fun e => by cases e; rfl⟩
  · have h : (as.length == bs.length) = false := by simpa using hl
    have ne : Tp.mk as ≠ Tp.mk bs := fun e => by
      cases e
      exact hl rfl
    show (_ && as.length == bs.length) = _
    rw [h, Bool.and_false, decide_eq_false ne]
theorem eqTp {K : PySem.W.Frag} {k : Nat} {α : Type} [DecidableEq α] {R : Hp → V → α → Prop} (E : EqTy K k R) : EqTy K (k + 1) (isTps K R) := by
  have fn : ∀ {X : Cx} {pins : List (Addr × Obj)} {σ : St} {H : Hp} {s : Shared} {x : V} {a b : Tp α}, X.K = K → Inv X pins σ H s → isTps K R H x a → isTps K R H x b → a = b := by
    intro X pins σ H s x a b hK I ha hb
    obtain ⟨a⟩ := a
    obtain ⟨b⟩ := b
    obtain ⟨l, xs, rfl, h1, p1⟩ := ha
    obtain ⟨l', ys, e, h2, p2⟩ := hb
    cases e
    subst hK
    have := I.tuple_inj h1 h2
    subst this
    exact congrArg Tp.mk (paired_fn (F := R H) (fun _ _ _ p q => E.fn rfl I p q) p1 p2)
  have rc : ∀ {X : Cx} {pins : List (Addr × Obj)} {σ : St} {H : Hp} {s : Shared} {x y : V} {u v : Value} {a b : Tp α} (A : Around), X.K = K → Inv X pins σ H s → A.units + (k + 1) < cLine → RelV x u → RelV y v → isTps K R H x a → isTps K R H y b →
      SeqAt.RcAt A s u v (decide (a = b)) ∧ SeqAt.RcNeAt A s u v (!decide (a = b)) := by
    intro X pins σ H s x y u v a b A hK I hu r1 r2 ha hb
    obtain ⟨l, xs, rfl, h1, p1⟩ := ha
    obtain ⟨l', ys, rfl, h2, p2⟩ := hb
    cases r1; cases r2
    subst hK
    obtain ⟨us, rx, plx, _⟩ := I.tuple h1
    obtain ⟨vs, ry, ply, _⟩ := I.tuple h2
    have lx := rx.length
    have ly := ry.length
    have lpx := Paired.length p1
    have lpy := Paired.length p2
    have it := items_eqAt E rfl I hu rx ry p1 p2
    rw [← tp_dec (as := a) (bs := b) (n := us.toArray.size) (m := vs.toArray.size) (by simp; omega) (by simp; omega)]
    exact ⟨SeqAt.RcAt.tuples plx ply (by omega) it, SeqAt.RcNeAt.tuples plx ply (by omega) it⟩
  refine ⟨fn, ?_, rc⟩
  intro X pins σ H s x y u v a b A hK I hu r1 r2 ha hb
  have h := (rc A hK I hu r1 r2 ha hb).1
  obtain ⟨l, xs, rfl, h1, p1⟩ := id ha
  obtain ⟨l', ys, rfl, h2, p2⟩ := id hb
  cases r1; cases r2
  by_cases e : l = l'
  · subst e
    have : a = b := fn hK I ha hb
    rw [decide_eq_true this]
    exact SeqAt.EqAt.same _
  · exact SeqAt.EqAt.of_refs e h
theorem vals3' {x y z : V} {us : List Value} (h : Vals [x, y, z] us) : ∃ a b c, us = [a, b, c] ∧ RelV x a ∧ RelV y b ∧ RelV z c := by
  cases h with
  | cons r t => cases t with
    | cons r' t' => cases t' with
      | cons r'' t'' => cases t''; exact ⟨_, _, _, rfl, r, r', r''⟩
def isT3 (K : PySem.W.Frag) {α β γ : Type} (R : Hp → V → α → Prop) (S : Hp → V → β → Prop) (T : Hp → V → γ → Prop) : Hp → V → T3 α β γ → Prop := fun H x p => ∃ t a b c, x = .ref t ∧ SqT K H t [a, b, c] ∧ R H a p.a ∧ S H b p.b ∧ T H c p.c
theorem eqT3 {K : PySem.W.Frag} {k : Nat} {α β γ : Type} [DecidableEq α] [DecidableEq β] [DecidableEq γ] {R : Hp → V → α → Prop} {S : Hp → V → β → Prop} {T : Hp → V → γ → Prop} (E : EqTy K k R) (G : EqTy K k S) (F : EqTy K k T) : EqTy K (k + 1) (isT3 K R S T) := by
  have fn : ∀ {X : Cx} {pins : List (Addr × Obj)} {σ : St} {H : Hp} {s : Shared} {x : V} {a b : T3 α β γ}, X.K = K → Inv X pins σ H s → isT3 K R S T H x a → isT3 K R S T H x b → a = b := by
    intro X pins σ H s x a b hK I ha hb
    obtain ⟨l, x1, x2, x3, rfl, h1, p1, p2, p3⟩ := ha
    obtain ⟨l', y1, y2, y3, e, h2, q1, q2, q3⟩ := hb
    cases e
    subst hK
    have := I.tuple_inj h1 h2
    cases this
    obtain ⟨a1, a2, a3⟩ := a
    obtain ⟨b1, b2, b3⟩ := b
    have e1 : a1 = b1 := E.fn rfl I p1 q1
    have e2 : a2 = b2 := G.fn rfl I p2 q2
    have e3 : a3 = b3 := F.fn rfl I p3 q3
    rw [e1, e2, e3]
  have rc : ∀ {X : Cx} {pins : List (Addr × Obj)} {σ : St} {H : Hp} {s : Shared} {x y : V} {u v : Value} {a b : T3 α β γ} (A : Around), X.K = K → Inv X pins σ H s → A.units + (k + 1) < cLine → RelV x u → RelV y v → isT3 K R S T H x a → isT3 K R S T H y b →
      SeqAt.RcAt A s u v (decide (a = b)) ∧ SeqAt.RcNeAt A s u v (!decide (a = b)) := by
    intro X pins σ H s x y u v a b A hK I hu r1 r2 ha hb
    obtain ⟨l, x1, x2, x3, rfl, h1, p1, p2, p3⟩ := ha
    obtain ⟨l', y1, y2, y3, rfl, h2, q1, q2, q3⟩ := hb
    cases r1; cases r2
    subst hK
    obtain ⟨us, rx, plx, _⟩ := I.tuple h1
    obtain ⟨vs, ry, ply, _⟩ := I.tuple h2
    obtain ⟨u1, u2, u3, rfl, ru1, ru2, ru3⟩ := vals3' rx
    obtain ⟨v1, v2, v3, rfl, rv1, rv2, rv3⟩ := vals3' ry
    have e1 := E.eq A.in1 rfl I (show A.units + 1 + k < cLine by omega) ru1 rv1 p1 q1
    have e2 := G.eq A.in1 rfl I (show A.units + 1 + k < cLine by omega) ru2 rv2 p2 q2
    have e3 := F.eq A.in1 rfl I (show A.units + 1 + k < cLine by omega) ru3 rv3 p3 q3
    have it : ∀ j (h1 : j < [u1, u2, u3].toArray.size) (h2 : j < [v1, v2, v3].toArray.size), SeqAt.EqAt A.in1 s [u1, u2, u3].toArray[j] [v1, v2, v3].toArray[j] ((fun j => if j = 0 then decide (a.a = b.a) else if j = 1 then decide (a.b = b.b) else decide (a.c = b.c)) j) := by
      intro j h1 h2
      match j, h1 with
      | 0, _ => exact e1
      | 1, _ => exact e2
      | 2, _ => exact e3
      | j + 3, h => exact absurd h (by simp)
    have ed : ((List.range (min [u1, u2, u3].toArray.size [v1, v2, v3].toArray.size)).all (fun j => if j = 0 then decide (a.a = b.a) else if j = 1 then decide (a.b = b.b) else decide (a.c = b.c)) && [u1, u2, u3].toArray.size == [v1, v2, v3].toArray.size) = decide (a = b) := by
      apply Bool.eq_iff_iff.mpr
      rw [decide_eq_true_iff]
      constructor
      · intro h
        have h : (decide (a.a = b.a) && (decide (a.b = b.b) && (decide (a.c = b.c) && true)) && true) = true := h
        simp only [Bool.and_true, Bool.and_eq_true, decide_eq_true_iff] at h
        obtain ⟨a1, a2, a3⟩ := a
        obtain ⟨b1, b2, b3⟩ := b
        obtain ⟨h1, h2, h3⟩ := h
        dsimp only at h1 h2 h3
        rw [h1, h2, h3]
      · rintro rfl
        show (decide (a.a = a.a) && (decide (a.b = a.b) && (decide (a.c = a.c) && true)) && true) = true
        simp
    rw [← ed]
    exact ⟨SeqAt.RcAt.tuples plx ply (by omega) it, SeqAt.RcNeAt.tuples plx ply (by omega) it⟩
  refine ⟨fn, ?_, rc⟩
  intro X pins σ H s x y u v a b A hK I hu r1 r2 ha hb
  have h := (rc A hK I hu r1 r2 ha hb).1
  obtain ⟨l, x1, x2, x3, rfl, h1, p1, p2, p3⟩ := id ha
  obtain ⟨l', y1, y2, y3, rfl, h2, q1, q2, q3⟩ := id hb
  cases r1; cases r2
  by_cases e : l = l'
  · subst e
    have : a = b := fn hK I ha hb
    rw [decide_eq_true this]
    exact SeqAt.EqAt.same _
  · exact SeqAt.EqAt.of_refs e h
/-- no such thing is None, nor equal to it -/
class NoN (α : Type) [Rp α] : Prop where
  no_non : ∀ {K : PySem.W.Frag} {H : Hp} {x : V} {a : α}, Rp.rel K H x a → x ≠ .non
  ne : ∀ {K : PySem.W.Frag} {X : Cx} {pins : List (Addr × Obj)} {σ : St} {H : Hp} {s : Shared} {x : V} {u : Value} {a : α} (A : Around), X.K = K → Inv X pins σ H s → A.units < cLine → RelV x u → Rp.rel K H x a →
    (SeqAt.EqAt A s .none u false ∧ SeqAt.RcAt A s .none u false ∧ SeqAt.RcNeAt A s .none u true) ∧ SeqAt.EqAt A s u .none false ∧ SeqAt.RcAt A s u .none false ∧ SeqAt.RcNeAt A s u .none true
instance nnInt : NoN Int := ⟨fun h => (by cases h; exact fun z => (nomatch z)), fun A hK I hu r h => by
  cases h
  obtain ⟨t, rfl⟩ := r
  exact ⟨⟨SeqAt.EqAt.none_int _ _, SeqAt.RcAt.none_int _ _, SeqAt.RcNeAt.none_int _ _⟩, SeqAt.EqAt.int_none _ _, SeqAt.RcAt.int_none _ _, SeqAt.RcNeAt.int_none _ _⟩⟩
instance nnPair {α β : Type} [Rp α] [Rp β] : NoN (α × β) := ⟨fun h => (by obtain ⟨_, _, _, rfl, _⟩ := h; exact fun z => (nomatch z)), fun A hK I hu r h => by
  obtain ⟨t, x, y, rfl, h, _⟩ := h
  cases r
  subst hK
  obtain ⟨us, rx, pl, _⟩ := I.tuple h
  exact ⟨⟨SeqAt.EqAt.none_tuple pl hu, SeqAt.RcAt.none_tuple pl hu, SeqAt.RcNeAt.none_tuple pl hu⟩, SeqAt.EqAt.tuple_none pl hu, SeqAt.RcAt.tuple_none pl hu, SeqAt.RcNeAt.tuple_none pl hu⟩⟩
theorem eqOpt {K : PySem.W.Frag} {k : Nat} {α : Type} [Rp α] [DecidableEq α] [NoN α] (E : EqTy K k (Rp.rel (α := α) K)) : EqTy K k (Rp.rel (α := Option α) K) where
  fn := by
    intro X pins σ H s x a b hK I ha hb
    cases a with
    | none =>
      cases b with
      | none => rfl
      | some b =>

        have ha : x = .non := ha
        subst ha
        exact absurd rfl (NoN.no_non (α := α) hb)
    | some a =>
      cases b with
      | none =>
        have hb : x = .non := hb
        subst hb
        exact absurd rfl (NoN.no_non (α := α) ha)
      | some b => exact congrArg some (E.fn hK I ha hb)
  eq := by
    intro X pins σ H s x y u v a b A hK I hu r1 r2 ha hb
    cases a with
    | none =>
      have ha : x = .non := ha
      subst ha
      cases r1
      cases b with
      | none =>
        have hb : y = .non := hb
        subst hb
        cases r2
        exact SeqAt.EqAt.same _
      | some b => exact (NoN.ne (α := α) A hK I (by omega) r2 hb).1.1
    | some a =>
      cases b with
      | none =>
        have hb : y = .non := hb
        subst hb
        cases r2
        exact (NoN.ne (α := α) A hK I (by omega) r1 ha).2.1
      | some b =>
        have := E.eq A hK I hu r1 r2 ha hb
        have e3 : decide (some a = some b) = decide (a = b) := by simp
        rw [e3]
        exact this
  rc := by
    intro X pins σ H s x y u v a b A hK I hu r1 r2 ha hb
    cases a with
    | none =>
      have ha : x = .non := ha
      subst ha
      cases r1
      cases b with
      | none =>
        have hb : y = .non := hb
        subst hb
        cases r2
        exact ⟨SeqAt.RcAt.none_none, SeqAt.RcNeAt.none_none⟩
      | some b => exact (NoN.ne (α := α) A hK I (by omega) r2 hb).1.2
    | some a =>
      cases b with
      | none =>
        have hb : y = .non := hb
        subst hb
        cases r2
        exact (NoN.ne (α := α) A hK I (by omega) r1 ha).2.2
      | some b =>
        have := E.rc A hK I hu r1 r2 ha hb
        have e3 : decide (some a = some b) = decide (a = b) := by simp
        rw [e3]
        exact this
instance reTp {α : Type} [Rp α] [DecidableEq α] [RpE α] : RpE (Tp α) := ⟨RpE.k α + 1, fun K => (eqTp (RpE.ty K)).imp fun _ _ _ ⟨l, xs, e, h, _, p⟩ => ⟨l, xs, e, h, p⟩⟩
instance reT3 {α β γ : Type} [Rp α] [DecidableEq α] [RpE α] [Rp β] [DecidableEq β] [RpE β] [Rp γ] [DecidableEq γ] [RpE γ] : RpE (T3 α β γ) :=
  ⟨max (RpE.k α) (max (RpE.k β) (RpE.k γ)) + 1, fun K => eqT3 ((RpE.ty (α := α) K).up (Nat.le_max_left _ _)) ((RpE.ty (α := β) K).up (Nat.le_trans (Nat.le_max_left _ _) (Nat.le_max_right _ _))) ((RpE.ty (α := γ) K).up (Nat.le_trans (Nat.le_max_right _ _) (Nat.le_max_right _ _)))⟩
instance reOpt {α : Type} [Rp α] [DecidableEq α] [RpE α] [NoN α] : RpE (Option α) := ⟨RpE.k α, fun K => eqOpt (RpE.ty K)⟩
class Fix (α : Type) [Rp α] : Prop where
  fx : ∀ {K : PySem.W.Frag} {G G' : Hp} {v : V} {a : α}, Rp.rel K G v a → Rp.rel K G' v a
instance fxInt : Fix Int := ⟨fun h => h⟩
instance fxBool : Fix Bool := ⟨fun h => h⟩
instance fxStr : Fix Str := ⟨fun h => h⟩
section
variable {K : PySem.W.Frag} {σ : St} {G Gx H G1 H1 G0 H0 : Hp} {α β γ : Type} [Rp α] [Rp β] [Rp γ] {te ta tb tc ti : TE} {tt : TT} {t u rest : TS} {D : Ends} {i j : Nat} {as : List α} {bs : List β} {v w : V} {p q : Addr} {vs ws : List V}
structure Own3 (K : PySem.W.Frag) {α β γ : Type} [Rp α] [Rp β] [Rp γ] (G H : Hp) (v : V) (p : Addr) (vs : List V) (a : T3 α (List β) γ) : Prop where
  t : ∃ t x z, v = .ref t ∧ G t = some (.tup [x, .ref p, z]) ∧ Rp.rel K G x a.a ∧ Rp.rel K G z a.c
  o : Own K G H (.ref p) p vs a.b
variable {a : T3 α (List β) γ}
theorem Own3.ext (o : Own3 K G H v p vs a) (x : Ext G H G1 H1) : Own3 K G1 H1 v p vs a :=
  ⟨let ⟨t, y, z, e, h, r1, r2⟩ := o.t; ⟨t, y, z, e, x.gg _ _ h, Rp.mono x.gg r1, Rp.mono x.gg r2⟩, o.o.ext x⟩
theorem Own3.put {ho : HO} (o : Own3 K G H v p vs a) (h : p ≠ q) : Own3 K G (upd H q ho) v p vs a := ⟨o.t, o.o.put h⟩
theorem Own3.over {ho : HO} (o : Own3 K G H v p vs a) (ne : p ≠ q) (hq : G q = none) : Own3 K (upd G q ho) H v p vs a :=
  ⟨let ⟨t, y, z, e, h, r1, r2⟩ := o.t; ⟨t, y, z, e, Same.new hq _ _ h, Rp.mono (Same.new hq) r1, Rp.mono (Same.new hq) r2⟩, o.o.over ne hq⟩
theorem Own3.g (o : Own3 K G H v p vs a) : G p = none := o.o.g
theorem Own3.h (o : Own3 K G H v p vs a) : H p = some (.lst vs) := o.o.h
theorem Own3.same (o : Own3 K G H v p vs a) (s : Same G H) : Same (upd G p (.lst vs)) H := o.o.same s
theorem Own3.tell (o : Own3 K G H v p vs a) : Rp.rel K (upd G p (.lst vs)) v a := by
  obtain ⟨t, y, z, rfl, h, r1, r2⟩ := o.t
  exact ⟨t, y, .ref p, z, rfl, SqT.of (Same.new o.o.g _ _ h), Rp.mono (Same.new o.o.g) r1, o.o.tell, Rp.mono (Same.new o.o.g) r2⟩
def NT (K : PySem.W.Frag) {α β γ : Type} [Rp α] [Rp β] [Rp γ] (te : TE) (σ : St) (G : Hp) (m : Option (T3 α (List β) γ)) : Prop :=
  ∀ G1, Same G G1 → ∀ a, m = some a → ∀ H, Same G1 H → ∀ Q : VK, (∀ v p vs G2 H2, Ext G1 H G2 H2 → H p = none → Own3 K G2 H2 v p vs a → Q v H2) → te σ H Q
end
end L2

set_option Elab.async false
set_option linter.all false
set_option maxRecDepth 100000
set_option maxHeartbeats 4000000
namespace L2
open PySem PySem.Spec PyProof.Rows
def Itd (lo : Int) (n : Nat) : It := ⟨fun i _ => i < n, fun i H x H' => H' = H ∧ x = .int (lo - i), fun i _ => n ≤ i⟩
def iRngD (ta : TA) : TI := fun σ H R => ta σ H fun vs H1 => ∃ i j : Int, vs = [.int i, .int j, .int (-1)] ∧ (-(2 ^ 62) ≤ i ∧ i < 2 ^ 62 ∧ -(2 ^ 62) ≤ j ∧ j < 2 ^ 62) ∧ R (Itd i (i - j).toNat) H1
def rngD (lo hi : Int) : Option (List Int) := if (-(2 ^ 62) ≤ lo ∧ lo < 2 ^ 62 ∧ -(2 ^ 62) ≤ hi ∧ hi < 2 ^ 62) ∧ (lo - hi).toNat ≤ sizeLine then some ((List.range (lo - hi).toNat).map fun (i : Nat) => lo - (i : Int)) else none
section
variable {K : PySem.W.Frag} {σ : St} {G : Hp} {ta tb : TE}
end
end L2

set_option Elab.async false
set_option linter.all false
set_option maxRecDepth 100000
set_option maxHeartbeats 4000000
namespace L3
open PySem
section
variable {prog : Program} {w : World} {A : Around} {E : Value → Shared → Prop} {s : Shared}
abbrev Steps (a c : Int) (i : Nat) (v : Value) : Prop := ∃ t, v = .int (a + i * c) t
end
section
variable {prog : Program} {w : World} {A : Around} {E : Value → Shared → Prop} {s : Shared}
end
end L3

set_option Elab.async false
set_option linter.all false
set_option maxRecDepth 100000
set_option maxHeartbeats 4000000
namespace L2
open PySem PySem.Spec PyProof.Rows
theorem op_isB {X : Cx} : OpR X (compareOp .Is) (fun x y H Q => ∃ a b, x = .bl a ∧ y = .bl b ∧ Q (.bl (decide (a = b))) H) := by
  intro pins s σ H x y v u Q I rx ry h
  obtain ⟨a, b, rfl, rfl, q⟩ := h
  cases rx; cases ry
  refine wpAny_is_plain rfl (fin_bl I q ?_)
  cases a <;> cases b <;> rfl
def rRng1 : List V → Hp → VK → Prop := fun xs H Q => ∃ j : Int, xs = [.int j] ∧ ∀ p, H p = none → Q (.ref p) (upd H p (.rng 0 j))
def rRng2 : List V → Hp → VK → Prop := fun xs H Q => ∃ i j : Int, xs = [.int i, .int j] ∧ ∀ p, H p = none → Q (.ref p) (upd H p (.rng i j))
def intsV (lo hi : Int) : List V := (List.range (hi - lo).toNat).map fun (i : Nat) => V.int (lo + (i : Int))
def rngB (lo hi : Int) : Prop := (-(2 ^ 62) ≤ lo ∧ lo < 2 ^ 62 ∧ -(2 ^ 62) ≤ hi ∧ hi < 2 ^ 62) ∧ (hi - lo).toNat ≤ sizeLine
def rTupR : List V → Hp → VK → Prop := fun xs H Q => ∃ p lo hi, xs = [.ref p] ∧ H p = some (.rng lo hi) ∧ rngB lo hi ∧ ∀ l, H l = none → Q (.ref l) (upd H l (.tup (intsV lo hi)))
def rLstR : List V → Hp → VK → Prop := fun xs H Q => ∃ p lo hi, xs = [.ref p] ∧ H p = some (.rng lo hi) ∧ rngB lo hi ∧ ∀ l, H l = none → Q (.ref l) (upd H l (.lst (intsV lo hi)))
section
variable {K : PySem.W.Frag} {σ : St} {G : Hp} {ta tb : TE} {ia ib : Option Int}
theorem ev_isB {ma mb : Option Bool} (ea : EV K ta σ G ma) (eb : EV K tb σ G mb) : EV K (tOp (fun x y H Q => ∃ a b, x = .bl a ∧ y = .bl b ∧ Q (.bl (decide (a = b))) H) ta tb) σ G (ma.bind fun a => mb.bind fun b => some (decide (a = b))) :=
  ev_bin (fun s ra rb e Q k => by
    cases ra; cases rb; cases e
    exact ⟨_, _, rfl, rfl, k _ _ _ (.refl s) rfl⟩) ea eb
end
end L2

set_option Elab.async false
set_option linter.all false
set_option maxRecDepth 100000
set_option maxHeartbeats 4000000
namespace L2
open PySem PySem.Spec PyProof.Rows
def inner2 (cap : List Nat) (σ : St) : St := none :: none :: cap.map fun i => (σ[i]?).join
abbrev gTwo (K : PySem.W.Frag) : TG := gTup K 2 (gCons (gName 0) (gCons (gName 1) gNil))
def tComp2 (K : PySem.W.Frag) (cap : List Nat) (wi : TI) (tc : TT) (te : TE) : TE := fun σ H Q => wi σ H fun J H1 => ∀ p, H1 p = none →
  ∃ W : Nat → Nat → List V → Hp → Prop, (∃ m, W 0 m [] (upd H1 p (.lst []))) ∧ ∀ i m xs H2, W i m xs H2 →
    (J.stop i H2 ∧ Q (.ref p) H2) ∨ (J.go i H2 ∧ ∃ N : List V → Hp → Prop, (∀ xs' H', N xs' H' → ∃ m', m' < m ∧ W (i + 1) m' xs' H') ∧
      ∀ x H3, J.yld i H2 x H3 → gTwo K x (inner2 cap σ) H3 fun σ2 H4 => tc σ2 H4 fun b H5 => if b = true then te σ2 H5 fun v H6 => H6 p = some (.lst xs) ∧ xs.length < sizeLine ∧ N (xs ++ [v]) (upd H6 p (.lst (xs ++ [v]))) else N xs H5)
section
variable {X : Cx} {pins : List (Addr × Obj)} {σ : St}
end
end L2

set_option Elab.async false
set_option linter.all false
set_option maxRecDepth 100000
set_option maxHeartbeats 4000000
namespace L2
open PySem PySem.Spec PyProof.Rows
def Itns (x : Str) : It :=
  ⟨fun i _ => i < x.cps.size, fun i H y H' => ∃ t v, y = .ref t ∧ H t = none ∧ H' = upd H t (.tup [.int i, v]) ∧ (signsV x)[i]? = some v, fun i _ => i = x.cps.size⟩
def iEnumS (ta : TA) : TI := fun σ H R => ta σ H fun vs H1 => ∃ x, vs = [.str x] ∧ R (Itns x) H1
structure YieldsE (J : It) (H : Hp) (xs : List V) : Prop where
  go : ∀ i H', Same H H' → i < xs.length → J.go i H'
  stop : ∀ H', Same H H' → J.stop xs.length H'
  yld : ∀ (i : Nat) (H' : Hp) (x : V) (H'' : Hp), Same H H' → i < xs.length → J.yld i H' x H'' → ∃ t v, x = .ref t ∧ H' t = none ∧ H'' = upd H' t (.tup [.int i, v]) ∧ xs[i]? = some v
section
variable {K : PySem.W.Frag} {σ : St} {G : Hp} {α β : Type} [Rp α] [Rp β] {ta : TE}
def IF (K : PySem.W.Frag) {α : Type} [Rp α] (wi : TI) (σ : St) (G : Hp) (m : Option (List α)) : Prop :=
  ∀ G1, Same G G1 → ∀ a, m = some a → ∀ H, Same G1 H → ∀ R : It → Hp → Prop, (∀ J vs G2 H2, Ext G1 H G2 H2 → YieldsE J G2 vs → vs.length ≤ sizeLine → Paired (Rp.rel K G2) vs a → R J H2) → wi σ H R
end
end L2

set_option Elab.async false
set_option linter.all false
set_option maxRecDepth 100000
set_option maxHeartbeats 4000000
namespace L2
open PySem PySem.Spec PyProof.Rows
inductive SI where
  | s (x : Str)
  | i (n : Int)
  deriving DecidableEq
def RelSI (v : V) : SI → Prop
  | .s x => v = .str x ∧ x.length ≤ sizeLine
  | .i n => v = .int n
instance rpSI : Rp SI := ⟨fun _ _ v a => RelSI v a, fun _ h => h⟩
instance imSI : Imm SI := ⟨fun _ h => h⟩
theorem eqSI {K : PySem.W.Frag} : EqTy K 0 (Rp.rel (α := SI) K) where
  fn := fun {X pins σ H s x a b} hK I h1 h2 => by
    cases a with
    | s y => cases b with
      | s z => obtain ⟨rfl, _⟩ := h1; obtain ⟨e, _⟩ := h2; cases e; rfl
      | i n => obtain ⟨rfl, _⟩ := h1; cases h2
    | i m => cases b with
      | s z => obtain ⟨rfl, _⟩ := h2; cases h1
      | i n =>
        have h1 : x = .int m := h1
        have h2 : x = .int n := h2
        subst h1
        cases h2
        rfl
  eq := fun {X pins σ H s x y u v a b} A hK I hu r1 r2 h1 h2 => by
    cases a with
    | s p => cases b with
      | s q =>
        obtain ⟨rfl, _⟩ := h1
        obtain ⟨rfl, _⟩ := h2
        have := eqStr.eq (K := K) (a := p) (b := q) A hK I hu r1 r2 rfl rfl
        rwa [show decide (SI.s p = SI.s q) = decide (p = q) from decide_eq_decide.mpr ⟨fun e => by cases e; rfl, fun e => by rw [e]⟩]
      | i n =>
        obtain ⟨rfl, _⟩ := h1
        have h2 : y = .int n := h2
        subst h2
        obtain ⟨t, rfl⟩ := r1
        obtain ⟨t', rfl⟩ := r2
        rw [decide_eq_false (fun e => by cases e)]
        exact SeqAt.EqAt.str_int _ _ _ _
    | i m => cases b with
      | s q =>
        obtain ⟨rfl, _⟩ := h2
        have h1 : x = .int m := h1
        subst h1
        obtain ⟨t, rfl⟩ := r1
        obtain ⟨t', rfl⟩ := r2
        rw [decide_eq_false (fun e => by cases e)]
        exact SeqAt.EqAt.int_str _ _ _ _
      | i n =>
        have := eqInt.eq (K := K) (a := m) (b := n) A hK I hu r1 r2 h1 h2
        rwa [show decide (SI.i m = SI.i n) = decide (m = n) from decide_eq_decide.mpr ⟨fun e => by cases e; rfl, fun e => by rw [e]⟩]
  rc := fun {X pins σ H s x y u v a b} A hK I hu r1 r2 h1 h2 => by
    cases a with
    | s p => cases b with
      | s q =>
        obtain ⟨rfl, _⟩ := h1
        obtain ⟨rfl, _⟩ := h2
        have := eqStr.rc (K := K) (a := p) (b := q) A hK I hu r1 r2 rfl rfl
        rwa [show decide (SI.s p = SI.s q) = decide (p = q) from decide_eq_decide.mpr ⟨fun e => by cases e; rfl, fun e => by rw [e]⟩]
      | i n =>
        obtain ⟨rfl, _⟩ := h1
        have h2 : y = .int n := h2
        subst h2
        obtain ⟨t, rfl⟩ := r1
        obtain ⟨t', rfl⟩ := r2
        rw [decide_eq_false (fun e => by cases e)]
        exact ⟨SeqAt.RcAt.str_int _ _ _ _, SeqAt.RcNeAt.str_int _ _ _ _⟩
    | i m => cases b with
      | s q =>
        obtain ⟨rfl, _⟩ := h2
        have h1 : x = .int m := h1
        subst h1
        obtain ⟨t, rfl⟩ := r1
        obtain ⟨t', rfl⟩ := r2
        rw [decide_eq_false (fun e => by cases e)]
        exact ⟨SeqAt.RcAt.int_str _ _ _ _, SeqAt.RcNeAt.int_str _ _ _ _⟩
      | i n =>
        have := eqInt.rc (K := K) (a := m) (b := n) A hK I hu r1 r2 h1 h2
        rwa [show decide (SI.i m = SI.i n) = decide (m = n) from decide_eq_decide.mpr ⟨fun e => by cases e; rfl, fun e => by rw [e]⟩]
instance reSI : RpE SI := ⟨0, fun _ => eqSI⟩
def asS : SI → Option Str
  | .s x => some x
  | .i _ => none
def asI : SI → Option Int
  | .s _ => none
  | .i n => some n
section
variable {K : PySem.W.Frag} {σ : St} {G H : Hp} {ta tb te td ti : TE} {α : Type} [Rp α] {md : Option SI} {rest : TS} {D : Ends} {i : Nat}
end
def rInE (K : PySem.W.Frag) (α : Type) [Rp α] [DecidableEq α] (neg : Bool) : R2 := fun x y H Q => ∃ p xs a as, y = .ref p ∧ SqL K H p xs ∧ Rp.rel (α := α) K H x a ∧ Paired (Rp.rel (α := α) K H) xs as ∧ Q (.bl (if neg then !decide (a ∈ as) else decide (a ∈ as))) H
open Classical in
noncomputable def eqW {α : Type} [Rp α] (K : PySem.W.Frag) (H : Hp) (a : α) (u : Value) : Bool := decide (∃ y, RelV y u ∧ Rp.rel K H y a)
section
variable {K : PySem.W.Frag} {σ : St} {G H : Hp} {ta tb te td ti : TE} {α : Type} [Rp α]
end
def sumO (ns : List Int) : Option Int := if ns.length ≤ 1000 ∧ ∀ n ∈ ns, 0 ≤ n ∧ n ≤ 1000000000 then some ns.sum else none
def rSumI (K : PySem.W.Frag) : List V → Hp → VK → Prop := fun vs H Q => ∃ (l : Addr) (ns : List Int) (m : Int), vs = [.ref l] ∧ SqL K H l (ns.map V.int) ∧ sumO ns = some m ∧ Q (.int m) H
section
variable {K : PySem.W.Frag} {σ : St} {G H : Hp} {ta tb te td ti : TE} {α : Type} [Rp α]
end
structure Mp (α : Type) where
  l : List (Int × α)
def getM {α : Type} : List (Int × α) → Int → Option α
  | [], _ => none
  | (j, a) :: r, k => if j = k then some a else getM r k
def putM {α : Type} (l : List (Int × α)) (k : Int) (a : α) : List (Int × α) := if (l.any fun q => decide (q.1 = k)) = true then l.map (fun q => if q.1 = k then (q.1, a) else q) else l ++ [(k, a)]
def putO {α : Type} (m : Mp α) (k : Int) (a : α) : Option (Mp α) := if m.l.length < sizeLine then some ⟨putM m.l k a⟩ else none
def RelE (K : PySem.W.Frag) {α : Type} [Rp α] (H : Hp) (kv : Key × V) (q : Int × α) : Prop := kv.1 = .inl q.1 ∧ Rp.rel K H kv.2 q.2
instance rpMp {α : Type} [Rp α] : Rp (Mp α) := ⟨fun K H v a => ∃ p kvs, v = .ref p ∧ H p = some (.dK kvs) ∧ Paired (RelE K H) kvs a.l,
  fun s ⟨p, kvs, e, h, pr⟩ => ⟨p, kvs, e, s _ _ h, Paired.imp' (fun _ _ r => ⟨r.1, Rp.mono s r.2⟩) pr⟩⟩
structure OwnM (K : PySem.W.Frag) {α : Type} [Rp α] (G H : Hp) (v : V) (p : Addr) (kvs : List (Key × V)) (a : Mp α) : Prop where
  v : v = .ref p
  g : G p = none
  h : H p = some (.dK kvs)
  p : Paired (RelE K G) kvs a.l
section
variable {K : PySem.W.Frag} {σ : St} {G H G1 H1 G0 H0 : Hp} {α β : Type} [Rp α] [Rp β] {td te ti : TE} {rest : TS} {D : Ends} {i : Nat} {a : Mp α} {v : V} {p q : Addr} {kvs : List (Key × V)}
theorem OwnM.ext (o : OwnM K G H v p kvs a) (x : Ext G H G1 H1) : OwnM K G1 H1 v p kvs a :=
  ⟨o.v, x.no p o.g (by rw [o.h]; exact fun z => nomatch z), x.hh _ _ o.h, Paired.imp' (fun _ _ r => ⟨r.1, Rp.mono x.gg r.2⟩) o.p⟩
theorem OwnM.put {ho : HO} (o : OwnM K G H v p kvs a) (h : p ≠ q) : OwnM K G (upd H q ho) v p kvs a := ⟨o.v, o.g, by rw [upd_ne h]; exact o.h, o.p⟩
theorem OwnM.tell (o : OwnM K G H v p kvs a) : Rp.rel K (upd G p (.dK kvs)) v a := ⟨p, kvs, o.v, upd_same, Paired.imp' (fun _ _ r => ⟨r.1, Rp.mono (Same.new o.g) r.2⟩) o.p⟩
theorem OwnM.over {o : HO} (h : OwnM K G H v p kvs a) (ne : p ≠ q) (hq : G q = none) : OwnM K (upd G q o) H v p kvs a :=
  ⟨h.v, by rw [upd_ne ne]; exact h.g, h.h, Paired.imp' (fun _ _ r => ⟨r.1, Rp.mono (Same.new hq) r.2⟩) h.p⟩
end
section
variable {K : PySem.W.Frag} {σ : St} {G H : Hp} {α : Type} [Rp α] {te : TE} {rest : TS} {D : Ends} {i : Nat} {a : α} {m : Option α} {as : List α} {v : V} {p : Addr} {vs : List V}
end
end L2

set_option Elab.async false
set_option linter.all false
set_option maxRecDepth 100000
set_option maxHeartbeats 4000000
namespace L2
open PySem PySem.Spec PyProof.Rows
def pickA {α : Type} (l : List α) (lo hi : Option Int) (st : Int) : List α :=
  (sliceRange (sliceBounds lo hi (some st) l.length).1 (sliceBounds lo hi (some st) l.length).2.1 (sliceBounds lo hi (some st) l.length).2.2).filterMap fun i => l[i]?
def SlR3 (X : Cx) (r : V → Option Int → Option Int → Option Int → Hp → VK → Prop) : Prop :=
  ∀ (pins : List (Addr × Obj)) (s : Shared) (σ : St) (H : Hp) (x : V) (v vl vu vs : Value) (lo hi st : Option Int) (sl : Addr) (Q : VK), Inv X pins σ H s → RelV x v → s.heap.IsSliceOf sl vl vu vs → IsPart vl lo → IsPart vu hi → IsPart vs st → r x lo hi st H Q →
    ∃ T id, typeLookup (.type T) "__getitem__" = pure (some (.builtin id)) ∧ s.TypeIs v T ∧ wpAny (model X.prog X.w) X.A (getItem v (.ref sl)) (EP X pins σ Q) X.xe s
abbrev tSl3 (r : V → Option Int → Option Int → Option Int → Hp → VK → Prop) (te : TE) (tl th ts : TO) : TE := fun σ H Q => te σ H fun x H1 => tl σ H1 fun l H2 => th σ H2 fun u H3 => ts σ H3 fun c H4 => r x l u c H4 Q
def rSl3 (K : PySem.W.Frag) : V → Option Int → Option Int → Option Int → Hp → VK → Prop := fun x lo hi st H Q => ∃ a xs c, x = .ref a ∧ SqL K H a xs ∧ st = some c ∧ c ≠ 0 ∧ ∀ p, H p = none → Q (.ref p) (upd H p (.lst (pickA xs lo hi c)))
section
variable {X : Cx} {e : Expr} {te : TE} {lo hi : Option Expr} {se : Expr} {tl th ts : TO} {pos p2 : Pos}
end
def pickX (x : Scr) (lo hi : Option Int) (c : Int) : Option (List Int) := if x.l.length ≤ sizeLine then some (pickA x.l lo hi c) else none
section
variable {K : PySem.W.Frag} {σ : St} {G H : Hp} {ta t3 : TE} {t1 t2 : TO} {α : Type} [Rp α] {m1 m2 : Option (Option Int)} {c : Int}
end
end L2

set_option Elab.async false
set_option linter.all false
set_option maxRecDepth 100000
set_option maxHeartbeats 4000000
namespace L2
open PySem PySem.Spec PyProof.Rows
def Itz (K : PySem.W.Frag) (a b : Addr) : It :=
  ⟨fun i H => ∃ xs ys x y, SqL K H a xs ∧ SqL K H b ys ∧ xs[i]? = some x ∧ ys[i]? = some y,
   fun i H z H' => ∃ t v w, z = .ref t ∧ H t = none ∧ H' = upd H t (.tup [v, w]) ∧ (∀ xs, SqL K H a xs → xs[i]? = some v) ∧ ∀ ys, SqL K H b ys → ys[i]? = some w,
   fun i H => ∃ xs ys, SqL K H a xs ∧ SqL K H b ys ∧ (xs.length ≤ i ∨ ys.length ≤ i)⟩
def iZip (K : PySem.W.Frag) (ta : TA) : TI := fun σ H R => ta σ H fun vs H1 => ∃ a b, vs = [.ref a, .ref b] ∧ (∃ xs, SqL K H1 a xs) ∧ (∃ ys, SqL K H1 b ys) ∧ R (Itz K a b) H1
structure YieldsZ (J : It) (H : Hp) (xs ys : List V) : Prop where
  go : ∀ i H', Same H H' → i < min xs.length ys.length → J.go i H'
  stop : ∀ H', Same H H' → J.stop (min xs.length ys.length) H'
  yld : ∀ (i : Nat) (H' : Hp) (x : V) (H'' : Hp), Same H H' → i < min xs.length ys.length → J.yld i H' x H'' → ∃ t v w, x = .ref t ∧ H' t = none ∧ H'' = upd H' t (.tup [v, w]) ∧ xs[i]? = some v ∧ ys[i]? = some w
section
variable {K : PySem.W.Frag} {σ : St} {G : Hp} {α β γ : Type} [Rp α] [Rp β] [Rp γ] {ta tb : TE}
def IZ (K : PySem.W.Frag) {α β : Type} [Rp α] [Rp β] (wi : TI) (σ : St) (G : Hp) (m : Option (List (α × β))) : Prop :=
  ∀ G1, Same G G1 → ∀ ps, m = some ps → ∀ H, Same G1 H → ∀ R : It → Hp → Prop, (∀ J vs ws as bs G2 H2, Ext G1 H G2 H2 → YieldsZ J G2 vs ws → vs.length ≤ sizeLine → Paired (Rp.rel K G2) vs as → Paired (Rp.rel K G2) ws bs → ps = as.zip bs → R J H2) → wi σ H R
end
end L2
namespace L2
open PySem PySem.Spec PyProof.Rows
def idxO (xs : List Str) (y : Str) : Option Int := if y ∈ xs ∧ xs.length ≤ 1000 then some ((xs.idxOf y : Nat) : Int) else none
def rIndexS (K : PySem.W.Frag) : V → List V → Hp → VK → Prop := fun x vs H Q => ∃ (l : Addr) (ys : List Str) (y : Str) (k : Int), x = .ref l ∧ vs = [.str y] ∧ SqL K H l (ys.map V.str) ∧ idxO ys y = some k ∧ Q (.int k) H
section
variable {K : PySem.W.Frag} {σ : St} {G H : Hp} {ta tb te : TE} {rest : TS} {D : Ends} {i : Nat} {v : V} {p : Addr} {vs : List V}
theorem paired_strsR {G : Hp} : ∀ {xs : List V} {ys : List Str}, Paired (Rp.rel K G) xs ys → xs = ys.map V.str
  | _, _, .nil => rfl
  | _, _, .cons h t => by
    obtain ⟨rfl, _⟩ := h
    rw [List.map_cons, paired_strsR t]
end
end L2

set_option Elab.async false
set_option linter.all false
set_option maxRecDepth 100000
set_option maxHeartbeats 4000000
namespace L2
open PySem PySem.Spec PyProof.Rows
def leS (a b : Str) : Bool := !decide (b.cps.toList < a.cps.toList)
theorem leS_iff {a b : Str} : leS a b = true ↔ a.cps.toList ≤ b.cps.toList := by
  unfold leS
  rw [Bool.not_eq_true', decide_eq_false_iff_not]
  exact List.not_lt
theorem leS_trans (a b c : Str) (h1 : leS a b = true) (h2 : leS b c = true) : leS a c = true := leS_iff.mpr (List.le_trans (leS_iff.mp h1) (leS_iff.mp h2))
theorem leS_total (a b : Str) : (leS a b || leS b a) = true := by
  rw [Bool.or_eq_true, leS_iff, leS_iff]
  exact List.le_total _ _
theorem leS_anti {a b : Str} (h1 : leS a b = true) (h2 : leS b a = true) : a = b := by
  have := List.le_antisymm (leS_iff.mp h1) (leS_iff.mp h2)
  cases a
  cases b
  congr 1
  exact Array.toList_inj.mp this
def sortS (ys : List Str) : List Str := ys.mergeSort leS
theorem sortS_perm (ys : List Str) : (sortS ys).Perm ys := List.mergeSort_perm ys leS
theorem rising_pw : ∀ (p : Str) (l : List Str), risingS p l = true → (p :: l).Pairwise fun a b => leS a b = true
  | p, [], _ => by simp
  | p, x :: r, h => by
    have h : (!ltCps x.cps.toList p.cps.toList && risingS x r) = true := h
    rw [Bool.and_eq_true, ltCps_eq] at h
    have h1 : leS p x = true := h.1
    have ih := rising_pw x r h.2
    refine List.pairwise_cons.mpr ⟨fun y hy => ?_, ih⟩
    rcases List.mem_cons.mp hy with rfl | hy
    · exact h1
    · exact leS_trans _ _ _ h1 (List.rel_of_pairwise_cons ih hy)
theorem sortS_of {ss ss' : List Str} (hp : ss'.Perm ss) (hs : sortedS ss' = true) : ss' = sortS ss := by
  have pw : ss'.Pairwise fun a b => leS a b = true := by
    cases ss' with
    | nil => exact .nil
    | cons x r => exact rising_pw x r hs
  exact List.Perm.eq_of_pairwise (fun a b _ _ h1 h2 => leS_anti h1 h2) pw (List.pairwise_mergeSort leS_trans leS_total ss) (hp.trans (sortS_perm ss).symm)
def sortO (ys : List Str) : Option (List Str) := if ys.length < 64 then some (sortS ys) else none
theorem vals_strs : ∀ {vs : List Value} {ss : List Str}, StrsAre vs ss → Vals (ss.map V.str) vs
  | _, _, .nil => .nil
  | _, _, .cons x t r => .cons ⟨t, rfl⟩ (vals_strs r)
def rSortS (K : PySem.W.Frag) : List V → Hp → VK → Prop := fun vs H Q => ∃ (l : Addr) (ys : List Str), vs = [.ref l] ∧ SqL K H l (ys.map V.str) ∧ ys.length < 64 ∧ ∀ p, H p = none → Q (.ref p) (upd H p (.lst ((sortS ys).map V.str)))
theorem paired_len {K : PySem.W.Frag} {G : Hp} : ∀ {xs : List V} {ys : List Str}, Paired (Rp.rel K G) xs ys → ∀ y ∈ ys, y.length ≤ sizeLine
  | _, _, .nil => fun y hy => by cases hy
  | _, _, .cons h t => fun y hy => by
    rcases List.mem_cons.mp hy with rfl | hy
    · exact h.2
    · exact paired_len t y hy
section
variable {K : PySem.W.Frag} {σ : St} {G : Hp} {ta : TE}
end
end L2

set_option Elab.async false
set_option linter.all false
set_option maxRecDepth 100000
set_option maxHeartbeats 4000000
namespace L2
open PySem PySem.Spec PyProof.Rows
def rCatTp (K : PySem.W.Frag) : R2 := fun x y H Q => ∃ a b xs ys, x = .ref a ∧ y = .ref b ∧ SqT K H a xs ∧ SqT K H b ys ∧ xs.length + ys.length ≤ sizeLine ∧ (xs = [] → Q (.ref b) H) ∧ (ys = [] → Q (.ref a) H) ∧ ∀ p, H p = none → Q (.ref p) (upd H p (.tup (xs ++ ys)))
def catTO {α : Type} (a b : Tp α) : Option (Tp α) := if a.l.length + b.l.length ≤ sizeLine then some ⟨a.l ++ b.l⟩ else none
section
variable {K : PySem.W.Frag} {σ : St} {G : Hp} {α : Type} [Rp α] {ta tb : TE}
end
end L2

set_option Elab.async false
set_option linter.all false
set_option maxRecDepth 100000
namespace L2
open PySem PySem.Spec PyProof.Rows
structure CompScopeC (X : Cx) (scope : Scope) (x : Str) : Prop where
  one : ∀ n cl, cellsFrom n scope.names cl = (x, n) :: cl
  push : ∀ h, pushCells h scope.names = h.push { cls := .type "cell", data := .cell none }
  cell : ∀ y ∈ scope.names, y.2 = .cell → y.1 = x
  kind : scope.kind = .function
  names : ∀ y ∈ scope.names, y.2 = .local → scope.names.lookup y.1 = some .local
  free : ∀ y ∈ scope.names, y.2 = .free → X.env.scope.names.lookup y.1 = some .cell ∨ X.env.scope.names.lookup y.1 = some .free
theorem CompScopeC.clos {X : Cx} {pins : List (Addr × Obj)} {σ : St} {scope : Scope} {x : Str} {H : Hp} {s : Shared} (S : CompScopeC X scope x) (I : Inv X pins σ H s) : closureFor scope X.env = pure (clOf scope X.env) :=
  closureFor_eq fun y hy hf => I.ok.has y.1 (S.free y hy hf)
def cxCompC (X : Cx) (N : List Str) (scope : Scope) (x : Str) (C : Addr) (s : Shared) (H : Hp) (fp : List Addr) : Cx where
  prog := X.prog
  w := X.w
  K := X.K
  mg := X.mg
  base := X.base
  A := X.A
  N := N
  s₀ := s
  H₀ := H
  env := compEnvC scope ((x, C + 1) :: clOf scope X.env) C X.env
  outer := X.stack
  stack := X.stack
  ex := fp
  fn := fun y => y == x
  calm := true
  pn := []
  xe := fun _ _ => False
section
variable {X : Cx} {pins : List (Addr × Obj)} {σ : St}
end
end L2

set_option Elab.async false
set_option linter.all false
set_option maxRecDepth 100000
set_option maxHeartbeats 4000000
namespace L2
open PySem PySem.Spec PyProof.Rows
def Ris (xs : Array Nat) : Prop := ∀ i j, i < j → (hj : j < xs.size) → xs.getD i 0 < xs.getD j 0
theorem below_go (xs : Array Nat) (j : Nat) (hr : Ris xs) : ∀ fuel lo hi, lo ≤ hi → hi ≤ xs.size → hi - lo ≤ fuel → (∀ i, i < lo → xs.getD i 0 < j) → (∀ i, hi ≤ i → i < xs.size → j ≤ xs.getD i 0) →
    (SetTable.below.go xs j fuel lo hi ≤ xs.size ∧ (∀ i, i < SetTable.below.go xs j fuel lo hi → xs.getD i 0 < j) ∧ ∀ i, SetTable.below.go xs j fuel lo hi ≤ i → i < xs.size → j ≤ xs.getD i 0) := by
  intro fuel
  induction fuel with
  | zero =>
    intro lo hi h1 h2 h3 h4 h5
    have e : lo = hi := by omega
    subst e
    exact ⟨h2, h4, h5⟩
  | succ fuel ih =>
    intro lo hi h1 h2 h3 h4 h5
    unfold SetTable.below.go
    by_cases hlt : lo < hi
    · rw [if_pos hlt]
      dsimp only
      have hm1 : lo ≤ (lo + hi) / 2 := by omega
      have hm2 : (lo + hi) / 2 < hi := by omega
      generalize (lo + hi) / 2 = mid at hm1 hm2 ⊢
      have hms : mid < xs.size := by omega
      have e1 : xs.getD mid j = xs.getD mid 0 := by simp [Array.getD, hms]
      rw [e1]
      have mono : ∀ a b, a ≤ b → b < xs.size → xs.getD a 0 ≤ xs.getD b 0 := fun a b hab hb => by
        rcases Nat.lt_or_eq_of_le hab with h | h
        · exact Nat.le_of_lt (hr a b h hb)
        · rw [h]; exact Nat.le_refl _
      by_cases hc : xs.getD mid 0 < j
      · rw [if_pos hc]
        refine ih (mid + 1) hi (by omega) h2 (by omega) (fun i hi' => ?_) h5
        exact Nat.lt_of_le_of_lt (mono i mid (by omega) hms) hc
      · rw [if_neg hc]
        refine ih lo mid hm1 (by omega) (by omega) h4 fun i hi' hs => ?_
        exact Nat.le_trans (Nat.le_of_not_lt hc) (mono mid i hi' hs)
    · rw [if_neg hlt]
      have e : lo = hi := by omega
      subst e
      exact ⟨h2, h4, h5⟩
theorem below_ok {xs : Array Nat} (hr : Ris xs) (j : Nat) : SetTable.below xs j ≤ xs.size ∧ (∀ i, i < SetTable.below xs j → xs.getD i 0 < j) ∧ ∀ i, SetTable.below xs j ≤ i → i < xs.size → j ≤ xs.getD i 0 :=
  below_go xs j hr xs.size 0 xs.size (Nat.zero_le _) (Nat.le_refl _) (Nat.le_refl _) (fun i h => absurd h (Nat.not_lt_zero _)) fun i h h' => absurd h' (Nat.not_lt.mpr h)
theorem below_eq {xs : Array Nat} (hr : Ris xs) {j p : Nat} (hp : p ≤ xs.size) (h1 : ∀ i, i < p → xs.getD i 0 < j) (h2 : ∀ i, p ≤ i → i < xs.size → j ≤ xs.getD i 0) : SetTable.below xs j = p := by
  obtain ⟨a, b, c⟩ := below_ok hr j
  rcases Nat.lt_trichotomy (SetTable.below xs j) p with h | h | h
  · have := c _ (Nat.le_refl _) (by omega)
    have := h1 _ h
    omega
  · exact h
  · have := b _ h
    have := h2 p (Nat.le_refl _) (by omega)
    omega
theorem below_zero {xs : Array Nat} (hr : Ris xs) : SetTable.below xs 0 = 0 := below_eq hr (Nat.zero_le _) (fun i h => absurd h (Nat.not_lt_zero _)) fun i _ _ => Nat.zero_le _
theorem below_next {xs : Array Nat} (hr : Ris xs) {i : Nat} (hi : i < xs.size) : SetTable.below xs (xs.getD i 0 + 1) = i + 1 :=
  below_eq hr hi (fun k hk => by
    rcases Nat.lt_or_eq_of_le (Nat.le_of_lt_succ hk) with h | h
    · have := hr k i h hi; omega
    · rw [h]; exact Nat.lt_succ_self _) fun k hk hs => hr i k hk hs
theorem ris_of_pw {xs : Array Nat} (h : xs.toList.Pairwise (· < ·)) : Ris xs := fun i j hij hj => by
  have := List.pairwise_iff_getElem.mp h i j (by simpa using Nat.lt_trans hij hj) (by simpa using hj) hij
  simpa [Array.getD, hj, Nat.lt_trans hij hj] using this
theorem pw_of_ris {xs : Array Nat} (h : Ris xs) : xs.toList.Pairwise (· < ·) := by
  rw [List.pairwise_iff_getElem]
  intro i j hi hj hij
  have hi' : i < xs.size := by simpa using hi
  have hj' : j < xs.size := by simpa using hj
  have := h i j hij hj'
  simpa [Array.getD, hj', hi'] using this
theorem ris_insert {xs : Array Nat} (hr : Ris xs) {j : Nat} (hn : xs[SetTable.below xs j]? ≠ some j) : Ris (SetTable.insertAt xs (SetTable.below xs j) j) := by
  apply ris_of_pw
  rw [SetTable.toList_insertAt]
  obtain ⟨a, b, c⟩ := below_ok hr j
  have pw := pw_of_ris hr
  generalize hp : SetTable.below xs j = p at a b c hn
  have hA : ∀ x ∈ xs.toList.take p, x < j := fun x hx => by
    obtain ⟨i, hi, rfl⟩ := List.mem_iff_getElem.mp hx
    rw [List.length_take] at hi
    have h1 : i < p := by omega
    have h2 : i < xs.size := by rw [Array.length_toList] at hi; omega
    have := b i h1
    rw [List.getElem_take]
    simpa [Array.getD, h2] using this
  have hB : ∀ x ∈ xs.toList.drop p, j < x := fun x hx => by
    obtain ⟨i, hi, rfl⟩ := List.mem_iff_getElem.mp hx
    rw [List.length_drop, Array.length_toList] at hi
    have h2 : p + i < xs.size := by omega
    have hp2 : p < xs.size := by omega
    have h3 := c (p + i) (Nat.le_add_right _ _) h2
    rw [List.getElem_drop]
    have h4 : xs.getD (p + i) 0 ≠ j := fun e => by
      have h5 := c p (Nat.le_refl _) hp2
      have h6 : xs.getD p 0 ≤ xs.getD (p + i) 0 := by
        cases i with
        | zero => exact Nat.le_refl _
        | succ i => exact Nat.le_of_lt (hr p (p + (i + 1)) (by omega) h2)
      have h7 : xs.getD p 0 = j := by omega
      apply hn
      simp only [Array.getD, hp2, dite_true] at h7
      rw [Array.getElem?_eq_getElem hp2]
      exact congrArg some h7
    simp only [Array.getD, h2, dite_true] at h3 h4
    have e : xs.toList[p + i]'(by simpa using h2) = xs[p + i] := by simp
    rw [e]
    have h3' : j ≤ xs[p + i] := by simpa using h3
    have h4' : xs[p + i] ≠ j := by simpa using h4
    omega
  rw [List.pairwise_append]
  refine ⟨pw.take, List.pairwise_cons.mpr ⟨hB, pw.drop⟩, fun x hx y hy => ?_⟩
  have h1 := hA x hx
  rcases List.mem_cons.mp hy with rfl | hy
  · exact h1
  · exact Nat.lt_trans h1 (hB y hy)
structure RT (t : SetTable) : Prop where
  ris : Ris t.place
  dum : t.dummies = #[]
theorem has_empty (j : Nat) : SetTable.has #[] j = false := by
  unfold SetTable.has
  simp
theorem probe_go {t : SetTable} (hd : t.dummies = #[]) (f : Nat → Int) (h : Int) : ∀ fuel p j d, p.dummy = none → SetTable.probe.go t f h fuel p = some (.empty j d) → d = none ∧ t.place[SetTable.below t.place j]? ≠ some j := by
  intro fuel
  induction fuel with
  | zero => intro p j d _ e; cases e
  | succ fuel ih =>
    intro p j d hp e
    unfold SetTable.probe.go at e
    have hadv : (t.advance p).dummy = none := by
      unfold SetTable.advance
      split
      · exact hp
      · exact hp
    cases hs : t.slot p.j with
    | empty =>
      rw [hs] at e
      dsimp only at e
      cases e
      refine ⟨hp, fun hc => ?_⟩
      unfold SetTable.slot at hs
      dsimp only at hs
      rw [hc] at hs
      simp at hs
    | dummy =>
      unfold SetTable.slot at hs
      dsimp only at hs
      rw [hd, has_empty] at hs
      split at hs <;> simp at hs
    | live i =>
      rw [hs] at e
      dsimp only at e
      split at e
      · cases e
      · exact ih _ _ _ hadv e
theorem freeSlot_ok {t : SetTable} (hd : t.dummies = #[]) {h : Int} {j : Nat} {b : Bool} (e : t.freeSlot h = some (j, b)) : b = false ∧ t.place[SetTable.below t.place j]? ≠ some j := by
  unfold SetTable.freeSlot at e
  cases hp : t.probe (fun _ => h + 1) h (t.probeStart h) with
  | none => rw [hp] at e; cases e
  | some m =>
    rw [hp] at e
    cases m with
    | candidate _ _ _ => cases e
    | empty j' d =>
      obtain ⟨rfl, h2⟩ := probe_go hd _ _ _ _ _ _ rfl hp
      simp only [Option.getD_none, Option.isSome_none, Option.some.injEq, Prod.mk.injEq] at e
      obtain ⟨rfl, rfl⟩ := e
      exact ⟨rfl, h2⟩
theorem standIn_rt (t : SetTable) (n : Nat) : RT (t.standIn n) := ⟨ris_of_pw (by show (Array.range n).toList.Pairwise _; rw [Array.toList_range]; exact List.pairwise_lt_range), rfl⟩
theorem orStandIn_rt {t : SetTable} (h : RT t) (n : Nat) : RT (t.orStandIn n) := by
  unfold SetTable.orStandIn
  split
  · exact h
  · exact standIn_rt t n
theorem orStandIn_led (t : SetTable) (n : Nat) : (t.orStandIn n).led = t.led := by
  unfold SetTable.orStandIn
  split <;> rfl
theorem layNew_rt {t : SetTable} (ht : RT t) (es : Array (Int × Value)) (h : Int) (x : Value) : RT (layNew t es h x).2.1 ∧ (layNew t es h x).2.1.led = t.led := by
  unfold layNew
  split
  · rename_i slot wd e
    obtain ⟨_, h2⟩ := freeSlot_ok ht.dum e
    refine ⟨orStandIn_rt ⟨?_, ?_⟩ _, orStandIn_led _ _⟩
    · exact ris_insert ht.ris h2
    · show (if SetTable.has t.dummies slot then _ else t.dummies) = #[]
      rw [ht.dum, has_empty]
      rfl
  · exact ⟨standIn_rt _ _, rfl⟩
theorem filterMap_pw {β : Type} (f : Nat → Option β) : ∀ l : List Nat, l.Pairwise (· < ·) → ((l.filterMap fun j => (f j).map (j, ·)).map (·.1)).Pairwise (· < ·)
  | [], _ => .nil
  | a :: l, h => by
    have ih := filterMap_pw f l h.tail
    cases hf : f a with
    | none => rw [List.filterMap_cons_none (by rw [hf]; rfl)]; exact ih
    | some b =>
      rw [List.filterMap_cons_some (b := (a, b)) (by rw [hf]; rfl), List.map_cons]
      refine List.pairwise_cons.mpr ⟨fun y hy => ?_, ih⟩
      obtain ⟨⟨j, c⟩, hq, rfl⟩ := List.mem_map.mp hy
      obtain ⟨j', hj', e⟩ := List.mem_filterMap.mp hq
      cases hf' : f j' with
      | none => rw [hf'] at e; cases e
      | some c' =>
        rw [hf'] at e
        cases e
        exact List.rel_of_pairwise_cons h hj'
theorem laid_rt {mask finger moves : Nat} {led plain : Bool} {hs : Array Int} {t : SetTable} {o : Array Nat} (e : SetTable.laid mask finger moves led plain hs = some (t, o)) : RT t ∧ t.led = led ∧ t.plain = plain ∧ t.mask = mask := by
  unfold SetTable.laid at e
  cases hl : SetTable.layClean mask hs with
  | none => rw [hl] at e; cases e
  | some ow =>
    rw [hl] at e
    simp only [Option.pure_def, Option.bind_eq_bind, Option.bind_some, Option.some.injEq, Prod.mk.injEq] at e
    obtain ⟨rfl, rfl⟩ := e
    refine ⟨⟨ris_of_pw ?_, rfl⟩, rfl, rfl, rfl⟩
    exact filterMap_pw (fun j => ow.getD j none) _ List.pairwise_lt_range
theorem relayAll_rt (t : SetTable) (ht : RT t) (es : Array (Int × Value)) (wanted : Nat) : RT (relayAll t es wanted).2.1 ∧ (relayAll t es wanted).2.1.led = t.led := by
  unfold relayAll
  split
  · rename_i t' order e
    dsimp only
    split
    · unfold SetTable.relaid at e
      obtain ⟨a, b, _⟩ := laid_rt e
      exact ⟨a, b⟩
    · exact ⟨standIn_rt _ _, rfl⟩
  · exact ⟨standIn_rt _ _, rfl⟩
theorem erase_perm {α : Type} {l : List α} {i : Nat} (h : i < l.length) : (l[i] :: l.eraseIdx i).Perm l := by
  rw [List.eraseIdx_eq_take_drop_succ]
  have e : l = l.take i ++ l[i] :: l.drop (i + 1) := by rw [List.getElem_cons_drop, List.take_append_drop]
  exact List.perm_middle.symm.trans (List.Perm.of_eq e.symm)
theorem pick_go {α : Type} (next : Nat → Nat) : ∀ fuel k (left : List α) (out : Array α), left.length = fuel → (pickOrder.go next fuel k left out).toList.Perm (out.toList ++ left) := by
  intro fuel
  induction fuel with
  | zero =>
    intro k left out h
    have : left = [] := List.eq_nil_of_length_eq_zero h
    subst this
    unfold pickOrder.go
    rw [List.append_nil]
  | succ fuel ih =>
    intro k left out h
    unfold pickOrder.go
    have hlt : next k % left.length < left.length := Nat.mod_lt _ (by omega)
    rw [List.getElem?_eq_getElem hlt]
    dsimp only
    refine (ih (k + 1) _ _ (by rw [List.length_eraseIdx_of_lt hlt]; omega)).trans ?_
    rw [Array.toList_push, List.append_assoc]
    refine List.Perm.append_left _ ?_
    exact erase_perm hlt
theorem pick_perm {α : Type} (next : Nat → Nat) (xs : Array α) : (pickOrder next xs).toList.Perm xs.toList := by
  unfold pickOrder
  exact (pick_go next xs.size 0 xs.toList #[] (by simp)).trans (by simp)
end L2

set_option Elab.async false
set_option linter.all false
set_option maxRecDepth 100000
set_option maxHeartbeats 4000000
namespace L2
open PySem PySem.Spec PyProof.Rows
def byT (w : World) : Bool := w.params.followText "set-order"
/-- an entry and its key -/
def Ent (w : World) (e : Int × Value) (k : Key) : Prop := keyIs k e.2 = true ∧ e.1 = keyH w k
theorem key_scan {k : Key} {v : Value} (h : keyIs k v = true) : v.scannable = true := by
  rcases keyIs_shape h with ⟨i, t, rfl, rfl⟩ | ⟨x, t, rfl, rfl⟩ <;> rfl
structure SObj (w : World) (o : Obj) (es : Array (Int × Value)) (ep : Nat) (t : SetTable) (ks : List Key) : Prop where
  exact' : o.ExactSet
  data : o.data = .set es ep t
  ent : Paired (Ent w) es.toList ks
  few : ks.length < scanBound
  fit : t.fits es.size = true
  rt : RT t
  led : t.led = !byT w
def SetIs (w : World) (h : Heap) (a : Addr) (ks : List Key) : Prop := ∃ o es ep t, h.get? a = some o ∧ SObj w o es ep t ks
theorem paired_len2 {α β : Type} {F : α → β → Prop} : ∀ {l₁ : List α} {l₂ : List β}, Paired F l₁ l₂ → l₁.length = l₂.length
  | _, _, .nil => rfl
  | _, _, .cons _ t => congrArg (· + 1) (paired_len2 t)
theorem SObj.size {w : World} {o es ep t ks} (S : SObj w o es ep t ks) : es.size = ks.length := by
  have := paired_len2 S.ent
  rwa [Array.length_toList] at this
theorem SObj.elems {prog : Program} {w : World} {o es ep t ks} (S : SObj w o es ep t ks) : ElemsOf (mixKind prog w) es.toList := by
  have : ∀ {l : List (Int × Value)} {ks : List Key}, Paired (Ent w) l ks → ElemsOf (mixKind prog w) l := by
    intro l ks p
    induction p with
    | nil => intro e he; cases he
    | cons hd _ ih =>
      intro e he
      rcases List.mem_cons.mp he with rfl | he
      · exact ⟨⟨_, hd.1, hd.2⟩, key_scan hd.1⟩
      · exact ih e he
  exact this S.ent
theorem paired_perm {α β : Type} {F : α → β → Prop} {l l' : List α} (hp : l'.Perm l) : ∀ {m : List β}, Paired F l m → ∃ m', m'.Perm m ∧ Paired F l' m' := by
  have := hp.symm
  clear hp
  induction this with
  | nil => intro m p; exact ⟨m, .rfl, p⟩
  | cons x _ ih =>
    intro m p
    cases p with
    | cons h t =>
      obtain ⟨m', e, q⟩ := ih t
      exact ⟨_, e.cons _, .cons h q⟩
  | swap x y l =>
    intro m p
    cases p with
    | cons h t => cases t with
      | cons h2 t2 => exact ⟨_, List.Perm.swap _ _ _, .cons h2 (.cons h t2)⟩
  | trans _ _ ih1 ih2 =>
    intro m p
    obtain ⟨m1, e1, q1⟩ := ih1 p
    obtain ⟨m2, e2, q2⟩ := ih2 q1
    exact ⟨m2, e2.trans e1, q2⟩
theorem ent_find {w : World} {k : Key} : ∀ {l : List (Int × Value)} {ks : List Key}, Paired (Ent w) l ks → ((∃ e ∈ l, keyIs k e.2 = true) ↔ k ∈ ks)
  | _, _, .nil => by simp
  | _, _, .cons (a := e) (b := k') h t => by
    have ih := ent_find (k := k) t
    have hk : keyIs k e.2 = true ↔ k = k' := ⟨fun q => (mixKind default w).inj _ _ _ q h.1, fun q => q ▸ h.1⟩
    constructor
    · rintro ⟨x, hx, q⟩
      rcases List.mem_cons.mp hx with rfl | hx
      · exact List.mem_cons.mpr (.inl (hk.mp q))
      · exact List.mem_cons.mpr (.inr (ih.mp ⟨x, hx, q⟩))
    · intro hm
      rcases List.mem_cons.mp hm with rfl | hm
      · exact ⟨e, List.mem_cons_self, h.1⟩
      · obtain ⟨x, hx, q⟩ := ih.mpr hm
        exact ⟨x, List.mem_cons_of_mem _ hx, q⟩
def addK (ks : List Key) (k : Key) : List Key := if ks.any (fun y => decide (y = k)) then ks else ks ++ [k]
theorem any_mem {ks : List Key} {k : Key} : ks.any (fun y => decide (y = k)) = true ↔ k ∈ ks := by
  rw [List.any_eq_true]
  exact ⟨fun ⟨y, hy, e⟩ => (of_decide_eq_true e) ▸ hy, fun h => ⟨k, h, decide_eq_true rfl⟩⟩
theorem addK_in {ks : List Key} {k : Key} (h : k ∈ ks) : addK ks k = ks := by unfold addK; rw [if_pos (any_mem.mpr h)]
theorem addK_out {ks : List Key} {k : Key} (h : k ∉ ks) : addK ks k = ks ++ [k] := by unfold addK; rw [if_neg (fun q => h (any_mem.mp q))]
theorem rt_plain_off {t : SetTable} (h : RT t) : RT { t with plain := false } := ⟨h.ris, h.dum⟩
section
variable {prog : Program} {w : World} {A : Around} {E : Value → Shared → Prop} {s : Shared}
theorem wp_byText {Q : Bool → Shared → Prop} (h : Q (byT w) s) : wpAny (model prog w) A setsByText Q E s := by
  unfold setsByText
  exact wpAny_bind (wpAny_askSetting (wpAny_pure h))
theorem wp_choose {src : Source} {n : Nat} {Q : Nat → Shared → Prop} (hn : n ≠ 0) (h : ∀ i d, i < n → Q i { s with drawn := d }) : wpAny (model prog w) A (choose src n) Q E s :=
  fun Γ p hΓ => ⟨hn, h _ _ (Nat.mod_lt _ (Nat.pos_of_ne_zero hn))⟩
theorem store_set {a : Addr} {o : Obj} {es : Array (Int × Value)} {ep : Nat} {t : SetTable} {es' : Array (Int × Value)} {t' : SetTable} (ho : s.heap.get? a = some o) (hd : o.data = .set es ep t) :
    (s.heap.update a (Obj.putSet es' t')).get? a = some { o with data := .set es' (ep + 1) t' } := by
  have := Heap.get?_update_self (Obj.putSet es' t') ho (by rw [putSet_of es' t' hd]; rfl)
  rwa [putSet_of es' t' hd] at this
theorem few_line {n : Nat} (h : n < scanBound) : n ≤ sizeLine := fits_of_scanBound h
theorem add_tail {g : Bool → Sem Unit} (hg : ∀ (b : Bool) (s₁ : Shared) (Q' : Unit → Shared → Prop), Q' () s₁ → wpAny (model prog w) A (g b) Q' E s₁)
    {a : Addr} {o : Obj} {es : Array (Int × Value)} {ep : Nat} {t : SetTable} (gA : s.heap.get? a = some o) (xA : o.ExactSet) (dA : o.data = .set es ep t)
    {es1 : Array (Int × Value)} {t2 : SetTable} {ks : List Key} (p1 : Paired (Ent w) es1.toList ks) (f1 : ks.length < scanBound) (ft : t2.fits es1.size = true) (r2 : RT t2) (l2 : t2.led = !byT w) {wd : Bool} {R : Option Bool → Shared → Prop}
    (h : ∀ h' ks', Heap.SameBut a s.heap h' → SetIs w h' a ks' → ks'.Perm ks → R (some true) { s with heap := h' }) :
    wpAny (model prog w) A (do
        storeSet a es1 t2
        if (!wd && t2.tooFull) = true then do
            g (relayAll t2 es1 (SetTable.grown es1.size)).2.2; storeSet a (relayAll t2 es1 (SetTable.grown es1.size)).1 (relayAll t2 es1 (SetTable.grown es1.size)).2.1
            pure (some true)
          else pure (some true)) R E s := by
  have z1 : es1.size = ks.length := by have := paired_len2 p1; rwa [Array.length_toList] at this
  refine wpAny_bind (wpAny_storeSet_of gA dA ?_ (few_line (by rw [z1]; exact f1)))
  have g1 := store_set (es' := es1) (t' := t2) gA dA
  have b1 := Heap.SameBut.update s.heap a (Obj.putSet es1 t2)
  split
  · have hp := relayAll_perm t2 es1 (SetTable.grown es1.size)
    have hfr := relayAll_fits t2 es1 (SetTable.grown es1.size)
    obtain ⟨hrt, hld⟩ := relayAll_rt t2 r2 es1 (SetTable.grown es1.size)
    generalize relayAll t2 es1 (SetTable.grown es1.size) = Rl at hp hfr hrt hld ⊢
    obtain ⟨es2, t3, gave2⟩ := Rl
    dsimp only at hp hfr hrt hld ⊢
    obtain ⟨ks', e', p2⟩ := paired_perm hp p1
    have f2 : ks'.length < scanBound := by rw [e'.length_eq]; exact f1
    have z2 : es2.size = ks'.length := by have := paired_len2 p2; rwa [Array.length_toList] at this
    refine wpAny_bind (hg _ _ _ (wpAny_bind (wpAny_storeSet_of (o := { o with data := .set es1 (ep + 1) t2 }) g1 rfl ?_ (few_line (by rw [z2]; exact f2)))))
    have g2 := store_set (s := { s with heap := s.heap.update a (Obj.putSet es1 t2) }) (es' := es2) (t' := t3) g1 rfl
    exact wpAny_pure (h _ ks' (b1.trans (Heap.SameBut.update _ a _)) ⟨_, es2, _, t3, g2, ⟨xA, rfl, p2, f2, hfr, hrt, hld.trans l2⟩⟩ e')
  · exact wpAny_pure (h _ ks b1 ⟨_, es1, _, t2, g1, ⟨xA, rfl, p1, f1, ft, r2, l2⟩⟩ .rfl)
theorem add_ok {a : Addr} {ks : List Key} {k : Key} {x : Value} {Q : Bool → Shared → Prop} (hk : keyIs k x = true) (hS : SetIs w s.heap a ks) (hroom : ks.length + 1 < scanBound)
    (h : ∀ h' ks', Heap.SameBut a s.heap h' → SetIs w h' a ks' → ks'.Perm (addK ks k) → ∀ b, Q b { s with heap := h' }) :
    wpAny (model prog w) A (setAddHashed a x (keyH w k)) Q E s := by
  obtain ⟨o, es, ep, t, gA, S⟩ := hS
  have hel := S.elems (prog := prog)
  have hsz := S.size
  have hsc := key_scan hk
  unfold setAddHashed setAddHashedIn
  refine wpAny_holding (wpAny_bind (wpAny_setState_of gA S.data S.fit ?_)); dsimp only
  rw [byScan_of hsc (by rw [hsz]; exact S.few) hel]; simp only [↓reduceIte]
  unfold setAddByScan
  refine wpAny_bind (wpAny_bind (wpAny_rule (wpAny_bind (wpAny_setScan_of (knd := mixKind prog w) (k := k) hk gA S.data S.fit hel ?_))))
  have hf := ent_find (k := k) S.ent
  cases hr : List.findIdx? (fun e => (mixKind prog w).is k e.2) es.toList with
  | some j =>
    dsimp only
    obtain ⟨hj, hpj, _⟩ := List.findIdx?_eq_some_iff_getElem.mp hr
    have hm : k ∈ ks := hf.mp ⟨es.toList[j], List.getElem_mem hj, hpj⟩
    refine wpAny_pure (wpAny_pure ?_)
    have e : s = { s with heap := s.heap } := by cases s; rfl
    have q := h s.heap ks (Heap.SameBut.refl a s.heap) ⟨o, es, ep, t, gA, S⟩ (by rw [addK_in hm]) false
    rw [← e] at q
    exact q
  | none =>
    dsimp only
    have hm : k ∉ ks := fun hm => by
      obtain ⟨e, he, q⟩ := hf.mpr hm
      have := List.findIdx?_eq_none_iff.mp hr e he
      have q' : (mixKind prog w).is k e.2 = true := q
      rw [q'] at this
      exact Bool.noConfusion this
    have hgw : ∀ (b : Bool) {s₁ : Shared} {Q' : Unit → Shared → Prop}, Q' () s₁ → wpAny (model prog w) A (match b with | true => rule "set.scan.the-table-gave-way" | false => pure ()) Q' E s₁ := by
      intro b s₁ Q' hq
      cases b
      · exact wpAny_pure hq
      · exact wpAny_rule hq
    have hperm := layNew_perm t es (keyH w k) x
    have hfits := layNew_fits t es (keyH w k) x
    obtain ⟨hrt, hld⟩ := layNew_rt S.rt es (keyH w k) x
    generalize hL : layNew t es (keyH w k) x = L at hperm hfits hrt hld
    obtain ⟨es1, t1, wd, gave⟩ := L
    dsimp only at hperm hfits hrt hld ⊢
    rw [Array.toList_push] at hperm
    obtain ⟨ks1, e1, p1⟩ := paired_perm hperm (S.ent.snoc (b := k) (show Ent w (keyH w k, x) k from ⟨hk, rfl⟩))
    have f1 : ks1.length < scanBound := by rw [e1.length_eq, List.length_append]; exact hroom
    have fin : ∀ (h' : Heap) (ks' : List Key), Heap.SameBut a s.heap h' → SetIs w h' a ks' → ks'.Perm ks1 → Q true { s with heap := h' } := fun h' ks' b1 b2 b3 => h h' ks' b1 b2 (by rw [addK_out hm]; exact b3.trans e1) true
    refine wpAny_bind (hgw _ ?_)
    split
    · refine wpAny_bind ?_; rw [hashByValue_scannable 8 hsc]
      refine wpAny_pure (add_tail (fun b s₁ Q' hq => by cases b <;> first | exact wpAny_pure hq | exact wpAny_rule hq) gA S.exact' S.data p1 f1 ?_ ?_ ?_ fun h' ks' b1 b2 b3 => ?_)
      · split
        · exact hfits
        · exact SetTable.fits_plain_off hfits
      · split
        · exact hrt
        · exact rt_plain_off hrt
      · split
        · exact hld.trans S.led
        · exact hld.trans S.led
      · exact wpAny_pure (fin h' ks' b1 b2 b3)
    · refine wpAny_bind (wpAny_pure ?_); simp only [↓reduceIte]
      refine add_tail (fun b s₁ Q' hq => by cases b <;> first | exact wpAny_pure hq | exact wpAny_rule hq) gA S.exact' S.data p1 f1 hfits hrt (hld.trans S.led) fun h' ks' b1 b2 b3 => ?_
      exact wpAny_pure (fin h' ks' b1 b2 b3)
end
end L2

set_option Elab.async false
set_option linter.all false
set_option maxRecDepth 100000
set_option maxHeartbeats 4000000
namespace L2
open PySem PySem.Spec PyProof.Rows
def dedK (ks : List Key) : List Key := ks.foldl addK []
theorem addK_perm {a b : List Key} (h : a.Perm b) (k : Key) : (addK a k).Perm (addK b k) := by
  by_cases hk : k ∈ b
  · rw [addK_in hk, addK_in (h.mem_iff.mpr hk)]; exact h
  · rw [addK_out hk, addK_out (fun q => hk (h.mem_iff.mp q))]; exact h.append_right _
theorem addK_len (a : List Key) (k : Key) : (addK a k).length ≤ a.length + 1 := by
  unfold addK
  split
  · exact Nat.le_succ _
  · rw [List.length_append]; exact Nat.le_refl _
theorem foldK_len (ks : List Key) : ∀ a : List Key, (ks.foldl addK a).length ≤ a.length + ks.length := by
  induction ks with
  | nil => intro a; exact Nat.le_refl _
  | cons k ks ih =>
    intro a
    have h1 := ih (addK a k)
    have h2 := addK_len a k
    rw [List.foldl_cons, List.length_cons]
    omega
theorem dedK_len (ks : List Key) : (dedK ks).length ≤ ks.length := by
  have := foldK_len ks []
  rw [List.length_nil] at this
  unfold dedK
  omega
theorem dedK_snoc (ks : List Key) (k : Key) : dedK (ks ++ [k]) = addK (dedK ks) k := by
  unfold dedK
  rw [List.foldl_append]
  rfl
def SetP (w : World) (h : Heap) (a : Addr) (ks : List Key) : Prop := ∃ ks', SetIs w h a ks' ∧ ks'.Perm ks
theorem SetIs.at {w : World} {h h' : Heap} {a : Addr} {ks : List Key} (x : SetIs w h a ks) (k : ∀ o, h.get? a = some o → h'.get? a = some o) : SetIs w h' a ks := by
  obtain ⟨o, es, ep, t, g, S⟩ := x
  exact ⟨o, es, ep, t, k _ g, S⟩
theorem SetP.at {w : World} {h h' : Heap} {a : Addr} {ks : List Key} (x : SetP w h a ks) (k : ∀ o, h.get? a = some o → h'.get? a = some o) : SetP w h' a ks := by
  obtain ⟨ks', g, e⟩ := x
  exact ⟨ks', g.at k, e⟩
theorem SetP.lt {w : World} {h : Heap} {a : Addr} {ks : List Key} (x : SetP w h a ks) : a < h.objs.size := by
  obtain ⟨_, ⟨_, _, _, _, g, _⟩, _⟩ := x
  exact Heap.lt_size g
theorem SetP.type {w : World} {s : Shared} {a : Addr} {ks : List Key} (x : SetP w s.heap a ks) : s.TypeIs (.ref a) "set" := by
  obtain ⟨_, ⟨o, _, _, _, g, S⟩, _⟩ := x
  exact ⟨o, g, S.exact'.1⟩
def freshSet (w : World) : Obj := { cls := .type "set", dict := none, data := .set #[] 0 (.fresh 0 0 (!byT w)) }
theorem fresh_is {w : World} {h : Heap} {a : Addr} (g : h.get? a = some (freshSet w)) : SetIs w h a [] :=
  ⟨_, #[], 0, _, g, ⟨⟨rfl, rfl, rfl⟩, rfl, .nil, by decide, rfl, ⟨fun i j _ hj => absurd hj (Nat.not_lt_zero _), rfl⟩, rfl⟩⟩
section
variable {prog : Program} {w : World} {A : Around} {R : Result → Shared → Prop} {I : Addr} {fp wr : List Addr} {G : Array GenState → Array GenState → Prop} {n : Nat} {P : Nat → Value → Prop} {St : Nat → Shared → Prop}
theorem upd_loop (W : WalksS prog w A.in1 I fp wr G n P St) (S : Addr) (nS : S ∉ fp) (val : List Key) (hn : val.length = n) (hv : ∀ i v, P i v → ∃ k, val[i]? = some k ∧ keyIs k v = true) (hb : n + 1 < scanBound) :
    ∀ (k i : Nat) (s : Shared), n - i = k → i ≤ n → St i s → SetP w s.heap S (dedK (val.take i)) →
      (∀ s', Moved (S :: wr) G s s' → SetP w s'.heap S (dedK val) → R (.ok (.ret .none)) s') →
      codeAny (model prog w) A (.builtin "set.update.loop" ⟨[.ref S, .ref I], []⟩) R s := by
  have nW : S ∉ wr := fun h => nS (W.sub _ h)
  have up : ∀ b ∈ wr, b ∈ S :: wr := fun b hb => List.mem_cons_of_mem _ hb
  intro k
  induction k with
  | zero =>
    intro i s e1 e2 st hS hR
    have ei : i = n := by omega
    subst ei
    refine codeAny_builtin PyProof.Rows.F.entry_set_update_loop ?_; rw [Around.under_plainId PyProof.Rows.F.plain_set_update_loop _]
    show wpAny _ A.in1 (pyNext (.ref I) >>= _) _ _ s; refine wpAny_bind (W.done s _ _ st fun s' hm => ?_)
    show wpAny _ A.in1 (ret Value.none) _ _ s'; refine wpAny_pure (hR s' (hm.mono up) ?_)
    rw [List.take_of_length_le (Nat.le_of_eq hn)] at hS
    exact hS.at fun o e => hm.heap S _ nW e
  | succ k ih =>
    intro i s e1 e2 st hS hR
    have hlt : i < n := by omega
    refine codeAny_builtin PyProof.Rows.F.entry_set_update_loop ?_; rw [Around.under_plainId PyProof.Rows.F.plain_set_update_loop _]
    show wpAny _ A.in1 (pyNext (.ref I) >>= _) _ _ s; refine wpAny_bind (W.item i s _ _ hlt st fun v s' hP st' hm => ?_)
    obtain ⟨kk, hkk, hi⟩ := hv i v hP
    obtain ⟨ks', hS', ep⟩ : SetP w s'.heap S (dedK (val.take i)) := hS.at fun o e => hm.heap S _ nW e
    show wpAny _ A.in1 (holding [v] (setAdd S v) >>= _) _ _ s'
    refine wpAny_bind (wpAny_holding ?_)
    unfold setAdd
    refine wpAny_holding (wpAny_bind ((mixKind prog w).pyHash (k := kk) hi ?_))
    have hl : ks'.length ≤ i := by
      rw [ep.length_eq]
      exact Nat.le_trans (dedK_len _) (by rw [List.length_take]; exact Nat.min_le_left _ _)
    refine add_ok (s := { s' with toks := s'.toks + 1 }) hi hS' (by omega) fun h' ks2 hsb hS2 e2' b => ?_
    have hnext : SetP w h' S (dedK (val.take (i + 1))) := by
      refine ⟨ks2, hS2, ?_⟩
      rw [List.take_add_one, hkk]
      show ks2.Perm (dedK (val.take i ++ [kk]))
      rw [dedK_snoc]
      exact e2'.trans (addK_perm ep kk)
    refine wpAny_pure ⟨plainId_quiet PyProof.Rows.F.plain_set_update_loop _, ih (i + 1) _ (by omega) hlt (W.frame _ s' _ _ st' (Nat.le_succ _) fun b hb o e => ?_) hnext fun s'' hm'' hS'' => ?_⟩
    · exact (hsb.2 b (fun h : b = S => nS (by rw [← h]; exact hb))).trans e
    · refine hR s'' (Moved.trans W.gtrans ((hm.mono up).then_heap (Nat.le_succ _) fun b o hb e => ?_) hm'') hS''
      exact (hsb.2 b (fun h : b = S => hb (by rw [h]; exact List.mem_cons_self))).trans e
end
/-- a thing that can be walked, by what its iterator does -/
def Src (prog : Program) (w : World) (x : Value) (h0 : Heap) (n : Nat) (P : Nat → Value → Prop) : Prop :=
  ∀ s₁ : Shared, (∀ b o, h0.get? b = some o → s₁.heap.get? b = some o) → ∃ (oI : Obj) (fp : List Addr) (St : Nat → Heap → Prop), oI.isFreed = false ∧ (∀ b ∈ fp, b = s₁.heap.objs.size ∨ b < h0.objs.size) ∧ St 0 (s₁.heap.push oI) ∧
    (∀ (A' : Around) (Q : Value → Shared → Prop) (E : Value → Shared → Prop), A'.handled = none → Q (.ref s₁.heap.objs.size) { s₁ with heap := s₁.heap.push oI } → wpAny (model prog w) A' (pyIter x) Q E s₁) ∧
    ∀ A' : Around, A'.handled = none → Walks prog w A' s₁.heap.objs.size fp [s₁.heap.objs.size] n P St
section
variable {prog : Program} {w : World} {A : Around} {E : Value → Shared → Prop} {s : Shared}
theorem src_list {l : Addr} {items : Array Value} (hl : s.heap.IsList l items) : Src prog w (.ref l) s.heap items.size (fun i v => items[i]? = some v) := fun s₁ hk => by
  have hl1 : s₁.heap.IsList l items := hl.at fun o e => hk _ _ e
  obtain ⟨o0, ho0, _⟩ := hl
  have ne : l ≠ s₁.heap.objs.size := Nat.ne_of_lt (Heap.lt_size (hk _ _ ho0))
  refine ⟨{ cls := .type "list_iterator", data := .fields #[.ref l, .int 0 0] }, [s₁.heap.objs.size, l], _, rfl, fun b hb => ?_, ?_, fun A' Q E' hh q => wpAny_pyIter_list hl1 q, fun A' hh => Walks.list hh _ l ne items⟩
  · rcases List.mem_cons.mp hb with e | e
    · exact .inl e
    · rw [List.mem_singleton.mp e]; exact .inr (Heap.lt_size ho0)
  · exact ⟨⟨_, Heap.get?_push_size _ rfl, rfl, rfl⟩, hl1.push _⟩
theorem code_new_set (a : Value) {Q₁ : Value → Shared → Prop} (h : Q₁ (.ref s.heap.objs.size) { s with heap := s.heap.push (freshSet w) }) :
    codeAny (model prog w) A (.call (.builtin "set.__new__") ⟨[.type "set", a], []⟩) (wants Q₁ E) s := by
  refine codeAny_of_tree ?_
  show wpAny _ A.in1 (checkBuiltinCall "set.__new__" ⟨[.type "set", a], []⟩ >>= fun _ => again (.builtin "set.__new__" ⟨[.type "set", a], []⟩)) _ _ s
  refine wpAny_bind (wpAny_of_eq (PySem.F.newCall_set_1 a) (wpAny_pure ⟨plainId_quiet F.plain_set_new _, codeAny_builtin F.entry_set_new ?_⟩)); rw [Around.under_plainId F.plain_set_new _]
  unfold Builtin.«set.__new__» Builtin.Frozenset.newClass
  have hsub := sub_set_self
  obtain ⟨hp, g, d, tk, os⟩ := s
  dsimp only
  wp_walk
  refine wpAny_askSetting (wpAny_pure ?_); dsimp only
  simp only [newObj]
  exact wpAny_bind (wpAny_alloc (wpAny_pure (wpAny_pure h)))
end
end L2

set_option Elab.async false
set_option linter.all false
set_option maxRecDepth 100000
set_option maxHeartbeats 4000000
namespace L2
open PySem PySem.Spec PyProof.Rows
section
variable {prog : Program} {w : World} {A : Around} {E : Value → Shared → Prop} {s : Shared}
theorem call_set_src {x : Value} {T : String} {n : Nat} {P : Nat → Value → Prop} {val : List Key} {Q : Value → Shared → Prop} (hh : A.handled = none) (hx : Src prog w x s.heap n P)
    (tx : ∀ s₁ : Shared, (∀ b o, s.heap.get? b = some o → s₁.heap.get? b = some o) → s₁.TypeIs x T) (n1 : isSubtype (.type T) (.type "set") = pure false) (n2 : isSubtype (.type T) (.type "frozenset") = pure false) (n3 : (Value.type T == Value.type "dict") = false)
    (hn : val.length = n) (hv : ∀ i v, P i v → ∃ k, val[i]? = some k ∧ keyIs k v = true) (hb : n + 1 < scanBound)
    (h : ∀ (h' : Heap) (tk : Nat), SetP w h' s.heap.objs.size (dedK val) → (∀ b o, s.heap.get? b = some o → h'.get? b = some o) → Q (.ref s.heap.objs.size) { s with heap := h', toks := tk }) :
    wpAny (model prog w) A (call (.type "set") [x]) Q E s := by
  obtain ⟨c, tl, hmro⟩ := F.called_set.mro
  have hmade := F.called_set.made
  have hsub := F.called_set.sub
  refine wpAny_call (codeAny_of_tree ?_); show wpAny _ _ (callAny (.type "set") _) _ _ _
  refine wpAny_pure ⟨Code.quiet_builtin _ (by decide +kernel), codeAny_builtin F.entry_type_call ?_⟩; rw [Around.under_plain (weight_type_call_type "set" [x] []) rfl]
  have h1 := F.called_set.notType
  have h2 := F.called_set.canCreate
  have hct := PySem.F.typeCall_set_1 x
  repeat (any_goals (first | assumption | wp_step))
  refine codeAny_mono (code_new_set x (E := E) (Q₁ := fun obj s₁ => obj = .ref s.heap.objs.size ∧ s₁ = { s with heap := s.heap.push (freshSet w) }) ⟨rfl, rfl⟩) fun r s₁ hr => ?_
  cases r with
  | error e => exact hr
  | ok fl => cases fl with
    | ret obj =>
      obtain ⟨rfl, rfl⟩ := hr
      have gS : (s.heap.push (freshSet w)).get? s.heap.objs.size = some (freshSet w) := Heap.get?_push_size _ rfl
      have hT : Shared.TypeIs { s with heap := s.heap.push (freshSet w) } (.ref s.heap.objs.size) "set" := ⟨_, gS, rfl⟩
      have hli := F.called_set.init.lookup
      have hbi := F.called_set.init.bind (.ref s.heap.objs.size)
      repeat (any_goals (first | assumption | wp_step))
      refine codeAny_mono (codeAny_call_builtin (R := wants (fun r s₂ => r = .none ∧ ∃ h' tk, s₂ = { s with heap := h', toks := tk } ∧ SetP w h' s.heap.objs.size (dedK val) ∧ (∀ b o, s.heap.get? b = some o → h'.get? b = some o)) E) F.called_set.init.plain F.entry_set_init (check_set_init_1 hT ?_)) fun r₂ s₂ hr₂ => ?_
      · obtain ⟨hp, g, d, tk0, os⟩ := s
        dsimp only at *
        have kp : ∀ b o, hp.get? b = some o → (hp.push (freshSet w)).get? b = some o := fun b o e => Heap.get?_push_of_some _ e
        have hTx : Shared.TypeIs { heap := hp.push (freshSet w), gens := g, drawn := d, toks := tk0, os := os } x T := tx _ kp
        unfold Builtin.«set.__init__» noKeywords Builtin.Frozenset.updateFrom
        generalize hPI : pyIter = PI
        unfold freshSet at *
        wp_walk
        subst hPI
        obtain ⟨oI, fp, St, hf, hfp, st0, hit, hW⟩ := hx { heap := hp.push (freshSet w), gens := g, drawn := d, toks := tk0, os := os } kp
        refine hit _ _ _ (by simp [hh]) (wpAny_bind (wpAny_runValue ?_))
        have eS : (hp.push (freshSet w)).objs.size = hp.objs.size + 1 := size_push' _ _
        have nS : hp.objs.size ∉ fp := fun hm => by
          rcases hfp _ hm with e | e
          · rw [eS] at e; exact absurd e (Nat.ne_of_lt (Nat.lt_succ_self _))
          · exact Nat.lt_irrefl _ e
        refine upd_loop (hW _ (by simp [hh])).toS hp.objs.size nS val hn hv hb n 0 _ rfl (Nat.zero_le _) st0 ?_ fun s' hm hS' => ?_
        · exact ⟨[], fresh_is (Heap.get?_push_of_some _ gS), .rfl⟩
        · obtain ⟨h', g', d', tk', os'⟩ := s'
          obtain rfl : g' = g := hm.gens
          obtain rfl : d' = d := hm.drawn
          obtain rfl : os' = os := hm.os
          refine wpAny_pure ?_
          show wpAny _ _ (ret Value.none) _ _ _
          refine wpAny_pure ⟨rfl, h', tk', rfl, hS', fun b o e => ?_⟩
          have lb : b < hp.objs.size := Heap.lt_size e
          refine hm.heap b o (fun hmem => ?_) (Heap.get?_push_of_some _ (kp b o e))
          rcases List.mem_cons.mp hmem with q | q
          · exact absurd q (Nat.ne_of_lt lb)
          · have q := List.mem_singleton.mp q
            rw [eS] at q
            exact absurd q (Nat.ne_of_lt (Nat.lt_succ_of_lt lb))
      · cases r₂ with
        | error e => exact hr₂
        | ok fl₂ => cases fl₂ with
          | ret r =>
            obtain ⟨rfl, h', tk, rfl, hS', hk'⟩ := hr₂
            repeat (any_goals (first | assumption | wp_step))
            exact h _ _ hS' hk'
          | _ => exact hr₂.elim
    | _ => exact hr.elim
end
end L2

set_option Elab.async false
set_option linter.all false
set_option maxRecDepth 100000
set_option maxHeartbeats 4000000
namespace L2
open PySem PySem.Spec PyProof.Rows
theorem slot_si_next : Slot "set_iterator" "__next__" "set_iterator.__next__" :=
  .of (owner := "set_iterator") (n := "__next__") (by rw [typeLookup_type, builtinLookup_eq_fast]; kernel_rfl) (by decide +kernel) (by decide +kernel) (by decide +kernel) (by first | exact .inl (by decide +kernel) | exact .inr (by decide +kernel)) (by rw [isSubtype_type]; kernel_rfl)
theorem entry_si_next : entryFor table "set_iterator.__next__" = some Builtin.«set_iterator.__next__» := entryFor_of_tree (by kernel_rfl)
theorem args_si_next (a : Value) : argsOk "set_iterator.__next__" ⟨[a], []⟩ := by unfold argsOk; kernel_rfl
theorem entry_s_iter : entryFor table "set.__iter__" = some Builtin.«frozenset.__iter__» := entryFor_alias (id' := "frozenset.__iter__") (by kernel_rfl) rfl (by decide +kernel) (by kernel_rfl)
def SIter (h : Heap) (I : Addr) (f : Value) (i : Nat) (a : Addr) (n ep : Nat) : Prop := ∃ o, h.get? I = some o ∧ o.cls = .type "set_iterator" ∧ o.data = .fields #[f, rawInt i, .ref a, rawInt n, rawInt ep]
theorem SIter.type {s : Shared} {I f i a n ep} (x : SIter s.heap I f i a n ep) : s.TypeIs (.ref I) "set_iterator" := by
  obtain ⟨o, g, c, _⟩ := x
  exact ⟨o, g, c⟩
def SAt (w : World) (h : Heap) (a : Addr) (es : Array (Int × Value)) (ep : Nat) (t : SetTable) (ks : List Key) : Prop := ∃ o, h.get? a = some o ∧ SObj w o es ep t ks
section
variable {prog : Program} {w : World} {A : Around} {E : Value → Shared → Prop} {s : Shared}
theorem fld_upd {h : Heap} {I : Addr} {o : Obj} {fs : Array Value} (k : Nat) (v : Value) (g : h.get? I = some o) (d : o.data = .fields fs) :
    ∃ o', (h.update I (Obj.mapFields (·.setIfInBounds k v))).get? I = some o' ∧ o'.cls = o.cls ∧ o'.data = .fields (fs.setIfInBounds k v) :=
  ⟨_, Heap.get?_update_self _ g (Obj.isFreed_of_fields (Obj.data_mapFields d _)), Obj.cls_mapFields .., Obj.data_mapFields d _⟩
theorem next_item {I a : Addr} {sl i n ep : Nat} {es : Array (Int × Value)} {t : SetTable} {ks : List Key} {x : Value} {nx : Nat} {Q : Option Value → Shared → Prop} (it : SIter s.heap I (rawInt sl) i a n ep) (sa : SAt w s.heap a es ep t ks) (hn : es.size = n)
    (nxt : ∀ (A' : Around) (E' : Value → Shared → Prop) (Q' : Option (Value × Nat) → Shared → Prop), Q' (some (x, nx)) s → wpAny (model prog w) A' (setNext a sl i ep) Q' E' s)
    (h : ∀ h', SIter h' I (rawInt nx) (i + 1) a n ep → Heap.SameBut I s.heap h' → Q (some x) { s with heap := h' }) : wpAny (model prog w) A (pyNext (.ref I)) Q E s := by
  obtain ⟨o, g, c, dt⟩ := id it
  obtain ⟨os, gs, S⟩ := sa
  unfold pyNext
  refine wpAny_bind (wpAny_attempt (wpAny_callSpecial?_slot (name := Str.ofString "__next__") it.type slot_si_next (wpAny_call_entry slot_si_next it.type entry_si_next ?_ (args_si_next _))))
  unfold Builtin.«set_iterator.__next__»
  refine wpAny_bind (wpAny_pure ?_); dsimp only
  refine wpAny_bind (wpAny_fieldsOf g dt ?_); simp only [rawInt]
  refine wpAny_bind (wpAny_setEntries_of gs S.data S.fit ?_); rw [if_neg (by rw [hn]; simp)]
  simp only [Int.toNat_natCast]
  refine wpAny_bind (nxt _ _ _ ?_)
  dsimp only
  refine wpAny_bind (wpAny_setField g dt (by simp) ?_)
  obtain ⟨o1, g1, c1, d1⟩ := fld_upd 0 (Value.int (nx : Int) 0) g dt
  refine wpAny_bind (wpAny_setField (s := { s with heap := s.heap.update I (Obj.mapFields (·.setIfInBounds 0 (Value.int (nx : Int) 0))) }) g1 d1 (by simp) ?_)
  obtain ⟨o2, g2, c2, d2⟩ := fld_upd 1 (Value.int ((i : Int) + 1) 0) g1 d1
  refine wpAny_pure ⟨_, rfl, wpAny_pure (h _ ⟨o2, g2, c2.trans (c1.trans c), ?_⟩ ((Heap.SameBut.update _ I _).trans (Heap.SameBut.update _ I _)))⟩
  rw [d2]
  simp [rawInt]
theorem stop_here {I : Addr} {o : Obj} {fs : Array Value} {Q : Option Value → Shared → Prop} {Q1 : PySem.Fin → Shared → Prop} (hh : A.handled = none) (g : s.heap.get? I = some o) (dt : o.data = .fields fs) (hz : 2 < fs.size)
    (h : ∀ h', Heap.ExtBut I s.heap h' → Q none { s with heap := h' }) :
    wpAny (model prog w) A.in1 (setField (.ref I) 2 .none >>= fun _ => newExc (.type "StopIteration") [] >>= fun e => raiseNew e) Q1
      (fun e s' => wpAny (model prog w) A (isInstance e (.type "StopIteration") >>= fun b => if b = true then pure none else throw e) Q E s') s := by
  refine wpAny_bind (wpAny_setField g dt hz ?_)
  refine wpAny_bind ?_
  simp only [newExc, newTuple]
  refine wpAny_bind (wpAny_newObj_type ?_ (by size_fits)); refine wpAny_bind (m := firstArgMember _ _) (wpAny_of_eq (a := Value.none) (by first | rfl | (simp only [firstArgMember]; rfl)) ?_)
  refine wpAny_newObj_type ?_ (by size_fits); simp only [raiseNew]
  refine wpAny_bind (wpAny_handled ?_); rw [show A.in1.handled = none from hh]
  refine wpAny_bind (wpAny_pure (wpAny_throw ?_)); refine wpAny_bind (wpAny_isInstance (T := "StopIteration") (b := true) ⟨_, Heap.get?_push_size _ rfl, rfl⟩ isSubtype_stop ?_)
  exact wpAny_pure (h _ (((Heap.SameBut.update ..).extBut.push _).push _))
theorem next_end {I a : Addr} {sl i n ep : Nat} {es : Array (Int × Value)} {t : SetTable} {ks : List Key} {Q : Option Value → Shared → Prop} (hh : A.handled = none) (it : SIter s.heap I (rawInt sl) i a n ep) (sa : SAt w s.heap a es ep t ks) (hn : es.size = n)
    (nxt : ∀ (A' : Around) (E' : Value → Shared → Prop) (Q' : Option (Value × Nat) → Shared → Prop), Q' none s → wpAny (model prog w) A' (setNext a sl i ep) Q' E' s)
    (h : ∀ h', Heap.ExtBut I s.heap h' → Q none { s with heap := h' }) : wpAny (model prog w) A (pyNext (.ref I)) Q E s := by
  obtain ⟨o, g, c, dt⟩ := id it
  obtain ⟨os, gs, S⟩ := sa
  unfold pyNext
  refine wpAny_bind (wpAny_attempt (wpAny_callSpecial?_slot (name := Str.ofString "__next__") it.type slot_si_next (wpAny_call_entry slot_si_next it.type entry_si_next ?_ (args_si_next _))))
  unfold Builtin.«set_iterator.__next__»
  refine wpAny_bind (wpAny_pure ?_); dsimp only
  refine wpAny_bind (wpAny_fieldsOf g dt ?_); simp only [rawInt]
  refine wpAny_bind (wpAny_setEntries_of gs S.data S.fit ?_); rw [if_neg (by rw [hn]; simp)]
  simp only [Int.toNat_natCast]
  refine wpAny_bind (nxt _ _ _ ?_)
  dsimp only
  exact stop_here hh g dt (by simp) h
def TupAt (h : Heap) (T : Addr) (ps : List Nat) : Prop := ∃ o n, h.get? T = some o ∧ o.data = .seq (ps.map fun (p : Nat) => rawInt p).toArray n
theorem nextD_item {I a T : Addr} {i n ep p : Nat} {ps : List Nat} {es : Array (Int × Value)} {t : SetTable} {ks : List Key} {e : Int × Value} {Q : Option Value → Shared → Prop} (it : SIter s.heap I (.ref T) i a n ep) (tp : TupAt s.heap T ps) (sa : SAt w s.heap a es ep t ks) (hn : es.size = n)
    (hp : ps[i]? = some p) (he : es[p]? = some e) (h : ∀ h', SIter h' I (.ref T) (i + 1) a n ep → Heap.SameBut I s.heap h' → Q (some e.2) { s with heap := h' }) : wpAny (model prog w) A (pyNext (.ref I)) Q E s := by
  obtain ⟨o, g, c, dt⟩ := id it
  obtain ⟨os, gs, S⟩ := sa
  obtain ⟨ot, nt, gt, dtt⟩ := tp
  unfold pyNext
  refine wpAny_bind (wpAny_attempt (wpAny_callSpecial?_slot (name := Str.ofString "__next__") it.type slot_si_next (wpAny_call_entry slot_si_next it.type entry_si_next ?_ (args_si_next _))))
  unfold Builtin.«set_iterator.__next__»
  refine wpAny_bind (wpAny_pure ?_); dsimp only
  refine wpAny_bind (wpAny_fieldsOf g dt ?_); simp only [rawInt]
  refine wpAny_bind (wpAny_setEntries_of gs S.data S.fit ?_); rw [if_neg (by rw [hn]; simp)]
  refine wpAny_bind (wpAny_seqItems gt dtt ?_)
  dsimp only
  have e1 : (ps.map fun (p : Nat) => rawInt p).toArray[((i : Int)).toNat]? = some (Value.int (p : Int) 0) := by simp [hp, rawInt]
  rw [e1]
  dsimp only
  unfold setNextDrawn
  simp only [Int.toNat_natCast]
  refine wpAny_bind (wpAny_bind (wpAny_setState_of gs S.data S.fit ?_))
  dsimp only
  rw [if_neg (by simp)]
  rw [he]
  refine wpAny_pure ?_
  refine wpAny_bind (wpAny_setField g dt (by simp) ?_)
  obtain ⟨o2, g2, c2, d2⟩ := fld_upd 1 (Value.int ((i : Int) + 1) 0) g dt
  refine wpAny_pure ⟨_, rfl, wpAny_pure (h _ ⟨o2, g2, c2.trans c, ?_⟩ (Heap.SameBut.update _ I _))⟩
  rw [d2]
  simp [rawInt]
theorem nextD_end {I a T : Addr} {i n ep : Nat} {ps : List Nat} {es : Array (Int × Value)} {t : SetTable} {ks : List Key} {Q : Option Value → Shared → Prop} (hh : A.handled = none) (it : SIter s.heap I (.ref T) i a n ep) (tp : TupAt s.heap T ps) (sa : SAt w s.heap a es ep t ks) (hn : es.size = n)
    (hp : ps[i]? = none) (h : ∀ h', Heap.ExtBut I s.heap h' → Q none { s with heap := h' }) : wpAny (model prog w) A (pyNext (.ref I)) Q E s := by
  obtain ⟨o, g, c, dt⟩ := id it
  obtain ⟨os, gs, S⟩ := sa
  obtain ⟨ot, nt, gt, dtt⟩ := tp
  unfold pyNext
  refine wpAny_bind (wpAny_attempt (wpAny_callSpecial?_slot (name := Str.ofString "__next__") it.type slot_si_next (wpAny_call_entry slot_si_next it.type entry_si_next ?_ (args_si_next _))))
  unfold Builtin.«set_iterator.__next__»
  refine wpAny_bind (wpAny_pure ?_); dsimp only
  refine wpAny_bind (wpAny_fieldsOf g dt ?_); simp only [rawInt]
  refine wpAny_bind (wpAny_setEntries_of gs S.data S.fit ?_); rw [if_neg (by rw [hn]; simp)]
  refine wpAny_bind (wpAny_seqItems gt dtt ?_)
  dsimp only
  have e1 : (ps.map fun (p : Nat) => rawInt p).toArray[((i : Int)).toNat]? = none := by
    have := List.getElem?_eq_none_iff.mp hp
    simp [this]
  rw [e1]
  dsimp only
  refine wpAny_bind (wpAny_setField g dt (by simp) ?_)
  obtain ⟨o1, g1, c1, d1⟩ := fld_upd 0 (Value.int 0 0) g dt
  refine stop_here (s := { s with heap := s.heap.update I (Obj.mapFields (·.setIfInBounds 0 (Value.int 0 0))) }) hh g1 d1 (by simp) fun h' q => h h' ?_
  exact fun b o hb e => q b o hb (((Heap.SameBut.update s.heap I _).2 b hb).trans e)
end
end L2

set_option Elab.async false
set_option linter.all false
set_option maxRecDepth 100000
set_option maxHeartbeats 4000000
namespace L2
open PySem PySem.Spec PyProof.Rows
theorem slot_si_iter : Slot "set_iterator" "__iter__" "set_iterator.__iter__" :=
  .of (owner := "set_iterator") (n := "__iter__") (by rw [typeLookup_type, builtinLookup_eq_fast]; kernel_rfl) (by decide +kernel) (by decide +kernel) (by decide +kernel) (by first | exact .inl (by decide +kernel) | exact .inr (by decide +kernel)) (by rw [isSubtype_type]; kernel_rfl)
theorem entry_si_iter : entryFor table "set_iterator.__iter__" = some Builtin.«dict_keyiterator.__iter__» := entryFor_alias (id' := "dict_keyiterator.__iter__") (by kernel_rfl) rfl (by decide +kernel) (by kernel_rfl)
theorem args_si_iter (a : Value) : argsOk "set_iterator.__iter__" ⟨[a], []⟩ := by unfold argsOk; kernel_rfl
theorem SAt.at {w : World} {h h' : Heap} {a : Addr} {es ep t ks} (x : SAt w h a es ep t ks) (k : ∀ o, h.get? a = some o → h'.get? a = some o) : SAt w h' a es ep t ks := by
  obtain ⟨o, g, S⟩ := x
  exact ⟨o, k _ g, S⟩
theorem SIter.at {h h' : Heap} {I f i a n ep} (x : SIter h I f i a n ep) (k : ∀ o, h.get? I = some o → h'.get? I = some o) : SIter h' I f i a n ep := by
  obtain ⟨o, g, r⟩ := x
  exact ⟨o, k _ g, r⟩
theorem TupAt.at {h h' : Heap} {T ps} (x : TupAt h T ps) (k : ∀ o, h.get? T = some o → h'.get? T = some o) : TupAt h' T ps := by
  obtain ⟨o, n, g, r⟩ := x
  exact ⟨o, n, k _ g, r⟩
section
variable {prog : Program} {w : World} {A : Around} {E : Value → Shared → Prop} {s : Shared} {I a T : Addr} {es xs : Array (Int × Value)} {ep : Nat} {t : SetTable} {ks : List Key}
theorem iter_self {f : Value} {i n : Nat} {Q : Value → Shared → Prop} (it : SIter s.heap I f i a n ep) (h : Q (.ref I) s) : wpAny (model prog w) A (pyIter (.ref I)) Q E s := by
  refine wpAny_pyIter_slot it.type slot_si_iter (wpAny_call_entry slot_si_iter it.type entry_si_iter ?_ (args_si_iter _))
  show wpAny _ _ (ret (.ref I)) _ _ s; exact wpAny_pure ⟨_, rfl, "set_iterator", _, it.type, slot_si_next.lookup, h⟩
theorem walk_int (hne : a ≠ I) (sl : Nat → Nat) (hx : xs.size = es.size)
    (nx : ∀ (i : Nat) (s : Shared) (A' : Around) (E' : Value → Shared → Prop) (Q' : Option (Value × Nat) → Shared → Prop), SAt w s.heap a es ep t ks → i ≤ es.size → Q' ((xs[i]?).map fun e => (e.2, sl (i + 1))) s → wpAny (model prog w) A' (setNext a (sl i) i ep) Q' E' s) (hh : A.handled = none) :
    Walks prog w A I [I, a] [I] es.size (fun i v => ∃ e, xs[i]? = some e ∧ e.2 = v) (fun i h => SIter h I (rawInt (sl i)) i a es.size ep ∧ SAt w h a es ep t ks) where
  sub := fun b hb => by simp at hb; simp [hb]
  frame := fun _ _ _ st hk => ⟨st.1.at fun o e => hk I (by simp) o e, st.2.at fun o e => hk a (by simp) o e⟩
  item := fun i s Q E hi st hQ => by
    have hi' : i < xs.size := by rw [hx]; exact hi
    refine next_item (x := xs[i].2) (nx := sl (i + 1)) st.1 st.2 rfl (fun A' E' Q' q => nx i s A' E' Q' st.2 (Nat.le_of_lt hi) ?_) fun h' it' hs => ?_
    · rw [Array.getElem?_eq_getElem hi']; exact q
    · exact hQ _ h' s.toks ⟨xs[i], Array.getElem?_eq_getElem hi', rfl⟩ ⟨it', st.2.at fun o e => (hs.2 a hne).trans e⟩ fun b o hb e => (hs.2 b (fun q => hb (by simp [q]))).trans e
  done := fun s Q E st hQ => by
    refine next_end hh st.1 st.2 rfl (fun A' E' Q' q => nx es.size s A' E' Q' st.2 (Nat.le_refl _) ?_) fun h' hs => hQ h' s.toks fun b o hb e => hs b o (fun q => hb (by simp [q])) e
    rw [Array.getElem?_eq_none (by rw [hx]; exact Nat.le_refl _)]; exact q
  self := fun i s Q E st q => iter_self st.1 q
theorem walk_drawn (hne : a ≠ I) (hT : T ≠ I) (ps : List Nat) (hp : ps.length = es.size) (hb : ∀ p ∈ ps, p < es.size) (hh : A.handled = none) :
    Walks prog w A I [I, a, T] [I] es.size (fun i v => ∃ p e, ps[i]? = some p ∧ es[p]? = some e ∧ e.2 = v) (fun i h => SIter h I (.ref T) i a es.size ep ∧ SAt w h a es ep t ks ∧ TupAt h T ps) where
  sub := fun b hb => by simp at hb; simp [hb]
  frame := fun _ _ _ st hk => ⟨st.1.at fun o e => hk I (by simp) o e, st.2.1.at fun o e => hk a (by simp) o e, st.2.2.at fun o e => hk T (by simp) o e⟩
  item := fun i s Q E hi st hQ => by
    have hi' : i < ps.length := by rw [hp]; exact hi
    have h1 : ps[i]? = some ps[i] := List.getElem?_eq_getElem hi'
    have h2 : ps[i] < es.size := hb _ (List.getElem_mem hi')
    have h3 : es[ps[i]]? = some es[ps[i]] := Array.getElem?_eq_getElem h2
    refine nextD_item st.1 st.2.2 st.2.1 rfl h1 h3 fun h' it' hs => ?_
    exact hQ _ h' s.toks ⟨_, _, h1, h3, rfl⟩ ⟨it', st.2.1.at fun o e => (hs.2 a hne).trans e, st.2.2.at fun o e => (hs.2 T hT).trans e⟩ fun b o hb e => (hs.2 b (fun q => hb (by simp [q]))).trans e
  done := fun s Q E st hQ => nextD_end hh st.1 st.2.2 st.2.1 rfl (List.getElem?_eq_none (by rw [hp]; exact Nat.le_refl _)) fun h' hs => hQ h' s.toks fun b o hb e => hs b o (fun q => hb (by simp [q])) e
  self := fun i s Q E st q => iter_self st.1 q
theorem nxt_text (hb : byT w = true) {sl i : Nat} {Q : Option (Value × Nat) → Shared → Prop} (sa : SAt w s.heap a es ep t ks) (h : Q (((pickOrder (w.params.setOrder a ep) es)[i]?).map fun e => (e.2, sl)) s) : wpAny (model prog w) A (setNext a sl i ep) Q E s := by
  obtain ⟨o, g, S⟩ := sa
  unfold setNext
  refine wpAny_bind (wpAny_setState_of g S.data S.fit (wpAny_bind (wp_byText ?_))); dsimp only
  rw [hb, if_pos rfl, if_neg (by simp)]
  refine wpAny_bind ?_
  unfold setWalk
  refine wpAny_bind (wpAny_setState_of g S.data S.fit (wpAny_bind (wp_byText ?_)))
  rw [hb, if_pos rfl]
  refine wpAny_bind (wpAny_askSetting (wpAny_pure (wpAny_pure ?_)))
  exact h
def slP (t : SetTable) : Nat → Nat
  | 0 => 0
  | i + 1 => t.place.getD i 0 + 1
theorem below_slP {t : SetTable} (hr : RT t) : ∀ {i : Nat}, i ≤ t.place.size → SetTable.below t.place (slP t i) = i
  | 0, _ => below_zero hr.ris
  | i + 1, h => below_next hr.ris h
theorem nxt_place (hb : byT w = false) (hd : t.plain = true ∨ es.size ≤ 1) {i : Nat} {Q : Option (Value × Nat) → Shared → Prop} (sa : SAt w s.heap a es ep t ks) (hi : i ≤ es.size) (h : Q ((es[i]?).map fun e => (e.2, slP t (i + 1))) s) : wpAny (model prog w) A (setNext a (slP t i) i ep) Q E s := by
  obtain ⟨o, g, S⟩ := sa
  have hps : t.place.size = es.size := by
    have := S.fit
    simp only [SetTable.fits, Bool.and_eq_true, beq_iff_eq] at this
    exact this.1
  unfold setNext
  refine wpAny_bind (wpAny_setState_of g S.data S.fit (wpAny_bind (wp_byText ?_))); dsimp only
  rw [hb, if_neg Bool.false_ne_true]
  refine wpAny_ite_split (fun hab => ?_) fun _ => ?_
  · have q : (!t.plain && decide (es.size > 1)) = true := hab
    rw [Bool.and_eq_true, decide_eq_true_eq] at q
    rcases hd with e | e
    · rw [e] at q; exact absurd q.1 (by simp)
    · omega
  · refine wpAny_bind ?_
    show wpAny _ _ (if (!t.led && !es.isEmpty) = true then unsupported "set:maker-not-led" else pure ()) _ _ _
    rw [S.led, hb]
    simp only [Bool.not_false, Bool.not_true, Bool.false_and, Bool.false_eq_true, if_false]
    refine wpAny_pure (wpAny_pure ?_)
    rw [below_slP S.rt (by rw [hps]; exact hi)]
    rcases Nat.lt_or_eq_of_le hi with hl | hl
    · have e1 : es[i]? = some es[i] := Array.getElem?_eq_getElem hl
      have e2 : t.place[i]? = some (t.place.getD i 0) := by
        have : i < t.place.size := by rw [hps]; exact hl
        simp [Array.getD, this]
      rw [e1] at h ⊢
      rw [e2]
      exact h
    · have e1 : es[i]? = none := Array.getElem?_eq_none (by omega)
      rw [e1] at h ⊢
      exact h
theorem draw_order {α : Type} {Q : List α → Shared → Prop} : ∀ (xs : List α) (s : Shared), (∀ ys d, ys.Perm xs → Q ys { s with drawn := d }) → wpAny (model prog w) A (drawOrder xs.length xs) Q E s := by
  intro xs
  generalize hn : xs.length = n
  induction n generalizing xs Q with
  | zero =>
    intro s h
    have : xs = [] := List.eq_nil_of_length_eq_zero hn
    subst this
    unfold drawOrder
    exact wpAny_pure (h [] s.drawn .rfl)
  | succ n ih =>
    intro s h
    match xs, hn with
    | x :: r, hn =>
      unfold drawOrder
      refine wpAny_bind (wp_choose (by simp) fun i d hi => ?_)
      rw [List.getElem?_eq_getElem hi]
      dsimp only
      refine wpAny_bind (ih _ (by rw [List.length_eraseIdx_of_lt hi]; omega) _ fun ys d' hp => wpAny_pure (h _ d' ?_))
      exact (hp.cons _).trans (erase_perm hi)
/-- the iterator of a set: some order of its entries -/
theorem iter_walk {Q : Value → Shared → Prop} (sa : SAt w s.heap a es ep t ks)
    (h : ∀ (s' : Shared) (I : Addr) (xs : Array (Int × Value)) (fp : List Addr) (St : Nat → Heap → Prop), xs.toList.Perm es.toList → (∀ b o, s.heap.get? b = some o → s'.heap.get? b = some o) → s'.gens = s.gens → s'.os = s.os → s'.toks = s.toks →
      s.heap.objs.size ≤ I → (∀ b ∈ fp, b < s'.heap.objs.size ∧ (b = a ∨ s.heap.objs.size ≤ b)) → (∀ A' : Around, A'.handled = none → Walks prog w A' I fp [I] es.size (fun i v => ∃ e, xs[i]? = some e ∧ e.2 = v) St) → St 0 s'.heap → Q (.ref I) s') :
    wpAny (model prog w) A (pyIter (.ref a)) Q E s := by
  obtain ⟨o, g, S⟩ := id sa
  have la : a < s.heap.objs.size := Heap.lt_size g
  have hT : s.TypeIs (.ref a) "set" := ⟨o, g, S.exact'.1⟩
  refine wpAny_pyIter_slot hT F.slot_set_iter (wpAny_call_entry F.slot_set_iter hT entry_s_iter ?_ (F.args_set_iter_1 _))
  unfold Builtin.«frozenset.__iter__» Builtin.Frozenset.slot0 Builtin.Frozenset.sizeOf
  refine wpAny_bind (wpAny_bind (wpAny_pure (wpAny_pure ?_)))
  refine wpAny_bind (wpAny_bind (wpAny_setEntries_of g S.data S.fit (wpAny_pure ?_)))
  refine wpAny_bind ?_
  unfold setDrawn
  refine wpAny_bind (wpAny_setState_of g S.data S.fit (wpAny_bind (wp_byText (wpAny_pure ?_))))
  have fin : ∀ (d : Drawn) (sl : Nat → Nat) (xs : Array (Int × Value)), sl 0 = 0 → xs.size = es.size → xs.toList.Perm es.toList →
      (∀ (i : Nat) (s : Shared) (A' : Around) (E' : Value → Shared → Prop) (Q' : Option (Value × Nat) → Shared → Prop), SAt w s.heap a es ep t ks → i ≤ es.size → Q' ((xs[i]?).map fun e => (e.2, sl (i + 1))) s → wpAny (model prog w) A' (setNext a (sl i) i ep) Q' E' s) →
      wpAny (model prog w) A.in1 (setEpoch a >>= fun e => newFields "set_iterator" [rawInt 0, rawInt 0, .ref a, rawInt es.size, rawInt e] >>= fun v => ret v) (fun fin s' => ∃ v, fin = .done (.ret v) ∧ ∃ T' r, s'.TypeIs v T' ∧ typeLookup (.type T') "__next__" = pure (some r) ∧ Q v s') E { s with drawn := d } := by
    intro d sl xs e0 ex hp nx
    refine wpAny_bind (wpAny_setEpoch_of g S.data S.fit (wpAny_bind (wpAny_newObj_type (wpAny_pure ⟨_, rfl, "set_iterator", _, ⟨_, Heap.get?_push_size _ rfl, rfl⟩, slot_si_next.lookup, ?_⟩))))
    refine h { s with drawn := d, heap := s.heap.push { cls := .type "set_iterator", data := .fields #[rawInt 0, rawInt 0, .ref a, rawInt es.size, rawInt ep] } } s.heap.objs.size xs [s.heap.objs.size, a] _ hp (fun b o e => Heap.get?_push_of_some _ e) rfl rfl rfl (Nat.le_refl _) (fun b hb => ?_) (fun A' hh => walk_int (Nat.ne_of_lt la) sl ex nx hh) ?_
    · show b < (s.heap.push _).objs.size ∧ _
      rw [size_push']
      rcases List.mem_cons.mp hb with e | e
      · rw [e]; exact ⟨Nat.lt_succ_self _, .inr (Nat.le_refl _)⟩
      · rw [List.mem_singleton.mp e]; exact ⟨Nat.lt_succ_of_lt la, .inl rfl⟩
    · refine ⟨⟨_, Heap.get?_push_size _ rfl, rfl, ?_⟩, sa.at fun o e => Heap.get?_push_of_some _ e⟩
      rw [e0]; rfl
  dsimp only
  have hps : t.place.size = es.size := by
    have := S.fit
    simp only [SetTable.fits, Bool.and_eq_true, beq_iff_eq] at this
    exact this.1
  have fewE : es.size ≤ sizeLine := few_line (by rw [S.size]; exact S.few)
  refine wpAny_ite_split (fun hab => ?_) (fun hab => ?_)
  · have key := draw_order (prog := prog) (w := w) (A := A.in1) (E := E) (List.range es.size) s (Q := fun ys s' => wpAny (model prog w) A.in1 (newTuple (ys.map fun (i : Nat) => rawInt i) >>= fun first => setEpoch a >>= fun e => newFields "set_iterator" [first, rawInt 0, .ref a, rawInt es.size, rawInt e] >>= fun v => ret v) (fun fin s' => ∃ v, fin = .done (.ret v) ∧ ∃ T' r, s'.TypeIs v T' ∧ typeLookup (.type T') "__next__" = pure (some r) ∧ Q v s') E s') fun ys d hp => ?_
    · rw [List.length_range] at key
      exact wpAny_bind key
    · have hl : ys.length = es.size := by rw [hp.length_eq, List.length_range]
      have hlt : ∀ p ∈ ys, p < es.size := fun p h => List.mem_range.mp (hp.mem_iff.mp h)
      refine wpAny_bind (wpAny_newTuple ?_ (by rw [List.length_map, hl]; exact fewE))
      have gt : (s.heap.push (seqObj "tuple" (ys.map fun (i : Nat) => rawInt i).toArray 0)).get? s.heap.objs.size = some (seqObj "tuple" (ys.map fun (i : Nat) => rawInt i).toArray 0) := Heap.get?_push_size _ rfl
      refine wpAny_bind (wpAny_setEpoch_of (s := { s with drawn := d, heap := s.heap.push (seqObj "tuple" (ys.map fun (i : Nat) => rawInt i).toArray 0) }) (Heap.get?_push_of_some _ g) S.data S.fit (wpAny_bind (wpAny_newObj_type (wpAny_pure ⟨_, rfl, "set_iterator", _, ⟨_, Heap.get?_push_size _ rfl, rfl⟩, slot_si_next.lookup, ?_⟩))))
      have z1 : (s.heap.push (seqObj "tuple" (ys.map fun (i : Nat) => rawInt i).toArray 0)).objs.size = s.heap.objs.size + 1 := size_push' _ _
      have W : ∀ A' : Around, A'.handled = none → Walks prog w A' (s.heap.objs.size + 1) [s.heap.objs.size + 1, a, s.heap.objs.size] [s.heap.objs.size + 1] es.size (fun i v => ∃ e, (ys.filterMap (es[·]?)).toArray[i]? = some e ∧ e.2 = v) (fun i h => SIter h (s.heap.objs.size + 1) (.ref s.heap.objs.size) i a es.size ep ∧ SAt w h a es ep t ks ∧ TupAt h s.heap.objs.size ys) := fun A' hh => by
        have W0 := walk_drawn (prog := prog) (w := w) (A := A') (I := s.heap.objs.size + 1) (a := a) (T := s.heap.objs.size) (es := es) (ep := ep) (t := t) (ks := ks) (Nat.ne_of_lt (Nat.lt_succ_of_lt la)) (Nat.ne_of_lt (Nat.lt_succ_self _)) ys hl hlt hh
        refine ⟨W0.sub, W0.frame, fun i s Q E hi st hQ => W0.item i s Q E hi st fun v h' tk hP => hQ v h' tk ?_, W0.done, W0.self⟩
        obtain ⟨p, e, h1, h2, h3⟩ := hP
        refine ⟨e, ?_, h3⟩
        have : ∀ (l : List Nat) (i : Nat), (∀ p ∈ l, p < es.size) → (l.filterMap (es[·]?))[i]? = (l[i]?).bind (es[·]?) := by
          intro l
          induction l with
          | nil => intro i _; simp
          | cons q l ih =>
            intro i hq
            have lq : q < es.size := hq q List.mem_cons_self
            have e0 : es[q]? = some es[q] := Array.getElem?_eq_getElem lq
            rw [List.filterMap_cons_some e0]
            cases i with
            | zero => simp [e0]
            | succ i => simpa using ih i fun p hp => hq p (List.mem_cons_of_mem _ hp)
        rw [List.getElem?_toArray, this ys i hlt, h1]
        show es[p]? = some e
        exact h2
      show Q (.ref (s.heap.push (seqObj "tuple" (ys.map fun (i : Nat) => rawInt i).toArray 0)).objs.size) _
      rw [z1]
      refine h { s with drawn := d, heap := (s.heap.push (seqObj "tuple" (ys.map fun (i : Nat) => rawInt i).toArray 0)).push { cls := .type "set_iterator", data := .fields #[.ref s.heap.objs.size, rawInt 0, .ref a, rawInt es.size, rawInt ep] } } (s.heap.objs.size + 1) _ _ _ ?_ (fun b o e => Heap.get?_push_of_some _ (Heap.get?_push_of_some _ e)) rfl rfl rfl (Nat.le_succ _) (fun b hb => ?_) W ?_
      · show (ys.filterMap (es[·]?)).Perm es.toList
        exact (hp.filterMap _).trans (by rw [filterMap_getElem?_range])
      · show b < ((s.heap.push _).push _).objs.size ∧ _
        rw [size_push', size_push']
        rcases List.mem_cons.mp hb with e | e
        · rw [e]; exact ⟨Nat.lt_succ_self _, .inr (Nat.le_succ _)⟩
        · rcases List.mem_cons.mp e with e | e
          · rw [e]; exact ⟨Nat.lt_succ_of_lt (Nat.lt_succ_of_lt la), .inl rfl⟩
          · rw [List.mem_singleton.mp e]; exact ⟨Nat.lt_succ_of_lt (Nat.lt_succ_self _), .inr (Nat.le_refl _)⟩
      · refine ⟨⟨{ cls := .type "set_iterator", data := .fields #[.ref s.heap.objs.size, rawInt 0, .ref a, rawInt es.size, rawInt ep] }, ?_, rfl, rfl⟩, sa.at fun o e => Heap.get?_push_of_some _ (Heap.get?_push_of_some _ e), ⟨_, _, Heap.get?_push_of_some _ gt, rfl⟩⟩
        rw [← z1]
        exact Heap.get?_push_size _ rfl
  · refine wpAny_bind (wpAny_pure ?_)
    cases hb : byT w with
    | true => exact fin s.drawn (fun _ => 0) (pickOrder (w.params.setOrder a ep) es) rfl (by rw [← Array.length_toList, (pick_perm _ es).length_eq, Array.length_toList]) (pick_perm _ es) fun i s' A' E' Q' sa' hi q => nxt_text hb sa' q
    | false =>
      have hd : t.plain = true ∨ es.size ≤ 1 := by
        have q : ¬ (!byT w && (!t.plain && decide (es.size > 1))) = true := hab
        rw [hb] at q
        cases hp : t.plain with
        | true => exact .inl rfl
        | false =>
          rw [hp] at q
          simp at q
          exact .inr q
      exact fin s.drawn (slP t) es rfl rfl .rfl fun i s' A' E' Q' sa' hi q => nxt_place hb hd sa' hi q
end
end L2

set_option Elab.async false
set_option linter.all false
set_option maxRecDepth 100000
set_option maxHeartbeats 4000000
namespace L2
open PySem PySem.Spec PyProof.Rows
section
variable {prog : Program} {w : World} {A : Around} {E : Value → Shared → Prop} {s : Shared} {a : Addr} {es : Array (Int × Value)} {ep : Nat} {t : SetTable} {ks : List Key}
theorem hint_set (hT : s.TypeIs (.ref a) "set") {Q : Bool → Shared → Prop} (h : Q false s) : wpAny (model prog w) A (Builtin.List.listLengthHint (.ref a)) Q E s := by
  unfold Builtin.List.listLengthHint
  refine wpAny_bind (wpAny_specialOf hT PySem.F.slot_set_len.lookup ?_)
  generalize hid : ("set.__len__" : String) = id0
  wp_delta
  rw [show splitId id0 = some ("set", "__len__") from by subst hid; decide +kernel]
  subst hid
  refine wpAny_bind (wpAny_isInstance (T := "set") (b := true) hT (by rw [isSubtype_type]; kernel_rfl) ?_); refine wpAny_ite_split (fun hab => absurd hab (by decide)) (fun _ => ?_)
  refine wpAny_ite_split (fun _ => ?_) (fun hab => absurd (by decide +kernel) hab); exact wpAny_bind (wpAny_typeOf hT (wpAny_pure h))
/-- what a walk of the set has told: values whose keys are the set's, in some order -/
def KeysAre (vs : List Value) (ks : List Key) : Prop := Paired (fun v k => keyIs k v = true) vs ks
theorem keysAre_of {w : World} {ps : Array (Int × Value)} {es : Array (Int × Value)} {ks : List Key} {acc : Array Value} (hp : ps.toList.Perm es.toList) (he : Paired (Ent w) es.toList ks) (hi : ItemsOf (fun i v => ∃ e, ps[i]? = some e ∧ e.2 = v) acc es.size) :
    ∃ ks', ks'.Perm ks ∧ KeysAre acc.toList ks' := by
  obtain ⟨ks', e1, p1⟩ := paired_perm hp he
  refine ⟨ks', e1, ?_⟩
  have e2 : acc.toList = ps.toList.map (·.2) := by
    apply List.ext_getElem?
    intro i
    rw [Array.getElem?_toList, List.getElem?_map, Array.getElem?_toList]
    have hz : acc.size = es.size := hi.1
    have hz2 : ps.size = es.size := by rw [← Array.length_toList, hp.length_eq, Array.length_toList]
    by_cases hl : i < es.size
    · have h1 : acc[i]? = some (acc[i]'(by omega)) := Array.getElem?_eq_getElem (by omega)
      obtain ⟨e, h2, h3⟩ := hi.2 i _ h1
      rw [h1, h2, ← h3]
      rfl
    · rw [Array.getElem?_eq_none (by omega), Array.getElem?_eq_none (by omega)]
      rfl
  rw [e2]
  have : ∀ {l : List (Int × Value)} {ks : List Key}, Paired (Ent w) l ks → KeysAre (l.map (·.2)) ks := by
    intro l ks p
    induction p with
    | nil => exact .nil
    | cons h _ ih => exact .cons h.1 ih
  exact this p1
theorem collect_set {R : List Value → Shared → Prop} (hh : A.handled = none) (sa : SetP w s.heap a ks)
    (h : ∀ (s' : Shared) (vs : List Value) (ks' : List Key), (∀ b o, s.heap.get? b = some o → s'.heap.get? b = some o) → s'.gens = s.gens → s'.os = s.os → s.heap.objs.size ≤ s'.heap.objs.size → ks'.Perm ks → KeysAre vs ks' → R vs s') :
    wpAny (model prog w) A (collect (.ref a)) R E s := by
  obtain ⟨ks0, ⟨o, es, ep, t, g, S⟩, ek⟩ := sa
  have la : a < s.heap.objs.size := Heap.lt_size g
  have hn : es.size ≤ sizeLine := few_line (by rw [S.size]; exact S.few)
  unfold collect
  refine wpAny_bind (wpAny_runValue (codeAny_builtin entry_proto_collect' ?_)); rw [Around.under_plainId PySem.F.plain_proto_collect _]
  show wpAny _ A.in1 (newList [] >>= fun l => again (.builtin "list.__iadd__" ⟨[l, .ref a], []⟩)) _ _ s; refine wpAny_bind (wpAny_newObj_type ?_)
  refine wpAny_pure ⟨plainId_quiet PySem.F.plain_list_iadd _, codeAny_builtin entry_list_iadd' ?_⟩; rw [Around.under_plainId PySem.F.plain_list_iadd _]
  have gL : (s.heap.push { cls := .type "list", data := .seq ([] : List Value).toArray }).get? s.heap.objs.size = some { cls := .type "list", data := .seq #[] } := Heap.get?_push_size _ rfl
  have zL : (s.heap.push { cls := .type "list", data := .seq ([] : List Value).toArray }).objs.size = s.heap.objs.size + 1 := size_push' _ _
  show wpAny _ A.in1 (Builtin.List.listExtendWith (.ref s.heap.objs.size) (.ref a) (.ref s.heap.objs.size)) _ _ _
  have gA : (s.heap.push { cls := .type "list", data := .seq ([] : List Value).toArray }).get? a = some o := Heap.get?_push_of_some _ g
  have hTa : Shared.TypeIs { s with heap := s.heap.push { cls := .type "list", data := .seq ([] : List Value).toArray } } (.ref a) "set" := ⟨o, gA, S.exact'.1⟩
  unfold Builtin.List.listExtendWith
  refine wpAny_bind (wpAny_typeOf (T := "set") hTa ?_)
  have ne : s.heap.objs.size ≠ a := Nat.ne_of_gt la
  have h1 : Builtin.List.listSameRef (.ref s.heap.objs.size) (.ref a) = false := by simp [Builtin.List.listSameRef, ne]
  have h2 : (Value.type "set" == Value.type "list") = false := by decide
  have h3 : (Value.type "set" == Value.type "tuple") = false := by decide
  simp only [h1, h2, h3, Bool.or_false, Bool.false_eq_true, if_false]
  refine wpAny_bind (iter_walk (s := { s with heap := s.heap.push { cls := .type "list", data := .seq ([] : List Value).toArray } }) ⟨o, gA, S⟩ fun s1 I ps fp St hp hk eg eo et lI hfp W st => ?_)
  have gL1 : s1.heap.get? s.heap.objs.size = some { cls := .type "list", data := .seq #[] } := hk _ _ gL
  have nL : s.heap.objs.size ∉ fp := fun hm => by
    rcases (hfp _ hm).2 with q | q
    · exact ne q
    · exact absurd q (by show ¬ (s.heap.push _).objs.size ≤ _; rw [zL]; exact Nat.not_succ_le_self _)
  have hTa1 : s1.TypeIs (.ref a) "set" := ⟨o, hk _ _ gA, S.exact'.1⟩
  refine wpAny_bind (wpAny_holding (hint_set hTa1 ?_))
  have key : ∀ (hp' : Heap) (c₁ : Nat), St 0 hp' → (∀ b o, b ≠ s.heap.objs.size → s1.heap.get? b = some o → hp'.get? b = some o) → hp'.get? s.heap.objs.size = some { cls := .type "list", data := .seq #[] c₁ } →
      codeAny (model prog w) A (.builtin "list.extend.loop" ⟨[.ref s.heap.objs.size, .ref I, .ref s.heap.objs.size], []⟩) (fun x s' => ∃ acc c', x = .ok (.ret (.ref s.heap.objs.size)) ∧ (∀ b o, s.heap.get? b = some o → s'.heap.get? b = some o) ∧ s'.gens = s.gens ∧ s'.os = s.os ∧
        s'.heap.get? s.heap.objs.size = some { cls := .type "list", dict := none, data := .seq acc c', slots := #[] } ∧ ItemsOf (fun i v => ∃ e, ps[i]? = some e ∧ e.2 = v) acc es.size) { s1 with heap := hp' } := by
    intro hp' c₁ st' hk' gL'
    refine codeAny_extend_loopS (W A.in1 hh).toS hn s.heap.objs.size nL _ es.size 0 _ #[] c₁ rfl (Nat.zero_le _) st' gL' (ItemsOf.nil _) fun s' acc c' hm gL'' hi => ?_
    refine ⟨acc, c', rfl, fun b o e => ?_, hm.gens.trans eg, hm.os.trans eo, gL'', hi⟩
    have lb : b < s.heap.objs.size := Heap.lt_size e
    refine hm.heap b o (fun hmem => ?_) (hk' b o (Nat.ne_of_lt lb) (hk b o (Heap.get?_push_of_some _ e)))
    rcases List.mem_cons.mp hmem with q | q
    · exact absurd q (Nat.ne_of_lt lb)
    · have q := List.mem_singleton.mp q
      have lI' : s.heap.objs.size + 1 ≤ I := by rw [← zL]; exact lI
      rw [q] at lb
      exact absurd lb (Nat.not_lt.mpr (Nat.le_of_succ_le lI'))
  have last : ∀ (x : Result) (s' : Shared), (∃ acc c', x = .ok (.ret (.ref s.heap.objs.size)) ∧ (∀ b o, s.heap.get? b = some o → s'.heap.get? b = some o) ∧ s'.gens = s.gens ∧ s'.os = s.os ∧
      s'.heap.get? s.heap.objs.size = some { cls := .type "list", dict := none, data := .seq acc c', slots := #[] } ∧ ItemsOf (fun i v => ∃ e, ps[i]? = some e ∧ e.2 = v) acc es.size) → ∃ v, x = .ok (.ret v) ∧ wpAny (model prog w) A (match v with
      | Value.ref a => do
        match (← load a).data with
          | Data.seq xs _ => pure xs.toList
          | _ => unsupported "internal:collect"
      | _ => unsupported "internal:collect") R E s' := by
    intro x s' q
    obtain ⟨acc, c', rfl, k1, k2, k3, k4, k5⟩ := q
    refine ⟨_, rfl, ?_⟩
    show wpAny _ A (load s.heap.objs.size >>= _) _ _ _; refine wpAny_bind (wpAny_load k4 (wpAny_pure ?_))
    obtain ⟨ks', e1, e2⟩ := keysAre_of hp S.ent k5
    exact h s' acc.toList ks' k1 k2 k3 (Nat.le_of_lt (Heap.lt_size k4)) (e1.trans ek) e2
  refine wpAny_ite_split (fun _ => ?_) (fun _ => ?_)
  · refine wpAny_bind (wpAny_rule (wpAny_bind ?_))
    show wpAny _ _ (updateSeq s.heap.objs.size (·.push .none) >>= fun _ => updateSeq s.heap.objs.size (·.pop)) _ _ _
    refine wpAny_bind (wpAny_updateSeq gL1 rfl ?_)
    have gL2 := Heap.get?_update_self (Obj.mapSeq (·.push Value.none)) gL1 rfl
    refine wpAny_updateSeq (hz := by seq_fits) gL2 rfl ?_
    have gL3 := Heap.get?_update_self (Obj.mapSeq (·.pop)) gL2 rfl
    refine wpAny_pure ⟨plainId_quiet PySem.F.plain_extend_loop _, codeAny_mono (key _ _ ?_ (fun b o hb e => ?_) gL3) fun x s' q => ?_⟩
    · refine (W A.in1 hh).frame 0 _ _ st fun b hb o e => ?_
      have hbS : b ≠ s.heap.objs.size := fun q => nL (q ▸ hb)
      exact (Heap.get?_update_other _ _ (Ne.symm hbS)).trans ((Heap.get?_update_other _ _ (Ne.symm hbS)).trans e)
    · exact (Heap.get?_update_other _ _ (Ne.symm hb)).trans ((Heap.get?_update_other _ _ (Ne.symm hb)).trans e)
    · obtain ⟨v, rfl, q'⟩ := last x s' q
      exact q'
  · refine wpAny_pure ⟨plainId_quiet PySem.F.plain_extend_loop _, codeAny_mono (key s1.heap 0 st (fun b o _ e => e) gL1) fun x s' q => ?_⟩
    obtain ⟨v, rfl, q'⟩ := last x s' q
    exact q'
theorem strsK {ss : List Str} : ∀ {vs : List Value}, KeysAre vs (ss.map Sum.inr) → StrsAre vs ss := by
  induction ss with
  | nil => intro vs p; cases p; exact .nil
  | cons n ns ih =>
    intro vs p
    cases p with
    | cons h r =>
      rcases keyIs_shape h with ⟨i, t, e, rfl⟩ | ⟨x, t, e, rfl⟩
      · cases e
      · cases e; exact .cons _ _ (ih r)
theorem perm_map_inv {α : Type} {f : α → Key} : ∀ {l : List α} {ks : List Key}, ks.Perm (l.map f) → ∃ l' : List α, l'.Perm l ∧ ks = l'.map f := by
  have : ∀ {ks ks' : List Key}, ks'.Perm ks → ∀ {l : List α}, ks' = l.map f → ∃ l' : List α, l'.Perm l ∧ ks = l'.map f := by
    intro ks ks' hp
    induction hp with
    | nil => intro l e; exact ⟨l, .rfl, e⟩
    | cons x _ ih =>
      intro l e
      match l, e with
      | y :: l, e =>
        rw [List.map_cons] at e
        injection e with e1 e2
        obtain ⟨l', h1, h2⟩ := ih e2
        exact ⟨y :: l', h1.cons _, by rw [List.map_cons, ← h2, e1]⟩
    | swap x y _ =>
      intro l e
      match l, e with
      | a :: b :: l, e =>
        simp only [List.map_cons, List.cons.injEq] at e
        obtain ⟨e1, e2, e3⟩ := e
        exact ⟨b :: a :: l, List.Perm.swap _ _ _, by simp [e1, e2, e3]⟩
    | trans _ _ ih1 ih2 =>
      intro l e
      obtain ⟨l1, h1, h2⟩ := ih1 e
      obtain ⟨l2, h3, h4⟩ := ih2 h2
      exact ⟨l2, h3.trans h1, h4⟩
  intro l ks hp
  exact this hp.symm rfl
theorem sorted_setS {ns : List Str} {Q : Value → Shared → Prop} (hh : A.handled = none) (sa : SetP w s.heap a (ns.map Sum.inr)) (h64 : ns.length < 64)
    (h : ∀ (s' : Shared) (D n : Nat) (out : Array Value) (ns' : List Str), (∀ b o, s.heap.get? b = some o → s'.heap.get? b = some o) → s'.gens = s.gens → s'.os = s.os → s.heap.objs.size ≤ D → s'.heap.get? D = some (seqObj "list" out n) → StrsAre out.toList ns' → ns'.Perm ns → sortedS ns' = true → Q (.ref D) s') :
    wpAny (model prog w) A (call (.builtin "sorted") [.ref a]) Q E s := by
  refine Calls.call_function_entry kind_sorted plain_sorted entry_sorted (args_sorted1 _) ?_; unfold Builtin.«sorted»
  refine wpAny_bind (m := checkCount "sorted" 1 1 _) (wpAny_pure (wpAny_bind (collect_set (A := A.in1) hh sa fun s1 vs ks' hk eg eo ez ep kv => ?_)))
  obtain ⟨ns1, p1, rfl⟩ := perm_map_inv ep
  have hi := strsK kv
  have hl : vs.length < 64 := by
    have : vs.length = ns1.length := by
      have := paired_len2 kv
      rwa [List.length_map] at this
    rw [this, p1.length_eq]
    exact h64
  refine wpAny_bind (wpAny_newList ?_ (by rw [sizeLine_eq]; omega))
  have gD : (s1.heap.push (seqObj "list" vs.toArray 0)).get? s1.heap.objs.size = some (seqObj "list" vs.toArray 0) := Heap.get?_push_size _ rfl
  refine wpAny_bind (wpAny_holding (wpAny_call_entry slot_list_sort ⟨_, gD, rfl⟩ entry_list_sort (list_sort_treeK (s := { s1 with heap := s1.heap.push (seqObj "list" vs.toArray 0) }) strKind_oneLt gD hi.keysOf (fun v₁ v₂ rest e => keyKind_strs (by rw [← e]; exact hi)) hl fun st' b1 b2 => ⟨_, rfl, ?_⟩) (args_list_sort _)))
  obtain ⟨ns', a1, a2, a3⟩ := sorted_out_str hi b1 b2
  have lD : ∀ b o, s.heap.get? b = some o → b < s1.heap.objs.size := fun b o e => Heap.lt_size (hk b o e)
  obtain ⟨n, gO⟩ : ∃ n, (sortedHeap (s1.heap.push (seqObj "list" vs.toArray 0)) s1.heap.objs.size vs ((arrOf st').map (·.2))).get? s1.heap.objs.size = some (seqObj "list" ((arrOf st').map (·.2)) n) := sortedHeap_at gD
  refine wpAny_pure ⟨_, rfl, h _ s1.heap.objs.size n _ ns' (fun b o e => ?_) eg eo ez gO a1 (a2.trans p1) a3⟩
  have lb := lD b o e
  exact (sortedHeap_old (Nat.ne_of_lt lb) (by rw [size_push']; exact Nat.lt_succ_of_lt lb)).trans (Heap.get?_push_of_some _ (hk b o e))
end
end L2

set_option Elab.async false
set_option linter.all false
set_option maxRecDepth 100000
set_option maxHeartbeats 4000000
namespace L2
open PySem PySem.Spec PyProof.Rows
def SetO (w : World) (p : Addr) (ks : List Key) : HO := .ext fun h => SetP w h p ks
theorem setO_ok {P : Program} {w : World} {H : Hp} {h : Heap} {p : Addr} {ks : List Key} (x : SetP w h p ks) : ObjOk P w H h p (SetO w p ks) := by
  refine ⟨x, ?_, fun h1 h2 a b => a.at b⟩
  obtain ⟨_, ⟨o, _, _, _, g, _⟩, _⟩ := x
  exact ⟨o, g⟩
theorem setO_get {P : Program} {w : World} {H : Hp} {h : Heap} {p : Addr} {ks : List Key} (x : HOk P w H h) (e : H p = some (SetO w p ks)) : SetP w h p ks := (x p _ e).1
section
variable {X : Cx} {pins : List (Addr × Obj)} {σ : List (Option V)} {H : Hp} {s s' : Shared}
theorem Inv.same (I : Inv X pins σ H s) (e1 : s'.heap = s.heap) (e2 : s'.gens = s.gens) (e3 : s'.os = s.os) : Inv X pins σ H s' := by
  obtain ⟨h, g, d, t, o⟩ := s
  obtain ⟨h', g', d', t', o'⟩ := s'
  dsimp only at e1 e2 e3
  subst e1; subst e2; subst e3
  exact ⟨I.ok, I.os, I.bare, I.base, I.loc, I.cell, I.free, I.freeC, I.pin, I.hok, I.len⟩
theorem Inv.laid' {a : Addr} {o : HO} (I : Inv X pins σ H s) (k : ∀ b u, s.heap.get? b = some u → s'.heap.get? b = some u) (hp : s.heap.objs.size ≤ a) (new : ObjOk X.prog X.w (upd H a o) s'.heap a o) (e2 : s'.gens = s.gens) (e3 : s'.os = s.os) :
    Inv X pins σ (upd H a o) s' := (I.laid (t' := s.toks) k hp new).same rfl e2 e3
end
theorem rel_key : ∀ {k : Key} {u : Value}, RelV (kV k) u → keyIs k u = true
  | .inl i, u, h => by obtain ⟨t, rfl⟩ := h; exact keyIs_int i t
  | .inr x, u, h => by obtain ⟨t, rfl⟩ := h; exact keyIs_str x t
theorem vals_key {ks : List Key} : ∀ {us : List Value}, Vals (ks.map kV) us → ∀ (i : Nat) (v : Value), us[i]? = some v → ∃ k, ks[i]? = some k ∧ keyIs k v = true := by
  induction ks with
  | nil => intro us r i v e; cases r; cases e
  | cons k ks ih =>
    intro us r i v e
    rw [List.map_cons] at r
    cases r with
    | cons h t => cases i with
      | zero =>
        cases e
        exact ⟨k, rfl, rel_key h⟩
      | succ i => exact ih t i v e
def rSetK (w : World) (K : PySem.W.Frag) : List V → Hp → VK → Prop := fun vs H Q => ∃ (l : Addr) (ks : List Key), vs = [.ref l] ∧ SqL K H l (ks.map kV) ∧ ks.length < 4000 ∧ ∀ p, H p = none → Q (.ref p) (upd H p (SetO w p (dedK ks)))
theorem call_setL {X : Cx} {w : World} {K : PySem.W.Frag} (hc : X.calm = true) (hw : X.w = w) (hK : X.K = K) : CallR X (.type "set") (rSetK w K) := by
  subst hK
  subst hw
  intro pins s σ H vs us Q I r h
  obtain ⟨l, ks, rfl, hl, hz, q⟩ := h
  obtain ⟨u, rfl, ru⟩ := vals1 r
  cases ru
  obtain ⟨its, rv, pl, _⟩ := I.list hl
  have hlen := rv.length
  rw [List.length_map] at hlen
  have il := pl.isList
  refine call_set_src (val := ks) (T := "list") (I.ok.hd hc) (src_list il) (fun s1 k => (il.at fun o e => k _ _ e).typeIs) PySem.F.sub_list_set PySem.F.sub_list_frozenset (by decide) ?_ (fun i v e => vals_key rv i v (by rw [List.getElem?_toArray] at e; exact e)) ?_ fun h' tk hS hk => ?_
  · rw [List.size_toArray]; exact hlen
  · rw [List.size_toArray, ← hlen]; unfold scanBound; omega
  · exact ⟨.ref s.heap.objs.size, _, I.laid' (s' := { s with heap := h', toks := tk }) (fun b o e => hk b o e) (Nat.le_refl _) (setO_ok hS) rfl rfl, rfl, q _ (I.hok.fresh (Nat.le_refl _))⟩
def rSetSg (w : World) : List V → Hp → VK → Prop := fun vs H Q => ∃ x : Str, vs = [.str x] ∧ x.length < 4000 ∧ ∀ p, H p = none → Q (.ref p) (upd H p (SetO w p (dedK ((signsO x).map Sum.inr))))
def leZ (a b : Int) : Bool := decide (a ≤ b)
def sortZ (ys : List Int) : List Int := ys.mergeSort leZ
def rSortPS (w : World) : List V → Hp → VK → Prop := fun vs H Q => ∃ (l : Addr) (ys : List Str), vs = [.ref l] ∧ H l = some (SetO w l (ys.map Sum.inr)) ∧ ys.length < 64 ∧ ∀ p, H p = none → Q (.ref p) (upd H p (.lst ((sortS ys).map V.str)))
theorem call_sortPS {X : Cx} {w : World} (hc : X.calm = true) (hw : X.w = w) : CallR X (.builtin "sorted") (rSortPS w) := by
  subst hw
  intro pins s σ H vs us Q I r h
  obtain ⟨l, ys, rfl, hl, h64, q⟩ := h
  obtain ⟨u, rfl, ru⟩ := vals1 r
  cases ru
  refine sorted_setS (I.ok.hd hc) (setO_get I.hok hl) h64 fun s' D n out ns' hk eg eo lD gD a1 a2 a3 => ?_
  have e := sortS_of a2 a3
  subst e
  refine ⟨.ref D, _, I.laid' (o := .lst ((sortS ys).map V.str)) hk lD ⟨?_, out.toList, n, vals_strs a1, gD⟩ eg eo, rfl, q _ (I.hok.fresh lD)⟩
  rw [List.length_map, (sortS_perm ys).length_eq, sizeLine_eq]
  omega
def rSortPI (w : World) : List V → Hp → VK → Prop := fun vs H Q => ∃ (l : Addr) (ys : List Int), vs = [.ref l] ∧ H l = some (SetO w l (ys.map Sum.inl)) ∧ ys.length < 64 ∧ ∀ p, H p = none → Q (.ref p) (upd H p (.lst ((sortZ ys).map V.int)))
def addA {α : Type} [DecidableEq α] (ks : List α) (k : α) : List α := if ks.any (fun y => decide (y = k)) then ks else ks ++ [k]
def dedA {α : Type} [DecidableEq α] (ks : List α) : List α := ks.foldl addA []
theorem addA_map {α : Type} [DecidableEq α] {f : α → Key} (hf : ∀ a b, f a = f b → a = b) (ks : List α) (k : α) : addK (ks.map f) (f k) = (addA ks k).map f := by
  have e : (ks.map f).any (fun y => decide (y = f k)) = ks.any (fun y => decide (y = k)) := by
    rw [List.any_map]
    congr 1
    funext y
    show decide (f y = f k) = decide (y = k)
    by_cases h : y = k
    · rw [h, decide_eq_true rfl, decide_eq_true rfl]
    · rw [decide_eq_false h, decide_eq_false (fun q => h (hf _ _ q))]
  unfold addK addA
  rw [e]
  split
  · rfl
  · rw [List.map_append]; rfl
theorem dedA_map {α : Type} [DecidableEq α] {f : α → Key} (hf : ∀ a b, f a = f b → a = b) (ks : List α) : dedK (ks.map f) = (dedA ks).map f := by
  have : ∀ (ks acc : List α), (ks.map f).foldl addK (acc.map f) = (ks.foldl addA acc).map f := by
    intro ks
    induction ks with
    | nil => intro acc; rfl
    | cons k ks ih => intro acc; rw [List.map_cons, List.foldl_cons, List.foldl_cons, addA_map hf, ih]
  exact this ks []
theorem inr_inj (a b : Str) (h : (Sum.inr a : Key) = Sum.inr b) : a = b := Sum.inr.inj h
def sortSetS (ys : List Str) : Option (List Str) := if ys.length < 4000 ∧ (dedA ys).length < 64 then some (sortS (dedA ys)) else none
theorem mem_addA {α : Type} [DecidableEq α] {ks : List α} {k x : α} : x ∈ addA ks k ↔ x ∈ ks ∨ x = k := by
  unfold addA
  split
  · rename_i h
    obtain ⟨y, hy, e⟩ := List.any_eq_true.mp h
    have e := of_decide_eq_true e
    constructor
    · exact .inl
    · rintro (h | rfl)
      · exact h
      · exact e ▸ hy
  · rw [List.mem_append, List.mem_singleton]
theorem mem_dedA {α : Type} [DecidableEq α] {ks : List α} {x : α} : x ∈ dedA ks ↔ x ∈ ks := by
  have : ∀ (ks acc : List α), x ∈ ks.foldl addA acc ↔ x ∈ acc ∨ x ∈ ks := by
    intro ks
    induction ks with
    | nil => intro acc; simp
    | cons k ks ih => intro acc; rw [List.foldl_cons, ih, mem_addA, List.mem_cons, or_assoc]
  rw [dedA, this]
  simp
theorem nodup_dedA {α : Type} [DecidableEq α] (ks : List α) : (dedA ks).Nodup := by
  have : ∀ (ks acc : List α), acc.Nodup → (ks.foldl addA acc).Nodup := by
    intro ks
    induction ks with
    | nil => intro acc h; exact h
    | cons k ks ih =>
      intro acc h
      rw [List.foldl_cons]
      refine ih _ ?_
      unfold addA
      split
      · exact h
      · rename_i hn
        refine List.nodup_append.mpr ⟨h, by simp, fun a ha b hb e => hn ?_⟩
        rw [List.mem_singleton] at hb
        exact List.any_eq_true.mpr ⟨a, ha, decide_eq_true (e.trans hb)⟩
  exact this ks [] List.nodup_nil
section
variable {K : PySem.W.Frag} {σ : St} {G : Hp} {ta tb : TE} {w : World}
theorem strs_keys (a : List Str) : a.map V.str = (a.map (Sum.inr : Str → Key)).map kV := by rw [List.map_map]; rfl
theorem strs_rel {G2 : Hp} (zs : List Str) (h : ∀ y ∈ zs, y.length ≤ sizeLine) : Paired (Rp.rel K G2) (zs.map V.str) zs := by
  induction zs with
  | nil => exact .nil
  | cons y zs ih => exact .cons ⟨rfl, h y List.mem_cons_self⟩ (ih fun w hw => h w (List.mem_cons_of_mem _ hw))
/-- sorted(set(a list of texts)) -/
theorem fv_sortSetS {la : Option (List Str)} (ea : EV K ta σ G la) : FV K (tCB (rSortPS w) (tCons (tCB (rSetK w K) (tCons ta tNil)) tNil)) σ G (la.bind fun ys => sortSetS ys) := by
  intro G1 s1 c hc H sH Q k
  obtain ⟨a, ha, hc⟩ := Option.bind_eq_some_iff.mp hc
  obtain ⟨⟨h4, h64⟩, rfl⟩ := ite_some hc
  refine ea G1 s1 a ha H sH _ fun v G2 H2 x2 r2 => ?_
  obtain ⟨l, xs, rfl, h, z, p⟩ := r2
  have e := paired_strsR p
  subst e
  refine ⟨l, a.map Sum.inr, rfl, ?_, by rw [List.length_map]; exact h4, fun q hq => ?_⟩
  · rw [← strs_keys]; exact .inl (x2.gh.rd h)
  · rw [dedA_map inr_inj]
    refine ⟨q, dedA a, rfl, upd_same, h64, ?_⟩
    have x3 : Ext G2 H2 G2 (upd H2 q (SetO w q ((dedA a).map Sum.inr))) := .own x2.gh hq
    refine fv_of x3.gh ?_ (strs_rel _ fun y hy => paired_len p y (mem_dedA.mp ((sortS_perm _).mem_iff.mp hy))) (FV.mono (x2.trans x3) k)
    rw [List.length_map, (sortS_perm _).length_eq, sizeLine_eq]
    omega
end
end L2

set_option Elab.async false
set_option linter.all false
set_option maxRecDepth 100000
set_option maxHeartbeats 4000000
namespace L2
open PySem PySem.Spec PyProof.Rows
def lcg : Nat → Nat → Nat
  | 0, x => x
  | n + 1, x => lcg n (5 * x + 1)
def sumP : Nat → Nat
  | 0 => 0
  | n + 1 => sumP n + 5 ^ n
end L2

set_option Elab.async false
set_option linter.all false
set_option maxRecDepth 100000
set_option maxHeartbeats 4000000
namespace L2
open PySem PySem.Spec PyProof.Rows
def leaps (mask : Nat) : Nat → Nat × Nat → Nat × Nat
  | 0, p => p
  | n + 1, p => leaps mask n (SetTable.leap mask p.1 p.2)
/-- who sits where, as far as it is laid -/
structure LaidTo (mask n : Nat) (ow : Array (Option Nat)) : Prop where
  size : ow.size = mask + 1
  perm : (ow.toList.filterMap id).Perm (List.range n)
end L2

set_option Elab.async false
set_option linter.all false
set_option maxRecDepth 100000
set_option maxHeartbeats 4000000
namespace L2
open PySem PySem.Spec PyProof.Rows
def Pw (t : SetTable) : Prop := ∃ k, t.mask + 1 = 2 ^ k
/-- a set that others may be put into -/
def SetM (w : World) (h : Heap) (a : Addr) (ks : List Key) : Prop := ∃ o es ep t, h.get? a = some o ∧ SObj w o es ep t ks ∧ (ks = [] → Pw t)
theorem SetM.is {w : World} {h : Heap} {a : Addr} {ks : List Key} (x : SetM w h a ks) : SetIs w h a ks := by
  obtain ⟨o, es, ep, t, g, S, _⟩ := x
  exact ⟨o, es, ep, t, g, S⟩
theorem SetM.of {w : World} {h : Heap} {a : Addr} {ks : List Key} (x : SetIs w h a ks) (hn : ks ≠ []) : SetM w h a ks := by
  obtain ⟨o, es, ep, t, g, S⟩ := x
  exact ⟨o, es, ep, t, g, S, fun e => absurd e hn⟩
section
variable {prog : Program} {w : World} {A : Around} {E : Value → Shared → Prop} {s : Shared}
end
end L2

set_option Elab.async false
set_option linter.all false
set_option maxRecDepth 100000
set_option maxHeartbeats 4000000
namespace L2
open PySem PySem.Spec PyProof.Rows
section
variable {prog : Program} {w : World} {A : Around} {E : Value → Shared → Prop} {s : Shared}
end
end L2

set_option Elab.async false
set_option linter.all false
set_option maxRecDepth 100000
set_option maxHeartbeats 4000000
namespace L2
open PySem PySem.Spec PyProof.Rows
section
variable {prog : Program} {w : World} {A : Around} {E : Value → Shared → Prop} {s : Shared}
end
end L2

set_option Elab.async false
set_option linter.all false
set_option maxRecDepth 100000
set_option maxHeartbeats 4000000
namespace L2
open PySem PySem.Spec PyProof.Rows
section
variable {prog : Program} {w : World} {A : Around} {E : Value → Shared → Prop} {s : Shared}
end
end L2

set_option Elab.async false
set_option linter.all false
set_option maxRecDepth 100000
set_option maxHeartbeats 4000000
namespace L2
open PySem PySem.Spec PyProof.Rows
def rOrK (w : World) : R2 := fun x y H Q => ∃ (p q : Addr) (ka kb : List Key), x = .ref p ∧ y = .ref q ∧ p ≠ q ∧ H p = some (SetO w p ka) ∧ H q = some (SetO w q kb) ∧ ka.Nodup ∧ kb.Nodup ∧ ka.length + kb.length < 4000 ∧ ∀ r, H r = none → Q (.ref r) (upd H r (SetO w r (dedK (ka ++ kb))))
def sortOrZ (xs ys : List Int) : Option (List Int) := if xs.length < 1900 ∧ ys.length < 1900 ∧ (dedA (xs ++ ys)).length < 64 then some (sortZ (dedA (xs ++ ys))) else none
def sortOrT (x y : Str) : Option (List Str) := if x.length < 1900 ∧ y.length < 1900 ∧ (dedA (signsO x ++ signsO y)).length < 64 then some (sortS (dedA (signsO x ++ signsO y))) else none
def sortSetZ (ys : List Int) : Option (List Int) := if ys.length < 4000 ∧ (dedA ys).length < 64 then some (sortZ (dedA ys)) else none
section
variable {K : PySem.W.Frag} {σ : St} {G : Hp} {ta tb : TE} {w : World}
end
end L2

set_option Elab.async false
set_option linter.all false
set_option maxRecDepth 100000
set_option maxHeartbeats 4000000
namespace L2
open PySem PySem.Spec PyProof.Rows
structure MpF (α : Type) where
  l : List (Int × α)
instance rpMpF {α : Type} [Rp α] : Rp (MpF α) := ⟨fun K H v a => ∃ p o kvs, v = .ref p ∧ H p = some (.frz o (.dK kvs)) ∧ Paired (RelE K H) kvs a.l,
  fun s ⟨p, o, kvs, e, h, pr⟩ => ⟨p, o, kvs, e, s _ _ h, Paired.imp' (fun _ _ r => ⟨r.1, Rp.mono s r.2⟩) pr⟩⟩
def tFrz (i : Nat) : TE := fun σ H Q => ∃ v p kvs, σ[i]? = some (some v) ∧ v = .ref p ∧ H p = some (.dK kvs) ∧ ∀ o, Q v (upd H p (.frz o (.dK kvs)))
section
variable {K : PySem.W.Frag} {σ : St} {G H G0 H0 : Hp} {α β : Type} [Rp α] [Rp β] {ta td ti : TE} {rest : TS} {D : Ends} {i : Nat} {a : Mp α} {v : V} {p : Addr} {kvs : List (Key × V)}
end
def epOf (o : Obj) : Nat := match o.data with
  | .dict _ ep => ep
  | _ => 0
def ItF (p : Addr) (o : Obj) (kvs : List (Key × V)) : It :=
  ⟨fun i H => H p = some (.frz o (.dK kvs)) ∧ i < kvs.length, fun i H x H' => H' = H ∧ (kvs.map fun q => kV q.1)[i]? = some x, fun i H => H p = some (.frz o (.dK kvs)) ∧ kvs.length ≤ i⟩
def iFrz (tl : TE) : TI := fun σ H R => tl σ H fun v H1 => ∃ p o kvs, v = .ref p ∧ H1 p = some (.frz o (.dK kvs)) ∧ R (ItF p o kvs) H1
def rLenF : List V → Hp → VK → Prop := fun vs H Q => ∃ p o kvs, vs = [.ref p] ∧ H p = some (.frz o (.dK kvs)) ∧ Q (.int (kvs.length : Int)) H
section
variable {K : PySem.W.Frag} {σ : St} {G : Hp} {α : Type} [Rp α] {ta : TE}
def keysO (m : MpF α) : Option (List Int) := if m.l.length ≤ sizeLine then some (m.l.map (·.1)) else none
end
end L2

set_option Elab.async false
set_option linter.all false
set_option maxRecDepth 100000
set_option maxHeartbeats 4000000
namespace L2
open PySem PySem.Spec PyProof.Rows
def rotO {α : Type} : List α → Option (List α)
  | [] => none
  | a :: r => if r.length < sizeLine then some (r ++ [a]) else none
section
variable {K : PySem.W.Frag} {σ : St} {G H : Hp} {α : Type} [Rp α] {rest : TS} {D : Ends} {i : Nat} {as as' : List α} {v : V} {p : Addr} {vs : List V}
end
end L2

set_option Elab.async false
set_option linter.all false
set_option maxRecDepth 100000
set_option maxHeartbeats 4000000
namespace L2
open PySem PySem.Spec PyProof.Rows
def rExtendT (K : PySem.W.Frag) : V → List V → Hp → VK → Prop := fun x vs H Q => ∃ l b xs zs, x = .ref l ∧ vs = [.ref b] ∧ H l = some (.lst xs) ∧ SqT K H b zs ∧ xs.length + zs.length ≤ sizeLine ∧ Q .non (upd H l (.lst (xs ++ zs)))
theorem mt_extendT {X : Cx} {K : PySem.W.Frag} (hK : X.K = K) : MtM X "list.extend" (rExtendT K) := by
  subst hK
  intro pins s σ H x vs v us Q I rx rv h
  obtain ⟨l, b, xs, zs, rfl, rfl, hH, hB, hz, q⟩ := h
  cases rx
  obtain ⟨u, rfl, ru⟩ := rv.one
  cases ru
  obtain ⟨z, its, n, r, hl, e⟩ := I.lstM hH
  obtain ⟨its2, r2, ⟨o2, g2, c2, n2, d2⟩, _⟩ := I.tuple hB
  have h1 := r.length
  have h2 := r2.length
  have hsz : its.toArray.size + its2.toArray.size ≤ sizeLine := by rw [List.size_toArray, List.size_toArray]; omega
  refine wpAny_call_entry F.slot_list_extend ⟨_, e, rfl⟩ F.entry_list_extend ?_ (F.args_list_extend_2 _ _)
  unfold Builtin.«list.extend»
  refine wpAny_bind (wpAny_pure ?_)
  dsimp only
  unfold Builtin.List.listExtendWith
  refine wpAny_bind (wpAny_typeOf (T := "tuple") ⟨o2, g2, c2⟩ ?_)
  have ht : (Value.type "tuple" == Value.type "tuple") = true := by rfl
  rw [if_pos (by rw [ht]; simp)]
  refine wpAny_bind (listItems_at g2 d2 (wpAny_bind (listItems_at e rfl ?_)))
  rw [if_neg (by rw [notLongL hsz, Bool.and_false]; exact Bool.false_ne_true)]
  refine wpAny_bind (listUpdate_at e rfl ?_ (by omega) (by rw [Array.size_append]; omega))
  refine wpAny_pure ⟨_, rfl, .non, _, I.lset (its' := its ++ its2) (t' := s.toks) hH e (by simp) (r.append r2) ?_, rfl, q⟩
  rw [List.length_append]
  omega
section
variable {K : PySem.W.Frag} {σ : St} {G H : Hp} {α : Type} [Rp α] {te : TE} {rest : TS} {D : Ends} {i : Nat} {m : Option (Tp α)} {b : Tp α} {as as' : List α} {v : V} {p : Addr} {vs : List V}
theorem sv_extendTB [Imm (Tp α)] (hσ : σ[i]? = some (some v)) (o : Own K G H v p vs as) (e : EV K te σ (upd G p (.lst vs)) m) (hm : m = some b) (hp : extO as b.l = some as') (s : Same G H)
    (k : ∀ G2 H2 ws, Ext G H G2 H2 → Own K G2 (upd H2 p (.lst (vs ++ ws))) v p (vs ++ ws) as' → rest D σ (upd H2 p (.lst (vs ++ ws)))) : tSeq (tDrop (tBM K "list" (rExtendT K) (tVar i) (tCons te tNil))) rest D σ H := by
  obtain ⟨hl, rfl⟩ := ite_some hp
  have hlen := Paired.length o.p
  have ov := o.v
  subst ov
  refine ⟨_, hσ, .inl ⟨rfl, _, SqL.of o.h⟩, ?_⟩
  refine EV.runB o e hm s fun w G2 H2 x r => ?_
  have o2 := o.ext x
  obtain ⟨q, ws, rfl, hq, hz, hpr⟩ := r
  have hlw := Paired.length hpr
  refine ⟨p, q, vs, ws, rfl, rfl, o2.h, x.gh.tup hq, by omega, ?_⟩
  refine k G2 H2 ws x ⟨rfl, o2.g, upd_same, ?_, Paired.app o2.p hpr⟩
  rw [List.length_append]
  omega
theorem sv_extendT (hσ : σ[i]? = some (some v)) (o : Own K G H v p vs as) (e : EV K te σ G m) (hm : m = some b) (hp : extO as b.l = some as') (s : Same G H)
    (k : ∀ G2 H2 ws, Ext G H G2 H2 → Own K G2 (upd H2 p (.lst (vs ++ ws))) v p (vs ++ ws) as' → rest D σ (upd H2 p (.lst (vs ++ ws)))) : tSeq (tDrop (tBM K "list" (rExtendT K) (tVar i) (tCons te tNil))) rest D σ H := by
  obtain ⟨hl, rfl⟩ := ite_some hp
  have hlen := Paired.length o.p
  have ov := o.v
  subst ov
  refine ⟨_, hσ, .inl ⟨rfl, _, SqL.of o.h⟩, ?_⟩
  refine e.run hm s fun w G2 H2 x r => ?_
  have o2 := o.ext x
  obtain ⟨q, ws, rfl, hq, hz, hpr⟩ := r
  have hlw := Paired.length hpr
  refine ⟨p, q, vs, ws, rfl, rfl, o2.h, x.gh.tup hq, by omega, ?_⟩
  refine k G2 H2 ws x ⟨rfl, o2.g, upd_same, ?_, Paired.app o2.p hpr⟩
  rw [List.length_append]
  omega
end
structure MpS (α : Type) where
  l : List (Str × α)
def putSM {α : Type} (l : List (Str × α)) (k : Str) (a : α) : List (Str × α) := if (l.any fun q => decide (q.1 = k)) = true then l.map (fun q => if q.1 = k then (q.1, a) else q) else l ++ [(k, a)]
def putSO {α : Type} (m : MpS α) (k : Str) (a : α) : Option (MpS α) := if m.l.length < sizeLine then some ⟨putSM m.l k a⟩ else none
def hasS {α : Type} (l : List (Str × α)) (k : Str) : Bool := l.any fun q => decide (q.1 = k)
def RelS (K : PySem.W.Frag) {α : Type} [Rp α] (H : Hp) (kv : Key × V) (q : Str × α) : Prop := kv.1 = .inr q.1 ∧ Rp.rel K H kv.2 q.2
instance rpMpS {α : Type} [Rp α] : Rp (MpS α) := ⟨fun K H v a => ∃ p kvs, v = .ref p ∧ H p = some (.dK kvs) ∧ Paired (RelS K H) kvs a.l,
  fun s ⟨p, kvs, e, h, pr⟩ => ⟨p, kvs, e, s _ _ h, Paired.imp' (fun _ _ r => ⟨r.1, Rp.mono s r.2⟩) pr⟩⟩
structure OwnS (K : PySem.W.Frag) {α : Type} [Rp α] (G H : Hp) (v : V) (p : Addr) (kvs : List (Key × V)) (a : MpS α) : Prop where
  v : v = .ref p
  g : G p = none
  h : H p = some (.dK kvs)
  p : Paired (RelS K G) kvs a.l
section
variable {K : PySem.W.Frag} {σ : St} {G H G1 H1 G0 H0 : Hp} {α β : Type} [Rp α] [Rp β] {td te ti : TE} {rest : TS} {D : Ends} {i : Nat} {a : MpS α} {v : V} {p q : Addr} {kvs : List (Key × V)}
theorem OwnS.ext (o : OwnS K G H v p kvs a) (x : Ext G H G1 H1) : OwnS K G1 H1 v p kvs a :=
  ⟨o.v, x.no p o.g (by rw [o.h]; exact fun z => nomatch z), x.hh _ _ o.h, Paired.imp' (fun _ _ r => ⟨r.1, Rp.mono x.gg r.2⟩) o.p⟩
theorem OwnS.put {ho : HO} (o : OwnS K G H v p kvs a) (h : p ≠ q) : OwnS K G (upd H q ho) v p kvs a := ⟨o.v, o.g, by rw [upd_ne h]; exact o.h, o.p⟩
theorem OwnS.tell (o : OwnS K G H v p kvs a) : Rp.rel K (upd G p (.dK kvs)) v a := ⟨p, kvs, o.v, upd_same, Paired.imp' (fun _ _ r => ⟨r.1, Rp.mono (Same.new o.g) r.2⟩) o.p⟩
theorem OwnS.over {o : HO} (h : OwnS K G H v p kvs a) (ne : p ≠ q) (hq : G q = none) : OwnS K (upd G q o) H v p kvs a :=
  ⟨h.v, by rw [upd_ne ne]; exact h.g, h.h, Paired.imp' (fun _ _ r => ⟨r.1, Rp.mono (Same.new hq) r.2⟩) h.p⟩
end
section
variable {X : Cx} {i o : Expr} {ty td : TE} {pos : Pos}
end
end L2

set_option Elab.async false
set_option linter.all false
set_option maxRecDepth 100000
set_option maxHeartbeats 4000000
namespace L2
open PySem PySem.Spec PyProof.Rows
section
variable {prog : Program} {w : World} {A : Around} {E : Value → Shared → Prop} {s : Shared}
def ZObj (f0 f1 : Value) (TI TO : Addr) : Obj := { cls := .type "zip", dict := none, data := .fields #[f0, f1, .bool false, .ref TI, .ref TO], slots := #[] }
structure ZAp (z TI TO i1 i2 l t : Addr) : Prop where
  a : TI ≠ z ∧ TO ≠ z ∧ i1 ≠ z ∧ i2 ≠ z
  b : TI ≠ TO ∧ TI ≠ i1 ∧ TI ≠ i2 ∧ TO ≠ i1 ∧ TO ≠ i2 ∧ i1 ≠ i2
  c : l ≠ z ∧ l ≠ TO ∧ l ≠ i1 ∧ l ≠ i2
  d : t ≠ z ∧ t ≠ TO ∧ t ≠ i1 ∧ t ≠ i2
/-- a zip that has told k pairs -/
structure ZS (h : Heap) (z TI TO i1 i2 l t : Addr) (xs ys : Array Value) (k : Nat) : Prop where
  z : ∃ f0 f1, h.get? z = some (ZObj f0 f1 TI TO) ∧ (f0 = .none ∨ ∃ (T : Addr) (o : Obj), f0 = rawInt T ∧ h.get? T = some o)
  ti : IsPair h TI (.ref i1) (.ref i2)
  to : ∃ a b, IsPair h TO a b
  i1 : h.IsListIter i1 l k
  i2 : h.IsTupleIter i2 t k
  l : h.IsList l xs
  t : h.IsTuple t ys
theorem ZS.keep {h h' : Heap} {z TI TO i1 i2 l t : Addr} {xs ys : Array Value} {k : Nat} (Z : ZS h z TI TO i1 i2 l t xs ys k) (e : ∀ c o, h.get? c = some o → h'.get? c = some o) : ZS h' z TI TO i1 i2 l t xs ys k := by
  obtain ⟨⟨f0, f1, gz, hf⟩, ti, ⟨a, b, to⟩, j1, j2, hl, ht⟩ := Z
  refine ⟨⟨f0, f1, e _ _ gz, hf.imp id fun ⟨T, o, q1, q2⟩ => ⟨T, o, q1, e _ _ q2⟩⟩, e _ _ ti, ⟨a, b, e _ _ to⟩, j1.at fun o q => e _ _ q, ?_, hl.at fun o q => e _ _ q, ?_⟩
  · obtain ⟨o, g, r⟩ := j2; exact ⟨o, e _ _ g, r⟩
  · obtain ⟨o, g, r⟩ := ht; exact ⟨o, e _ _ g, r⟩
end
end L2

set_option Elab.async false
set_option linter.all false
set_option maxRecDepth 100000
set_option maxHeartbeats 4000000
namespace L2
open PySem PySem.Spec PyProof.Rows
section
variable {prog : Program} {w : World} {A : Around} {E : Value → Shared → Prop} {s : Shared} {z TI TO : Addr} {f0 f1 : Value}
end
end L2

set_option Elab.async false
set_option linter.all false
set_option maxRecDepth 100000
set_option maxHeartbeats 4000000
namespace L2
open PySem PySem.Spec PyProof.Rows
section
variable {prog : Program} {w : World} {A : Around} {E : Value → Shared → Prop} {s : Shared}
/-- dict(zip): the pairs, one by one -/
def zipD (ks : List (Key × Value)) (m : List (Key × Value)) : List (Key × Value) := ks.foldl (fun m q => stored m q.1 q.2) m
end
end L2

set_option Elab.async false
set_option linter.all false
set_option maxRecDepth 100000
set_option maxHeartbeats 4000000
namespace L2
open PySem PySem.Spec PyProof.Rows
abbrev zT1 (h : Heap) (l : Addr) : Heap := h.push { cls := .type "list_iterator", data := .fields #[.ref l, .int 0 0] }
abbrev zT2 (h : Heap) (l t : Addr) : Heap := (zT1 h l).push { cls := .type "tuple_iterator", data := .fields #[.ref t, .int 0 0] }
abbrev zT3 (h : Heap) (l t : Addr) : Heap := (zT2 h l t).push { cls := .type "tuple", data := .seq #[.ref h.objs.size, .ref (zT1 h l).objs.size] }
abbrev zT4 (h : Heap) (l t : Addr) : Heap := (zT3 h l t).push { cls := .type "tuple", data := .seq #[.none, .none] }
abbrev zT5 (h : Heap) (l t : Addr) : Heap := (zT4 h l t).push { cls := .type "zip", data := .fields #[.none, .bool false, .bool false, .ref (zT2 h l t).objs.size, .ref (zT3 h l t).objs.size] }
section
variable {prog : Program} {w : World} {A : Around} {E : Value → Shared → Prop} {s : Shared}
end
def tDictZ (K : PySem.W.Frag) (ta : TA) : TE := fun σ H Q => ta σ H fun us H1 => ∃ (l t : Addr) (ns : List Int) (ys : List V), us = [.ref l, .ref t] ∧ SqL K H1 l (ns.map V.int) ∧ SqT K H1 t ys ∧ ns.length = ys.length ∧ ns.length < 4000 ∧
  ∀ p, H1 p = none → Q (.ref p) (upd H1 p (.dK (((ns.map Sum.inl).zip ys).foldl (fun m q => putK m q.1 q.2) [])))
end L2

set_option Elab.async false
set_option linter.all false
set_option maxRecDepth 100000
set_option maxHeartbeats 4000000
namespace L2
open PySem PySem.Spec PyProof.Rows
def dictZ {α : Type} (ns : List Int) (bs : List α) : Option (Mp α) := if ns.length = bs.length ∧ ns.length < 4000 then some ⟨(ns.zip bs).foldl (fun m q => putM m q.1 q.2) []⟩ else none
section
variable {K : PySem.W.Frag} {σ : St} {G H G0 H0 : Hp} {α β : Type} [Rp α] [Rp β] {ta tb : TE}
end
end L2

set_option Elab.async false
set_option linter.all false
set_option maxRecDepth 100000
set_option maxHeartbeats 4000000
namespace L2
open PySem PySem.Spec PyProof.Rows
def getC : List (Str × Int) → Str → Option Int
  | [], _ => none
  | (y, i) :: r, x => cond (decide (y = x)) (some i) (getC r x)
def EntC : List DictEntry → List (Str × Int) → Prop
  | [], [] => True
  | e :: es, q :: l => (∃ t u, e.key = .str q.1 t ∧ e.val = .int q.2 u) ∧ EntC es l
  | _, _ => False
structure CDict (w : World) (K : PySem.W.Frag) (a : Addr) (l : List (Str × Int)) : Prop where
  lo : (a == sysModules) = false
  ex : ∃ es n, K.lookup a = some ⟨.type "dict", none, .dict es n, #[]⟩ ∧ PySem.W.KeysLit w.params es.toList ∧ EntC es.toList l
theorem find_ent : ∀ {es : List DictEntry} {l : List (Str × Int)} (x : Str), EntC es l →
    match getC l x with
    | some i => ∃ u, (es.find? fun e => Value.isStrOf x e.key).map (·.val) = some (.int i u)
    | none => (es.find? fun e => Value.isStrOf x e.key).map (·.val) = none
  | [], [], x, _ => rfl
  | e :: es, (y, i) :: l, x, ⟨⟨t, u, h1, h2⟩, r⟩ => by
    have ih := find_ent x r
    have hk : Value.isStrOf x e.key = decide (y = x) := by
      rw [h1]
      show Value.isStrOf x (.str y t) = _
      by_cases q : y = x
      · subst q; simp [Value.isStrOf]
      · rw [decide_eq_false q]
        simp [Value.isStrOf, q]
    unfold getC
    rw [List.find?_cons, hk]
    by_cases q : y = x
    · rw [decide_eq_true q]
      exact ⟨u, by rw [← h2]; rfl⟩
    · rw [decide_eq_false q]
      exact ih
section
variable {X : Cx} {i o : Expr} {ty : TE} {pos : Pos} {a : Addr} {w : World} {K : PySem.W.Frag} {l : List (Str × Int)}
theorem CDict.map {prog : Program} {h : Heap} (C : CDict w K a l) (X : K.In h) : ∃ f, h.MapOf (strKind prog w) a f ∧ ∀ x, match getC l x with
    | some i => ∃ u, f x = some (.int i u)
    | none => f x = none := by
  obtain ⟨es, n, hl, hk, he⟩ := C.ex
  refine ⟨_, PySem.W.mapOf_K X hl hk, fun x => ?_⟩
  have := find_ent x he
  obtain ⟨es⟩ := es
  show match getC l x with
    | some i => ∃ u, findBy Value.isStrOf _ x = some (.int i u)
    | none => findBy Value.isStrOf _ x = none
  unfold findBy
  rw [List.find?_toArray]
  exact this
def tInC (l : List (Str × Int)) (ty : TE) : TE := fun σ H Q => ty σ H fun y H1 => ∃ z, y = .str z ∧ Q (.bl (getC l z).isSome) H1
def tGetC (l : List (Str × Int)) (ty : TE) : TE := fun σ H Q => ty σ H fun y H1 => ∃ z v, y = .str z ∧ getC l z = some v ∧ Q (.int v) H1
theorem pc_inC (hw : X.w = w) (hK : X.K = K) (C : CDict w K a l) (hi : PE X i ty) (ho : PE X o (tC (.ref a))) : PC X .In i o (tInC l ty) := by
  subst hw hK
  intro pins s σ H Q I h
  refine thn (hi pins s σ H _ I h) fun iv s1 ⟨y, H1, I1, ry, z, ey, q1⟩ => thn (ho pins s1 σ H1 (fun v H' => v = .ref a ∧ H' = H1) I1 ⟨rfl, rfl⟩) fun u s2 ⟨x, H2, I2, rx, e1, e2⟩ => ?_
  subst ey e1 e2
  obtain ⟨t, rfl⟩ := ry
  obtain rfl : u = Value.ref a := rx
  obtain ⟨f, hf, hx⟩ := C.map (prog := X.prog) (fun b o e => I2.kIn b o e)
  refine wpAny_in_of (strKind_is X.prog X.w z t) C.lo hf ⟨.bl (f z).isSome, H2, I2.tok _, rfl, ?_⟩
  have hz := hx z
  cases e : getC l z with
  | some i =>
    rw [e] at hz q1
    obtain ⟨u, hz⟩ := hz
    rw [hz]
    exact q1
  | none =>
    rw [e] at hz q1
    rw [show f z = none from hz]
    exact q1
theorem pe_inC (hw : X.w = w) (hK : X.K = K) (C : CDict w K a l) (hi : PE X i ty) (ho : PE X o (tC (.ref a))) (hm : behindInMarks .In o = false) : PE X (.Compare i [.In] [o] pos) (tInC l ty) := pe_cmp (pc_inC hw hK C hi ho) hm
theorem pe_getC (hw : X.w = w) (hK : X.K = K) (C : CDict w K a l) (ho : PE X o (tC (.ref a))) (hi : PE X i ty) (hs : NoSl i) : PE X (.Subscript o i pos) (tGetC l ty) := by
  subst hw hK
  intro pins s σ H Q I h
  refine subD_of PySem.F.slot_dict_getitem.lookup hs (thn (ho pins s σ H (fun v H' => v = .ref a ∧ H' = H) I ⟨rfl, rfl⟩) fun u s1 ⟨x, H1, I1, rx, e1, e2⟩ => ?_)
  subst e1 e2
  refine thn (hi pins s1 σ H1 _ I1 h) fun iv s2 ⟨y, H2, I2, ry, z, v, ey, g, q2⟩ => ?_
  subst ey
  obtain ⟨t, rfl⟩ := ry
  obtain rfl : u = Value.ref a := rx
  obtain ⟨f, hf, hx⟩ := C.map (prog := X.prog) (fun b o e => I2.kIn b o e)
  have hz := hx z
  rw [g] at hz
  obtain ⟨u, hz⟩ := hz
  exact ⟨hf.typeIs, wpAny_getItem_of (strKind_is X.prog X.w z t) hf hz ⟨.int v, H2, I2.tok _, ⟨u, rfl⟩, q2⟩⟩
end
section
variable {K : PySem.W.Frag} {σ : St} {G : Hp} {ty : TE} {l : List (Str × Int)}
theorem ev_inC {mx : Option Str} (e : EV K ty σ G mx) : EV K (tInC l ty) σ G (mx.bind fun x => some (getC l x).isSome) := by
  intro G1 s1 c hc H sH Q k
  obtain ⟨x, hx, hc⟩ := Option.bind_eq_some_iff.mp hc
  cases hc
  refine e G1 s1 x hx H sH _ fun v G2 H2 x2 r2 => ?_
  exact ⟨x, r2.1, k _ G2 H2 x2 rfl⟩
theorem ev_getC {mx : Option Str} (e : EV K ty σ G mx) : EV K (tGetC l ty) σ G (mx.bind fun x => getC l x) := by
  intro G1 s1 c hc H sH Q k
  obtain ⟨x, hx, hc⟩ := Option.bind_eq_some_iff.mp hc
  refine e G1 s1 x hx H sH _ fun v G2 H2 x2 r2 => ?_
  exact ⟨x, c, r2.1, hc, k _ G2 H2 x2 rfl⟩
end
end L2

set_option Elab.async false
set_option linter.all false
set_option maxRecDepth 100000
set_option maxHeartbeats 4000000
namespace HT
open PySem PySem.Spec PyProof.Rows
section
variable {prog : Program} {w : World} {A : Around} {E : Value → Shared → Prop} {s : Shared}
theorem getItem_tuple_all {t sl : Addr} {items : Array Value} {vl vu : Value} {lo hi : Option Int} {Q : Value → Shared → Prop} (ht : IsTup s.heap t items) (hs : s.heap.IsSliceOf sl vl vu .none) (pl : IsPart vl lo) (pu : IsPart vu hi)
    (hw : sIx items.size 0 lo = 0 ∧ sIx items.size items.size hi = items.size) (h : Q (.ref t) s) : wpAny (model prog w) A (getItem (.ref t) (.ref sl)) Q E s := by
  obtain ⟨os, hos, hcs, hds⟩ := id hs
  have hTs : s.TypeIs (.ref sl) "slice" := ⟨os, hos, hcs⟩
  unfold getItem
  try with_reducible refine wpAny_holding ?_
  first | refine wpAny_bind (wpAny_pure ?_) | skip
  refine wpAny_bind (wpAny_sequenceKey ht.typeIs (by decide) ?_)
  refine wpAny_bind (wpAny_callSpecial?_slot (name := Str.ofString "__getitem__") ht.typeIs PyProof.Rows.slot_tuple_getitem (wpAny_call_entry PyProof.Rows.slot_tuple_getitem ht.typeIs entry_tuple_getitem ?_ (args_tuple_getitem _ _)))
  show wpAny _ _ (Builtin.Tuple.tupleItemsOf (.ref t) >>= _) _ _ s
  refine wpAny_bind (tupleItemsOf_ ht ?_)
  refine wpAny_bind (wpAny_typeOf hTs ?_)
  rw [if_pos (by decide)]
  refine wpAny_bind (sliceApplied_gen hs pl pu ?_)
  show wpAny _ _ (if (((sIx items.size 0 lo : Nat) : Int) == 0 && (1 : Int) == 1 && (sIx items.size items.size hi - sIx items.size 0 lo) == items.size) = true then _ else _) _ _ s
  rw [if_pos (by rw [hw.1, hw.2]; simp)]
  refine wpAny_bind ?_
  unfold Builtin.Tuple.tupleIsExact
  refine wpAny_bind (wpAny_typeOf ht.typeIs (wpAny_pure ?_))
  rw [if_pos (by decide)]
  refine wpAny_bind (wpAny_rule ?_)
  exact wpAny_pure ⟨_, rfl, wpAny_pure h⟩
end
end HT
namespace L2
open PySem PySem.Spec PyProof.Rows
def rSlA (K : PySem.W.Frag) : V → Option Int → Option Int → Hp → VK → Prop := fun x lo hi H Q => ∃ a xs, x = .ref a ∧ SqT K H a xs ∧
  ((HT.sIx xs.length 0 lo = 0 ∧ HT.sIx xs.length xs.length hi = xs.length) → Q (.ref a) H) ∧
  (¬ (HT.sIx xs.length 0 lo = 0 ∧ HT.sIx xs.length xs.length hi = xs.length) → ∀ p, H p = none → Q (.ref p) (upd H p (.tup (cutV xs lo hi))))
theorem sl_tupA {X : Cx} {K : PySem.W.Frag} (h : X.K = K) : SlR X (rSlA K) := by
  subst h
  intro pins s σ H x v vl vu lo hi sl Q I rx hs pl pu h
  obtain ⟨a, xs, rfl, hx, q1, q2⟩ := h
  by_cases hw : HT.sIx xs.length 0 lo = 0 ∧ HT.sIx xs.length xs.length hi = xs.length
  · cases rx
    obtain ⟨its, r, ht, hz⟩ := I.tuple hx
    have hlen : its.toArray.size = xs.length := by rw [List.size_toArray]; exact r.length.symm
    exact ⟨"tuple", _, PyProof.Rows.slot_tuple_getitem.lookup, ht.typeIs, HT.getItem_tuple_all ht hs pl pu (by rw [hlen]; exact hw) ⟨.ref a, H, I, rfl, q1 hw⟩⟩
  · exact sl_tup pins s σ H _ v vl vu lo hi sl Q I rx hs pl pu ⟨a, xs, rfl, hx, hw, q2 hw⟩
section
variable {K : PySem.W.Frag} {σ : St} {G : Hp} {α : Type} [Rp α] {ta tb tc te : TE} {t1 t2 : TO} {sa sb sc : Option Str} {m1 m2 : Option (Option Int)}
theorem cutA_all {α : Type} {l : List α} {lo hi : Option Int} (h : HT.sIx l.length 0 lo = 0 ∧ HT.sIx l.length l.length hi = l.length) : cutA l lo hi = l := by
  unfold cutA
  rw [h.1, h.2]
  simp
theorem ev_sliceTA {ma : Option (Tp α)} (ea : EV K ta σ G ma) (e1 : OV t1 σ G m1) (e2 : OV t2 σ G m2) : EV K (tSl (rSlA K) ta t1 t2) σ G (ma.bind fun a => m1.bind fun lo => m2.bind fun hi => some (Tp.mk (cutA a.l lo hi))) := by
  intro G1 s1 c hc H sH Q k
  obtain ⟨a, ha, hc⟩ := Option.bind_eq_some_iff.mp hc
  obtain ⟨lo, hlo, hc⟩ := Option.bind_eq_some_iff.mp hc
  obtain ⟨hi, hhi, hc⟩ := Option.bind_eq_some_iff.mp hc
  cases hc
  refine ea G1 s1 a ha H sH _ fun v G2 H2 x2 r2 => ?_
  refine e1 G2 (s1.trans x2.gg) lo hlo H2 x2.gh _ fun G3 H3 x3 => ?_
  refine e2 G3 (s1.trans (x2.trans x3).gg) hi hhi H3 x3.gh _ fun G4 H4 x4 => ?_
  obtain ⟨l, xs, rfl, h, z, p⟩ := Rp.mono (x3.trans x4).gg r2
  have hl := Paired.length p
  refine ⟨l, xs, rfl, x4.gh.tup h, fun hw => ?_, fun hw q hq => ?_⟩
  · rw [hl] at hw
    rw [cutA_all hw] at k
    exact k _ G4 H4 ((x2.trans x3).trans x4) ⟨l, xs, rfl, h, z, p⟩
  · have hg : G4 q = none := x4.gh.free hq
    exact k _ (upd G4 q (.tup (cutV xs lo hi))) _ (((x2.trans x3).trans x4).trans (.new x4.gh hq)) ⟨q, _, rfl, .inl (.inl upd_same), Nat.le_trans (cutV_length _ _ _) z, Paired.imp' (fun _ _ r => Rp.mono (Same.new hg) r) (Paired.cut p lo hi)⟩
theorem ev_chainS {p p' : Int → Int → Bool} {q q' : List Nat → List Nat → Bool} (ea : EV K ta σ G sa) (eb : EV K tb σ G sb) (ec : EV K tc σ G sc) :
    EV K (tChain (rOrd p q) (rOrd p' q') ta tb tc) σ G (sa.bind fun a => sb.bind fun b => cond (q a.cps.toList b.cps.toList) (sc.bind fun c => some (q' b.cps.toList c.cps.toList)) (some false)) := by
  intro G1 s1 r hr H sH Q k
  obtain ⟨a, ha, hr⟩ := Option.bind_eq_some_iff.mp hr
  obtain ⟨b, hb, hr⟩ := Option.bind_eq_some_iff.mp hr
  refine ea G1 s1 a ha H sH _ fun v G2 H2 x2 r2 => ?_
  refine eb G2 (s1.trans x2.gg) b hb H2 x2.gh _ fun u G3 H3 x3 r3 => ?_
  obtain ⟨rfl, _⟩ := r2
  obtain ⟨rfl, _⟩ := r3
  refine ⟨q a.cps.toList b.cps.toList, rfl, ?_⟩
  cases hp : q a.cps.toList b.cps.toList with
  | false =>
    rw [hp] at hr
    cases hr
    rw [if_neg Bool.false_ne_true]
    exact k _ _ _ (x2.trans x3) rfl
  | true =>
    rw [hp] at hr
    obtain ⟨c, hc, hr⟩ := Option.bind_eq_some_iff.mp (cT hr)
    cases hr
    rw [if_pos rfl]
    refine ec G3 (s1.trans (x2.trans x3).gg) c hc H3 x3.gh _ fun w G4 H4 x4 r4 => ?_
    obtain ⟨rfl, _⟩ := r4
    exact k _ _ _ ((x2.trans x3).trans x4) rfl
end
end L2

set_option Elab.async false
set_option linter.all false
set_option maxRecDepth 100000
set_option maxHeartbeats 4000000
namespace My
open PySem PySem.Spec PyProof.Rows L2
abbrev c_PARTS : List (Str × Int) := [("yes", 0), ("no", 0), ("not", 1), ("next", 1), ("atlast", 1), ("always", 1), ("again", 1), ("settles", 1), ("and", 2), ("or", 2), ("then", 2), ("until", 2), ("frees", 2)]
def m_law_leaf (number_ : Int) (letters_ : Str) : Option Nt :=
  (some (decide ((number_ % (9 : Int)) = (0 : Int)))).bind fun b1 => cond b1
    ((some (Nt.tup [(Nt.txt ("yes" : Str))])))
    ((some (decide ((number_ % (9 : Int)) = (1 : Int)))).bind fun b11 => cond b11
      ((some (Nt.tup [(Nt.txt ("no" : Str))])))
      (((((((some letters_).bind fun t23 => ((some (number_ / (9 : Int))).bind fun t21 => (some (letters_.length : Int)).bind fun t22 => modO t21 t22).bind fun t24 => (atI t23.cps.toList t24).bind fun z => some (⟨#[z]⟩ : Str)).bind fun t25 => (some (Nt.txt t25))).bind fun t26 => (some [t26])).bind fun t27 => (some ((Nt.txt ("lamp" : Str)) :: t27))).bind fun t28 => (some (Nt.tup t28)))))
abbrev mm_law_leaf (x : Int × Str × Unit) : Option Nt := m_law_leaf x.1 x.2.1
def m_law_put (stack_ : (List Nt)) (spent_ : (List Int)) (cell_ : Int) (room_ : Int) (letters_ : Str) : Option ((List Nt) × (List Int)) :=
  (some (cell_ % (16 : Int))).bind fun kind_ =>
  (some ((decide (kind_ < (6 : Int))) && (decide ((0 : Int) < (stack_.length : Int))))).bind fun b7 => (cond b7
    (((((some spent_).bind fun t22 => (some (0 : Int)).bind fun t23 => atI t22 t23).bind fun t24 => (some (t24 + (stack_.length : Int)))).bind fun t25 => (some (decide (t25 ≤ room_)))).bind fun b26 => cond b26
      ((popO stack_).bind fun pr31 => (((((some [("not" : Str), ("next" : Str), ("atlast" : Str), ("always" : Str), ("again" : Str), ("settles" : Str)]).bind fun t42 => (some kind_).bind fun t43 => atI t42 t43).bind fun t44 => (some (Nt.txt t44))).bind fun t45 => (some [t45, pr31.1])).bind fun t46 => (some (Nt.tup t46))).bind fun a33 => (pushO pr31.2 a33).bind fun z35 =>
      (((some spent_).bind fun t50 => (some (0 : Int)).bind fun t51 => atI t50 t51).bind fun t52 => (some (t52 + (1 : Int)))).bind fun a53 => (some (0 : Int)).bind fun k55 => (setO spent_ k55 a53).bind fun z64 =>
      some (z35, z64))
      (some (stack_, spent_)))
    ((((some (5 : Int)).bind fun t71 => (some kind_).bind fun t72 => cond (decide (t71 < t72)) ((some (11 : Int)).bind fun t73 => some (decide (t72 < t73))) (some false)).bind fun t74 => cond t74 (some (decide ((1 : Int) < (stack_.length : Int)))) (some false)).bind fun b75 => cond b75
      ((popO stack_).bind fun pr80 =>
      (popO pr80.2).bind fun pr85 => (((((some [("and" : Str), ("until" : Str), ("or" : Str), ("then" : Str), ("frees" : Str)]).bind fun t96 => (some (kind_ - (6 : Int))).bind fun t97 => atI t96 t97).bind fun t98 => (some (Nt.txt t98))).bind fun t99 => (some [t99, pr85.1, pr80.1])).bind fun t100 => (some (Nt.tup t100))).bind fun a87 => (pushO pr85.2 a87).bind fun z89 =>
      (((some spent_).bind fun t104 => (some (0 : Int)).bind fun t105 => atI t104 t105).bind fun t106 => (some (t106 + (1 : Int)))).bind fun a107 => (some (0 : Int)).bind fun k109 => (setO spent_ k109 a107).bind fun z118 =>
      some (z89, z118))
      ((((((some spent_).bind fun t124 => (some (0 : Int)).bind fun t125 => atI t124 t125).bind fun t126 => (some (t126 + (stack_.length : Int)))).bind fun t127 => (some (t127 + (1 : Int)))).bind fun t128 => (some (decide (t128 ≤ room_)))).bind fun b129 => cond b129
        (((some (cell_ / (16 : Int))).bind fun t134 => (some letters_).bind fun t135 => m_law_leaf t134 t135).bind fun a136 => (pushO stack_ a136).bind fun z144 =>
        (((some spent_).bind fun t148 => (some (0 : Int)).bind fun t149 => atI t148 t149).bind fun t150 => (some (t150 + (1 : Int)))).bind fun a151 => (some (0 : Int)).bind fun k153 => (setO spent_ k153 a151).bind fun z162 =>
        some (z144, z162))
        (some (stack_, spent_))))).bind fun s12 =>
  some (s12.1, s12.2)
abbrev mm_law_put (stack_ : (List Nt)) (spent_ : (List Int)) (x : Int × Int × Str × Unit) : Option ((List Nt) × (List Int)) := m_law_put stack_ spent_ x.1 x.2.1 x.2.2.1
def m_law_built (cells_here_ : (List Int)) (room_ : Int) (letters_ : Str) : Option Nt :=
  (some ([] : List Nt)).bind fun stack_ =>
  (some [(0 : Int)]).bind fun spent_ =>
  (some cells_here_).bind fun as17 => (forO (S := ((List Nt) × (List Int))) (ρ := Nt) (fun (cell_ : Int) s24 =>
      ((some cell_).bind fun t41 => ((some room_).bind fun t39 => ((some letters_).bind fun t37 => (some ()).bind fun t38 => some (t37, t38)).bind fun t40 => some (t39, t40)).bind fun t42 => some (t41, t42)).bind fun ca43 => (m_law_put s24.1 s24.2 ca43.1 ca43.2.1 ca43.2.2.1).bind fun rz45 =>
      some (Fl.nx (rz45.1, rz45.2))) as17 (stack_, spent_)).bind fun fl19 => match fl19 with
    | .nx s24 =>
      (some (decide ((s24.1.length : Int) = (0 : Int)))).bind fun b61 => (cond b61
        (((some room_).bind fun t70 => (some letters_).bind fun t71 => m_law_leaf t70 t71).bind fun a72 => (pushO s24.1 a72).bind fun z80 =>
        some z80)
        (some s24.1)).bind fun s66 =>
      (whileN (S := ((List Nt))) (ρ := Nt) (fun s86 => (some (decide ((1 : Int) < (s86.length : Int))))) (fun s86 =>
          (popO s86).bind fun pr101 =>
          (popO pr101.2).bind fun pr106 => (((((some [("until" : Str), ("or" : Str), ("frees" : Str), ("and" : Str), ("then" : Str)]).bind fun t120 => (some ((pr101.2.length : Int) % (5 : Int))).bind fun t121 => atI t120 t121).bind fun t122 => (some (Nt.txt t122))).bind fun t123 => (some [t123, pr106.1, pr101.1])).bind fun t124 => (some (Nt.tup t124))).bind fun a108 => (pushO pr106.2 a108).bind fun z110 =>
          some (Fl.nx z110)) fuelW s66).bind fun fl84 => match fl84 with
        | .nx s86 =>
          ((some s86).bind fun t132 => (some (0 : Int)).bind fun t133 => atI t132 t133)
        | .rt r => some r
        | .bk _ => none
    | .rt r => some r
    | .bk _ => none
abbrev mm_law_built (x : (List Int) × Int × Str × Unit) : Option Nt := m_law_built x.1 x.2.1 x.2.2.1
def m_denied (plain_ : Nt) : Option Nt :=
  (((((some plain_).bind fun t4 => asTup t4).bind fun t5 => (some (0 : Int)).bind fun t6 => atI t5.l t6).bind fun t7 => asTxt t7).bind fun t8 => (some (decide (t8 = ("not" : Str))))).bind fun b9 => cond b9
    ((((some plain_).bind fun t14 => asTup t14).bind fun t15 => (some (1 : Int)).bind fun t16 => atI t15.l t16))
    ((some (Nt.tup [(Nt.txt ("not" : Str)), plain_])))
abbrev mm_denied (x : Nt × Unit) : Option Nt := m_denied x.1
def m_plain_with_two (word_ : Str) (left_ : Nt) (right_ : Nt) : Option Nt :=
  (some (decide (word_ = ("or" : Str)))).bind fun b1 => cond b1
    (((((((((some left_).bind fun t6 => m_denied t6).bind fun t9 => (((some right_).bind fun t7 => m_denied t7).bind fun t8 => (some [t8])).bind fun t10 => (some (t9 :: t10))).bind fun t11 => (some ((Nt.txt ("and" : Str)) :: t11))).bind fun t12 => (some (Nt.tup t12))).bind fun t13 => (some [t13])).bind fun t14 => (some ((Nt.txt ("not" : Str)) :: t14))).bind fun t15 => (some (Nt.tup t15))))
    ((some (decide (word_ = ("then" : Str)))).bind fun b21 => cond b21
      ((((((((((some right_).bind fun t26 => m_denied t26).bind fun t27 => (some [t27])).bind fun t28 => (some (left_ :: t28))).bind fun t29 => (some ((Nt.txt ("and" : Str)) :: t29))).bind fun t30 => (some (Nt.tup t30))).bind fun t31 => (some [t31])).bind fun t32 => (some ((Nt.txt ("not" : Str)) :: t32))).bind fun t33 => (some (Nt.tup t33))))
      ((some (decide (word_ = ("frees" : Str)))).bind fun b39 => cond b39
        (((((((((some left_).bind fun t44 => m_denied t44).bind fun t47 => (((some right_).bind fun t45 => m_denied t45).bind fun t46 => (some [t46])).bind fun t48 => (some (t47 :: t48))).bind fun t49 => (some ((Nt.txt ("until" : Str)) :: t49))).bind fun t50 => (some (Nt.tup t50))).bind fun t51 => (some [t51])).bind fun t52 => (some ((Nt.txt ("not" : Str)) :: t52))).bind fun t53 => (some (Nt.tup t53))))
        ((some (Nt.tup [(Nt.txt word_), left_, right_])))))
abbrev mm_plain_with_two (x : Str × Nt × Nt × Unit) : Option Nt := m_plain_with_two x.1 x.2.1 x.2.2.1
def m_plain_with_one (word_ : Str) (inner_ : Nt) : Option Nt :=
  (some (decide (word_ = ("not" : Str)))).bind fun b1 => cond b1
    (((some inner_).bind fun t6 => m_denied t6))
    ((some (decide (word_ = ("next" : Str)))).bind fun b12 => cond b12
      ((some (Nt.tup [(Nt.txt ("next" : Str)), inner_])))
      ((some (decide (word_ = ("atlast" : Str)))).bind fun b22 => cond b22
        ((some (Nt.tup [(Nt.txt ("until" : Str)), (Nt.tup [Nt.txt "yes"]), inner_])))
        ((some (decide (word_ = ("always" : Str)))).bind fun b32 => cond b32
          ((((((((((some inner_).bind fun t37 => m_denied t37).bind fun t38 => (some [t38])).bind fun t39 => (some ((Nt.tup [Nt.txt "yes"]) :: t39))).bind fun t40 => (some ((Nt.txt ("until" : Str)) :: t40))).bind fun t41 => (some (Nt.tup t41))).bind fun t42 => (some [t42])).bind fun t43 => (some ((Nt.txt ("not" : Str)) :: t43))).bind fun t44 => (some (Nt.tup t44))))
          ((some (decide (word_ = ("again" : Str)))).bind fun b50 => cond b50
            ((some (Nt.tup [(Nt.txt ("not" : Str)), (Nt.tup [(Nt.txt ("until" : Str)), (Nt.tup [Nt.txt "yes"]), (Nt.tup [(Nt.txt ("not" : Str)), (Nt.tup [(Nt.txt ("until" : Str)), (Nt.tup [Nt.txt "yes"]), inner_])])])])))
            ((((((((((((((some inner_).bind fun t60 => m_denied t60).bind fun t61 => (some [t61])).bind fun t62 => (some ((Nt.tup [Nt.txt "yes"]) :: t62))).bind fun t63 => (some ((Nt.txt ("until" : Str)) :: t63))).bind fun t64 => (some (Nt.tup t64))).bind fun t65 => (some [t65])).bind fun t66 => (some ((Nt.txt ("not" : Str)) :: t66))).bind fun t67 => (some (Nt.tup t67))).bind fun t68 => (some [t68])).bind fun t69 => (some ((Nt.tup [Nt.txt "yes"]) :: t69))).bind fun t70 => (some ((Nt.txt ("until" : Str)) :: t70))).bind fun t71 => (some (Nt.tup t71))))))))
abbrev mm_plain_with_one (x : Str × Nt × Unit) : Option Nt := m_plain_with_one x.1 x.2.1
def msm_plain (self_ : Nt → Option Nt) (sentence_ : Nt) : Option Nt :=
  ((((some sentence_).bind fun t1 => asTup t1).bind fun t2 => (some (0 : Int)).bind fun t3 => atI t2.l t3).bind fun t4 => asTxt t4).bind fun word_ =>
  (some (decide (word_ = ("no" : Str)))).bind fun b11 => cond b11
    ((some (Nt.tup [(Nt.txt ("not" : Str)), (Nt.tup [Nt.txt "yes"])])))
    ((some ((decide (word_ = ("yes" : Str))) || (decide (word_ = ("lamp" : Str))))).bind fun b21 => cond b21
      ((some sentence_))
      (((((some sentence_).bind fun t31 => asTup t31).bind fun t32 => (some (t32.l.length : Int))).bind fun t33 => (some (decide (t33 = (2 : Int))))).bind fun b34 => cond b34
        (((some word_).bind fun t43 => ((((some sentence_).bind fun t39 => asTup t39).bind fun t40 => (some (1 : Int)).bind fun t41 => atI t40.l t41).bind fun t42 => self_ t42).bind fun t44 => m_plain_with_one t43 t44))
        (((some word_).bind fun t58 => ((((some sentence_).bind fun t50 => asTup t50).bind fun t51 => (some (1 : Int)).bind fun t52 => atI t51.l t52).bind fun t53 => self_ t53).bind fun t59 => ((((some sentence_).bind fun t54 => asTup t54).bind fun t55 => (some (2 : Int)).bind fun t56 => atI t55.l t56).bind fun t57 => self_ t57).bind fun t60 => m_plain_with_two t58 t59 t60))))
def m_plain : Nat → Nt → Option Nt
  | 0 => fun _ => none
  | n + 1 => fun sentence_ => msm_plain (m_plain n) sentence_
abbrev mm_plain (fuel_ : Nat) (x : Nt × Unit) : Option Nt := m_plain fuel_ x.1
def m_law_one_is_plain (one_ : Nt) : Option Bool :=
  ((some (!(isK "tuple" (ToD.to one_)))).bind fun t14 => cond t14 (some true) (((((some one_).bind fun t1 => asTup t1).bind fun t2 => (some (t2.l.length : Int))).bind fun t3 => (some (decide (t3 = (0 : Int))))).bind fun t13 => cond t13 (some true) ((((((some one_).bind fun t7 => asTup t7).bind fun t8 => (some (0 : Int)).bind fun t9 => atI t8.l t9).bind fun t10 => (some (ToD.to t10))).bind fun t11 => (some (isK "str" t11))).bind fun t12 => (some (!t12))))).bind fun b15 => cond b15
    ((some false))
    ((((((some one_).bind fun t28 => asTup t28).bind fun t29 => (some (0 : Int)).bind fun t30 => atI t29.l t30).bind fun t31 => asTxt t31).bind fun t32 => (some (decide (t32 = ("yes" : Str))))).bind fun b33 => cond b33
      (((((some one_).bind fun t38 => asTup t38).bind fun t39 => (some (t39.l.length : Int))).bind fun t40 => (some (decide (t40 = (1 : Int))))))
      ((((((some one_).bind fun t49 => asTup t49).bind fun t50 => (some (0 : Int)).bind fun t51 => atI t50.l t51).bind fun t52 => asTxt t52).bind fun t53 => (some (decide (t53 = ("lamp" : Str))))).bind fun b54 => cond b54
        ((((((some one_).bind fun t59 => asTup t59).bind fun t60 => (some (t60.l.length : Int))).bind fun t61 => (some (decide (t61 = (2 : Int))))).bind fun t89 => cond t89 ((((((some one_).bind fun t65 => asTup t65).bind fun t66 => (some (1 : Int)).bind fun t67 => atI t66.l t67).bind fun t68 => (some (ToD.to t68))).bind fun t69 => (some (isK "str" t69))).bind fun t88 => cond t88 (((((((some one_).bind fun t73 => asTup t73).bind fun t74 => (some (1 : Int)).bind fun t75 => atI t74.l t75).bind fun t76 => asTxt t76).bind fun t77 => (some (t77.length : Int))).bind fun t78 => (some (decide (t78 = (1 : Int))))).bind fun t87 => cond t87 ((some ("a" : Str)).bind fun t84 => ((((some one_).bind fun t79 => asTup t79).bind fun t80 => (some (1 : Int)).bind fun t81 => atI t80.l t81).bind fun t82 => asTxt t82).bind fun t85 => cond (!decide (t85.cps.toList < t84.cps.toList)) ((some ("z" : Str)).bind fun t86 => some (!decide (t86.cps.toList < t85.cps.toList))) (some false)) (some false)) (some false)) (some false)))
        ((((((some one_).bind fun t98 => asTup t98).bind fun t99 => (some (0 : Int)).bind fun t100 => atI t99.l t100).bind fun t101 => asTxt t101).bind fun t102 => (some (decide (t102 = ("not" : Str))))).bind fun b103 => cond b103
          ((((((some one_).bind fun t108 => asTup t108).bind fun t109 => (some (t109.l.length : Int))).bind fun t110 => (some (decide (t110 = (2 : Int))))).bind fun t133 => cond t133 ((((((some one_).bind fun t114 => asTup t114).bind fun t115 => (some (1 : Int)).bind fun t116 => atI t115.l t116).bind fun t117 => (some (ToD.to t117))).bind fun t118 => (some (isK "tuple" t118))).bind fun t132 => cond t132 (((((((some one_).bind fun t124 => asTup t124).bind fun t125 => (some (1 : Int)).bind fun t126 => atI t125.l t126).bind fun t127 => asTup t127).bind fun t128 => (some (Tp.mk (cutA t128.l none (some (1 : Int)))))).bind fun t129 => (some (Nt.tup t129.l))).bind fun t130 => (some (Nt.tup [(Nt.txt ("not" : Str))])).bind fun t131 => neNO t130 t131) (some false)) (some false)))
          ((((((some one_).bind fun t142 => asTup t142).bind fun t143 => (some (0 : Int)).bind fun t144 => atI t143.l t144).bind fun t145 => asTxt t145).bind fun t146 => (some (decide (t146 = ("next" : Str))))).bind fun b147 => cond b147
            (((((some one_).bind fun t152 => asTup t152).bind fun t153 => (some (t153.l.length : Int))).bind fun t154 => (some (decide (t154 = (2 : Int))))))
            ((((((some one_).bind fun t160 => asTup t160).bind fun t161 => (some (t161.l.length : Int))).bind fun t162 => (some (decide (t162 = (3 : Int))))).bind fun t180 => cond t180 ((((((some one_).bind fun t166 => asTup t166).bind fun t167 => (some (0 : Int)).bind fun t168 => atI t167.l t168).bind fun t169 => asTxt t169).bind fun t170 => (some (decide (t170 = ("and" : Str))))).bind fun t179 => cond t179 (some true) (((((some one_).bind fun t174 => asTup t174).bind fun t175 => (some (0 : Int)).bind fun t176 => atI t175.l t176).bind fun t177 => asTxt t177).bind fun t178 => (some (decide (t178 = ("until" : Str)))))) (some false)))))))
abbrev mm_law_one_is_plain (x : Nt × Unit) : Option Bool := m_law_one_is_plain x.1
def m_law_count (told_ : Nt) : Option (Option Int) :=
  (some [told_]).bind fun waiting_ =>
  (some (0 : Int)).bind fun many_ =>
  (whileN (S := ((List Nt) × Int)) (ρ := (Option Int)) (fun s17 => (some (decide ((0 : Int) < (s17.1.length : Int))))) (fun s17 =>
      (popO s17.1).bind fun pr34 =>
      (some (s17.2 + (1 : Int))).bind fun many_ =>
      ((some (decide ((200 : Int) < many_))).bind fun t47 => cond t47 (some true) (((some pr34.1).bind fun t45 => m_law_one_is_plain t45).bind fun t46 => (some (!t46)))).bind fun b48 => cond b48
        ((some none).bind fun rr58 => some (Fl.rt rr58))
        ((((((some pr34.1).bind fun t63 => asTup t63).bind fun t64 => (some (0 : Int)).bind fun t65 => atI t64.l t65).bind fun t66 => asTxt t66).bind fun t67 => (some (!decide (t67 = ("lamp" : Str))))).bind fun b68 => cond b68
          ((((some pr34.1).bind fun t73 => asTup t73).bind fun t74 => (some (some (1 : Int))).bind fun t75 => (some none).bind fun t76 => cutT? t74.l t75 t76).bind fun a77 => (extO pr34.2 a77.l).bind fun z85 =>
          some (Fl.nx (z85, many_)))
          (some (Fl.nx (pr34.2, many_))))) fuelW (waiting_, many_)).bind fun fl15 => match fl15 with
    | .nx s17 =>
      (some (some s17.2))
    | .rt r => some r
    | .bk _ => none
abbrev mm_law_count (x : Nt × Unit) : Option (Option Int) := m_law_count x.1
def m_law_cell_at (script_ : Scr) (k_ : Int) : Option Int :=
  (some (decide (k_ < (script_.l.length : Int)))).bind fun b1 => cond b1
    (((some script_).bind fun t6 => (some k_).bind fun t7 => atI t6.l t7))
    ((some (0 : Int)))
abbrev mm_law_cell_at (x : Scr × Int × Unit) : Option Int := m_law_cell_at x.1 x.2.1
def m_law_stream (cell_ : Int) (many_ : Int) : Option (List Int) :=
  (some ([] : List Int)).bind fun numbers_ =>
  (some ((cell_ % (2147483647 : Int)) + (48271 : Int))).bind fun number_ =>
  ((some many_).bind fun t15 => rngO 0 t15).bind fun as16 => (forO (S := ((List Int) × Int)) (ρ := (List Int)) (fun (k_ : Int) s23 =>
      (((((some s23.2).bind fun t38 => (some s23.2).bind fun t39 => mulO t38 t39).bind fun t40 => (some (t40 + ((48271 : Int) * s23.2)))).bind fun t41 => (some (t41 + k_))).bind fun t42 => (some (t42 % (2147483647 : Int)))).bind fun number_ =>
      (some number_).bind fun a49 => (pushO s23.1 a49).bind fun z57 =>
      some (Fl.nx (z57, number_))) as16 (numbers_, number_)).bind fun fl18 => match fl18 with
    | .nx s23 =>
      (some s23.1)
    | .rt r => some r
    | .bk _ => none
abbrev mm_law_stream (x : Int × Int × Unit) : Option (List Int) := m_law_stream x.1 x.2.1
def m_law_cells (script_ : Scr) : Option (List Int) :=
  ((some script_).bind fun t1 => (some (0 : Int)).bind fun t2 => m_law_cell_at t1 t2).bind fun cell_ =>
  (some (decide ((cell_ % (3 : Int)) = (0 : Int)))).bind fun b9 => cond b9
    (((some script_).bind fun t14 => (some (some (3 : Int))).bind fun t15 => (some (some (60 : Int))).bind fun t16 => cutX t14 t15 t16))
    ((some (decide ((cell_ % (3 : Int)) = (1 : Int)))).bind fun b22 => cond b22
      ((((some script_).bind fun t27 => (some (3 : Int)).bind fun t28 => m_law_cell_at t27 t28).bind fun t29 => (some ((4 : Int) + ((cell_ / (3 : Int)) % (57 : Int)))).bind fun t30 => m_law_stream t29 t30))
      (((((some script_).bind fun t36 => (some (3 : Int)).bind fun t37 => m_law_cell_at t36 t37).bind fun t38 => (some ((cell_ / (3 : Int)) % (24 : Int))).bind fun t39 => m_law_stream t38 t39).bind fun t44 => mapO (fun (number_ : Int) => (some (((16 : Int) * number_) + ((number_ / (7 : Int)) % (6 : Int))))) t44).bind fun chain_ =>
      ((((((some script_).bind fun t51 => (some (4 : Int)).bind fun t52 => m_law_cell_at t51 t52).bind fun t53 => (some ((16 : Int) * t53))).bind fun t54 => (some (t54 + (11 : Int)))).bind fun t55 => (some [t55])).bind fun t56 => (some chain_).bind fun t57 => catL t56 t57)))
abbrev mm_law_cells (x : Scr × Unit) : Option (List Int) := m_law_cells x.1
def m_parts_of (sentence_ : Nt) : Option (Tp Nt) :=
  (((((some sentence_).bind fun t4 => asTup t4).bind fun t5 => (some (0 : Int)).bind fun t6 => atI t5.l t6).bind fun t7 => asTxt t7).bind fun t8 => (some (decide (t8 = ("lamp" : Str))))).bind fun b9 => cond b9
    ((some (Tp.mk ([] : List Nt))))
    ((((some sentence_).bind fun t19 => asTup t19).bind fun t20 => (some (some (1 : Int))).bind fun t21 => (some none).bind fun t22 => cutT? t20.l t21 t22))
abbrev mm_parts_of (x : Nt × Unit) : Option (Tp Nt) := m_parts_of x.1
def m_all_within (sentence_ : Nt) : Option (List Nt) :=
  (some [sentence_]).bind fun found_ =>
  (some (0 : Int)).bind fun place_ =>
  (whileN (S := ((List Nt) × Int)) (ρ := (List Nt)) (fun s17 => (some (decide (s17.2 < (s17.1.length : Int))))) (fun s17 =>
      (((some s17.1).bind fun t36 => (some s17.2).bind fun t37 => atI t36 t37).bind fun t38 => m_parts_of t38).bind fun a39 => (extO s17.1 a39.l).bind fun z47 =>
      (some (s17.2 + (1 : Int))).bind fun place_ =>
      some (Fl.nx (z47, place_))) fuelW (found_, place_)).bind fun fl15 => match fl15 with
    | .nx s17 =>
      (some s17.1)
    | .rt r => some r
    | .bk _ => none
abbrev mm_all_within (x : Nt × Unit) : Option (List Nt) := m_all_within x.1
def m_lamps_of (sentence_ : Nt) : Option Str :=
  ((some ("" : Str)).bind fun t37 => ((((some sentence_).bind fun t18 => m_all_within t18).bind fun t35 => compO (fun (part_ : Nt) => (((((some part_).bind fun t30 => asTup t30).bind fun t31 => (some (0 : Int)).bind fun t32 => atI t31.l t32).bind fun t33 => asTxt t33).bind fun t34 => (some (decide (t34 = ("lamp" : Str)))))) (fun (part_ : Nt) => ((((some part_).bind fun t23 => asTup t23).bind fun t24 => (some (1 : Int)).bind fun t25 => atI t24.l t25).bind fun t26 => asTxt t26)) t35).bind fun t36 => sortSetS t36).bind fun t38 => joinO t37 t38)
abbrev mm_lamps_of (x : Nt × Unit) : Option Str := m_lamps_of x.1
def m_words (sentence_ : Nt) : Option Int :=
  (((some sentence_).bind fun t1 => m_all_within t1).bind fun t2 => (some (t2.length : Int)))
abbrev mm_words (x : Nt × Unit) : Option Int := m_words x.1
def m_is_moment (thing_ : Str) : Option Bool :=
  (some (!true)).bind fun b1 => cond b1
    ((some false))
    ((some ("" : Str)).bind fun last_ =>
    (some (signsO thing_)).bind fun as17 => (forO (S := (Str)) (ρ := Bool) (fun (lamp_ : Str) s24 =>
        (some ((decide (lamp_.cps.toList < ("a" : Str).cps.toList)) || ((decide (("z" : Str).cps.toList < lamp_.cps.toList)) || (!decide (s24.cps.toList < lamp_.cps.toList))))).bind fun b39 => cond b39
          ((some false).bind fun rr49 => some (Fl.rt rr49))
          ((some lamp_).bind fun last_ =>
          some (Fl.nx last_))) as17 last_).bind fun fl19 => match fl19 with
      | .nx s24 =>
        (some true)
      | .rt r => some r
      | .bk _ => none)
abbrev mm_is_moment (x : Str × Unit) : Option Bool := m_is_moment x.1
def m_is_lamp (thing_ : Str) : Option Bool :=
  (((some thing_).bind fun t1 => m_is_moment t1).bind fun t2 => cond t2 (some (decide ((thing_.length : Int) = (1 : Int)))) (some false))
abbrev mm_is_lamp (x : Str × Unit) : Option Bool := m_is_lamp x.1
def m_has_form (thing_ : Nt) : Option Bool :=
  ((some (!(isK "tuple" (ToD.to thing_)))).bind fun t14 => cond t14 (some true) (((((some thing_).bind fun t1 => asTup t1).bind fun t2 => (some (t2.l.length : Int))).bind fun t3 => (some (decide (t3 = (0 : Int))))).bind fun t13 => cond t13 (some true) ((((((some thing_).bind fun t7 => asTup t7).bind fun t8 => (some (0 : Int)).bind fun t9 => atI t8.l t9).bind fun t10 => (some (ToD.to t10))).bind fun t11 => (some (isK "str" t11))).bind fun t12 => (some (!t12))))).bind fun b15 => cond b15
    ((some false))
    ((((((some thing_).bind fun t28 => asTup t28).bind fun t29 => (some (0 : Int)).bind fun t30 => atI t29.l t30).bind fun t31 => asTxt t31).bind fun t32 => (some (decide (t32 = ("lamp" : Str))))).bind fun b33 => cond b33
      ((((((some thing_).bind fun t38 => asTup t38).bind fun t39 => (some (t39.l.length : Int))).bind fun t40 => (some (decide (t40 = (2 : Int))))).bind fun t46 => cond t46 (((((some thing_).bind fun t41 => asTup t41).bind fun t42 => (some (1 : Int)).bind fun t43 => atI t42.l t43).bind fun t44 => asTxt t44).bind fun t45 => m_is_lamp t45) (some false)))
      (((((((some thing_).bind fun t52 => asTup t52).bind fun t53 => (some (0 : Int)).bind fun t54 => atI t53.l t54).bind fun t55 => asTxt t55).bind fun t56 => (some ((getC c_PARTS t56).isSome))).bind fun t73 => cond t73 ((((some thing_).bind fun t57 => asTup t57).bind fun t58 => (some (t58.l.length : Int))).bind fun t71 => ((((((some thing_).bind fun t65 => asTup t65).bind fun t66 => (some (0 : Int)).bind fun t67 => atI t66.l t67).bind fun t68 => asTxt t68).bind fun t69 => getC c_PARTS t69).bind fun t70 => (some ((1 : Int) + t70))).bind fun t72 => (some (decide (t71 = t72)))) (some false))))
abbrev mm_has_form (x : Nt × Unit) : Option Bool := m_has_form x.1
def m_is_sentence (thing_ : Nt) : Option Bool :=
  (some [thing_]).bind fun found_ =>
  (some (0 : Int)).bind fun place_ =>
  (whileN (S := ((List Nt) × Int)) (ρ := Bool) (fun s17 => (some (decide (s17.2 < (s17.1.length : Int))))) (fun s17 =>
      ((some (decide ((24 : Int) < (s17.1.length : Int)))).bind fun t42 => cond t42 (some true) ((((some s17.1).bind fun t38 => (some s17.2).bind fun t39 => atI t38 t39).bind fun t40 => m_has_form t40).bind fun t41 => (some (!t41)))).bind fun b43 => cond b43
        ((some false).bind fun rr53 => some (Fl.rt rr53))
        ((((some s17.1).bind fun t58 => (some s17.2).bind fun t59 => atI t58 t59).bind fun t60 => m_parts_of t60).bind fun a61 => (extO s17.1 a61.l).bind fun z69 =>
        (some (s17.2 + (1 : Int))).bind fun place_ =>
        some (Fl.nx (z69, place_)))) fuelW (found_, place_)).bind fun fl15 => match fl15 with
    | .nx s17 =>
      (some true)
    | .rt r => some r
    | .bk _ => none
abbrev mm_is_sentence (x : Nt × Unit) : Option Bool := m_is_sentence x.1
def m_law (script_ : Scr) : Option Bool :=
  (((((some script_).bind fun t1 => (some (1 : Int)).bind fun t2 => m_law_cell_at t1 t2).bind fun t3 => (some (t3 % (26 : Int)))).bind fun t4 => (some (some t4))).bind fun t5 => (some (Txt.slice ("abcdefghijklmnopqrstuvwxyz" : Str) t5 none))).bind fun letters_ =>
  (((some script_).bind fun t12 => m_law_cells t12).bind fun t17 => ((((some script_).bind fun t13 => (some (2 : Int)).bind fun t14 => m_law_cell_at t13 t14).bind fun t15 => (some (t15 % (24 : Int)))).bind fun t16 => (some ((1 : Int) + t16))).bind fun t18 => (some letters_).bind fun t19 => m_law_built t17 t18 t19).bind fun told_ =>
  ((some told_).bind fun t26 => m_plain 26 t26).bind fun flat_ =>
  ((some flat_).bind fun t33 => m_law_count t33).bind fun many_ =>
  ((some many_.isNone).bind fun t50 => cond t50 (some true) ((((some many_).bind fun t42 => t42).bind fun t43 => (((some told_).bind fun t40 => m_words t40).bind fun t41 => (some ((6 : Int) * t41))).bind fun t44 => (some (decide (t44 < t43)))).bind fun t49 => cond t49 (some true) ((((some flat_).bind fun t46 => m_words t46).bind fun t47 => (some (some t47))).bind fun t48 => (some (!decide (t48 = many_)))))).bind fun b51 => cond b51
    ((some false))
    ((((some flat_).bind fun t61 => m_lamps_of t61).bind fun t64 => ((some told_).bind fun t63 => m_lamps_of t63).bind fun t65 => (some (!decide (t64 = t65)))).bind fun b66 => cond b66
      ((some false))
      ((((some many_).bind fun t76 => t76).bind fun t77 => (some (decide ((24 : Int) < t77)))).bind fun b78 => cond b78
        ((((some flat_).bind fun t83 => m_is_sentence t83).bind fun t84 => (some (decide (t84 = false)))))
        (((((some flat_).bind fun t90 => m_is_sentence t90).bind fun t91 => (some (decide (t91 = true)))).bind fun t95 => cond t95 (((some flat_).bind fun t92 => m_plain 26 t92).bind fun t93 => (some flat_).bind fun t94 => eqNO t93 t94) (some false)))))
abbrev mm_law (x : Scr × Unit) : Option Bool := m_law x.1
end My

set_option Elab.async false
set_option linter.all false
set_option maxRecDepth 100000
set_option maxHeartbeats 4000000
namespace My
open PySem PySem.Spec PyProof.Rows L2
def top (i : Nat) : Stmt := PySem.Challenge.pw_lassoscribe_k15_plain_words_alone.main.body.getD i (.Pass ⟨0, 0, 0, 0⟩)
abbrev s_denied : Stmt := top 2
abbrev s_plain_with_one : Stmt := top 3
abbrev s_plain_with_two : Stmt := top 4
abbrev s_plain : Stmt := top 5
abbrev s_is_moment : Stmt := top 7
abbrev s_parts_of : Stmt := top 11
abbrev s_is_lamp : Stmt := top 12
abbrev s_has_form : Stmt := top 13
abbrev s_is_sentence : Stmt := top 14
abbrev s_all_within : Stmt := top 15
abbrev s_words : Stmt := top 16
abbrev s_lamps_of : Stmt := top 17
abbrev s_law_cell_at : Stmt := top 19
abbrev s_law_stream : Stmt := top 20
abbrev s_law_leaf : Stmt := top 21
abbrev s_law_put : Stmt := top 22
abbrev s_law_built : Stmt := top 23
abbrev s_law_cells : Stmt := top 24
abbrev s_law_one_is_plain : Stmt := top 25
abbrev s_law_count : Stmt := top 26
abbrev s_law : Stmt := top 27
/-- the names that the text leaves to the built-in ones, and its constants -/
structure Txt (w : World) (K : PySem.W.Frag) (mg : Str → Option Value) : Prop where
  isinstance_ : mg "isinstance" = none
  len_ : mg "len" = none
  range_ : mg "range" = none
  set_ : mg "set" = none
  sorted_ : mg "sorted" = none
  str_ : mg "str" = none
  tuple_ : mg "tuple" = none
  YES : ∃ a, mg "YES" = some (.ref a) ∧ ∀ G, Rp.rel K G (.ref a) (Nt.tup [Nt.txt "yes"])
  MOST_WORDS : ∃ t, mg "MOST_WORDS" = some (.int 24 t)
  PARTS : ∃ a, mg "PARTS" = some (.ref a) ∧ CDict w K a c_PARTS
theorem sc_denied : FnScope ["plain"] ["plain"] (defScope s_denied) := ⟨rfl, rfl, rfl, by decide +kernel, rfl, by decide +kernel, by decide +kernel⟩
theorem sc_plain_with_one : FnScope ["word", "inner"] ["word", "inner"] (defScope s_plain_with_one) := ⟨rfl, rfl, rfl, by decide +kernel, rfl, by decide +kernel, by decide +kernel⟩
theorem sc_plain_with_two : FnScope ["word", "left", "right"] ["word", "left", "right"] (defScope s_plain_with_two) := ⟨rfl, rfl, rfl, by decide +kernel, rfl, by decide +kernel, by decide +kernel⟩
theorem sc_plain : FnScope ["sentence", "word"] ["sentence"] (defScope s_plain) := ⟨rfl, rfl, rfl, by decide +kernel, rfl, by decide +kernel, by decide +kernel⟩
theorem sc_is_moment : FnScope ["thing", "last", "lamp"] ["thing"] (defScope s_is_moment) := ⟨rfl, rfl, rfl, by decide +kernel, rfl, by decide +kernel, by decide +kernel⟩
theorem sc_parts_of : FnScope ["sentence"] ["sentence"] (defScope s_parts_of) := ⟨rfl, rfl, rfl, by decide +kernel, rfl, by decide +kernel, by decide +kernel⟩
theorem sc_is_lamp : FnScope ["thing"] ["thing"] (defScope s_is_lamp) := ⟨rfl, rfl, rfl, by decide +kernel, rfl, by decide +kernel, by decide +kernel⟩
theorem sc_has_form : FnScope ["thing"] ["thing"] (defScope s_has_form) := ⟨rfl, rfl, rfl, by decide +kernel, rfl, by decide +kernel, by decide +kernel⟩
theorem sc_is_sentence : FnScope ["thing", "found", "place"] ["thing"] (defScope s_is_sentence) := ⟨rfl, rfl, rfl, by decide +kernel, rfl, by decide +kernel, by decide +kernel⟩
theorem sc_all_within : FnScope ["sentence", "found", "place"] ["sentence"] (defScope s_all_within) := ⟨rfl, rfl, rfl, by decide +kernel, rfl, by decide +kernel, by decide +kernel⟩
theorem sc_words : FnScope ["sentence"] ["sentence"] (defScope s_words) := ⟨rfl, rfl, rfl, by decide +kernel, rfl, by decide +kernel, by decide +kernel⟩
theorem sc_lamps_of : FnScope ["sentence"] ["sentence"] (defScope s_lamps_of) := ⟨rfl, rfl, rfl, by decide +kernel, rfl, by decide +kernel, by decide +kernel⟩
theorem sc_law_cell_at : FnScope ["_law_script", "_law_k"] ["_law_script", "_law_k"] (defScope s_law_cell_at) := ⟨rfl, rfl, rfl, by decide +kernel, rfl, by decide +kernel, by decide +kernel⟩
theorem sc_law_stream : FnScope ["_law_cell", "_law_many", "_law_numbers", "_law_number", "_law_k"] ["_law_cell", "_law_many"] (defScope s_law_stream) := ⟨rfl, rfl, rfl, by decide +kernel, rfl, by decide +kernel, by decide +kernel⟩
theorem sc_law_leaf : FnScope ["_law_number", "_law_letters"] ["_law_number", "_law_letters"] (defScope s_law_leaf) := ⟨rfl, rfl, rfl, by decide +kernel, rfl, by decide +kernel, by decide +kernel⟩
theorem sc_law_put : FnScope ["_law_stack", "_law_spent", "_law_cell", "_law_room", "_law_letters", "_law_kind", "_law_other"] ["_law_stack", "_law_spent", "_law_cell", "_law_room", "_law_letters"] (defScope s_law_put) := ⟨rfl, rfl, rfl, by decide +kernel, rfl, by decide +kernel, by decide +kernel⟩
theorem sc_law_built : FnScope ["_law_cells_here", "_law_room", "_law_letters", "_law_stack", "_law_spent", "_law_cell", "_law_other"] ["_law_cells_here", "_law_room", "_law_letters"] (defScope s_law_built) := ⟨rfl, rfl, rfl, by decide +kernel, rfl, by decide +kernel, by decide +kernel⟩
theorem sc_law_cells : FnScope ["_law_script", "_law_cell", "_law_chain"] ["_law_script"] (defScope s_law_cells) := ⟨rfl, rfl, rfl, by decide +kernel, rfl, by decide +kernel, by decide +kernel⟩
theorem sc_law_one_is_plain : FnScope ["_law_one"] ["_law_one"] (defScope s_law_one_is_plain) := ⟨rfl, rfl, rfl, by decide +kernel, rfl, by decide +kernel, by decide +kernel⟩
theorem sc_law_count : FnScope ["_law_told", "_law_waiting", "_law_many", "_law_one"] ["_law_told"] (defScope s_law_count) := ⟨rfl, rfl, rfl, by decide +kernel, rfl, by decide +kernel, by decide +kernel⟩
theorem sc_law : FnScope ["_law_script", "_law_letters", "_law_told", "_law_flat", "_law_many"] ["_law_script"] (defScope s_law) := ⟨rfl, rfl, rfl, by decide +kernel, rfl, by decide +kernel, by decide +kernel⟩
def sp_law (K : PySem.W.Frag) : Sp := fun vs H Q _ => ∃ (a : Addr) (ns : List Int), vs = [.ref a] ∧ SqL K H a (ns.map V.int) ∧ ns.length ≤ 63 ∧ ∀ H', Q (.bl true) H'
section
variable {P : Program} {w : World} {K : PySem.W.Frag} {mg : Str → Option Value} {base : Heap}
theorem ok_law_leaf {f : Addr} {fd : FuncData} (F : Fun K "_law_leaf" "_law_leaf" s_law_leaf f fd) (T : Txt w K mg) : FnOk P w K mg base CX0 1 f fd ["_law_number", "_law_letters"] (spM K mm_law_leaf) := by
  refine F.ok sc_law_leaf (fun vs H Q E h => (spM_len h).trans rfl) (fun cdv A outer s H0 vs Q E hr h => ?_)
  obtain ⟨G0, ⟨number_, ⟨letters_, ⟨⟩⟩⟩, res, sg0, ⟨v_number_, _, rfl, r_number_, ⟨v_letters_, _, rfl, r_letters_, rfl⟩⟩, hm, q⟩ := h
  replace r_number_ : Rp.rel K G0 v_number_ number_ := r_number_
  replace r_letters_ : Rp.rel K G0 v_letters_ letters_ := r_letters_
  replace hm : m_law_leaf number_ letters_ = some res := hm
  unfold m_law_leaf at hm
  have xt : Ext G0 H0 G0 H0 := Ext.refl sg0
  refine ⟨_, (pss_cons (ps_if (pt_cmpR op_eq (pe_op op_mod (pv 0) pe_int) pe_int (nomark _)) (pss_cons (ps_ret (pe_tup (pa_cons pe_str pa_nil)))
      pss_nil) pss_nil)
      (pss_cons (ps_if (pt_cmpR op_eq (pe_op op_mod (pv 0) pe_int) pe_int (nomark _)) (pss_cons (ps_ret (pe_tup (pa_cons pe_str pa_nil)))
      pss_nil) pss_nil)
      (pss_cons (ps_ret (pe_tup (pa_cons pe_str (pa_cons (pe_ix (ix_anyK (K := K) rfl) (pv 1) (pe_op op_mod (pe_op op_fdiv (pv 0) pe_int) (pe_callB (call_lenK (K := K) rfl) (by rfl) T.len_ bt_len (pa_cons (pv 1) pa_nil))) (fun _ _ => rfl)) pa_nil))))
      pss_nil))), ?_⟩
  obtain ⟨b1, h2, hm⟩ := Option.bind_eq_some_iff.mp hm
  refine sv_if (tv_test (K := K) (ev_eqI (ev_modR (ev_var rfl r_number_)) ev_i)) h2 xt.gh fun G3 H4 x5 => ?_
  have xt := xt.trans x5
  have r_number_ := Rp.mono x5.gg r_number_
  have r_letters_ := Rp.mono x5.gg r_letters_
  cases b1 with
  | true =>
    replace hm := cT hm
    refine iteT ?_
    exact sv_ret (K := K) (rest := tNext) (σ := [some v_number_, some v_letters_]) (ev_tupNL (lv_cons (ev_txtN ev_s) (lv_nil (α := Nt)))) hm xt.gh fun v6 G7 H8 x9 r10 => q v6 G7 H8 (xt.trans x9) r10
  | false =>
    replace hm := cF hm
    refine iteF ?_
    obtain ⟨b11, h12, hm⟩ := Option.bind_eq_some_iff.mp hm
    refine sv_if (tv_test (K := K) (ev_eqI (ev_modR (ev_var rfl r_number_)) ev_i)) h12 xt.gh fun G13 H14 x15 => ?_
    have xt := xt.trans x15
    have r_number_ := Rp.mono x15.gg r_number_
    have r_letters_ := Rp.mono x15.gg r_letters_
    cases b11 with
    | true =>
      replace hm := cT hm
      refine iteT ?_
      exact sv_ret (K := K) (rest := tNext) (σ := [some v_number_, some v_letters_]) (ev_tupNL (lv_cons (ev_txtN ev_s) (lv_nil (α := Nt)))) hm xt.gh fun v16 G17 H18 x19 r20 => q v16 G17 H18 (xt.trans x19) r20
    | false =>
      replace hm := cF hm
      refine iteF ?_
      exact sv_ret (K := K) (ev_tupNL (lv_cons (ev_txtN ev_s) (lv_cons (ev_txtN (ev_atS (ev_var rfl r_letters_) (ev_mod (ev_divR (ev_var rfl r_number_)) (ev_lenS (ev_var rfl r_letters_))))) (lv_nil (α := Nt))))) hm xt.gh fun v29 G30 H31 x32 r33 => q v29 G30 H31 (xt.trans x32) r33
theorem ok_law_put {f : Addr} {fd : FuncData} (F : Fun K "_law_put" "_law_put" s_law_put f fd) (T : Txt w K mg) (D_law_leaf : DefOk P w K mg base "_law_leaf" 1 ["_law_number", "_law_letters"] (spM K mm_law_leaf)) : FnOk P w K mg base CX0 2 f fd ["_law_stack", "_law_spent", "_law_cell", "_law_room", "_law_letters"] (spW2 K mm_law_put) := by
  refine F.ok sc_law_put (fun vs H Q E h => (spW2_len h).trans rfl) (fun cdv A outer s H9 vs Q E hr h => ?_)
  obtain ⟨G0, p_stack_, p_spent_, vs_stack_, vs_spent_, _, stack_, spent_, ⟨cell_, ⟨room_, ⟨letters_, ⟨⟩⟩⟩⟩, res, rfl, sg0, ne_pq, o_stack_, o_spent_, ⟨v_cell_, _, rfl, r_cell_, ⟨v_room_, _, rfl, r_room_, ⟨v_letters_, _, rfl, r_letters_, rfl⟩⟩⟩, hm, q⟩ := h
  have xt : Ext G0 (era H9 [p_stack_, p_spent_]) G0 H9 := Ext.begin sg0
  have hz_stack_ : era H9 [p_stack_, p_spent_] p_stack_ = none := era_in (by simp)
  have hz_spent_ : era H9 [p_stack_, p_spent_] p_spent_ = none := era_in (by simp)
  generalize era H9 [p_stack_, p_spent_] = H0 at xt q hz_stack_ hz_spent_
  replace r_cell_ : Rp.rel K G0 v_cell_ cell_ := r_cell_
  replace r_room_ : Rp.rel K G0 v_room_ room_ := r_room_
  replace r_letters_ : Rp.rel K G0 v_letters_ letters_ := r_letters_
  replace hm : m_law_put stack_ spent_ cell_ room_ letters_ = some res := hm
  unfold m_law_put at hm
  refine ⟨_, (pss_cons (ps_set (i := 5) sc_law_put.nd rfl (Or.inl rfl) (pe_op op_mod (pv 2) pe_int))
      (pss_cons (ps_if (PW.pt (pw_and (pt_cmpR op_ltU (pv 5) pe_int (nomark _)) (pw_and1 (pt_cmpR op_gtU (pe_callB (call_lenK (K := K) rfl) (by rfl) T.len_ bt_len (pa_cons (pv 0) pa_nil)) pe_int (nomark _))))) (pss_cons (ps_if (pt_cmpR op_leU (pe_op (op_plusK (K := K) rfl) (pe_ix (ix_anyK (K := K) rfl) (pv 1) pe_int (fun _ _ => rfl)) (pe_callB (call_lenK (K := K) rfl) (by rfl) T.len_ bt_len (pa_cons (pv 0) pa_nil))) (pv 3) (nomark _)) (pss_cons (ps_expr (pe_bmK (K := K) rfl PySem.F.plainAttrs_list PySem.F.slot_list_append PySem.F.type_list_append mt_append (pv 0) (pa_cons (pe_tup (pa_cons (pe_ix (ix_anyK (K := K) rfl) (pe_lst (pa_cons pe_str (pa_cons pe_str (pa_cons pe_str (pa_cons pe_str (pa_cons pe_str (pa_cons pe_str pa_nil))))))) (pv 5) (fun _ _ => rfl)) (pa_cons (pe_bm0K (K := K) rfl PySem.F.plainAttrs_list PySem.F.slot_list_pop PySem.F.type_list_pop mt_pop (pv 0)) pa_nil))) pa_nil)))
      (pss_cons (ps_asg (pe_op (op_plusK (K := K) rfl) (pe_ix (ix_anyK (K := K) rfl) (pv 1) pe_int (fun _ _ => rfl)) pe_int) (pg_sub (pv 1) pe_int set_list))
      pss_nil)) pss_nil)
      pss_nil) (pss_cons (ps_if (PW.pt (pw_and (pt_chain op_ltU op_ltU pe_int (pv 5) pe_int) (pw_and1 (pt_cmpR op_gtU (pe_callB (call_lenK (K := K) rfl) (by rfl) T.len_ bt_len (pa_cons (pv 0) pa_nil)) pe_int (nomark _))))) (pss_cons (ps_set (i := 6) sc_law_put.nd rfl (Or.inl rfl) (pe_bm0K (K := K) rfl PySem.F.plainAttrs_list PySem.F.slot_list_pop PySem.F.type_list_pop mt_pop (pv 0)))
      (pss_cons (ps_expr (pe_bmK (K := K) rfl PySem.F.plainAttrs_list PySem.F.slot_list_append PySem.F.type_list_append mt_append (pv 0) (pa_cons (pe_tup (pa_cons (pe_ix (ix_anyK (K := K) rfl) (pe_lst (pa_cons pe_str (pa_cons pe_str (pa_cons pe_str (pa_cons pe_str (pa_cons pe_str pa_nil)))))) (pe_op op_sub (pv 5) pe_int) (fun _ _ => rfl)) (pa_cons (pe_bm0K (K := K) rfl PySem.F.plainAttrs_list PySem.F.slot_list_pop PySem.F.type_list_pop mt_pop (pv 0)) (pa_cons (pv 6) pa_nil)))) pa_nil)))
      (pss_cons (ps_asg (pe_op (op_plusK (K := K) rfl) (pe_ix (ix_anyK (K := K) rfl) (pv 1) pe_int (fun _ _ => rfl)) pe_int) (pg_sub (pv 1) pe_int set_list))
      pss_nil))) (pss_cons (ps_if (pt_cmpR op_leU (pe_op (op_plusK (K := K) rfl) (pe_op (op_plusK (K := K) rfl) (pe_ix (ix_anyK (K := K) rfl) (pv 1) pe_int (fun _ _ => rfl)) (pe_callB (call_lenK (K := K) rfl) (by rfl) T.len_ bt_len (pa_cons (pv 0) pa_nil))) pe_int) (pv 3) (nomark _)) (pss_cons (ps_expr (pe_bmK (K := K) rfl PySem.F.plainAttrs_list PySem.F.slot_list_append PySem.F.type_list_append mt_append (pv 0) (pa_cons (pe_def D_law_leaf hr (by decide) rfl (pa_cons (pe_op op_fdiv (pv 2) pe_int) (pa_cons (pv 4) pa_nil))) pa_nil)))
      (pss_cons (ps_asg (pe_op (op_plusK (K := K) rfl) (pe_ix (ix_anyK (K := K) rfl) (pv 1) pe_int (fun _ _ => rfl)) pe_int) (pg_sub (pv 1) pe_int set_list))
      pss_nil)) pss_nil)
      pss_nil))
      pss_nil))
      pss_nil)), ?_⟩
  obtain ⟨kind_, h6, hm⟩ := Option.bind_eq_some_iff.mp hm
  refine sv_set (K := K) (ev_modR (ev_var rfl r_cell_)) h6 xt.gh fun v1 G2 H3 x4 r5 => ?_
  have xt := xt.trans x4
  have o_stack_ := o_stack_.ext x4
  have o_spent_ := o_spent_.ext x4
  have r_cell_ := Rp.mono x4.gg r_cell_
  have r_room_ := Rp.mono x4.gg r_room_
  have r_letters_ := Rp.mono x4.gg r_letters_
  obtain ⟨b7, h8, hm⟩ := Option.bind_eq_some_iff.mp hm
  obtain ⟨s12, h13, hm⟩ := Option.bind_eq_some_iff.mp hm
  refine sv_join (fun S165 H164 => ∃ (G163 : Hp) (v15 : Option V), Ext G0 H0 G163 H164 ∧ Same G2 G163 ∧ S165 = [some (V.ref p_stack_), some (V.ref p_spent_), some v_cell_, some v_room_, some v_letters_, some v1, v15] ∧ (∃ vs, Own K G163 H164 (V.ref p_stack_) p_stack_ vs s12.1) ∧ (∃ vs, Own K G163 H164 (V.ref p_spent_) p_spent_ vs s12.2)) (fun nx kn17 => ?_) ?_
  · refine sv_ifB o_stack_ (tv_andP (tv_test (K := K) (ev_ord (ev_var rfl (Rp.mono (Same.new o_stack_.g) r5)) ev_i)) (tv_test (K := K) (ev_ord (ev_len (ev_var rfl o_stack_.tell)) ev_i))) h8 xt.gh fun G9 H10 x11 => ?_
    have xt := xt.trans x11
    have o_stack_ := o_stack_.ext x11
    have o_spent_ := o_spent_.ext x11
    have r_cell_ := Rp.mono x11.gg r_cell_
    have r_room_ := Rp.mono x11.gg r_room_
    have r_letters_ := Rp.mono x11.gg r_letters_
    have r5 := Rp.mono x11.gg r5
    have mk14 : Same G2 G9 := x11.gg
    have hm := h13
    cases b7 with
    | true =>
      replace hm := cT hm
      refine iteT ?_
      obtain ⟨b26, h27, hm⟩ := Option.bind_eq_some_iff.mp hm
      refine sv_ifBB o_stack_ o_spent_ (by first | assumption | exact Ne.symm (by assumption)) (tv_test (K := K) (ev_ord (ev_add (ev_at (ev_var rfl (o_spent_.over (by first | assumption | exact Ne.symm (by assumption)) o_stack_.g).tell) ev_i) (ev_len (ev_var rfl (Rp.mono (Same.new (o_spent_.over (by first | assumption | exact Ne.symm (by assumption)) o_stack_.g).g) o_stack_.tell)))) (ev_var rfl (Rp.mono (Same.new (o_spent_.over (by first | assumption | exact Ne.symm (by assumption)) o_stack_.g).g) (Rp.mono (Same.new o_stack_.g) r_room_))))) h27 xt.gh fun G28 H29 x30 => ?_
      have xt := xt.trans x30
      have mk14 := mk14.trans x30.gg
      have o_stack_ := o_stack_.ext x30
      have o_spent_ := o_spent_.ext x30
      have r_cell_ := Rp.mono x30.gg r_cell_
      have r_room_ := Rp.mono x30.gg r_room_
      have r_letters_ := Rp.mono x30.gg r_letters_
      have r5 := Rp.mono x30.gg r5
      cases b26 with
      | true =>
        replace hm := cT hm
        refine iteT ?_
        obtain ⟨pr31, h32, hm⟩ := Option.bind_eq_some_iff.mp hm
        obtain ⟨a33, h34, hm⟩ := Option.bind_eq_some_iff.mp hm
        obtain ⟨z35, h36, hm⟩ := Option.bind_eq_some_iff.mp hm
        refine sv_appendP (K := K) (as' := pr31.2) rfl o_stack_ (pv_tupN (pl_there (bv_ev (ev_txtN (ev_at (FV.ev (fv_lst (lv_cons ev_s (lv_cons ev_s (lv_cons ev_s (lv_cons ev_s (lv_cons ev_s (lv_cons ev_s (lv_nil (α := Str)))))))))) (ev_var rfl r5)))) (pl_here (pv_pop (a := pr31.1) (as' := pr31.2) rfl h32) (lv_nil (α := Nt))))) h34 h36 xt.gh fun G37 H38 w39 y40 o41 => ?_
        have xt : Ext G0 H0 G37 (upd H38 p_stack_ (.lst (vs_stack_.dropLast ++ [w39]))) := (xt.past (C := [p_stack_]) (fun b hb => by rw [List.mem_singleton.mp hb]; exact hz_stack_) y40).put hz_stack_ o41.g
        have mk14 := mk14.trans y40.gg
        have o_spent_ := (o_spent_.past (by rw [List.mem_singleton]; exact (by first | assumption | exact Ne.symm (by assumption))) y40).put (q := p_stack_) (ho := .lst (vs_stack_.dropLast ++ [w39])) (by first | assumption | exact Ne.symm (by assumption))
        have r_cell_ := Rp.mono y40.gg r_cell_
        have r_room_ := Rp.mono y40.gg r_room_
        have r_letters_ := Rp.mono y40.gg r_letters_
        have r5 := Rp.mono y40.gg r5
        obtain ⟨a53, h54, hm⟩ := Option.bind_eq_some_iff.mp hm
        obtain ⟨k55, h56, hm⟩ := Option.bind_eq_some_iff.mp hm
        obtain ⟨z64, h57, hm⟩ := Option.bind_eq_some_iff.mp hm
        refine sv_setitemB (K := K) rfl o_spent_ (ev_add (ev_at (ev_var rfl o_spent_.tell) ev_i) ev_i) h54 ev_i h56 h57 xt.gh fun G58 H59 w60 j61 x62 o63 => ?_
        have xt : Ext G0 H0 G58 (upd H59 p_spent_ (.lst (vs_spent_.set j61 w60))) := (xt.trans x62).put hz_spent_ o63.g
        have mk14 := mk14.trans x62.gg
        have o41 := (o41.ext x62).put (q := p_spent_) (ho := .lst (vs_spent_.set j61 w60)) (by first | assumption | exact Ne.symm (by assumption))
        have r_cell_ := Rp.mono x62.gg r_cell_
        have r_room_ := Rp.mono x62.gg r_room_
        have r_letters_ := Rp.mono x62.gg r_letters_
        have r5 := Rp.mono x62.gg r5
        cases hm
        exact kn17 _ _ ⟨G58, _, xt, mk14, rfl, ⟨_, o41⟩, ⟨_, o63⟩⟩
      | false =>
        replace hm := cF hm
        refine iteF ?_
        cases hm
        exact kn17 _ _ ⟨G28, _, xt, mk14, rfl, ⟨_, o_stack_⟩, ⟨_, o_spent_⟩⟩
    | false =>
      replace hm := cF hm
      refine iteF ?_
      obtain ⟨b75, h76, hm⟩ := Option.bind_eq_some_iff.mp hm
      refine sv_ifB o_stack_ (tv_and (tv_test (K := K) (ev_chain ev_i (ev_var rfl (Rp.mono (Same.new o_stack_.g) r5)) ev_i)) (tv_test (K := K) (ev_ord (ev_len (ev_var rfl o_stack_.tell)) ev_i))) h76 xt.gh fun G77 H78 x79 => ?_
      have xt := xt.trans x79
      have mk14 := mk14.trans x79.gg
      have o_stack_ := o_stack_.ext x79
      have o_spent_ := o_spent_.ext x79
      have r_cell_ := Rp.mono x79.gg r_cell_
      have r_room_ := Rp.mono x79.gg r_room_
      have r_letters_ := Rp.mono x79.gg r_letters_
      have r5 := Rp.mono x79.gg r5
      cases b75 with
      | true =>
        replace hm := cT hm
        refine iteT ?_
        obtain ⟨pr80, h81, hm⟩ := Option.bind_eq_some_iff.mp hm
        refine sv_pop (K := K) (a := pr80.1) (as' := pr80.2) rfl o_stack_ h81 fun w82 r83 o84 => ?_
        have xt : Ext G0 H0 G77 (upd H78 p_stack_ (.lst vs_stack_.dropLast)) := xt.put hz_stack_ o84.g
        have o_spent_ := o_spent_.put (q := p_stack_) (ho := .lst vs_stack_.dropLast) (by first | assumption | exact Ne.symm (by assumption))
        obtain ⟨pr85, h86, hm⟩ := Option.bind_eq_some_iff.mp hm
        obtain ⟨a87, h88, hm⟩ := Option.bind_eq_some_iff.mp hm
        obtain ⟨z89, h90, hm⟩ := Option.bind_eq_some_iff.mp hm
        refine sv_appendP (K := K) (as' := pr85.2) rfl o84 (pv_tupN (pl_there (bv_ev (ev_txtN (ev_at (FV.ev (fv_lst (lv_cons ev_s (lv_cons ev_s (lv_cons ev_s (lv_cons ev_s (lv_cons ev_s (lv_nil (α := Str))))))))) (ev_sub (ev_var rfl r5) ev_i)))) (pl_here (pv_pop (a := pr85.1) (as' := pr85.2) rfl h86) (lv_cons (ev_var rfl r83) (lv_nil (α := Nt)))))) h88 h90 xt.gh fun G91 H92 w93 y94 o95 => ?_
        have xt : Ext G0 H0 G91 (upd H92 p_stack_ (.lst (vs_stack_.dropLast.dropLast ++ [w93]))) := (xt.past (C := [p_stack_]) (fun b hb => by rw [List.mem_singleton.mp hb]; exact hz_stack_) y94).put hz_stack_ o95.g
        have mk14 := mk14.trans y94.gg
        have o_spent_ := (o_spent_.past (by rw [List.mem_singleton]; exact (by first | assumption | exact Ne.symm (by assumption))) y94).put (q := p_stack_) (ho := .lst (vs_stack_.dropLast.dropLast ++ [w93])) (by first | assumption | exact Ne.symm (by assumption))
        have r_cell_ := Rp.mono y94.gg r_cell_
        have r_room_ := Rp.mono y94.gg r_room_
        have r_letters_ := Rp.mono y94.gg r_letters_
        have r5 := Rp.mono y94.gg r5
        have r83 := Rp.mono y94.gg r83
        obtain ⟨a107, h108, hm⟩ := Option.bind_eq_some_iff.mp hm
        obtain ⟨k109, h110, hm⟩ := Option.bind_eq_some_iff.mp hm
        obtain ⟨z118, h111, hm⟩ := Option.bind_eq_some_iff.mp hm
        refine sv_setitemB (K := K) rfl o_spent_ (ev_add (ev_at (ev_var rfl o_spent_.tell) ev_i) ev_i) h108 ev_i h110 h111 xt.gh fun G112 H113 w114 j115 x116 o117 => ?_
        have xt : Ext G0 H0 G112 (upd H113 p_spent_ (.lst (vs_spent_.set j115 w114))) := (xt.trans x116).put hz_spent_ o117.g
        have mk14 := mk14.trans x116.gg
        have o95 := (o95.ext x116).put (q := p_spent_) (ho := .lst (vs_spent_.set j115 w114)) (by first | assumption | exact Ne.symm (by assumption))
        have r_cell_ := Rp.mono x116.gg r_cell_
        have r_room_ := Rp.mono x116.gg r_room_
        have r_letters_ := Rp.mono x116.gg r_letters_
        have r5 := Rp.mono x116.gg r5
        have r83 := Rp.mono x116.gg r83
        cases hm
        exact kn17 _ _ ⟨G112, _, xt, mk14, rfl, ⟨_, o95⟩, ⟨_, o117⟩⟩
      | false =>
        replace hm := cF hm
        refine iteF ?_
        obtain ⟨b129, h130, hm⟩ := Option.bind_eq_some_iff.mp hm
        refine sv_ifBB o_stack_ o_spent_ (by first | assumption | exact Ne.symm (by assumption)) (tv_test (K := K) (ev_ord (ev_add (ev_add (ev_at (ev_var rfl (o_spent_.over (by first | assumption | exact Ne.symm (by assumption)) o_stack_.g).tell) ev_i) (ev_len (ev_var rfl (Rp.mono (Same.new (o_spent_.over (by first | assumption | exact Ne.symm (by assumption)) o_stack_.g).g) o_stack_.tell)))) ev_i) (ev_var rfl (Rp.mono (Same.new (o_spent_.over (by first | assumption | exact Ne.symm (by assumption)) o_stack_.g).g) (Rp.mono (Same.new o_stack_.g) r_room_))))) h130 xt.gh fun G131 H132 x133 => ?_
        have xt := xt.trans x133
        have mk14 := mk14.trans x133.gg
        have o_stack_ := o_stack_.ext x133
        have o_spent_ := o_spent_.ext x133
        have r_cell_ := Rp.mono x133.gg r_cell_
        have r_room_ := Rp.mono x133.gg r_room_
        have r_letters_ := Rp.mono x133.gg r_letters_
        have r5 := Rp.mono x133.gg r5
        cases b129 with
        | true =>
          replace hm := cT hm
          refine iteT ?_
          obtain ⟨a136, h137, hm⟩ := Option.bind_eq_some_iff.mp hm
          obtain ⟨z144, h138, hm⟩ := Option.bind_eq_some_iff.mp hm
          refine sv_append (K := K) rfl o_stack_ (ev_def2 (m := mm_law_leaf) (ev_divR (ev_var rfl r_cell_)) (ev_var rfl r_letters_)) h137 h138 xt.gh fun G139 H140 w141 x142 o143 => ?_
          have xt : Ext G0 H0 G139 (upd H140 p_stack_ (.lst (vs_stack_ ++ [w141]))) := (xt.trans x142).put hz_stack_ o143.g
          have mk14 := mk14.trans x142.gg
          have o_spent_ := (o_spent_.ext x142).put (q := p_stack_) (ho := .lst (vs_stack_ ++ [w141])) (by first | assumption | exact Ne.symm (by assumption))
          have r_cell_ := Rp.mono x142.gg r_cell_
          have r_room_ := Rp.mono x142.gg r_room_
          have r_letters_ := Rp.mono x142.gg r_letters_
          have r5 := Rp.mono x142.gg r5
          obtain ⟨a151, h152, hm⟩ := Option.bind_eq_some_iff.mp hm
          obtain ⟨k153, h154, hm⟩ := Option.bind_eq_some_iff.mp hm
          obtain ⟨z162, h155, hm⟩ := Option.bind_eq_some_iff.mp hm
          refine sv_setitemB (K := K) rfl o_spent_ (ev_add (ev_at (ev_var rfl o_spent_.tell) ev_i) ev_i) h152 ev_i h154 h155 xt.gh fun G156 H157 w158 j159 x160 o161 => ?_
          have xt : Ext G0 H0 G156 (upd H157 p_spent_ (.lst (vs_spent_.set j159 w158))) := (xt.trans x160).put hz_spent_ o161.g
          have mk14 := mk14.trans x160.gg
          have o143 := (o143.ext x160).put (q := p_spent_) (ho := .lst (vs_spent_.set j159 w158)) (by first | assumption | exact Ne.symm (by assumption))
          have r_cell_ := Rp.mono x160.gg r_cell_
          have r_room_ := Rp.mono x160.gg r_room_
          have r_letters_ := Rp.mono x160.gg r_letters_
          have r5 := Rp.mono x160.gg r5
          cases hm
          exact kn17 _ _ ⟨G156, _, xt, mk14, rfl, ⟨_, o143⟩, ⟨_, o161⟩⟩
        | false =>
          replace hm := cF hm
          refine iteF ?_
          cases hm
          exact kn17 _ _ ⟨G131, _, xt, mk14, rfl, ⟨_, o_stack_⟩, ⟨_, o_spent_⟩⟩
  · rintro _ H164 ⟨G163, v15, xt, mk14, rfl, ⟨vs_stack_, o_stack_⟩, ⟨vs_spent_, o_spent_⟩⟩
    have r_cell_ := Rp.mono mk14 r_cell_
    have r_room_ := Rp.mono mk14 r_room_
    have r_letters_ := Rp.mono mk14 r_letters_
    have r5 := Rp.mono mk14 r5
    cases hm
    exact q _ _ _ _ xt o_stack_ o_spent_
theorem ok_law_built {f : Addr} {fd : FuncData} (F : Fun K "_law_built" "_law_built" s_law_built f fd) (T : Txt w K mg) (D_law_put : DefOk P w K mg base "_law_put" 2 ["_law_stack", "_law_spent", "_law_cell", "_law_room", "_law_letters"] (spW2 K mm_law_put)) (D_law_leaf : DefOk P w K mg base "_law_leaf" 1 ["_law_number", "_law_letters"] (spM K mm_law_leaf)) : FnOk P w K mg base CX0 3 f fd ["_law_cells_here", "_law_room", "_law_letters"] (spM K mm_law_built) := by
  refine F.ok sc_law_built (fun vs H Q E h => (spM_len h).trans rfl) (fun cdv A outer s H0 vs Q E hr h => ?_)
  obtain ⟨G0, ⟨cells_here_, ⟨room_, ⟨letters_, ⟨⟩⟩⟩⟩, res, sg0, ⟨v_cells_here_, _, rfl, r_cells_here_, ⟨v_room_, _, rfl, r_room_, ⟨v_letters_, _, rfl, r_letters_, rfl⟩⟩⟩, hm, q⟩ := h
  replace r_cells_here_ : Rp.rel K G0 v_cells_here_ cells_here_ := r_cells_here_
  replace r_room_ : Rp.rel K G0 v_room_ room_ := r_room_
  replace r_letters_ : Rp.rel K G0 v_letters_ letters_ := r_letters_
  replace hm : m_law_built cells_here_ room_ letters_ = some res := hm
  unfold m_law_built at hm
  have xt : Ext G0 H0 G0 H0 := Ext.refl sg0
  refine ⟨_, (pss_cons (ps_set (i := 3) sc_law_built.nd rfl (Or.inl rfl) (pe_lst pa_nil))
      (pss_cons (ps_set (i := 4) sc_law_built.nd rfl (Or.inl rfl) (pe_lst (pa_cons pe_int pa_nil)))
      (pss_cons (ps_for PassesOwn.never rfl (pi_anyK (K := K) rfl (pv 0)) (pg_name (i := 5) sc_law_built.nd rfl (Or.inl rfl)) (pss_cons (ps_expr (pe_def D_law_put hr (by decide) rfl (pa_cons (pv 3) (pa_cons (pv 4) (pa_cons (pv 5) (pa_cons (pv 1) (pa_cons (pv 2) pa_nil)))))))
      pss_nil))
      (pss_cons (ps_if (pt_cmpR op_eq (pe_callB (call_lenK (K := K) rfl) (by rfl) T.len_ bt_len (pa_cons (pv 3) pa_nil)) pe_int (nomark _)) (pss_cons (ps_expr (pe_bmK (K := K) rfl PySem.F.plainAttrs_list PySem.F.slot_list_append PySem.F.type_list_append mt_append (pv 3) (pa_cons (pe_def D_law_leaf hr (by decide) rfl (pa_cons (pv 1) (pa_cons (pv 2) pa_nil))) pa_nil)))
      pss_nil) pss_nil)
      (pss_cons (ps_while PassesOwn.never (pt_cmpR op_gtU (pe_callB (call_lenK (K := K) rfl) (by rfl) T.len_ bt_len (pa_cons (pv 3) pa_nil)) pe_int (nomark _)) (pss_cons (ps_set (i := 6) sc_law_built.nd rfl (Or.inl rfl) (pe_bm0K (K := K) rfl PySem.F.plainAttrs_list PySem.F.slot_list_pop PySem.F.type_list_pop mt_pop (pv 3)))
      (pss_cons (ps_expr (pe_bmK (K := K) rfl PySem.F.plainAttrs_list PySem.F.slot_list_append PySem.F.type_list_append mt_append (pv 3) (pa_cons (pe_tup (pa_cons (pe_ix (ix_anyK (K := K) rfl) (pe_lst (pa_cons pe_str (pa_cons pe_str (pa_cons pe_str (pa_cons pe_str (pa_cons pe_str pa_nil)))))) (pe_op op_mod (pe_callB (call_lenK (K := K) rfl) (by rfl) T.len_ bt_len (pa_cons (pv 3) pa_nil)) pe_int) (fun _ _ => rfl)) (pa_cons (pe_bm0K (K := K) rfl PySem.F.plainAttrs_list PySem.F.slot_list_pop PySem.F.type_list_pop mt_pop (pv 3)) (pa_cons (pv 6) pa_nil)))) pa_nil)))
      pss_nil)))
      (pss_cons (ps_ret (pe_ix (ix_anyK (K := K) rfl) (pv 3) pe_int (fun _ _ => rfl)))
      pss_nil)))))), ?_⟩
  obtain ⟨stack_, h8, hm⟩ := Option.bind_eq_some_iff.mp hm
  refine sv_own (K := K) (fv_lst (lv_nil (α := Nt))) h8 xt.gh fun p1 vs2 G3 H4 x5 hz6 o7 => ?_
  have hz6 := xt.hh.free hz6
  have xt := xt.trans x5
  have r_cells_here_ := Rp.mono x5.gg r_cells_here_
  have r_room_ := Rp.mono x5.gg r_room_
  have r_letters_ := Rp.mono x5.gg r_letters_
  obtain ⟨spent_, h16, hm⟩ := Option.bind_eq_some_iff.mp hm
  refine sv_own (K := K) (fv_lst (lv_cons ev_i (lv_nil (α := Int)))) h16 xt.gh fun p9 vs10 G11 H12 x13 hz14 o15 => ?_
  have ne_p1_p9 : p1 ≠ p9 := ne_of_none o7.h hz14
  have hz14 := xt.hh.free hz14
  have xt := xt.trans x13
  have r_cells_here_ := Rp.mono x13.gg r_cells_here_
  have r_room_ := Rp.mono x13.gg r_room_
  have r_letters_ := Rp.mono x13.gg r_letters_
  have o7 := o7.ext x13
  obtain ⟨as17, h18, hm⟩ := Option.bind_eq_some_iff.mp hm
  obtain ⟨fl19, h20, hm⟩ := Option.bind_eq_some_iff.mp hm
  refine sv_for (K := K) (RR := fun r v G' H' => Ext G0 H0 G' H' ∧ Rp.rel K G' v r) (iw_list (ev_var rfl r_cells_here_)) h18 h20 xt.gh fun G21 H22 x23 => ⟨fun s24 S' G' H' => ∃ (v25 : Option V), Ext G0 H0 G' H' ∧ Same G21 G' ∧ S' = [some v_cells_here_, some v_room_, some v_letters_, some (V.ref p1), some (V.ref p9), v25, none] ∧ (∃ vs, Own K G' H' (V.ref p1) p1 vs s24.1) ∧ (∃ vs, Own K G' H' (V.ref p9) p9 vs s24.2), ?_, ?_, ?_, ?_, ?_⟩
  · have xt := xt.trans x23
    have r_cells_here_ := Rp.mono x23.gg r_cells_here_
    have r_room_ := Rp.mono x23.gg r_room_
    have r_letters_ := Rp.mono x23.gg r_letters_
    have o7 := o7.ext x23
    have o15 := o15.ext x23
    exact ⟨_, xt, (Same.refl _), rfl, ⟨_, o7⟩, ⟨_, o15⟩⟩
  · rintro _ S' G' H' ⟨v25, xt, mk26, rfl, ⟨vs2, o7⟩, ⟨vs10, o15⟩⟩
    exact ⟨mk26, xt.gh⟩
  · rintro xv27 a28 s24 _ G31 H32 fl29 - ⟨v25, xt, mk26, rfl, ⟨vs2, o7⟩, ⟨vs10, o15⟩⟩ rx30 hm D' kN33 kC34 kB35 kR36
    have r_cells_here_ := Rp.mono (x23.gg.trans mk26) r_cells_here_
    have r_room_ := Rp.mono (x23.gg.trans mk26) r_room_
    have r_letters_ := Rp.mono (x23.gg.trans mk26) r_letters_
    refine sv_turn ?_
    obtain ⟨ca43, h44, hm⟩ := Option.bind_eq_some_iff.mp hm
    obtain ⟨rz45, h46, hm⟩ := Option.bind_eq_some_iff.mp hm
    refine sv_callW2 (K := K) (m := mm_law_put) rfl rfl o7 o15 (by first | assumption | exact Ne.symm (by assumption)) (av_cons (ev_var rfl rx30) (av_cons (ev_var rfl r_room_) (av_cons (ev_var rfl r_letters_) av_nil))) h44 h46 xt.gh fun G47 H48 G49 H50 vs53 vs54 x51 y52 o55 o56 => ?_
    have xt := (xt.trans x51).past (C := [p1, p9]) (fun b hb => by simp only [List.mem_cons, List.not_mem_nil, or_false] at hb; (first | (rcases hb with e | e <;> (rw [e]; assumption)) | (rw [hb]; assumption))) y52
    have mk26 := mk26.trans (x51.gg.trans y52.gg)
    have r_cells_here_ := Rp.mono (x51.gg.trans y52.gg) r_cells_here_
    have r_room_ := Rp.mono (x51.gg.trans y52.gg) r_room_
    have r_letters_ := Rp.mono (x51.gg.trans y52.gg) r_letters_
    have rx30 := Rp.mono (x51.gg.trans y52.gg) rx30
    cases hm
    exact kN33 _ _ _ _ rfl ⟨_, xt, mk26, rfl, ⟨_, o55⟩, ⟨_, o56⟩⟩
  · rintro s24 _ G59 H60 rfl ⟨v57, xt, mk58, rfl, ⟨vs2, o7⟩, ⟨vs10, o15⟩⟩
    refine sv_nx ?_
    have r_cells_here_ := Rp.mono (x23.gg.trans mk58) r_cells_here_
    have r_room_ := Rp.mono (x23.gg.trans mk58) r_room_
    have r_letters_ := Rp.mono (x23.gg.trans mk58) r_letters_
    obtain ⟨b61, h62, hm⟩ := Option.bind_eq_some_iff.mp hm
    obtain ⟨s66, h67, hm⟩ := Option.bind_eq_some_iff.mp hm
    refine sv_join (fun S83 H82 => ∃ (G81 : Hp) , Ext G0 H0 G81 H82 ∧ Same G59 G81 ∧ S83 = [some v_cells_here_, some v_room_, some v_letters_, some (V.ref p1), some (V.ref p9), v57, none] ∧ (∃ vs, Own K G81 H82 (V.ref p1) p1 vs s66) ∧ Own K G81 H82 (V.ref p9) p9 vs10 s24.2) (fun nx kn69 => ?_) ?_
    · refine sv_ifB o7 (tv_test (K := K) (ev_eqI (ev_len (ev_var rfl o7.tell)) ev_i)) h62 xt.gh fun G63 H64 x65 => ?_
      have xt := xt.trans x65
      have r_cells_here_ := Rp.mono x65.gg r_cells_here_
      have r_room_ := Rp.mono x65.gg r_room_
      have r_letters_ := Rp.mono x65.gg r_letters_
      have o7 := o7.ext x65
      have o15 := o15.ext x65
      have mk68 : Same G59 G63 := x65.gg
      have hm := h67
      cases b61 with
      | true =>
        replace hm := cT hm
        refine iteT ?_
        obtain ⟨a72, h73, hm⟩ := Option.bind_eq_some_iff.mp hm
        obtain ⟨z80, h74, hm⟩ := Option.bind_eq_some_iff.mp hm
        refine sv_append (K := K) rfl o7 (ev_def2 (m := mm_law_leaf) (ev_var rfl r_room_) (ev_var rfl r_letters_)) h73 h74 xt.gh fun G75 H76 w77 x78 o79 => ?_
        have xt : Ext G0 H0 G75 (upd H76 p1 (.lst (vs2 ++ [w77]))) := (xt.trans x78).put hz6 o79.g
        have mk68 := mk68.trans x78.gg
        have r_cells_here_ := Rp.mono x78.gg r_cells_here_
        have r_room_ := Rp.mono x78.gg r_room_
        have r_letters_ := Rp.mono x78.gg r_letters_
        have o15 := (o15.ext x78).put (q := p1) (ho := .lst (vs2 ++ [w77])) (by first | assumption | exact Ne.symm (by assumption))
        cases hm
        exact kn69 _ _ ⟨G75, xt, mk68, rfl, ⟨_, o79⟩, o15⟩
      | false =>
        replace hm := cF hm
        refine iteF ?_
        cases hm
        exact kn69 _ _ ⟨G63, xt, mk68, rfl, ⟨_, o7⟩, o15⟩
    · rintro _ H82 ⟨G81, xt, mk68, rfl, ⟨vs2, o7⟩, o15⟩
      have r_cells_here_ := Rp.mono mk68 r_cells_here_
      have r_room_ := Rp.mono mk68 r_room_
      have r_letters_ := Rp.mono mk68 r_letters_
      obtain ⟨fl84, h85, hm⟩ := Option.bind_eq_some_iff.mp hm
      refine sv_while (K := K) (G := G81) (RR := fun r v G' H' => Ext G0 H0 G' H' ∧ Rp.rel K G' v r) h85 (fun s86 S' G' H' => ∃ (v87 : Option V), Ext G0 H0 G' H' ∧ Same G81 G' ∧ S' = [some v_cells_here_, some v_room_, some v_letters_, some (V.ref p1), some (V.ref p9), v57, v87] ∧ (∃ vs, Own K G' H' (V.ref p1) p1 vs s86) ∧ Own K G' H' (V.ref p9) p9 vs10 s24.2) ⟨?_, ?_, ?_, ?_, ?_, ?_⟩
      · exact ⟨_, xt, (Same.refl _), rfl, ⟨_, o7⟩, o15⟩
      · rintro _ S' G' H' ⟨v87, xt, mk88, rfl, ⟨vs2, o7⟩, o15⟩
        exact xt.gh
      · rintro s86 _ G89 H90 b' ⟨v87, xt, mk88, rfl, ⟨vs2, o7⟩, o15⟩ hc Q' k'
        have r_cells_here_ := Rp.mono mk88 r_cells_here_
        have r_room_ := Rp.mono mk88 r_room_
        have r_letters_ := Rp.mono mk88 r_letters_
        refine TV.runB o7 (tv_test (K := K) (ev_ord (ev_len (ev_var rfl o7.tell)) ev_i)) hc xt.gh fun G91 H92 x93 => ?_
        have xt := xt.trans x93
        have mk88 := mk88.trans x93.gg
        have r_cells_here_ := Rp.mono x93.gg r_cells_here_
        have r_room_ := Rp.mono x93.gg r_room_
        have r_letters_ := Rp.mono x93.gg r_letters_
        have o7 := o7.ext x93
        have o15 := o15.ext x93
        exact k' _ _ ⟨_, xt, mk88, rfl, ⟨_, o7⟩, o15⟩
      · rintro s86 _ G95 H96 fl94 ⟨v87, xt, mk88, rfl, ⟨vs2, o7⟩, o15⟩ hm - D' kN97 kC98 kB99 kR100
        have r_cells_here_ := Rp.mono mk88 r_cells_here_
        have r_room_ := Rp.mono mk88 r_room_
        have r_letters_ := Rp.mono mk88 r_letters_
        obtain ⟨pr101, h102, hm⟩ := Option.bind_eq_some_iff.mp hm
        refine sv_pop (K := K) (a := pr101.1) (as' := pr101.2) rfl o7 h102 fun w103 r104 o105 => ?_
        have xt : Ext G0 H0 G95 (upd H96 p1 (.lst vs2.dropLast)) := xt.put hz6 o105.g
        have o15 := o15.put (q := p1) (ho := .lst vs2.dropLast) (by first | assumption | exact Ne.symm (by assumption))
        obtain ⟨pr106, h107, hm⟩ := Option.bind_eq_some_iff.mp hm
        obtain ⟨a108, h109, hm⟩ := Option.bind_eq_some_iff.mp hm
        obtain ⟨z110, h111, hm⟩ := Option.bind_eq_some_iff.mp hm
        refine sv_appendP (K := K) (as' := pr106.2) rfl o105 (pv_tupN (pl_there (bv_own o105.g (ev_txtN (ev_at (FV.ev (fv_lst (lv_cons ev_s (lv_cons ev_s (lv_cons ev_s (lv_cons ev_s (lv_cons ev_s (lv_nil (α := Str))))))))) (ev_modR (ev_len (ev_var rfl o105.tell)))))) (pl_here (pv_pop (a := pr106.1) (as' := pr106.2) rfl h107) (lv_cons (ev_var rfl r104) (lv_nil (α := Nt)))))) h109 h111 xt.gh fun G112 H113 w114 y115 o116 => ?_
        have xt : Ext G0 H0 G112 (upd H113 p1 (.lst (vs2.dropLast.dropLast ++ [w114]))) := (xt.past (C := [p1]) (fun b hb => by rw [List.mem_singleton.mp hb]; exact hz6) y115).put hz6 o116.g
        have mk88 := mk88.trans y115.gg
        have r_cells_here_ := Rp.mono y115.gg r_cells_here_
        have r_room_ := Rp.mono y115.gg r_room_
        have r_letters_ := Rp.mono y115.gg r_letters_
        have o15 := (o15.past (by rw [List.mem_singleton]; exact (by first | assumption | exact Ne.symm (by assumption))) y115).put (q := p1) (ho := .lst (vs2.dropLast.dropLast ++ [w114])) (by first | assumption | exact Ne.symm (by assumption))
        have r104 := Rp.mono y115.gg r104
        cases hm
        exact kN97 _ _ _ _ rfl ⟨_, xt, mk88, rfl, ⟨_, o116⟩, o15⟩
      · rintro s86 _ G127 H128 rfl ⟨v125, xt, mk126, rfl, ⟨vs2, o7⟩, o15⟩
        refine sv_nx ?_
        have r_cells_here_ := Rp.mono mk126 r_cells_here_
        have r_room_ := Rp.mono mk126 r_room_
        have r_letters_ := Rp.mono mk126 r_letters_
        have sf := Same.new (o := .lst vs2) o7.g
        have xt := xt.frz hz6 o7.g o7.h
        have r131 := o7.tell
        have r_cells_here_ := Rp.mono sf r_cells_here_
        have r_room_ := Rp.mono sf r_room_
        have r_letters_ := Rp.mono sf r_letters_
        have o15 := o15.over (o := .lst vs2) (by first | assumption | exact Ne.symm (by assumption)) o7.g
        exact sv_ret (K := K) (ev_at (ev_var rfl r131) ev_i) hm xt.gh fun v134 G135 H136 x137 r138 => q v134 G135 H136 (xt.trans x137) r138
      · rintro r' v' G' H' rfl rl
        cases hm
        exact q v' G' H' rl.1 rl.2
  · rintro r' v' G' H' rfl rl
    cases hm
    exact q v' G' H' rl.1 rl.2
theorem ok_denied {f : Addr} {fd : FuncData} (F : Fun K "denied" "denied" s_denied f fd) (T : Txt w K mg) : FnOk P w K mg base CX0 1 f fd ["plain"] (spM K mm_denied) := by
  refine F.ok sc_denied (fun vs H Q E h => (spM_len h).trans rfl) (fun cdv A outer s H0 vs Q E hr h => ?_)
  obtain ⟨G0, ⟨plain_, ⟨⟩⟩, res, sg0, ⟨v_plain_, _, rfl, r_plain_, rfl⟩, hm, q⟩ := h
  replace r_plain_ : Rp.rel K G0 v_plain_ plain_ := r_plain_
  replace hm : m_denied plain_ = some res := hm
  unfold m_denied at hm
  have xt : Ext G0 H0 G0 H0 := Ext.refl sg0
  refine ⟨_, (pss_cons (ps_if (pt_cmpR op_eq (pe_ix (ix_anyK (K := K) rfl) (pv 0) pe_int (fun _ _ => rfl)) pe_str (nomark _)) (pss_cons (ps_ret (pe_ix (ix_anyK (K := K) rfl) (pv 0) pe_int (fun _ _ => rfl)))
      pss_nil) pss_nil)
      (pss_cons (ps_ret (pe_tup (pa_cons pe_str (pa_cons (pv 0) pa_nil))))
      pss_nil)), ?_⟩
  obtain ⟨b9, h10, hm⟩ := Option.bind_eq_some_iff.mp hm
  refine sv_if (tv_test (K := K) (ev_eqS (ev_asTxt (ev_atT (ev_asTup (ev_var rfl r_plain_)) ev_i)) ev_s)) h10 xt.gh fun G11 H12 x13 => ?_
  have xt := xt.trans x13
  have r_plain_ := Rp.mono x13.gg r_plain_
  cases b9 with
  | true =>
    replace hm := cT hm
    refine iteT ?_
    exact sv_ret (K := K) (ev_atT (ev_asTup (ev_var rfl r_plain_)) ev_i) hm xt.gh fun v17 G18 H19 x20 r21 => q v17 G18 H19 (xt.trans x20) r21
  | false =>
    replace hm := cF hm
    refine iteF ?_
    exact sv_ret (K := K) (ev_tupNL (lv_cons (ev_txtN ev_s) (lv_cons (ev_var rfl r_plain_) (lv_nil (α := Nt))))) hm xt.gh fun v22 G23 H24 x25 r26 => q v22 G23 H24 (xt.trans x25) r26
theorem ok_plain_with_two {f : Addr} {fd : FuncData} (F : Fun K "plain_with_two" "plain_with_two" s_plain_with_two f fd) (T : Txt w K mg) (D_denied : DefOk P w K mg base "denied" 1 ["plain"] (spM K mm_denied)) : FnOk P w K mg base CX0 2 f fd ["word", "left", "right"] (spM K mm_plain_with_two) := by
  refine F.ok sc_plain_with_two (fun vs H Q E h => (spM_len h).trans rfl) (fun cdv A outer s H0 vs Q E hr h => ?_)
  obtain ⟨G0, ⟨word_, ⟨left_, ⟨right_, ⟨⟩⟩⟩⟩, res, sg0, ⟨v_word_, _, rfl, r_word_, ⟨v_left_, _, rfl, r_left_, ⟨v_right_, _, rfl, r_right_, rfl⟩⟩⟩, hm, q⟩ := h
  replace r_word_ : Rp.rel K G0 v_word_ word_ := r_word_
  replace r_left_ : Rp.rel K G0 v_left_ left_ := r_left_
  replace r_right_ : Rp.rel K G0 v_right_ right_ := r_right_
  replace hm : m_plain_with_two word_ left_ right_ = some res := hm
  unfold m_plain_with_two at hm
  have xt : Ext G0 H0 G0 H0 := Ext.refl sg0
  refine ⟨_, (pss_cons (ps_if (pt_cmpR op_eq (pv 0) pe_str (nomark _)) (pss_cons (ps_ret (pe_tup (pa_cons pe_str (pa_cons (pe_tup (pa_cons pe_str (pa_cons (pe_def D_denied hr (by decide) rfl (pa_cons (pv 1) pa_nil)) (pa_cons (pe_def D_denied hr (by decide) rfl (pa_cons (pv 2) pa_nil)) pa_nil)))) pa_nil))))
      pss_nil) pss_nil)
      (pss_cons (ps_if (pt_cmpR op_eq (pv 0) pe_str (nomark _)) (pss_cons (ps_ret (pe_tup (pa_cons pe_str (pa_cons (pe_tup (pa_cons pe_str (pa_cons (pv 1) (pa_cons (pe_def D_denied hr (by decide) rfl (pa_cons (pv 2) pa_nil)) pa_nil)))) pa_nil))))
      pss_nil) pss_nil)
      (pss_cons (ps_if (pt_cmpR op_eq (pv 0) pe_str (nomark _)) (pss_cons (ps_ret (pe_tup (pa_cons pe_str (pa_cons (pe_tup (pa_cons pe_str (pa_cons (pe_def D_denied hr (by decide) rfl (pa_cons (pv 1) pa_nil)) (pa_cons (pe_def D_denied hr (by decide) rfl (pa_cons (pv 2) pa_nil)) pa_nil)))) pa_nil))))
      pss_nil) pss_nil)
      (pss_cons (ps_ret (pe_tup (pa_cons (pv 0) (pa_cons (pv 1) (pa_cons (pv 2) pa_nil)))))
      pss_nil)))), ?_⟩
  obtain ⟨b1, h2, hm⟩ := Option.bind_eq_some_iff.mp hm
  refine sv_if (tv_test (K := K) (ev_eqS (ev_var rfl r_word_) ev_s)) h2 xt.gh fun G3 H4 x5 => ?_
  have xt := xt.trans x5
  have r_word_ := Rp.mono x5.gg r_word_
  have r_left_ := Rp.mono x5.gg r_left_
  have r_right_ := Rp.mono x5.gg r_right_
  cases b1 with
  | true =>
    replace hm := cT hm
    refine iteT ?_
    exact sv_ret (K := K) (ev_tupNL (lv_cons (ev_txtN ev_s) (lv_cons (ev_tupNL (lv_cons (ev_txtN ev_s) (lv_cons (ev_def1 (m := mm_denied) (ev_var rfl r_left_)) (lv_cons (ev_def1 (m := mm_denied) (ev_var rfl r_right_)) (lv_nil (α := Nt)))))) (lv_nil (α := Nt))))) hm xt.gh fun v16 G17 H18 x19 r20 => q v16 G17 H18 (xt.trans x19) r20
  | false =>
    replace hm := cF hm
    refine iteF ?_
    obtain ⟨b21, h22, hm⟩ := Option.bind_eq_some_iff.mp hm
    refine sv_if (tv_test (K := K) (ev_eqS (ev_var rfl r_word_) ev_s)) h22 xt.gh fun G23 H24 x25 => ?_
    have xt := xt.trans x25
    have r_word_ := Rp.mono x25.gg r_word_
    have r_left_ := Rp.mono x25.gg r_left_
    have r_right_ := Rp.mono x25.gg r_right_
    cases b21 with
    | true =>
      replace hm := cT hm
      refine iteT ?_
      exact sv_ret (K := K) (ev_tupNL (lv_cons (ev_txtN ev_s) (lv_cons (ev_tupNL (lv_cons (ev_txtN ev_s) (lv_cons (ev_var rfl r_left_) (lv_cons (ev_def1 (m := mm_denied) (ev_var rfl r_right_)) (lv_nil (α := Nt)))))) (lv_nil (α := Nt))))) hm xt.gh fun v34 G35 H36 x37 r38 => q v34 G35 H36 (xt.trans x37) r38
    | false =>
      replace hm := cF hm
      refine iteF ?_
      obtain ⟨b39, h40, hm⟩ := Option.bind_eq_some_iff.mp hm
      refine sv_if (tv_test (K := K) (ev_eqS (ev_var rfl r_word_) ev_s)) h40 xt.gh fun G41 H42 x43 => ?_
      have xt := xt.trans x43
      have r_word_ := Rp.mono x43.gg r_word_
      have r_left_ := Rp.mono x43.gg r_left_
      have r_right_ := Rp.mono x43.gg r_right_
      cases b39 with
      | true =>
        replace hm := cT hm
        refine iteT ?_
        exact sv_ret (K := K) (ev_tupNL (lv_cons (ev_txtN ev_s) (lv_cons (ev_tupNL (lv_cons (ev_txtN ev_s) (lv_cons (ev_def1 (m := mm_denied) (ev_var rfl r_left_)) (lv_cons (ev_def1 (m := mm_denied) (ev_var rfl r_right_)) (lv_nil (α := Nt)))))) (lv_nil (α := Nt))))) hm xt.gh fun v54 G55 H56 x57 r58 => q v54 G55 H56 (xt.trans x57) r58
      | false =>
        replace hm := cF hm
        refine iteF ?_
        exact sv_ret (K := K) (ev_tupNL (lv_cons (ev_txtN (ev_var rfl r_word_)) (lv_cons (ev_var rfl r_left_) (lv_cons (ev_var rfl r_right_) (lv_nil (α := Nt)))))) hm xt.gh fun v59 G60 H61 x62 r63 => q v59 G60 H61 (xt.trans x62) r63
theorem ok_plain_with_one {f : Addr} {fd : FuncData} (F : Fun K "plain_with_one" "plain_with_one" s_plain_with_one f fd) (T : Txt w K mg) (D_denied : DefOk P w K mg base "denied" 1 ["plain"] (spM K mm_denied)) : FnOk P w K mg base CX0 2 f fd ["word", "inner"] (spM K mm_plain_with_one) := by
  refine F.ok sc_plain_with_one (fun vs H Q E h => (spM_len h).trans rfl) (fun cdv A outer s H0 vs Q E hr h => ?_)
  obtain ⟨G0, ⟨word_, ⟨inner_, ⟨⟩⟩⟩, res, sg0, ⟨v_word_, _, rfl, r_word_, ⟨v_inner_, _, rfl, r_inner_, rfl⟩⟩, hm, q⟩ := h
  replace r_word_ : Rp.rel K G0 v_word_ word_ := r_word_
  replace r_inner_ : Rp.rel K G0 v_inner_ inner_ := r_inner_
  replace hm : m_plain_with_one word_ inner_ = some res := hm
  unfold m_plain_with_one at hm
  obtain ⟨a_YES, e_YES, q_YES⟩ := T.YES
  have xt : Ext G0 H0 G0 H0 := Ext.refl sg0
  refine ⟨_, (pss_cons (ps_if (pt_cmpR op_eq (pv 0) pe_str (nomark _)) (pss_cons (ps_ret (pe_def D_denied hr (by decide) rfl (pa_cons (pv 1) pa_nil)))
      pss_nil) pss_nil)
      (pss_cons (ps_if (pt_cmpR op_eq (pv 0) pe_str (nomark _)) (pss_cons (ps_ret (pe_tup (pa_cons pe_str (pa_cons (pv 1) pa_nil))))
      pss_nil) pss_nil)
      (pss_cons (ps_if (pt_cmpR op_eq (pv 0) pe_str (nomark _)) (pss_cons (ps_ret (pe_tup (pa_cons pe_str (pa_cons (pe_globR rfl e_YES) (pa_cons (pv 1) pa_nil)))))
      pss_nil) pss_nil)
      (pss_cons (ps_if (pt_cmpR op_eq (pv 0) pe_str (nomark _)) (pss_cons (ps_ret (pe_tup (pa_cons pe_str (pa_cons (pe_tup (pa_cons pe_str (pa_cons (pe_globR rfl e_YES) (pa_cons (pe_def D_denied hr (by decide) rfl (pa_cons (pv 1) pa_nil)) pa_nil)))) pa_nil))))
      pss_nil) pss_nil)
      (pss_cons (ps_if (pt_cmpR op_eq (pv 0) pe_str (nomark _)) (pss_cons (ps_ret (pe_tup (pa_cons pe_str (pa_cons (pe_tup (pa_cons pe_str (pa_cons (pe_globR rfl e_YES) (pa_cons (pe_tup (pa_cons pe_str (pa_cons (pe_tup (pa_cons pe_str (pa_cons (pe_globR rfl e_YES) (pa_cons (pv 1) pa_nil)))) pa_nil))) pa_nil)))) pa_nil))))
      pss_nil) pss_nil)
      (pss_cons (ps_ret (pe_tup (pa_cons pe_str (pa_cons (pe_globR rfl e_YES) (pa_cons (pe_tup (pa_cons pe_str (pa_cons (pe_tup (pa_cons pe_str (pa_cons (pe_globR rfl e_YES) (pa_cons (pe_def D_denied hr (by decide) rfl (pa_cons (pv 1) pa_nil)) pa_nil)))) pa_nil))) pa_nil)))))
      pss_nil)))))), ?_⟩
  obtain ⟨b1, h2, hm⟩ := Option.bind_eq_some_iff.mp hm
  refine sv_if (tv_test (K := K) (ev_eqS (ev_var rfl r_word_) ev_s)) h2 xt.gh fun G3 H4 x5 => ?_
  have xt := xt.trans x5
  have r_word_ := Rp.mono x5.gg r_word_
  have r_inner_ := Rp.mono x5.gg r_inner_
  cases b1 with
  | true =>
    replace hm := cT hm
    refine iteT ?_
    exact sv_ret (K := K) (ev_def1 (m := mm_denied) (ev_var rfl r_inner_)) hm xt.gh fun v7 G8 H9 x10 r11 => q v7 G8 H9 (xt.trans x10) r11
  | false =>
    replace hm := cF hm
    refine iteF ?_
    obtain ⟨b12, h13, hm⟩ := Option.bind_eq_some_iff.mp hm
    refine sv_if (tv_test (K := K) (ev_eqS (ev_var rfl r_word_) ev_s)) h13 xt.gh fun G14 H15 x16 => ?_
    have xt := xt.trans x16
    have r_word_ := Rp.mono x16.gg r_word_
    have r_inner_ := Rp.mono x16.gg r_inner_
    cases b12 with
    | true =>
      replace hm := cT hm
      refine iteT ?_
      exact sv_ret (K := K) (ev_tupNL (lv_cons (ev_txtN ev_s) (lv_cons (ev_var rfl r_inner_) (lv_nil (α := Nt))))) hm xt.gh fun v17 G18 H19 x20 r21 => q v17 G18 H19 (xt.trans x20) r21
    | false =>
      replace hm := cF hm
      refine iteF ?_
      obtain ⟨b22, h23, hm⟩ := Option.bind_eq_some_iff.mp hm
      refine sv_if (tv_test (K := K) (ev_eqS (ev_var rfl r_word_) ev_s)) h23 xt.gh fun G24 H25 x26 => ?_
      have xt := xt.trans x26
      have r_word_ := Rp.mono x26.gg r_word_
      have r_inner_ := Rp.mono x26.gg r_inner_
      cases b22 with
      | true =>
        replace hm := cT hm
        refine iteT ?_
        exact sv_ret (K := K) (ev_tupNL (lv_cons (ev_txtN ev_s) (lv_cons (ev_c q_YES) (lv_cons (ev_var rfl r_inner_) (lv_nil (α := Nt)))))) hm xt.gh fun v27 G28 H29 x30 r31 => q v27 G28 H29 (xt.trans x30) r31
      | false =>
        replace hm := cF hm
        refine iteF ?_
        obtain ⟨b32, h33, hm⟩ := Option.bind_eq_some_iff.mp hm
        refine sv_if (tv_test (K := K) (ev_eqS (ev_var rfl r_word_) ev_s)) h33 xt.gh fun G34 H35 x36 => ?_
        have xt := xt.trans x36
        have r_word_ := Rp.mono x36.gg r_word_
        have r_inner_ := Rp.mono x36.gg r_inner_
        cases b32 with
        | true =>
          replace hm := cT hm
          refine iteT ?_
          exact sv_ret (K := K) (ev_tupNL (lv_cons (ev_txtN ev_s) (lv_cons (ev_tupNL (lv_cons (ev_txtN ev_s) (lv_cons (ev_c q_YES) (lv_cons (ev_def1 (m := mm_denied) (ev_var rfl r_inner_)) (lv_nil (α := Nt)))))) (lv_nil (α := Nt))))) hm xt.gh fun v45 G46 H47 x48 r49 => q v45 G46 H47 (xt.trans x48) r49
        | false =>
          replace hm := cF hm
          refine iteF ?_
          obtain ⟨b50, h51, hm⟩ := Option.bind_eq_some_iff.mp hm
          refine sv_if (tv_test (K := K) (ev_eqS (ev_var rfl r_word_) ev_s)) h51 xt.gh fun G52 H53 x54 => ?_
          have xt := xt.trans x54
          have r_word_ := Rp.mono x54.gg r_word_
          have r_inner_ := Rp.mono x54.gg r_inner_
          cases b50 with
          | true =>
            replace hm := cT hm
            refine iteT ?_
            exact sv_ret (K := K) (ev_tupNL (lv_cons (ev_txtN ev_s) (lv_cons (ev_tupNL (lv_cons (ev_txtN ev_s) (lv_cons (ev_c q_YES) (lv_cons (ev_tupNL (lv_cons (ev_txtN ev_s) (lv_cons (ev_tupNL (lv_cons (ev_txtN ev_s) (lv_cons (ev_c q_YES) (lv_cons (ev_var rfl r_inner_) (lv_nil (α := Nt)))))) (lv_nil (α := Nt))))) (lv_nil (α := Nt)))))) (lv_nil (α := Nt))))) hm xt.gh fun v55 G56 H57 x58 r59 => q v55 G56 H57 (xt.trans x58) r59
          | false =>
            replace hm := cF hm
            refine iteF ?_
            exact sv_ret (K := K) (ev_tupNL (lv_cons (ev_txtN ev_s) (lv_cons (ev_c q_YES) (lv_cons (ev_tupNL (lv_cons (ev_txtN ev_s) (lv_cons (ev_tupNL (lv_cons (ev_txtN ev_s) (lv_cons (ev_c q_YES) (lv_cons (ev_def1 (m := mm_denied) (ev_var rfl r_inner_)) (lv_nil (α := Nt)))))) (lv_nil (α := Nt))))) (lv_nil (α := Nt)))))) hm xt.gh fun v72 G73 H74 x75 r76 => q v72 G73 H74 (xt.trans x75) r76
theorem ok0_plain {f : Addr} {fd : FuncData} (F : Fun K "plain" "plain" s_plain f fd) : FnOk P w K mg base CX0 3 f fd ["sentence"] (spM K (mm_plain 0)) := by
  refine F.ok sc_plain (fun vs H Q E h => (spM_len h).trans rfl) (fun cdv A outer s H0 vs Q E hr h => ?_)
  obtain ⟨_, _, _, _, _, hm, _⟩ := h
  exact nomatch (hm : none = some _)
theorem ok_plain {f : Addr} {fd : FuncData} (F : Fun K "plain" "plain" s_plain f fd) (T : Txt w K mg) (D_plain_with_two : DefOk P w K mg base "plain_with_two" 2 ["word", "left", "right"] (spM K mm_plain_with_two)) (D_plain_with_one : DefOk P w K mg base "plain_with_one" 2 ["word", "inner"] (spM K mm_plain_with_one)) (fuel_ : Nat) (D_plain : DefOk P w K mg base "plain" (3 + fuel_) ["sentence"] (spM K (mm_plain fuel_))) : FnOk P w K mg base CX0 (3 + fuel_ + 1) f fd ["sentence"] (spM K (mm_plain (fuel_ + 1))) := by
  refine F.ok sc_plain (fun vs H Q E h => (spM_len h).trans rfl) (fun cdv A outer s H0 vs Q E hr h => ?_)
  obtain ⟨G0, ⟨sentence_, ⟨⟩⟩, res, sg0, ⟨v_sentence_, _, rfl, r_sentence_, rfl⟩, hm, q⟩ := h
  replace r_sentence_ : Rp.rel K G0 v_sentence_ sentence_ := r_sentence_
  replace hm : msm_plain (m_plain fuel_) sentence_ = some res := hm
  unfold msm_plain at hm
  obtain ⟨a_YES, e_YES, q_YES⟩ := T.YES
  have xt : Ext G0 H0 G0 H0 := Ext.refl sg0
  refine ⟨_, (pss_cons (ps_set (i := 1) sc_plain.nd rfl (Or.inl rfl) (pe_ix (ix_anyK (K := K) rfl) (pv 0) pe_int (fun _ _ => rfl)))
      (pss_cons (ps_if (pt_cmpR op_eq (pv 1) pe_str (nomark _)) (pss_cons (ps_ret (pe_tup (pa_cons pe_str (pa_cons (pe_globR rfl e_YES) pa_nil))))
      pss_nil) pss_nil)
      (pss_cons (ps_if (PW.pt (pw_or (pt_cmpR op_eq (pv 1) pe_str (nomark _)) (pw_or1 (pt_cmpR op_eq (pv 1) pe_str (nomark _))))) (pss_cons (ps_ret (pv 0))
      pss_nil) pss_nil)
      (pss_cons (ps_if (pt_cmpR op_eq (pe_callB (call_lenK (K := K) rfl) (by rfl) T.len_ bt_len (pa_cons (pv 0) pa_nil)) pe_int (nomark _)) (pss_cons (ps_ret (pe_def D_plain_with_one hr (by omega) rfl (pa_cons (pv 1) (pa_cons (pe_def D_plain hr (by omega) rfl (pa_cons (pe_ix (ix_anyK (K := K) rfl) (pv 0) pe_int (fun _ _ => rfl)) pa_nil)) pa_nil))))
      pss_nil) pss_nil)
      (pss_cons (ps_ret (pe_def D_plain_with_two hr (by omega) rfl (pa_cons (pv 1) (pa_cons (pe_def D_plain hr (by omega) rfl (pa_cons (pe_ix (ix_anyK (K := K) rfl) (pv 0) pe_int (fun _ _ => rfl)) pa_nil)) (pa_cons (pe_def D_plain hr (by omega) rfl (pa_cons (pe_ix (ix_anyK (K := K) rfl) (pv 0) pe_int (fun _ _ => rfl)) pa_nil)) pa_nil)))))
      pss_nil))))), ?_⟩
  obtain ⟨word_, h10, hm⟩ := Option.bind_eq_some_iff.mp hm
  refine sv_set (K := K) (ev_asTxt (ev_atT (ev_asTup (ev_var rfl r_sentence_)) ev_i)) h10 xt.gh fun v5 G6 H7 x8 r9 => ?_
  have xt := xt.trans x8
  have r_sentence_ := Rp.mono x8.gg r_sentence_
  obtain ⟨b11, h12, hm⟩ := Option.bind_eq_some_iff.mp hm
  refine sv_if (tv_test (K := K) (ev_eqS (ev_var rfl r9) ev_s)) h12 xt.gh fun G13 H14 x15 => ?_
  have xt := xt.trans x15
  have r_sentence_ := Rp.mono x15.gg r_sentence_
  have r9 := Rp.mono x15.gg r9
  cases b11 with
  | true =>
    replace hm := cT hm
    refine iteT ?_
    exact sv_ret (K := K) (rest := tNext) (σ := [some v_sentence_, some v5]) (ev_tupNL (lv_cons (ev_txtN ev_s) (lv_cons (ev_c q_YES) (lv_nil (α := Nt))))) hm xt.gh fun v16 G17 H18 x19 r20 => q v16 G17 H18 (xt.trans x19) r20
  | false =>
    replace hm := cF hm
    refine iteF ?_
    obtain ⟨b21, h22, hm⟩ := Option.bind_eq_some_iff.mp hm
    refine sv_if (tv_orP (tv_test (K := K) (ev_eqS (ev_var rfl r9) ev_s)) (tv_test (K := K) (ev_eqS (ev_var rfl r9) ev_s))) h22 xt.gh fun G23 H24 x25 => ?_
    have xt := xt.trans x25
    have r_sentence_ := Rp.mono x25.gg r_sentence_
    have r9 := Rp.mono x25.gg r9
    cases b21 with
    | true =>
      replace hm := cT hm
      refine iteT ?_
      exact sv_ret (K := K) (ev_var rfl r_sentence_) hm xt.gh fun v26 G27 H28 x29 r30 => q v26 G27 H28 (xt.trans x29) r30
    | false =>
      replace hm := cF hm
      refine iteF ?_
      obtain ⟨b34, h35, hm⟩ := Option.bind_eq_some_iff.mp hm
      refine sv_if (tv_test (K := K) (ev_eqI (ev_lenT (ev_asTup (ev_var rfl r_sentence_))) ev_i)) h35 xt.gh fun G36 H37 x38 => ?_
      have xt := xt.trans x38
      have r_sentence_ := Rp.mono x38.gg r_sentence_
      have r9 := Rp.mono x38.gg r9
      cases b34 with
      | true =>
        replace hm := cT hm
        refine iteT ?_
        exact sv_ret (K := K) (ev_def2 (m := mm_plain_with_one) (ev_var rfl r9) (ev_def1 (m := mm_plain fuel_) (ev_atT (ev_asTup (ev_var rfl r_sentence_)) ev_i))) hm xt.gh fun v45 G46 H47 x48 r49 => q v45 G46 H47 (xt.trans x48) r49
      | false =>
        replace hm := cF hm
        refine iteF ?_
        exact sv_ret (K := K) (ev_def3 (m := mm_plain_with_two) (ev_var rfl r9) (ev_def1 (m := mm_plain fuel_) (ev_atT (ev_asTup (ev_var rfl r_sentence_)) ev_i)) (ev_def1 (m := mm_plain fuel_) (ev_atT (ev_asTup (ev_var rfl r_sentence_)) ev_i))) hm xt.gh fun v61 G62 H63 x64 r65 => q v61 G62 H63 (xt.trans x64) r65
theorem ok_law_one_is_plain {f : Addr} {fd : FuncData} (F : Fun K "_law_one_is_plain" "_law_one_is_plain" s_law_one_is_plain f fd) (T : Txt w K mg) : FnOk P w K mg base CX0 1 f fd ["_law_one"] (spM K mm_law_one_is_plain) := by
  refine F.ok sc_law_one_is_plain (fun vs H Q E h => (spM_len h).trans rfl) (fun cdv A outer s H0 vs Q E hr h => ?_)
  obtain ⟨G0, ⟨one_, ⟨⟩⟩, res, sg0, ⟨v_one_, _, rfl, r_one_, rfl⟩, hm, q⟩ := h
  replace r_one_ : Rp.rel K G0 v_one_ one_ := r_one_
  replace hm : m_law_one_is_plain one_ = some res := hm
  unfold m_law_one_is_plain at hm
  have xt : Ext G0 H0 G0 H0 := Ext.refl sg0
  refine ⟨_, (pss_cons (ps_if (PW.pt (pw_or (pt_not (pt_truthK (K := K) rfl (pe_callB (call_instK (K := K) rfl) (by rfl) T.isinstance_ bt_isinstance (pa_cons (pv 0) (pa_cons (pe_bltn (v := .ty "tuple") rfl T.tuple_ bt_tuple rfl) pa_nil))) (fun _ => rfl))) (pw_or (pt_cmpR op_eq (pe_callB (call_lenK (K := K) rfl) (by rfl) T.len_ bt_len (pa_cons (pv 0) pa_nil)) pe_int (nomark _)) (pw_or1 (pt_not (pt_truthK (K := K) rfl (pe_callB (call_instK (K := K) rfl) (by rfl) T.isinstance_ bt_isinstance (pa_cons (pe_ix (ix_anyK (K := K) rfl) (pv 0) pe_int (fun _ _ => rfl)) (pa_cons (pe_bltn (v := .ty "str") rfl T.str_ bt_str rfl) pa_nil))) (fun _ => rfl))))))) (pss_cons (ps_ret pe_bl)
      pss_nil) pss_nil)
      (pss_cons (ps_if (pt_cmpR op_eq (pe_ix (ix_anyK (K := K) rfl) (pv 0) pe_int (fun _ _ => rfl)) pe_str (nomark _)) (pss_cons (ps_ret (pe_cmpR op_eq (pe_callB (call_lenK (K := K) rfl) (by rfl) T.len_ bt_len (pa_cons (pv 0) pa_nil)) pe_int (nomark _)))
      pss_nil) pss_nil)
      (pss_cons (ps_if (pt_cmpR op_eq (pe_ix (ix_anyK (K := K) rfl) (pv 0) pe_int (fun _ _ => rfl)) pe_str (nomark _)) (pss_cons (ps_ret (pe_and (pe_cmpR op_eq (pe_callB (call_lenK (K := K) rfl) (by rfl) T.len_ bt_len (pa_cons (pv 0) pa_nil)) pe_int (nomark _)) (pe_and (pe_callB (call_instK (K := K) rfl) (by rfl) T.isinstance_ bt_isinstance (pa_cons (pe_ix (ix_anyK (K := K) rfl) (pv 0) pe_int (fun _ _ => rfl)) (pa_cons (pe_bltn (v := .ty "str") rfl T.str_ bt_str rfl) pa_nil))) (pe_and (pe_cmpR op_eq (pe_callB (call_lenK (K := K) rfl) (by rfl) T.len_ bt_len (pa_cons (pe_ix (ix_anyK (K := K) rfl) (pv 0) pe_int (fun _ _ => rfl)) pa_nil)) pe_int (nomark _)) (pe_one (pe_chain op_leU op_leU pe_str (pe_ix (ix_anyK (K := K) rfl) (pv 0) pe_int (fun _ _ => rfl)) pe_str))))))
      pss_nil) pss_nil)
      (pss_cons (ps_if (pt_cmpR op_eq (pe_ix (ix_anyK (K := K) rfl) (pv 0) pe_int (fun _ _ => rfl)) pe_str (nomark _)) (pss_cons (ps_ret (pe_and (pe_cmpR op_eq (pe_callB (call_lenK (K := K) rfl) (by rfl) T.len_ bt_len (pa_cons (pv 0) pa_nil)) pe_int (nomark _)) (pe_and (pe_callB (call_instK (K := K) rfl) (by rfl) T.isinstance_ bt_isinstance (pa_cons (pe_ix (ix_anyK (K := K) rfl) (pv 0) pe_int (fun _ _ => rfl)) (pa_cons (pe_bltn (v := .ty "tuple") rfl T.tuple_ bt_tuple rfl) pa_nil))) (pe_one (pe_cmpR (op_neN (K := K) rfl hr) (pe_slice (sl_tupA (K := K) rfl) (pe_ix (ix_anyK (K := K) rfl) (pv 0) pe_int (fun _ _ => rfl)) po_none (po_some pe_int)) (pe_tup (pa_cons pe_str pa_nil)) (nomark _))))))
      pss_nil) pss_nil)
      (pss_cons (ps_if (pt_cmpR op_eq (pe_ix (ix_anyK (K := K) rfl) (pv 0) pe_int (fun _ _ => rfl)) pe_str (nomark _)) (pss_cons (ps_ret (pe_cmpR op_eq (pe_callB (call_lenK (K := K) rfl) (by rfl) T.len_ bt_len (pa_cons (pv 0) pa_nil)) pe_int (nomark _)))
      pss_nil) pss_nil)
      (pss_cons (ps_ret (pe_and (pe_cmpR op_eq (pe_callB (call_lenK (K := K) rfl) (by rfl) T.len_ bt_len (pa_cons (pv 0) pa_nil)) pe_int (nomark _)) (pe_one (pe_or (pe_cmpR op_eq (pe_ix (ix_anyK (K := K) rfl) (pv 0) pe_int (fun _ _ => rfl)) pe_str (nomark _)) (pe_one (pe_cmpR op_eq (pe_ix (ix_anyK (K := K) rfl) (pv 0) pe_int (fun _ _ => rfl)) pe_str (nomark _)))))))
      pss_nil)))))), ?_⟩
  obtain ⟨b15, h16, hm⟩ := Option.bind_eq_some_iff.mp hm
  refine sv_if (tv_or (tv_not (tv_b (K := K) (ev_instD (by decide) (ev_toD (ev_var rfl r_one_))))) (tv_or (tv_test (K := K) (ev_eqI (ev_lenT (ev_asTup (ev_var rfl r_one_))) ev_i)) (tv_not (tv_b (K := K) (ev_instD (by decide) (ev_toD (ev_atT (ev_asTup (ev_var rfl r_one_)) ev_i))))))) h16 xt.gh fun G17 H18 x19 => ?_
  have xt := xt.trans x19
  have r_one_ := Rp.mono x19.gg r_one_
  cases b15 with
  | true =>
    replace hm := cT hm
    refine iteT ?_
    exact sv_ret (K := K) (rest := tNext) (σ := [some v_one_]) ev_b hm xt.gh fun v20 G21 H22 x23 r24 => q v20 G21 H22 (xt.trans x23) r24
  | false =>
    replace hm := cF hm
    refine iteF ?_
    obtain ⟨b33, h34, hm⟩ := Option.bind_eq_some_iff.mp hm
    refine sv_if (tv_test (K := K) (ev_eqS (ev_asTxt (ev_atT (ev_asTup (ev_var rfl r_one_)) ev_i)) ev_s)) h34 xt.gh fun G35 H36 x37 => ?_
    have xt := xt.trans x37
    have r_one_ := Rp.mono x37.gg r_one_
    cases b33 with
    | true =>
      replace hm := cT hm
      refine iteT ?_
      exact sv_ret (K := K) (ev_eqI (ev_lenT (ev_asTup (ev_var rfl r_one_))) ev_i) hm xt.gh fun v41 G42 H43 x44 r45 => q v41 G42 H43 (xt.trans x44) r45
    | false =>
      replace hm := cF hm
      refine iteF ?_
      obtain ⟨b54, h55, hm⟩ := Option.bind_eq_some_iff.mp hm
      refine sv_if (tv_test (K := K) (ev_eqS (ev_asTxt (ev_atT (ev_asTup (ev_var rfl r_one_)) ev_i)) ev_s)) h55 xt.gh fun G56 H57 x58 => ?_
      have xt := xt.trans x58
      have r_one_ := Rp.mono x58.gg r_one_
      cases b54 with
      | true =>
        replace hm := cT hm
        refine iteT ?_
        exact sv_ret (K := K) (ev_and (ev_eqI (ev_lenT (ev_asTup (ev_var rfl r_one_))) ev_i) (ev_and (ev_instD (by decide) (ev_toD (ev_atT (ev_asTup (ev_var rfl r_one_)) ev_i))) (ev_and (ev_eqI (ev_lenS (ev_asTxt (ev_atT (ev_asTup (ev_var rfl r_one_)) ev_i))) ev_i) (ev_chainS ev_s (ev_asTxt (ev_atT (ev_asTup (ev_var rfl r_one_)) ev_i)) ev_s)))) hm xt.gh fun v90 G91 H92 x93 r94 => q v90 G91 H92 (xt.trans x93) r94
      | false =>
        replace hm := cF hm
        refine iteF ?_
        obtain ⟨b103, h104, hm⟩ := Option.bind_eq_some_iff.mp hm
        refine sv_if (tv_test (K := K) (ev_eqS (ev_asTxt (ev_atT (ev_asTup (ev_var rfl r_one_)) ev_i)) ev_s)) h104 xt.gh fun G105 H106 x107 => ?_
        have xt := xt.trans x107
        have r_one_ := Rp.mono x107.gg r_one_
        cases b103 with
        | true =>
          replace hm := cT hm
          refine iteT ?_
          exact sv_ret (K := K) (ev_and (ev_eqI (ev_lenT (ev_asTup (ev_var rfl r_one_))) ev_i) (ev_and (ev_instD (by decide) (ev_toD (ev_atT (ev_asTup (ev_var rfl r_one_)) ev_i))) (ev_neN (ev_tupN (ev_sliceTA (ev_asTup (ev_atT (ev_asTup (ev_var rfl r_one_)) ev_i)) ov_none (ov_some (K := K) ev_i))) (ev_tupNL (lv_cons (ev_txtN ev_s) (lv_nil (α := Nt))))))) hm xt.gh fun v134 G135 H136 x137 r138 => q v134 G135 H136 (xt.trans x137) r138
        | false =>
          replace hm := cF hm
          refine iteF ?_
          obtain ⟨b147, h148, hm⟩ := Option.bind_eq_some_iff.mp hm
          refine sv_if (tv_test (K := K) (ev_eqS (ev_asTxt (ev_atT (ev_asTup (ev_var rfl r_one_)) ev_i)) ev_s)) h148 xt.gh fun G149 H150 x151 => ?_
          have xt := xt.trans x151
          have r_one_ := Rp.mono x151.gg r_one_
          cases b147 with
          | true =>
            replace hm := cT hm
            refine iteT ?_
            exact sv_ret (K := K) (ev_eqI (ev_lenT (ev_asTup (ev_var rfl r_one_))) ev_i) hm xt.gh fun v155 G156 H157 x158 r159 => q v155 G156 H157 (xt.trans x158) r159
          | false =>
            replace hm := cF hm
            refine iteF ?_
            exact sv_ret (K := K) (ev_and (ev_eqI (ev_lenT (ev_asTup (ev_var rfl r_one_))) ev_i) (ev_or (ev_eqS (ev_asTxt (ev_atT (ev_asTup (ev_var rfl r_one_)) ev_i)) ev_s) (ev_eqS (ev_asTxt (ev_atT (ev_asTup (ev_var rfl r_one_)) ev_i)) ev_s))) hm xt.gh fun v181 G182 H183 x184 r185 => q v181 G182 H183 (xt.trans x184) r185
theorem ok_law_count {f : Addr} {fd : FuncData} (F : Fun K "_law_count" "_law_count" s_law_count f fd) (T : Txt w K mg) (D_law_one_is_plain : DefOk P w K mg base "_law_one_is_plain" 1 ["_law_one"] (spM K mm_law_one_is_plain)) : FnOk P w K mg base CX0 2 f fd ["_law_told"] (spM K mm_law_count) := by
  refine F.ok sc_law_count (fun vs H Q E h => (spM_len h).trans rfl) (fun cdv A outer s H0 vs Q E hr h => ?_)
  obtain ⟨G0, ⟨told_, ⟨⟩⟩, res, sg0, ⟨v_told_, _, rfl, r_told_, rfl⟩, hm, q⟩ := h
  replace r_told_ : Rp.rel K G0 v_told_ told_ := r_told_
  replace hm : m_law_count told_ = some res := hm
  unfold m_law_count at hm
  have xt : Ext G0 H0 G0 H0 := Ext.refl sg0
  refine ⟨_, (pss_cons (ps_set (i := 1) sc_law_count.nd rfl (Or.inl rfl) (pe_lst (pa_cons (pv 0) pa_nil)))
      (pss_cons (ps_set (i := 2) sc_law_count.nd rfl (Or.inl rfl) pe_int)
      (pss_cons (ps_while PassesOwn.never (pt_cmpR op_gtU (pe_callB (call_lenK (K := K) rfl) (by rfl) T.len_ bt_len (pa_cons (pv 1) pa_nil)) pe_int (nomark _)) (pss_cons (ps_set (i := 3) sc_law_count.nd rfl (Or.inl rfl) (pe_bm0K (K := K) rfl PySem.F.plainAttrs_list PySem.F.slot_list_pop PySem.F.type_list_pop mt_pop (pv 1)))
      (pss_cons (ps_set (i := 2) sc_law_count.nd rfl (Or.inl rfl) (pe_op (op_plusK (K := K) rfl) (pv 2) pe_int))
      (pss_cons (ps_if (PW.pt (pw_or (pt_cmpR op_gtU (pv 2) pe_int (nomark _)) (pw_or1 (pt_not (pt_truthK (K := K) rfl (pe_def D_law_one_is_plain hr (by decide) rfl (pa_cons (pv 3) pa_nil)) (fun _ => rfl)))))) (pss_cons (ps_ret pe_non)
      pss_nil) pss_nil)
      (pss_cons (ps_if (pt_cmpR op_ne (pe_ix (ix_anyK (K := K) rfl) (pv 3) pe_int (fun _ _ => rfl)) pe_str (nomark _)) (pss_cons (ps_expr (pe_bmK (K := K) rfl PySem.F.plainAttrs_list PySem.F.slot_list_extend PySem.F.type_list_extend (mt_extendT (K := K) rfl) (pv 1) (pa_cons (pe_slice (sl_tupK (K := K) rfl) (pv 3) (po_some pe_int) po_none) pa_nil)))
      pss_nil) pss_nil)
      pss_nil)))))
      (pss_cons (ps_ret (pv 2))
      pss_nil)))), ?_⟩
  obtain ⟨waiting_, h8, hm⟩ := Option.bind_eq_some_iff.mp hm
  refine sv_own (K := K) (fv_lst (lv_cons (ev_var rfl r_told_) (lv_nil (α := Nt)))) h8 xt.gh fun p1 vs2 G3 H4 x5 hz6 o7 => ?_
  have hz6 := xt.hh.free hz6
  have xt := xt.trans x5
  have r_told_ := Rp.mono x5.gg r_told_
  obtain ⟨many_, h14, hm⟩ := Option.bind_eq_some_iff.mp hm
  refine sv_set (K := K) ev_i h14 xt.gh fun v9 G10 H11 x12 r13 => ?_
  have xt := xt.trans x12
  have r_told_ := Rp.mono x12.gg r_told_
  have o7 := o7.ext x12
  obtain ⟨fl15, h16, hm⟩ := Option.bind_eq_some_iff.mp hm
  refine sv_while (K := K) (G := G10) (RR := fun r v G' H' => Ext G0 H0 G' H' ∧ Rp.rel K G' v r) h16 (fun s17 S' G' H' => ∃ (v18 : V) (v19 : Option V), Ext G0 H0 G' H' ∧ Same G10 G' ∧ S' = [some v_told_, some (V.ref p1), some v18, v19] ∧ (∃ vs, Own K G' H' (V.ref p1) p1 vs s17.1) ∧ Rp.rel K G' v18 (s17.2 : Int)) ⟨?_, ?_, ?_, ?_, ?_, ?_⟩
  · exact ⟨v9, _, xt, (Same.refl _), rfl, ⟨_, o7⟩, r13⟩
  · rintro _ S' G' H' ⟨v18, v19, xt, mk20, rfl, ⟨vs2, o7⟩, r21⟩
    exact xt.gh
  · rintro s17 _ G22 H23 b' ⟨v18, v19, xt, mk20, rfl, ⟨vs2, o7⟩, r21⟩ hc Q' k'
    have r_told_ := Rp.mono mk20 r_told_
    refine TV.runB o7 (tv_test (K := K) (ev_ord (ev_len (ev_var rfl o7.tell)) ev_i)) hc xt.gh fun G24 H25 x26 => ?_
    have xt := xt.trans x26
    have mk20 := mk20.trans x26.gg
    have r_told_ := Rp.mono x26.gg r_told_
    have o7 := o7.ext x26
    have r21 := Rp.mono x26.gg r21
    exact k' _ _ ⟨v18, _, xt, mk20, rfl, ⟨_, o7⟩, r21⟩
  · rintro s17 _ G28 H29 fl27 ⟨v18, v19, xt, mk20, rfl, ⟨vs2, o7⟩, r21⟩ hm - D' kN30 kC31 kB32 kR33
    have r_told_ := Rp.mono mk20 r_told_
    obtain ⟨pr34, h35, hm⟩ := Option.bind_eq_some_iff.mp hm
    refine sv_pop (K := K) (a := pr34.1) (as' := pr34.2) rfl o7 h35 fun w36 r37 o38 => ?_
    have xt : Ext G0 H0 G28 (upd H29 p1 (.lst vs2.dropLast)) := xt.put hz6 o38.g
    obtain ⟨many_, h44, hm⟩ := Option.bind_eq_some_iff.mp hm
    refine sv_set (K := K) (ev_add (ev_var rfl r21) ev_i) h44 xt.gh fun v39 G40 H41 x42 r43 => ?_
    have xt := xt.trans x42
    have mk20 := mk20.trans x42.gg
    have r_told_ := Rp.mono x42.gg r_told_
    have o38 := o38.ext x42
    have r21 := Rp.mono x42.gg r21
    have r37 := Rp.mono x42.gg r37
    obtain ⟨b48, h49, hm⟩ := Option.bind_eq_some_iff.mp hm
    refine sv_if (tv_or (tv_test (K := K) (ev_ord (ev_var rfl r43) ev_i)) (tv_not (tv_b (K := K) (ev_def1 (m := mm_law_one_is_plain) (ev_var rfl r37))))) h49 xt.gh fun G50 H51 x52 => ?_
    have xt := xt.trans x52
    have mk20 := mk20.trans x52.gg
    have r_told_ := Rp.mono x52.gg r_told_
    have o38 := o38.ext x52
    have r43 := Rp.mono x52.gg r43
    have r37 := Rp.mono x52.gg r37
    cases b48 with
    | true =>
      replace hm := cT hm
      refine iteT ?_
      obtain ⟨rr58, h59, hm⟩ := Option.bind_eq_some_iff.mp hm
      cases hm
      exact sv_ret (K := K) (rest := tNext) (σ := [some v_told_, some (V.ref p1), some v39, some w36]) (ev_none (α := Int)) h59 xt.gh fun v53 G54 H55 x56 r57 => kR33 _ v53 G54 H55 rfl ⟨xt.trans x56, r57⟩
    | false =>
      replace hm := cF hm
      refine iteF ?_
      obtain ⟨b68, h69, hm⟩ := Option.bind_eq_some_iff.mp hm
      refine sv_if (tv_test (K := K) (ev_neS (ev_asTxt (ev_atT (ev_asTup (ev_var rfl r37)) ev_i)) ev_s)) h69 xt.gh fun G70 H71 x72 => ?_
      have xt := xt.trans x72
      have mk20 := mk20.trans x72.gg
      have r_told_ := Rp.mono x72.gg r_told_
      have o38 := o38.ext x72
      have r43 := Rp.mono x72.gg r43
      have r37 := Rp.mono x72.gg r37
      cases b68 with
      | true =>
        replace hm := cT hm
        refine iteT ?_
        obtain ⟨a77, h78, hm⟩ := Option.bind_eq_some_iff.mp hm
        obtain ⟨z85, h79, hm⟩ := Option.bind_eq_some_iff.mp hm
        refine sv_extendT (K := K) rfl o38 (ev_sliceT (ev_asTup (ev_var rfl r37)) (ov_some (K := K) ev_i) ov_none) h78 h79 xt.gh fun G80 H81 w82 x83 o84 => ?_
        have xt : Ext G0 H0 G80 (upd H81 p1 (.lst (vs2.dropLast ++ w82))) := (xt.trans x83).put hz6 o84.g
        have mk20 := mk20.trans x83.gg
        have r_told_ := Rp.mono x83.gg r_told_
        have r43 := Rp.mono x83.gg r43
        have r37 := Rp.mono x83.gg r37
        cases hm
        exact kN30 _ _ _ _ rfl ⟨v39, _, xt, mk20, rfl, ⟨_, o84⟩, r43⟩
      | false =>
        replace hm := cF hm
        refine iteF ?_
        cases hm
        exact kN30 _ _ _ _ rfl ⟨v39, _, xt, mk20, rfl, ⟨_, o38⟩, r43⟩
  · rintro s17 _ G90 H91 rfl ⟨v86, v87, xt, mk88, rfl, ⟨vs2, o7⟩, r89⟩
    refine sv_nx ?_
    have r_told_ := Rp.mono mk88 r_told_
    exact sv_ret (K := K) (ev_some (ev_var rfl r89)) hm xt.gh fun v92 G93 H94 x95 r96 => q v92 G93 H94 (xt.trans x95) r96
  · rintro r' v' G' H' rfl rl
    cases hm
    exact q v' G' H' rl.1 rl.2
theorem ok_law_cell_at {f : Addr} {fd : FuncData} (F : Fun K "_law_cell_at" "_law_cell_at" s_law_cell_at f fd) (T : Txt w K mg) : FnOk P w K mg base CX0 1 f fd ["_law_script", "_law_k"] (spM K mm_law_cell_at) := by
  refine F.ok sc_law_cell_at (fun vs H Q E h => (spM_len h).trans rfl) (fun cdv A outer s H0 vs Q E hr h => ?_)
  obtain ⟨G0, ⟨script_, ⟨k_, ⟨⟩⟩⟩, res, sg0, ⟨v_script_, _, rfl, r_script_, ⟨v_k_, _, rfl, r_k_, rfl⟩⟩, hm, q⟩ := h
  replace r_script_ : Rp.rel K G0 v_script_ script_ := r_script_
  replace r_k_ : Rp.rel K G0 v_k_ k_ := r_k_
  replace hm : m_law_cell_at script_ k_ = some res := hm
  unfold m_law_cell_at at hm
  have xt : Ext G0 H0 G0 H0 := Ext.refl sg0
  refine ⟨_, (pss_cons (ps_if (pt_cmpR op_ltU (pv 1) (pe_callB (call_lenK (K := K) rfl) (by rfl) T.len_ bt_len (pa_cons (pv 0) pa_nil)) (nomark _)) (pss_cons (ps_ret (pe_ix (ix_anyK (K := K) rfl) (pv 0) (pv 1) (fun _ _ => rfl)))
      pss_nil) pss_nil)
      (pss_cons (ps_ret pe_int)
      pss_nil)), ?_⟩
  obtain ⟨b1, h2, hm⟩ := Option.bind_eq_some_iff.mp hm
  refine sv_if (tv_test (K := K) (ev_ord (ev_var rfl r_k_) (ev_lenX (ev_var rfl r_script_)))) h2 xt.gh fun G3 H4 x5 => ?_
  have xt := xt.trans x5
  have r_script_ := Rp.mono x5.gg r_script_
  have r_k_ := Rp.mono x5.gg r_k_
  cases b1 with
  | true =>
    replace hm := cT hm
    refine iteT ?_
    exact sv_ret (K := K) (ev_atX (ev_var rfl r_script_) (ev_var rfl r_k_)) hm xt.gh fun v8 G9 H10 x11 r12 => q v8 G9 H10 (xt.trans x11) r12
  | false =>
    replace hm := cF hm
    refine iteF ?_
    exact sv_ret (K := K) (rest := tNext) (σ := [some v_script_, some v_k_]) ev_i hm xt.gh fun v13 G14 H15 x16 r17 => q v13 G14 H15 (xt.trans x16) r17
theorem ok_law_stream {f : Addr} {fd : FuncData} (F : Fun K "_law_stream" "_law_stream" s_law_stream f fd) (T : Txt w K mg) : FnOk P w K mg base CX0 1 f fd ["_law_cell", "_law_many"] (spM K mm_law_stream) := by
  refine F.ok sc_law_stream (fun vs H Q E h => (spM_len h).trans rfl) (fun cdv A outer s H0 vs Q E hr h => ?_)
  obtain ⟨G0, ⟨cell_, ⟨many_, ⟨⟩⟩⟩, res, sg0, ⟨v_cell_, _, rfl, r_cell_, ⟨v_many_, _, rfl, r_many_, rfl⟩⟩, hm, q⟩ := h
  replace r_cell_ : Rp.rel K G0 v_cell_ cell_ := r_cell_
  replace r_many_ : Rp.rel K G0 v_many_ many_ := r_many_
  replace hm : m_law_stream cell_ many_ = some res := hm
  unfold m_law_stream at hm
  have xt : Ext G0 H0 G0 H0 := Ext.refl sg0
  refine ⟨_, (pss_cons (ps_set (i := 2) sc_law_stream.nd rfl (Or.inl rfl) (pe_lst pa_nil))
      (pss_cons (ps_set (i := 3) sc_law_stream.nd rfl (Or.inl rfl) (pe_op (op_plusK (K := K) rfl) (pe_op op_mod (pv 0) pe_int) pe_int))
      (pss_cons (ps_for PassesOwn.never rfl (pi_range1 rfl T.range_ (pa_cons (pv 1) pa_nil)) (pg_name (i := 4) sc_law_stream.nd rfl (Or.inl rfl)) (pss_cons (ps_set (i := 3) sc_law_stream.nd rfl (Or.inl rfl) (pe_op op_mod (pe_op (op_plusK (K := K) rfl) (pe_op (op_plusK (K := K) rfl) (pe_op (op_mulK (K := K) rfl) (pv 3) (pv 3)) (pe_op (op_mulK (K := K) rfl) pe_int (pv 3))) (pv 4)) pe_int))
      (pss_cons (ps_expr (pe_bmK (K := K) rfl PySem.F.plainAttrs_list PySem.F.slot_list_append PySem.F.type_list_append mt_append (pv 2) (pa_cons (pv 3) pa_nil)))
      pss_nil)))
      (pss_cons (ps_ret (pv 2))
      pss_nil)))), ?_⟩
  obtain ⟨numbers_, h8, hm⟩ := Option.bind_eq_some_iff.mp hm
  refine sv_own (K := K) (fv_lst (lv_nil (α := Int))) h8 xt.gh fun p1 vs2 G3 H4 x5 hz6 o7 => ?_
  have hz6 := xt.hh.free hz6
  have xt := xt.trans x5
  have r_cell_ := Rp.mono x5.gg r_cell_
  have r_many_ := Rp.mono x5.gg r_many_
  obtain ⟨number_, h14, hm⟩ := Option.bind_eq_some_iff.mp hm
  refine sv_set (K := K) (ev_add (ev_modR (ev_var rfl r_cell_)) ev_i) h14 xt.gh fun v9 G10 H11 x12 r13 => ?_
  have xt := xt.trans x12
  have r_cell_ := Rp.mono x12.gg r_cell_
  have r_many_ := Rp.mono x12.gg r_many_
  have o7 := o7.ext x12
  obtain ⟨as16, h17, hm⟩ := Option.bind_eq_some_iff.mp hm
  obtain ⟨fl18, h19, hm⟩ := Option.bind_eq_some_iff.mp hm
  refine sv_for (K := K) (RR := fun r v G' H' => Ext G0 H0 G' H' ∧ Rp.rel K G' v r) (iw_rng1 (ev_var rfl r_many_)) h17 h19 xt.gh fun G20 H21 x22 => ⟨fun s23 S' G' H' => ∃ (v24 : V) (v25 : Option V), Ext G0 H0 G' H' ∧ Same G20 G' ∧ S' = [some v_cell_, some v_many_, some (V.ref p1), some v24, v25] ∧ (∃ vs, Own K G' H' (V.ref p1) p1 vs s23.1) ∧ Rp.rel K G' v24 (s23.2 : Int), ?_, ?_, ?_, ?_, ?_⟩
  · have xt := xt.trans x22
    have r_cell_ := Rp.mono x22.gg r_cell_
    have r_many_ := Rp.mono x22.gg r_many_
    have o7 := o7.ext x22
    have r13 := Rp.mono x22.gg r13
    exact ⟨v9, _, xt, (Same.refl _), rfl, ⟨_, o7⟩, r13⟩
  · rintro _ S' G' H' ⟨v24, v25, xt, mk26, rfl, ⟨vs2, o7⟩, r27⟩
    exact ⟨mk26, xt.gh⟩
  · rintro xv28 a29 s23 _ G32 H33 fl30 - ⟨v24, v25, xt, mk26, rfl, ⟨vs2, o7⟩, r27⟩ rx31 hm D' kN34 kC35 kB36 kR37
    have r_cell_ := Rp.mono (x22.gg.trans mk26) r_cell_
    have r_many_ := Rp.mono (x22.gg.trans mk26) r_many_
    refine sv_turn ?_
    obtain ⟨number_, h48, hm⟩ := Option.bind_eq_some_iff.mp hm
    refine sv_set (K := K) (ev_modR (ev_add (ev_add (ev_mul (ev_var rfl r27) (ev_var rfl r27)) (ev_mulL (ev_var rfl r27))) (ev_var rfl rx31))) h48 xt.gh fun v43 G44 H45 x46 r47 => ?_
    have xt := xt.trans x46
    have mk26 := mk26.trans x46.gg
    have r_cell_ := Rp.mono x46.gg r_cell_
    have r_many_ := Rp.mono x46.gg r_many_
    have o7 := o7.ext x46
    have r27 := Rp.mono x46.gg r27
    have rx31 := Rp.mono x46.gg rx31
    obtain ⟨a49, h50, hm⟩ := Option.bind_eq_some_iff.mp hm
    obtain ⟨z57, h51, hm⟩ := Option.bind_eq_some_iff.mp hm
    refine sv_append (K := K) rfl o7 (ev_var rfl r47) h50 h51 xt.gh fun G52 H53 w54 x55 o56 => ?_
    have xt : Ext G0 H0 G52 (upd H53 p1 (.lst (vs2 ++ [w54]))) := (xt.trans x55).put hz6 o56.g
    have mk26 := mk26.trans x55.gg
    have r_cell_ := Rp.mono x55.gg r_cell_
    have r_many_ := Rp.mono x55.gg r_many_
    have r47 := Rp.mono x55.gg r47
    have rx31 := Rp.mono x55.gg rx31
    cases hm
    exact kN34 _ _ _ _ rfl ⟨v43, _, xt, mk26, rfl, ⟨_, o56⟩, r47⟩
  · rintro s23 _ G62 H63 rfl ⟨v58, v59, xt, mk60, rfl, ⟨vs2, o7⟩, r61⟩
    refine sv_nx ?_
    have r_cell_ := Rp.mono (x22.gg.trans mk60) r_cell_
    have r_many_ := Rp.mono (x22.gg.trans mk60) r_many_
    have sf := Same.new (o := .lst vs2) o7.g
    have xt := xt.frz hz6 o7.g o7.h
    have r64 := o7.tell
    have r_cell_ := Rp.mono sf r_cell_
    have r_many_ := Rp.mono sf r_many_
    have r61 := Rp.mono sf r61
    exact sv_ret (K := K) (ev_var rfl r64) hm xt.gh fun v65 G66 H67 x68 r69 => q v65 G66 H67 (xt.trans x68) r69
  · rintro r' v' G' H' rfl rl
    cases hm
    exact q v' G' H' rl.1 rl.2
theorem ok_law_cells {f : Addr} {fd : FuncData} (F : Fun K "_law_cells" "_law_cells" s_law_cells f fd) (T : Txt w K mg) (D_law_cell_at : DefOk P w K mg base "_law_cell_at" 1 ["_law_script", "_law_k"] (spM K mm_law_cell_at)) (D_law_stream : DefOk P w K mg base "_law_stream" 1 ["_law_cell", "_law_many"] (spM K mm_law_stream)) : FnOk P w K mg base CX0 2 f fd ["_law_script"] (spM K mm_law_cells) := by
  refine F.ok sc_law_cells (fun vs H Q E h => (spM_len h).trans rfl) (fun cdv A outer s H0 vs Q E hr h => ?_)
  obtain ⟨G0, ⟨script_, ⟨⟩⟩, res, sg0, ⟨v_script_, _, rfl, r_script_, rfl⟩, hm, q⟩ := h
  replace r_script_ : Rp.rel K G0 v_script_ script_ := r_script_
  replace hm : m_law_cells script_ = some res := hm
  unfold m_law_cells at hm
  have xt : Ext G0 H0 G0 H0 := Ext.refl sg0
  refine ⟨_, (pss_cons (ps_set (i := 1) sc_law_cells.nd rfl (Or.inl rfl) (pe_def D_law_cell_at hr (by decide) rfl (pa_cons (pv 0) (pa_cons pe_int pa_nil))))
      (pss_cons (ps_if (pt_cmpR op_eq (pe_op op_mod (pv 1) pe_int) pe_int (nomark _)) (pss_cons (ps_ret (pe_slice (sl_anyK (K := K) rfl) (pv 0) (po_some pe_int) (po_some pe_int)))
      pss_nil) pss_nil)
      (pss_cons (ps_if (pt_cmpR op_eq (pe_op op_mod (pv 1) pe_int) pe_int (nomark _)) (pss_cons (ps_ret (pe_def D_law_stream hr (by decide) rfl (pa_cons (pe_def D_law_cell_at hr (by decide) rfl (pa_cons (pv 0) (pa_cons pe_int pa_nil))) (pa_cons (pe_op (op_plusK (K := K) rfl) pe_int (pe_op op_mod (pe_op op_fdiv (pv 1) pe_int) pe_int)) pa_nil))))
      pss_nil) pss_nil)
      (pss_cons (ps_setcomp (i := 2) sc_law_cells.nd rfl (Or.inl rfl) (cn := []) (cap := []) rfl ⟨by decide +kernel, rfl, by decide +kernel, free_of rfl⟩ rfl (by decide +kernel) trivial (pi_anyK (K := K) rfl (pe_def D_law_stream hr (by decide) rfl (pa_cons (pe_def D_law_cell_at hr (by decide) rfl (pa_cons (pv 0) (pa_cons pe_int pa_nil))) (pa_cons (pe_op op_mod (pe_op op_fdiv (pv 1) pe_int) pe_int) pa_nil)))) (fun C s0 H0 fp => ⟨pts_nil, (pe_op (op_plusK (K := K) rfl) (pe_op (op_mulK (K := K) rfl) pe_int (pv 0)) (pe_op op_mod (pe_op op_fdiv (pv 0) pe_int) pe_int))⟩))
      (pss_cons (ps_ret (pe_op (op_plusK (K := K) rfl) (pe_lst (pa_cons (pe_op (op_plusK (K := K) rfl) (pe_op (op_mulK (K := K) rfl) pe_int (pe_def D_law_cell_at hr (by decide) rfl (pa_cons (pv 0) (pa_cons pe_int pa_nil)))) pe_int) pa_nil)) (pv 2)))
      pss_nil))))), ?_⟩
  obtain ⟨cell_, h8, hm⟩ := Option.bind_eq_some_iff.mp hm
  refine sv_set (K := K) (ev_def2 (m := mm_law_cell_at) (ev_var rfl r_script_) ev_i) h8 xt.gh fun v3 G4 H5 x6 r7 => ?_
  have xt := xt.trans x6
  have r_script_ := Rp.mono x6.gg r_script_
  obtain ⟨b9, h10, hm⟩ := Option.bind_eq_some_iff.mp hm
  refine sv_if (tv_test (K := K) (ev_eqI (ev_modR (ev_var rfl r7)) ev_i)) h10 xt.gh fun G11 H12 x13 => ?_
  have xt := xt.trans x13
  have r_script_ := Rp.mono x13.gg r_script_
  have r7 := Rp.mono x13.gg r7
  cases b9 with
  | true =>
    replace hm := cT hm
    refine iteT ?_
    exact sv_ret (K := K) (FV.ev (fv_sliceX (ev_var rfl r_script_) (ov_some (K := K) ev_i) (ov_some (K := K) ev_i))) hm xt.gh fun v17 G18 H19 x20 r21 => q v17 G18 H19 (xt.trans x20) r21
  | false =>
    replace hm := cF hm
    refine iteF ?_
    obtain ⟨b22, h23, hm⟩ := Option.bind_eq_some_iff.mp hm
    refine sv_if (tv_test (K := K) (ev_eqI (ev_modR (ev_var rfl r7)) ev_i)) h23 xt.gh fun G24 H25 x26 => ?_
    have xt := xt.trans x26
    have r_script_ := Rp.mono x26.gg r_script_
    have r7 := Rp.mono x26.gg r7
    cases b22 with
    | true =>
      replace hm := cT hm
      refine iteT ?_
      exact sv_ret (K := K) (ev_def2 (m := mm_law_stream) (ev_def2 (m := mm_law_cell_at) (ev_var rfl r_script_) ev_i) (ev_add ev_i (ev_modR (ev_divR (ev_var rfl r7))))) hm xt.gh fun v31 G32 H33 x34 r35 => q v31 G32 H33 (xt.trans x34) r35
    | false =>
      replace hm := cF hm
      refine iteF ?_
      obtain ⟨chain_, h50, hm⟩ := Option.bind_eq_some_iff.mp hm
      refine sv_set (K := K) (FV.ev (fv_map (cap := []) (fe := fun (number_ : Int) => (some (((16 : Int) * number_) + ((number_ / (7 : Int)) % (6 : Int))))) (iw_list (ev_def2 (m := mm_law_stream) (ev_def2 (m := mm_law_cell_at) (ev_var rfl r_script_) ev_i) (ev_modR (ev_divR (ev_var rfl r7))))) fun xc43 number_ Gc40 sc41 rc42 => (ev_add (ev_mulL (ev_var rfl rc42)) (ev_modR (ev_divR (ev_var rfl rc42)))))) h50 xt.gh fun v45 G46 H47 x48 r49 => ?_
      have xt := xt.trans x48
      have r_script_ := Rp.mono x48.gg r_script_
      have r7 := Rp.mono x48.gg r7
      exact sv_ret (K := K) (FV.ev (fv_cat (FV.ev (fv_lst (lv_cons (ev_add (ev_mulL (ev_def2 (m := mm_law_cell_at) (ev_var rfl r_script_) ev_i)) ev_i) (lv_nil (α := Int))))) (ev_var rfl r49))) hm xt.gh fun v58 G59 H60 x61 r62 => q v58 G59 H60 (xt.trans x61) r62
theorem ok_parts_of {f : Addr} {fd : FuncData} (F : Fun K "parts_of" "parts_of" s_parts_of f fd) (T : Txt w K mg) : FnOk P w K mg base CX0 1 f fd ["sentence"] (spM K mm_parts_of) := by
  refine F.ok sc_parts_of (fun vs H Q E h => (spM_len h).trans rfl) (fun cdv A outer s H0 vs Q E hr h => ?_)
  obtain ⟨G0, ⟨sentence_, ⟨⟩⟩, res, sg0, ⟨v_sentence_, _, rfl, r_sentence_, rfl⟩, hm, q⟩ := h
  replace r_sentence_ : Rp.rel K G0 v_sentence_ sentence_ := r_sentence_
  replace hm : m_parts_of sentence_ = some res := hm
  unfold m_parts_of at hm
  have xt : Ext G0 H0 G0 H0 := Ext.refl sg0
  refine ⟨_, (pss_cons (ps_if (pt_cmpR op_eq (pe_ix (ix_anyK (K := K) rfl) (pv 0) pe_int (fun _ _ => rfl)) pe_str (nomark _)) (pss_cons (ps_ret (pe_tup pa_nil))
      pss_nil) pss_nil)
      (pss_cons (ps_ret (pe_slice (sl_tupK (K := K) rfl) (pv 0) (po_some pe_int) po_none))
      pss_nil)), ?_⟩
  obtain ⟨b9, h10, hm⟩ := Option.bind_eq_some_iff.mp hm
  refine sv_if (tv_test (K := K) (ev_eqS (ev_asTxt (ev_atT (ev_asTup (ev_var rfl r_sentence_)) ev_i)) ev_s)) h10 xt.gh fun G11 H12 x13 => ?_
  have xt := xt.trans x13
  have r_sentence_ := Rp.mono x13.gg r_sentence_
  cases b9 with
  | true =>
    replace hm := cT hm
    refine iteT ?_
    exact sv_ret (K := K) (rest := tNext) (σ := [some v_sentence_]) (ev_tupL (lv_nil (α := Nt))) hm xt.gh fun v14 G15 H16 x17 r18 => q v14 G15 H16 (xt.trans x17) r18
  | false =>
    replace hm := cF hm
    refine iteF ?_
    exact sv_ret (K := K) (ev_sliceT (ev_asTup (ev_var rfl r_sentence_)) (ov_some (K := K) ev_i) ov_none) hm xt.gh fun v23 G24 H25 x26 r27 => q v23 G24 H25 (xt.trans x26) r27
theorem ok_all_within {f : Addr} {fd : FuncData} (F : Fun K "all_within" "all_within" s_all_within f fd) (T : Txt w K mg) (D_parts_of : DefOk P w K mg base "parts_of" 1 ["sentence"] (spM K mm_parts_of)) : FnOk P w K mg base CX0 2 f fd ["sentence"] (spM K mm_all_within) := by
  refine F.ok sc_all_within (fun vs H Q E h => (spM_len h).trans rfl) (fun cdv A outer s H0 vs Q E hr h => ?_)
  obtain ⟨G0, ⟨sentence_, ⟨⟩⟩, res, sg0, ⟨v_sentence_, _, rfl, r_sentence_, rfl⟩, hm, q⟩ := h
  replace r_sentence_ : Rp.rel K G0 v_sentence_ sentence_ := r_sentence_
  replace hm : m_all_within sentence_ = some res := hm
  unfold m_all_within at hm
  have xt : Ext G0 H0 G0 H0 := Ext.refl sg0
  refine ⟨_, (pss_cons (ps_set (i := 1) sc_all_within.nd rfl (Or.inl rfl) (pe_lst (pa_cons (pv 0) pa_nil)))
      (pss_cons (ps_set (i := 2) sc_all_within.nd rfl (Or.inl rfl) pe_int)
      (pss_cons (ps_while PassesOwn.never (pt_cmpR op_ltU (pv 2) (pe_callB (call_lenK (K := K) rfl) (by rfl) T.len_ bt_len (pa_cons (pv 1) pa_nil)) (nomark _)) (pss_cons (ps_expr (pe_bmK (K := K) rfl PySem.F.plainAttrs_list PySem.F.slot_list_extend PySem.F.type_list_extend (mt_extendT (K := K) rfl) (pv 1) (pa_cons (pe_def D_parts_of hr (by decide) rfl (pa_cons (pe_ix (ix_anyK (K := K) rfl) (pv 1) (pv 2) (fun _ _ => rfl)) pa_nil)) pa_nil)))
      (pss_cons (ps_set (i := 2) sc_all_within.nd rfl (Or.inl rfl) (pe_op (op_plusK (K := K) rfl) (pv 2) pe_int))
      pss_nil)))
      (pss_cons (ps_ret (pv 1))
      pss_nil)))), ?_⟩
  obtain ⟨found_, h8, hm⟩ := Option.bind_eq_some_iff.mp hm
  refine sv_own (K := K) (fv_lst (lv_cons (ev_var rfl r_sentence_) (lv_nil (α := Nt)))) h8 xt.gh fun p1 vs2 G3 H4 x5 hz6 o7 => ?_
  have hz6 := xt.hh.free hz6
  have xt := xt.trans x5
  have r_sentence_ := Rp.mono x5.gg r_sentence_
  obtain ⟨place_, h14, hm⟩ := Option.bind_eq_some_iff.mp hm
  refine sv_set (K := K) ev_i h14 xt.gh fun v9 G10 H11 x12 r13 => ?_
  have xt := xt.trans x12
  have r_sentence_ := Rp.mono x12.gg r_sentence_
  have o7 := o7.ext x12
  obtain ⟨fl15, h16, hm⟩ := Option.bind_eq_some_iff.mp hm
  refine sv_while (K := K) (G := G10) (RR := fun r v G' H' => Ext G0 H0 G' H' ∧ Rp.rel K G' v r) h16 (fun s17 S' G' H' => ∃ (v18 : V), Ext G0 H0 G' H' ∧ Same G10 G' ∧ S' = [some v_sentence_, some (V.ref p1), some v18] ∧ (∃ vs, Own K G' H' (V.ref p1) p1 vs s17.1) ∧ Rp.rel K G' v18 (s17.2 : Int)) ⟨?_, ?_, ?_, ?_, ?_, ?_⟩
  · exact ⟨v9, xt, (Same.refl _), rfl, ⟨_, o7⟩, r13⟩
  · rintro _ S' G' H' ⟨v18, xt, mk19, rfl, ⟨vs2, o7⟩, r20⟩
    exact xt.gh
  · rintro s17 _ G21 H22 b' ⟨v18, xt, mk19, rfl, ⟨vs2, o7⟩, r20⟩ hc Q' k'
    have r_sentence_ := Rp.mono mk19 r_sentence_
    refine TV.runB o7 (tv_test (K := K) (ev_ord (ev_var rfl (Rp.mono (Same.new o7.g) r20)) (ev_len (ev_var rfl o7.tell)))) hc xt.gh fun G23 H24 x25 => ?_
    have xt := xt.trans x25
    have mk19 := mk19.trans x25.gg
    have r_sentence_ := Rp.mono x25.gg r_sentence_
    have o7 := o7.ext x25
    have r20 := Rp.mono x25.gg r20
    exact k' _ _ ⟨v18, xt, mk19, rfl, ⟨_, o7⟩, r20⟩
  · rintro s17 _ G27 H28 fl26 ⟨v18, xt, mk19, rfl, ⟨vs2, o7⟩, r20⟩ hm - D' kN29 kC30 kB31 kR32
    have r_sentence_ := Rp.mono mk19 r_sentence_
    obtain ⟨a39, h40, hm⟩ := Option.bind_eq_some_iff.mp hm
    obtain ⟨z47, h41, hm⟩ := Option.bind_eq_some_iff.mp hm
    refine sv_extendTB (K := K) rfl o7 (ev_def1 (m := mm_parts_of) (ev_at (ev_var rfl o7.tell) (ev_var rfl (Rp.mono (Same.new o7.g) r20)))) h40 h41 xt.gh fun G42 H43 w44 x45 o46 => ?_
    have xt : Ext G0 H0 G42 (upd H43 p1 (.lst (vs2 ++ w44))) := (xt.trans x45).put hz6 o46.g
    have mk19 := mk19.trans x45.gg
    have r_sentence_ := Rp.mono x45.gg r_sentence_
    have r20 := Rp.mono x45.gg r20
    obtain ⟨place_, h53, hm⟩ := Option.bind_eq_some_iff.mp hm
    refine sv_set (K := K) (ev_add (ev_var rfl r20) ev_i) h53 xt.gh fun v48 G49 H50 x51 r52 => ?_
    have xt := xt.trans x51
    have mk19 := mk19.trans x51.gg
    have r_sentence_ := Rp.mono x51.gg r_sentence_
    have o46 := o46.ext x51
    have r20 := Rp.mono x51.gg r20
    cases hm
    exact kN29 _ _ _ _ rfl ⟨v48, xt, mk19, rfl, ⟨_, o46⟩, r52⟩
  · rintro s17 _ G57 H58 rfl ⟨v54, xt, mk55, rfl, ⟨vs2, o7⟩, r56⟩
    refine sv_nx ?_
    have r_sentence_ := Rp.mono mk55 r_sentence_
    have sf := Same.new (o := .lst vs2) o7.g
    have xt := xt.frz hz6 o7.g o7.h
    have r59 := o7.tell
    have r_sentence_ := Rp.mono sf r_sentence_
    have r56 := Rp.mono sf r56
    exact sv_ret (K := K) (ev_var rfl r59) hm xt.gh fun v60 G61 H62 x63 r64 => q v60 G61 H62 (xt.trans x63) r64
  · rintro r' v' G' H' rfl rl
    cases hm
    exact q v' G' H' rl.1 rl.2
theorem ok_lamps_of {f : Addr} {fd : FuncData} (F : Fun K "lamps_of" "lamps_of" s_lamps_of f fd) (T : Txt w K mg) (D_all_within : DefOk P w K mg base "all_within" 2 ["sentence"] (spM K mm_all_within)) : FnOk P w K mg base CX0 3 f fd ["sentence"] (spM K mm_lamps_of) := by
  refine F.ok sc_lamps_of (fun vs H Q E h => (spM_len h).trans rfl) (fun cdv A outer s H0 vs Q E hr h => ?_)
  obtain ⟨G0, ⟨sentence_, ⟨⟩⟩, res, sg0, ⟨v_sentence_, _, rfl, r_sentence_, rfl⟩, hm, q⟩ := h
  replace r_sentence_ : Rp.rel K G0 v_sentence_ sentence_ := r_sentence_
  replace hm : m_lamps_of sentence_ = some res := hm
  unfold m_lamps_of at hm
  have xt : Ext G0 H0 G0 H0 := Ext.refl sg0
  refine ⟨_, (pss_cons (ps_ret (pe_bmK (K := K) rfl PySem.F.plainAttrs_str PySem.F.slot_str_join PySem.F.type_str_join (mt_joinK (K := K) rfl) pe_str (pa_cons (pe_callB (call_sortPS (w := w) rfl rfl) (by rfl) T.sorted_ bt_sorted (pa_cons (pe_callTy (call_setL (K := K) (w := w) rfl rfl rfl) (by rfl) T.set_ bt_set (pa_cons (pe_comp (cn := []) (cap := []) rfl ⟨by decide +kernel, rfl, by decide +kernel, free_of rfl⟩ rfl (by decide +kernel) trivial (pi_anyK (K := K) rfl (pe_def D_all_within hr (by decide) rfl (pa_cons (pv 0) pa_nil))) (fun C s0 H0 fp => ⟨(pts_one (pt_cmpR op_eq (pe_ix (ix_anyK (K := K) rfl) (pv 0) pe_int (fun _ _ => rfl)) pe_str (nomark _))), (pe_ix (ix_anyK (K := K) rfl) (pv 0) pe_int (fun _ _ => rfl))⟩)) pa_nil)) pa_nil)) pa_nil)))
      pss_nil), ?_⟩
  exact sv_ret (K := K) (ev_join ev_s (FV.ev (fv_sortSetS (w := w) (FV.ev (fv_comp (cap := []) (fc := fun (part_ : Nt) => (((((some part_).bind fun t30 => asTup t30).bind fun t31 => (some (0 : Int)).bind fun t32 => atI t31.l t32).bind fun t33 => asTxt t33).bind fun t34 => (some (decide (t34 = ("lamp" : Str)))))) (fe := fun (part_ : Nt) => ((((some part_).bind fun t23 => asTup t23).bind fun t24 => (some (1 : Int)).bind fun t25 => atI t24.l t25).bind fun t26 => asTxt t26)) (iw_list (ev_def1 (m := mm_all_within) (ev_var rfl r_sentence_))) fun xc22 part_ Gc19 sc20 rc21 => ⟨(tv_test (K := K) (ev_eqS (ev_asTxt (ev_atT (ev_asTup (ev_var rfl rc21)) ev_i)) ev_s)), (ev_asTxt (ev_atT (ev_asTup (ev_var rfl rc21)) ev_i))⟩))))) hm xt.gh fun v39 G40 H41 x42 r43 => q v39 G40 H41 (xt.trans x42) r43
theorem ok_words {f : Addr} {fd : FuncData} (F : Fun K "words" "words" s_words f fd) (T : Txt w K mg) (D_all_within : DefOk P w K mg base "all_within" 2 ["sentence"] (spM K mm_all_within)) : FnOk P w K mg base CX0 3 f fd ["sentence"] (spM K mm_words) := by
  refine F.ok sc_words (fun vs H Q E h => (spM_len h).trans rfl) (fun cdv A outer s H0 vs Q E hr h => ?_)
  obtain ⟨G0, ⟨sentence_, ⟨⟩⟩, res, sg0, ⟨v_sentence_, _, rfl, r_sentence_, rfl⟩, hm, q⟩ := h
  replace r_sentence_ : Rp.rel K G0 v_sentence_ sentence_ := r_sentence_
  replace hm : m_words sentence_ = some res := hm
  unfold m_words at hm
  have xt : Ext G0 H0 G0 H0 := Ext.refl sg0
  refine ⟨_, (pss_cons (ps_ret (pe_callB (call_lenK (K := K) rfl) (by rfl) T.len_ bt_len (pa_cons (pe_def D_all_within hr (by decide) rfl (pa_cons (pv 0) pa_nil)) pa_nil)))
      pss_nil), ?_⟩
  exact sv_ret (K := K) (ev_len (ev_def1 (m := mm_all_within) (ev_var rfl r_sentence_))) hm xt.gh fun v3 G4 H5 x6 r7 => q v3 G4 H5 (xt.trans x6) r7
theorem ok_is_moment {f : Addr} {fd : FuncData} (F : Fun K "is_moment" "is_moment" s_is_moment f fd) (T : Txt w K mg) : FnOk P w K mg base CX0 1 f fd ["thing"] (spM K mm_is_moment) := by
  refine F.ok sc_is_moment (fun vs H Q E h => (spM_len h).trans rfl) (fun cdv A outer s H0 vs Q E hr h => ?_)
  obtain ⟨G0, ⟨thing_, ⟨⟩⟩, res, sg0, ⟨v_thing_, _, rfl, r_thing_, rfl⟩, hm, q⟩ := h
  replace r_thing_ : Rp.rel K G0 v_thing_ thing_ := r_thing_
  replace hm : m_is_moment thing_ = some res := hm
  unfold m_is_moment at hm
  have xt : Ext G0 H0 G0 H0 := Ext.refl sg0
  refine ⟨_, (pss_cons (ps_if (pt_not (pt_truthK (K := K) rfl (pe_callB (call_instK (K := K) rfl) (by rfl) T.isinstance_ bt_isinstance (pa_cons (pv 0) (pa_cons (pe_bltn (v := .ty "str") rfl T.str_ bt_str rfl) pa_nil))) (fun _ => rfl))) (pss_cons (ps_ret pe_bl)
      pss_nil) pss_nil)
      (pss_cons (ps_set (i := 1) sc_is_moment.nd rfl (Or.inl rfl) pe_str)
      (pss_cons (ps_for PassesOwn.never rfl (pi_anyK (K := K) rfl (pv 0)) (pg_name (i := 2) sc_is_moment.nd rfl (Or.inl rfl)) (pss_cons (ps_if (PW.pt (pw_or (pt_cmpR op_ltU (pv 2) pe_str (nomark _)) (pw_or (pt_cmpR op_gtU (pv 2) pe_str (nomark _)) (pw_or1 (pt_cmpR op_leU (pv 2) (pv 1) (nomark _)))))) (pss_cons (ps_ret pe_bl)
      pss_nil) pss_nil)
      (pss_cons (ps_set (i := 1) sc_is_moment.nd rfl (Or.inl rfl) (pv 2))
      pss_nil)))
      (pss_cons (ps_ret pe_bl)
      pss_nil)))), ?_⟩
  obtain ⟨b1, h2, hm⟩ := Option.bind_eq_some_iff.mp hm
  refine sv_if (tv_not (tv_b (K := K) (ev_inst (b := true) (by decide +kernel) (ev_var rfl r_thing_)))) h2 xt.gh fun G3 H4 x5 => ?_
  have xt := xt.trans x5
  have r_thing_ := Rp.mono x5.gg r_thing_
  cases b1 with
  | true =>
    replace hm := cT hm
    refine iteT ?_
    exact sv_ret (K := K) (rest := tNext) (σ := [some v_thing_, none, none]) ev_b hm xt.gh fun v6 G7 H8 x9 r10 => q v6 G7 H8 (xt.trans x9) r10
  | false =>
    replace hm := cF hm
    refine iteF ?_
    obtain ⟨last_, h16, hm⟩ := Option.bind_eq_some_iff.mp hm
    refine sv_set (K := K) ev_s h16 xt.gh fun v11 G12 H13 x14 r15 => ?_
    have xt := xt.trans x14
    have r_thing_ := Rp.mono x14.gg r_thing_
    obtain ⟨as17, h18, hm⟩ := Option.bind_eq_some_iff.mp hm
    obtain ⟨fl19, h20, hm⟩ := Option.bind_eq_some_iff.mp hm
    refine sv_for (K := K) (RR := fun r v G' H' => Ext G0 H0 G' H' ∧ Rp.rel K G' v r) (iw_str (ev_var rfl r_thing_)) h18 h20 xt.gh fun G21 H22 x23 => ⟨fun s24 S' G' H' => ∃ (v25 : V) (v26 : Option V), Ext G0 H0 G' H' ∧ Same G21 G' ∧ S' = [some v_thing_, some v25, v26] ∧ Rp.rel K G' v25 (s24 : Str), ?_, ?_, ?_, ?_, ?_⟩
    · have xt := xt.trans x23
      have r_thing_ := Rp.mono x23.gg r_thing_
      have r15 := Rp.mono x23.gg r15
      exact ⟨v11, _, xt, (Same.refl _), rfl, r15⟩
    · rintro _ S' G' H' ⟨v25, v26, xt, mk27, rfl, r28⟩
      exact ⟨mk27, xt.gh⟩
    · rintro xv29 a30 s24 _ G33 H34 fl31 - ⟨v25, v26, xt, mk27, rfl, r28⟩ rx32 hm D' kN35 kC36 kB37 kR38
      have r_thing_ := Rp.mono (x23.gg.trans mk27) r_thing_
      refine sv_turn ?_
      obtain ⟨b39, h40, hm⟩ := Option.bind_eq_some_iff.mp hm
      refine sv_if (tv_orP (tv_test (K := K) (ev_ordS (ev_var rfl rx32) ev_s)) (tv_orP (tv_test (K := K) (ev_ordS (ev_var rfl rx32) ev_s)) (tv_test (K := K) (ev_ordS (ev_var rfl rx32) (ev_var rfl r28))))) h40 xt.gh fun G41 H42 x43 => ?_
      have xt := xt.trans x43
      have mk27 := mk27.trans x43.gg
      have r_thing_ := Rp.mono x43.gg r_thing_
      have r28 := Rp.mono x43.gg r28
      have rx32 := Rp.mono x43.gg rx32
      cases b39 with
      | true =>
        replace hm := cT hm
        refine iteT ?_
        obtain ⟨rr49, h50, hm⟩ := Option.bind_eq_some_iff.mp hm
        cases hm
        exact sv_ret (K := K) (rest := tNext) (σ := [some v_thing_, some v25, some xv29]) ev_b h50 xt.gh fun v44 G45 H46 x47 r48 => kR38 _ v44 G45 H46 rfl ⟨xt.trans x47, r48⟩
      | false =>
        replace hm := cF hm
        refine iteF ?_
        obtain ⟨last_, h56, hm⟩ := Option.bind_eq_some_iff.mp hm
        refine sv_set (K := K) (ev_var rfl rx32) h56 xt.gh fun v51 G52 H53 x54 r55 => ?_
        have xt := xt.trans x54
        have mk27 := mk27.trans x54.gg
        have r_thing_ := Rp.mono x54.gg r_thing_
        have r28 := Rp.mono x54.gg r28
        have rx32 := Rp.mono x54.gg rx32
        cases hm
        exact kN35 _ _ _ _ rfl ⟨v51, _, xt, mk27, rfl, r55⟩
    · rintro s24 _ G61 H62 rfl ⟨v57, v58, xt, mk59, rfl, r60⟩
      refine sv_nx ?_
      have r_thing_ := Rp.mono (x23.gg.trans mk59) r_thing_
      exact sv_ret (K := K) (rest := tNext) (σ := [some v_thing_, some v57, v58]) ev_b hm xt.gh fun v63 G64 H65 x66 r67 => q v63 G64 H65 (xt.trans x66) r67
    · rintro r' v' G' H' rfl rl
      cases hm
      exact q v' G' H' rl.1 rl.2
theorem ok_is_lamp {f : Addr} {fd : FuncData} (F : Fun K "is_lamp" "is_lamp" s_is_lamp f fd) (T : Txt w K mg) (D_is_moment : DefOk P w K mg base "is_moment" 1 ["thing"] (spM K mm_is_moment)) : FnOk P w K mg base CX0 2 f fd ["thing"] (spM K mm_is_lamp) := by
  refine F.ok sc_is_lamp (fun vs H Q E h => (spM_len h).trans rfl) (fun cdv A outer s H0 vs Q E hr h => ?_)
  obtain ⟨G0, ⟨thing_, ⟨⟩⟩, res, sg0, ⟨v_thing_, _, rfl, r_thing_, rfl⟩, hm, q⟩ := h
  replace r_thing_ : Rp.rel K G0 v_thing_ thing_ := r_thing_
  replace hm : m_is_lamp thing_ = some res := hm
  unfold m_is_lamp at hm
  have xt : Ext G0 H0 G0 H0 := Ext.refl sg0
  refine ⟨_, (pss_cons (ps_ret (pe_and (pe_def D_is_moment hr (by decide) rfl (pa_cons (pv 0) pa_nil)) (pe_one (pe_cmpR op_eq (pe_callB (call_lenK (K := K) rfl) (by rfl) T.len_ bt_len (pa_cons (pv 0) pa_nil)) pe_int (nomark _)))))
      pss_nil), ?_⟩
  exact sv_ret (K := K) (ev_and (ev_def1 (m := mm_is_moment) (ev_var rfl r_thing_)) (ev_eqI (ev_lenS (ev_var rfl r_thing_)) ev_i)) hm xt.gh fun v3 G4 H5 x6 r7 => q v3 G4 H5 (xt.trans x6) r7
theorem ok_has_form {f : Addr} {fd : FuncData} (F : Fun K "has_form" "has_form" s_has_form f fd) (T : Txt w K mg) (D_is_lamp : DefOk P w K mg base "is_lamp" 2 ["thing"] (spM K mm_is_lamp)) : FnOk P w K mg base CX0 3 f fd ["thing"] (spM K mm_has_form) := by
  refine F.ok sc_has_form (fun vs H Q E h => (spM_len h).trans rfl) (fun cdv A outer s H0 vs Q E hr h => ?_)
  obtain ⟨G0, ⟨thing_, ⟨⟩⟩, res, sg0, ⟨v_thing_, _, rfl, r_thing_, rfl⟩, hm, q⟩ := h
  replace r_thing_ : Rp.rel K G0 v_thing_ thing_ := r_thing_
  replace hm : m_has_form thing_ = some res := hm
  unfold m_has_form at hm
  obtain ⟨a_PARTS, e_PARTS, q_PARTS⟩ := T.PARTS
  have xt : Ext G0 H0 G0 H0 := Ext.refl sg0
  refine ⟨_, (pss_cons (ps_if (PW.pt (pw_or (pt_not (pt_truthK (K := K) rfl (pe_callB (call_instK (K := K) rfl) (by rfl) T.isinstance_ bt_isinstance (pa_cons (pv 0) (pa_cons (pe_bltn (v := .ty "tuple") rfl T.tuple_ bt_tuple rfl) pa_nil))) (fun _ => rfl))) (pw_or (pt_cmpR op_eq (pe_callB (call_lenK (K := K) rfl) (by rfl) T.len_ bt_len (pa_cons (pv 0) pa_nil)) pe_int (nomark _)) (pw_or1 (pt_not (pt_truthK (K := K) rfl (pe_callB (call_instK (K := K) rfl) (by rfl) T.isinstance_ bt_isinstance (pa_cons (pe_ix (ix_anyK (K := K) rfl) (pv 0) pe_int (fun _ _ => rfl)) (pa_cons (pe_bltn (v := .ty "str") rfl T.str_ bt_str rfl) pa_nil))) (fun _ => rfl))))))) (pss_cons (ps_ret pe_bl)
      pss_nil) pss_nil)
      (pss_cons (ps_if (pt_cmpR op_eq (pe_ix (ix_anyK (K := K) rfl) (pv 0) pe_int (fun _ _ => rfl)) pe_str (nomark _)) (pss_cons (ps_ret (pe_and (pe_cmpR op_eq (pe_callB (call_lenK (K := K) rfl) (by rfl) T.len_ bt_len (pa_cons (pv 0) pa_nil)) pe_int (nomark _)) (pe_one (pe_def D_is_lamp hr (by decide) rfl (pa_cons (pe_ix (ix_anyK (K := K) rfl) (pv 0) pe_int (fun _ _ => rfl)) pa_nil)))))
      pss_nil) pss_nil)
      (pss_cons (ps_ret (pe_and (pe_inC rfl rfl q_PARTS (pe_ix (ix_anyK (K := K) rfl) (pv 0) pe_int (fun _ _ => rfl)) (pe_globR rfl e_PARTS) rfl) (pe_one (pe_cmpR op_eq (pe_callB (call_lenK (K := K) rfl) (by rfl) T.len_ bt_len (pa_cons (pv 0) pa_nil)) (pe_op (op_plusK (K := K) rfl) pe_int (pe_getC rfl rfl q_PARTS (pe_globR rfl e_PARTS) (pe_ix (ix_anyK (K := K) rfl) (pv 0) pe_int (fun _ _ => rfl)) (fun _ _ => rfl))) (nomark _)))))
      pss_nil))), ?_⟩
  obtain ⟨b15, h16, hm⟩ := Option.bind_eq_some_iff.mp hm
  refine sv_if (tv_or (tv_not (tv_b (K := K) (ev_instD (by decide) (ev_toD (ev_var rfl r_thing_))))) (tv_or (tv_test (K := K) (ev_eqI (ev_lenT (ev_asTup (ev_var rfl r_thing_))) ev_i)) (tv_not (tv_b (K := K) (ev_instD (by decide) (ev_toD (ev_atT (ev_asTup (ev_var rfl r_thing_)) ev_i))))))) h16 xt.gh fun G17 H18 x19 => ?_
  have xt := xt.trans x19
  have r_thing_ := Rp.mono x19.gg r_thing_
  cases b15 with
  | true =>
    replace hm := cT hm
    refine iteT ?_
    exact sv_ret (K := K) (rest := tNext) (σ := [some v_thing_]) ev_b hm xt.gh fun v20 G21 H22 x23 r24 => q v20 G21 H22 (xt.trans x23) r24
  | false =>
    replace hm := cF hm
    refine iteF ?_
    obtain ⟨b33, h34, hm⟩ := Option.bind_eq_some_iff.mp hm
    refine sv_if (tv_test (K := K) (ev_eqS (ev_asTxt (ev_atT (ev_asTup (ev_var rfl r_thing_)) ev_i)) ev_s)) h34 xt.gh fun G35 H36 x37 => ?_
    have xt := xt.trans x37
    have r_thing_ := Rp.mono x37.gg r_thing_
    cases b33 with
    | true =>
      replace hm := cT hm
      refine iteT ?_
      exact sv_ret (K := K) (ev_and (ev_eqI (ev_lenT (ev_asTup (ev_var rfl r_thing_))) ev_i) (ev_def1 (m := mm_is_lamp) (ev_asTxt (ev_atT (ev_asTup (ev_var rfl r_thing_)) ev_i)))) hm xt.gh fun v47 G48 H49 x50 r51 => q v47 G48 H49 (xt.trans x50) r51
    | false =>
      replace hm := cF hm
      refine iteF ?_
      exact sv_ret (K := K) (ev_and (ev_inC (ev_asTxt (ev_atT (ev_asTup (ev_var rfl r_thing_)) ev_i))) (ev_eqI (ev_lenT (ev_asTup (ev_var rfl r_thing_))) (ev_add ev_i (ev_getC (ev_asTxt (ev_atT (ev_asTup (ev_var rfl r_thing_)) ev_i)))))) hm xt.gh fun v74 G75 H76 x77 r78 => q v74 G75 H76 (xt.trans x77) r78
theorem ok_is_sentence {f : Addr} {fd : FuncData} (F : Fun K "is_sentence" "is_sentence" s_is_sentence f fd) (T : Txt w K mg) (D_parts_of : DefOk P w K mg base "parts_of" 1 ["sentence"] (spM K mm_parts_of)) (D_has_form : DefOk P w K mg base "has_form" 3 ["thing"] (spM K mm_has_form)) : FnOk P w K mg base CX0 4 f fd ["thing"] (spM K mm_is_sentence) := by
  refine F.ok sc_is_sentence (fun vs H Q E h => (spM_len h).trans rfl) (fun cdv A outer s H0 vs Q E hr h => ?_)
  obtain ⟨G0, ⟨thing_, ⟨⟩⟩, res, sg0, ⟨v_thing_, _, rfl, r_thing_, rfl⟩, hm, q⟩ := h
  replace r_thing_ : Rp.rel K G0 v_thing_ thing_ := r_thing_
  replace hm : m_is_sentence thing_ = some res := hm
  unfold m_is_sentence at hm
  have xt : Ext G0 H0 G0 H0 := Ext.refl sg0
  refine ⟨_, (pss_cons (ps_set (i := 1) sc_is_sentence.nd rfl (Or.inl rfl) (pe_lst (pa_cons (pv 0) pa_nil)))
      (pss_cons (ps_set (i := 2) sc_is_sentence.nd rfl (Or.inl rfl) pe_int)
      (pss_cons (ps_while PassesOwn.never (pt_cmpR op_ltU (pv 2) (pe_callB (call_lenK (K := K) rfl) (by rfl) T.len_ bt_len (pa_cons (pv 1) pa_nil)) (nomark _)) (pss_cons (ps_if (PW.pt (pw_or (pt_cmpR op_gtU (pe_callB (call_lenK (K := K) rfl) (by rfl) T.len_ bt_len (pa_cons (pv 1) pa_nil)) (pe_globI rfl T.MOST_WORDS) (nomark _)) (pw_or1 (pt_not (pt_truthK (K := K) rfl (pe_def D_has_form hr (by decide) rfl (pa_cons (pe_ix (ix_anyK (K := K) rfl) (pv 1) (pv 2) (fun _ _ => rfl)) pa_nil)) (fun _ => rfl)))))) (pss_cons (ps_ret pe_bl)
      pss_nil) pss_nil)
      (pss_cons (ps_expr (pe_bmK (K := K) rfl PySem.F.plainAttrs_list PySem.F.slot_list_extend PySem.F.type_list_extend (mt_extendT (K := K) rfl) (pv 1) (pa_cons (pe_def D_parts_of hr (by decide) rfl (pa_cons (pe_ix (ix_anyK (K := K) rfl) (pv 1) (pv 2) (fun _ _ => rfl)) pa_nil)) pa_nil)))
      (pss_cons (ps_set (i := 2) sc_is_sentence.nd rfl (Or.inl rfl) (pe_op (op_plusK (K := K) rfl) (pv 2) pe_int))
      pss_nil))))
      (pss_cons (ps_ret pe_bl)
      pss_nil)))), ?_⟩
  obtain ⟨found_, h8, hm⟩ := Option.bind_eq_some_iff.mp hm
  refine sv_own (K := K) (fv_lst (lv_cons (ev_var rfl r_thing_) (lv_nil (α := Nt)))) h8 xt.gh fun p1 vs2 G3 H4 x5 hz6 o7 => ?_
  have hz6 := xt.hh.free hz6
  have xt := xt.trans x5
  have r_thing_ := Rp.mono x5.gg r_thing_
  obtain ⟨place_, h14, hm⟩ := Option.bind_eq_some_iff.mp hm
  refine sv_set (K := K) ev_i h14 xt.gh fun v9 G10 H11 x12 r13 => ?_
  have xt := xt.trans x12
  have r_thing_ := Rp.mono x12.gg r_thing_
  have o7 := o7.ext x12
  obtain ⟨fl15, h16, hm⟩ := Option.bind_eq_some_iff.mp hm
  refine sv_while (K := K) (G := G10) (RR := fun r v G' H' => Ext G0 H0 G' H' ∧ Rp.rel K G' v r) h16 (fun s17 S' G' H' => ∃ (v18 : V), Ext G0 H0 G' H' ∧ Same G10 G' ∧ S' = [some v_thing_, some (V.ref p1), some v18] ∧ (∃ vs, Own K G' H' (V.ref p1) p1 vs s17.1) ∧ Rp.rel K G' v18 (s17.2 : Int)) ⟨?_, ?_, ?_, ?_, ?_, ?_⟩
  · exact ⟨v9, xt, (Same.refl _), rfl, ⟨_, o7⟩, r13⟩
  · rintro _ S' G' H' ⟨v18, xt, mk19, rfl, ⟨vs2, o7⟩, r20⟩
    exact xt.gh
  · rintro s17 _ G21 H22 b' ⟨v18, xt, mk19, rfl, ⟨vs2, o7⟩, r20⟩ hc Q' k'
    have r_thing_ := Rp.mono mk19 r_thing_
    refine TV.runB o7 (tv_test (K := K) (ev_ord (ev_var rfl (Rp.mono (Same.new o7.g) r20)) (ev_len (ev_var rfl o7.tell)))) hc xt.gh fun G23 H24 x25 => ?_
    have xt := xt.trans x25
    have mk19 := mk19.trans x25.gg
    have r_thing_ := Rp.mono x25.gg r_thing_
    have o7 := o7.ext x25
    have r20 := Rp.mono x25.gg r20
    exact k' _ _ ⟨v18, xt, mk19, rfl, ⟨_, o7⟩, r20⟩
  · rintro s17 _ G27 H28 fl26 ⟨v18, xt, mk19, rfl, ⟨vs2, o7⟩, r20⟩ hm - D' kN29 kC30 kB31 kR32
    have r_thing_ := Rp.mono mk19 r_thing_
    obtain ⟨b43, h44, hm⟩ := Option.bind_eq_some_iff.mp hm
    refine sv_ifB o7 (tv_or (tv_test (K := K) (ev_ord (ev_len (ev_var rfl o7.tell)) ev_i)) (tv_not (tv_b (K := K) (ev_def1 (m := mm_has_form) (ev_at (ev_var rfl o7.tell) (ev_var rfl (Rp.mono (Same.new o7.g) r20))))))) h44 xt.gh fun G45 H46 x47 => ?_
    have xt := xt.trans x47
    have mk19 := mk19.trans x47.gg
    have r_thing_ := Rp.mono x47.gg r_thing_
    have o7 := o7.ext x47
    have r20 := Rp.mono x47.gg r20
    cases b43 with
    | true =>
      replace hm := cT hm
      refine iteT ?_
      obtain ⟨rr53, h54, hm⟩ := Option.bind_eq_some_iff.mp hm
      cases hm
      exact sv_ret (K := K) (rest := tNext) (σ := [some v_thing_, some (V.ref p1), some v18]) ev_b h54 xt.gh fun v48 G49 H50 x51 r52 => kR32 _ v48 G49 H50 rfl ⟨xt.trans x51, r52⟩
    | false =>
      replace hm := cF hm
      refine iteF ?_
      obtain ⟨a61, h62, hm⟩ := Option.bind_eq_some_iff.mp hm
      obtain ⟨z69, h63, hm⟩ := Option.bind_eq_some_iff.mp hm
      refine sv_extendTB (K := K) rfl o7 (ev_def1 (m := mm_parts_of) (ev_at (ev_var rfl o7.tell) (ev_var rfl (Rp.mono (Same.new o7.g) r20)))) h62 h63 xt.gh fun G64 H65 w66 x67 o68 => ?_
      have xt : Ext G0 H0 G64 (upd H65 p1 (.lst (vs2 ++ w66))) := (xt.trans x67).put hz6 o68.g
      have mk19 := mk19.trans x67.gg
      have r_thing_ := Rp.mono x67.gg r_thing_
      have r20 := Rp.mono x67.gg r20
      obtain ⟨place_, h75, hm⟩ := Option.bind_eq_some_iff.mp hm
      refine sv_set (K := K) (ev_add (ev_var rfl r20) ev_i) h75 xt.gh fun v70 G71 H72 x73 r74 => ?_
      have xt := xt.trans x73
      have mk19 := mk19.trans x73.gg
      have r_thing_ := Rp.mono x73.gg r_thing_
      have o68 := o68.ext x73
      have r20 := Rp.mono x73.gg r20
      cases hm
      exact kN29 _ _ _ _ rfl ⟨v70, xt, mk19, rfl, ⟨_, o68⟩, r74⟩
  · rintro s17 _ G79 H80 rfl ⟨v76, xt, mk77, rfl, ⟨vs2, o7⟩, r78⟩
    refine sv_nx ?_
    have r_thing_ := Rp.mono mk77 r_thing_
    exact sv_ret (K := K) (rest := tNext) (σ := [some v_thing_, some (V.ref p1), some v76]) ev_b hm xt.gh fun v81 G82 H83 x84 r85 => q v81 G82 H83 (xt.trans x84) r85
  · rintro r' v' G' H' rfl rl
    cases hm
    exact q v' G' H' rl.1 rl.2
theorem ok_law {f : Addr} {fd : FuncData} (F : Fun K "law" "law" s_law f fd) (T : Txt w K mg) (D_law_built : DefOk P w K mg base "_law_built" 3 ["_law_cells_here", "_law_room", "_law_letters"] (spM K mm_law_built)) (D_plain : DefOk P w K mg base "plain" 29 ["sentence"] (spM K (mm_plain 26))) (D_law_count : DefOk P w K mg base "_law_count" 2 ["_law_told"] (spM K mm_law_count)) (D_law_cells : DefOk P w K mg base "_law_cells" 2 ["_law_script"] (spM K mm_law_cells)) (D_lamps_of : DefOk P w K mg base "lamps_of" 3 ["sentence"] (spM K mm_lamps_of)) (D_words : DefOk P w K mg base "words" 3 ["sentence"] (spM K mm_words)) (D_is_sentence : DefOk P w K mg base "is_sentence" 4 ["thing"] (spM K mm_is_sentence)) (D_law_cell_at : DefOk P w K mg base "_law_cell_at" 1 ["_law_script", "_law_k"] (spM K mm_law_cell_at)) : FnOk P w K mg base CX0 30 f fd ["_law_script"] (spM K mm_law) := by
  refine F.ok sc_law (fun vs H Q E h => (spM_len h).trans rfl) (fun cdv A outer s H0 vs Q E hr h => ?_)
  obtain ⟨G0, ⟨script_, ⟨⟩⟩, res, sg0, ⟨v_script_, _, rfl, r_script_, rfl⟩, hm, q⟩ := h
  replace r_script_ : Rp.rel K G0 v_script_ script_ := r_script_
  replace hm : m_law script_ = some res := hm
  unfold m_law at hm
  have xt : Ext G0 H0 G0 H0 := Ext.refl sg0
  refine ⟨_, (pss_cons (ps_set (i := 1) sc_law.nd rfl (Or.inl rfl) (pe_slice (sl_anyK (K := K) rfl) pe_str (po_some (pe_op op_mod (pe_def D_law_cell_at hr (by decide) rfl (pa_cons (pv 0) (pa_cons pe_int pa_nil))) pe_int)) po_none))
      (pss_cons (ps_set (i := 2) sc_law.nd rfl (Or.inl rfl) (pe_def D_law_built hr (by decide) rfl (pa_cons (pe_def D_law_cells hr (by decide) rfl (pa_cons (pv 0) pa_nil)) (pa_cons (pe_op (op_plusK (K := K) rfl) pe_int (pe_op op_mod (pe_def D_law_cell_at hr (by decide) rfl (pa_cons (pv 0) (pa_cons pe_int pa_nil))) pe_int)) (pa_cons (pv 1) pa_nil)))))
      (pss_cons (ps_set (i := 3) sc_law.nd rfl (Or.inl rfl) (pe_def D_plain hr (by decide) rfl (pa_cons (pv 2) pa_nil)))
      (pss_cons (ps_set (i := 4) sc_law.nd rfl (Or.inl rfl) (pe_def D_law_count hr (by decide) rfl (pa_cons (pv 3) pa_nil)))
      (pss_cons (ps_if (PW.pt (pw_or (pt_cmpR op_isN (pv 4) pe_non (nomark _)) (pw_or (pt_cmpR op_gtU (pv 4) (pe_op (op_mulK (K := K) rfl) pe_int (pe_def D_words hr (by decide) rfl (pa_cons (pv 2) pa_nil))) (nomark _)) (pw_or1 (pt_cmpR op_ne (pe_def D_words hr (by decide) rfl (pa_cons (pv 3) pa_nil)) (pv 4) (nomark _)))))) (pss_cons (ps_ret pe_bl)
      pss_nil) pss_nil)
      (pss_cons (ps_if (pt_cmpR op_ne (pe_def D_lamps_of hr (by decide) rfl (pa_cons (pv 3) pa_nil)) (pe_def D_lamps_of hr (by decide) rfl (pa_cons (pv 2) pa_nil)) (nomark _)) (pss_cons (ps_ret pe_bl)
      pss_nil) pss_nil)
      (pss_cons (ps_if (pt_cmpR op_gtU (pv 4) pe_int (nomark _)) (pss_cons (ps_ret (pe_cmpR op_isB (pe_def D_is_sentence hr (by decide) rfl (pa_cons (pv 3) pa_nil)) pe_bl (nomark _)))
      pss_nil) pss_nil)
      (pss_cons (ps_ret (pe_and (pe_cmpR op_isB (pe_def D_is_sentence hr (by decide) rfl (pa_cons (pv 3) pa_nil)) pe_bl (nomark _)) (pe_one (pe_cmpR (op_eqN (K := K) rfl hr) (pe_def D_plain hr (by decide) rfl (pa_cons (pv 3) pa_nil)) (pv 3) (nomark _)))))
      pss_nil)))))))), ?_⟩
  obtain ⟨letters_, h11, hm⟩ := Option.bind_eq_some_iff.mp hm
  refine sv_set (K := K) (ev_sliceS ev_s (ov_some (K := K) (ev_modR (ev_def2 (m := mm_law_cell_at) (ev_var rfl r_script_) ev_i))) ov_none) h11 xt.gh fun v6 G7 H8 x9 r10 => ?_
  have xt := xt.trans x9
  have r_script_ := Rp.mono x9.gg r_script_
  obtain ⟨told_, h25, hm⟩ := Option.bind_eq_some_iff.mp hm
  refine sv_set (K := K) (ev_def3 (m := mm_law_built) (ev_def1 (m := mm_law_cells) (ev_var rfl r_script_)) (ev_add ev_i (ev_modR (ev_def2 (m := mm_law_cell_at) (ev_var rfl r_script_) ev_i))) (ev_var rfl r10)) h25 xt.gh fun v20 G21 H22 x23 r24 => ?_
  have xt := xt.trans x23
  have r_script_ := Rp.mono x23.gg r_script_
  have r10 := Rp.mono x23.gg r10
  obtain ⟨flat_, h32, hm⟩ := Option.bind_eq_some_iff.mp hm
  refine sv_set (K := K) (ev_def1 (m := mm_plain 26) (ev_var rfl r24)) h32 xt.gh fun v27 G28 H29 x30 r31 => ?_
  have xt := xt.trans x30
  have r_script_ := Rp.mono x30.gg r_script_
  have r10 := Rp.mono x30.gg r10
  have r24 := Rp.mono x30.gg r24
  obtain ⟨many_, h39, hm⟩ := Option.bind_eq_some_iff.mp hm
  refine sv_set (K := K) (ev_def1 (m := mm_law_count) (ev_var rfl r31)) h39 xt.gh fun v34 G35 H36 x37 r38 => ?_
  have xt := xt.trans x37
  have r_script_ := Rp.mono x37.gg r_script_
  have r10 := Rp.mono x37.gg r10
  have r24 := Rp.mono x37.gg r24
  have r31 := Rp.mono x37.gg r31
  obtain ⟨b51, h52, hm⟩ := Option.bind_eq_some_iff.mp hm
  refine sv_if (tv_or (tv_test (K := K) (ev_isN nn_int (ev_var rfl r38))) (tv_or (tv_test (K := K) (ev_ord (ev_get (ev_var rfl r38)) (ev_mulL (ev_def1 (m := mm_words) (ev_var rfl r24))))) (tv_test (K := K) (ev_neOI (ev_some (ev_def1 (m := mm_words) (ev_var rfl r31))) (ev_var rfl r38))))) h52 xt.gh fun G53 H54 x55 => ?_
  have xt := xt.trans x55
  have r_script_ := Rp.mono x55.gg r_script_
  have r10 := Rp.mono x55.gg r10
  have r24 := Rp.mono x55.gg r24
  have r31 := Rp.mono x55.gg r31
  have r38 := Rp.mono x55.gg r38
  cases b51 with
  | true =>
    replace hm := cT hm
    refine iteT ?_
    exact sv_ret (K := K) (rest := tNext) (σ := [some v_script_, some v6, some v20, some v27, some v34]) ev_b hm xt.gh fun v56 G57 H58 x59 r60 => q v56 G57 H58 (xt.trans x59) r60
  | false =>
    replace hm := cF hm
    refine iteF ?_
    obtain ⟨b66, h67, hm⟩ := Option.bind_eq_some_iff.mp hm
    refine sv_if (tv_test (K := K) (ev_neS (ev_def1 (m := mm_lamps_of) (ev_var rfl r31)) (ev_def1 (m := mm_lamps_of) (ev_var rfl r24)))) h67 xt.gh fun G68 H69 x70 => ?_
    have xt := xt.trans x70
    have r_script_ := Rp.mono x70.gg r_script_
    have r10 := Rp.mono x70.gg r10
    have r24 := Rp.mono x70.gg r24
    have r31 := Rp.mono x70.gg r31
    have r38 := Rp.mono x70.gg r38
    cases b66 with
    | true =>
      replace hm := cT hm
      refine iteT ?_
      exact sv_ret (K := K) (rest := tNext) (σ := [some v_script_, some v6, some v20, some v27, some v34]) ev_b hm xt.gh fun v71 G72 H73 x74 r75 => q v71 G72 H73 (xt.trans x74) r75
    | false =>
      replace hm := cF hm
      refine iteF ?_
      obtain ⟨b78, h79, hm⟩ := Option.bind_eq_some_iff.mp hm
      refine sv_if (tv_test (K := K) (ev_ord (ev_get (ev_var rfl r38)) ev_i)) h79 xt.gh fun G80 H81 x82 => ?_
      have xt := xt.trans x82
      have r_script_ := Rp.mono x82.gg r_script_
      have r10 := Rp.mono x82.gg r10
      have r24 := Rp.mono x82.gg r24
      have r31 := Rp.mono x82.gg r31
      have r38 := Rp.mono x82.gg r38
      cases b78 with
      | true =>
        replace hm := cT hm
        refine iteT ?_
        exact sv_ret (K := K) (ev_isB (ev_def1 (m := mm_is_sentence) (ev_var rfl r31)) ev_b) hm xt.gh fun v85 G86 H87 x88 r89 => q v85 G86 H87 (xt.trans x88) r89
      | false =>
        replace hm := cF hm
        refine iteF ?_
        exact sv_ret (K := K) (ev_and (ev_isB (ev_def1 (m := mm_is_sentence) (ev_var rfl r31)) ev_b) (ev_eqN (ev_def1 (m := mm_plain 26) (ev_var rfl r31)) (ev_var rfl r31))) hm xt.gh fun v96 G97 H98 x99 r100 => q v96 G97 H98 (xt.trans x99) r100
end
end My

set_option Elab.async false
set_option linter.all false
set_option maxRecDepth 100000
set_option maxHeartbeats 4000000
namespace My
open PySem PySem.Spec PyProof.Rows L2
def abcN : List Nat := List.range' 97 26
def one (c : Nat) : Str := ⟨#[c]⟩
theorem abc_pw : abcN.Pairwise (· < ·) := List.pairwise_lt_range'
def Mom (x : Str) : Prop := x.cps.toList.Sublist abcN
theorem one_inj {a b : Nat} (h : one a = one b) : a = b := by
  have := congrArg (fun x : Str => x.cps.toList) h
  simpa [one] using this
theorem Mom.pw {x : Str} (h : Mom x) : x.cps.toList.Pairwise (· < ·) := abc_pw.sublist h
theorem Mom.len {x : Str} (h : Mom x) : x.length ≤ 26 := by
  have := List.Sublist.length_le h
  exact this
theorem join_mom (cs : List Nat) (h : cs.length ≤ 1000) : joinO "" (cs.map one) = some (Txt.join "" (cs.map one)) := by
  refine if_pos ?_
  have e : ("" : Str).length = 0 := by decide
  have : ((cs.map one).map (·.length)).sum = cs.length := sum_ones cs
  rw [e, Nat.mul_zero, this]
  omega
theorem leS_one {a b : Nat} (h : a ≤ b) : leS (one a) (one b) = true := by
  unfold leS one
  rw [Bool.not_eq_true', decide_eq_false_iff_not]
  intro q
  have := (sing_lt b a).mp q
  omega
theorem sortS_eq {ys zs : List Str} (hp : zs.Perm ys) (hz : zs.Pairwise fun a b => leS a b = true) : sortS ys = zs :=
  (List.Perm.eq_of_pairwise (fun a b _ _ h1 h2 => leS_anti h1 h2) hz (List.pairwise_mergeSort leS_trans leS_total ys) (hp.trans (sortS_perm ys).symm)).symm
/-- the signs of rising letters, out of any list that has just these -/
theorem sort_ded {ys : List Str} {cs : List Nat} (hc : cs.Pairwise (· < ·)) (h : ∀ y, y ∈ ys ↔ ∃ c ∈ cs, y = one c) : sortS (dedA ys) = cs.map one ∧ (dedA ys).length = cs.length := by
  have nd : (cs.map one).Nodup := by
    rw [List.nodup_iff_pairwise_ne]
    exact List.Pairwise.map _ (fun a b q e => absurd (one_inj e) (Nat.ne_of_lt q)) hc
  have hp : (cs.map one).Perm (dedA ys) := (List.perm_ext_iff_of_nodup nd (nodup_dedA ys)).mpr fun y => by
    rw [mem_dedA, h y, List.mem_map]
    exact ⟨fun ⟨c, hc, e⟩ => ⟨c, hc, e.symm⟩, fun ⟨c, hc, e⟩ => ⟨c, hc, e.symm⟩⟩
  refine ⟨sortS_eq hp (List.Pairwise.map _ (fun a b q => leS_one (Nat.le_of_lt q)) hc), ?_⟩
  rw [← hp.length_eq, List.length_map]
theorem cell_at_ok (s : Scr) (k : Int) (h0 : 0 ≤ k) {P : Int → Prop} (hp : ∀ n, P n) : OK (m_law_cell_at s k) P := by
  unfold m_law_cell_at
  simp only [Option.bind_assoc, bindS, bind_self]
  exact ok_cond (fun h => ok_at h0 (of_decide_eq_true h) fun x _ => hp x) fun _ => ok_some (hp _)
def lampN (c : Nat) : Nt := .tup [.txt "lamp", .txt (one c)]
/-- a sentence, how many words it has, its letters -/
inductive Sn : Nt → Nat → List Nat → Prop where
  | leaf {w : Str} : w ≠ "lamp" → Sn (.tup [.txt w]) 1 []
  | lamp {c : Nat} : c ∈ abcN → Sn (lampN c) 1 [c]
  | one {w : Str} {a : Nt} {n : Nat} {ls : List Nat} : w ≠ "lamp" → Sn a n ls → Sn (.tup [.txt w, a]) (n + 1) ls
  | two {w : Str} {a b : Nt} {n m : Nat} {ls ms : List Nat} : w ≠ "lamp" → Sn a n ls → Sn b m ms → Sn (.tup [.txt w, a, b]) (n + m + 1) (ls ++ ms)
theorem Sn.pos {a : Nt} {n : Nat} {ls : List Nat} (h : Sn a n ls) : 1 ≤ n := by cases h <;> omega
theorem Sn.sub {a : Nt} {n : Nat} {ls : List Nat} (h : Sn a n ls) : ∀ c ∈ ls, c ∈ abcN := by
  induction h with
  | leaf _ => intro c hc; cases hc
  | lamp hc => intro c h; rw [List.mem_singleton.mp h]; exact hc
  | one _ _ ih => exact ih
  | two _ _ _ ih1 ih2 => intro c hc; exact (List.mem_append.mp hc).elim (ih1 c) (ih2 c)
/-- several of them -/
inductive Sns : List Nt → Nat → List Nat → Prop where
  | nil : Sns [] 0 []
  | cons {a : Nt} {l : List Nt} {n m : Nat} {ls ms : List Nat} : Sn a n ls → Sns l m ms → Sns (a :: l) (n + m) (ls ++ ms)
theorem Sns.len {l : List Nt} {n : Nat} {ls : List Nat} (h : Sns l n ls) : l.length ≤ n := by
  induction h with
  | nil => exact Nat.le_refl _
  | cons h _ ih => have := h.pos; rw [List.length_cons]; omega
theorem Sns.app {l1 l2 : List Nt} {n1 n2 : Nat} {ls1 ls2 : List Nat} (h1 : Sns l1 n1 ls1) (h2 : Sns l2 n2 ls2) : ∃ ls, Sns (l1 ++ l2) (n1 + n2) ls ∧ ∀ c, c ∈ ls ↔ c ∈ ls1 ∨ c ∈ ls2 := by
  induction h1 with
  | nil => exact ⟨ls2, by rw [Nat.zero_add]; exact h2, fun c => by simp⟩
  | @cons a l n m ls ms h _ ih =>
    obtain ⟨ls', q, e⟩ := ih
    refine ⟨ls ++ ls', by rw [Nat.add_assoc]; exact .cons h q, fun c => ?_⟩
    rw [List.mem_append, e c, List.mem_append, or_assoc]
theorem Sns.one {a : Nt} {n : Nat} {ls : List Nat} (h : Sn a n ls) : Sns [a] n ls := by
  have := Sns.cons h .nil
  rwa [List.append_nil, Nat.add_zero] at this
theorem at_n0 (x : Nt) (l : List Nt) : atI (x :: l) (0 : Int) = some x := atI_nat (j := 0) rfl
theorem at_n1 (x y : Nt) (l : List Nt) : atI (x :: y :: l) (1 : Int) = some y := atI_nat (j := 1) rfl
theorem cut_tailN (a : Nt) (l : List Nt) : cutT? (a :: l) (some 1) none = some ⟨l⟩ := by
  have h1 : HT.sIx (a :: l).length 0 (some (1 : Int)) = 1 := by
    unfold HT.sIx
    simp
    try omega
  have h2 : HT.sIx (a :: l).length (a :: l).length none = (a :: l).length := rfl
  unfold cutT?
  rw [if_pos (by rw [h1]; exact fun z => absurd z.1 (by decide))]
  unfold cutA
  rw [h1, h2]
  simp
/-- what a sentence begins with, and what stands in it -/
theorem Sn.parts {a : Nt} {n : Nat} {ls : List Nat} (h : Sn a n ls) : ∃ w l, a = .tup (.txt w :: l) ∧ ((∃ c, w = "lamp" ∧ a = lampN c ∧ n = 1 ∧ ls = [c] ∧ c ∈ abcN) ∨ (w ≠ "lamp" ∧ ∃ m ms, n = m + 1 ∧ Sns l m ms ∧ ∀ c, c ∈ ls ↔ c ∈ ms)) := by
  cases h with
  | leaf hw => exact ⟨_, _, rfl, .inr ⟨hw, 0, [], rfl, .nil, fun c => Iff.rfl⟩⟩
  | @lamp c hc => exact ⟨_, _, rfl, .inl ⟨c, rfl, rfl, rfl, rfl, hc⟩⟩
  | @one w a n ls hw ha => exact ⟨_, _, rfl, .inr ⟨hw, n, ls, rfl, Sns.one ha, fun c => Iff.rfl⟩⟩
  | @two w a b n m ls ms hw ha hb =>
    obtain ⟨q, h1, h2⟩ := (Sns.one ha).app (Sns.one hb)
    exact ⟨_, _, rfl, .inr ⟨hw, n + m, q, rfl, h1, fun c => by rw [h2 c, List.mem_append]⟩⟩
theorem parts_lamp (c : Nat) : m_parts_of (lampN c) = some ⟨[]⟩ := by
  unfold m_parts_of lampN
  simp only [Option.bind_assoc, bindS, bind_self, asTup, at_n0, asTxt]
  rfl
theorem parts_other {w : Str} {l : List Nt} (hw : w ≠ "lamp") : m_parts_of (.tup (.txt w :: l)) = some ⟨l⟩ := by
  unfold m_parts_of
  simp only [Option.bind_assoc, bindS, bind_self, asTup, at_n0, asTxt, decide_eq_false hw, cond_false, cut_tailN]
theorem within_ok {a : Nt} {n : Nat} {ls : List Nat} (h : Sn a n ls) (hn : n ≤ 1000) {P : List Nt → Prop} (hp : ∀ f : List Nt, f.length = n → (∀ x ∈ f, ∃ m ms, Sn x m ms) → (∀ c, c ∈ ls ↔ lampN c ∈ f) → P f) : OK (m_all_within a) P := by
  have hs : sizeLine = 16777216 := sizeLine_eq
  unfold m_all_within
  simp only [Option.bind_assoc, bindS, bind_self]
  refine ok_bind (ok_while (fun s : List Nt × Int => ∃ done todo N L, s.1 = done ++ todo ∧ s.2 = ((done.length : Nat) : Int) ∧ Sns todo N L ∧ done.length + N = n ∧ (∀ x ∈ s.1, ∃ m ms, Sn x m ms) ∧ ∀ c, c ∈ ls ↔ lampN c ∈ done ∨ c ∈ L) (fun _ => False) (fun _ => False) (fun s => n - s.2.toNat) ⟨[], [a], n, ls, rfl, rfl, Sns.one h, by simp, fun x hx => by rw [List.mem_singleton.mp hx]; exact ⟨n, ls, h⟩, fun c => by simp⟩ (by dsimp only; omega) (fun s ⟨done, todo, N, L, e1, e2, e3, e4, e5, e6⟩ => ?_) (fun _ h => h.elim) fun _ h => h.elim)
  have hl := e3.len
  refine ok_some ?_
  have e7 : (s.1.length : Int) = ((done.length + todo.length : Nat) : Int) := by rw [e1, List.length_append]
  cases e3 with
  | nil =>
    rw [decide_eq_false (by rw [e2, e7]; simp), if_neg Bool.false_ne_true]
    refine ok_some (hp _ ?_ e5 fun c => ?_)
    · rw [e1, List.append_nil]; omega
    · rw [e6 c, e1]; simp
  | @cons x todo n1 m1 ls1 ms1 hx ht =>
    rw [decide_eq_true (by rw [e2, e7, List.length_cons]; omega), if_pos rfl]
    have ex : atI s.1 s.2 = some x := by
      rw [e2]
      refine atI_nat ?_
      rw [e1, List.getElem?_append_right (Nat.le_refl _), Nat.sub_self]
      rfl
    rw [ex]
    simp only [bindS]
    have hlt := ht.len
    have h1 := hx.pos
    rw [List.length_cons] at hl e7
    obtain ⟨w, l, el, hcase⟩ := hx.parts
    rcases hcase with ⟨c, hw, ec, en, els, hc⟩ | ⟨hw, m, ms, en, hps, hmem⟩
    · rw [ec, parts_lamp]
      simp only [bindS]
      have : extO s.1 ([] : List Nt) = some (s.1 ++ []) := if_pos (by rw [List.length_nil]; omega)
      rw [this]
      simp only [bindS]
      refine ok_some ⟨⟨done ++ [x], todo, m1, ms1, ?_, ?_, ht, ?_, ?_, fun c' => ?_⟩, ?_⟩
      · dsimp only; rw [List.append_nil, e1, List.append_assoc]; rfl
      · dsimp only; rw [e2, List.length_append]; rfl
      · rw [List.length_append, List.length_singleton]; omega
      · dsimp only; rw [List.append_nil]; exact e5
      · rw [e6 c', els, List.mem_append, List.mem_append, List.mem_singleton, List.mem_singleton, ec, or_assoc]
        refine or_congr_right (or_congr_left ⟨fun e => by rw [e], fun e => ?_⟩)
        unfold lampN at e
        simp only [Nt.tup.injEq, List.cons.injEq, Nt.txt.injEq, and_true, true_and] at e
        exact one_inj e
      · dsimp only; rw [e2]; omega
    · rw [el, parts_other hw]
      simp only [bindS]
      have hpl := hps.len
      have : extO s.1 l = some (s.1 ++ l) := if_pos (by omega)
      rw [this]
      simp only [bindS]
      obtain ⟨q, g1, g2⟩ := ht.app hps
      refine ok_some ⟨⟨done ++ [x], todo ++ l, m1 + m, q, ?_, ?_, g1, ?_, fun y hy => ?_, fun c' => ?_⟩, ?_⟩
      · dsimp only; rw [e1, List.append_assoc, List.append_assoc]; rfl
      · dsimp only; rw [e2, List.length_append]; rfl
      · rw [List.length_append, List.length_singleton]; omega
      · rcases List.mem_append.mp hy with hy | hy
        · exact e5 y hy
        · have : ∀ {l : List Nt} {n : Nat} {ls : List Nat}, Sns l n ls → ∀ y ∈ l, ∃ m ms, Sn y m ms := by
            intro l n ls h
            induction h with
            | nil => intro y hy; cases hy
            | cons h _ ih =>
              intro y hy
              rcases List.mem_cons.mp hy with rfl | hy
              · exact ⟨_, _, h⟩
              · exact ih y hy
          exact this hps y hy
      · rw [e6 c', g2 c', List.mem_append, List.mem_append, List.mem_singleton, hmem c', or_assoc]
        have : ¬ lampN c' = x := fun e => by
          rw [el] at e
          unfold lampN at e
          simp only [Nt.tup.injEq, List.cons.injEq, Nt.txt.injEq] at e
          exact hw e.1.symm
        constructor
        · rintro (h | h | h)
          · exact .inl h
          · exact .inr (.inr (.inr h))
          · exact .inr (.inr (.inl h))
        · rintro (h | h | h | h)
          · exact .inl h
          · exact absurd h this
          · exact .inr (.inr h)
          · exact .inr (.inl h)
      · dsimp only; rw [e2]; omega
theorem words_eq {a : Nt} {n : Nat} {ls : List Nat} (h : Sn a n ls) (hn : n ≤ 1000) : m_words a = some (n : Int) := by
  refine OK.eq ?_
  unfold m_words
  simp only [Option.bind_assoc, bindS, bind_self]
  exact ok_bind (within_ok h hn fun f h1 _ _ => ok_some (by rw [h1]))
def lt (ls : List Nat) : Str := Txt.join "" ((abcN.filter fun c => decide (c ∈ ls)).map one)
def isLamp (x : Nt) : Bool := match x with
  | .tup (.txt w :: _) => decide (w = "lamp")
  | _ => false
def letOf (x : Nt) : Str := match x with
  | .tup [_, .txt y] => y
  | _ => ""
theorem lamps_eq {a : Nt} {n : Nat} {ls : List Nat} (h : Sn a n ls) (hn : n ≤ 1000) : m_lamps_of a = some (lt ls) := by
  refine OK.eq ?_
  unfold m_lamps_of
  simp only [Option.bind_assoc, bindS, bind_self]
  have shape : ∀ {f : List Nt}, (∀ x ∈ f, ∃ m ms, Sn x m ms) → ∀ x ∈ f, (∃ c, x = lampN c ∧ c ∈ abcN) ∨ ∃ (w : Str) (l : List Nt), w ≠ "lamp" ∧ x = .tup (.txt w :: l) := fun h2 x hx => by
    obtain ⟨m, ms, hs⟩ := h2 x hx
    obtain ⟨w, l, el, h | h⟩ := hs.parts
    · obtain ⟨c, _, ec, _, _, hc⟩ := h
      exact .inl ⟨c, ec, hc⟩
    · exact .inr ⟨w, l, h.1, el⟩
  refine ok_bind (within_ok h hn fun f h1 h2 h3 => ok_bind (ok_comp (c := isLamp) (g := letOf) (fun x hx => ?_) (fun x hx hc => ?_) ?_))
  · rcases shape h2 x hx with ⟨c, rfl, _⟩ | ⟨w, l, hw, rfl⟩
    · unfold lampN
      simp only [asTup, at_n0, asTxt, bindS]
      rfl
    · simp only [asTup, at_n0, asTxt, bindS]
      rfl
  · rcases shape h2 x hx with ⟨c, rfl, _⟩ | ⟨w, l, hw, rfl⟩
    · unfold lampN
      simp only [asTup, at_n1, asTxt, bindS]
      rfl
    · exact absurd (of_decide_eq_true hc) hw
  · have pw : (abcN.filter fun c => decide (c ∈ ls)).Pairwise (· < ·) := abc_pw.sublist List.filter_sublist
    obtain ⟨e1, e2⟩ := sort_ded (ys := (f.filter isLamp).map letOf) pw fun y => by
      rw [List.mem_map]
      constructor
      · rintro ⟨x, hx, rfl⟩
        obtain ⟨hx1, hx2⟩ := List.mem_filter.mp hx
        rcases shape h2 x hx1 with ⟨c, rfl, hc⟩ | ⟨w, l, hw, rfl⟩
        · exact ⟨c, List.mem_filter.mpr ⟨hc, decide_eq_true ((h3 c).mpr hx1)⟩, rfl⟩
        · exact absurd (of_decide_eq_true hx2) hw
      · rintro ⟨c, hc, rfl⟩
        obtain ⟨_, hc2⟩ := List.mem_filter.mp hc
        exact ⟨lampN c, List.mem_filter.mpr ⟨(h3 c).mp (of_decide_eq_true hc2), (decide_eq_true rfl : decide (("lamp" : Str) = "lamp") = true)⟩, rfl⟩
    have l1 : (abcN.filter fun c => decide (c ∈ ls)).length ≤ 26 := List.length_filter_le _ abcN
    have l2 : ((f.filter isLamp).map letOf).length ≤ f.length := by rw [List.length_map]; exact List.length_filter_le _ _
    have e3 : sortSetS ((f.filter isLamp).map letOf) = some ((abcN.filter fun c => decide (c ∈ ls)).map one) := by
      unfold sortSetS
      rw [if_pos ⟨by omega, by omega⟩, e1]
    exact ok_bind ⟨_, e3, ⟨_, join_mom _ (by omega), rfl⟩⟩

mutual
def cntN : Nt → Nat
  | .txt _ => 0
  | .tup l => 1 + cntL l
def cntL : List Nt → Nat
  | [] => 0
  | a :: l => cntN a + cntL l
end
theorem Sn.cnt {a : Nt} {n : Nat} {ls : List Nat} (h : Sn a n ls) : cntN a = n := by
  induction h with
  | leaf _ => simp [cntN, cntL]
  | lamp _ => simp [lampN, cntN, cntL]
  | one _ _ ih => simp only [cntN, cntL, ih]; omega
  | two _ _ _ ih1 ih2 => simp only [cntN, cntL, ih1, ih2]; omega
theorem Sns.cnt {l : List Nt} {n : Nat} {ls : List Nat} (h : Sns l n ls) : cntL l = n := by
  induction h with
  | nil => rfl
  | cons h _ ih => simp only [cntL, ih, h.cnt]
theorem stream_ok (c many : Int) (hm : 0 ≤ many ∧ many ≤ 251) {P : List Int → Prop} (hp : ∀ l : List Int, (l.length : Int) = many → P l) : OK (m_law_stream c many) P := by
  have hs : sizeLine = 16777216 := sizeLine_eq
  obtain ⟨n, rfl⟩ := Int.eq_ofNat_of_zero_le hm.1
  unfold m_law_stream
  simp only [Option.bind_assoc, bindS, bind_self]
  refine ok_bind (ok_rng (n := n) (by omega) (by omega) (by omega) ?_)
  refine ok_bind (ok_for' (fun i (s : List Int × Int) => s.1.length = i ∧ 0 ≤ s.2 ∧ s.2 < 4294967296) ⟨rfl, by dsimp only; omega, by dsimp only; omega⟩ (fun i a s ha hI => ?_) fun s hI => ?_)
  · have hi : i < n := by simpa using (List.getElem?_eq_some_iff.mp ha).1
    refine ok_bind (ok_mul (.inl ⟨by omega, by omega⟩) (ok_bind (ok_push (by omega) (ok_some ⟨_, rfl, by rw [List.length_append, hI.1]; rfl, ?_, ?_⟩))))
    · exact Int.emod_nonneg _ (by decide)
    · have := Int.emod_lt_of_pos (s.2 * s.2 + 48271 * s.2 + a) (b := 2147483647) (by decide)
      dsimp only
      omega
  · refine ok_some (hp _ ?_)
    have := hI.1
    simp at this
    omega
theorem popO_snoc {α : Type} (l : List α) (x : α) : popO (l ++ [x]) = some (x, l) := by
  rw [popO_eq (by simp)]
  simp
theorem at0 (w : Str) (l : List Nt) : atI (Nt.txt w :: l) (0 : Int) = some (Nt.txt w) := atI_nat (j := 0) rfl
structure Wd (w : Str) : Prop where
  no : w ≠ "no"
  yes : w ≠ "yes"
  lamp : w ≠ "lamp"
theorem wd_one {w : Str} (hw : w ∈ (["not", "next", "atlast", "always", "again", "settles"] : List Str)) : Wd w := by
  simp only [List.mem_cons, List.not_mem_nil, or_false] at hw
  rcases hw with rfl | rfl | rfl | rfl | rfl | rfl <;> exact ⟨by decide +kernel, by decide +kernel, by decide +kernel⟩
theorem wd_two {w : Str} (hw : w ∈ (["and", "until", "or", "then", "frees"] : List Str)) : Wd w := by
  simp only [List.mem_cons, List.not_mem_nil, or_false] at hw
  rcases hw with rfl | rfl | rfl | rfl | rfl <;> exact ⟨by decide +kernel, by decide +kernel, by decide +kernel⟩

inductive Pn : Nt → Nat → List Nat → Prop where
  | yes : Pn (.tup [.txt "yes"]) 1 []
  | lamp {c : Nat} : c ∈ abcN → Pn (lampN c) 1 [c]
  | neg {v : Str} {r : List Nt} {n : Nat} {ls : List Nat} : v ≠ "not" → Pn (.tup (.txt v :: r)) n ls → Pn (.tup [.txt "not", .tup (.txt v :: r)]) (n + 1) ls
  | next {a : Nt} {n : Nat} {ls : List Nat} : Pn a n ls → Pn (.tup [.txt "next", a]) (n + 1) ls
  | two {w : Str} {a b : Nt} {n m : Nat} {ls ms : List Nat} : w = "and" ∨ w = "until" → Pn a n ls → Pn b m ms → Pn (.tup [.txt w, a, b]) (n + m + 1) (ls ++ ms)
theorem l_not : ("not" : Str) ≠ "lamp" := by decide +kernel
theorem l_next : ("next" : Str) ≠ "lamp" := by decide +kernel
theorem l_two {w : Str} (h : w = "and" ∨ w = "until") : w ≠ "lamp" := by rcases h with rfl | rfl <;> decide +kernel
theorem Pn.sn {a : Nt} {n : Nat} {ls : List Nat} (h : Pn a n ls) : Sn a n ls := by
  induction h with
  | yes => exact .leaf (by decide +kernel)
  | lamp hc => exact .lamp hc
  | neg _ _ ih => exact .one l_not ih
  | next _ ih => exact .one l_next ih
  | two hw _ _ ih1 ih2 => exact .two (l_two hw) ih1 ih2
theorem den_not (x : Nt) : m_denied (.tup [.txt "not", x]) = some x := by
  refine OK.eq ?_
  unfold m_denied
  simp only [Option.bind_assoc, bindS, bind_self, asTup]
  refine ok_bind ⟨.txt "not", rfl, ok_bind ⟨"not", rfl, ?_⟩⟩
  dsimp only
  rw [decide_eq_true rfl]
  exact ⟨_, rfl, rfl⟩
theorem den_other {w : Str} {l : List Nt} (hw : w ≠ "not") : m_denied (.tup (.txt w :: l)) = some (.tup [.txt "not", .tup (.txt w :: l)]) := by
  refine OK.eq ?_
  unfold m_denied
  simp only [Option.bind_assoc, bindS, bind_self, asTup, at0, asTxt, decide_eq_false hw, cond_false]
  exact ok_some rfl
theorem den_ok {a : Nt} {n : Nat} {ls : List Nat} (h : Pn a n ls) : OK (m_denied a) fun q => ∃ k, Pn q k ls ∧ k ≤ n + 1 := by
  have other : ∀ (w : Str) (l : List Nt), w ≠ "not" → a = .tup (.txt w :: l) → OK (m_denied a) fun q => ∃ k, Pn q k ls ∧ k ≤ n + 1 := fun w l hw e => by
    subst e
    exact ⟨_, den_other hw, n + 1, .neg hw h, Nat.le_refl _⟩
  cases h with
  | yes => exact other _ _ (by decide +kernel) rfl
  | lamp hc => exact other _ _ (by decide +kernel) rfl
  | @neg v r n ls hv hi => exact ⟨_, den_not _, n, hi, by omega⟩
  | next hi => exact other _ _ (by decide +kernel) rfl
  | two hw ha hb => exact other _ _ (by rcases hw with rfl | rfl <;> decide +kernel) rfl
theorem nun : ("until" : Str) ≠ "not" := by decide +kernel
theorem nan : ("and" : Str) ≠ "not" := by decide +kernel
theorem Pn.ev {a : Nt} {n : Nat} {ls : List Nat} (h : Pn a n ls) : Pn (.tup [.txt "until", .tup [.txt "yes"], a]) (n + 2) ls := by
  have q := Pn.two (w := "until") (.inr rfl) .yes h
  rw [List.nil_append] at q
  have e : 1 + n + 1 = n + 2 := by omega
  rw [e] at q
  exact q
theorem with_one_ok (w : Str) {p : Nt} {n : Nat} {ls : List Nat} (h : Pn p n ls) : OK (m_plain_with_one w p) fun q => ∃ k, Pn q k ls ∧ k ≤ n + 6 := by
  unfold m_plain_with_one
  simp only [Option.bind_assoc, bindS, bind_self]
  refine ok_cond (fun _ => ?_) fun _ => ok_cond (fun _ => ok_some ⟨_, .next h, by omega⟩) fun _ => ok_cond (fun _ => ok_some ⟨_, h.ev, by omega⟩) fun _ => ok_cond (fun _ => ?_) fun _ => ok_cond (fun _ => ok_some ⟨_, .neg nun (Pn.ev (.neg nun h.ev)), by omega⟩) fun _ => ?_
  · obtain ⟨q, e, k, hk, d⟩ := den_ok h
    exact ⟨q, e, k, hk, by omega⟩
  · exact ok_by (den_ok h) fun q ⟨k, s, d⟩ => ok_some ⟨_, .neg nun s.ev, by omega⟩
  · exact ok_by (den_ok h) fun q ⟨k, s, d⟩ => ok_some ⟨_, Pn.ev (.neg nun s.ev), by omega⟩
theorem with_two_ok {w : Str} (hw : w ∈ (["and", "until", "or", "then", "frees"] : List Str)) {p r : Nt} {n m : Nat} {ls ms : List Nat} (h : Pn p n ls) (g : Pn r m ms) : OK (m_plain_with_two w p r) fun q => ∃ k, Pn q k (ls ++ ms) ∧ k ≤ n + m + 6 := by
  unfold m_plain_with_two
  simp only [Option.bind_assoc, bindS, bind_self]
  refine ok_cond (fun _ => ?_) fun h1 => ok_cond (fun _ => ?_) fun h2 => ok_cond (fun _ => ?_) fun h3 => ok_some ⟨_, .two ?_ h g, by omega⟩
  · exact ok_by (den_ok h) fun q ⟨k, s, d⟩ => ok_by (den_ok g) fun q2 ⟨k2, s2, d2⟩ => ok_some ⟨_, .neg nan (.two (.inl rfl) s s2), by omega⟩
  · exact ok_by (den_ok g) fun q2 ⟨k2, s2, d2⟩ => ok_some ⟨_, .neg nan (.two (.inl rfl) h s2), by omega⟩
  · exact ok_by (den_ok h) fun q ⟨k, s, d⟩ => ok_by (den_ok g) fun q2 ⟨k2, s2, d2⟩ => ok_some ⟨_, .neg nun (.two (.inr rfl) s s2), by omega⟩
  · simp only [List.mem_cons, List.not_mem_nil, or_false] at hw
    rcases hw with e | e | e | e | e
    · exact .inl e
    · exact .inr e
    · exact absurd e (of_decide_eq_false h1)
    · exact absurd e (of_decide_eq_false h2)
    · exact absurd e (of_decide_eq_false h3)
/-- a sentence of d words and its plain form -/
structure Pr (d : Nat) (S p : Nt) : Prop where
  one : 1 ≤ d
  e : ∀ n, d ≤ n → m_plain n S = some p
  t : ∃ k ls, Sn S d ls ∧ Pn p k ls ∧ k ≤ 6 * d
theorem pr_yes : Pr 1 (.tup [.txt "yes"]) (.tup [.txt "yes"]) := ⟨Nat.le_refl _, fun n hn => by
  obtain ⟨m, rfl⟩ : ∃ m, n = m + 1 := ⟨n - 1, by omega⟩
  rfl, 1, [], .leaf (by decide +kernel), .yes, by omega⟩
theorem pr_no : Pr 1 (.tup [.txt "no"]) (.tup [.txt "not", .tup [.txt "yes"]]) := ⟨Nat.le_refl _, fun n hn => by
  obtain ⟨m, rfl⟩ : ∃ m, n = m + 1 := ⟨n - 1, by omega⟩
  rfl, 2, [], .leaf (by decide +kernel), .neg (by decide +kernel) .yes, by omega⟩
theorem pr_lamp {c : Nat} (hc : c ∈ abcN) : Pr 1 (lampN c) (lampN c) := ⟨Nat.le_refl _, fun n hn => by
  obtain ⟨m, rfl⟩ : ∃ m, n = m + 1 := ⟨n - 1, by omega⟩
  rfl, 1, [c], .lamp hc, .lamp hc, by omega⟩
theorem pr_one {d : Nat} {S p : Nt} (h : Pr d S p) {w : Str} (hw : w ∈ (["not", "next", "atlast", "always", "again", "settles"] : List Str)) : ∃ q, Pr (d + 1) (.tup [.txt w, S]) q := by
  have ww := wd_one hw
  obtain ⟨k, ls, sn, pn, hk⟩ := h.t
  obtain ⟨q, hq, k', pq, hk'⟩ := with_one_ok w pn
  refine ⟨q, by omega, fun n hn => ?_, k', ls, .one ww.lamp sn, pq, by omega⟩
  obtain ⟨m, rfl⟩ : ∃ m, n = m + 1 := ⟨n - 1, by omega⟩
  show msm_plain (m_plain m) _ = _
  unfold msm_plain
  simp only [Option.bind_assoc, bindS, bind_self, asTup, at0, asTxt, decide_eq_false ww.no, decide_eq_false ww.yes, decide_eq_false ww.lamp, Bool.or_self, cond_false]
  have e1 : atI [Nt.txt w, S] (1 : Int) = some S := rfl
  have e2 : decide ((([Nt.txt w, S] : List Nt).length : Int) = 2) = true := rfl
  rw [e1, e2]
  simp only [bindS, cond_true, h.e m (by omega)]
  exact hq
theorem pr_two {d k : Nat} {S p T r : Nt} (h : Pr d S p) (h' : Pr k T r) {w : Str} (hw : w ∈ (["and", "until", "or", "then", "frees"] : List Str)) : ∃ q, Pr (d + k + 1) (.tup [.txt w, S, T]) q := by
  have ww := wd_two hw
  obtain ⟨k1, ls, sn, pn, hk⟩ := h.t
  obtain ⟨k2, ms, sm, pm, hk2⟩ := h'.t
  obtain ⟨q, hq, k', pq, hk'⟩ := with_two_ok hw pn pm
  refine ⟨q, by omega, fun n hn => ?_, k', ls ++ ms, .two ww.lamp sn sm, pq, by omega⟩
  obtain ⟨m, rfl⟩ : ∃ m, n = m + 1 := ⟨n - 1, by omega⟩
  show msm_plain (m_plain m) _ = _
  unfold msm_plain
  simp only [Option.bind_assoc, bindS, bind_self, asTup, at0, asTxt, decide_eq_false ww.no, decide_eq_false ww.yes, decide_eq_false ww.lamp, Bool.or_self, cond_false]
  have e1 : atI [Nt.txt w, S, T] (1 : Int) = some S := rfl
  have e3 : atI [Nt.txt w, S, T] (2 : Int) = some T := rfl
  have e2 : decide ((([Nt.txt w, S, T] : List Nt).length : Int) = 2) = false := rfl
  rw [e1, e2, e3]
  simp only [bindS, cond_false, h.e m (by omega), h'.e m (by omega)]
  exact hq
def Lz (z : Str) : Prop := 0 < z.length ∧ ∀ c ∈ z.cps.toList, c ∈ abcN
theorem leaf_ok (n : Int) (z : Str) (hz : Lz z) {P : Nt → Prop} (hp : ∀ S p, Pr 1 S p → P S) : OK (m_law_leaf n z) P := by
  unfold m_law_leaf
  simp only [Option.bind_assoc, bindS, bind_self]
  have hz' : (0 : Int) < (z.length : Int) := by have := hz.1; omega
  refine ok_cond (fun _ => ok_some (hp _ _ pr_yes)) fun _ => ok_cond (fun _ => ok_some (hp _ _ pr_no)) fun _ => ok_bind (ok_mod hz' (ok_bind (ok_at (Int.emod_nonneg _ (by omega)) ?_ fun c hc => ok_some (hp _ _ (pr_lamp (c := c) (hz.2 c (List.mem_of_getElem? hc)))))))
  have := Int.emod_lt_of_pos (n / 9) hz'
  rw [Array.length_toList]
  exact this
inductive Ws : Nat → List Nt → Prop where
  | nil : Ws 0 []
  | snoc {m d : Nat} {st : List Nt} {x p : Nt} : Ws m st → Pr d x p → Ws (m + d) (st ++ [x])
theorem Ws.last {m : Nat} {st : List Nt} (h : Ws m st) (ne : 0 < st.length) : ∃ m' d st' x p, st = st' ++ [x] ∧ m = m' + d ∧ Ws m' st' ∧ Pr d x p := by
  cases h with
  | nil => exact absurd ne (by decide)
  | snoc h p => exact ⟨_, _, _, _, _, rfl, rfl, h, p⟩
theorem put_ok (st : List Nt) (n : Nat) (cell room : Int) (z : Str) (hz : Lz z) (hg : Ws n st) (hl : st.length ≤ 1000) (hr : (n + st.length : Int) ≤ room + 1) {P : List Nt × List Int → Prop}
    (hp : ∀ st' (n' : Nat), Ws n' st' → st'.length ≤ st.length + 1 → (n' + st'.length : Int) ≤ room + 1 → P (st', [(n' : Int)])) : OK (m_law_put st [(n : Int)] cell room z) P := by
  have hs : sizeLine = 16777216 := sizeLine_eq
  have e0 : ∀ m : Int, atI [m] (0 : Int) = some m := fun m => rfl
  have e1 : ∀ m a : Int, setO [m] (0 : Int) a = some [a] := fun m a => rfl
  have en : ∀ k : Nat, ((k : Int) + 1) = ((k + 1 : Nat) : Int) := fun k => by omega
  unfold m_law_put
  simp only [Option.bind_assoc, bindS, bind_self, e0, e1, en]
  refine ok_by (P := fun s : List Nt × List Int => ∃ m : Nat, s.2 = [(m : Int)] ∧ Ws m s.1 ∧ s.1.length ≤ st.length + 1 ∧ (m + s.1.length : Int) ≤ room + 1) ?_ fun s ⟨m, h1, h2, h3, h4⟩ => ok_some (by rw [h1]; exact hp _ _ h2 h3 h4)
  have keep : ∃ m : Nat, (st, [(n : Int)]).2 = [(m : Int)] ∧ Ws m (st, [(n : Int)]).1 ∧ (st, [(n : Int)]).1.length ≤ st.length + 1 ∧ (m + (st, [(n : Int)]).1.length : Int) ≤ room + 1 := ⟨n, rfl, hg, by dsimp only; omega, hr⟩
  refine ok_cond (fun h => ok_cond (fun h2 => ?_) fun _ => ok_some keep) fun _ => ?_
  · simp only [Bool.and_eq_true, decide_eq_true_iff] at h h2
    obtain ⟨m', d, st', x, p, rfl, rfl, hw, hpl⟩ := hg.last (by omega)
    rw [popO_snoc]
    simp only [bindS]
    refine ok_bind (ok_at (Int.emod_nonneg _ (by decide)) (by show cell % 16 < 6; omega) fun w hw6 => ?_)
    obtain ⟨q, pq⟩ := pr_one hpl (List.mem_of_getElem? hw6)
    rw [List.length_append, List.length_singleton] at *
    refine ok_bind (ok_push (by omega) (ok_some ⟨m' + d + 1, rfl, ?_, ?_, ?_⟩))
    · exact Ws.snoc (d := d + 1) hw pq
    · dsimp only
      rw [List.length_append, List.length_singleton]
      omega
    · dsimp only
      rw [List.length_append, List.length_singleton]
      omega
  · refine ok_by (P := fun b => b = true → 5 < cell % 16 ∧ cell % 16 < 11) ?_ fun b0 hb0 => ?_
    · refine ok_cond (fun h => ok_some fun h2 => ?_) fun _ => ok_some fun h => by cases h
      simp only [decide_eq_true_iff] at h h2
      exact ⟨h, h2⟩
    refine ok_by (P := fun b => b = true → (5 < cell % 16 ∧ cell % 16 < 11) ∧ 1 < st.length) ?_ fun b hb => ok_cond (fun h => ?_) fun _ => ok_cond (fun h2 => ?_) fun _ => ok_some keep
    · refine ok_cond (fun h => ok_some fun h2 => ⟨hb0 h, ?_⟩) fun _ => ok_some fun h => by cases h
      have := of_decide_eq_true h2
      omega
    · obtain ⟨⟨h1, h2⟩, h3⟩ := hb h
      obtain ⟨m1, d1, st1, x1, p1, rfl, rfl, hw1, hp1⟩ := hg.last (by omega)
      rw [List.length_append, List.length_singleton] at h3
      obtain ⟨m2, d2, st2, x2, p2, rfl, rfl, hw2, hp2⟩ := hw1.last (by omega)
      rw [popO_snoc]
      simp only [bindS]
      rw [popO_snoc]
      simp only [bindS]
      refine ok_bind (ok_at (by omega) (by show cell % 16 - 6 < 5; omega) fun w hw6 => ?_)
      obtain ⟨q, pq⟩ := pr_two hp2 hp1 (List.mem_of_getElem? hw6)
      simp only [List.length_append, List.length_singleton] at hl hr
      refine ok_bind (ok_push (by omega) (ok_some ⟨m2 + (d2 + d1 + 1), ?_, Ws.snoc hw2 pq, ?_, ?_⟩))
      · dsimp only
        congr 1
        omega
      · simp only [List.length_append, List.length_singleton]
        omega
      · simp only [List.length_append, List.length_singleton]
        omega
    · have h2 := of_decide_eq_true h2
      refine ok_bind (leaf_ok _ _ hz fun s p hpl => ok_bind (ok_push (by omega) (ok_some ⟨n + 1, rfl, Ws.snoc hg hpl, ?_, ?_⟩)))
      · simp only [List.length_append, List.length_singleton]
        omega
      · simp only [List.length_append, List.length_singleton]
        omega
theorem built_ok (cells : List Int) (room : Int) (z : Str) (hz : Lz z) (hc : cells.length ≤ 300) (hr : 1 ≤ room) {P : Nt → Prop} (hp : ∀ s p d, Pr d s p → (d : Int) ≤ room → P s) : OK (m_law_built cells room z) P := by
  have hs : sizeLine = 16777216 := sizeLine_eq
  unfold m_law_built
  simp only [Option.bind_assoc, bindS, bind_self]
  refine ok_bind (ok_for' (fun i (s : List Nt × List Int) => ∃ m : Nat, s.2 = [(m : Int)] ∧ Ws m s.1 ∧ s.1.length ≤ i ∧ (m + s.1.length : Int) ≤ room + 1) ⟨0, rfl, .nil, Nat.le_refl _, by dsimp only [List.length_nil]; omega⟩ (fun i a s ha ⟨m, h1, h2, h3, h4⟩ => ?_) fun s ⟨m, h1, h2, h3, h4⟩ => ?_)
  · have hi := (List.getElem?_eq_some_iff.mp ha).1
    rw [h1]
    refine ok_bind (put_ok _ _ _ _ _ hz h2 (by omega) h4 fun st' n' g1 g2 g3 => ok_some ⟨_, rfl, n', rfl, g1, ?_, g3⟩)
    dsimp only
    omega
  · refine ok_by (P := fun z : List Nt => ∃ m : Nat, Ws m z ∧ 1 ≤ z.length ∧ z.length ≤ 300 ∧ (m + z.length : Int) ≤ room + 1) (ok_cond (fun h => ?_) fun h => ok_some ⟨m, h2, ?_, by omega, h4⟩) fun z ⟨m1, z1, z2, z3, z4⟩ => ?_
    · have h := of_decide_eq_true h
      have e : s.1 = [] := List.length_eq_zero_iff.mp (by omega)
      rw [e] at h2 ⊢
      refine ok_bind (leaf_ok _ _ hz fun s p hpl => ok_push (by rw [List.length_nil]; omega) ⟨1, ?_, ?_, ?_, ?_⟩)
      · exact Ws.snoc (m := 0) .nil hpl
      · simp
      · simp
      · simp only [List.nil_append, List.length_singleton]
        omega
    · have h := of_decide_eq_false h
      omega
    · refine ok_bind (ok_while (fun l : List Nt => ∃ m : Nat, Ws m l ∧ 1 ≤ l.length ∧ l.length ≤ 300 ∧ (m + l.length : Int) ≤ room + 1) (fun _ => False) (fun _ => False) (fun l => l.length) ⟨m1, z1, z2, z3, z4⟩ ?_ (fun l ⟨m, r1, r2, r3, r4⟩ => ?_) (fun _ h => h.elim) fun _ h => h.elim)
      · omega
      · refine ok_some ?_
        by_cases hlt : (1 : Int) < (l.length : Int)
        · rw [decide_eq_true hlt, if_pos rfl]
          obtain ⟨m1, d1, st1, x1, p1, rfl, rfl, hw1, hp1⟩ := r1.last (by omega)
          simp only [List.length_append, List.length_singleton] at hlt r3 r4
          obtain ⟨m2, d2, st2, x2, p2, rfl, rfl, hw2, hp2⟩ := hw1.last (by omega)
          simp only [List.length_append, List.length_singleton] at hlt r3 r4
          rw [popO_snoc]
          simp only [bindS]
          rw [popO_snoc]
          simp only [bindS]
          refine ok_bind (ok_at (Int.emod_nonneg _ (by decide)) (Int.emod_lt_of_pos _ (b := 5) (by decide)) fun w hw6 => ?_)
          have hm : w ∈ (["and", "until", "or", "then", "frees"] : List Str) := by
            have hm := List.mem_of_getElem? hw6
            simp only [List.mem_cons, List.not_mem_nil, or_false] at hm ⊢
            rcases hm with e | e | e | e | e <;> simp [e]
          obtain ⟨q, pq⟩ := pr_two hp2 hp1 hm
          refine ok_bind (ok_push (by omega) (ok_some ⟨⟨m2 + (d2 + d1 + 1), Ws.snoc hw2 pq, ?_, ?_, ?_⟩, ?_⟩))
          all_goals simp only [List.length_append, List.length_singleton]
          all_goals omega
        · rw [decide_eq_false hlt, if_neg Bool.false_ne_true]
          obtain ⟨m1, d1, st1, x1, p1, rfl, rfl, hw1, hp1⟩ := r1.last (by omega)
          simp only [List.length_append, List.length_singleton] at hlt r3 r4
          have e : st1 = [] := List.length_eq_zero_iff.mp (by omega)
          subst e
          show OK (atI ([] ++ [x1]) 0) P
          exact ⟨x1, rfl, hp x1 p1 d1 hp1 (by simp only [List.length_nil] at r4; omega)⟩
theorem cells_ok (s : Scr) (hl : s.l.length ≤ 63) {P : List Int → Prop} (hp : ∀ l : List Int, l.length ≤ 300 → P l) : OK (m_law_cells s) P := by
  have hs : sizeLine = 16777216 := sizeLine_eq
  have cl : ∀ {α : Type} (l : List α) (lo hi : Option Int), (cutA l lo hi).length ≤ l.length := fun l lo hi => by
    unfold cutA
    rw [List.length_take, List.length_drop]
    omega
  unfold m_law_cells
  simp only [Option.bind_assoc, bindS, bind_self]
  refine ok_bind (cell_at_ok _ _ (by decide) fun c => ?_)
  refine ok_cond (fun _ => ⟨_, if_pos (by omega), hp _ ?_⟩) fun _ => ok_cond (fun _ => ok_bind (cell_at_ok _ _ (by decide) fun d => stream_ok _ _ (by omega) fun l h => hp l (by omega))) fun _ => ok_bind (cell_at_ok _ _ (by decide) fun d => ok_bind (stream_ok _ _ (by omega) fun l h => ok_bind (ok_map (g := fun n : Int => (16 : Int) * n + n / 7 % 6) (fun _ _ => rfl) ?_)))
  · have := cl s.l (some 3) (some 60)
    omega
  · refine ok_bind (cell_at_ok _ _ (by decide) fun e => ok_catL ?_ (hp _ ?_))
    all_goals simp only [List.length_append, List.length_cons, List.length_nil, List.length_map]
    all_goals omega
theorem letters_lz : ∀ a : Fin 26, Lz (Txt.slice ("abcdefghijklmnopqrstuvwxyz" : Str) (some (a.val : Int)) none) := by
  unfold Lz
  decide +kernel
theorem v_ly : decide (("lamp" : Str) = "yes") = false := by decide +kernel
theorem v_yl : decide (("yes" : Str) = "lamp") = false := by decide +kernel
theorem v_ny : decide (("not" : Str) = "yes") = false := by decide +kernel
theorem v_nl : decide (("not" : Str) = "lamp") = false := by decide +kernel
theorem v_xy : decide (("next" : Str) = "yes") = false := by decide +kernel
theorem v_xl : decide (("next" : Str) = "lamp") = false := by decide +kernel
theorem v_xn : decide (("next" : Str) = "not") = false := by decide +kernel
theorem v_ay : decide (("and" : Str) = "yes") = false := by decide +kernel
theorem v_al : decide (("and" : Str) = "lamp") = false := by decide +kernel
theorem v_an : decide (("and" : Str) = "not") = false := by decide +kernel
theorem v_ax : decide (("and" : Str) = "next") = false := by decide +kernel
theorem v_uy : decide (("until" : Str) = "yes") = false := by decide +kernel
theorem v_ul : decide (("until" : Str) = "lamp") = false := by decide +kernel
theorem v_un : decide (("until" : Str) = "not") = false := by decide +kernel
theorem v_ux : decide (("until" : Str) = "next") = false := by decide +kernel
theorem v_ua : decide (("until" : Str) = "and") = false := by decide +kernel
theorem kt (l : List Nt) : isK "tuple" (ToD.to (Nt.tup l)) = true := id rfl
theorem ks (w : Str) : isK "str" (ToD.to (Nt.txt w)) = true := id rfl
theorem ln0 (x : Nt) (r : List Nt) : decide (((x :: r).length : Int) = 0) = false := decide_eq_false (by rw [List.length_cons]; omega)
theorem at1 (x y : Nt) (l : List Nt) : atI (x :: y :: l) (1 : Int) = some y := atI_nat (j := 1) rfl
theorem abc_a : ∀ c ∈ abcN, decide ((one c).cps.toList < ("a" : Str).cps.toList) = false := by decide +kernel
theorem abc_z : ∀ c ∈ abcN, decide (("z" : Str).cps.toList < (one c).cps.toList) = false := by decide +kernel
theorem lamp_abc : ∀ c ∈ abcN, m_is_lamp (one c) = some true := by decide +kernel
theorem cut1 (x : Nt) (r : List Nt) : cutA (x :: r) none (some (1 : Int)) = [x] := by
  have h1 : HT.sIx (x :: r).length 0 none = 0 := rfl
  have h2 : HT.sIx (x :: r).length (x :: r).length (some (1 : Int)) = 1 := by
    have := HT.sIx_nat (x :: r).length (x :: r).length 1
    rw [List.length_cons] at this ⊢
    exact this.trans (by omega)
  unfold cutA
  rw [h1, h2]
  simp
theorem ne_not {v : Str} (h : v ≠ "not") : neNO (.tup [.txt v]) (.tup [.txt "not"]) = some true := by
  have d : ∀ w : Str, (Nt.tup [.txt w]).dep ≤ 180 := fun w => by simp only [Nt.dep, Nt.deps]; decide
  unfold neNO
  rw [if_pos ⟨d _, d _⟩, decide_eq_false (fun e => by injection e with e; injection e with e _; injection e with e; exact h e)]
  rfl
theorem plain1 {x : Nt} {n : Nat} {ls : List Nat} (h : Pn x n ls) : m_law_one_is_plain x = some true := by
  refine OK.eq ?_
  unfold m_law_one_is_plain
  cases h with
  | yes =>
    simp only [Option.bind_assoc, bindS, bind_self, asTup, at0, asTxt, kt, ks, ln0, Bool.not_true, cond_false]
    exact ok_cond (fun _ => ok_some rfl) fun h => absurd trivial (of_decide_eq_false h)
  | @lamp c hc =>
    unfold lampN
    simp only [Option.bind_assoc, bindS, bind_self, asTup, at0, at1, asTxt, kt, ks, ln0, Bool.not_true, cond_false, v_ly, abc_a c hc, abc_z c hc, Bool.not_false, cond_true]
    refine ok_cond (fun _ => ok_cond (fun _ => ok_cond (fun _ => ok_some rfl) fun h => ?_) fun h => ?_) fun h => absurd trivial (of_decide_eq_false h)
    · exact absurd (show ((one c).length : Int) = 1 from rfl) (of_decide_eq_false h)
    · exact absurd rfl (of_decide_eq_false h)
  | @neg v r n ls hv hi =>
    simp only [Option.bind_assoc, bindS, bind_self, asTup, at0, at1, asTxt, kt, ks, ln0, Bool.not_true, cond_false, v_ny, v_nl, cut1, cond_true, ne_not hv]
    exact ok_cond (fun _ => ok_cond (fun _ => ok_some rfl) fun h => absurd rfl (of_decide_eq_false h)) fun h => absurd trivial (of_decide_eq_false h)
  | next hi =>
    simp only [Option.bind_assoc, bindS, bind_self, asTup, at0, at1, asTxt, kt, ks, ln0, Bool.not_true, cond_false, v_xy, v_xl, v_xn]
    exact ok_cond (fun _ => ok_some rfl) fun h => absurd trivial (of_decide_eq_false h)
  | two hw ha hb =>
    rcases hw with rfl | rfl
    · simp only [Option.bind_assoc, bindS, bind_self, asTup, at0, at1, asTxt, kt, ks, ln0, Bool.not_true, cond_false, v_ay, v_al, v_an, v_ax]
      exact ok_cond (fun _ => ok_cond (fun _ => ok_some rfl) fun h => absurd trivial (of_decide_eq_false h)) fun h => absurd rfl (of_decide_eq_false h)
    · simp only [Option.bind_assoc, bindS, bind_self, asTup, at0, at1, asTxt, kt, ks, ln0, Bool.not_true, cond_false, v_uy, v_ul, v_un, v_ux, v_ua]
      exact ok_cond (fun _ => ok_some (by simp)) fun h => absurd rfl (of_decide_eq_false h)
theorem g_yes : getC c_PARTS "yes" = some 0 := by decide +kernel
theorem g_not : getC c_PARTS "not" = some 1 := by decide +kernel
theorem g_next : getC c_PARTS "next" = some 1 := by decide +kernel
theorem g_and : getC c_PARTS "and" = some 2 := by decide +kernel
theorem g_until : getC c_PARTS "until" = some 2 := by decide +kernel
theorem form1 {x : Nt} {n : Nat} {ls : List Nat} (h : Pn x n ls) : m_has_form x = some true := by
  refine OK.eq ?_
  unfold m_has_form
  cases h with
  | yes =>
    simp only [Option.bind_assoc, bindS, bind_self, asTup, at0, asTxt, kt, ks, ln0, Bool.not_true, cond_false, v_yl, g_yes, Option.isSome_some, cond_true]
    exact ok_some rfl
  | @lamp c hc =>
    unfold lampN
    simp only [Option.bind_assoc, bindS, bind_self, asTup, at0, at1, asTxt, kt, ks, ln0, Bool.not_true, cond_false, lamp_abc c hc]
    exact ok_cond (fun _ => ok_cond (fun _ => ok_some rfl) fun h => absurd rfl (of_decide_eq_false h)) fun h => absurd trivial (of_decide_eq_false h)
  | neg hv hi =>
    simp only [Option.bind_assoc, bindS, bind_self, asTup, at0, asTxt, kt, ks, ln0, Bool.not_true, cond_false, v_nl, g_not, Option.isSome_some, cond_true]
    exact ok_some rfl
  | next hi =>
    simp only [Option.bind_assoc, bindS, bind_self, asTup, at0, asTxt, kt, ks, ln0, Bool.not_true, cond_false, v_xl, g_next, Option.isSome_some, cond_true]
    exact ok_some rfl
  | two hw ha hb =>
    rcases hw with rfl | rfl
    · simp only [Option.bind_assoc, bindS, bind_self, asTup, at0, asTxt, kt, ks, ln0, Bool.not_true, cond_false, v_al, g_and, Option.isSome_some, cond_true]
      exact ok_some rfl
    · simp only [Option.bind_assoc, bindS, bind_self, asTup, at0, asTxt, kt, ks, ln0, Bool.not_true, cond_false, v_ul, g_until, Option.isSome_some, cond_true]
      exact ok_some rfl

theorem cntL_app : ∀ a b : List Nt, cntL (a ++ b) = cntL a + cntL b
  | [], b => by simp [cntL]
  | x :: a, b => by
    show cntN x + cntL (a ++ b) = cntN x + cntL a + cntL b
    rw [cntL_app a b]
    omega
def AllP (l : List Nt) : Prop := ∀ x ∈ l, ∃ n ls, Pn x n ls
theorem AllP.app {a b : List Nt} (h : AllP a) (g : AllP b) : AllP (a ++ b) := fun x hx => (List.mem_append.mp hx).elim (h x) (g x)
theorem AllP.one {x : Nt} {n : Nat} {ls : List Nat} (h : Pn x n ls) : AllP [x] := fun y hy => by rw [List.mem_singleton.mp hy]; exact ⟨n, ls, h⟩
theorem Pn.parts {x : Nt} {n : Nat} {ls : List Nat} (h : Pn x n ls) : ∃ w r, x = .tup (.txt w :: r) ∧ ((w = "lamp" ∧ n = 1 ∧ ∃ c, x = lampN c) ∨ (w ≠ "lamp" ∧ AllP r ∧ cntL r + 1 = n ∧ r.length ≤ 2)) := by
  have hc := h.sn.cnt
  have c0 : ∀ (w : Str) (r : List Nt), cntN (.tup (.txt w :: r)) = 1 + cntL r := fun w r => by simp only [cntN, cntL]; omega
  cases h with
  | yes => exact ⟨_, _, rfl, .inr ⟨by decide +kernel, (fun y hy => (by cases hy)), by rw [c0] at hc; omega, by decide⟩⟩
  | @lamp c h => exact ⟨_, _, rfl, .inl ⟨rfl, rfl, c, rfl⟩⟩
  | neg hv hi => exact ⟨_, _, rfl, .inr ⟨l_not, .one hi, by rw [c0] at hc; omega, by simp⟩⟩
  | next hi => exact ⟨_, _, rfl, .inr ⟨l_next, .one hi, by rw [c0] at hc; omega, by simp⟩⟩
  | two hw ha hb => exact ⟨_, _, rfl, .inr ⟨l_two hw, AllP.app (.one ha) (.one hb), by rw [c0] at hc; omega, by simp⟩⟩
theorem cnt_len : ∀ {l : List Nt}, AllP l → l.length ≤ cntL l
  | [], _ => Nat.le_refl _
  | x :: l, h => by
    obtain ⟨n, ls, hx⟩ := h x List.mem_cons_self
    have e := hx.sn.cnt
    have p := hx.sn.pos
    have ih := cnt_len (l := l) fun y hy => h y (List.mem_cons_of_mem _ hy)
    show l.length + 1 ≤ cntN x + cntL l
    omega
theorem count_ok {x : Nt} {n : Nat} {ls : List Nat} (h : Pn x n ls) (hn : n ≤ 200) : m_law_count x = some (some (n : Int)) := by
  have hs : sizeLine = 16777216 := sizeLine_eq
  refine OK.eq ?_
  unfold m_law_count
  simp only [Option.bind_assoc, bindS, bind_self]
  refine ok_bind (ok_while (fun s : List Nt × Int => AllP s.1 ∧ s.2 + (cntL s.1 : Int) = n ∧ 0 ≤ s.2) (fun _ => False) (fun _ => False) (fun s => cntL s.1) ⟨.one h, ?_, Int.le_refl 0⟩ ?_ (fun s ⟨h1, h2, h3⟩ => ?_) (fun _ h => h.elim) fun _ h => h.elim)
  · show (0 : Int) + ((cntN x + 0 : Nat) : Int) = n
    rw [h.sn.cnt]
    omega
  · show cntN x + 0 < _
    rw [h.sn.cnt]
    omega
  · refine ok_some ?_
    by_cases hne : s.1 = []
    · rw [decide_eq_false (by rw [hne]; decide), if_neg Bool.false_ne_true]
      refine ok_some ?_
      rw [hne] at h2
      have e : s.2 = (n : Int) := by
        have : cntL ([] : List Nt) = 0 := rfl
        rw [this] at h2
        omega
      show some s.2 = some (n : Int)
      rw [e]
    · have hl : 0 < s.1.length := List.length_pos_iff.mpr hne
      rw [decide_eq_true (by omega), if_pos rfl]
      have el : s.1 = s.1.dropLast ++ [s.1.getLast hne] := (List.dropLast_concat_getLast hne).symm
      generalize s.1.dropLast = st at el
      generalize s.1.getLast hne = y at el
      rw [el] at h1 h2 ⊢
      obtain ⟨k, ms, py⟩ := h1 y (by simp)
      have hst : AllP st := fun z hz => h1 z (by simp [hz])
      have ey := py.sn.cnt
      have ec : cntL (st ++ [y]) = cntL st + k := by
        rw [cntL_app]
        show _ + (cntN y + 0) = _
        rw [ey]
        omega
      rw [ec] at h2
      have kp := py.sn.pos
      have l1 := cnt_len hst
      rw [popO_snoc]
      simp only [bindS, plain1 py]
      refine ok_by (P := fun b => b = false) (ok_cond (fun h => ?_) fun _ => ok_some rfl) fun b hb => ok_cond (fun h => by rw [hb] at h; cases h) fun _ => ?_
      · have h := of_decide_eq_true h
        omega
      · obtain ⟨w, r, er, hcase⟩ := py.parts
        rw [er]
        simp only [asTup, at0, asTxt, bindS]
        rcases hcase with ⟨hw, e1, _⟩ | ⟨hw, hr, e1, hr2⟩
        · refine ok_cond (fun h => ?_) fun _ => ok_some ⟨⟨hst, ?_, ?_⟩, ?_⟩
          · rw [hw] at h
            simp at h
          · dsimp only
            omega
          · dsimp only
            omega
          · dsimp only
            rw [← er, ec]
            omega
        · refine ok_cond (fun _ => ?_) fun h => ?_
          · rw [cut_tailN]
            simp only [bindS]
            refine ok_bind ⟨_, if_pos (by omega), ok_some ⟨⟨hst.app hr, ?_, ?_⟩, ?_⟩⟩
            · dsimp only
              rw [cntL_app]
              omega
            · dsimp only
              omega
            · dsimp only
              rw [← er, ec, cntL_app]
              omega
          · rw [decide_eq_false hw] at h
            cases h
theorem sent_ok {x : Nt} {n : Nat} {ls : List Nat} (h : Pn x n ls) (hn : n ≤ 1000) : m_is_sentence x = some (decide (n ≤ 24)) := by
  have hs : sizeLine = 16777216 := sizeLine_eq
  refine OK.eq ?_
  unfold m_is_sentence
  simp only [Option.bind_assoc, bindS, bind_self]
  refine ok_bind (ok_while (fun s : List Nt × Int => ∃ done todo, s.1 = done ++ todo ∧ s.2 = ((done.length : Nat) : Int) ∧ AllP todo ∧ done.length + cntL todo = n ∧ (s.1.length ≤ 24 ∨ todo ≠ [])) (fun _ => False) (fun r => r = decide (n ≤ 24)) (fun s => n - s.2.toNat) ⟨[], [x], rfl, rfl, .one h, ?_, .inl (by show 1 ≤ 24; decide)⟩ (by dsimp only; omega) (fun s ⟨done, todo, e1, e2, e3, e4, e5⟩ => ?_) (fun _ h => h.elim) fun r hr => ok_some hr)
  · show 0 + (cntN x + 0) = n
    rw [h.sn.cnt]
    omega
  · refine ok_some ?_
    have e7 : s.1.length = done.length + todo.length := by rw [e1, List.length_append]
    have e8 := cnt_len e3
    cases todo with
    | nil =>
      have e9 : cntL ([] : List Nt) = 0 := rfl
      rw [decide_eq_false (by rw [e2, e7]; simp), if_neg Bool.false_ne_true]
      refine ok_some ?_
      rw [decide_eq_true (by rcases e5 with q | q; · rw [e7, List.length_nil] at q; omega
                             · exact absurd rfl q)]
    | cons y todo =>
      have e9 : cntL (y :: todo) = cntN y + cntL todo := rfl
      rw [List.length_cons] at e7 e8
      rw [decide_eq_true (by rw [e2, e7]; omega), if_pos rfl]
      have ex : atI s.1 s.2 = some y := by
        rw [e2]
        refine atI_nat ?_
        rw [e1, List.getElem?_append_right (Nat.le_refl _), Nat.sub_self]
        rfl
      obtain ⟨k, ms, py⟩ := e3 y List.mem_cons_self
      have ey := py.sn.cnt
      have htodo : AllP todo := fun z hz => e3 z (List.mem_cons_of_mem _ hz)
      simp only [ex, bindS, form1 py]
      refine ok_by (P := fun b => b = decide (24 < s.1.length)) (ok_cond (fun h => ok_some ?_) fun h => ok_some ?_) fun b hb => ok_cond (fun h => ?_) fun h => ?_
      · have h := of_decide_eq_true h
        exact (decide_eq_true (by omega)).symm
      · have h := of_decide_eq_false h
        exact (decide_eq_false (by omega)).symm
      · rw [hb] at h
        have h := of_decide_eq_true h
        refine ok_some ?_
        show false = decide (n ≤ 24)
        rw [decide_eq_false (by omega)]
      · rw [hb] at h
        have h := of_decide_eq_false h
        have hp : ∃ r, m_parts_of y = some ⟨r⟩ ∧ AllP r ∧ cntL r + 1 = k ∧ r.length ≤ 2 := by
          obtain ⟨w, r, er, hcase⟩ := py.parts
          rcases hcase with ⟨hw, e1, c, ec⟩ | ⟨hw, hr, e1, hr2⟩
          · rw [ec]
            exact ⟨[], parts_lamp c, fun z hz => (by cases hz), by rw [e1]; rfl, by decide⟩
          · rw [er]
            exact ⟨r, parts_other hw, hr, e1, hr2⟩
        obtain ⟨r, hr1, hr2, hr3, hr4⟩ := hp
        rw [hr1]
        simp only [bindS]
        refine ok_bind ⟨_, if_pos (by omega), ok_some ⟨⟨done ++ [y], todo ++ r, ?_, ?_, htodo.app hr2, ?_, ?_⟩, ?_⟩⟩
        · dsimp only
          rw [e1]
          simp
        · dsimp only
          rw [e2, List.length_append]
          rfl
        · rw [List.length_append, cntL_app, List.length_singleton]
          omega
        · dsimp only
          cases r with
          | nil => left; rw [List.append_nil]; omega
          | cons a r => right; simp
        · dsimp only
          rw [e2]
          have := py.sn.pos
          omega
theorem Pn.dep {x : Nt} {n : Nat} {ls : List Nat} (h : Pn x n ls) : x.dep ≤ n := by
  induction h with
  | yes => decide
  | lamp _ => simp only [lampN, Nt.dep, Nt.deps]; omega
  | neg _ _ ih => simp only [Nt.dep, Nt.deps] at ih ⊢; omega
  | next _ ih => simp only [Nt.dep, Nt.deps] at ih ⊢; omega
  | two _ _ _ ih1 ih2 => simp only [Nt.dep, Nt.deps] at ih1 ih2 ⊢; omega

theorem v_ao : decide (("and" : Str) = "or") = false := by decide +kernel
theorem v_at : decide (("and" : Str) = "then") = false := by decide +kernel
theorem v_af : decide (("and" : Str) = "frees") = false := by decide +kernel
theorem v_uo : decide (("until" : Str) = "or") = false := by decide +kernel
theorem v_ut : decide (("until" : Str) = "then") = false := by decide +kernel
theorem v_uf : decide (("until" : Str) = "frees") = false := by decide +kernel
theorem again_one {w : Str} (ww : Wd w) {S p q : Nt} {m : Nat} (h : m_plain m S = some p) (hq : m_plain_with_one w p = some q) : m_plain (m + 1) (.tup [.txt w, S]) = some q := by
  show msm_plain (m_plain m) _ = _
  unfold msm_plain
  simp only [Option.bind_assoc, bindS, bind_self, asTup, at0, asTxt, decide_eq_false ww.no, decide_eq_false ww.yes, decide_eq_false ww.lamp, Bool.or_self, cond_false]
  have e1 : atI [Nt.txt w, S] (1 : Int) = some S := rfl
  have e2 : decide ((([Nt.txt w, S] : List Nt).length : Int) = 2) = true := rfl
  rw [e1, e2]
  simp only [bindS, cond_true, h]
  exact hq
theorem again_two {w : Str} (ww : Wd w) {S p T r q : Nt} {m : Nat} (h : m_plain m S = some p) (h' : m_plain m T = some r) (hq : m_plain_with_two w p r = some q) : m_plain (m + 1) (.tup [.txt w, S, T]) = some q := by
  show msm_plain (m_plain m) _ = _
  unfold msm_plain
  simp only [Option.bind_assoc, bindS, bind_self, asTup, at0, asTxt, decide_eq_false ww.no, decide_eq_false ww.yes, decide_eq_false ww.lamp, Bool.or_self, cond_false]
  have e1 : atI [Nt.txt w, S, T] (1 : Int) = some S := rfl
  have e3 : atI [Nt.txt w, S, T] (2 : Int) = some T := rfl
  have e2 : decide ((([Nt.txt w, S, T] : List Nt).length : Int) = 2) = false := rfl
  rw [e1, e2, e3]
  simp only [bindS, cond_false, h, h']
  exact hq
theorem again {x : Nt} {n : Nat} {ls : List Nat} (h : Pn x n ls) : ∀ f, n ≤ f → m_plain f x = some x := by
  induction h with
  | yes =>
    intro f hf
    obtain ⟨m, rfl⟩ : ∃ m, f = m + 1 := ⟨f - 1, by omega⟩
    rfl
  | lamp _ =>
    intro f hf
    obtain ⟨m, rfl⟩ : ∃ m, f = m + 1 := ⟨f - 1, by omega⟩
    rfl
  | @neg v r n ls hv hi ih =>
    intro f hf
    obtain ⟨m, rfl⟩ : ∃ m, f = m + 1 := ⟨f - 1, by omega⟩
    refine again_one (wd_one (by simp)) (ih m (by omega)) (OK.eq ?_)
    unfold m_plain_with_one
    simp only [Option.bind_assoc, bindS, bind_self]
    exact ok_cond (fun _ => ⟨_, den_other hv, rfl⟩) fun h => absurd trivial (of_decide_eq_false h)
  | next hi ih =>
    intro f hf
    obtain ⟨m, rfl⟩ : ∃ m, f = m + 1 := ⟨f - 1, by omega⟩
    refine again_one (wd_one (by simp)) (ih m (by omega)) (OK.eq ?_)
    unfold m_plain_with_one
    simp only [Option.bind_assoc, bindS, bind_self, v_xn, cond_false]
    exact ok_cond (fun _ => ok_some rfl) fun h => absurd trivial (of_decide_eq_false h)
  | two hw ha hb ih1 ih2 =>
    intro f hf
    obtain ⟨m, rfl⟩ : ∃ m, f = m + 1 := ⟨f - 1, by omega⟩
    rcases hw with rfl | rfl
    · refine again_two (wd_two (by simp)) (ih1 m (by omega)) (ih2 m (by omega)) ?_
      unfold m_plain_with_two
      simp only [Option.bind_assoc, bindS, bind_self, v_ao, v_at, v_af, cond_false]
    · refine again_two (wd_two (by simp)) (ih1 m (by omega)) (ih2 m (by omega)) ?_
      unfold m_plain_with_two
      simp only [Option.bind_assoc, bindS, bind_self, v_uo, v_ut, v_uf, cond_false]
theorem law_true (ns : List Int) (hl : ns.length ≤ 63) : m_law ⟨ns⟩ = some true := by
  have hs : sizeLine = 16777216 := sizeLine_eq
  refine OK.eq ?_
  unfold m_law
  simp only [Option.bind_assoc, bindS, bind_self]
  refine ok_bind (cell_at_ok _ _ (by decide) fun c1 => ?_)
  have a0 := Int.emod_nonneg c1 (b := 26) (by decide)
  have a1 := Int.emod_lt_of_pos c1 (b := 26) (by decide)
  obtain ⟨a, ea⟩ := Int.eq_ofNat_of_zero_le a0
  rw [ea] at a1 ⊢
  have hz := letters_lz ⟨a, by omega⟩
  dsimp only at hz
  refine ok_bind (cells_ok _ hl fun cells hc => ok_bind (cell_at_ok _ _ (by decide) fun c2 => ok_bind (built_ok _ _ _ hz hc (by omega) fun S p d hpr hd => ?_)))
  have h24 : d ≤ 24 := by omega
  obtain ⟨k, ls, sn, pn, hk⟩ := hpr.t
  simp only [hpr.e 26 (by omega), count_ok pn (by omega), words_eq sn (by omega), words_eq pn.sn (by omega), lamps_eq sn (by omega), lamps_eq pn.sn (by omega), sent_ok pn (by omega), bindS]
  refine ok_by (P := fun b => b = false) (ok_cond (fun h => by cases h) fun _ => ok_cond (fun h => ?_) fun _ => ok_some (by simp)) fun b hb => ok_cond (fun h => by rw [hb] at h; cases h) fun _ => ok_cond (fun h => by simp at h) fun _ => ok_cond (fun h => ?_) fun h => ?_
  · have h := of_decide_eq_true h
    omega
  · have h := of_decide_eq_true h
    refine ok_some ?_
    rw [decide_eq_false (show ¬ k ≤ 24 by omega)]
    rfl
  · have h := of_decide_eq_false h
    rw [decide_eq_true (show k ≤ 24 by omega)]
    have hd := pn.dep
    have he : eqNO p p = some true := by
      unfold eqNO
      rw [if_pos ⟨by omega, by omega⟩, decide_eq_true rfl]
    simp only [again pn 26 (by omega), he, bindS]
    exact ok_cond (fun _ => ok_some rfl) fun h => by simp at h
end My

set_option Elab.async false
set_option linter.all false
set_option maxRecDepth 100000
set_option maxHeartbeats 4000000
namespace My
open PySem PySem.Spec PyProof.Rows L2
theorem law_imp {K : PySem.W.Frag} {vs : List V} {H : Hp} {Q : VK} {E : XK} (h : sp_law K vs H Q E) : spM K mm_law vs H Q E := by
  obtain ⟨a, ns, rfl, hS, hl, q⟩ := h
  exact ⟨H, (⟨ns⟩, ()), true, Same.refl H, ⟨.ref a, [], rfl, ⟨a, rfl, hS⟩, rfl⟩, law_true ns hl, fun v G2 H2 x r => by cases r; exact q H2⟩
set_option maxHeartbeats 1000000 in
theorem all_mk {l : PySem.W.OpenLaw} {w : World} {K : PySem.W.Frag} {h : Heap} {mg : Str → Option Value} {fa : Addr} (X : K.In h) (G : h.Ns mainGlobals mg) (hfa : mg "law" = some (.ref fa))
    {f0 f1 f2 f3 f4 f5 f6 f7 f8 f9 f10 f11 f12 f13 f14 f15 f16 f17 f18 f19 f20 : Addr} {od0 an0 od1 an1 od2 an2 od3 an3 od4 an4 od5 an5 od6 an6 od7 an7 od8 an8 od9 an9 od10 an10 od11 an11 od12 an12 od13 an13 od14 an14 od15 an15 od16 an16 od17 an17 od18 an18 od19 an19 od20 an20 : Option Addr} {sl0 sl1 sl2 sl3 sl4 sl5 sl6 sl7 sl8 sl9 sl10 sl11 sl12 sl13 sl14 sl15 sl16 sl17 sl18 sl19 sl20 : Array (Option Value)} {oc0 kV0 dc0 pm0 cd0 ct0 oc1 kV1 dc1 pm1 cd1 ct1 oc2 kV2 dc2 pm2 cd2 ct2 oc3 kV3 dc3 pm3 cd3 ct3 oc4 kV4 dc4 pm4 cd4 ct4 oc5 kV5 dc5 pm5 cd5 ct5 oc6 kV6 dc6 pm6 cd6 ct6 oc7 kV7 dc7 pm7 cd7 ct7 oc8 kV8 dc8 pm8 cd8 ct8 oc9 kV9 dc9 pm9 cd9 ct9 oc10 kV10 dc10 pm10 cd10 ct10 oc11 kV11 dc11 pm11 cd11 ct11 oc12 kV12 dc12 pm12 cd12 ct12 oc13 kV13 dc13 pm13 cd13 ct13 oc14 kV14 dc14 pm14 cd14 ct14 oc15 kV15 dc15 pm15 cd15 ct15 oc16 kV16 dc16 pm16 cd16 ct16 oc17 kV17 dc17 pm17 cd17 ct17 oc18 kV18 dc18 pm18 cd18 ct18 oc19 kV19 dc19 pm19 cd19 ct19 oc20 kV20 dc20 pm20 cd20 ct20 : Value}
    {tk0 tk1 : Tok}
    {ga0 : Addr} {god0 : Option Addr} {gn0 : Nat} {gsl0 : Array (Option Value)}
    {ga2 : Addr} {ges2 : Array DictEntry} {gn2 : Nat}
    (a0 : PySem.W.nsIn K mainGlobals "denied" = some (some (.ref f0))) (l0 : K.lookup f0 = some ⟨oc0, od0, .func (PySem.W.fnOf "denied" "denied" (defArgs s_denied) (defBody s_denied) (defScope s_denied) .none kV0 dc0 pm0 an0 cd0 ct0), sl0⟩) (c0 : PySem.W.codeIn K cd0 "denied" = true) (k0 : PySem.W.keepIn K (.ref f0) = true)
    (a1 : PySem.W.nsIn K mainGlobals "plain_with_one" = some (some (.ref f1))) (l1 : K.lookup f1 = some ⟨oc1, od1, .func (PySem.W.fnOf "plain_with_one" "plain_with_one" (defArgs s_plain_with_one) (defBody s_plain_with_one) (defScope s_plain_with_one) .none kV1 dc1 pm1 an1 cd1 ct1), sl1⟩) (c1 : PySem.W.codeIn K cd1 "plain_with_one" = true) (k1 : PySem.W.keepIn K (.ref f1) = true)
    (a2 : PySem.W.nsIn K mainGlobals "plain_with_two" = some (some (.ref f2))) (l2 : K.lookup f2 = some ⟨oc2, od2, .func (PySem.W.fnOf "plain_with_two" "plain_with_two" (defArgs s_plain_with_two) (defBody s_plain_with_two) (defScope s_plain_with_two) .none kV2 dc2 pm2 an2 cd2 ct2), sl2⟩) (c2 : PySem.W.codeIn K cd2 "plain_with_two" = true) (k2 : PySem.W.keepIn K (.ref f2) = true)
    (a3 : PySem.W.nsIn K mainGlobals "plain" = some (some (.ref f3))) (l3 : K.lookup f3 = some ⟨oc3, od3, .func (PySem.W.fnOf "plain" "plain" (defArgs s_plain) (defBody s_plain) (defScope s_plain) .none kV3 dc3 pm3 an3 cd3 ct3), sl3⟩) (c3 : PySem.W.codeIn K cd3 "plain" = true) (k3 : PySem.W.keepIn K (.ref f3) = true)
    (a4 : PySem.W.nsIn K mainGlobals "is_moment" = some (some (.ref f4))) (l4 : K.lookup f4 = some ⟨oc4, od4, .func (PySem.W.fnOf "is_moment" "is_moment" (defArgs s_is_moment) (defBody s_is_moment) (defScope s_is_moment) .none kV4 dc4 pm4 an4 cd4 ct4), sl4⟩) (c4 : PySem.W.codeIn K cd4 "is_moment" = true) (k4 : PySem.W.keepIn K (.ref f4) = true)
    (a5 : PySem.W.nsIn K mainGlobals "parts_of" = some (some (.ref f5))) (l5 : K.lookup f5 = some ⟨oc5, od5, .func (PySem.W.fnOf "parts_of" "parts_of" (defArgs s_parts_of) (defBody s_parts_of) (defScope s_parts_of) .none kV5 dc5 pm5 an5 cd5 ct5), sl5⟩) (c5 : PySem.W.codeIn K cd5 "parts_of" = true) (k5 : PySem.W.keepIn K (.ref f5) = true)
    (a6 : PySem.W.nsIn K mainGlobals "is_lamp" = some (some (.ref f6))) (l6 : K.lookup f6 = some ⟨oc6, od6, .func (PySem.W.fnOf "is_lamp" "is_lamp" (defArgs s_is_lamp) (defBody s_is_lamp) (defScope s_is_lamp) .none kV6 dc6 pm6 an6 cd6 ct6), sl6⟩) (c6 : PySem.W.codeIn K cd6 "is_lamp" = true) (k6 : PySem.W.keepIn K (.ref f6) = true)
    (a7 : PySem.W.nsIn K mainGlobals "has_form" = some (some (.ref f7))) (l7 : K.lookup f7 = some ⟨oc7, od7, .func (PySem.W.fnOf "has_form" "has_form" (defArgs s_has_form) (defBody s_has_form) (defScope s_has_form) .none kV7 dc7 pm7 an7 cd7 ct7), sl7⟩) (c7 : PySem.W.codeIn K cd7 "has_form" = true) (k7 : PySem.W.keepIn K (.ref f7) = true)
    (a8 : PySem.W.nsIn K mainGlobals "is_sentence" = some (some (.ref f8))) (l8 : K.lookup f8 = some ⟨oc8, od8, .func (PySem.W.fnOf "is_sentence" "is_sentence" (defArgs s_is_sentence) (defBody s_is_sentence) (defScope s_is_sentence) .none kV8 dc8 pm8 an8 cd8 ct8), sl8⟩) (c8 : PySem.W.codeIn K cd8 "is_sentence" = true) (k8 : PySem.W.keepIn K (.ref f8) = true)
    (a9 : PySem.W.nsIn K mainGlobals "all_within" = some (some (.ref f9))) (l9 : K.lookup f9 = some ⟨oc9, od9, .func (PySem.W.fnOf "all_within" "all_within" (defArgs s_all_within) (defBody s_all_within) (defScope s_all_within) .none kV9 dc9 pm9 an9 cd9 ct9), sl9⟩) (c9 : PySem.W.codeIn K cd9 "all_within" = true) (k9 : PySem.W.keepIn K (.ref f9) = true)
    (a10 : PySem.W.nsIn K mainGlobals "words" = some (some (.ref f10))) (l10 : K.lookup f10 = some ⟨oc10, od10, .func (PySem.W.fnOf "words" "words" (defArgs s_words) (defBody s_words) (defScope s_words) .none kV10 dc10 pm10 an10 cd10 ct10), sl10⟩) (c10 : PySem.W.codeIn K cd10 "words" = true) (k10 : PySem.W.keepIn K (.ref f10) = true)
    (a11 : PySem.W.nsIn K mainGlobals "lamps_of" = some (some (.ref f11))) (l11 : K.lookup f11 = some ⟨oc11, od11, .func (PySem.W.fnOf "lamps_of" "lamps_of" (defArgs s_lamps_of) (defBody s_lamps_of) (defScope s_lamps_of) .none kV11 dc11 pm11 an11 cd11 ct11), sl11⟩) (c11 : PySem.W.codeIn K cd11 "lamps_of" = true) (k11 : PySem.W.keepIn K (.ref f11) = true)
    (a12 : PySem.W.nsIn K mainGlobals "_law_cell_at" = some (some (.ref f12))) (l12 : K.lookup f12 = some ⟨oc12, od12, .func (PySem.W.fnOf "_law_cell_at" "_law_cell_at" (defArgs s_law_cell_at) (defBody s_law_cell_at) (defScope s_law_cell_at) .none kV12 dc12 pm12 an12 cd12 ct12), sl12⟩) (c12 : PySem.W.codeIn K cd12 "_law_cell_at" = true) (k12 : PySem.W.keepIn K (.ref f12) = true)
    (a13 : PySem.W.nsIn K mainGlobals "_law_stream" = some (some (.ref f13))) (l13 : K.lookup f13 = some ⟨oc13, od13, .func (PySem.W.fnOf "_law_stream" "_law_stream" (defArgs s_law_stream) (defBody s_law_stream) (defScope s_law_stream) .none kV13 dc13 pm13 an13 cd13 ct13), sl13⟩) (c13 : PySem.W.codeIn K cd13 "_law_stream" = true) (k13 : PySem.W.keepIn K (.ref f13) = true)
    (a14 : PySem.W.nsIn K mainGlobals "_law_leaf" = some (some (.ref f14))) (l14 : K.lookup f14 = some ⟨oc14, od14, .func (PySem.W.fnOf "_law_leaf" "_law_leaf" (defArgs s_law_leaf) (defBody s_law_leaf) (defScope s_law_leaf) .none kV14 dc14 pm14 an14 cd14 ct14), sl14⟩) (c14 : PySem.W.codeIn K cd14 "_law_leaf" = true) (k14 : PySem.W.keepIn K (.ref f14) = true)
    (a15 : PySem.W.nsIn K mainGlobals "_law_put" = some (some (.ref f15))) (l15 : K.lookup f15 = some ⟨oc15, od15, .func (PySem.W.fnOf "_law_put" "_law_put" (defArgs s_law_put) (defBody s_law_put) (defScope s_law_put) .none kV15 dc15 pm15 an15 cd15 ct15), sl15⟩) (c15 : PySem.W.codeIn K cd15 "_law_put" = true) (k15 : PySem.W.keepIn K (.ref f15) = true)
    (a16 : PySem.W.nsIn K mainGlobals "_law_built" = some (some (.ref f16))) (l16 : K.lookup f16 = some ⟨oc16, od16, .func (PySem.W.fnOf "_law_built" "_law_built" (defArgs s_law_built) (defBody s_law_built) (defScope s_law_built) .none kV16 dc16 pm16 an16 cd16 ct16), sl16⟩) (c16 : PySem.W.codeIn K cd16 "_law_built" = true) (k16 : PySem.W.keepIn K (.ref f16) = true)
    (a17 : PySem.W.nsIn K mainGlobals "_law_cells" = some (some (.ref f17))) (l17 : K.lookup f17 = some ⟨oc17, od17, .func (PySem.W.fnOf "_law_cells" "_law_cells" (defArgs s_law_cells) (defBody s_law_cells) (defScope s_law_cells) .none kV17 dc17 pm17 an17 cd17 ct17), sl17⟩) (c17 : PySem.W.codeIn K cd17 "_law_cells" = true) (k17 : PySem.W.keepIn K (.ref f17) = true)
    (a18 : PySem.W.nsIn K mainGlobals "_law_one_is_plain" = some (some (.ref f18))) (l18 : K.lookup f18 = some ⟨oc18, od18, .func (PySem.W.fnOf "_law_one_is_plain" "_law_one_is_plain" (defArgs s_law_one_is_plain) (defBody s_law_one_is_plain) (defScope s_law_one_is_plain) .none kV18 dc18 pm18 an18 cd18 ct18), sl18⟩) (c18 : PySem.W.codeIn K cd18 "_law_one_is_plain" = true) (k18 : PySem.W.keepIn K (.ref f18) = true)
    (a19 : PySem.W.nsIn K mainGlobals "_law_count" = some (some (.ref f19))) (l19 : K.lookup f19 = some ⟨oc19, od19, .func (PySem.W.fnOf "_law_count" "_law_count" (defArgs s_law_count) (defBody s_law_count) (defScope s_law_count) .none kV19 dc19 pm19 an19 cd19 ct19), sl19⟩) (c19 : PySem.W.codeIn K cd19 "_law_count" = true) (k19 : PySem.W.keepIn K (.ref f19) = true)
    (a20 : PySem.W.nsIn K mainGlobals "law" = some (some (.ref f20))) (l20 : K.lookup f20 = some ⟨oc20, od20, .func (PySem.W.fnOf "law" "law" (defArgs s_law) (defBody s_law) (defScope s_law) .none kV20 dc20 pm20 an20 cd20 ct20), sl20⟩) (c20 : PySem.W.codeIn K cd20 "law" = true) (k20 : PySem.W.keepIn K (.ref f20) = true)
    (gv0 : PySem.W.nsIn K mainGlobals "YES" = some (some (.ref ga0))) (gl0 : K.lookup ga0 = some ⟨.type "tuple", god0, .seq #[.str "yes" tk0] gn0, gsl0⟩)
    (gv1 : PySem.W.nsIn K mainGlobals "MOST_WORDS" = some (some (.int 24 tk1)))
    (gv2 : PySem.W.nsIn K mainGlobals "PARTS" = some (some (.ref ga2))) (gl2 : K.lookup ga2 = some ⟨.type "dict", none, .dict ges2 gn2, #[]⟩) (gk2 : PySem.W.KeysLit w.params ges2.toList) (ge2 : EntC ges2.toList c_PARTS) (go2 : (ga2 == sysModules) = false)
    (z0 : PySem.W.nsIn K mainGlobals "isinstance" = some none)
    (z1 : PySem.W.nsIn K mainGlobals "len" = some none)
    (z2 : PySem.W.nsIn K mainGlobals "range" = some none)
    (z3 : PySem.W.nsIn K mainGlobals "set" = some none)
    (z4 : PySem.W.nsIn K mainGlobals "sorted" = some none)
    (z5 : PySem.W.nsIn K mainGlobals "str" = some none)
    (z6 : PySem.W.nsIn K mainGlobals "tuple" = some none) :
    ∃ fd : FuncData, (∀ (s : Shared) (v : Value), BindsTo s fd ⟨[v], []⟩ [("_law_script", v)]) ∧ ∀ base : Heap, K.In base → base.Ns mainGlobals mg → FnOk l.prog w K mg base CX0 30 fa fd ["_law_script"] (sp_law K) := by
  have e := hfa.symm.trans (PySem.W.mg_of X G a20)
  cases e
  have T : Txt w K mg := ⟨PySem.W.mg_none_of X G z0, PySem.W.mg_none_of X G z1, PySem.W.mg_none_of X G z2, PySem.W.mg_none_of X G z3, PySem.W.mg_none_of X G z4, PySem.W.mg_none_of X G z5, PySem.W.mg_none_of X G z6, ⟨_, PySem.W.mg_of X G gv0, rel_tup1 gl0 (by decide)⟩, ⟨_, PySem.W.mg_of X G gv1⟩, ⟨_, PySem.W.mg_of X G gv2, go2, _, _, gl2, gk2, ge2⟩⟩
  have F0 := fun_mk (st := s_denied) l0 c0 k0
  have b0 := F0.binds (ps := ["plain"]) fun _ _ _ _ _ _ us hl => match us, hl with | [_], _ => rfl
  have F1 := fun_mk (st := s_plain_with_one) l1 c1 k1
  have b1 := F1.binds (ps := ["word", "inner"]) fun _ _ _ _ _ _ us hl => match us, hl with | [_, _], _ => rfl
  have F2 := fun_mk (st := s_plain_with_two) l2 c2 k2
  have b2 := F2.binds (ps := ["word", "left", "right"]) fun _ _ _ _ _ _ us hl => match us, hl with | [_, _, _], _ => rfl
  have F3 := fun_mk (st := s_plain) l3 c3 k3
  have b3 := F3.binds (ps := ["sentence"]) fun _ _ _ _ _ _ us hl => match us, hl with | [_], _ => rfl
  have F4 := fun_mk (st := s_is_moment) l4 c4 k4
  have b4 := F4.binds (ps := ["thing"]) fun _ _ _ _ _ _ us hl => match us, hl with | [_], _ => rfl
  have F5 := fun_mk (st := s_parts_of) l5 c5 k5
  have b5 := F5.binds (ps := ["sentence"]) fun _ _ _ _ _ _ us hl => match us, hl with | [_], _ => rfl
  have F6 := fun_mk (st := s_is_lamp) l6 c6 k6
  have b6 := F6.binds (ps := ["thing"]) fun _ _ _ _ _ _ us hl => match us, hl with | [_], _ => rfl
  have F7 := fun_mk (st := s_has_form) l7 c7 k7
  have b7 := F7.binds (ps := ["thing"]) fun _ _ _ _ _ _ us hl => match us, hl with | [_], _ => rfl
  have F8 := fun_mk (st := s_is_sentence) l8 c8 k8
  have b8 := F8.binds (ps := ["thing"]) fun _ _ _ _ _ _ us hl => match us, hl with | [_], _ => rfl
  have F9 := fun_mk (st := s_all_within) l9 c9 k9
  have b9 := F9.binds (ps := ["sentence"]) fun _ _ _ _ _ _ us hl => match us, hl with | [_], _ => rfl
  have F10 := fun_mk (st := s_words) l10 c10 k10
  have b10 := F10.binds (ps := ["sentence"]) fun _ _ _ _ _ _ us hl => match us, hl with | [_], _ => rfl
  have F11 := fun_mk (st := s_lamps_of) l11 c11 k11
  have b11 := F11.binds (ps := ["sentence"]) fun _ _ _ _ _ _ us hl => match us, hl with | [_], _ => rfl
  have F12 := fun_mk (st := s_law_cell_at) l12 c12 k12
  have b12 := F12.binds (ps := ["_law_script", "_law_k"]) fun _ _ _ _ _ _ us hl => match us, hl with | [_, _], _ => rfl
  have F13 := fun_mk (st := s_law_stream) l13 c13 k13
  have b13 := F13.binds (ps := ["_law_cell", "_law_many"]) fun _ _ _ _ _ _ us hl => match us, hl with | [_, _], _ => rfl
  have F14 := fun_mk (st := s_law_leaf) l14 c14 k14
  have b14 := F14.binds (ps := ["_law_number", "_law_letters"]) fun _ _ _ _ _ _ us hl => match us, hl with | [_, _], _ => rfl
  have F15 := fun_mk (st := s_law_put) l15 c15 k15
  have b15 := F15.binds (ps := ["_law_stack", "_law_spent", "_law_cell", "_law_room", "_law_letters"]) fun _ _ _ _ _ _ us hl => match us, hl with | [_, _, _, _, _], _ => rfl
  have F16 := fun_mk (st := s_law_built) l16 c16 k16
  have b16 := F16.binds (ps := ["_law_cells_here", "_law_room", "_law_letters"]) fun _ _ _ _ _ _ us hl => match us, hl with | [_, _, _], _ => rfl
  have F17 := fun_mk (st := s_law_cells) l17 c17 k17
  have b17 := F17.binds (ps := ["_law_script"]) fun _ _ _ _ _ _ us hl => match us, hl with | [_], _ => rfl
  have F18 := fun_mk (st := s_law_one_is_plain) l18 c18 k18
  have b18 := F18.binds (ps := ["_law_one"]) fun _ _ _ _ _ _ us hl => match us, hl with | [_], _ => rfl
  have F19 := fun_mk (st := s_law_count) l19 c19 k19
  have b19 := F19.binds (ps := ["_law_told"]) fun _ _ _ _ _ _ us hl => match us, hl with | [_], _ => rfl
  have F20 := fun_mk (st := s_law) l20 c20 k20
  refine ⟨PySem.W.fnOf "law" "law" (defArgs s_law) (defBody s_law) (defScope s_law) .none kV20 dc20 pm20 an20 cd20 ct20, fun s v => .of_eq rfl, fun base _ _ => ?_⟩
  have D_law_leaf : DefOk l.prog w K mg base "_law_leaf" 1 ["_law_number", "_law_letters"] (spM K mm_law_leaf) := def_of F14 (PySem.W.mg_of X G a14) b14 (ok_law_leaf F14 T)
  have D_law_put : DefOk l.prog w K mg base "_law_put" 2 ["_law_stack", "_law_spent", "_law_cell", "_law_room", "_law_letters"] (spW2 K mm_law_put) := def_of F15 (PySem.W.mg_of X G a15) b15 (ok_law_put F15 T D_law_leaf)
  have D_law_built : DefOk l.prog w K mg base "_law_built" 3 ["_law_cells_here", "_law_room", "_law_letters"] (spM K mm_law_built) := def_of F16 (PySem.W.mg_of X G a16) b16 (ok_law_built F16 T D_law_put D_law_leaf)
  have D_denied : DefOk l.prog w K mg base "denied" 1 ["plain"] (spM K mm_denied) := def_of F0 (PySem.W.mg_of X G a0) b0 (ok_denied F0 T)
  have D_plain_with_two : DefOk l.prog w K mg base "plain_with_two" 2 ["word", "left", "right"] (spM K mm_plain_with_two) := def_of F2 (PySem.W.mg_of X G a2) b2 (ok_plain_with_two F2 T D_denied)
  have D_plain_with_one : DefOk l.prog w K mg base "plain_with_one" 2 ["word", "inner"] (spM K mm_plain_with_one) := def_of F1 (PySem.W.mg_of X G a1) b1 (ok_plain_with_one F1 T D_denied)
  have D_plain : ∀ n : Nat, DefOk l.prog w K mg base "plain" (3 + n) ["sentence"] (spM K (mm_plain n)) := fun n => by
    induction n with
    | zero => exact def_of F3 (PySem.W.mg_of X G a3) b3 (ok0_plain F3)
    | succ n ih => exact def_of F3 (PySem.W.mg_of X G a3) b3 (ok_plain F3 T D_plain_with_two D_plain_with_one n ih)
  have D_plain : DefOk l.prog w K mg base "plain" 29 ["sentence"] (spM K (mm_plain 26)) := D_plain 26
  have D_law_one_is_plain : DefOk l.prog w K mg base "_law_one_is_plain" 1 ["_law_one"] (spM K mm_law_one_is_plain) := def_of F18 (PySem.W.mg_of X G a18) b18 (ok_law_one_is_plain F18 T)
  have D_law_count : DefOk l.prog w K mg base "_law_count" 2 ["_law_told"] (spM K mm_law_count) := def_of F19 (PySem.W.mg_of X G a19) b19 (ok_law_count F19 T D_law_one_is_plain)
  have D_law_cell_at : DefOk l.prog w K mg base "_law_cell_at" 1 ["_law_script", "_law_k"] (spM K mm_law_cell_at) := def_of F12 (PySem.W.mg_of X G a12) b12 (ok_law_cell_at F12 T)
  have D_law_stream : DefOk l.prog w K mg base "_law_stream" 1 ["_law_cell", "_law_many"] (spM K mm_law_stream) := def_of F13 (PySem.W.mg_of X G a13) b13 (ok_law_stream F13 T)
  have D_law_cells : DefOk l.prog w K mg base "_law_cells" 2 ["_law_script"] (spM K mm_law_cells) := def_of F17 (PySem.W.mg_of X G a17) b17 (ok_law_cells F17 T D_law_cell_at D_law_stream)
  have D_parts_of : DefOk l.prog w K mg base "parts_of" 1 ["sentence"] (spM K mm_parts_of) := def_of F5 (PySem.W.mg_of X G a5) b5 (ok_parts_of F5 T)
  have D_all_within : DefOk l.prog w K mg base "all_within" 2 ["sentence"] (spM K mm_all_within) := def_of F9 (PySem.W.mg_of X G a9) b9 (ok_all_within F9 T D_parts_of)
  have D_lamps_of : DefOk l.prog w K mg base "lamps_of" 3 ["sentence"] (spM K mm_lamps_of) := def_of F11 (PySem.W.mg_of X G a11) b11 (ok_lamps_of F11 T D_all_within)
  have D_words : DefOk l.prog w K mg base "words" 3 ["sentence"] (spM K mm_words) := def_of F10 (PySem.W.mg_of X G a10) b10 (ok_words F10 T D_all_within)
  have D_is_moment : DefOk l.prog w K mg base "is_moment" 1 ["thing"] (spM K mm_is_moment) := def_of F4 (PySem.W.mg_of X G a4) b4 (ok_is_moment F4 T)
  have D_is_lamp : DefOk l.prog w K mg base "is_lamp" 2 ["thing"] (spM K mm_is_lamp) := def_of F6 (PySem.W.mg_of X G a6) b6 (ok_is_lamp F6 T D_is_moment)
  have D_has_form : DefOk l.prog w K mg base "has_form" 3 ["thing"] (spM K mm_has_form) := def_of F7 (PySem.W.mg_of X G a7) b7 (ok_has_form F7 T D_is_lamp)
  have D_is_sentence : DefOk l.prog w K mg base "is_sentence" 4 ["thing"] (spM K mm_is_sentence) := def_of F8 (PySem.W.mg_of X G a8) b8 (ok_is_sentence F8 T D_parts_of D_has_form)
  exact (ok_law F20 T D_law_built D_plain D_law_count D_law_cells D_lamps_of D_words D_is_sentence D_law_cell_at).imp fun _ _ _ _ h => law_imp h
theorem walk {l : PySem.W.OpenLaw} {q : Program} {loose : List Str} {XP : (Str → Option Value) → Heap → Prop} {YP : World → Heap → Prop} {d : DefRec} {K : Params → PySem.W.Frag} (hn : l.most = some 63) (hdf : d.params.defaults = [])
    (hY : ∀ (w : World) (h : Heap), YP w h → (K w.params).In h)
    (F : ∀ (w : World) (mg : Str → Option Value) (fa : Addr) (h : Heap), (K w.params).In h → h.Ns mainGlobals mg → mg d.name = some (.ref fa) →
      ∃ fd : FuncData, (∀ (s : Shared) (u : Value), BindsTo s fd ⟨[u], []⟩ [("_law_script", u)]) ∧ ∀ base : Heap, (K w.params).In base → base.Ns mainGlobals mg → FnOk l.prog w (K w.params) mg base CX0 30 fa fd ["_law_script"] (sp_law (K w.params))) :
    PySem.W.WalkO q loose XP YP l.row.toRowW d [] (fun f vs => PySem.call f vs) :=
  L2.walk_of (n := 63) (k := 30) (x := "_law_script") (CX := fun _ => CX0) (sp := fun w => sp_law (K w.params)) hn (by decide) hdf ⟨rfl, by decide, by decide⟩ hY F (fun _ _ a ns hl _ hS => ⟨a, ns, rfl, hS, hl, fun _ => rfl⟩) fun _ _ _ _ _ z => z
end My
open PySem PySem.W PyProof.Rows
set_option maxRecDepth 100000 in
set_option maxHeartbeats 0 in
theorem PySem.Challenge.cw_lassoscribe_k15_plain_words_alone_holds : PySem.Challenge.rw_lassoscribe_k15_plain_words_alone.Holds := by
  w_on; o_law; k_head; (case hw => w_witness2)
  k_fill
  refine My.walk (l := PySem.Challenge.rw_lassoscribe_k15_plain_words_alone) rfl rfl (fun w h Y => PySem.W.kIn_of Y) ?F
  case F =>
    intro w mg fa h KX G hmg
    refine' My.all_mk KX G hmg ?a0 ?l0 ?c0 ?k0 ?a1 ?l1 ?c1 ?k1 ?a2 ?l2 ?c2 ?k2 ?a3 ?l3 ?c3 ?k3 ?a4 ?l4 ?c4 ?k4 ?a5 ?l5 ?c5 ?k5 ?a6 ?l6 ?c6 ?k6 ?a7 ?l7 ?c7 ?k7 ?a8 ?l8 ?c8 ?k8 ?a9 ?l9 ?c9 ?k9 ?a10 ?l10 ?c10 ?k10 ?a11 ?l11 ?c11 ?k11 ?a12 ?l12 ?c12 ?k12 ?a13 ?l13 ?c13 ?k13 ?a14 ?l14 ?c14 ?k14 ?a15 ?l15 ?c15 ?k15 ?a16 ?l16 ?c16 ?k16 ?a17 ?l17 ?c17 ?k17 ?a18 ?l18 ?c18 ?k18 ?a19 ?l19 ?c19 ?k19 ?a20 ?l20 ?c20 ?k20 ?gv0 ?gl0 ?gv1 ?gv2 ?gl2 ?gk2 ?ge2 ?go2 ?z0 ?z1 ?z2 ?z3 ?z4 ?z5 ?z6
    (case a0 => k_is)
    (case l0 => k_is)
    (case c0 => k_is)
    (case k0 => k_is)
    (case a1 => k_is)
    (case l1 => k_is)
    (case c1 => k_is)
    (case k1 => k_is)
    (case a2 => k_is)
    (case l2 => k_is)
    (case c2 => k_is)
    (case k2 => k_is)
    (case a3 => k_is)
    (case l3 => k_is)
    (case c3 => k_is)
    (case k3 => k_is)
    (case a4 => k_is)
    (case l4 => k_is)
    (case c4 => k_is)
    (case k4 => k_is)
    (case a5 => k_is)
    (case l5 => k_is)
    (case c5 => k_is)
    (case k5 => k_is)
    (case a6 => k_is)
    (case l6 => k_is)
    (case c6 => k_is)
    (case k6 => k_is)
    (case a7 => k_is)
    (case l7 => k_is)
    (case c7 => k_is)
    (case k7 => k_is)
    (case a8 => k_is)
    (case l8 => k_is)
    (case c8 => k_is)
    (case k8 => k_is)
    (case a9 => k_is)
    (case l9 => k_is)
    (case c9 => k_is)
    (case k9 => k_is)
    (case a10 => k_is)
    (case l10 => k_is)
    (case c10 => k_is)
    (case k10 => k_is)
    (case a11 => k_is)
    (case l11 => k_is)
    (case c11 => k_is)
    (case k11 => k_is)
    (case a12 => k_is)
    (case l12 => k_is)
    (case c12 => k_is)
    (case k12 => k_is)
    (case a13 => k_is)
    (case l13 => k_is)
    (case c13 => k_is)
    (case k13 => k_is)
    (case a14 => k_is)
    (case l14 => k_is)
    (case c14 => k_is)
    (case k14 => k_is)
    (case a15 => k_is)
    (case l15 => k_is)
    (case c15 => k_is)
    (case k15 => k_is)
    (case a16 => k_is)
    (case l16 => k_is)
    (case c16 => k_is)
    (case k16 => k_is)
    (case a17 => k_is)
    (case l17 => k_is)
    (case c17 => k_is)
    (case k17 => k_is)
    (case a18 => k_is)
    (case l18 => k_is)
    (case c18 => k_is)
    (case k18 => k_is)
    (case a19 => k_is)
    (case l19 => k_is)
    (case c19 => k_is)
    (case k19 => k_is)
    (case a20 => k_is)
    (case l20 => k_is)
    (case c20 => k_is)
    (case k20 => k_is)
    (case gv0 => k_is)
    (case gl0 => k_is)
    (case gv1 => k_is)
    (case gv2 => k_is)
    (case gl2 => k_is)
    (case gk2 => k_keys)
    (case ge2 => (repeat (first | exact True.intro | refine And.intro ⟨_, _, rfl, rfl⟩ ?_)))
    (case go2 => decide)
    (case z0 => k_is)
    (case z1 => k_is)
    (case z2 => k_is)
    (case z3 => k_is)
    (case z4 => k_is)
    (case z5 => k_is)
    (case z6 => k_is)

