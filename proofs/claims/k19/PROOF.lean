import PyProof.Rows.All
import Wide.All
import OpenK.AllK
import Wide.FinOn
import Lean
import PyProof.EqAt
import PyProof.EqKinds
import PyProof.TupleCall
import PyProof.NeKinds
import PyProof.EnumFor
import PyProof.EnumMake
import PyProof.Rows.EnumRows
import PyProof.Rows.Range3
import PyProof.NoPylong
import PyProof.ListRange
import PyProof.TupleOfSeq
import PyProof.TupleOfStr
import PyProof.Draws
import PyProof.ZipIter
import PyProof.Rows.ZipGen
import PyProof.Rows.SortStr
import PyProof.Rows.TupAdd
import PyProof.SetRoads
import PyProof.Rows.SetFrom
import PyProof.StrWalks
import PyProof.CollectWalk
import KE.KDictList
import PyProof.Tail
import PyProof.TupleIter
import PyProof.AttrMiss
import KE.KDictOf
import OpenK.KTop
import PyProof.Rows.SortRev
import PyProof.Rows.CallKwBuiltin
import PyProof.Rows.CallKw2
import KE.KRevIter
import PyProof.SumWalkG
import PySem.Challenge.RW_lassoscribe_k19_whole_rows_say_the_same
set_option Elab.async false
set_option linter.all false
set_option maxRecDepth 100000
set_option maxHeartbeats 4000000
theorem bE {α β : Type} {o : Option α} {f : α → Option β} {b : β} {C : Prop} (h : o.bind f = some b) (k : ∀ a, o = some a → f a = some b → C) : C := by
 obtain ⟨a, h1, h2⟩ := Option.bind_eq_some_iff.mp h
 exact k a h1 h2
namespace L2
open PySem PySem.Spec PyProof.Rows
noncomputable abbrev Key := Sum Int Str
noncomputable def E1 : Key → Value → Bool
 | .inl k, v => Value.isInt k v
 | .inr x, v => Value.isStrOf x v
noncomputable def keyH (w : World) : Key → Int
 | .inl k => hashInt k
 | .inr x => hashStr w x
theorem Bb : ∀ {k : Key} {v : Value}, E1 k v = true → (∃ i t, k = Sum.inl i ∧ v = Value.int i t) ∨ (∃ x t, k = Sum.inr x ∧ v = Value.str x t)
 | .inl i, v, h => by
  obtain ⟨t, e⟩ := Value.isInt_shape (k := i) (v := v) h
  exact .inl ⟨i, t, rfl, e⟩
 | .inr x, v, h => by
  obtain ⟨t, e⟩ := Value.isStrOf_shape (x := x) (v := v) h
  exact .inr ⟨x, t, rfl, e⟩
theorem keyIs_int (i : Int) (t : Tok) : E1 (.inl i) (.int i t) = true := by simp [E1, Value.isInt]
theorem keyIs_str (x : Str) (t : Tok) : E1 (.inr x) (.str x t) = true := by simp [E1, Value.isStrOf]
theorem key_ll (a b : Int) : decide ((Sum.inl a : Key) = Sum.inl b) = (a == b) := by
 by_cases e : a = b
 ·subst e; simp
 ·have h : ¬ (Sum.inl a : Key) = Sum.inl b := fun q => e (Sum.inl.inj q)
  rw [decide_eq_false h]
  exact (beq_eq_false_iff_ne.mpr e).symm
theorem key_rr (a b : Str) : decide ((Sum.inr a : Key) = Sum.inr b) = decide (a = b) := by
 by_cases e : a = b
 ·subst e; simp
 ·have h : ¬ (Sum.inr a : Key) = Sum.inr b := fun q => e (Sum.inr.inj q)
  rw [decide_eq_false h, decide_eq_false e]
theorem key_lr (a : Int) (b : Str) : decide ((Sum.inl a : Key) = Sum.inr b) = false := decide_eq_false (fun q => nomatch q)
theorem key_rl (a : Str) (b : Int) : decide ((Sum.inr a : Key) = Sum.inl b) = false := decide_eq_false (fun q => nomatch q)
noncomputable def BY (prog : Program) (w : World) : PySem.KeyKind prog w Key where
 is := E1
 hash := keyH w
 inj := fun v a b ha hb => by
  rcases Bb ha with ⟨i, t, rfl, rfl⟩ | ⟨x, t, rfl, rfl⟩
  ·rcases Bb hb with ⟨j, u, rfl, e⟩ | ⟨y, u, rfl, e⟩
   ·injection e with e1 _; rw [e1]
   ·exact nomatch e
  ·rcases Bb hb with ⟨j, u, rfl, e⟩ | ⟨y, u, rfl, e⟩
   ·exact nomatch e
   ·injection e with e1 _; rw [e1]
 byValue := fun k v h => by
  rcases Bb h with ⟨i, t, rfl, rfl⟩ | ⟨x, t, rfl, rfl⟩ <;> rfl
 pyHash := fun hv h => by
  rcases Bb hv with ⟨i, t, rfl, rfl⟩ | ⟨x, t, rfl, rfl⟩
  ·exact wpAny_pyHash_int h
  ·exact wpAny_pyHash_str h
 eqBool := fun hu hv h => by
  rcases Bb hu with ⟨i, t, rfl, rfl⟩ | ⟨x, t, rfl, rfl⟩
  ·rcases Bb hv with ⟨j, u, rfl, rfl⟩ | ⟨y, u, rfl, rfl⟩
   ·rw [key_ll] at h; exact wpAny_eqBool_int h
   ·rw [key_lr] at h; exact SeqAt.EqAt.int_str i t y u _ _ _ _ h
  ·rcases Bb hv with ⟨j, u, rfl, rfl⟩ | ⟨y, u, rfl, rfl⟩
   ·rw [key_rl] at h; exact SeqAt.EqAt.str_int x t j u _ _ _ _ h
   ·rw [key_rr] at h; exact wpAny_eqBool_str h
 «strs» := fun k x t v h => by
  rcases Bb h with ⟨i, u, rfl, e⟩ | ⟨y, u, rfl, e⟩
  ·exact nomatch e
  ·injection e with e1 _
   subst e1
   cases v <;> rfl
theorem mixKind_int (prog : Program) (w : World) (i : Int) (t : Tok) : (BY prog w).is (.inl i) (.int i t) = true := keyIs_int i t
theorem mixKind_str (prog : Program) (w : World) (x : Str) (t : Tok) : (BY prog w).is (.inr x) (.str x t) = true := keyIs_str x t
inductive V where
 | non | bl (b : Bool) | int (i : Int) | str (x : Str) | byt (b : Array UInt8) | flt (b : UInt64) | ref (a : Addr) | ty (n : String)
 deriving DecidableEq
noncomputable def RelV : V → Value → Prop
 | .non, u => u = Value.none
 | .bl b, u => u = Value.bool b
 | .int i, u => ∃ t, u = Value.int i t
 | .str x, u => ∃ t, u = Value.str x t
 | .byt b, u => ∃ t, u = Value.bytes b t
 | .flt b, u => ∃ t, u = Value.float b t
 | .ref a, u => u = Value.ref a
 | .ty n, u => u = Value.type n
noncomputable abbrev Vals : List V → List Value → Prop := Paired RelV
theorem Vals.length {xs : List V} {us : List Value} (r : Vals xs us) : xs.length = us.length := Paired.length r
theorem Vals.get : ∀ {xs : List V} {us : List Value} {i : Nat} {x : V}, Vals xs us → xs[i]? = some x → ∃ u, us[i]? = some u ∧ RelV x u
 | _, _, _, _, .nil, e => by simp at e
 | _, _, 0, _, .cons r _, e => by simp at e; subst e; exact ⟨_, rfl, r⟩
 | _, _, i + 1, x, .cons _ t, e => by
  obtain ⟨u, h1, h2⟩ := Vals.get (i := i) (x := x) t (by simpa using e)
  exact ⟨u, by simpa using h1, h2⟩
theorem Vals.set {x : V} {u : Value} (r : RelV x u) : ∀ {xs : List V} {us : List Value} (i : Nat), Vals xs us → Vals (xs.set i x) (us.set i u)
 | _, _, _, .nil => .nil
 | _, _, 0, .cons _ t => .cons r t
 | _, _, i + 1, .cons q t => .cons q (Vals.set r i t)
theorem Vals.append : ∀ {xs ys : List V} {us ws : List Value}, Vals xs us → Vals ys ws → Vals (xs ++ ys) (us ++ ws)
 | _, _, _, _, .nil, s => s
 | _, _, _, _, .cons r t, s => .cons r (Vals.append t s)
theorem Vals.take : ∀ {xs : List V} {us : List Value} (n : Nat), Vals xs us → Vals (xs.take n) (us.take n)
 | _, _, 0, _ => .nil
 | _, _, _ + 1, .nil => .nil
 | _, _, n + 1, .cons r t => .cons r (Vals.take n t)
theorem Vals.drop : ∀ {xs : List V} {us : List Value} (n : Nat), Vals xs us → Vals (xs.drop n) (us.drop n)
 | _, _, 0, r => r
 | _, _, _ + 1, .nil => .nil
 | _, _, n + 1, .cons _ t => Vals.drop n t
noncomputable def RelO : Option V → Option Value → Prop
 | some v, some u => RelV v u
 | none, none => True
 | _, _ => False
noncomputable def KV {κ : Type} : List (κ × V) → List (κ × Value) → Prop := Paired fun (p : κ × V) (q : κ × Value) => p.1 = q.1 ∧ RelV p.2 q.2
noncomputable def kV : Key → V
 | .inl i => .int i
 | .inr x => .str x
inductive HO where
 | lst (xs : List V)
 | tup (xs : List V)
 | dK (kvs : List (Key × V)) | dT (kvs : List (List Key × V))
 | set (S : Int → Bool) (n : Nat)
 | ins (C dx : Addr) (fs : List (Str × V))
 | own (x : Addr)
 | xd (fs : List (Str × V))
 | met (f x : Addr)
 | rng (lo hi : Int)
 | frz (o : Obj) (u : HO)
 | tbl (ps : Array Value)
 | ext (φ : Heap → Prop)
noncomputable abbrev Hp := Addr → Option HO
noncomputable def upd (H : Hp) (a : Addr) (o : HO) : Hp := fun b => if b = a then some o else H b
theorem AQ {H : Hp} {a : Addr} {o : HO} : upd H a o a = some o := by unfold upd; rw [if_pos rfl]
theorem Ao {H : Hp} {a b : Addr} {o : HO} (h : b ≠ a) : upd H a o b = H b := by unfold upd; rw [if_neg h]
theorem ne_of {H : Hp} {a b : Addr} {o u : HO} (h : H a = some o) (h' : H b = some u) (d : o ≠ u) : a ≠ b := by
 intro e; subst e; rw [h] at h'; exact d (Option.some.inj h')
theorem CP {H : Hp} {a b : Addr} {o : HO} (h : H a = some o) (h' : H b = none) : a ≠ b := by
 intro e; subst e; rw [h] at h'; cases h'
section
variable (P : Program) (w : World)
noncomputable def ObjOk (H : Hp) (h : Heap) (a : Addr) : HO → Prop
 | .lst xs => xs.length ≤ sizeLine ∧ ∃ (its : List Value) (n : Nat), Vals xs its ∧ h.get? a = some { cls := .type "list", data := .seq its.toArray n }
 | .tup xs => xs.length ≤ sizeLine ∧ ∃ its : List Value, Vals xs its ∧ IsTup h a its.toArray
 | .dK kvs => kvs.length ≤ sizeLine ∧ (a == sysModules) = false ∧ ∃ vs, KV kvs vs ∧ h.DictOf (BY P w) a vs
 | .dT kvs => kvs.length ≤ sizeLine ∧ (a == sysModules) = false ∧ ∃ xs : List (List Key × Addr × Value),
   Paired (fun (p : List Key × V) (q : List Key × Addr × Value) => p.1 = q.1 ∧ H q.2.1 = some (.tup (p.1.map kV)) ∧ RelV p.2 q.2.2) kvs xs ∧
   ∃ o es ep, h.get? a = some o ∧ o.ExactDict ∧ o.data = .dict es ep ∧ es.toList = xs.map (entryOfKey (tupleKind (BY P w))) ∧ (xs.map (·.1)).Nodup
 | .set S n => h.SetOf (intKind P w) a S n
 | .ins C dx fs => H dx = some (.own a) ∧ fs.length ≤ 1000 ∧ dx ≠ a ∧ h.get? a = some (PySem.W.instObj C dx) ∧
   ∃ mA, h.Ns1 dx mA ∧ (∀ f, RelO (fs.lookup f) (mA f)) ∧ PySem.Within mA (fs.map (·.1))
 | .own _ => ∃ o, h.get? a = some o
 | .xd fs => ∃ mA, h.Ns1 a mA ∧ ∀ f, RelO (fs.lookup f) (mA f)
 | .rng lo hi => ∃ t u v, h.get? a = some { cls := .type "range", data := .fields #[.int lo t, .int hi u, .int 1 v] }
 | .frz o u => h.get? a = some o ∧ ObjOk H h a u
 | .tbl ps => h.get? a = some { cls := .none, data := .fields ps }
 | .met f x => h.get? a = some (PySem.W.methodObj (.ref f) (.ref x))
 | .ext φ => φ h ∧ (∃ o, h.get? a = some o) ∧ ∀ h1 h2 : Heap, φ h1 → (∀ o, h1.get? a = some o → h2.get? a = some o) → φ h2
noncomputable def HOk (H : Hp) (h : Heap) : Prop := ∀ a o, H a = some o → ObjOk P w H h a o
end
section
variable {P : Program} {w : World} {H H' : Hp} {h h' : Heap} {a : Addr} {o : HO}
theorem ObjOk.lt (x : ObjOk P w H h a o) : a < h.objs.size := by
 cases o with
 | lst xs => obtain ⟨_, _, _, _, e⟩ := x; exact Heap.lt_size e
 | tup xs => obtain ⟨_, _, _, p⟩ := x; exact p.lt
 | dK kvs => obtain ⟨_, _, _, _, o, _, _, e, _⟩ := x; exact Heap.lt_size e
 | dT kvs => obtain ⟨_, _, _, _, o, _, _, e, _⟩ := x; exact Heap.lt_size e
 | set S n => obtain ⟨o, _, _, _, e, _⟩ := x; exact Heap.lt_size e
 | ins C dx fs => obtain ⟨_, _, _, e, _⟩ := x; exact Heap.lt_size e
 | own y => obtain ⟨_, e⟩ := x; exact Heap.lt_size e
 | xd fs => obtain ⟨_, ⟨_, _, _, e, _⟩, _⟩ := x; exact Heap.lt_size e
 | rng lo hi => obtain ⟨_, _, _, e⟩ := x; exact Heap.lt_size e
 | frz ob u => obtain ⟨e, _⟩ := x; exact Heap.lt_size e
 | tbl ps => exact Heap.lt_size (show h.get? a = some _ from x)
 | met f y => exact Heap.lt_size (show h.get? a = some _ from x)
 | ext φ => obtain ⟨_, ⟨_, e⟩, _⟩ := x; exact Heap.lt_size e
theorem Paired.mapP {α β : Type} {F G : α → β → Prop} : ∀ {l₁ : List α} {l₂ : List β}, Paired F l₁ l₂ → (∀ a b, F a b → G a b) → Paired G l₁ l₂
 | _, _, .nil, _ => .nil
 | _, _, .cons r t, f => .cons (f _ _ r) (Paired.mapP t f)
theorem Paired.imp' {α β : Type} {F G : α → β → Prop} (f : ∀ a b, F a b → G a b) {l₁ : List α} {l₂ : List β} (r : Paired F l₁ l₂) : Paired G l₁ l₂ := Paired.mapP r f
theorem ObjOk.stay (x : ObjOk P w H h a o) (k : ∀ b u, (b = a ∨ H b = some (.own a)) → h.get? b = some u → h'.get? b = some u)
  (ho : ∀ b, H b = some (.own a) → H' b = some (.own a)) (ht : ∀ b xs, H b = some (.tup xs) → H' b = some (.tup xs)) : ObjOk P w H' h' a o := by
 induction o with
 | lst xs => obtain ⟨z, its, n, r, e⟩ := x; exact ⟨z, its, n, r, k _ _ (.inl rfl) e⟩
 | tup xs => obtain ⟨z, its, r, ob, e, c⟩ := x; exact ⟨z, its, r, ob, k _ _ (.inl rfl) e, c⟩
 | dK kvs => obtain ⟨z, y, vs, r, ob, es, ep, e, c⟩ := x; exact ⟨z, y, vs, r, ob, es, ep, k _ _ (.inl rfl) e, c⟩
 | dT kvs =>
  obtain ⟨z, y, xs, r, ob, es, ep, e, c⟩ := x
  exact ⟨z, y, xs, Paired.mapP r fun p q z => ⟨z.1, ht _ _ z.2.1, z.2.2⟩, ob, es, ep, k _ _ (.inl rfl) e, c⟩
 | set S n => obtain ⟨ob, es, ep, t, e, c⟩ := x; exact ⟨ob, es, ep, t, k _ _ (.inl rfl) e, c⟩
 | ins C dx fs =>
  obtain ⟨d, z, ne, e, mA, ⟨od, es, ep, e2, c⟩, r⟩ := x
  exact ⟨ho _ d, z, ne, k _ _ (.inl rfl) e, mA, ⟨od, es, ep, k _ _ (.inr d) e2, c⟩, r⟩
 | own y => obtain ⟨ob, e⟩ := x; exact ⟨ob, k _ _ (.inl rfl) e⟩
 | xd fs => obtain ⟨mA, ⟨od, es, ep, e, c⟩, r⟩ := x; exact ⟨mA, ⟨od, es, ep, k _ _ (.inl rfl) e, c⟩, r⟩
 | rng lo hi => obtain ⟨t, u, v, e⟩ := x; exact ⟨t, u, v, k _ _ (.inl rfl) e⟩
 | frz ob u ih => obtain ⟨e, q⟩ := x; exact ⟨k _ _ (.inl rfl) e, ih q⟩
 | tbl ps =>
  have e : h.get? a = some { cls := .none, data := .fields ps } := x
  show h'.get? a = some { cls := .none, data := .fields ps }
  exact k a _ (.inl rfl) e
 | met f y =>
  have e : h.get? a = some (PySem.W.methodObj (.ref f) (.ref y)) := x
  show h'.get? a = some (PySem.W.methodObj (.ref f) (.ref y))
  exact k a _ (.inl rfl) e
 | ext φ => obtain ⟨p, ⟨o, e⟩, st⟩ := x; exact ⟨st _ _ p fun o q => k _ _ (.inl rfl) q, ⟨o, k _ _ (.inl rfl) e⟩, st⟩
theorem HOk.lt (x : HOk P w H h) (e : H a = some o) : a < h.objs.size := (x a o e).lt
theorem HOk.fresh (x : HOk P w H h) (e : h.objs.size ≤ a) : H a = none := by
 cases q : H a with
 | none => rfl
 | some u => exact absurd (Nat.lt_of_lt_of_le (x.lt q) e) (Nat.lt_irrefl _)
theorem HOk.kept (x : HOk P w H h) (k : ∀ b u, h.get? b = some u → h'.get? b = some u) : HOk P w H h' := fun a o e =>
 (x a o e).stay (fun b u _ q => k b u q) (fun _ q => q) fun _ _ q => q
theorem HOk.laid (x : HOk P w H h) (k : ∀ b u, h.get? b = some u → h'.get? b = some u) (hp : h.objs.size ≤ a) (new : ObjOk P w (upd H a o) h' a o) : HOk P w (upd H a o) h' := fun b u e => by
 have hn := x.fresh hp
 by_cases hb : b = a
 ·subst hb; rw [AQ] at e; cases e; exact new
 ·rw [Ao hb] at e
  exact (x b u e).stay (fun c v _ q => k c v q) (fun c q => by rw [Ao (CP q hn)]; exact q) fun c xs q => by rw [Ao (CP q hn)]; exact q
end
noncomputable def Rd (H : Hp) (a : Addr) (u : HO) : Prop := H a = some u ∨ ∃ o, H a = some (.frz o u)
theorem Rd.of {H : Hp} {a : Addr} {u : HO} (h : H a = some u) : Rd H a u := .inl h
theorem Rd.ok {P : Program} {w : World} {H : Hp} {h : Heap} {a : Addr} {u : HO} (r : Rd H a u) (x : HOk P w H h) : ObjOk P w H h a u := by
 rcases r with r | ⟨o, r⟩
 ·exact x a u r
 ·obtain ⟨_, q⟩ := x a _ r
  exact q
noncomputable def Mut : Option HO → Prop
 | some (.lst _) => True
 | some (.dK _) => True
 | some (.dT _) => True
 | some (.set _ _) => True
 | some (.ins _ _ _) => True
 | some (.ext _) => True
 | _ => False
section
variable {P : Program} {w : World} {H : Hp} {h h' : Heap} {x e : Addr} {o' : HO}
theorem HOk.write (ok : HOk P w H h) (mu : Mut (H x)) (he : e = x ∨ H e = some (.own x)) (k : ∀ b u, b ≠ e → h.get? b = some u → h'.get? b = some u) (heo : ∃ u, h'.get? e = some u)
  (new : ObjOk P w (upd H x o') h' x o') : HOk P w (upd H x o') h' := fun b u q => by
 have nown : ∀ c y, H c = some (.own y) → c ≠ x := fun c y r z => by subst z; rw [r] at mu; exact mu
 have ntup : ∀ c xs, H c = some (.tup xs) → c ≠ x := fun c xs r z => by subst z; rw [r] at mu; exact mu
 by_cases hb : b = x
 ·subst hb; rw [AQ] at q; cases q; exact new
 ·rw [Ao hb] at q
  by_cases hbe : b = e
  ·have q' : H b = some (.own x) := by
    rcases he with z | z
    ·exact absurd (hbe.trans z) hb
    ·rw [hbe]; exact z
   rw [q] at q'; cases q'
   obtain ⟨v, hv⟩ := heo
   exact ⟨v, by rw [hbe]; exact hv⟩
  ·refine (ok b u q).stay (fun c v hc r => k c v ?_ r) (fun c r => by rw [Ao (nown c b r)]; exact r) fun c xs r => by rw [Ao (ntup c xs r)]; exact r
   rcases hc with rfl | hc
   ·exact hbe
   ·rintro rfl
    rcases he with z | z
    ·exact nown c b hc z
    ·rw [hc] at z; cases z; exact hb rfl
end
structure Un (fs ex : List Addr) (H H' : Hp) (h h' : Heap) : Prop where
 keep : ∀ b o, h.get? b = some o → H b = none → b ∉ fs → b ∉ ex → h'.get? b = some o
 slot : ∀ b o, h.get? b = some o → H b = none → b ∈ fs → b ∉ ex → ∃ sl, h'.get? b = some { o with slots := sl }
 free : ∀ b o, h.get? b = some o → H b = none → b ∉ ex → H' b = none
 there : ∀ b o, h.get? b = some o → b ∉ ex → ∃ o', h'.get? b = some o'
 tups : ∀ b xs, H b = some (.tup xs) → H' b = some (.tup xs)
 frzs : ∀ b o u, H b = some (.frz o u) → H' b = some (.frz o u)
 tbls : ∀ b ps, H b = some (.tbl ps) → ∃ more, H' b = some (.tbl (ps ++ more))
section
variable {fs fs' ex ex' : List Addr} {H H1 H2 : Hp} {h h1 h2 h' : Heap} {a x e : Addr} {o : HO}
theorem Un.any (u : Un fs ex H H1 h h1) {b : Addr} {ob : Obj} (q : h.get? b = some ob) (n : H b = none) (hx : b ∉ ex) : ∃ sl, h1.get? b = some { ob with slots := sl } := by
 by_cases hb : b ∈ fs
 ·exact u.slot b ob q n hb hx
 ·exact ⟨ob.slots, u.keep b ob q n hb hx⟩
theorem Un.trans (a : Un fs ex H H1 h h1) (b : Un fs ex H1 H2 h1 h2) : Un fs ex H H2 h h2 where
 keep := fun c ob q n hc hx => b.keep c ob (a.keep c ob q n hc hx) (a.free c ob q n hx) hc hx
 slot := fun c ob q n hc hx => by
  obtain ⟨sl, e1⟩ := a.slot c ob q n hc hx
  obtain ⟨sl', e2⟩ := b.slot c _ e1 (a.free c ob q n hx) hc hx
  exact ⟨sl', e2⟩
 free := fun c ob q n hx => by
  obtain ⟨o', e1⟩ := a.there c ob q hx
  exact b.free c o' e1 (a.free c ob q n hx) hx
 there := fun c ob q hx => by
  obtain ⟨o', e1⟩ := a.there c ob q hx
  exact b.there c o' e1 hx
 tups := fun c xs q => b.tups c xs (a.tups c xs q)
 frzs := fun c ob xs q => b.frzs c ob xs (a.frzs c ob xs q)
 tbls := fun c ps q => by
  obtain ⟨m1, e1⟩ := a.tbls c ps q
  obtain ⟨m2, e2⟩ := b.tbls c _ e1
  exact ⟨m1 ++ m2, by rw [e2, Array.append_assoc]⟩
theorem Un.kept (k : ∀ b u, h.get? b = some u → h'.get? b = some u) : Un fs ex H H h h' :=
 ⟨fun b ob q _ _ _ => k b ob q, fun b ob q _ _ _ => ⟨ob.slots, k b ob q⟩, fun _ _ _ n _ => n, fun b ob q _ => ⟨ob, k b ob q⟩, fun _ _ q => q, fun _ _ _ q => q, fun _ ps q => ⟨#[], by rw [q]; simp⟩⟩
theorem Un.refl : Un fs ex H H h h := Un.kept fun _ _ q => q
theorem Un.laid (k : ∀ b u, h.get? b = some u → h'.get? b = some u) (hp : h.objs.size ≤ a) (hn : H a = none) : Un fs ex H (upd H a o) h h' where
 keep := fun b u q _ _ _ => k b u q
 slot := fun b u q _ _ _ => ⟨u.slots, k b u q⟩
 free := fun b u q n _ => by rw [Ao (Nat.ne_of_lt (Nat.lt_of_lt_of_le (Heap.lt_size q) hp))]; exact n
 there := fun b u q _ => ⟨u, k b u q⟩
 tups := fun b xs q => by rw [Ao (CP q hn)]; exact q
 frzs := fun b u xs q => by rw [Ao (CP q hn)]; exact q
 tbls := fun b ps q => ⟨#[], by rw [Ao (CP q hn), q]; simp⟩
theorem Un.write (mu : Mut (H x)) (he : e = x ∨ H e = some (.own x)) (k : ∀ b u, b ≠ e → h.get? b = some u → h'.get? b = some u) (heo : ∃ u, h'.get? e = some u) : Un fs ex H (upd H x o) h h' := by
 have hx : ∀ b, H b = none → b ≠ x := fun b n z => by subst z; rw [n] at mu; exact mu
 have hb : ∀ b, H b = none → b ≠ e := fun b n z => by
  subst z
  rcases he with r | r
  ·exact hx b n r
  ·rw [n] at r; cases r
 have hm : ∀ b u, H b = some u → ¬ Mut (some u) → b ≠ x := fun b u q nm z => by subst z; rw [q] at mu; exact nm mu
 refine ⟨fun b u q n _ _ => k b u (hb b n) q, fun b u q n _ _ => ⟨u.slots, k b u (hb b n) q⟩, fun b u q n _ => by rw [Ao (hx b n)]; exact n, fun b u q _ => ?_,
  fun b xs q => by rw [Ao (hm b _ q fun z => z)]; exact q, fun b u xs q => by rw [Ao (hm b _ q fun z => z)]; exact q, fun b ps q => ⟨#[], by rw [Ao (hm b _ q fun z => z), q]; simp⟩⟩
 by_cases hbe : b = e
 ·subst hbe; exact heo
 ·exact ⟨u, k b u hbe q⟩
theorem Un.mono (u : Un fs ex H H1 h h1) (hs : ∀ b ∈ fs, b ∈ fs') (hx : ∀ b ∈ ex, b ∈ ex') : Un fs' ex' H H1 h h1 :=
 ⟨fun b ob q n hb he => u.keep b ob q n (fun z => hb (hs b z)) fun z => he (hx b z), fun _ _ q n _ he => u.any q n fun z => he (hx _ z), fun b ob q n he => u.free b ob q n fun z => he (hx b z), fun b ob q he => u.there b ob q fun z => he (hx b z), u.tups, u.frzs, u.tbls⟩
end
noncomputable def trk (h : Heap) (H : Hp) : List Addr := (List.range h.objs.size).filter fun a => (H a).isSome
noncomputable def hidT (h : Heap) (H : Hp) : Heap := PySem.W.hideAll h (trk h H)
theorem hidT_size (h : Heap) (H : Hp) : (hidT h H).objs.size = h.objs.size := PySem.W.hideAll_size _ _
theorem hidT_get {h : Heap} {H : Hp} {b : Addr} {o : Obj} (e : h.get? b = some o) (n : H b = none) : (hidT h H).get? b = some o :=
 PySem.W.hideAll_get _ e fun hm => by
  have q : (H b).isSome = true := (List.mem_filter.mp hm).2
  rw [n] at q; simp at q
theorem of_hidT {h : Heap} {H : Hp} {b : Addr} {o : Obj} (e : (hidT h H).get? b = some o) : h.get? b = some o ∧ H b = none := by
 have e' : h.get? b = some o := PySem.W.of_hideAll (trk h H) e
 refine ⟨e', ?_⟩
 cases q : H b with
 | none => rfl
 | some x =>
  have hm : b ∈ trk h H := List.mem_filter.mpr ⟨List.mem_range.mpr (Heap.lt_size e'), by simp [q]⟩
  have z : (hidT h H).get? b = none := PySem.W.hideAll_none (trk h H) hm
  rw [z] at e; cases e
noncomputable def allNews (g h : Heap) (L : Addr) : List (Addr × Obj) := (List.range h.objs.size).filterMap fun a => if a = L ∨ (g.get? a).isSome = true then none else (h.get? a).map fun o => (a, o)
noncomputable def rest (g h : Heap) (L d : Addr) : List (Addr × Obj) := (allNews g h L).filter fun p => decide (p.1 ≠ d)
structure Mod (K : PySem.W.Frag) (mg : Str → Option Value) (base : Heap) : Prop where
 kin : K.In base
 glob : base.Ns mainGlobals mg
 blt : ∃ mb, base.Ns builtinsNs mb ∧ ∀ x : Str, x ≠ "__name__" → mb x = bootBuiltins x
 nolimit : base.NoLimit
structure Cx where
 prog : Program
 w : World
 K : PySem.W.Frag
 mg : Str → Option Value
 base : Heap
 A : Around
 N : List Str
 s₀ : Shared
 H₀ : Hp
 env : Env
 outer : List Env
 stack : List Env
 ex : List Addr
 fn : Str → Bool
 calm : Bool
 pn : List (Addr × Obj)
 xe : Value → Shared → Prop
noncomputable def frs (l : List Env) : List Addr := l.filterMap (·.frame)
noncomputable abbrev Cx.fs (X : Cx) : List Addr := frs X.outer
noncomputable def Vis (sc : Scope) (x : Str) : Prop := sc.names.lookup x = some .local ∨ sc.names.lookup x = some .cell ∨ sc.names.lookup x = some .free
noncomputable def Loc (sc : Scope) (x : Str) : Prop := sc.names.lookup x = some .local ∨ sc.names.lookup x = some .cell
noncomputable def Look (env : Env) (h : Heap) (m : Str → Option Value) (x : Str) (u : Value) : Prop :=
 (env.kindOf x = some .local ∧ m x = some u) ∨ ((env.kindOf x = some .cell ∨ env.kindOf x = some .free) ∧ ∃ c, env.cells.lookup x = some c ∧ h.IsCell c (some u))
structure Cx.Ok (X : Cx) : Prop where
 mod : Mod X.K X.mg X.base
 kind : X.env.scope.kind = .function
 glob : X.env.globals = mainGlobals
 blt : X.env.builtins = builtinsNs
 above : X.s₀.heap.objs.size ≤ X.env.locals
 inj : ∀ x y c, X.env.cells.lookup x = some c → X.env.cells.lookup y = some c → x = y
 has : ∀ x, (X.env.kindOf x = some .cell ∨ X.env.kindOf x = some .free) → ∃ c, X.env.cells.lookup x = some c
 cab : ∀ x c, X.fn x = true → X.env.cells.lookup x = some c → X.s₀.heap.objs.size ≤ c
 hd : X.calm = true → X.A.handled = none
 frames : X.A.frames = some X.stack
 stk : X.stack = X.outer ∨ (X.stack = X.env :: X.outer ∧ X.env.frame = some X.env.locals)
 exf : ∀ b ∈ X.ex, b ≠ X.env.locals ∧ ∀ x c, X.env.cells.lookup x = some c → c ≠ b
 bs : ∀ b o, X.base.get? b = some o → X.s₀.heap.get? b = some o ∧ X.H₀ b = none
 bsz : X.base.objs.size ≤ X.s₀.heap.objs.size
 noex : ∀ b o, X.base.get? b = some o → b ∉ X.ex
 exfs : ∀ b ∈ X.ex, b ∉ X.fs
 funs : X.s₀.heap.FunFrames X.base X.outer
 frf : ∀ b ∈ X.fs, X.H₀ b = none
structure Inv (X : Cx) (pins : List (Addr × Obj)) (σ : List (Option V)) (H : Hp) (s : Shared) : Prop where
 ok : X.Ok
 os : s.os = X.s₀.os
 bare : AllBare s.gens
 base : Un X.fs X.ex X.H₀ H X.s₀.heap s.heap
 loc : ∃ m, s.heap.Ns X.env.locals m ∧ ∀ (i : Nat) (x : Str) (v : V), X.N[i]? = some x → σ[i]? = some (some v) → Vis X.env.scope x → ∃ u, RelV v u ∧ Look X.env s.heap m x u
 cell : ∀ x c, X.env.cells.lookup x = some c → ∃ v, s.heap.IsCell c v
 free : H X.env.locals = none
 freeC : ∀ x c, X.env.cells.lookup x = some c → H c = none
 pin : ∀ p ∈ X.pn ++ pins, s.heap.get? p.1 = some p.2 ∧ H p.1 = none ∧ p.1 ≠ X.env.locals ∧ p.1 ∉ X.fs ∧ ∀ v, p.2.data ≠ .cell v
 hok : HOk X.prog X.w H s.heap
 len : σ.length = X.N.length
section
variable {X : Cx} {pins : List (Addr × Obj)} {σ : List (Option V)} {H H' : Hp} {s : Shared} {h' : Heap}
theorem Cx.Ok.nofr (ok : X.Ok) {b : Addr} {o : Obj} (e : X.base.get? b = some o) : b ∉ X.fs := fun hb => by
 have := (ok.funs.mem hb).1
 rw [e] at this; cases this
theorem Inv.bs (I : Inv X pins σ H s) : ∀ b o, X.base.get? b = some o → s.heap.get? b = some o ∧ H b = none := fun b o e =>
 ⟨I.base.keep b o (I.ok.bs b o e).1 (I.ok.bs b o e).2 (I.ok.nofr e) (I.ok.noex b o e), I.base.free b o (I.ok.bs b o e).1 (I.ok.bs b o e).2 (I.ok.noex b o e)⟩
theorem Inv.bk (I : Inv X pins σ H s) : ∀ b o, X.base.get? b = some o → s.heap.get? b = some o := fun b o e => (I.bs b o e).1
theorem Inv.mod (I : Inv X pins σ H s) : Mod X.K X.mg X.base := I.ok.mod
theorem Inv.kIn (I : Inv X pins σ H s) : X.K.In s.heap := I.ok.mod.kin.keeps I.bk
theorem Inv.nolimit (I : Inv X pins σ H s) : s.heap.NoLimit := I.ok.mod.nolimit.keeps I.bk
theorem Inv.lt (I : Inv X pins σ H s) : X.env.locals < s.heap.objs.size := let ⟨_, hn, _⟩ := I.loc; hn.lt
theorem Inv.sz (I : Inv X pins σ H s) : X.s₀.heap.objs.size ≤ s.heap.objs.size := Nat.le_trans I.ok.above (Nat.le_of_lt I.lt)
theorem Inv.nofs (I : Inv X pins σ H s) {a : Addr} (h : s.heap.objs.size ≤ a) : a ∉ X.fs := fun hb => by
 obtain ⟨_, o, ho, _⟩ := I.ok.funs.mem hb
 exact absurd (Nat.lt_of_lt_of_le (Heap.lt_size ho) (Nat.le_trans I.sz h)) (Nat.lt_irrefl _)
theorem Inv.cne (I : Inv X pins σ H s) : ∀ x c, X.env.cells.lookup x = some c → c ≠ X.env.locals := fun x c e z => by
 obtain ⟨v, o, ho, hd⟩ := I.cell x c e
 obtain ⟨m, ⟨o', es, ep, ho', hd', _⟩, _⟩ := I.loc
 rw [z, ho'] at ho; cases ho; rw [hd'] at hd; cases hd
theorem Inv.funs (I : Inv X pins σ H s) : s.heap.FunFrames X.base X.outer := by
 have all : ∀ (l : List Env), (∀ b ∈ frs l, b ∈ X.fs) → X.s₀.heap.FunFrames X.base l → s.heap.FunFrames X.base l := by
  intro l
  induction l with
  | nil => intro _ _; trivial
  | cons env r ih =>
   intro hs hl
   obtain ⟨hk, ⟨L, o, hf, hn, ho, hd⟩, hr⟩ := hl
   have hL : L ∈ X.fs := hs L (by unfold frs; rw [List.filterMap_cons, hf]; exact List.mem_cons_self)
   obtain ⟨sl, e⟩ := I.base.slot L o ho (I.ok.frf L hL) hL fun z => I.ok.exfs L z hL
   exact ⟨hk, ⟨L, _, hf, hn, e, hd⟩, ih (fun b hb => hs b (by unfold frs; rw [List.filterMap_cons, hf]; exact List.mem_cons_of_mem _ hb)) hr⟩
 exact all X.outer (fun _ hb => hb) I.ok.funs
theorem Inv.stack (I : Inv X pins σ H s) : s.heap.FunFrames X.base X.stack := by
 rcases I.ok.stk with e | ⟨e, hf⟩
 ·rw [e]; exact I.funs
 ·rw [e]
  obtain ⟨m, hn, _⟩ := I.loc
  refine .cons (by rw [I.ok.kind]; decide) hf hn ?_ I.funs
  exact Heap.get?_none_of_le (Nat.le_trans I.ok.bsz I.ok.above)
theorem Inv.stkSub (I : Inv X pins σ H s) : ∀ b ∈ frs X.stack, b ∈ X.env.locals :: X.fs := fun b hb => by
 rcases I.ok.stk with e | ⟨e, hf⟩
 ·rw [e] at hb; exact List.mem_cons_of_mem _ hb
 ·rw [e] at hb
  unfold frs at hb
  rw [List.filterMap_cons, hf] at hb
  exact hb
theorem Inv.stkFree (I : Inv X pins σ H s) : ∀ b ∈ frs X.stack, H b = none := fun b hb => by
 rcases List.mem_cons.mp (I.stkSub b hb) with e | hb
 ·rw [e]; exact I.free
 ·obtain ⟨_, o, ho, _⟩ := I.ok.funs.mem hb
  exact I.base.free b o ho (I.ok.frf b hb) fun z => I.ok.exfs b z hb
theorem Inv.step {g' : Array GenState} {t' : Nat} {d' : Drawn} {ch : List Addr} (I : Inv X pins σ H s)
  (hch : ∀ b ∈ ch, (b ∈ X.ex ∨ X.s₀.heap.objs.size ≤ b) ∧ b ≠ X.env.locals ∧ (∀ x c, X.env.cells.lookup x = some c → c ≠ b) ∧ ∀ p ∈ X.pn ++ pins, p.1 ≠ b)
  (keep : ∀ b o, b ≠ X.env.locals → b ∉ X.fs → b ∉ ch → s.heap.get? b = some o → H b = none → h'.get? b = some o)
  (slot : ∀ b o, b ≠ X.env.locals → b ∈ X.fs → b ∉ ch → s.heap.get? b = some o → H b = none → ∃ sl, h'.get? b = some { o with slots := sl }) (free : ∀ b o, b ∉ ch → s.heap.get? b = some o → H b = none → H' b = none)
  (there : ∀ b o, b ∉ ch → s.heap.get? b = some o → ∃ o', h'.get? b = some o')
  (tups : ∀ b xs, H b = some (.tup xs) → H' b = some (.tup xs)) (frzs : ∀ b o u, H b = some (.frz o u) → H' b = some (.frz o u)) (tbls : ∀ b ps, H b = some (.tbl ps) → ∃ more, H' b = some (.tbl (ps ++ more)))
  (ns : ∀ m, s.heap.Ns X.env.locals m → h'.Ns X.env.locals m) (hok : HOk X.prog X.w H' h') (hg : AllBare g') :
  Inv X pins σ H' { s with heap := h', gens := g', drawn := d', toks := t' } := by
 have neL : ∀ b o, X.s₀.heap.get? b = some o → b ≠ X.env.locals := fun b o e => Nat.ne_of_lt (Nat.lt_of_lt_of_le (Heap.lt_size e) I.ok.above)
 have neC : ∀ b o, X.s₀.heap.get? b = some o → b ∉ X.ex → b ∉ ch := fun b o e hx hb => by
  rcases (hch b hb).1 with z | z
  ·exact hx z
  ·exact absurd (Nat.lt_of_lt_of_le (Heap.lt_size e) z) (Nat.lt_irrefl _)
 have cellK : ∀ x c, X.env.cells.lookup x = some c → ∀ v, s.heap.IsCell c v → h'.IsCell c v := fun x c e v ⟨o, ho, hd⟩ => by
  have nch : c ∉ ch := fun z => (hch c z).2.2.1 x c e rfl
  by_cases hc : c ∈ X.fs
  ·obtain ⟨sl, q⟩ := slot c o (I.cne x c e) hc nch ho (I.freeC x c e)
   exact ⟨_, q, hd⟩
  ·exact ⟨o, keep c o (I.cne x c e) hc nch ho (I.freeC x c e), hd⟩
 refine ⟨I.ok, I.os, hg, ⟨fun b o e n hb hx => ?_, fun b o e n hb hx => ?_, fun b o e n hx => ?_, fun b o e hx => ?_, fun b xs e => tups b xs (I.base.tups b xs e), fun b o xs e => frzs b o xs (I.base.frzs b o xs e), fun b ps e => ?_⟩, ?_, fun x c e => ?_, ?_, fun x c e => ?_, fun p hp => ?_, hok, I.len⟩
 ·exact keep b o (neL b o e) hb (neC b o e hx) (I.base.keep b o e n hb hx) (I.base.free b o e n hx)
 ·obtain ⟨sl, e1⟩ := I.base.slot b o e n hb hx
  obtain ⟨sl', e2⟩ := slot b _ (neL b o e) hb (neC b o e hx) e1 (I.base.free b o e n hx)
  exact ⟨sl', e2⟩
 ·obtain ⟨o', e1⟩ := I.base.there b o e hx
  exact free b o' (neC b o e hx) e1 (I.base.free b o e n hx)
 ·obtain ⟨o', e1⟩ := I.base.there b o e hx
  exact there b o' (neC b o e hx) e1
 ·obtain ⟨m1, e1⟩ := I.base.tbls b ps e
  obtain ⟨m2, e2⟩ := tbls b _ e1
  exact ⟨m1 ++ m2, by rw [e2, Array.append_assoc]⟩
 ·obtain ⟨m, hn, hl⟩ := I.loc
  refine ⟨m, ns m hn, fun i x v e1 e2 e3 => ?_⟩
  obtain ⟨u, r, l⟩ := hl i x v e1 e2 e3
  refine ⟨u, r, ?_⟩
  rcases l with l | ⟨k, c, e, z⟩
  ·exact .inl l
  ·exact .inr ⟨k, c, e, cellK x c e _ z⟩
 ·obtain ⟨v, z⟩ := I.cell x c e
  exact ⟨v, cellK x c e v z⟩
 ·obtain ⟨m, ⟨o, _, _, ho, _⟩, _⟩ := I.loc
  exact free _ o (fun z => (hch _ z).2.1 rfl) ho I.free
 ·obtain ⟨v, o, ho, hd⟩ := I.cell x c e
  exact free c o (fun z => (hch c z).2.2.1 x c e rfl) ho (I.freeC x c e)
 ·obtain ⟨e, n, ne, nf, d⟩ := I.pin p hp
  have nch : p.1 ∉ ch := fun z => (hch p.1 z).2.2.2 p hp rfl
  exact ⟨keep p.1 p.2 ne nf nch e n, free p.1 p.2 nch e n, ne, nf, d⟩
theorem Inv.un {t' : Nat} (I : Inv X pins σ H s) (u : Un X.fs [] H H' s.heap h') (hok : HOk X.prog X.w H' h') : Inv X pins σ H' { s with heap := h', toks := t' } := by
 obtain ⟨m, ⟨o, es, ep, ho, r⟩, _⟩ := id I.loc
 obtain ⟨sl, hL⟩ := u.any ho I.free (by simp)
 exact I.step (g' := s.gens) (d' := s.drawn) (ch := []) (fun _ z => nomatch z) (fun b o _ hb _ e n => u.keep b o e n hb (by simp)) (fun b o _ hb _ e n => u.slot b o e n hb (by simp)) (fun b o _ e n => u.free b o e n (by simp)) (fun b o _ e => u.there b o e (by simp)) u.tups u.frzs u.tbls (fun m' hm => by
  obtain ⟨o', es', ep', ho', r'⟩ := hm
  rw [ho] at ho'; cases ho'
  exact ⟨_, es', ep', hL, r'⟩) hok I.bare
theorem Inv.call {g' : Array GenState} {t' : Nat} {d' : Drawn} {ch : List Addr} (I : Inv X pins σ H s) (u : Un (frs X.stack) ch H H' s.heap h') (hok : HOk X.prog X.w H' h') (hg : AllBare g')
  (hch : ∀ b ∈ ch, (b ∈ X.ex ∨ X.s₀.heap.objs.size ≤ b) ∧ b ≠ X.env.locals ∧ (∀ x c, X.env.cells.lookup x = some c → c ≠ b) ∧ ∀ p ∈ X.pn ++ pins, p.1 ≠ b) :
  Inv X pins σ H' { s with heap := h', gens := g', drawn := d', toks := t' } := by
 obtain ⟨m, ⟨o, es, ep, ho, r⟩, _⟩ := id I.loc
 obtain ⟨sl, hL⟩ := u.any ho I.free fun z => (hch _ z).2.1 rfl
 exact I.step (ch := ch) hch (fun b o hL hb hc e n => u.keep b o e n (fun z => (List.mem_cons.mp (I.stkSub b z)).elim hL hb) hc) (fun b o _ _ hc e n => u.any e n hc) (fun b o hc e n => u.free b o e n hc) (fun b o hc e => u.there b o e hc) u.tups u.frzs u.tbls (fun m' hm => by
  obtain ⟨o', es', ep', ho', r'⟩ := hm
  rw [ho] at ho'; cases ho'
  exact ⟨_, es', ep', hL, r'⟩) hok hg
theorem Inv.turned {t' : Nat} {it : Addr} (I : Inv X pins σ H s) (k : ∀ b o, b ≠ it → s.heap.get? b = some o → h'.get? b = some o) (hn : H it = none) (hL : it ≠ X.env.locals)
  (h1 : it ∈ X.ex ∨ X.s₀.heap.objs.size ≤ it) (h2 : ∀ x c, X.env.cells.lookup x = some c → c ≠ it) (h3 : ∀ p ∈ X.pn ++ pins, p.1 ≠ it) : Inv X pins σ H { s with heap := h', toks := t' } := by
 have nit : ∀ b u, H b = some u → b ≠ it := fun b u e z => by rw [z, hn] at e; cases e
 refine I.step (g' := s.gens) (d' := s.drawn) (ch := [it]) (fun b hb => ?_) (fun b o _ _ hc e _ => k b o (fun z => hc (by simp [z])) e) (fun b o _ _ hc e _ => ⟨o.slots, k b o (fun z => hc (by simp [z])) e⟩) (fun _ _ _ _ n => n)
  (fun b o hc e => ⟨o, k b o (fun z => hc (by simp [z])) e⟩) (fun _ _ e => e) (fun _ _ _ e => e) (fun b ps e => ⟨#[], by rw [e]; simp⟩) (fun m hm => ?_) (fun b u e => ?_) I.bare
 ·have e : b = it := by simpa using hb
  subst e
  exact ⟨h1, hL, h2, h3⟩
 ·obtain ⟨o, es, ep, ho, r⟩ := hm
  exact ⟨o, es, ep, k _ o (Ne.symm hL) ho, r⟩
 ·refine (I.hok b u e).stay (fun c v hc q => k c v ?_ q) (fun _ q => q) fun _ _ q => q
  rcases hc with z | z
  ·rw [z]; exact nit b u e
  ·exact nit c _ z
theorem Inv.tok (I : Inv X pins σ H s) (t : Nat) : Inv X pins σ H { s with toks := t } := I.un (h' := s.heap) (t' := t) Un.refl I.hok
theorem Inv.kept {t' : Nat} (I : Inv X pins σ H s) (k : ∀ b u, s.heap.get? b = some u → h'.get? b = some u) : Inv X pins σ H { s with heap := h', toks := t' } := I.un (Un.kept k) (I.hok.kept k)
theorem Inv.laid {a : Addr} {o : HO} {t' : Nat} (I : Inv X pins σ H s) (k : ∀ b u, s.heap.get? b = some u → h'.get? b = some u) (hp : s.heap.objs.size ≤ a) (new : ObjOk X.prog X.w (upd H a o) h' a o) :
  Inv X pins σ (upd H a o) { s with heap := h', toks := t' } := I.un (Un.laid k hp (I.hok.fresh hp)) (I.hok.laid k hp new)
theorem Inv.write {x e : Addr} {o : HO} {t' : Nat} (I : Inv X pins σ H s) (mu : Mut (H x)) (he : e = x ∨ H e = some (.own x)) (k : ∀ b u, b ≠ e → s.heap.get? b = some u → h'.get? b = some u) (heo : ∃ u, h'.get? e = some u)
  (new : ObjOk X.prog X.w (upd H x o) h' x o) : Inv X pins σ (upd H x o) { s with heap := h', toks := t' } := I.un (Un.write mu he k heo) (I.hok.write mu he k heo new)
theorem Inv.weak {σ' : List (Option V)} (I : Inv X pins σ H s) (hl : σ'.length = σ.length) (w : ∀ (i : Nat) v, σ'[i]? = some (some v) → σ[i]? = some (some v)) : Inv X pins σ' H s :=
 ⟨I.ok, I.os, I.bare, I.base, let ⟨m, hn, hl'⟩ := I.loc; ⟨m, hn, fun i x v e1 e2 e3 => hl' i x v e1 (w i v e2) e3⟩, I.cell, I.free, I.freeC, I.pin, I.hok, hl.trans I.len⟩
theorem Inv.pins_of {pins' : List (Addr × Obj)} (I : Inv X pins σ H s) (h : ∀ p ∈ pins', s.heap.get? p.1 = some p.2 ∧ H p.1 = none ∧ p.1 ≠ X.env.locals ∧ p.1 ∉ X.fs ∧ ∀ v, p.2.data ≠ .cell v) : Inv X pins' σ H s :=
 ⟨I.ok, I.os, I.bare, I.base, I.loc, I.cell, I.free, I.freeC, fun p hp => (List.mem_append.mp hp).elim (fun z => I.pin p (List.mem_append_left _ z)) (h p), I.hok, I.len⟩
theorem nodup_ix {N : List Str} (hN : N.Nodup) {i j : Nat} {x : Str} (a : N[i]? = some x) (b : N[j]? = some x) : i = j := by
 obtain ⟨h1, e1⟩ := List.getElem?_eq_some_iff.mp a
 obtain ⟨h2, e2⟩ := List.getElem?_eq_some_iff.mp b
 exact (List.getElem_inj hN).mp (e1.trans e2.symm)
theorem store_ok2 {M : Model} {A : Around} {E : Value → Shared → Prop} {i : Nat} {x : Str} {v : V} {u : Value} {Q : Unit → Shared → Prop} (I : Inv X pins σ H s) (hN : X.N.Nodup) (hi : X.N[i]? = some x) (hx : Loc X.env.scope x) (r : RelV v u)
  (h : ∀ s', Inv X pins (σ.set i (some v)) H s' → (∃ a, Heap.SameBut a s.heap s'.heap ∧ (a = X.env.locals ∨ X.env.cells.lookup x = some a)) → Q () s') (hf : X.fn x = true ∨ X.env.scope.names.lookup x = some .local := by first | exact .inl rfl | exact .inr rfl | assumption) : wpAny M A (storeName X.env x u) Q E s := by
 obtain ⟨m, hn, hl⟩ := id I.loc
 have hcls : (X.env.scope.kind == .class || (X.env.scope.kind == .module && X.env.locals != X.env.globals)) = false := by rw [I.ok.kind]; rfl
 have hiσ : i < σ.length := by rw [I.len]; exact (List.getElem?_eq_some_iff.mp hi).1
 have cne := I.cne
 have tracked : ∀ {a : Addr} {h' : Heap}, (∃ o, s.heap.get? a = some o ∧ H a = none) → Heap.SameBut a s.heap h' → HOk X.prog X.w H h' := fun {a h'} ha hs b ob e => by
  obtain ⟨_, _, hfree⟩ := ha
  refine (I.hok b ob e).stay (fun c w' hc q => (hs.2 c ?_).trans q) (fun _ q => q) fun _ _ q => q
  rintro rfl
  rcases hc with rfl | hc
  ·rw [hfree] at e; cases e
  ·rw [hfree] at hc; cases hc
 rcases hx with hk | hk
 ·refine wpAny_storeName_local hk hn (fun h' hn' hs => ?_) hcls
  obtain ⟨oL, _, _, hoL, _⟩ := id hn
  refine h _ ⟨I.ok, I.os, I.bare, ⟨fun b o e n hb hx => ?_, fun b o e n hb hx => ?_, I.base.free, fun b o e hx => ?_, I.base.tups, I.base.frzs, I.base.tbls⟩, ⟨_, hn', fun j y v' e1 e2 e3 => ?_⟩, fun y c e => ?_, I.free, I.freeC, fun p hp => ?_, tracked ⟨oL, hoL, I.free⟩ hs, by simpa using I.len⟩ ⟨_, hs, .inl rfl⟩
  ·exact (hs.2 b (Nat.ne_of_lt (Nat.lt_of_lt_of_le (Heap.lt_size e) I.ok.above))).trans (I.base.keep b o e n hb hx)
  ·obtain ⟨sl, e1⟩ := I.base.slot b o e n hb hx
   exact ⟨sl, (hs.2 b (Nat.ne_of_lt (Nat.lt_of_lt_of_le (Heap.lt_size e) I.ok.above))).trans e1⟩
  ·obtain ⟨o', e1⟩ := I.base.there b o e hx
   exact ⟨o', (hs.2 b (Nat.ne_of_lt (Nat.lt_of_lt_of_le (Heap.lt_size e) I.ok.above))).trans e1⟩
  ·by_cases hj : j = i
   ·subst hj
    rw [hi] at e1; cases e1
    rw [List.getElem?_set_self hiσ] at e2
    cases e2
    exact ⟨u, r, .inl ⟨hk, by simp⟩⟩
   ·rw [List.getElem?_set_ne (Ne.symm hj)] at e2
    obtain ⟨u', r', q⟩ := hl j y v' e1 e2 e3
    refine ⟨u', r', ?_⟩
    rcases q with ⟨k, e⟩ | ⟨k, c, e, z⟩
    ·refine .inl ⟨k, ?_⟩
     have : y ≠ x := fun e => hj (nodup_ix hN e1 (e ▸ hi))
     simp [this, e]
    ·exact .inr ⟨k, c, e, z.sameBut hs (cne y c e)⟩
  ·obtain ⟨w', z⟩ := I.cell y c e
   exact ⟨w', z.sameBut hs (cne y c e)⟩
  ·obtain ⟨e, n, ne, nf, d⟩ := I.pin p hp
   exact ⟨(hs.2 p.1 ne).trans e, n, ne, nf, d⟩
 ·have hfn : X.fn x = true := by
   rcases hf with z | z
   ·exact z
   ·rw [z] at hk; cases hk
  obtain ⟨c, hc⟩ := I.ok.has x (.inl hk)
  obtain ⟨w', z⟩ := I.cell x c hc
  refine wpAny_storeName_cell I.ok.kind hk hc z (fun h' hc' hs => ?_)
  obtain ⟨oc, hoc, hocd⟩ := id z
  refine h { s with heap := h' } ⟨I.ok, I.os, I.bare, ⟨fun b o e n hb hx => ?_, fun b o e n hb hx => ?_, I.base.free, fun b o e hx => ?_, I.base.tups, I.base.frzs, I.base.tbls⟩, ⟨m, hn.sameBut hs (Ne.symm (cne x c hc)), fun j y v' e1 e2 e3 => ?_⟩, fun y c' e => ?_, I.free, I.freeC, fun p hp => ?_, tracked ⟨oc, hoc, I.freeC x c hc⟩ hs, by simpa using I.len⟩ ⟨c, hs, .inr hc⟩
  ·exact (hs.2 b (Nat.ne_of_lt (Nat.lt_of_lt_of_le (Heap.lt_size e) (I.ok.cab x c hfn hc)))).trans (I.base.keep b o e n hb hx)
  ·obtain ⟨sl, e1⟩ := I.base.slot b o e n hb hx
   exact ⟨sl, (hs.2 b (Nat.ne_of_lt (Nat.lt_of_lt_of_le (Heap.lt_size e) (I.ok.cab x c hfn hc)))).trans e1⟩
  ·obtain ⟨o', e1⟩ := I.base.there b o e hx
   exact ⟨o', (hs.2 b (Nat.ne_of_lt (Nat.lt_of_lt_of_le (Heap.lt_size e) (I.ok.cab x c hfn hc)))).trans e1⟩
  ·by_cases hj : j = i
   ·subst hj
    rw [hi] at e1; cases e1
    rw [List.getElem?_set_self hiσ] at e2
    cases e2
    exact ⟨u, r, .inr ⟨.inl hk, c, hc, hc'⟩⟩
   ·rw [List.getElem?_set_ne (Ne.symm hj)] at e2
    obtain ⟨u', r', q⟩ := hl j y v' e1 e2 e3
    refine ⟨u', r', ?_⟩
    rcases q with q | ⟨k, c', e, z'⟩
    ·exact .inl q
    ·refine .inr ⟨k, c', e, z'.sameBut hs ?_⟩
     rintro rfl
     exact hj (nodup_ix hN e1 (I.ok.inj _ _ _ e hc ▸ hi))
  ·by_cases hcc : c' = c
   ·subst hcc; exact ⟨_, hc'⟩
   ·obtain ⟨w2, z2⟩ := I.cell y c' e
    exact ⟨w2, z2.sameBut hs hcc⟩
  ·obtain ⟨e, n, ne, nf, d⟩ := I.pin p hp
   refine ⟨(hs.2 p.1 ?_).trans e, n, ne, nf, d⟩
   intro q
   rw [q, hoc] at e
   have q' : oc = p.2 := Option.some.inj e
   exact d w' (by rw [← q']; exact hocd)
theorem store_ok {M : Model} {A : Around} {E : Value → Shared → Prop} {i : Nat} {x : Str} {v : V} {u : Value} {Q : Unit → Shared → Prop} (I : Inv X pins σ H s) (hN : X.N.Nodup) (hi : X.N[i]? = some x) (hx : Loc X.env.scope x) (r : RelV v u)
  (h : ∀ s', Inv X pins (σ.set i (some v)) H s' → Q () s') (hf : X.fn x = true ∨ X.env.scope.names.lookup x = some .local := by first | exact .inl rfl | exact .inr rfl | assumption) : wpAny M A (storeName X.env x u) Q E s :=
 store_ok2 I hN hi hx r (fun s' I' _ => h s' I') hf
theorem Inv.call' {s' : Shared} {ch : List Addr} (I : Inv X pins σ H s) (ho : s'.os = s.os) (u : Un (frs X.stack) ch H H' s.heap s'.heap) (hok : HOk X.prog X.w H' s'.heap) (hg : AllBare s'.gens)
  (hch : ∀ b ∈ ch, (b ∈ X.ex ∨ X.s₀.heap.objs.size ≤ b) ∧ b ≠ X.env.locals ∧ (∀ x c, X.env.cells.lookup x = some c → c ≠ b) ∧ ∀ p ∈ X.pn ++ pins, p.1 ≠ b) : Inv X pins σ H' s' := by
 obtain ⟨h', g', d', t', o'⟩ := s'
 have e : o' = s.os := ho
 subst e
 exact I.call (g' := g') (t' := t') (d' := d') u hok hg hch
end
noncomputable abbrev XK := Value → Option Addr → Hp → Prop
noncomputable abbrev St := List (Option V)
noncomputable abbrev VK := V → Hp → Prop
noncomputable abbrev TE := St → Hp → VK → Prop
noncomputable abbrev TT := St → Hp → (Bool → Hp → Prop) → Prop
noncomputable abbrev TA := St → Hp → (List V → Hp → Prop) → Prop
structure Ends where
 nx : St → Hp → Prop
 rt : VK
 bk : St → Hp → Prop := fun _ _ => False
 ct : St → Hp → Prop := fun _ _ => False
noncomputable abbrev TS := Ends → St → Hp → Prop
noncomputable def EP (X : Cx) (pins : List (Addr × Obj)) (σ : St) (Q : VK) (u : Value) (s' : Shared) : Prop := ∃ v H', Inv X pins σ H' s' ∧ RelV v u ∧ Q v H'
noncomputable def TP (X : Cx) (pins : List (Addr × Obj)) (σ : St) (Q : Bool → Hp → Prop) (b : Bool) (s' : Shared) : Prop := ∃ H', Inv X pins σ H' s' ∧ Q b H'
noncomputable def AP (X : Cx) (pins : List (Addr × Obj)) (σ : St) (Q : List V → Hp → Prop) (us : List Value) (s' : Shared) : Prop := ∃ vs H', Inv X pins σ H' s' ∧ Vals vs us ∧ Q vs H'
noncomputable def SP (X : Cx) (pins : List (Addr × Obj)) (D : Ends) (f : Flow) (s' : Shared) : Prop :=
 match f with
 | .next => ∃ σ' H', Inv X pins σ' H' s' ∧ D.nx σ' H'
 | .brk => ∃ σ' H', Inv X pins σ' H' s' ∧ D.bk σ' H'
 | .cont => ∃ σ' H', Inv X pins σ' H' s' ∧ D.ct σ' H'
 | .ret u => ∃ v σ' H', Inv X pins σ' H' s' ∧ RelV v u ∧ D.rt v H'
noncomputable def PE (X : Cx) (e : Expr) (t : TE) : Prop :=
 ∀ (pins : List (Addr × Obj)) (s : Shared) (σ : St) (H : Hp) (Q : VK), Inv X pins σ H s → t σ H Q → wpAny (model X.prog X.w) X.A (eval e X.env) (EP X pins σ Q) X.xe s
noncomputable def PT (X : Cx) (e : Expr) (t : TT) : Prop :=
 ∀ (pins : List (Addr × Obj)) (s : Shared) (σ : St) (H : Hp) (Q : Bool → Hp → Prop), Inv X pins σ H s → t σ H Q → wpAny (model X.prog X.w) X.A (isTrue e X.env (eval e X.env)) (TP X pins σ Q) X.xe s
noncomputable def PW (X : Cx) (e : Expr) (t : TT) : Prop :=
 ∀ (whole : Sem Value) (pins : List (Addr × Obj)) (s : Shared) (σ : St) (H : Hp) (Q : Bool → Hp → Prop), Inv X pins σ H s → t σ H Q → wpAny (model X.prog X.w) X.A (isTrue e X.env whole) (TP X pins σ Q) X.xe s
theorem PW.pt {X : Cx} {e : Expr} {t : TT} (h : PW X e t) : PT X e t := h _
noncomputable def PA (X : Cx) (es : List Expr) (t : TA) : Prop :=
 ∀ (pos : Pos) (pins : List (Addr × Obj)) (s : Shared) (σ : St) (H : Hp) (Q : List V → Hp → Prop), Inv X pins σ H s → t σ H Q → wpAny (model X.prog X.w) X.A (spliced (backTo pos (starEach es X.env))) (AP X pins σ Q) X.xe s
noncomputable def PS (X : Cx) (st : Stmt) (t : TS) : Prop :=
 ∀ (pins : List (Addr × Obj)) (s : Shared) (σ : St) (H : Hp) (D : Ends), Inv X pins σ H s → t D σ H → wpAny (model X.prog X.w) X.A (exec st X.env) (SP X pins D) X.xe s
noncomputable def PSs (X : Cx) (st : List Stmt) (t : TS) : Prop :=
 ∀ (pins : List (Addr × Obj)) (s : Shared) (σ : St) (H : Hp) (D : Ends), Inv X pins σ H s → t D σ H → wpAny (model X.prog X.w) X.A (execs st X.env) (SP X pins D) X.xe s
theorem thn {α : Type} {t : Sem α} {Q Q' : α → Shared → Prop} {M : Model} {A : Around} {E : Value → Shared → Prop} {s : Shared} (h : wpAny M A t Q E s) (hQ : ∀ a s, Q a s → Q' a s) : wpAny M A t Q' E s := wpAny_mono h hQ fun _ _ x => x
section
variable {X : Cx}
noncomputable abbrev Bc (i : Nat) : TE := fun σ H Q => ∃ v, σ[i]? = some (some v) ∧ Q v H
noncomputable abbrev tC (v : V) : TE := fun _ H Q => Q v H
theorem pe_var {i : Nat} {x : Str} {pos : Pos} (hN : X.N[i]? = some x) (hv : Vis X.env.scope x) (hd : (x == ("__debug__" : Str)) = false := by decide) (hcd : (x == ("__classdict__" : Str)) = false := by decide) : PE X (.Name x pos) (Bc i) := by
 intro pins s σ H Q I h
 obtain ⟨v, e, h⟩ := h
 obtain ⟨m, hn, hl⟩ := I.loc
 obtain ⟨u, r, l⟩ := hl i x v hN e hv
 have fin : EP X pins σ Q u s := ⟨v, H, I, r, h⟩
 rcases l with ⟨hk, hm⟩ | ⟨hk, c, hc, hcell⟩
 ·exact wpAny_Name (wpAny_loadName_local I.ok.kind hk hn hm fin) hd
 ·rcases hk with hk | hk
  ·exact wpAny_Name (wpAny_loadName_cell I.ok.kind hk hc hcell fin) hd
  ·exact wpAny_Name (wpAny_loadName_free I.ok.kind hk hc hcell fin hcd) hd
theorem AA {i j pos} : PE X (.Constant (.int i) j pos) (tC (.int i)) := fun _ _ _ H _ I h => wpAny_Constant_int ⟨.int i, H, I.tok _, ⟨_, rfl⟩, h⟩
theorem FF {b j pos} : PE X (.Constant (.bool b) j pos) (tC (.bl b)) := fun _ _ _ H _ I h => Constant_bool ⟨.bl b, H, I, rfl, h⟩
theorem pe_non {j pos} : PE X (.Constant .none j pos) (tC .non) := fun _ _ _ H _ I h => Constant_none ⟨.non, H, I, rfl, h⟩
theorem AG {x j pos} : PE X (.Constant (.str x) j pos) (tC (.str x)) := fun _ _ _ H _ I h => Calls.Constant_str ⟨.str x, H, I.tok _, ⟨_, rfl⟩, h⟩
noncomputable def Gl (X : Cx) (x : Str) : Prop := X.env.kindOf x = some .globalImplicit
theorem ld_glob {E : Value → Shared → Prop} {pins : List (Addr × Obj)} {s : Shared} {σ : St} {H : Hp} {x : Str} {u : Value} {pos : Pos} {Q : Value → Shared → Prop} (I : Inv X pins σ H s) (hg : Gl X x) (hm : X.mg x = some u) (h : Q u s)
  (hd : (x == ("__debug__" : Str)) = false := by decide) : wpAny (model X.prog X.w) X.A (eval (.Name x pos) X.env) Q E s :=
 Calls.Name_function_global I.ok.kind hg (Calls.loadGlobal_global (by rw [I.ok.glob]; exact I.mod.glob.keeps I.bk) hm h) hd
theorem ld_blt {E : Value → Shared → Prop} {pins : List (Addr × Obj)} {s : Shared} {σ : St} {H : Hp} {x : Str} {u : Value} {pos : Pos} {Q : Value → Shared → Prop} (I : Inv X pins σ H s) (hg : Gl X x) (hm : X.mg x = none) (hv : bootBuiltins x = some u) (h : Q u s)
  (hn : x ≠ "__name__" := by decide) (hd : (x == ("__debug__" : Str)) = false := by decide) : wpAny (model X.prog X.w) X.A (eval (.Name x pos) X.env) Q E s := by
 obtain ⟨mb, h1, h2⟩ := I.mod.blt
 exact Calls.Name_function_global I.ok.kind hg (Calls.loadGlobal_builtin (by rw [I.ok.glob]; exact I.mod.glob.keeps I.bk) hm (by rw [I.ok.blt]; exact h1.keeps I.bk) ((h2 x hn).trans hv) h) hd
theorem pe_glob {x : Str} {v : V} {u : Value} {pos : Pos} (hg : Gl X x) (hm : X.mg x = some u) (r : RelV v u) (hd : (x == ("__debug__" : Str)) = false := by decide) : PE X (.Name x pos) (tC v) :=
 fun _ _ _ H _ I h => ld_glob I hg hm ⟨v, H, I, r, h⟩ hd
theorem pe_bltn {x : Str} {v : V} {u : Value} {pos : Pos} (hg : Gl X x) (hm : X.mg x = none) (hv : bootBuiltins x = some u) (r : RelV v u) (hn : x ≠ "__name__" := by decide) (hd : (x == ("__debug__" : Str)) = false := by decide) : PE X (.Name x pos) (tC v) :=
 fun _ _ _ H _ I h => ld_blt I hg hm hv ⟨v, H, I, r, h⟩ hn hd
variable {a b : Expr} {ta tb : TE} {pos : Pos}
noncomputable def PC (X : Cx) (op : CmpOp) (a b : Expr) (t : TE) : Prop :=
 ∀ (pins : List (Addr × Obj)) (s : Shared) (σ : St) (H : Hp) (Q : VK), Inv X pins σ H s → t σ H Q →
  wpAny (model X.prog X.w) X.A (eval a X.env) (fun v s₁ => wpAny (model X.prog X.w) X.A (eval b X.env) (fun u s₂ => wpAny (model X.prog X.w) X.A (compareOp op v u) (EP X pins σ Q) X.xe s₂) X.xe s₁) X.xe s
theorem nobehind (b : Expr) {op : CmpOp} (h : op ≠ .In) (h2 : op ≠ .NotIn) : behindInMarks op b = false := by
 have e1 : (op == CmpOp.In) = false := by cases op <;> first | rfl | exact absurd rfl h
 have e2 : (op == CmpOp.NotIn) = false := by cases op <;> first | rfl | exact absurd rfl h2
 cases b <;> simp [behindInMarks, e1, e2]
noncomputable def tB (t : TE) : TT := fun σ H Q => t σ H fun x H1 => ∃ c, x = .bl c ∧ Q c H1
theorem pt_cmp {op : CmpOp} {t : TE} (h : PC X op a b t) (h1 : behindInMarks op b = false := by first | exact nobehind _ (by decide) (by decide) | rfl) : PT X (.Compare a [op] [b] pos) (tB t) := by
 intro pins s σ H Q I hw
 refine wpAny_isTrue_Compare1 (thn (h pins s σ H _ I hw) fun v s1 h1 => thn h1 fun u s2 h2 => thn h2 fun c s3 ⟨x, H1, I1, r1, q1⟩ => ?_) h1
 obtain ⟨d, rfl, q⟩ := q1
 cases r1
 exact wpAny_truthy_bool ⟨H1, I1, q⟩
variable {tA tB' : TT} {rest : List Expr}
noncomputable abbrev tAnd (t u : TT) : TT := fun σ H Q => t σ H fun c H1 => if c = true then u σ H1 Q else Q false H1
noncomputable abbrev tOr (t u : TT) : TT := fun σ H Q => t σ H fun c H1 => if c = true then Q true H1 else u σ H1 Q
noncomputable abbrev tNot (t : TT) : TT := fun σ H Q => t σ H fun c H1 => Q (!c) H1
theorem Fu (ha : PT X a tA) : PW X (.BoolOp .And [a] pos) tA := by
 intro wh pins s σ H Q I h
 refine isTrue_and (thn (ha pins s σ H Q I h) fun c s1 e => ?_)
 cases c with
 | true => exact isTrue_and_nil e
 | false => exact e
theorem Fi (ha : PT X a tA) : PW X (.BoolOp .Or [a] pos) tA := by
 intro wh pins s σ H Q I h
 refine isTrue_or (thn (ha pins s σ H Q I h) fun c s1 e => ?_)
 cases c with
 | false => exact isTrue_or_nil e
 | true => exact e
theorem GG (ha : PT X a tA) (hb : PW X (.BoolOp .And (b :: rest) pos) tB') : PW X (.BoolOp .And (a :: b :: rest) pos) (tAnd tA tB') := by
 intro wh pins s σ H Q I h
 refine isTrue_and (thn (ha pins s σ H _ I h) fun c s1 ⟨H1, I1, q1⟩ => ?_)
 cases c with
 | true => exact hb wh pins s1 σ H1 Q I1 q1
 | false => exact ⟨H1, I1, q1⟩
theorem pw_or (ha : PT X a tA) (hb : PW X (.BoolOp .Or (b :: rest) pos) tB') : PW X (.BoolOp .Or (a :: b :: rest) pos) (tOr tA tB') := by
 intro wh pins s σ H Q I h
 refine isTrue_or (thn (ha pins s σ H _ I h) fun c s1 ⟨H1, I1, q1⟩ => ?_)
 cases c with
 | true => exact ⟨H1, I1, q1⟩
 | false => exact hb wh pins s1 σ H1 Q I1 q1
theorem pt_not (ha : PT X a tA) : PT X (.UnaryOp .Not a pos) (tNot tA) := by
 intro pins s σ H Q I h
 exact isTrue_not (ha pins s σ H (fun c H1 => Q (!c) H1) I h)
noncomputable abbrev tAndV (ta tb : TE) : TE := fun σ H Q => ta σ H fun x H1 => ∃ c, x = .bl c ∧ if c = true then tb σ H1 Q else Q (.bl false) H1
noncomputable abbrev tOrV (ta tb : TE) : TE := fun σ H Q => ta σ H fun x H1 => ∃ c, x = .bl c ∧ if c = true then Q (.bl true) H1 else tb σ H1 Q
noncomputable abbrev tNotV (ta : TE) : TE := fun σ H Q => ta σ H fun x H1 => ∃ c, x = .bl c ∧ Q (.bl (!c)) H1
theorem pe_one {op} {t : TE} (h : PE X a t) : PE X (.BoolOp op [a] pos) t := fun pins s σ H Q I hw => BoolOp_one (h pins s σ H Q I hw)
theorem pe_and (ha : PE X a ta) (hb : PE X (.BoolOp .And (b :: rest) pos) tb) : PE X (.BoolOp .And (a :: b :: rest) pos) (tAndV ta tb) := by
 intro pins s σ H Q I h
 refine BoolOp_and (thn (ha pins s σ H _ I h) fun v s1 ⟨x, H1, I1, r1, q1⟩ => ?_)
 obtain ⟨c, rfl, q1⟩ := q1
 cases r1
 refine wpAny_truthy_bool ?_
 cases c with
 | true => exact hb pins s1 σ H1 Q I1 q1
 | false => exact ⟨.bl false, H1, I1, rfl, q1⟩
theorem pe_or (ha : PE X a ta) (hb : PE X (.BoolOp .Or (b :: rest) pos) tb) : PE X (.BoolOp .Or (a :: b :: rest) pos) (tOrV ta tb) := by
 intro pins s σ H Q I h
 refine BoolOp_or (thn (ha pins s σ H _ I h) fun v s1 ⟨x, H1, I1, r1, q1⟩ => ?_)
 obtain ⟨c, rfl, q1⟩ := q1
 cases r1
 refine wpAny_truthy_bool ?_
 cases c with
 | false => exact hb pins s1 σ H1 Q I1 q1
 | true => exact ⟨.bl true, H1, I1, rfl, q1⟩
theorem pe_not (ha : PE X a ta) : PE X (.UnaryOp .Not a pos) (tNotV ta) := by
 intro pins s σ H Q I h
 refine UnaryOp_ (thn (ha pins s σ H _ I h) fun v s1 ⟨x, H1, I1, r1, q1⟩ => ?_)
 obtain ⟨c, rfl, q1⟩ := q1
 cases r1
 exact not_of (wpAny_truthy_bool ⟨.bl (!c), H1, I1, rfl, q1⟩)
end
noncomputable def SqL (K : PySem.W.Frag) (H : Hp) (a : Addr) (xs : List V) : Prop :=
 Rd H a (.lst xs) ∨
  ∃ (o : Obj) (its : Array Value) (n : Nat), K.lookup a = some o ∧ o.cls = .type "list" ∧ o.dict = none ∧ o.data = .seq its n ∧ its.size ≤ sizeLine ∧ Vals xs its.toList
noncomputable def SqT (K : PySem.W.Frag) (H : Hp) (a : Addr) (xs : List V) : Prop :=
 Rd H a (.tup xs) ∨
  ∃ (o : Obj) (its : Array Value) (n : Nat), K.lookup a = some o ∧ o.cls = .type "tuple" ∧ o.data = .seq its n ∧ its.size ≤ sizeLine ∧ Vals xs its.toList
noncomputable def absV : Value → Option V
 | .none => some .non
 | .bool b => some (.bl b)
 | .int i _ => some (.int i)
 | .str x _ => some (.str x)
 | .bytes b _ => some (.byt b)
 | .float b _ => some (.flt b)
 | .ref a => some (.ref a)
 | .type n => some (.ty n)
 | _ => none
theorem RelV.abs {x : V} {u : Value} (r : RelV x u) : absV u = some x := by
 cases x with
 | non => cases r; rfl
 | bl _ => cases r; rfl
 | int _ => obtain ⟨t, rfl⟩ := r; rfl
 | str _ => obtain ⟨t, rfl⟩ := r; rfl
 | byt _ => obtain ⟨t, rfl⟩ := r; rfl
 | flt _ => obtain ⟨t, rfl⟩ := r; rfl
 | ref _ => cases r; rfl
 | ty _ => cases r; rfl
theorem RelV.inj {x y : V} {u : Value} (r : RelV x u) (q : RelV y u) : x = y := Option.some.inj (r.abs.symm.trans q.abs)
theorem Vals.inj : ∀ {xs ys : List V} {us : List Value}, Vals xs us → Vals ys us → xs = ys
 | _, _, _, .nil, .nil => rfl
 | _, _, _, .cons r t, .cons r' t' => by rw [r.inj r', Vals.inj t t']
section
variable {X : Cx} {pins : List (Addr × Obj)} {σ : St} {H : Hp} {s : Shared} {a : Addr} {xs ys : List V}
theorem SqL.of {K : PySem.W.Frag} (h : H a = some (.lst xs)) : SqL K H a xs := .inl (.inl h)
theorem SqT.of {K : PySem.W.Frag} (h : H a = some (.tup xs)) : SqT K H a xs := .inl (.inl h)
theorem Inv.list (I : Inv X pins σ H s) (h : SqL X.K H a xs) : ∃ its : List Value, Vals xs its ∧ PlainL s.heap a its.toArray ∧ xs.length ≤ sizeLine := by
 rcases h with h | ⟨o, its, n, hk, hc, hd, hs, hz, r⟩
 ·obtain ⟨z, its, n, r, e⟩ := h.ok I.hok
  exact ⟨its, r, ⟨_, n, e, rfl, rfl, rfl⟩, z⟩
 ·refine ⟨its.toList, r, ⟨o, n, I.kIn a o hk, hc, hd, by simpa using hs⟩, ?_⟩
  have e := r.length
  simp only [Array.length_toList] at e
  omega
theorem Inv.tuple (I : Inv X pins σ H s) (h : SqT X.K H a xs) : ∃ its : List Value, Vals xs its ∧ IsTup s.heap a its.toArray ∧ xs.length ≤ sizeLine := by
 rcases h with h | ⟨o, its, n, hk, hc, hs, hz, r⟩
 ·obtain ⟨z, its, r, p⟩ := h.ok I.hok
  exact ⟨its, r, p, z⟩
 ·refine ⟨its.toList, r, ⟨o, I.kIn a o hk, hc, n, by simpa using hs⟩, ?_⟩
  have e := r.length
  simp only [Array.length_toList] at e
  omega
theorem Inv.list_inj (I : Inv X pins σ H s) (h : SqL X.K H a xs) (h' : SqL X.K H a ys) : xs = ys := by
 obtain ⟨its, r, ⟨o, n, e, _, _, d⟩, _⟩ := I.list h
 obtain ⟨its', r', ⟨o', n', e', _, _, d'⟩, _⟩ := I.list h'
 rw [e] at e'; cases e'
 rw [d] at d'
 injection d' with d1 _
 have : its = its' := by simpa using congrArg Array.toList d1
 subst this
 exact r.inj r'
theorem Inv.tuple_inj (I : Inv X pins σ H s) (h : SqT X.K H a xs) (h' : SqT X.K H a ys) : xs = ys := by
 obtain ⟨its, r, ⟨o, e, _, n, d⟩, _⟩ := I.tuple h
 obtain ⟨its', r', ⟨o', e', _, n', d'⟩, _⟩ := I.tuple h'
 rw [e] at e'; cases e'
 rw [d] at d'
 injection d' with d1 _
 have : its = its' := by simpa using congrArg Array.toList d1
 subst this
 exact r.inj r'
end
noncomputable abbrev Cx.wish (X : Cx) (E : Value → Shared → Prop) : Cx := { X with xe := E }
noncomputable abbrev Cx.nox (X : Cx) : Cx := X.wish fun _ _ => False
theorem Cx.Ok.wish {X : Cx} (ok : X.Ok) (E : Value → Shared → Prop) : (X.wish E).Ok :=
 ⟨ok.mod, ok.kind, ok.glob, ok.blt, ok.above, ok.inj, ok.has, ok.cab, ok.hd, ok.frames, ok.stk, ok.exf, ok.bs, ok.bsz, ok.noex, ok.exfs, ok.funs, ok.frf⟩
theorem Cx.Ok.unwish {X : Cx} {E : Value → Shared → Prop} (ok : (X.wish E).Ok) : X.Ok :=
 ⟨ok.mod, ok.kind, ok.glob, ok.blt, ok.above, ok.inj, ok.has, ok.cab, ok.hd, ok.frames, ok.stk, ok.exf, ok.bs, ok.bsz, ok.noex, ok.exfs, ok.funs, ok.frf⟩
section
variable {X : Cx} {pins : List (Addr × Obj)} {σ : St} {H : Hp} {s : Shared} {E : Value → Shared → Prop}
theorem Inv.wish (I : Inv X pins σ H s) (E : Value → Shared → Prop) : Inv (X.wish E) pins σ H s := ⟨I.ok.wish E, I.os, I.bare, I.base, I.loc, I.cell, I.free, I.freeC, I.pin, I.hok, I.len⟩
theorem Inv.unwish (I : Inv (X.wish E) pins σ H s) : Inv X pins σ H s := ⟨I.ok.unwish, I.os, I.bare, I.base, I.loc, I.cell, I.free, I.freeC, I.pin, I.hok, I.len⟩
theorem SP.unwish {D : Ends} {f : Flow} {s' : Shared} (h : SP (X.wish E) pins D f s') : SP X pins D f s' := by
 cases f with
 | next => obtain ⟨σ', H', I, q⟩ := h; exact ⟨σ', H', I.unwish, q⟩
 | brk => obtain ⟨σ', H', I, q⟩ := h; exact ⟨σ', H', I.unwish, q⟩
 | cont => obtain ⟨σ', H', I, q⟩ := h; exact ⟨σ', H', I.unwish, q⟩
 | ret u => obtain ⟨v, σ', H', I, r, q⟩ := h; exact ⟨v, σ', H', I.unwish, r, q⟩
theorem PE.nox {e : Expr} {t : TE} (h : PE X.nox e t) : PE X e t := fun pins s σ H Q I hw =>
 wpAny_mono (h pins s σ H Q (I.wish _) hw) (fun _ _ ⟨v, H', I', r, q⟩ => ⟨v, H', I'.unwish, r, q⟩) fun _ _ z => False.elim z
theorem PT.nox {e : Expr} {t : TT} (h : PT X.nox e t) : PT X e t := fun pins s σ H Q I hw =>
 wpAny_mono (h pins s σ H Q (I.wish _) hw) (fun _ _ ⟨H', I', q⟩ => ⟨H', I'.unwish, q⟩) fun _ _ z => False.elim z
theorem PSs.nox {st : List Stmt} {t : TS} (h : PSs X.nox st t) : PSs X st t := fun pins s σ H D I hw =>
 wpAny_mono (h pins s σ H D (I.wish _) hw) (fun _ _ q => q.unwish) fun _ _ z => False.elim z
end
section
variable {X : Cx} {st : Stmt} {rest : List Stmt} {t u : TS} {e : Expr} {te : TE} {pos : Pos}
noncomputable abbrev C9 : TS := fun D σ H => D.nx σ H
noncomputable abbrev CK (t u : TS) : TS := fun D σ H => t { D with nx := u D } σ H
theorem A8 : PSs X [] C9 := fun _ _ σ H _ I h => wpAny_execs_nil ⟨σ, H, I, h⟩
theorem A6 (h1 : PS X st t) (h2 : PSs X rest u) : PSs X (st :: rest) (CK t u) := by
 intro pins s σ H D I h
 refine wpAny_execs_cons (thn (h1 pins s σ H { D with nx := u D } I h) fun f s1 q => ?_)
 cases f with
 | next =>
  obtain ⟨σ', H', I', q⟩ := q
  exact h2 pins s1 σ' H' D I' q
 | ret v => exact q
 | brk => exact q
 | cont => exact q
theorem Inv.quiet {pins : List (Addr × Obj)} {σ : St} {H : Hp} {s : Shared} (I : Inv X pins σ H s) : interactive X.env = false := by simp [interactive, I.ok.kind]
noncomputable abbrev tDrop (te : TE) : TS := fun D σ H => te σ H fun _ H1 => D.nx σ H1
theorem DC (he : PE X e te) (hs : swapsWith e none pos.line X.env = pure false := by rfl) : PS X (.Expr e pos) (tDrop te) := by
 intro pins s σ H D I h
 exact wpAny_Expr_any (thn (he pins s σ H _ I h) fun v s1 ⟨x, H1, I1, r1, q1⟩ => ⟨σ, H1, I1, q1⟩) I.quiet hs
noncomputable abbrev tRet (te : TE) : TS := fun D σ H => te σ H D.rt
theorem AS (he : PE X e te) : PS X (.Return (some e) pos) (tRet te) := by
 intro pins s σ H D I h
 exact wpAny_Return_some (thn (he pins s σ H _ I h) fun v s1 ⟨x, H1, I1, r1, q1⟩ => ⟨x, σ, H1, I1, r1, q1⟩)
noncomputable abbrev tIfS (c : TT) (t u : TS) : TS := fun D σ H => c σ H fun b H1 => if b = true then t D σ H1 else u D σ H1
theorem Aw {c : Expr} {a b : List Stmt} {tc : TT} (hc : PT X c tc) (ha : PSs X a t) (hb : PSs X b u) : PS X (.If c a b pos) (tIfS tc t u) := by
 intro pins s σ H D I h
 refine wpAny_If (thn (hc pins s σ H _ I h) fun d s1 ⟨H1, I1, q1⟩ => ?_)
 cases d with
 | true => exact ha pins s1 σ H1 D I1 q1
 | false => exact hb pins s1 σ H1 D I1 q1
end
noncomputable abbrev TG := V → St → Hp → (St → Hp → Prop) → Prop
noncomputable abbrev TGs := List V → St → Hp → (St → Hp → Prop) → Prop
noncomputable def PG (X : Cx) (target : Expr) (t : TG) : Prop :=
 ∀ (pins : List (Addr × Obj)) (s : Shared) (σ : St) (H : Hp) (v : V) (u : Value) (Q : St → Hp → Prop), Inv X pins σ H s → RelV v u → t v σ H Q →
  wpAny (model X.prog X.w) X.A (assign target X.env u) (fun _ s' => ∃ σ' H', Inv X pins σ' H' s' ∧ Q σ' H') X.xe s
noncomputable def PGs (X : Cx) (ts : List Expr) (t : TGs) : Prop :=
 ∀ (pins : List (Addr × Obj)) (s : Shared) (σ : St) (H : Hp) (vs : List V) (us : List Value) (Q : St → Hp → Prop), Inv X pins σ H s → Vals vs us → t vs σ H Q →
  wpAny (model X.prog X.w) X.A (assignInOrder ((assignEach ts X.env).map (·.2)) us) (fun _ s' => ∃ σ' H', Inv X pins σ' H' s' ∧ Q σ' H') X.xe s
noncomputable abbrev TSet := V → V → V → Hp → (Hp → Prop) → Prop
noncomputable def PSet (X : Cx) (t : TSet) : Prop :=
 ∀ (pins : List (Addr × Obj)) (s : Shared) (σ : St) (H : Hp) (o i v : V) (ov iv u : Value) (Q : Hp → Prop), Inv X pins σ H s → RelV o ov → RelV i iv → RelV v u → t o i v H Q →
  wpAny (model X.prog X.w) X.A (setItem ov iv u) (fun _ s' => ∃ H', Inv X pins σ H' s' ∧ Q H') X.xe s
section
variable {X : Cx} {pos : Pos}
noncomputable abbrev D2 (i : Nat) : TG := fun v σ H Q => Q (σ.set i (some v)) H
theorem Cc {i : Nat} {x : Str} (hN : X.N.Nodup) (hi : X.N[i]? = some x) (hx : Loc X.env.scope x) (hf : X.fn x = true ∨ X.env.scope.names.lookup x = some .local := by first | exact .inl rfl | exact .inr rfl | assumption) : PG X (.Name x pos) (D2 i) := by
 intro pins s σ H v u Q I r h
 exact wpAny_assign_Name (store_ok I hN hi hx r (fun s' I' => ⟨_, H, I', h⟩) hf)
noncomputable def gNil : TGs := fun vs σ H Q => vs = [] ∧ Q σ H
noncomputable def gCons (t : TG) (u : TGs) : TGs := fun vs σ H Q => ∃ v r, vs = v :: r ∧ t v σ H fun σ' H' => u r σ' H' Q
theorem pgs_nil : PGs X [] gNil := by
 intro pins s σ H vs us Q I r h
 obtain ⟨e, h⟩ := h
 subst e
 cases r
 exact assignInOrder_nil ⟨σ, H, I, h⟩
theorem pgs_cons {e : Expr} {es : List Expr} {t : TG} {u : TGs} (h1 : PG X e t) (h2 : PGs X es u)
  (hs : (assignEach (e :: es) X.env).map (·.2) = assign e X.env :: (assignEach es X.env).map (·.2) := by rfl) : PGs X (e :: es) (gCons t u) := by
 intro pins s σ H vs us Q I r h
 obtain ⟨v, vr, e1, h⟩ := h
 subst e1
 cases r with
 | cons r rr =>
  rw [hs]
  refine assignInOrder_cons (thn (h1 pins s σ H _ _ _ I r h) fun _ s1 ⟨σ1, H1, I1, q1⟩ => ?_)
  exact h2 pins s1 σ1 H1 _ _ Q I1 rr q1
noncomputable def gTup (K : PySem.W.Frag) (n : Nat) (t : TGs) : TG := fun v σ H Q => ∃ a xs, v = .ref a ∧ SqT K H a xs ∧ xs.length = n ∧ t xs σ H Q
theorem pg_tup {es : List Expr} {k : Nat} {t : TGs} {n : Nat} (hc : X.calm = true) (h : PGs X es t)
  (hn : (assignEach es X.env).length = n := by rfl) (hst : (assignEach es X.env).findIdx? (·.1) = none := by rfl) : PG X (.Tuple es k pos) (gTup X.K n t) := by
 intro pins s σ H v u Q I r hw
 obtain ⟨a, xs, e1, hq, hl, hw⟩ := hw
 subst e1
 cases r
 obtain ⟨its, rv, ht, hz⟩ := I.tuple hq
 refine assign_Tuple_tuple (I.ok.hd hc) ht (by simp [hn, ← hl, rv.length]) hst fun h' hx => ?_
 have I1 : Inv X pins σ H { s with heap := h' } := I.kept (t' := s.toks) fun b o e => hx b o (Nat.ne_of_lt (Heap.lt_size e)) e
 exact h pins _ σ H xs _ Q I1 (by simpa using rv) hw
noncomputable def gSub (to ti : TE) (t : TSet) : TG := fun v σ H Q => to σ H fun o H1 => ti σ H1 fun i H2 => t o i v H2 fun H3 => Q σ H3
theorem pg_sub {o i : Expr} {to ti : TE} {t : TSet} (ho : PE X o to) (hi : PE X i ti) (hs : PSet X t)
  (ha : ∀ v, assign (.Subscript o i pos) X.env v = (do
   let ov ← holding [v] (eval o X.env)
   let iv ← holding [v, ov] (eval i X.env)
   standAt pos
   holding [v, ov, iv] (setItem ov iv v)
   release [v, ov, iv] []) := by intro _; rfl) : PG X (.Subscript o i pos) (gSub to ti t) := by
 intro pins s σ H v u Q I r h
 rw [ha]
 refine wpAny_bind (wpAny_holding (thn (ho pins s σ H _ I h) fun ov s1 ⟨x, H1, I1, r1, q1⟩ => ?_))
 refine wpAny_bind (wpAny_holding (thn (hi pins s1 σ H1 _ I1 q1) fun iv s2 ⟨y, H2, I2, r2, q2⟩ => ?_))
 refine wpAny_bind (wpAny_standAt (wpAny_bind (wpAny_holding (thn (hs pins s2 σ H2 x y v ov iv u _ I2 r1 r2 r q2) fun _ s3 ⟨H3, I3, q3⟩ => ?_))))
 exact wpAny_release ⟨σ, H3, I3, q3⟩
noncomputable abbrev FJ (te : TE) (g : TG) : TS := fun D σ H => te σ H fun x H1 => g x σ H1 D.nx
theorem GE {tg e : Expr} {te : TE} {g : TG} (he : PE X e te) (hg : PG X tg g) (hs : swapsWithSole [tg] e pos.line X.env = pure false := by rfl) (hw : swappedStores [tg] e X.env = pure none := by rfl)
  (h1 : (assignEach [tg] X.env).map (·.2) = [assign tg X.env] := by rfl) : PS X (.Assign [tg] e pos) (FJ te g) := by
 intro pins s σ H D I h
 refine wpAny_Assign_stores (thn (he pins s σ H _ I h) fun v s1 ⟨x, H1, I1, r1, q1⟩ => ?_) hs hw
 rw [h1]
 exact thn (hg pins s1 σ H1 x v _ I1 r1 q1) fun _ s2 q => q
theorem B0 {i : Nat} {x : Str} {e : Expr} {te : TE} {pos' : Pos} (hN : X.N.Nodup) (hi : X.N[i]? = some x) (hx : Loc X.env.scope x) (he : PE X e te) (hs : swapsWith e (some (.Name x pos')) pos.line X.env = pure false := by rfl) (hf : X.fn x = true ∨ X.env.scope.names.lookup x = some .local := by first | exact .inl rfl | exact .inr rfl | assumption) :
  PS X (.Assign [.Name x pos'] e pos) (FJ te (D2 i)) := by
 intro pins s σ H D I h
 refine wpAny_Assign_Name (thn (he pins s σ H _ I h) fun v s1 ⟨y, H1, I1, r1, q1⟩ => ?_) hs
 exact store_ok I1 hN hi hx r1 (fun s2 I2 => ⟨_, H1, I2, q1⟩) hf
end
section
variable {X : Cx} {pos : Pos}
noncomputable def tWhile (c : TT) (tb : TS) : TS := fun D σ H => ∃ W : Nat → St → Hp → Prop, (∃ m, W m σ H) ∧ ∀ m σ H, W m σ H →
 c σ H fun b H1 => if b = true then ∃ N : St → Hp → Prop, (∀ σ' H', N σ' H' → ∃ m', m' < m ∧ W m' σ' H') ∧ tb { D with nx := N, ct := N, bk := D.nx } σ H1 else D.nx σ H1
theorem ps_while {c : Expr} {body : List Stmt} {tc : TT} {tb : TS} (hp : PassesOwn (model X.prog X.w) X.A X.env X.xe) (hc : PT X c tc) (hb : PSs X body tb) : PS X (.While c body [] pos) (tWhile tc tb) := by
 intro pins s σ H D I h
 obtain ⟨W, ⟨m0, w0⟩, turn⟩ := h
 refine wpAny_While (codeAny_whileLoop (fun n s' => ∃ σ' H', Inv X pins σ' H' s' ∧ W n σ' H') ?_ m0 ⟨σ, H, I, w0⟩)
 rintro n s1 ⟨σ1, H1, I1, w1⟩
 refine wpAny_passesOwn hp (thn (hc pins s1 σ1 H1 _ I1 (turn n σ1 H1 w1)) fun b s2 ⟨H2, I2, q2⟩ => ?_)
 cases b with
 | true =>
  obtain ⟨N, hN, q2⟩ := q2
  rw [if_pos rfl]
  refine wpAny_passesOwn hp (thn (hb pins s2 σ1 H2 _ I2 q2) fun f s3 q3 => ?_)
  cases f with
  | next =>
   obtain ⟨σ3, H3, I3, n3⟩ := q3
   obtain ⟨m', hm, w3⟩ := hN σ3 H3 n3
   exact ⟨m', hm, σ3, H3, I3, w3⟩
  | cont =>
   obtain ⟨σ3, H3, I3, n3⟩ := q3
   obtain ⟨m', hm, w3⟩ := hN σ3 H3 n3
   exact ⟨m', hm, σ3, H3, I3, w3⟩
  | brk => exact q3
  | ret v => exact q3
 | false =>
  rw [if_neg Bool.false_ne_true]
  exact wpAny_execs_nil ⟨σ1, H2, I2, q2⟩
end
structure It where
 go : Nat → Hp → Prop
 yld : Nat → Hp → V → Hp → Prop
 stop : Nat → Hp → Prop
noncomputable def FD (X : Cx) (pins : List (Addr × Obj)) (H : Hp) (b : Addr) : Prop :=
 H b = none ∧ b ≠ X.env.locals ∧ b ∉ X.fs ∧ (b ∈ X.ex ∨ X.s₀.heap.objs.size ≤ b) ∧ (∀ x c, X.env.cells.lookup x = some c → c ≠ b) ∧ ∀ p ∈ X.pn ++ pins, p.1 ≠ b
theorem Inv.fpOk {X : Cx} {pins : List (Addr × Obj)} {σ : St} {H H' : Hp} {s : Shared} {b : Addr} (I : Inv X pins σ H s) (hb : s.heap.objs.size ≤ b) (hn : H' b = none) : FD X pins H' b := by
 refine ⟨hn, Nat.ne_of_gt (Nat.lt_of_lt_of_le I.lt hb), I.nofs hb, .inr (Nat.le_trans I.sz hb), fun x c e z => ?_, fun p hp z => ?_⟩
 ·obtain ⟨v, q⟩ := I.cell x c e
  exact absurd (Nat.lt_of_lt_of_le q.lt (by rw [z]; exact hb)) (Nat.lt_irrefl _)
 ·exact absurd (Nat.lt_of_lt_of_le (Heap.lt_size (I.pin p hp).1) (by rw [z]; exact hb)) (Nat.lt_irrefl _)
structure Turn (P : Program) (w : World) (K : PySem.W.Frag) (tg : Expr) (J : It) (fp : List Addr) (it : Addr) (tn : Nat → Heap → Prop) : Prop where
 mem : it ∈ fp
 obj : ∀ i h, tn i h → ∀ b ∈ fp, ∃ o, h.get? b = some o ∧ ∀ v, o.data ≠ .cell v
 keep : ∀ i h h', tn i h → (∀ b ∈ fp, ∀ o, h.get? b = some o → h'.get? b = some o) → tn i h'
 item : ∀ (X : Cx), X.prog = P → X.w = w → X.K = K → X.calm = true → ∀ (i : Nat) (pins : List (Addr × Obj)) (s : Shared) (σ : St) (H : Hp) (E : Value → Shared → Prop), Inv X pins σ H s → (∀ b ∈ fp, FD X pins H b) → tn i s.heap → J.go i H →
  wpAny (model P w) X.A (pyNext (.ref it)) (fun r s1 => ∃ u, r = some u ∧
   wpAny (model P w) X.A (letOwnedTupleGo tg (.ref it) u) (fun _ s2 => ∃ x H', Inv X pins σ H' s2 ∧ RelV x u ∧ J.yld i H x H' ∧ tn (i + 1) s2.heap ∧ ∀ b ∈ fp, H' b = none) E s1) E s
 done : ∀ (X : Cx), X.prog = P → X.w = w → X.K = K → X.calm = true → ∀ (i : Nat) (pins : List (Addr × Obj)) (s : Shared) (σ : St) (H : Hp) (E : Value → Shared → Prop), Inv X pins σ H s → (∀ b ∈ fp, FD X pins H b) → tn i s.heap → J.stop i H →
  wpAny (model P w) X.A (pyNext (.ref it)) (fun r s1 => r = none ∧ Inv X pins σ H s1) E s
 self : ∀ (A : Around) (i : Nat) (s : Shared) (Q : Value → Shared → Prop) (E : Value → Shared → Prop), tn i s.heap → Q (.ref it) s → wpAny (model P w) A (pyIter (.ref it)) Q E s
noncomputable abbrev TI := St → Hp → (It → Hp → Prop) → Prop
noncomputable def PIE (X : Cx) (pins : List (Addr × Obj)) (σ : St) (tg : Expr) (R : It → Hp → Prop) (itv : Value) (s2 : Shared) : Prop :=
 ∃ (it : Addr) (fp : List Addr) (tn : Nat → Heap → Prop) (J : It) (H' : Hp), itv = .ref it ∧ Inv X pins σ H' s2 ∧ Turn X.prog X.w X.K tg J fp it tn ∧ tn 0 s2.heap ∧ (∀ b ∈ fp, FD X pins H' b) ∧ R J H'
noncomputable def PI (X : Cx) (tg iter : Expr) (wi : TI) : Prop :=
 ∀ (pins : List (Addr × Obj)) (s : Shared) (σ : St) (H : Hp) (R : It → Hp → Prop), Inv X pins σ H s → wi σ H R →
  wpAny (model X.prog X.w) X.A (eval iter X.env) (fun v s1 => wpAny (model X.prog X.w) X.A (pyIter v) (PIE X pins σ tg R) X.xe s1) X.xe s
theorem go_of {M : Model} {A : Around} {E : Value → Shared → Prop} {s : Shared} {tg : Expr} {it : Addr} {u : Value} {o : Obj} {n : String} {vs : Array Value} {Q : Unit → Shared → Prop} (ho : s.heap.get? it = some o) (hc : o.cls = .type n) (hd : o.data = .fields vs)
  (hn : ["enumerate", "zip", "dict_itemiterator", "dict_reverseitemiterator", "odict_iterator", "itertools.zip_longest", "itertools.pairwise"].contains n = false) (hQ : Q () s) : wpAny M A (letOwnedTupleGo tg (.ref it) u) Q E s := by
 unfold letOwnedTupleGo
 cases tg <;> first
  | exact wpAny_pure hQ
  | (cases u <;> first
    | exact wpAny_pure hQ
    | (refine wpAny_bind (wpAny_load ho ?_)
       rw [hc, hd]
       show wpAny M A (if (["enumerate", "zip", "dict_itemiterator", "dict_reverseitemiterator", "odict_iterator", "itertools.zip_longest", "itertools.pairwise"].contains n && vs[0]? == some (rawInt _)) = true then _ else _) Q E s
       rw [if_neg (by intro h; rw [hn, Bool.false_and] at h; cases h)]
       exact wpAny_pure hQ))
noncomputable def Itl (K : PySem.W.Frag) (a : Addr) : It :=
 ⟨fun i H => ∃ xs x, SqL K H a xs ∧ xs[i]? = some x, fun i H x H' => H' = H ∧ ∀ xs, SqL K H a xs → xs[i]? = some x, fun i H => ∃ xs, SqL K H a xs ∧ xs.length ≤ i⟩
noncomputable def Itt (K : PySem.W.Frag) (a : Addr) : It :=
 ⟨fun i H => ∃ xs x, SqT K H a xs ∧ xs[i]? = some x, fun i H x H' => H' = H ∧ ∀ xs, SqT K H a xs → xs[i]? = some x, fun i H => ∃ xs, SqT K H a xs ∧ xs.length ≤ i⟩
noncomputable def Itr (lo : Int) (n : Nat) : It := ⟨fun i _ => i < n, fun i H x H' => H' = H ∧ x = .int (lo + i), fun i _ => n ≤ i⟩
theorem turn_list {P : Program} {w : World} {K : PySem.W.Frag} {tg : Expr} (a it : Addr) : Turn P w K tg (Itl K a) [it] it (fun i h => h.IsListIter it a i) where
 mem := by simp
 obj := fun i h st b hb => by
  have e : b = it := by simpa using hb
  subst e
  obtain ⟨o, e, c, d⟩ := st
  exact ⟨o, e, fun v z => by rw [d] at z; cases z⟩
 keep := fun i h h' st k => st.at fun o e => k it (by simp) o e
 item := by
  intro X hP hw hK hc i pins s σ H E I hf st hg
  subst hP hw hK
  obtain ⟨xs, x, hq, hx⟩ := hg
  obtain ⟨its, rv, p, hz⟩ := I.list hq
  obtain ⟨u, hu, ru⟩ := rv.get hx
  obtain ⟨f0, f1, f2, f3, f4, f5⟩ := hf it (by simp)
  refine wpAny_pyNext_list_item st p.isList (x := u) (by simpa using hu) fun h' st' sb => ?_
  have I1 : Inv X pins σ H { s with heap := h' } := I.turned (t' := s.toks) (fun b o hb e => (sb.2 b hb).trans e) f0 f1 f3 f4 f5
  obtain ⟨o, e, c, d⟩ := id st'
  exact ⟨u, rfl, go_of (s := { s with heap := h' }) e c d (by decide) ⟨x, H, I1, ru, ⟨rfl, fun ys hy => by rw [I.list_inj hy hq]; exact hx⟩, st', fun b hb => (hf b hb).1⟩⟩
 done := by
  intro X hP hw hK hc i pins s σ H E I hf st hg
  subst hP hw hK
  obtain ⟨xs, hq, hx⟩ := hg
  obtain ⟨its, rv, p, hz⟩ := I.list hq
  obtain ⟨f0, f1, f2, f3, f4, f5⟩ := hf it (by simp)
  have hl := rv.length
  exact wpAny_pyNext_list_end (I.ok.hd hc) st p.isList (by simp; omega) fun h' eb => ⟨rfl, I.turned (t' := s.toks) (fun b o hb e => eb b o hb e) f0 f1 f3 f4 f5⟩
 self := fun _ _ _ _ _ st h => wpAny_pyIter_listiter st h
theorem turn_tuple {P : Program} {w : World} {K : PySem.W.Frag} {tg : Expr} (a it : Addr) : Turn P w K tg (Itt K a) [it] it (fun i h => h.IsTupleIter it a i) where
 mem := by simp
 obj := fun i h st b hb => by
  have e : b = it := by simpa using hb
  subst e
  obtain ⟨o, e, c, d⟩ := st
  exact ⟨o, e, fun v z => by rw [d] at z; cases z⟩
 keep := fun i h h' st k => st.at fun o e => k it (by simp) o e
 item := by
  intro X hP hw hK hc i pins s σ H E I hf st hg
  subst hP hw hK
  obtain ⟨xs, x, hq, hx⟩ := hg
  obtain ⟨its, rv, p, hz⟩ := I.tuple hq
  obtain ⟨u, hu, ru⟩ := rv.get hx
  obtain ⟨f0, f1, f2, f3, f4, f5⟩ := hf it (by simp)
  refine wpAny_pyNext_tuple_item st (show s.heap.IsTuple a its.toArray from p) (x := u) (by simpa using hu) fun h' st' sb => ?_
  have I1 : Inv X pins σ H { s with heap := h' } := I.turned (t' := s.toks) (fun b o hb e => (sb.2 b hb).trans e) f0 f1 f3 f4 f5
  obtain ⟨o, e, c, d⟩ := id st'
  exact ⟨u, rfl, go_of (s := { s with heap := h' }) e c d (by decide) ⟨x, H, I1, ru, ⟨rfl, fun ys hy => by rw [I.tuple_inj hy hq]; exact hx⟩, st', fun b hb => (hf b hb).1⟩⟩
 done := by
  intro X hP hw hK hc i pins s σ H E I hf st hg
  subst hP hw hK
  obtain ⟨xs, hq, hx⟩ := hg
  obtain ⟨its, rv, p, hz⟩ := I.tuple hq
  obtain ⟨f0, f1, f2, f3, f4, f5⟩ := hf it (by simp)
  have hl := rv.length
  exact wpAny_pyNext_tuple_end (I.ok.hd hc) st (show s.heap.IsTuple a its.toArray from p) (by simp; omega) fun h' eb => ⟨rfl, I.turned (t' := s.toks) (fun b o hb e => eb b o hb e) f0 f1 f3 f4 f5⟩
 self := fun _ _ _ _ _ st h => wpAny_pyIter_tupleiter st h
theorem turn_range {P : Program} {w : World} {K : PySem.W.Frag} {tg : Expr} (it : Addr) (lo : Int) (n : Nat) : Turn P w K tg (Itr lo n) [it] it (fun i h => IsRangeIter h it (lo + (i : Nat) * 1) ((n : Int) - (i : Nat)) 1) where
 mem := by simp
 obj := fun i h st b hb => by
  have e : b = it := by simpa using hb
  subst e
  exact ⟨_, st, fun v z => by
   have z' : Data.fields _ = Data.cell v := z
   cases z'⟩
 keep := fun i h h' st k => k it (by simp) _ st
 item := by
  intro X hP hw hK hc i pins s σ H E I hf st hg
  subst hP hw hK
  obtain ⟨f0, f1, f2, f3, f4, f5⟩ := hf it (by simp)
  have W := Walks.range (prog := X.prog) (w := X.w) (I.ok.hd hc) it lo 1 n
  refine W.item i s _ _ hg st fun v h' tk hv st' kk => ?_
  obtain ⟨t, rfl⟩ := hv
  have I1 : Inv X pins σ H { s with heap := h', toks := tk } := I.turned (fun b o hb e => kk b o (by simpa using hb) e) f0 f1 f3 f4 f5
  refine ⟨_, rfl, go_of (s := { s with heap := h', toks := tk }) (n := "range_iterator") st' rfl rfl (by decide) ⟨.int (lo + i), H, I1, ⟨t, ?_⟩, ⟨rfl, rfl⟩, st', fun b hb => (hf b hb).1⟩⟩
  rw [Int.mul_one]
 done := by
  intro X hP hw hK hc i pins s σ H E I hf st hg
  subst hP hw hK
  obtain ⟨f0, f1, f2, f3, f4, f5⟩ := hf it (by simp)
  exact wpAny_pyNext_range_end (I.ok.hd hc) st (by have : n ≤ i := hg; omega) fun h' eb => ⟨rfl, I.turned (t' := s.toks) (fun b o hb e => eb b o hb e) f0 f1 f3 f4 f5⟩
 self := fun _ _ _ _ _ st h => wpAny_pyIter_rangeiter st h
section
variable {X : Cx} {tg : Expr}
theorem range_it {pins : List (Addr × Obj)} {σ : St} {H : Hp} {s : Shared} {R : It → Hp → Prop} {E : Value → Shared → Prop} {lo hi : Int} {t u v : Tok} {tk : Nat} (I : Inv X pins σ H s) (h1 : -(2 ^ 62) ≤ lo) (h2 : lo < 2 ^ 62) (h3 : -(2 ^ 62) ≤ hi) (h4 : hi < 2 ^ 62)
  (q : R (Itr lo (hi - lo).toNat) H) : wpAny (model X.prog X.w) X.A (pyIter (.ref s.heap.objs.size)) (PIE X pins σ tg R) E { s with heap := s.heap.push { cls := .type "range", data := .fields #[.int lo t, .int hi u, .int 1 v] }, toks := tk } := by
 refine wpAny_pyIter_range (IsRange.new ..) (small_one h1 h2 h3 h4) ?_
 have I1 : Inv X pins σ H { s with heap := s.heap.push { cls := .type "range", data := .fields #[.int lo t, .int hi u, .int 1 v] }, toks := tk } := I.kept fun b o e => Heap.get?_push_of_some _ e
 refine ⟨(s.heap.push { cls := .type "range", data := .fields #[.int lo t, .int hi u, .int 1 v] }).objs.size, [(s.heap.push { cls := .type "range", data := .fields #[.int lo t, .int hi u, .int 1 v] }).objs.size], _, _, H, rfl,
  I1.kept (t' := tk) fun b o e => Heap.get?_push_of_some _ e, turn_range _ lo (hi - lo).toNat, ?_, fun b hb => ?_, q⟩
 ·have e1 : lo + ((0 : Nat) : Int) * 1 = lo := by simp
  have e2 : (((hi - lo).toNat : Nat) : Int) - ((0 : Nat) : Int) = Builtin.Range.rangeSize lo hi 1 := by rw [rangeSize_one]; split <;> omega
  show IsRangeIter _ _ (lo + ((0 : Nat) : Int) * 1) ((((hi - lo).toNat : Nat) : Int) - ((0 : Nat) : Int)) 1
  rw [e1, e2]
  exact Heap.get?_push_size _ rfl
 ·have e : b = (s.heap.push { cls := .type "range", data := .fields #[.int lo t, .int hi u, .int 1 v] }).objs.size := by simpa using hb
  subst e
  exact I1.fpOk (Nat.le_refl _) (I1.hok.fresh (Nat.le_refl _))
noncomputable def iRng1 (ta : TA) : TI := fun σ H R => ta σ H fun vs H1 => ∃ j : Int, vs = [.int j] ∧ -(2 ^ 62) ≤ j ∧ j < 2 ^ 62 ∧ R (Itr 0 j.toNat) H1
theorem Bo {a : Expr} {ta : TA} {p pos : Pos} (hg : Gl X "range") (hm : X.mg "range" = none) (ha : PA X [a] ta) (hs : starEach [a] X.env = [(false, eval a X.env)] := by rfl) : PI X tg (.Call (.Name "range" p) [a] [] pos) (iRng1 ta) := by
 intro pins s σ H R I h
 refine Call_ (ld_blt I hg hm boot_range (PyProof.Rows.callWith_type1 (thn (ha pos pins s σ H _ I h) fun us s1 ⟨vs, H1, I1, r1, q1⟩ => ?_) hs rfl))
 obtain ⟨j, e, q1, q2, q⟩ := q1
 subst e
 cases r1 with
 | cons r rr =>
  cases rr
  obtain ⟨t, rfl⟩ := r
  exact call_range_1 (range_it I1 (by omega) (by omega) q1 q2 (by simpa using q))
noncomputable def tFor (wi : TI) (g : TG) (tb : TS) : TS := fun D σ H => wi σ H fun J H1 => ∃ W : Nat → Nat → St → Hp → Prop, (∃ m, W 0 m σ H1) ∧ ∀ i m σ H, W i m σ H →
 (J.stop i H ∧ D.nx σ H) ∨ (J.go i H ∧ ∃ N : St → Hp → Prop, (∀ σ' H', N σ' H' → ∃ m', m' < m ∧ W (i + 1) m' σ' H') ∧ ∀ x H', J.yld i H x H' → g x σ H' fun σ2 H2 => tb { D with nx := N, ct := N, bk := D.nx } σ2 H2)
noncomputable def GD (fp : List Addr) (h : Heap) : List (Addr × Obj) := fp.filterMap fun b => (h.get? b).map fun o => (b, o)
theorem Dc {fp : List Addr} {h : Heap} {b : Addr} {o : Obj} (hb : b ∈ fp) (e : h.get? b = some o) : (b, o) ∈ GD fp h := List.mem_filterMap.mpr ⟨b, hb, by rw [e]; rfl⟩
theorem of_pinsAt {fp : List Addr} {h : Heap} {p : Addr × Obj} (hp : p ∈ GD fp h) : p.1 ∈ fp ∧ h.get? p.1 = some p.2 := by
 obtain ⟨b, hb, e⟩ := List.mem_filterMap.mp hp
 cases q : h.get? b with
 | none => rw [q] at e; cases e
 | some o =>
  rw [q] at e
  have e' : (b, o) = p := Option.some.inj e
  subst e'
  exact ⟨hb, q⟩
theorem Inv.pinned {pins : List (Addr × Obj)} {σ : St} {H : Hp} {s : Shared} {fp : List Addr} (I : Inv X pins σ H s) (hf : ∀ b ∈ fp, FD X pins H b) (ho : ∀ b ∈ fp, ∃ o, s.heap.get? b = some o ∧ ∀ v, o.data ≠ .cell v) : Inv X (pins ++ GD fp s.heap) σ H s :=
 I.pins_of fun p hp => (List.mem_append.mp hp).elim (fun z => I.pin p (List.mem_append_right _ z)) fun z => by
  obtain ⟨hb, e⟩ := of_pinsAt z
  obtain ⟨f0, f1, f2, _⟩ := hf p.1 hb
  obtain ⟨o, e', d⟩ := ho p.1 hb
  rw [e] at e'; cases e'
  exact ⟨e, f0, f1, f2, d⟩
theorem Inv.unpinned {pins pl : List (Addr × Obj)} {σ : St} {H : Hp} {s : Shared} (I : Inv X (pins ++ pl) σ H s) : Inv X pins σ H s := I.pins_of fun p hp => I.pin p (List.mem_append_right _ (List.mem_append_left _ hp))
theorem Ed {iter : Expr} {body : List Stmt} {wi : TI} {g : TG} {tb : TS} {pos : Pos} (hp : PassesOwn (model X.prog X.w) X.A X.env X.xe) (hc : X.calm = true) (hi : PI X tg iter wi) (hg : PG X tg g) (hb : PSs X body tb)
  (hs : ∀ x, foldedSetIterable iter X.env x = pure x := by intro _; rfl) : PS X (.For tg iter body [] pos) (tFor wi g tb) := by
 intro pins s σ H D I h
 refine wpAny_For (thn (hi pins s σ H _ I h) fun v s1 h1 => thn h1 fun itv s2 h2 => ?_) hs
 obtain ⟨it, fp, tn, J, H2, e, I2, T, st2, f2, W, ⟨m0, w0⟩, turn⟩ := h2
 subst e
 have stat : ∀ {H' : Hp}, (∀ b ∈ fp, H' b = none) → ∀ b ∈ fp, FD X pins H' b := fun hn b hb => ⟨hn b hb, (f2 b hb).2⟩
 refine codeAny_forLoop_any (fun n s' => ∃ i σ' H', Inv X pins σ' H' s' ∧ tn i s'.heap ∧ (∀ b ∈ fp, H' b = none) ∧ W i n σ' H') ?_ m0 ⟨0, σ, H2, I2, st2, fun b hb => (f2 b hb).1, w0⟩
 rintro n s3 ⟨i, σ3, H3, I3, st3, fr3, w3⟩
 rcases turn i n σ3 H3 w3 with ⟨stop, qn⟩ | ⟨go, N, hN, step⟩
 ·refine wpAny_passesOwn hp (thn (T.done X rfl rfl rfl hc i pins s3 σ3 H3 X.xe I3 (stat fr3) st3 stop) fun r s4 ⟨hr, I4⟩ => ?_)
  subst hr
  exact wpAny_execs_nil ⟨σ3, H3, I4, qn⟩
 ·refine wpAny_passesOwn hp (thn (T.item X rfl rfl rfl hc i pins s3 σ3 H3 X.xe I3 (stat fr3) st3 go) fun r s4 ⟨u, hr, h4⟩ => ?_)
  subst hr
  refine wpAny_passesOwn hp (thn h4 fun _ s5 ⟨x, H5, I5, r5, y5, st5, fr5⟩ => ?_)
  have I5' := I5.pinned (stat fr5) (T.obj _ _ st5)
  refine wpAny_passesOwn hp (thn (hg _ s5 σ3 H5 x u _ I5' r5 (step x H5 y5)) fun _ s6 ⟨σ6, H6, I6, q6⟩ => ?_)
  refine wpAny_passesOwn hp (thn (hb _ s6 σ6 H6 _ I6 q6) fun f s7 q7 => ?_)
  have again : ∀ {σ7 : St} {H7 : Hp}, Inv X (pins ++ GD fp s5.heap) σ7 H7 s7 → N σ7 H7 → ∃ m, m < n ∧ ∃ i σ' H', Inv X pins σ' H' s7 ∧ tn i s7.heap ∧ (∀ b ∈ fp, H' b = none) ∧ W i m σ' H' := fun {σ7 H7} I7 n7 => by
   obtain ⟨m', hm, w7⟩ := hN σ7 H7 n7
   refine ⟨m', hm, i + 1, σ7, H7, I7.unpinned, T.keep _ _ _ st5 fun b hb o e => (I7.pin (b, o) (List.mem_append_right _ (List.mem_append_right _ (Dc hb e)))).1, fun b hb => ?_, w7⟩
   obtain ⟨o, e, d⟩ := T.obj _ _ st5 b hb
   exact (I7.pin (b, o) (List.mem_append_right _ (List.mem_append_right _ (Dc hb e)))).2.1
  cases f with
  | next => obtain ⟨σ7, H7, I7, n7⟩ := q7; exact again I7 n7
  | cont => obtain ⟨σ7, H7, I7, n7⟩ := q7; exact again I7 n7
  | brk => obtain ⟨σ7, H7, I7, q7⟩ := q7; exact ⟨σ7, H7, I7.unpinned, q7⟩
  | ret v => obtain ⟨x7, σ7, H7, I7, r7, q7⟩ := q7; exact ⟨x7, σ7, H7, I7.unpinned, r7, q7⟩
end
noncomputable abbrev R2 := V → V → Hp → VK → Prop
noncomputable def OpR (X : Cx) (f : Value → Value → Sem Value) (r : R2) : Prop :=
 ∀ (pins : List (Addr × Obj)) (s : Shared) (σ : St) (H : Hp) (x y : V) (v u : Value) (Q : VK), Inv X pins σ H s → RelV x v → RelV y u → r x y H Q →
  wpAny (model X.prog X.w) X.A (f v u) (EP X pins σ Q) X.xe s
noncomputable def UnR (X : Cx) (f : Value → Sem Value) (r : V → Hp → VK → Prop) : Prop :=
 ∀ (pins : List (Addr × Obj)) (s : Shared) (σ : St) (H : Hp) (x : V) (v : Value) (Q : VK), Inv X pins σ H s → RelV x v → r x H Q →
  wpAny (model X.prog X.w) X.A (f v) (EP X pins σ Q) X.xe s
noncomputable def E2 (X : Cx) (f : Value) (r : List V → Hp → VK → Prop) : Prop :=
 ∀ (pins : List (Addr × Obj)) (s : Shared) (σ : St) (H : Hp) (xs : List V) (us : List Value) (Q : VK), Inv X pins σ H s → Vals xs us → r xs H Q →
  wpAny (model X.prog X.w) X.A (call f us) (EP X pins σ Q) X.xe s
noncomputable def TruR (X : Cx) (r : V → Hp → (Bool → Hp → Prop) → Prop) : Prop :=
 ∀ (pins : List (Addr × Obj)) (s : Shared) (σ : St) (H : Hp) (x : V) (v : Value) (Q : Bool → Hp → Prop), Inv X pins σ H s → RelV x v → r x H Q →
  wpAny (model X.prog X.w) X.A (truthy v) (TP X pins σ Q) X.xe s
noncomputable abbrev tOp (r : R2) (ta tb : TE) : TE := fun σ H Q => ta σ H fun x H1 => tb σ H1 fun y H2 => r x y H2 Q
noncomputable abbrev tUn (r : V → Hp → VK → Prop) (ta : TE) : TE := fun σ H Q => ta σ H fun x H1 => r x H1 Q
noncomputable def rI (C : Int → Int → Prop) (g : Int → Int → V) : R2 := fun x y H Q => ∃ i j, x = .int i ∧ y = .int j ∧ C i j ∧ Q (g i j) H
noncomputable def rI0 (g : Int → Int → V) : R2 := fun x y H Q => ∃ i j, x = .int i ∧ y = .int j ∧ Q (g i j) H
noncomputable def rU (g : Int → V) : V → Hp → VK → Prop := fun x H Q => ∃ i, x = .int i ∧ Q (g i) H
section
variable {X : Cx} {a b c : Expr} {ta tb tc : TE} {pos : Pos}
theorem binT (ha : PE X a ta) (hb : PE X b tb) {pins : List (Addr × Obj)} {s : Shared} {σ : St} {H : Hp} {R : V → V → Hp → Prop} (I : Inv X pins σ H s)
  (h : ta σ H fun x H1 => tb σ H1 fun y H2 => R x y H2) {Q : Value → Shared → Prop} {f : Value → Value → Sem Value}
  (hf : ∀ v u s2 x y H2, Inv X pins σ H2 s2 → RelV x v → RelV y u → R x y H2 → wpAny (model X.prog X.w) X.A (f v u) Q X.xe s2) :
  wpAny (model X.prog X.w) X.A (eval a X.env) (fun v s₁ => wpAny (model X.prog X.w) X.A (eval b X.env) (fun u s₂ => wpAny (model X.prog X.w) X.A (f v u) Q X.xe s₂) X.xe s₁) X.xe s := by
 refine thn (ha pins s σ H _ I h) fun v s1 ⟨x, H1, I1, r1, q1⟩ => ?_
 refine thn (hb pins s1 σ H1 _ I1 q1) fun u s2 ⟨y, H2, I2, r2, q2⟩ => ?_
 exact hf v u s2 x y H2 I2 r1 r2 q2
theorem Ah {op : Operator} {r : R2} (ho : OpR X (binaryOp op) r) (ha : PE X a ta) (hb : PE X b tb) : PE X (.BinOp a op b pos) (tOp r ta tb) := by
 intro pins s σ H Q I h
 exact wpAny_BinOp (binT ha hb I h fun v u s2 x y H2 I2 rx ry q => ho pins s2 σ H2 x y v u Q I2 rx ry q)
theorem pe_un {op : UnaryOp} {r : V → Hp → VK → Prop} (ho : UnR X (unaryOp op) r) (ha : PE X a ta) : PE X (.UnaryOp op a pos) (tUn r ta) := by
 intro pins s σ H Q I h
 exact UnaryOp_ (thn (ha pins s σ H _ I h) fun v s1 ⟨x, H1, I1, r1, q1⟩ => ho pins s1 σ H1 x v Q I1 r1 q1)
theorem opI {f : Value → Value → Sem Value} {C : Int → Int → Prop} {g : Int → Int → Int}
  (rule : ∀ (i j : Int) (t u : Tok) (s : Shared) (Q : Value → Shared → Prop) (E : Value → Shared → Prop), C i j → Q (.int (g i j) s.toks) { s with toks := s.toks + 1 } → wpAny (model X.prog X.w) X.A (f (.int i t) (.int j u)) Q E s) :
  OpR X f (rI C fun i j => .int (g i j)) := by
 intro pins s σ H x y v u Q I rx ry h
 obtain ⟨i, j, rfl, rfl, hc, q⟩ := h
 obtain ⟨t, rfl⟩ := rx
 obtain ⟨t', rfl⟩ := ry
 exact rule i j t t' s _ _ hc ⟨.int (g i j), H, I.tok _, ⟨_, rfl⟩, q⟩
theorem opI0 {f : Value → Value → Sem Value} {g : Int → Int → Int}
  (rule : ∀ (i j : Int) (t u : Tok) (s : Shared) (Q : Value → Shared → Prop) (E : Value → Shared → Prop), Q (.int (g i j) s.toks) { s with toks := s.toks + 1 } → wpAny (model X.prog X.w) X.A (f (.int i t) (.int j u)) Q E s) :
  OpR X f (rI0 fun i j => .int (g i j)) := by
 intro pins s σ H x y v u Q I rx ry h
 obtain ⟨i, j, rfl, rfl, q⟩ := h
 obtain ⟨t, rfl⟩ := rx
 obtain ⟨t', rfl⟩ := ry
 exact rule i j t t' s _ _ ⟨.int (g i j), H, I.tok _, ⟨_, rfl⟩, q⟩
theorem opB0 {f : Value → Value → Sem Value} {g : Int → Int → Bool}
  (rule : ∀ (i j : Int) (t u : Tok) (s : Shared) (Q : Value → Shared → Prop) (E : Value → Shared → Prop), Q (.bool (g i j)) s → wpAny (model X.prog X.w) X.A (f (.int i t) (.int j u)) Q E s) :
  OpR X f (rI0 fun i j => .bl (g i j)) := by
 intro pins s σ H x y v u Q I rx ry h
 obtain ⟨i, j, rfl, rfl, q⟩ := h
 obtain ⟨t, rfl⟩ := rx
 obtain ⟨t', rfl⟩ := ry
 exact rule i j t t' s _ _ ⟨.bl (g i j), H, I, rfl, q⟩
noncomputable def CDiv (i j : Int) : Prop := 0 < j ∧ j < 1073741824
noncomputable def CPow (i j : Int) : Prop := 0 ≤ j ∧ j ≤ 1000000 ∧ i.natAbs < 2 ^ 64
noncomputable def CMul (i j : Int) : Prop := (-(2 ^ 64) < i ∧ i < 2 ^ 64) ∨ (-(2 ^ 64) < j ∧ j < 2 ^ 64)
theorem CMul.ok {i j : Int} (h : CMul i j) : IntMulOk i j := by
 rcases h with ⟨h1, h2⟩ | ⟨h1, h2⟩
 ·exact .of_left (intBits_le_64 h1 h2)
 ·exact .of_right (intBits_le_64 h1 h2)
theorem op_add : OpR X (binaryOp .Add) (rI0 fun i j => .int (i + j)) := opI0 fun _ _ _ _ _ _ _ q => add_int q
theorem op_sub : OpR X (binaryOp .Sub) (rI0 fun i j => .int (i - j)) := opI0 fun _ _ _ _ _ _ _ q => sub_int q
theorem op_mul : OpR X (binaryOp .Mult) (rI CMul fun i j => .int (i * j)) := opI fun _ _ _ _ _ _ _ hc q => mul_int q hc.ok
theorem DQ : OpR X (binaryOp .FloorDiv) (rI CDiv fun i j => .int (i / j)) := opI fun i j _ _ _ _ _ hc q => by
 have h1 : (0 : Int) < j := hc.1
 have h2 : j < 1073741824 := hc.2
 exact floordiv_int (by omega) (by rw [Int.fdiv_eq_ediv_of_nonneg i (by omega)]; exact q) (.inl (PyProof.noPylong_small (by omega)))
theorem CC : OpR X (binaryOp .Mod) (rI (fun _ j => 0 < j) fun i j => .int (i % j)) := opI fun i j _ _ _ _ _ hc q => by
 have h1 : (0 : Int) < j := hc
 exact mod_int' (by omega) (by rw [Int.fmod_eq_emod_of_nonneg i (by omega)]; exact q)
theorem unI {f : Value → Sem Value} {g : Int → Int}
  (rule : ∀ (i : Int) (t : Tok) (s : Shared) (Q : Value → Shared → Prop) (E : Value → Shared → Prop), Q (.int (g i) s.toks) { s with toks := s.toks + 1 } → wpAny (model X.prog X.w) X.A (f (.int i t)) Q E s) :
  UnR X f (rU fun i => .int (g i)) := by
 intro pins s σ H x v Q I rx h
 obtain ⟨i, rfl, q⟩ := h
 obtain ⟨t, rfl⟩ := rx
 exact rule i t s _ _ ⟨.int (g i), H, I.tok _, ⟨_, rfl⟩, q⟩
theorem un_neg : UnR X (unaryOp .USub) (rU fun i => .int (-i)) := unI fun _ _ _ _ _ q => neg_int q
end
noncomputable def scal : V → V → Bool
 | .non, .non => true | .non, .int _ => true | .int _, .non => true | .non, .bl _ => true | .bl _, .non => true | .non, .str _ => true | .str _, .non => true
 | .int _, .int _ => true | .bl _, .bl _ => true | .str _, .str _ => true | .byt _, .byt _ => true
 | .int _, .str _ => true | .str _, .int _ => true | .bl _, .str _ => true | .str _, .bl _ => true
 | _, _ => false
noncomputable def rEq : R2 := fun x y H Q => scal x y = true ∧ Q (.bl (decide (x = y))) H
noncomputable def rNe : R2 := fun x y H Q => scal x y = true ∧ Q (.bl (!decide (x = y))) H
theorem dec_int {i j : Int} : decide (V.int i = V.int j) = (i == j) := by
 rw [Bool.eq_iff_iff]
 simp
theorem dec_bl {i j : Bool} : decide (V.bl i = V.bl j) = (i == j) := by
 rw [Bool.eq_iff_iff]
 simp
theorem dec_str {i j : Str} : decide (V.str i = V.str j) = (i == j) := by
 rw [Bool.eq_iff_iff]
 simp
theorem dec_byt {i j : Array UInt8} : decide (V.byt i = V.byt j) = (i.toList == j.toList) := by
 rw [Bool.eq_iff_iff]
 cases i
 cases j
 simp
section
variable {X : Cx} {a b c : Expr} {ta tb tc : TE} {pos : Pos}
theorem BD {pins : List (Addr × Obj)} {σ : St} {H : Hp} {s : Shared} {Q : VK} {k k' : Bool} (I : Inv X pins σ H s) (q : Q (.bl k) H) (e : k = k') : EP X pins σ Q (.bool k') s := by
 subst e
 exact ⟨.bl k, H, I, rfl, q⟩
theorem Ax : OpR X (compareOp .Eq) rEq := by
 intro pins s σ H x y v u Q I rx ry h
 obtain ⟨hs, q⟩ := h
 cases x with
 | non =>
  cases rx
  cases y with
  | non => cases ry; exact PySem.EqNone.eq_none_none (BD I q (by simp))
  | bl j => cases ry; exact PySem.EqNone.eq_none_bool (BD I q (by simp))
  | int j => obtain ⟨t', rfl⟩ := ry; exact PySem.EqNone.eq_none_int (BD I q (by simp))
  | str j => obtain ⟨t', rfl⟩ := ry; exact PySem.EqNone.eq_none_str (BD I q (by simp))
  | _ => exact absurd (show false = true from hs) Bool.false_ne_true
 | bl i =>
  cases rx
  cases y with
  | non => cases ry; exact PySem.EqNone.eq_bool_none (BD I q (by simp))
  | bl j => cases ry; exact eq_bool (BD I q dec_bl)
  | str j => obtain ⟨t', rfl⟩ := ry; exact PySem.EqMixed.eq_bool_str (BD I q (by simp))
  | _ => exact absurd (show false = true from hs) Bool.false_ne_true
 | int i =>
  obtain ⟨t, rfl⟩ := rx
  cases y with
  | non => cases ry; exact PySem.EqNone.eq_int_none (BD I q (by simp))
  | int j => obtain ⟨t', rfl⟩ := ry; exact eq_int (BD I q dec_int)
  | str j => obtain ⟨t', rfl⟩ := ry; exact PySem.EqMixed.eq_int_str (BD I q (by simp))
  | _ => exact absurd (show false = true from hs) Bool.false_ne_true
 | str i =>
  obtain ⟨t, rfl⟩ := rx
  cases y with
  | non => cases ry; exact PySem.EqNone.eq_str_none (BD I q (by simp))
  | bl j => cases ry; exact PySem.EqMixed.eq_str_bool (BD I q (by simp))
  | int j => obtain ⟨t', rfl⟩ := ry; exact PySem.EqMixed.eq_str_int (BD I q (by simp))
  | str j => obtain ⟨t', rfl⟩ := ry; exact eq_str (BD I q dec_str)
  | _ => exact absurd (show false = true from hs) Bool.false_ne_true
 | byt i =>
  obtain ⟨t, rfl⟩ := rx
  cases y with
  | byt j => obtain ⟨t', rfl⟩ := ry; exact PySem.W.eq_bytes (BD I q dec_byt)
  | _ => exact absurd (show false = true from hs) Bool.false_ne_true
 | _ => cases y <;> exact absurd (show false = true from hs) Bool.false_ne_true
theorem op_ne : OpR X (compareOp .NotEq) rNe := by
 intro pins s σ H x y v u Q I rx ry h
 obtain ⟨hs, q⟩ := h
 cases x with
 | non =>
  cases rx
  cases y with
  | non => cases ry; exact PySem.EqNone.ne_none_none (BD I q (by simp))
  | bl j => cases ry; exact PySem.EqNone.ne_none_bool (BD I q (by simp))
  | int j => obtain ⟨t', rfl⟩ := ry; exact PySem.EqNone.ne_none_int (BD I q (by simp))
  | str j => obtain ⟨t', rfl⟩ := ry; exact PySem.EqNone.ne_none_str (BD I q (by simp))
  | _ => exact absurd (show false = true from hs) Bool.false_ne_true
 | bl i =>
  cases rx
  cases y with
  | non => cases ry; exact PySem.EqNone.ne_bool_none (BD I q (by simp))
  | bl j => cases ry; exact ne_bool (BD I q (congrArg not dec_bl))
  | str j => obtain ⟨t', rfl⟩ := ry; exact PySem.EqMixed.ne_bool_str (BD I q (by simp))
  | _ => exact absurd (show false = true from hs) Bool.false_ne_true
 | int i =>
  obtain ⟨t, rfl⟩ := rx
  cases y with
  | non => cases ry; exact PySem.EqNone.ne_int_none (BD I q (by simp))
  | int j => obtain ⟨t', rfl⟩ := ry; exact ne_int (BD I q (congrArg not dec_int))
  | str j => obtain ⟨t', rfl⟩ := ry; exact PySem.EqMixed.ne_int_str (BD I q (by simp))
  | _ => exact absurd (show false = true from hs) Bool.false_ne_true
 | str i =>
  obtain ⟨t, rfl⟩ := rx
  cases y with
  | non => cases ry; exact PySem.EqNone.ne_str_none (BD I q (by simp))
  | bl j => cases ry; exact PySem.EqMixed.ne_str_bool (BD I q (by simp))
  | int j => obtain ⟨t', rfl⟩ := ry; exact PySem.EqMixed.ne_str_int (BD I q (by simp))
  | str j => obtain ⟨t', rfl⟩ := ry; exact ne_str (BD I q (congrArg not dec_str))
  | _ => exact absurd (show false = true from hs) Bool.false_ne_true
 | byt i =>
  obtain ⟨t, rfl⟩ := rx
  cases y with
  | byt j => obtain ⟨t', rfl⟩ := ry; exact PySem.W.ne_bytes (BD I q (congrArg not dec_byt))
  | _ => exact absurd (show false = true from hs) Bool.false_ne_true
 | _ => cases y <;> exact absurd (show false = true from hs) Bool.false_ne_true
theorem op_lt : OpR X (compareOp .Lt) (rI0 fun i j => .bl (decide (i < j))) := opB0 fun _ _ _ _ _ _ _ q => lt_int q
theorem op_le : OpR X (compareOp .LtE) (rI0 fun i j => .bl (decide (i ≤ j))) := opB0 fun _ _ _ _ _ _ _ q => le_int q
theorem op_gt : OpR X (compareOp .Gt) (rI0 fun i j => .bl (decide (j < i))) := opB0 fun _ _ _ _ _ _ _ q => gt_int q
theorem op_in_str : OpR X (compareOp .In) (fun x y H Q => ∃ i j, x = .str i ∧ y = .str j ∧ Q (.bl (!(Builtin.Str.occurrences j i 0 j.length 1).isEmpty)) H) := by
 intro pins s σ H x y v u Q I rx ry h
 obtain ⟨i, j, rfl, rfl, q⟩ := h
 obtain ⟨t, rfl⟩ := rx
 obtain ⟨t', rfl⟩ := ry
 exact in_str (BD I q rfl)
theorem op_isN : OpR X (compareOp .Is) (fun x y H Q => y = .non ∧ Q (.bl (decide (x = .non))) H) := by
 intro pins s σ H x y v u Q I rx ry h
 obtain ⟨rfl, q⟩ := h
 cases ry
 refine is_none_gen (BD I q ?_)
 cases x <;> first
  | (cases rx; rfl)
  | (obtain ⟨t, rfl⟩ := rx; rfl)
theorem AX (b : Expr) {op : CmpOp} (h : op ≠ .In := by decide) (h2 : op ≠ .NotIn := by decide) : behindInMarks op b = false := by
 have e1 : (op == CmpOp.In) = false := by cases op <;> first | rfl | exact absurd rfl h
 have e2 : (op == CmpOp.NotIn) = false := by cases op <;> first | rfl | exact absurd rfl h2
 cases b <;> simp [behindInMarks, e1, e2]
theorem Dr {op : CmpOp} {r : R2} (ho : OpR X (compareOp op) r) (ha : PE X a ta) (hb : PE X b tb) (hm : behindInMarks op b = false) : PE X (.Compare a [op] [b] pos) (tOp r ta tb) := by
 intro pins s σ H Q I h
 exact wpAny_Compare1 (binT ha hb I h fun v u s2 x y H2 I2 rx ry q => ho pins s2 σ H2 x y v u Q I2 rx ry q) hm
noncomputable abbrev tTest (t : TE) : TT := fun σ H Q => t σ H fun x H' => ∃ k, x = .bl k ∧ Q k H'
theorem AL {op : CmpOp} {r : R2} (ho : OpR X (compareOp op) r) (ha : PE X a ta) (hb : PE X b tb) (hm : behindInMarks op b = false) : PT X (.Compare a [op] [b] pos) (tTest (tOp r ta tb)) := by
 intro pins s σ H Q I h
 refine wpAny_isTrue_Compare1 (thn (ha pins s σ H _ I h) fun v s1 ⟨x, H1, I1, r1, q1⟩ => thn (hb pins s1 σ H1 _ I1 q1) fun u s2 ⟨y, H2, I2, r2, q2⟩ =>
  thn (ho pins s2 σ H2 x y v u _ I2 r1 r2 q2) fun c s3 ⟨z, H3, I3, r3, k, e, q3⟩ => ?_) hm
 subst e
 cases r3
 exact wpAny_truthy_bool ⟨H3, I3, q3⟩
noncomputable def tChain (r r' : R2) (ta tb tc : TE) : TE := fun σ H Q => ta σ H fun x H1 => tb σ H1 fun y H2 => r x y H2 fun z H3 => ∃ k, z = .bl k ∧
 (if k = true then tc σ H3 fun w' H4 => r' y w' H4 Q else Q (.bl false) H3)
theorem pt_chain {op op' : CmpOp} {r r' : R2} (ho : OpR X (compareOp op) r) (ho' : OpR X (compareOp op') r') (ha : PE X a ta) (hb : PE X b tb) (hc : PE X c tc)
  (hm : lastMarks [op, op'] [b, c] = false := by with_unfolding_all rfl) : PT X (.Compare a [op, op'] [b, c] pos) (tTest (tChain r r' ta tb tc)) := by
 intro pins s σ H Q I h
 refine isTrue_chain (thn (ha pins s σ H _ I h) fun v s1 ⟨x, H1, I1, r1, q1⟩ => test_link (thn (hb pins s1 σ H1 _ I1 q1) fun u s2 ⟨y, H2, I2, r2, q2⟩ =>
  thn (ho pins s2 σ H2 x y v u _ I2 r1 r2 q2) fun d s3 ⟨z, H3, I3, r3, k, e, q3⟩ => ?_)) hm
 subst e
 cases r3
 refine wpAny_truthy_bool ?_
 cases k with
 | false =>
  obtain ⟨k', e', q'⟩ := q3
  cases e'
  exact ite_ff ⟨H3, I3, q'⟩
 | true =>
  refine ite_tt (test_last (thn (hc pins s3 σ H3 _ I3 q3) fun w' s4 ⟨z', H4, I4, r4, q4⟩ => thn (ho' pins s4 σ H4 y z' u w' _ I4 r2 r4 q4) fun d' s5 ⟨z2, H5, I5, r5, k2, e2, q5⟩ => ?_))
  subst e2
  cases r5
  exact wpAny_truthy_bool ⟨H5, I5, q5⟩
noncomputable def TruV (K : PySem.W.Frag) (x : V) (H : Hp) (k : Bool) : Prop :=
 match x with
 | .non => k = false
 | .bl b => k = b
 | .int i => k = (i != 0)
 | .str y => y.length ≤ sizeLine ∧ k = ((y.length : Int) != 0)
 | .byt y => y.size ≤ sizeLine ∧ k = ((y.size : Int) != 0)
 | .ref p => (∃ xs, SqL K H p xs ∧ k = !xs.isEmpty) ∨ (∃ xs, SqT K H p xs ∧ k = !xs.isEmpty) ∨ ∃ kvs, H p = some (.dK kvs) ∧ k = !kvs.isEmpty
 | _ => False
theorem isEmpty_kv {κ : Type} {kvs : List (κ × V)} {vs : List (κ × Value)} (r : KV kvs vs) : (!vs.isEmpty) = !kvs.isEmpty := by
 cases r <;> rfl
theorem isEmpty_of {xs : List V} {its : List Value} (r : Vals xs its) : (!its.toArray.isEmpty) = !xs.isEmpty := by
 cases r <;> simp
theorem Fk : (sizeLine : Nat) < 2 ^ 63 := by rw [sizeLine_eq]; decide
theorem tru_ok : TruR X (fun x H Q => ∃ k, TruV X.K x H k ∧ Q k H) := by
 intro pins s σ H x v Q I rx h
 obtain ⟨k, e, q⟩ := h
 have hl := Fk
 have hs : sizeLine = 16777216 := sizeLine_eq
 cases x with
 | non =>
  cases rx
  have e' : k = false := e
  subst e'
  exact truthy_none ⟨H, I, q⟩
 | bl b =>
  cases rx
  have e' : k = b := e
  subst e'
  exact wpAny_truthy_bool ⟨H, I, q⟩
 | int i =>
  obtain ⟨t, rfl⟩ := rx
  have e' : k = (i != 0) := e
  subst e'
  exact PySem.P.truthy_int ⟨H, I, q⟩
 | str y =>
  obtain ⟨t, rfl⟩ := rx
  obtain ⟨hy, e'⟩ : y.length ≤ sizeLine ∧ k = ((y.length : Int) != 0) := e
  subst e'
  exact PySem.P.truthy_str (by omega) ⟨H, I.tok _, q⟩
 | byt y =>
  obtain ⟨t, rfl⟩ := rx
  obtain ⟨hy, e'⟩ : y.size ≤ sizeLine ∧ k = ((y.size : Int) != 0) := e
  subst e'
  exact PySem.W.truthy_bytes (by omega) ⟨H, I.tok _, q⟩
 | ref p =>
  cases rx
  have e' : (∃ xs, SqL X.K H p xs ∧ k = !xs.isEmpty) ∨ (∃ xs, SqT X.K H p xs ∧ k = !xs.isEmpty) ∨ ∃ kvs, H p = some (.dK kvs) ∧ k = !kvs.isEmpty := e
  rcases e' with ⟨xs, hx, e'⟩ | ⟨xs, hx, e'⟩ | ⟨kvs, hx, e'⟩
  ·subst e'
   obtain ⟨its, r, pl, hz⟩ := I.list hx
   have hlen := r.length
   exact wpAny_truthy_list pl.isList (by simp only [List.size_toArray]; omega) ⟨H, I.tok _, by rw [isEmpty_of r]; exact q⟩
  ·subst e'
   obtain ⟨its, r, pl, hz⟩ := I.tuple hx
   have hlen := r.length
   exact truthy_tuple pl (by simp only [List.size_toArray]; omega) ⟨H, I.tok _, by rw [isEmpty_of r]; exact q⟩
  ·subst e'
   obtain ⟨hz, hS, vs, r, m⟩ : kvs.length ≤ sizeLine ∧ (p == sysModules) = false ∧ ∃ vs, KV kvs vs ∧ s.heap.DictOf (BY X.prog X.w) p vs := I.hok p _ hx
   have hlen : kvs.length = vs.length := Paired.length r
   exact wpAny_truthy_dict hS m (by omega) ⟨H, I.tok _, by rw [isEmpty_kv r]; exact q⟩
 | _ => exact (show False from e).elim
theorem pt_truth (ha : PE X a ta) (he : ∀ whole, isTrue a X.env whole = (do let v ← whole; standAt a.pos; holding [v] (truthy v))) :
  PT X a (fun σ H Q => ta σ H fun x H' => ∃ k, TruV X.K x H' k ∧ Q k H') := by
 intro pins s σ H Q I h
 exact isTrue_plain (thn (ha pins s σ H _ I h) fun v s1 ⟨x, H1, I1, r1, q1⟩ => tru_ok pins s1 σ H1 x v Q I1 r1 q1) (he _)
theorem op_add_str : OpR X (binaryOp .Add) (fun x y H Q => ∃ i j, x = .str i ∧ y = .str j ∧ i.length + j.length ≤ sizeLine ∧ Q (.str (i ++ j)) H) := by
 intro pins s σ H x y v u Q I rx ry h
 obtain ⟨i, j, rfl, rfl, hz, q⟩ := h
 obtain ⟨t, rfl⟩ := rx
 obtain ⟨t', rfl⟩ := ry
 exact add_str (fun t' tk => ⟨.str (i ++ j), H, I.tok _, ⟨_, rfl⟩, q⟩) hz
theorem Ff {x : V} {us : List Value} (r : Vals [x] us) : ∃ u, us = [u] ∧ RelV x u := by
 cases r with
 | cons r1 r2 => cases r2; exact ⟨_, rfl, r1⟩
theorem vals2 {x y : V} {us : List Value} (r : Vals [x, y] us) : ∃ u w', us = [u, w'] ∧ RelV x u ∧ RelV y w' := by
 cases r with
 | cons r1 r2 =>
  cases r2 with
  | cons r3 r4 => cases r4; exact ⟨_, _, rfl, r1, r3⟩
end
section
variable {prog : Program} {w : World} {A : Around} {E : Value → Shared → Prop} {s : Shared} {K : PySem.W.Frag} {x dx C f : Addr} {mA : Str → Option Value} {name : Str} {v : Value}
end
theorem RelO.some_of {v : V} {o : Option Value} (r : RelO (some v) o) : ∃ u, o = some u ∧ RelV v u := by
 cases o with
 | none => exact (show False from r).elim
 | some u => exact ⟨u, rfl, r⟩
section
variable {P : Program} {w : World} {H H' : Hp} {h h' : Heap} {a C dx : Addr} {fs fs' : List (Str × V)}
end
section
variable {X : Cx} {pins : List (Addr × Obj)} {σ : St} {H : Hp} {s : Shared} {a C dx : Addr} {fs : List (Str × V)} {f : Str} {v : V} {A : Around} {E : Value → Shared → Prop}
theorem Inv.made (I : Inv X pins σ H s) : Inv X pins σ (upd (upd H s.heap.objs.size (.own (s.heap.objs.size + 1))) (s.heap.objs.size + 1) (.ins C s.heap.objs.size []))
  { s with heap := (s.heap.push PySem.W.emptyDict).push (PySem.W.instObj C s.heap.objs.size) } := by
 have e1 : (s.heap.push PySem.W.emptyDict).get? s.heap.objs.size = some PySem.W.emptyDict := Heap.get?_push_size s.heap rfl
 have e2 : ((s.heap.push PySem.W.emptyDict).push (PySem.W.instObj C s.heap.objs.size)).get? (s.heap.objs.size + 1) = some (PySem.W.instObj C s.heap.objs.size) := by
  have := Heap.get?_push_size (s.heap.push PySem.W.emptyDict) (o := PySem.W.instObj C s.heap.objs.size) rfl
  rwa [Heap.size_push] at this
 have e3 : (s.heap.push PySem.W.emptyDict).Ns s.heap.objs.size (fun _ => none) := ⟨PySem.W.emptyDict, #[], _, e1, rfl, (fun e he => absurd he (by simp)), fun _ => rfl⟩
 have I1 := I.laid (a := s.heap.objs.size) (o := .own (s.heap.objs.size + 1)) (h' := s.heap.push PySem.W.emptyDict) (t' := s.toks) (fun b u q => Heap.get?_push_of_some _ q) (Nat.le_refl _) ⟨_, e1⟩
 refine I1.laid (a := s.heap.objs.size + 1) (o := .ins C s.heap.objs.size []) (t' := s.toks) (fun b u q => Heap.get?_push_of_some _ q) (Nat.le_of_eq (Heap.size_push _ _)) ?_
 have ne : s.heap.objs.size ≠ s.heap.objs.size + 1 := Nat.ne_of_lt (Nat.lt_succ_self _)
 refine ⟨by rw [Ao ne, AQ], Nat.zero_le _, ne, e2, fun _ => none, (Heap.Ns1.of_empty e3).at fun o q => Heap.get?_push_of_some _ q, fun _ => True.intro, fun y hy => absurd rfl hy⟩
end
section
variable {X : Cx} {o e value : Expr} {f : Str} {pos pos' tpos : Pos} {ta tv : TE}
end
section
variable {X : Cx} {pins : List (Addr × Obj)} {σ : St} {H : Hp} {s : Shared} {A : Around} {E : Value → Shared → Prop} {Q : Value → Shared → Prop} {c : Value} {b : Bool}
end
structure Room (k : Nat) (A : Around) : Prop where
 hd : A.handled = none
 dp : A.depth + 3 * k + 5 < recursionLimit
 un : A.units + 16 * k + 200 < cLine
theorem Room.mono {j k : Nat} {A : Around} (r : Room k A) (h : j ≤ k) : Room j A := ⟨r.hd, by have := r.dp; omega, by have := r.un; omega⟩
theorem Room.deeper {k : Nat} {A : Around} (r : Room (k + 1) A) (env : Env) : Room k (A.deeper env) :=
 ⟨r.hd, by have := r.dp; show A.depth + 1 + 3 * k + 5 < _; omega, by have := r.un; show A.units + 3 + 16 * k + 200 < _; omega⟩
theorem Room.in1 {k : Nat} {A : Around} (r : Room (k + 1) A) : Room k A.in1 :=
 ⟨r.hd, by have := r.dp; show A.depth + 3 * k + 5 < _; omega, by have := r.un; show A.units + 1 + 16 * k + 200 < _; omega⟩
theorem Room.depth {k : Nat} {A : Around} (r : Room k A) : A.depth < recursionLimit := by have := r.dp; omega
theorem Room.units {k : Nat} {A : Around} (r : Room k A) : A.units + 64 < cLine := by have := r.un; omega
noncomputable abbrev C0 : TA := fun _ H Q => Q [] H
noncomputable abbrev Ag (ta : TE) (tr : TA) : TA := fun σ H Q => ta σ H fun x H1 => tr σ H1 fun xs H2 => Q (x :: xs) H2
section
variable {X : Cx} {e : Expr} {es : List Expr} {te : TE} {t : TA} {pos : Pos}
theorem A9 : PA X [] C0 := fun _ _ _ _ H Q I h => Calls.spliced_nil ⟨[], H, I, .nil, h⟩
theorem A4 (ha : PE X e te) (hr : PA X es t) (hs : starEach (e :: es) X.env = (false, eval e X.env) :: starEach es X.env := by rfl) : PA X (e :: es) (Ag te t) := by
 intro pos pins s σ H Q I h
 rw [hs]
 show wpAny _ _ (spliced ((false, eval e X.env) :: backTo pos (starEach es X.env))) _ _ s
 refine Calls.spliced_cons (thn (ha pins s σ H _ I h) fun u s1 ⟨x, H1, I1, r1, q1⟩ => ?_)
 exact thn (hr pos pins s1 σ H1 _ I1 q1) fun us s2 ⟨xs, H2, I2, r2, q2⟩ => ⟨x :: xs, H2, I2, .cons r1 r2, q2⟩
noncomputable abbrev tTup (t : TA) : TE := fun σ H Q => t σ H fun xs H1 => xs.length ≤ sizeLine ∧ ∀ p, H1 p = none → Q (.ref p) (upd H1 p (.tup xs))
noncomputable abbrev tLst (t : TA) : TE := fun σ H Q => t σ H fun xs H1 => xs.length ≤ sizeLine ∧ ∀ p, H1 p = none → Q (.ref p) (upd H1 p (.lst xs))
theorem BI {x1} (h : PA X es t) : PE X (.Tuple es x1 pos) (tTup t) := by
 intro pins s σ H Q I hq
 refine wpAny_Tuple_spliced (thn (h pos pins s σ H _ I hq) fun us s1 ⟨xs, H1, I1, r, z, q⟩ => ⟨by rw [← r.length]; exact z, ?_⟩)
 have hf : H1 s1.heap.objs.size = none := I1.hok.fresh (Nat.le_refl _)
 refine ⟨.ref s1.heap.objs.size, upd H1 s1.heap.objs.size (.tup xs), I1.laid (t' := s1.toks) (fun b u e => Heap.get?_push_of_some _ e) (Nat.le_refl _) ?_, rfl, q _ hf⟩
 exact ⟨z, us, r, ⟨_, Heap.get?_push_size _ rfl, rfl, _, rfl⟩⟩
theorem CI (h : PA X es t) : PE X (.List es pos) (tLst t) := by
 intro pins s σ H Q I hq
 refine wpAny_List_spliced (thn (h pos pins s σ H _ I hq) fun us s1 ⟨xs, H1, I1, r, z, q⟩ => ⟨by rw [← r.length]; exact z, ?_⟩)
 have hf : H1 s1.heap.objs.size = none := I1.hok.fresh (Nat.le_refl _)
 refine ⟨.ref s1.heap.objs.size, upd H1 s1.heap.objs.size (.lst xs), I1.laid (t' := s1.toks) (fun b u e => Heap.get?_push_of_some _ e) (Nat.le_refl _) ?_, rfl, q _ hf⟩
 exact ⟨z, us, 0, r, Heap.get?_push_size _ rfl⟩
end
noncomputable abbrev Sp := List V → Hp → VK → XK → Prop
noncomputable abbrev CXT := List Env → Hp → Shared → XK → Value → Shared → Prop
structure Env0 (P : Program) (w : World) (K : PySem.W.Frag) (mg : Str → Option Value) (base : Heap) (A : Around) (outer : List Env) (s : Shared) (H : Hp) : Prop where
 frames : A.frames = some outer
 mod : Mod K mg base
 bs : ∀ b o, base.get? b = some o → s.heap.get? b = some o ∧ H b = none
 bsz : base.objs.size ≤ s.heap.objs.size
 funs : s.heap.FunFrames base outer
 frf : ∀ b ∈ frs outer, H b = none
 hok : HOk P w H s.heap
 bare : AllBare s.gens
noncomputable def CE (outer : List Env) (P : Program) (w : World) (H : Hp) (s : Shared) (Q : VK) (u : Value) (s' : Shared) : Prop :=
 ∃ v H', s'.os = s.os ∧ AllBare s'.gens ∧ Un (frs outer) [] H H' s.heap s'.heap ∧ HOk P w H' s'.heap ∧ RelV v u ∧ Q v H'
noncomputable def CR (CX : CXT) (outer : List Env) (P : Program) (w : World) (H : Hp) (s : Shared) (Q : VK) (E : XK) (r : Result) (s' : Shared) : Prop :=
 match r with
 | .ok (.ret u) => CE outer P w H s Q u s'
 | .ok _ => False
 | .error e => CX outer H s E e s'
structure FnOk (P : Program) (w : World) (K : PySem.W.Frag) (mg : Str → Option Value) (base : Heap) (CX : CXT) (k : Nat) (f : Addr) (fd : FuncData) (ps : List Str) (sp : Sp) : Prop where
 len : ∀ vs H Q E, sp vs H Q E → vs.length = ps.length
 run : ∀ (A : Around) (outer : List Env) (s : Shared) (H : Hp) (args : Args) (us : List Value) (vs : List V) (Q : VK) (E : XK), Room k A → Env0 P w K mg base A outer s H → BindsTo s fd args (ps.zip us) → Vals vs us → sp vs H Q E →
  codeAny (model P w) A (.call (.ref f) args) (CR CX outer P w H s Q E) s
theorem FnOk.mono {P : Program} {w : World} {K : PySem.W.Frag} {mg : Str → Option Value} {base : Heap} {CX : CXT} {j k : Nat} {f : Addr} {fd : FuncData} {ps : List Str} {sp : Sp} (F : FnOk P w K mg base CX j f fd ps sp) (h : j ≤ k) :
  FnOk P w K mg base CX k f fd ps sp := ⟨F.len, fun A outer s H args us vs Q E hr => F.run A outer s H args us vs Q E (hr.mono h)⟩
theorem FnOk.imp {P : Program} {w : World} {K : PySem.W.Frag} {mg : Str → Option Value} {base : Heap} {CX : CXT} {k : Nat} {f : Addr} {fd : FuncData} {ps : List Str} {sp sp' : Sp} (F : FnOk P w K mg base CX k f fd ps sp)
  (h : ∀ vs H Q E, sp' vs H Q E → sp vs H Q E) : FnOk P w K mg base CX k f fd ps sp' :=
 ⟨fun vs H Q E q => F.len vs H Q E (h _ _ _ _ q), fun A outer s H args us vs Q E hr he hb hv hs => F.run A outer s H args us vs Q E hr he hb hv (h _ _ _ _ hs)⟩
theorem Env0.in1 {P : Program} {w : World} {K : PySem.W.Frag} {mg : Str → Option Value} {base : Heap} {A : Around} {outer : List Env} {s : Shared} {H : Hp} (e : Env0 P w K mg base A outer s H) :
  Env0 P w K mg base A.in1 outer s H := ⟨e.frames, e.mod, e.bs, e.bsz, e.funs, e.frf, e.hok, e.bare⟩
section
variable {X : Cx} {pins : List (Addr × Obj)} {σ : St} {H : Hp} {s s' : Shared}
theorem Inv.env0 (I : Inv X pins σ H s) : Env0 X.prog X.w X.K X.mg X.base X.A X.stack s H :=
 ⟨I.ok.frames, I.ok.mod, I.bs, Nat.le_trans I.ok.bsz I.sz, I.stack, I.stkFree, I.hok, I.bare⟩
theorem Inv.after {Q : VK} {u : Value} (I : Inv X pins σ H s) (h : CE X.stack X.prog X.w H s Q u s') : EP X pins σ Q u s' := by
 obtain ⟨v, H', os, bare, un, hok, r, q⟩ := h
 obtain ⟨hh, g, d, t, os'⟩ := s'
 obtain rfl : os' = s.os := os
 exact ⟨v, H', I.call (h' := hh) (g' := g) (d' := d) (t' := t) (ch := []) un hok bare (fun b z => absurd z (by simp)), r, q⟩
end
noncomputable abbrev Dv (sp : Sp) (dvs : List V) (E : XK) (t : TA) : TE := fun σ H Q => t σ H fun vs H1 => sp (vs ++ dvs) H1 Q E
noncomputable def Binds (K : PySem.W.Frag) (fd : FuncData) (ps : List Str) (ds : List Value) : Prop :=
 ∀ (s : Shared) (us : List Value), K.In s.heap → (us ++ ds).length = ps.length → BindsTo s fd ⟨us, []⟩ (ps.zip (us ++ ds))
theorem Binds.all {K : PySem.W.Frag} {fd : FuncData} {ps : List Str} (h : ∀ us : List Value, us.length = ps.length → bindArgs fd ⟨us, []⟩ = pure (ps.zip us)) : Binds K fd ps [] := fun s us _ hl => by
 rw [List.append_nil] at hl ⊢
 exact .of_eq (h us hl)
noncomputable def Passes (CX : CXT) (X : Cx) (E : XK) : Prop := ∀ (pins : List (Addr × Obj)) (σ : St) (H : Hp) (s : Shared) (e : Value) (s' : Shared), Inv X pins σ H s → CX X.stack H s E e s' → X.xe e s'
section
variable {X : Cx} {CX : CXT} {k : Nat} {f C : Addr} {fd : FuncData} {ps : List Str} {sp : Sp} {dvs : List V} {ds : List Value} {E : XK} {x m : Str} {p pos apos : Pos} {e o : Expr} {es : List Expr} {ta : TE} {t : TA}
theorem run_fn {pins : List (Addr × Obj)} {σ : St} {H : Hp} {s : Shared} {Q : VK} {us : List Value} {vs : List V} (F : FnOk X.prog X.w X.K X.mg X.base CX k f fd ps sp) (hr : Room k X.A) (hb : Binds X.K fd ps ds) (hd : Vals dvs ds) (hx : Passes CX X E)
  (I : Inv X pins σ H s) (r : Vals vs us) (h : sp (vs ++ dvs) H Q E) : wpAny (model X.prog X.w) X.A (call (.ref f) us) (EP X pins σ Q) X.xe s := by
 have r2 : Vals (vs ++ dvs) (us ++ ds) := r.append hd
 have hl : (us ++ ds).length = ps.length := by rw [← r2.length]; exact F.len _ _ _ _ h
 refine wpAny_call (codeAny_mono (F.run X.A X.stack s H ⟨us, []⟩ (us ++ ds) (vs ++ dvs) Q E hr I.env0 (hb s us I.kIn hl) r2 h) fun r s' hq => ?_)
 cases r with
 | error e => exact hx pins σ H s e s' I hq
 | ok fl =>
  cases fl with
  | ret u => exact I.after hq
  | next => exact False.elim hq
  | brk => exact False.elim hq
  | cont => exact False.elim hq
theorem pe_call (F : FnOk X.prog X.w X.K X.mg X.base CX k f fd ps sp) (hr : Room k X.A) (hg : Gl X x) (hm : X.mg x = some (.ref f)) (hk : PySem.W.keepIn X.K (.ref f) = true) (hb : Binds X.K fd ps ds) (hd : Vals dvs ds) (hx : Passes CX X E)
  (ha : PA X (e :: es) t) (hdb : (x == ("__debug__" : Str)) = false := by decide) (he : starEach (e :: es) X.env = (false, eval e X.env) :: starEach es X.env := by rfl) (hpl : (backTo pos (starEach es X.env)).any (·.1) = false := by rfl) :
  PE X (.Call (.Name x p) (e :: es) [] pos) (Dv sp dvs E t) := by
 intro pins s σ H Q I h
 refine wpAny_Call_Name_kw (ld_glob I hg hm ?_ hdb)
 refine PySem.W.callWith_K (h₀ := X.base) I.ok.mod.kin hk (thn (ha pos pins s σ H _ I h) fun us s1 ⟨vs, H1, I1, r, q⟩ => ⟨I1.kIn, ?_⟩) he hpl
 exact run_fn F hr hb hd hx I1 r q
end
section
variable {X : Cx} {CX : CXT} {k : Nat} {f C : Addr} {fd : FuncData} {ps ks : List Str} {sp : Sp} {E : XK} {x m : Str} {p pos apos kpos : Pos} {e o : Expr} {es : List Expr} {kws : List Keyword} {te ta : TE} {t tk : TA} {nm : Option Str}
variable {g : List Value → List Value → List Value} {gV : List V → List V → List V}
end
structure FnScope (N P : List Str) (sc : Scope) : Prop where
 kind : sc.kind = .function
 co : sc.isCoroutine = false
 gen : sc.isGenerator = false
 nd : N.Nodup
 pre : N.take P.length = P
 par : ∀ x ∈ P, sc.names.lookup x = some .local ∨ sc.names.lookup x = some .cell
 nofree : ∀ y ∈ sc.names, y.2 ≠ .free
theorem bindL_out {kindOf : Str → Option NameKind} {x : Str} : ∀ {binds : List (Str × Value)} {m : Str → Option Value}, (∀ v, (x, v) ∉ binds) → bindL kindOf binds m x = m x
 | [], _, _ => rfl
 | (n, v) :: r, m, h => by
  unfold bindL
  rw [bindL_out fun w hw => h w (List.mem_cons_of_mem _ hw)]
  split
  ·have : x ≠ n := by rintro rfl; exact h v List.mem_cons_self
   simp [this]
  ·rfl
theorem bindC_out {kindOf : Str → Option NameKind} {x : Str} : ∀ {binds : List (Str × Value)} {m : Str → Option Value}, (∀ v, (x, v) ∉ binds) → bindC kindOf binds m x = m x
 | [], _, _ => rfl
 | (n, v) :: r, m, h => by
  unfold bindC
  rw [bindC_out fun w hw => h w (List.mem_cons_of_mem _ hw)]
  split
  ·rfl
  ·have : x ≠ n := by rintro rfl; exact h v List.mem_cons_self
   simp [this]
theorem bindL_get {kindOf : Str → Option NameKind} {x : Str} {v : Value} : ∀ {P : List Str} {vs : List Value} {i : Nat} {m : Str → Option Value}, P.Nodup → P[i]? = some x → vs[i]? = some v → kindOf x = some .local →
  bindL kindOf (P.zip vs) m x = some v
 | [], _, _, _, _, h, _, _ => by simp at h
 | _ :: _, [], _, _, _, _, h, _ => by simp at h
 | p :: P, w :: vs, 0, m, nd, h1, h2, hk => by
  simp at h1 h2; subst h1; subst h2
  show bindL kindOf ((p, w) :: P.zip vs) m p = _
  unfold bindL
  rw [bindL_out fun v hv => (List.nodup_cons.mp nd).1 (List.of_mem_zip hv).1, if_pos hk]
  simp
 | p :: P, w :: vs, i + 1, m, nd, h1, h2, hk => by
  show bindL kindOf ((p, w) :: P.zip vs) m x = _
  unfold bindL
  exact bindL_get (i := i) (List.nodup_cons.mp nd).2 (by simpa using h1) (by simpa using h2) hk
theorem bindC_get {kindOf : Str → Option NameKind} {x : Str} {v : Value} : ∀ {P : List Str} {vs : List Value} {i : Nat} {m : Str → Option Value}, P.Nodup → P[i]? = some x → vs[i]? = some v → kindOf x ≠ some .local →
  bindC kindOf (P.zip vs) m x = some v
 | [], _, _, _, _, h, _, _ => by simp at h
 | _ :: _, [], _, _, _, _, h, _ => by simp at h
 | p :: P, w :: vs, 0, m, nd, h1, h2, hk => by
  simp at h1 h2; subst h1; subst h2
  show bindC kindOf ((p, w) :: P.zip vs) m p = _
  unfold bindC
  rw [bindC_out fun v hv => (List.nodup_cons.mp nd).1 (List.of_mem_zip hv).1, if_neg hk]
  simp
 | p :: P, w :: vs, i + 1, m, nd, h1, h2, hk => by
  show bindC kindOf ((p, w) :: P.zip vs) m x = _
  unfold bindC
  exact bindC_get (i := i) (List.nodup_cons.mp nd).2 (by simpa using h1) (by simpa using h2) hk
noncomputable def start (N : List Str) (vs : List V) : St := vs.map some ++ List.replicate (N.length - vs.length) none
noncomputable def cxOf (CX : CXT) (P : Program) (w : World) (K : PySem.W.Frag) (mg : Str → Option Value) (base : Heap) (N : List Str) (qual : Str) (scope : Scope) (f : Addr) (cd : Value) (A : Around) (outer : List Env) (s : Shared) (H : Hp) (E : XK) : Cx where
 prog := P
 w := w
 K := K
 mg := mg
 base := base
 A := A.deeper (envOfC qual scope s.heap.objs.size f cd)
 N := N
 s₀ := s
 H₀ := H
 env := envOfC qual scope s.heap.objs.size f cd
 outer := outer
 stack := envOfC qual scope s.heap.objs.size f cd :: outer
 ex := []
 calm := true
 fn := fun _ => true
 pn := []
 xe := fun e s' => wpAny (model P w) (A.deeper (envOfC qual scope s.heap.objs.size f cd)) (leaving (envOfC qual scope s.heap.objs.size f cd) e) (fun _ s'' => CX outer H s E e s'') (fun e' s'' => CX outer H s E e' s'') s'
theorem cell_has {sc : Scope} {n : Nat} {x : Str} (h : sc.names.lookup x = some .cell) : ∃ c, (cellsFrom n sc.names []).lookup x = some c := by
 have q := PySem.W.cellsFrom_some sc.names n [] (.inl h)
 exact Option.isSome_iff_exists.mp q
theorem inv_start {CX : CXT} {P : Program} {w : World} {K : PySem.W.Frag} {mg : Str → Option Value} {base : Heap} {N ps : List Str} {qual : Str} {scope : Scope} {f : Addr} {cd : Value} {A : Around} {outer : List Env} {s s1 : Shared} {H : Hp} {E : XK} {us : List Value} {vs : List V}
  (S : FnScope N ps scope) (hd : A.handled = none) (e0 : Env0 P w K mg base A outer s H) (hl : vs.length = ps.length) (r : Vals vs us)
  (x : InCallC s s.heap.objs.size (bindL (envOfC qual scope s.heap.objs.size f cd).kindOf (ps.zip us) fun _ => none) (cellsFrom (s.heap.objs.size + 1) scope.names []) (bindC (envOfC qual scope s.heap.objs.size f cd).kindOf (ps.zip us) fun _ => none) s1) :
  Inv (cxOf CX P w K mg base N qual scope f cd A outer s H E) [] (start N vs) H s1 := by
 have hpl : ps.length ≤ N.length := by have := congrArg List.length S.pre; rw [List.length_take] at this; omega
 obtain ⟨h1, tk, rfl, hk⟩ := x.done
 have noA : ∀ b : Addr, b ∉ (cxOf CX P w K mg base N qual scope f cd A outer s H E).ex := fun b z => absurd (show b ∈ ([] : List Addr) from z) (by simp)
 refine ⟨⟨e0.mod, S.kind, rfl, rfl, Nat.le_refl _, fun y z c h1 h2 => ?_, fun y hy => ?_, fun y c _ h => ?_, fun _ => hd, Around.frames_deeper e0.frames, .inr ⟨rfl, rfl⟩, fun b z => absurd z (noA b), e0.bs, e0.bsz, fun b _ _ => noA b, fun b z => absurd z (noA b), e0.funs, e0.frf⟩,
  rfl, e0.bare, Un.kept hk, ⟨_, x.toInCall.ns, fun i y v h1 h2 h3 => ?_⟩, fun y c h => ⟨_, x.cell y c h⟩, e0.hok.fresh (Nat.le_refl _), fun y c h => ?_, fun p hp => absurd (show p ∈ ([] : List (Addr × Obj)) from hp) (by simp), e0.hok.kept hk, ?_⟩
 ·exact name_of_addr x.apart (PySem.mem_of_lookup h1) (PySem.mem_of_lookup h2)
 ·have hy : scope.names.lookup y = some .cell ∨ scope.names.lookup y = some .free := hy
  rcases hy with hy | hy
  ·exact cell_has hy
  ·exact absurd rfl (S.nofree _ (PySem.mem_of_lookup hy))
 ·exact Nat.le_of_lt (x.above y c (PySem.mem_of_lookup h))
 ·have hi : i < vs.length := by
   unfold start at h2
   by_cases hi : i < vs.length
   ·exact hi
   ·rw [List.getElem?_append_right (by simpa using hi)] at h2
    rw [List.getElem?_replicate] at h2
    split at h2 <;> cases h2
  have ha : vs[i]? = some v := by
   unfold start at h2
   rw [List.getElem?_append_left (by simpa using hi), List.getElem?_map] at h2
   cases e : vs[i]? with
   | none => rw [e] at h2; cases h2
   | some a => rw [e] at h2; cases h2; rfl
  obtain ⟨u, hu, rv⟩ := r.get ha
  have hp : ps[i]? = some y := by
   rw [← S.pre, List.getElem?_take_of_lt (by omega)]; exact h1
  have ndP : ps.Nodup := by rw [← S.pre]; exact S.nd.sublist (List.take_sublist _ _)
  refine ⟨u, rv, ?_⟩
  rcases S.par y (List.mem_of_getElem? hp) with k | k
  ·exact .inl ⟨k, bindL_get ndP hp hu k⟩
  ·obtain ⟨c, e⟩ := cell_has (n := s.heap.objs.size + 1) k
   refine .inr ⟨.inl k, c, e, ?_⟩
   have q := x.cell y c e
   rw [bindC_get ndP hp hu (by show scope.names.lookup y ≠ _; rw [k]; decide)] at q
   exact q
 ·exact e0.hok.fresh (Nat.le_of_lt (x.above y c (PySem.mem_of_lookup h)))
 ·unfold start
  show _ = N.length
  rw [List.length_append, List.length_map, List.length_replicate]
  omega
theorem fn_of {CX : CXT} {P : Program} {w : World} {K : PySem.W.Frag} {mg : Str → Option Value} {base : Heap} {k : Nat} {f : Addr} {name qual : Str} {params : Arguments} {body : List Stmt} {scope : Scope} {dV kV doc pm cdv ct oc : Value} {an od : Option Addr}
  {osl : Array (Option Value)} {N ps : List Str} {sp : Sp} (lk : K.lookup f = some ⟨oc, od, .func (PySem.W.fnOf name qual params body scope dV kV doc pm an cdv ct), osl⟩) (hcd : PySem.W.codeIn K cdv qual = true) (S : FnScope N ps scope)
  (len : ∀ vs H Q E, sp vs H Q E → vs.length = ps.length)
  (hbody : ∀ (A : Around) (outer : List Env) (s : Shared) (H : Hp) (vs : List V) (Q : VK) (E : XK), Room k (A.deeper (envOfC qual scope s.heap.objs.size f cdv)) → sp vs H Q E →
   ∃ t, PSs (cxOf CX P w K mg base N qual scope f cdv A outer s H E) body t ∧ t { nx := fun _ H' => Q .non H', rt := Q } (start N vs) H) :
  FnOk P w K mg base CX (k + 1) f (PySem.W.fnOf name qual params body scope dV kV doc pm an cdv ct) ps sp := by
 refine ⟨len, fun A outer s H args us vs Q E hr e0 hb r hsp => ?_⟩
 have hl := len _ _ _ _ hsp
 have KX : K.In s.heap := e0.mod.kin.keeps fun b o e => (e0.bs b o e).1
 have lim : s.heap.NoLimit := e0.mod.nolimit.keeps fun b o e => (e0.bs b o e).1
 have hkind : ∀ y ∈ ps.zip us, scope.names.lookup y.1 = some .local ∨ (scope.names.lookup y.1 = some .cell ∧ ((cellsFrom (s.heap.objs.size + 1) scope.names []).lookup y.1).isSome = true) := fun ⟨n, v⟩ hy => by
  rcases S.par n (List.of_mem_zip hy).1 with q | q
  ·exact .inl q
  ·exact .inr ⟨q, PySem.W.cellsFrom_some _ _ _ (.inl q)⟩
 refine codeAny_call_function hr.depth (KX _ _ lk) rfl S.co S.gen rfl (PySem.W.codeRec_of KX hcd) (hb _ _ _ _ ?_)
 refine wpAny_newFunctionEnv_cells S.kind hkind fun env he s1 x => ?_
 subst he
 refine ⟨lim.keeps x.toInCall.keep, codeAny_func ?_⟩
 obtain ⟨t, ht, hq⟩ := hbody A outer s H vs Q E (hr.deeper _) hsp
 have I : Inv (cxOf CX P w K mg base N qual scope f cdv A outer s H E) [] (start N vs) H s1 := inv_start S hr.hd e0 hl r x
 refine wpAny_mono (ht [] s1 (start N vs) H _ I hq) (fun fl s' hs => ?_) fun e s' hs => hs
 have fin : ∀ {σ' : St} {H' : Hp} {v : V} {u : Value}, Inv (cxOf CX P w K mg base N qual scope f cdv A outer s H E) [] σ' H' s' → RelV v u → Q v H' → CE outer P w H s Q u s' :=
  fun {σ' H' v u} J rv q => ⟨v, H', J.os, J.bare, J.base, J.hok, rv, q⟩
 cases fl with
 | ret u =>
  obtain ⟨v, σ', H', J, rv, q⟩ := hs
  exact fin J rv q
 | next =>
  obtain ⟨σ', H', J, q⟩ := hs
  exact fin (v := V.non) (u := Value.none) J rfl q
 | brk =>
  obtain ⟨_, _, _, q⟩ := hs
  exact False.elim q
 | cont =>
  obtain ⟨_, _, _, q⟩ := hs
  exact False.elim q
section
variable {X : Cx} {x : Str} {p pos : Pos} {e : Expr} {es : List Expr} {t : TA} {id T : String} {r : List V → Hp → VK → Prop}
noncomputable abbrev tCB (r : List V → Hp → VK → Prop) (t : TA) : TE := fun σ H Q => t σ H fun vs H1 => r vs H1 Q
theorem Ai (hc : E2 X (.builtin id) r) (hg : Gl X x) (hm : X.mg x = none) (hv : bootBuiltins x = some (.builtin id)) (ha : PA X (e :: es) t) (hn : x ≠ "__name__" := by decide) (hdb : (x == ("__debug__" : Str)) = false := by decide)
  (he : starEach (e :: es) X.env = (false, eval e X.env) :: starEach es X.env := by rfl) (hpl : (backTo pos (starEach es X.env)).any (·.1) = false := by rfl) : PE X (.Call (.Name x p) (e :: es) [] pos) (tCB r t) := by
 intro pins s σ H Q I h
 refine wpAny_Call_Name_kw (ld_blt I hg hm hv ?_ hn hdb)
 exact PyProof.Rows.callWith_builtin1 (thn (ha pos pins s σ H _ I h) fun us s1 ⟨vs, H1, I1, r1, q1⟩ => hc pins s1 σ H1 vs us Q I1 r1 q1) he hpl
theorem DV (hc : E2 X (.type T) r) (hg : Gl X x) (hm : X.mg x = none) (hv : bootBuiltins x = some (.type T)) (ha : PA X (e :: es) t) (hn : x ≠ "__name__" := by decide) (hdb : (x == ("__debug__" : Str)) = false := by decide)
  (he : starEach (e :: es) X.env = (false, eval e X.env) :: starEach es X.env := by rfl) (hpl : (backTo pos (starEach es X.env)).any (·.1) = false := by rfl) : PE X (.Call (.Name x p) (e :: es) [] pos) (tCB r t) := by
 intro pins s σ H Q I h
 refine wpAny_Call_Name_kw (ld_blt I hg hm hv ?_ hn hdb)
 exact PyProof.Rows.callWith_type1 (thn (ha pos pins s σ H _ I h) fun us s1 ⟨vs, H1, I1, r1, q1⟩ => hc pins s1 σ H1 vs us Q I1 r1 q1) he hpl
end
end L2
namespace HT
open PySem PyProof.Rows
section
open PySem.SeqAt
open PySem.AutoSeq1 (wpAny_loadPart')
open PySem.MeetsSeq PySem.MeetsSeq2 PySem.MeetsSeq3
end
section
variable {prog : Program} {w : World} {A : Around} {E : Value → Shared → Prop} {s : Shared}
noncomputable def sIx (n d : Nat) : Option Int → Nat
 | none => d
 | some v => if v < 0 then (v + (n : Int)).toNat else min v.toNat n
theorem sIx_le (n d : Nat) (hd : d ≤ n) (o : Option Int) : sIx n d o ≤ n := by
 cases o with
 | none => exact hd
 | some v =>
  show (if v < 0 then (v + (n : Int)).toNat else min v.toNat n) ≤ n
  by_cases hv : v < 0
  ·rw [if_pos hv]; omega
  ·rw [if_neg hv]; exact Nat.min_le_right _ _
theorem clip_eq (v : Int) (n d : Nat) : (if v < 0 then max (v + (n : Int)) 0 else min v (n : Int)) = ((sIx n d (some v) : Nat) : Int) := by
 show (if v < 0 then max (v + (n : Int)) 0 else min v (n : Int)) = (((if v < 0 then (v + (n : Int)).toNat else min v.toNat n) : Nat) : Int)
 by_cases hv : v < 0
 ·simp only [if_pos hv]; omega
 ·simp only [if_neg hv]; omega
theorem adjust_gen (lo hi : Option Int) (n : Nat) : Builtin.Slice.sliceAdjust lo hi 1 (n : Int) = (((sIx n 0 lo : Nat) : Int), ((sIx n n hi : Nat) : Int)) := by
 have h1 : ¬ ((1 : Int) < 0) := by omega
 unfold Builtin.Slice.sliceAdjust
 simp only [h1, if_false]
 refine Prod.ext ?_ ?_
 ·cases lo with
  | none => rfl
  | some v => exact clip_eq v n 0
 ·cases hi with
  | none => rfl
  | some v => exact clip_eq v n n
theorem places_gen (i j : Nat) : Builtin.Slice.slicePlaces (i : Int) (j : Int) 1 = j - i := by
 unfold Builtin.Slice.slicePlaces
 have h1 : (1 : Int) > 0 := by omega
 simp only [h1, if_true, Int.ediv_one]
 split <;> omega
theorem slicePart_ {v : Value} {o : Option Int} {Q : Option Int → Shared → Prop} (p : IsPart v o) (h : Q o s) : wpAny (model prog w) A (Builtin.Slice.slicePartIndex v) Q E s := by
 cases p with
 | none => exact slicePart_none h
 | int i t => exact slicePart_int h
theorem sliceApplied_gen {sl : Addr} {vl vu : Value} {lo hi : Option Int} {n : Nat} {Q : Int × Int × Nat → Shared → Prop} (hs : s.heap.IsSliceOf sl vl vu .none) (pl : IsPart vl lo) (pu : IsPart vu hi)
  (h : Q (((sIx n 0 lo : Nat) : Int), 1, sIx n n hi - sIx n 0 lo) s) : wpAny (model prog w) A (Builtin.Slice.sliceApplied (.ref sl) (pure (n : Int))) Q E s := by
 obtain ⟨os, hos, hcs, hds⟩ := id hs
 unfold Builtin.Slice.sliceApplied Builtin.Slice.sliceFields
 refine wpAny_bind (wpAny_bind (wpAny_field hos hds (x := vl) rfl (wpAny_bind (wpAny_field hos hds (x := vu) rfl (wpAny_bind (wpAny_field hos hds (x := .none) rfl (wpAny_pure ?_)))))))
 refine wpAny_bind (slicePart_none ?_)
 show wpAny _ _ (if ((1 : Int) == 0) = true then _ else _) _ _ s
 rw [if_neg (by decide)]
 refine wpAny_bind (slicePart_ pl (wpAny_bind (slicePart_ pu (wpAny_bind (wpAny_pure ?_)))))
 show wpAny _ _ (match Builtin.Slice.sliceAdjust lo hi 1 (n : Int) with | (lo, hi) => pure (lo, (1 : Int), Builtin.Slice.slicePlaces lo hi 1)) _ _ s
 rw [adjust_gen lo hi n]
 show wpAny _ _ (pure (((sIx n 0 lo : Nat) : Int), (1 : Int), Builtin.Slice.slicePlaces ((sIx n 0 lo : Nat) : Int) ((sIx n n hi : Nat) : Int) 1)) _ _ s
 rw [places_gen]
 exact wpAny_pure h
theorem pick_gen (xs : Array Value) (i k : Nat) : ((List.range k).filterMap fun (m : Nat) => xs[((i : Int) + (m : Int) * 1).toNat]?).toArray = ((xs.toList.drop i).take k).toArray := by
 have e : (fun (m : Nat) => xs[((i : Int) + (m : Int) * 1).toNat]?) = fun m => xs[i + m]? := by
  funext m
  have : ((i : Int) + (m : Int) * 1).toNat = i + m := by omega
  rw [this]
 rw [e]
 have := pick_run xs i k
 rw [List.filterMap_map] at this
 have e2 : ((fun x => xs[x]?) ∘ fun x => i + x) = fun m => xs[i + m]? := rfl
 rw [e2] at this
 rw [this]
theorem getItem_tuple_cut {t sl : Addr} {items : Array Value} {vl vu : Value} {lo hi : Option Int} {Q : Value → Shared → Prop} (ht : IsTup s.heap t items) (hs : s.heap.IsSliceOf sl vl vu .none) (pl : IsPart vl lo) (pu : IsPart vu hi)
  (hw : ¬ (sIx items.size 0 lo = 0 ∧ sIx items.size items.size hi = items.size))
  (h : Q (.ref s.heap.objs.size) { s with heap := s.heap.push { cls := .type "tuple", data := .seq ((items.toList.drop (sIx items.size 0 lo)).take (sIx items.size items.size hi - sIx items.size 0 lo)).toArray } })
  (hsz : items.size ≤ sizeLine) : wpAny (model prog w) A (getItem (.ref t) (.ref sl)) Q E s := by
 have htake : sizeOk (.seq ((items.toList.drop (sIx items.size 0 lo)).take (sIx items.size items.size hi - sIx items.size 0 lo)).toArray) := by
  show ((items.toList.drop (sIx items.size 0 lo)).take (sIx items.size items.size hi - sIx items.size 0 lo)).toArray.size ≤ sizeLine
  rw [List.size_toArray, List.length_take, List.length_drop, Array.length_toList]
  omega
 have hj : sIx items.size items.size hi ≤ items.size := sIx_le _ _ (Nat.le_refl _) hi
 obtain ⟨os, hos, hcs, hds⟩ := id hs
 have hTs : s.TypeIs (.ref sl) "slice" := ⟨os, hos, hcs⟩
 unfold getItem
 try with_reducible refine wpAny_holding ?_
 first | refine wpAny_bind (wpAny_pure ?_) | skip
 refine wpAny_bind (wpAny_sequenceKey ht.typeIs (by decide) ?_)
 refine wpAny_bind (wpAny_callSpecial?_slot (name := Str.ofString "__getitem__") ht.typeIs PyProof.Rows.slot_tuple_getitem
  (wpAny_call_entry PyProof.Rows.slot_tuple_getitem ht.typeIs entry_tuple_getitem ?_ (args_tuple_getitem _ _)))
 show wpAny _ _ (Builtin.Tuple.tupleItemsOf (.ref t) >>= _) _ _ s
 refine wpAny_bind (tupleItemsOf_ ht ?_)
 refine wpAny_bind (wpAny_typeOf hTs ?_)
 rw [if_pos (by decide)]
 refine wpAny_bind (sliceApplied_gen hs pl pu ?_)
 have hno : ¬ ((((sIx items.size 0 lo : Nat) : Int) == 0 && (1 : Int) == 1 && (sIx items.size items.size hi - sIx items.size 0 lo) == items.size) = true) := by
  intro q
  rw [Bool.and_eq_true, Bool.and_eq_true] at q
  have q1 : ((sIx items.size 0 lo : Nat) : Int) = 0 := eq_of_beq q.1.1
  have q2 : sIx items.size items.size hi - sIx items.size 0 lo = items.size := eq_of_beq q.2
  exact hw ⟨by omega, by omega⟩
 show wpAny _ _ (if (((sIx items.size 0 lo : Nat) : Int) == 0 && (1 : Int) == 1 && (sIx items.size items.size hi - sIx items.size 0 lo) == items.size) = true then _ else _) _ _ s
 rw [if_neg hno, pick_gen]
 first
  | exact wpAny_bind (m := Builtin.Tuple.tupleExact _) (wpAny_newObj_type (wpAny_pure ⟨_, rfl, wpAny_pure h⟩) htake)
  | exact wpAny_bind (m := Builtin.Tuple.tupleExact _) (wpAny_newObj_type (wpAny_bind (wpAny_pure (wpAny_pure ⟨_, rfl, wpAny_pure h⟩))) htake)
  | exact wpAny_bind (wpAny_bind (m := Builtin.Tuple.tupleExact _) (wpAny_newObj_type (wpAny_pure (wpAny_pure ⟨_, rfl, wpAny_pure h⟩)) htake))
  | exact wpAny_bind (wpAny_bind (m := Builtin.Tuple.tupleExact _) (wpAny_newObj_type (wpAny_pure ⟨_, rfl, wpAny_pure h⟩) htake))
end
end HT
namespace L2
open PySem PySem.Spec PyProof.Rows
noncomputable abbrev TO := St → Hp → (Option Int → Hp → Prop) → Prop
noncomputable def PO (X : Cx) (e : Option Expr) (t : TO) : Prop :=
 ∀ (pins : List (Addr × Obj)) (s : Shared) (σ : St) (H : Hp) (Q : Option Int → Hp → Prop), Inv X pins σ H s → t σ H Q →
  wpAny (model X.prog X.w) X.A (evalPart e X.env) (fun u s' => ∃ o H', Inv X pins σ H' s' ∧ IsPart u o ∧ Q o H') X.xe s
noncomputable abbrev tNoPart : TO := fun _ H Q => Q none H
noncomputable abbrev tPart (t : TE) : TO := fun σ H Q => t σ H fun x H1 => ∃ i, x = .int i ∧ Q (some i) H1
section
variable {X : Cx} {e : Expr} {te : TE} {lo hi : Option Expr} {tl th : TO} {pos p2 : Pos}
theorem E6 : PO X none tNoPart := by
 intro pins s σ H Q I h
 rw [evalPart_none]
 exact wpAny_pure ⟨none, H, I, .none, h⟩
theorem Cs (h : PE X e te) : PO X (some e) (tPart te) := by
 intro pins s σ H Q I hw
 rw [evalPart_some]
 refine thn (h pins s σ H _ I hw) fun u s1 ⟨x, H1, I1, r1, q1⟩ => ?_
 obtain ⟨i, rfl, q⟩ := q1
 obtain ⟨t, rfl⟩ := r1
 exact ⟨some i, H1, I1, .int i t, q⟩
noncomputable def SlR (X : Cx) (r : V → Option Int → Option Int → Hp → VK → Prop) : Prop :=
 ∀ (pins : List (Addr × Obj)) (s : Shared) (σ : St) (H : Hp) (x : V) (v vl vu : Value) (lo hi : Option Int) (sl : Addr) (Q : VK), Inv X pins σ H s → RelV x v → s.heap.IsSliceOf sl vl vu .none → IsPart vl lo → IsPart vu hi → r x lo hi H Q →
  ∃ T id, typeLookup (.type T) "__getitem__" = pure (some (.builtin id)) ∧ s.TypeIs v T ∧ wpAny (model X.prog X.w) X.A (getItem v (.ref sl)) (EP X pins σ Q) X.xe s
noncomputable abbrev tSl (r : V → Option Int → Option Int → Hp → VK → Prop) (te : TE) (tl th : TO) : TE := fun σ H Q => te σ H fun x H1 => tl σ H1 fun l H2 => th σ H2 fun u H3 => r x l u H3 Q
theorem Ci {r : V → Option Int → Option Int → Hp → VK → Prop} (hr : SlR X r) (he : PE X e te) (hl : PO X lo tl) (hu : PO X hi th) : PE X (.Subscript e (.Slice lo hi none p2) pos) (tSl r te tl th) := by
 intro pins s σ H Q I h
 refine Subscript_ (thn (he pins s σ H _ I h) fun v s1 ⟨x, H1, I1, r1, q1⟩ => ?_)
 refine wpAny_Slice (thn (hl pins s1 σ H1 _ I1 q1) fun vl s2 ⟨l, H2, I2, pl, q2⟩ => thn (hu pins s2 σ H2 _ I2 q2) fun vu s3 ⟨u, H3, I3, pu, q3⟩ => ?_)
 rw [evalPart_none]
 refine wpAny_pure ?_
 have I4 : Inv X pins σ H3 { s3 with heap := s3.heap.push { cls := .type "slice", data := .fields #[vl, vu, .none] } } := I3.kept (t' := s3.toks) fun b ob q => Heap.get?_push_of_some _ q
 obtain ⟨T, id, hT, ht, hg⟩ := hr pins { s3 with heap := s3.heap.push { cls := .type "slice", data := .fields #[vl, vu, .none] } } σ H3 x v vl vu l u s3.heap.objs.size Q I4 r1 (Heap.IsSliceOf.new ..) pl pu q3
 show wpAny (model X.prog X.w) X.A (subscriptTail e (.Slice lo hi none p2) v (.ref s3.heap.objs.size)) (EP X pins σ Q) X.xe { s3 with heap := s3.heap.push { cls := .type "slice", data := .fields #[vl, vu, .none] } }
 exact tail_any (ops := [.ref s3.heap.objs.size, v]) ht hT hg (by with_unfolding_all rfl)
noncomputable def GT (xs : List V) (lo hi : Option Int) : List V := (xs.drop (HT.sIx xs.length 0 lo)).take (HT.sIx xs.length xs.length hi - HT.sIx xs.length 0 lo)
theorem Dt (xs : List V) (lo hi : Option Int) : (GT xs lo hi).length ≤ xs.length := by
 unfold GT
 rw [List.length_take, List.length_drop]
 omega
noncomputable def rSlT (K : PySem.W.Frag) : V → Option Int → Option Int → Hp → VK → Prop := fun x lo hi H Q => ∃ a xs, x = .ref a ∧ SqT K H a xs ∧
 ¬ (HT.sIx xs.length 0 lo = 0 ∧ HT.sIx xs.length xs.length hi = xs.length) ∧ ∀ p, H p = none → Q (.ref p) (upd H p (.tup (GT xs lo hi)))
theorem sl_tup : SlR X (rSlT X.K) := by
 intro pins s σ H x v vl vu lo hi sl Q I rx hs pl pu h
 obtain ⟨a, xs, rfl, hx, hw, q⟩ := h
 cases rx
 obtain ⟨its, r, ht, hz⟩ := I.tuple hx
 have hlen : its.toArray.size = xs.length := by rw [List.size_toArray]; exact r.length.symm
 refine ⟨"tuple", _, PyProof.Rows.slot_tuple_getitem.lookup, ht.typeIs, ?_⟩
 refine HT.getItem_tuple_cut ht hs pl pu (by rw [hlen]; exact hw) ?_ (by rw [hlen]; exact hz)
 rw [hlen]
 refine ⟨.ref s.heap.objs.size, _, I.laid (t' := s.toks) (o := .tup (GT xs lo hi)) (fun b ob q => Heap.get?_push_of_some _ q) (Nat.le_refl _) ?_, rfl, q _ (I.hok.fresh (Nat.le_refl _))⟩
 exact ⟨Nat.le_trans (Dt xs lo hi) hz, _, (r.drop (HT.sIx xs.length 0 lo)).take (HT.sIx xs.length xs.length hi - HT.sIx xs.length 0 lo), IsTup.new _ _⟩
end
noncomputable def ixN (n : Nat) (i : Int) : Option Nat := if 0 ≤ i then (if i < n then some i.toNat else none) else if -(n : Int) ≤ i then some (i + n).toNat else none
noncomputable def atI {α : Type} (xs : List α) (i : Int) : Option α := (ixN xs.length i).bind fun j => xs[j]?
theorem ixN_seq {n : Nat} {i : Int} {j : Nat} (h : ixN n i = some j) : seqIndex? i n = some j ∧ j < n ∧ -(n : Int) ≤ i ∧ i < n := by
 unfold ixN at h
 by_cases h0 : 0 ≤ i
 ·rw [if_pos h0] at h
  by_cases h1 : i < n
  ·rw [if_pos h1] at h
   have e : i.toNat = j := Option.some.inj h
   exact ⟨by rw [seqIndex_of h0 h1, e], by omega, by omega, h1⟩
  ·rw [if_neg h1] at h; cases h
 ·rw [if_neg h0] at h
  by_cases h1 : -(n : Int) ≤ i
  ·rw [if_pos h1] at h
   have e : (i + n).toNat = j := Option.some.inj h
   exact ⟨by rw [seqIndex_neg (by omega) h1, e], by omega, h1, by omega⟩
  ·rw [if_neg h1] at h; cases h
theorem atI_get {α : Type} {xs : List α} {i : Int} {v : α} (h : atI xs i = some v) : ∃ j, seqIndex? i xs.length = some j ∧ xs[j]? = some v ∧ j < xs.length ∧ -(xs.length : Int) ≤ i ∧ i < xs.length := by
 unfold atI at h
 cases e : ixN xs.length i with
 | none => rw [e] at h; cases h
 | some j =>
  rw [e] at h
  obtain ⟨h1, h2, h3, h4⟩ := ixN_seq e
  exact ⟨j, h1, h, h2, h3, h4⟩
theorem BX {α : Type} {xs : List α} {j : Nat} {v : α} (h : xs[j]? = some v) : atI xs (j : Int) = some v := by
 have hj : j < xs.length := (List.getElem?_eq_some_iff.mp h).1
 have e : ixN xs.length (j : Int) = some j := by
  unfold ixN
  rw [if_pos (by omega), if_pos (by omega)]; simp
 unfold atI; rw [e]; exact h
noncomputable def PlainIx (b : Expr) : Prop := ∀ o i, subscripted b false o i = operate [o, i] (getItem o i)
noncomputable def IxR (X : Cx) (r : R2) : Prop :=
 ∀ (value slice : Expr) (pins : List (Addr × Obj)) (s : Shared) (σ : St) (H : Hp) (x y : V) (v u : Value) (Q : VK), Inv X pins σ H s → RelV x v → RelV y u → r x y H Q →
  subscripted slice false v u = operate [v, u] (getItem v u) → wpAny (model X.prog X.w) X.A (subscriptTail value slice v u) (EP X pins σ Q) X.xe s
noncomputable def MtR (X : Cx) (id : String) (r : V → List V → Hp → VK → Prop) : Prop :=
 ∀ (pins : List (Addr × Obj)) (s : Shared) (σ : St) (H : Hp) (x : V) (xs : List V) (v : Value) (us : List Value) (Q : VK), Inv X pins σ H s → RelV x v → Vals xs us → r x xs H Q →
  wpAny (model X.prog X.w) X.A (call (.builtin id) (v :: us)) (EP X pins σ Q) X.xe s
section
variable {X : Cx} {a b : Expr} {ta tb : TE} {pos : Pos}
theorem Ab {r : R2} (hr : IxR X r) (ha : PE X a ta) (hb : PE X b tb) (hs : PlainIx b) : PE X (.Subscript a b pos) (tOp r ta tb) := by
 intro pins s σ H Q I h
 exact Subscript_ (binT ha hb I h fun v u s2 x y H2 I2 rx ry q => hr a b pins s2 σ H2 x y v u Q I2 rx ry q (hs _ _))
noncomputable def rIxL (K : PySem.W.Frag) : R2 := fun x y H Q => ∃ p xs i v, x = .ref p ∧ y = .int i ∧ SqL K H p xs ∧ atI xs i = some v ∧ Q v H
noncomputable def rIxT (K : PySem.W.Frag) : R2 := fun x y H Q => ∃ p xs i v, x = .ref p ∧ y = .int i ∧ SqT K H p xs ∧ atI xs i = some v ∧ Q v H
noncomputable def rIxS : R2 := fun x y H Q => ∃ z i c, x = .str z ∧ y = .int i ∧ z.length ≤ sizeLine ∧ atI z.cps.toList i = some c ∧ Q (.str ⟨#[c]⟩) H
theorem ix_list : IxR X (rIxL X.K) := by
 intro value slice pins s σ H x y v u Q I rx ry h hs
 obtain ⟨p, xs, i, z, rfl, rfl, hq, he, q⟩ := h
 cases rx
 obtain ⟨t, rfl⟩ := ry
 obtain ⟨its, r, pl, hz⟩ := I.list hq
 obtain ⟨j, h1, h2, h3, h4, h5⟩ := atI_get he
 obtain ⟨w, ew, rw'⟩ := r.get h2
 have hl := r.length
 have hn := Fk
 have fin : EP X pins σ Q w s := ⟨z, H, I, rw', q⟩
 by_cases h0 : 0 ≤ i
 ·have hj : i.toNat = j := by
   rw [seqIndex_of h0 h5] at h1
   exact Option.some.inj h1
  exact item_listR pl.isList h0 (by omega) (by rw [hj]; simpa using ew) fin hs
 ·have hj : (i + (its.toArray.size : Int)).toNat = j := by
   rw [seqIndex_neg (by omega) h4] at h1
   rw [List.size_toArray, ← hl]
   exact Option.some.inj h1
  exact subscriptTail_builtinR (x := w) pl.isList.typeIs slot_list_getitem.lookup
   (wpAny_getItem_list_neg (Q := fun r s' => r = w ∧ EP X pins σ Q r s') pl.isList (by omega) (by rw [List.size_toArray] <;> omega) (by omega) (by rw [hj]; simpa using ew) ⟨rfl, fin⟩) hs
theorem ix_tup : IxR X (rIxT X.K) := by
 intro value slice pins s σ H x y v u Q I rx ry h hs
 obtain ⟨p, xs, i, z, rfl, rfl, hq, he, q⟩ := h
 cases rx
 obtain ⟨t, rfl⟩ := ry
 obtain ⟨its, r, pl, hz⟩ := I.tuple hq
 obtain ⟨j, h1, h2, h3, h4, h5⟩ := atI_get he
 obtain ⟨w, ew, rw'⟩ := r.get h2
 have hl := r.length
 have hn := Fk
 have fin : EP X pins σ Q w s := ⟨z, H, I, rw', q⟩
 exact subscriptTail_builtinR (x := w) pl.typeIs slot_tuple_getitem.lookup
  (getItem_tuple (j := j) (Q := fun r s' => r = w ∧ EP X pins σ Q r s') pl (by omega) (by omega) (by rw [List.size_toArray, ← hl]; exact h1) (by simpa using ew) ⟨rfl, fin⟩) hs
theorem ix_str : IxR X rIxS := by
 intro value slice pins s σ H x y v u Q I rx ry h hs
 obtain ⟨z, i, c, rfl, rfl, hz, he, q⟩ := h
 obtain ⟨t, rfl⟩ := rx
 obtain ⟨t', rfl⟩ := ry
 obtain ⟨j, h1, h2, h3, h4, h5⟩ := atI_get he
 have hl : z.cps.toList.length = z.length := by simp [Str.length]
 rw [hl] at h1 h4 h5
 have hn := Fk
 exact tail_any (typeIs_str s z t) slot_str_getitem.lookup (getItem_str (c := c) (by
  have e1 : decide (i < -(2 ^ 63 : Int)) = false := decide_eq_false (by omega)
  have e2 : decide (i ≥ 2 ^ 63) = false := decide_eq_false (by omega)
  rw [e1, e2, Bool.or_false]) (by rw [h1]; simpa using h2) ⟨.str ⟨#[c]⟩, H, I.tok _, ⟨_, rfl⟩, q⟩) hs
theorem mapSeq_set (its : List Value) (n j : Nat) (u : Value) : Obj.mapSeq (·.setIfInBounds j u) { cls := .type "list", data := .seq its.toArray n } = { cls := .type "list", data := .seq (its.set j u).toArray n } := by
 simp [Obj.mapSeq]
theorem Inv.lst {pins : List (Addr × Obj)} {σ : St} {H : Hp} {s : Shared} {p : Addr} {xs : List V} (I : Inv X pins σ H s) (h : H p = some (.lst xs)) :
  ∃ (its : List Value) (n : Nat), Vals xs its ∧ s.heap.get? p = some { cls := .type "list", data := .seq its.toArray n } ∧ xs.length ≤ sizeLine := by
 obtain ⟨z, its, n, r, e⟩ := I.hok p _ h
 exact ⟨its, n, r, e, z⟩
theorem Inv.lstUpd {pins : List (Addr × Obj)} {σ : St} {H : Hp} {s : Shared} {p : Addr} {xs ys : List V} {its its' : List Value} {n n' : Nat} {f : Obj → Obj} (I : Inv X pins σ H s) (h : H p = some (.lst xs))
  (ho : s.heap.get? p = some { cls := .type "list", data := .seq its.toArray n }) (hf : f { cls := .type "list", data := .seq its.toArray n } = { cls := .type "list", data := .seq its'.toArray n' }) (r : Vals ys its') (hz : ys.length ≤ sizeLine) (t : Nat) :
  Inv X pins σ (upd H p (.lst ys)) { s with heap := s.heap.update p f, toks := t } := by
 have e : (s.heap.update p f).get? p = some { cls := .type "list", data := .seq its'.toArray n' } := by
  rw [Heap.get?_update_self f ho (by rw [hf] <;> rfl), hf]
 refine I.write (x := p) (e := p) (by rw [h]; trivial) (.inl rfl) (fun b u hb q => (Heap.get?_update_other _ _ (Ne.symm hb)).trans q) ⟨_, e⟩ ?_
 exact ⟨hz, its', n', r, e⟩
noncomputable def rSetL : V → V → V → Hp → (Hp → Prop) → Prop := fun o i v H Q => ∃ p xs k j, o = .ref p ∧ i = .int k ∧ H p = some (.lst xs) ∧ ixN xs.length k = some j ∧ Q (upd H p (.lst (xs.set j v)))
theorem FP : PSet X rSetL := by
 intro pins s σ H o i v ov iv u Q I ro ri rv h
 obtain ⟨p, xs, k, j, rfl, rfl, hp, hj, q⟩ := h
 cases ro
 obtain ⟨t, rfl⟩ := ri
 obtain ⟨its, n, r, ho, hz⟩ := I.lst hp
 obtain ⟨h1, h2, h3, h4⟩ := ixN_seq hj
 have hl := r.length
 have hn := Fk
 have I' : Inv X pins σ (upd H p (.lst (xs.set j v))) { s with heap := s.heap.update p (Obj.mapSeq (·.setIfInBounds j u)) } :=
  I.lstUpd hp ho (mapSeq_set its n j u) (r.set rv j) (by rw [List.length_set]; exact hz) s.toks
 by_cases h0 : 0 ≤ k
 ·have hk : k.toNat = j := by
   rw [seqIndex_of h0 h4] at h1
   exact Option.some.inj h1
  exact PySem.W.ki_setAt ho h0 (by omega) (by rw [List.size_toArray, ← hl]; exact h4) (by rw [hk]; exact ⟨_, I', q⟩)
 ·have hk : (k + (its.toArray.size : Int)).toNat = j := by
   rw [seqIndex_neg (by omega) h3] at h1
   rw [List.size_toArray, ← hl]
   exact Option.some.inj h1
  exact PySem.W.ki_setBack ho (by omega) (by rw [List.size_toArray, ← hl]; exact h3) (by omega) (by rw [hk]; exact ⟨_, I', q⟩)
theorem slice_bounds (lo hi : Option Int) (n : Nat) : (sliceBounds lo hi none n).1 = ((HT.sIx n 0 lo : Nat) : Int) ∧ (sliceBounds lo hi none n).2.1 = ((HT.sIx n n hi : Nat) : Int) ∧ (sliceBounds lo hi none n).2.2 = 1 := by
 refine ⟨?_, ?_, rfl⟩
 ·cases lo with
  | none => simp [sliceBounds, HT.sIx]
  | some i =>
   simp only [sliceBounds, HT.sIx, Option.getD_none, show (1 : Int) > 0 by decide, if_true]
   by_cases h : i < 0
   ·simp only [h, if_true] <;> omega
   ·simp only [h, if_false] <;> omega
 ·cases hi with
  | none => simp [sliceBounds, HT.sIx]
  | some i =>
   simp only [sliceBounds, HT.sIx, Option.getD_none, show (1 : Int) > 0 by decide, if_true]
   by_cases h : i < 0
   ·simp only [h, if_true] <;> omega
   ·simp only [h, if_false] <;> omega
theorem slicePick_cut (its : List Value) (lo hi : Option Int) : slicePick its.toArray lo hi none = ((its.drop (HT.sIx its.length 0 lo)).take (HT.sIx its.length its.length hi - HT.sIx its.length 0 lo)).toArray := by
 obtain ⟨h1, h2, h3⟩ := slice_bounds lo hi its.toArray.size
 unfold slicePick
 rw [h1, h2, h3]
 simp only [sliceRange_one, pick_run, List.size_toArray] <;> rfl
noncomputable def rSlL (K : PySem.W.Frag) : V → Option Int → Option Int → Hp → VK → Prop := fun x lo hi H Q => ∃ a xs, x = .ref a ∧ SqL K H a xs ∧ ∀ p, H p = none → Q (.ref p) (upd H p (.lst (GT xs lo hi)))
theorem sl_list : SlR X (rSlL X.K) := by
 intro pins s σ H x v vl vu lo hi sl Q I rx hs pl pu h
 obtain ⟨a, xs, rfl, hx, q⟩ := h
 cases rx
 obtain ⟨its, r, ht, hz⟩ := I.list hx
 have hlen := r.length
 refine ⟨"list", _, slot_list_getitem.lookup, ht.isList.typeIs, ?_⟩
 refine wpAny_getItem_list_slice ht.isList hs pl pu .none (by simp) ?_ (by rw [List.size_toArray] <;> omega)
 rw [slicePick_cut, ← hlen]
 refine ⟨.ref s.heap.objs.size, _, I.laid (t' := s.toks) (o := .lst (GT xs lo hi)) (fun b ob q => Heap.get?_push_of_some _ q) (Nat.le_refl _) ?_, rfl, q _ (I.hok.fresh (Nat.le_refl _))⟩
 exact ⟨Nat.le_trans (Dt xs lo hi) hz, _, 0, (r.drop (HT.sIx xs.length 0 lo)).take (HT.sIx xs.length xs.length hi - HT.sIx xs.length 0 lo), Heap.get?_push_size _ rfl⟩
noncomputable def Fe : V → Bool
 | .non => true
 | .bl _ => true
 | .int _ => true
 | .str _ => true
 | _ => false
noncomputable def eqV : V → V → Bool
 | .non, .non => true
 | .bl a, .bl b => a == b
 | .bl a, .int b => (if a then 1 else 0) == b
 | .int a, .bl b => a == (if b then 1 else 0)
 | .int a, .int b => a == b
 | .str a, .str b => a == b
 | _, _ => false
theorem eqAt_V {A : Around} {s : Shared} {y x : V} {u v : Value} (ry : RelV y u) (rx : RelV x v) (fy : Fe y = true) (fx : Fe x = true) : SeqAt.EqAt A s u v (eqV y x) := by
 cases y with
 | non =>
  cases ry
  cases x with
  | non => cases rx; exact SeqAt.EqAt.same _
  | bl b => cases rx; exact SeqAt.EqAt.none_bool b
  | int b => obtain ⟨t, rfl⟩ := rx; exact SeqAt.EqAt.none_int b t
  | str b => obtain ⟨t, rfl⟩ := rx; exact SeqAt.EqAt.none_str b t
  | _ => exact absurd (show false = true from fx) Bool.false_ne_true
 | bl a =>
  cases ry
  cases x with
  | non => cases rx; exact SeqAt.EqAt.bool_none a
  | bl b => cases rx; exact SeqAt.EqAt.bool_bool a b
  | int b => obtain ⟨t, rfl⟩ := rx; exact SeqAt.EqAt.bool_int a b t
  | str b => obtain ⟨t, rfl⟩ := rx; exact SeqAt.EqAt.bool_str a b t
  | _ => exact absurd (show false = true from fx) Bool.false_ne_true
 | int a =>
  obtain ⟨t', rfl⟩ := ry
  cases x with
  | non => cases rx; exact SeqAt.EqAt.int_none a t'
  | bl b => cases rx; exact SeqAt.EqAt.int_bool a t' b
  | int b => obtain ⟨t, rfl⟩ := rx; exact SeqAt.EqAt.int_int a t' b t
  | str b => obtain ⟨t, rfl⟩ := rx; exact SeqAt.EqAt.int_str a t' b t
  | _ => exact absurd (show false = true from fx) Bool.false_ne_true
 | str a =>
  obtain ⟨t', rfl⟩ := ry
  cases x with
  | non => cases rx; exact SeqAt.EqAt.str_none a t'
  | bl b => cases rx; exact SeqAt.EqAt.str_bool a t' b
  | int b => obtain ⟨t, rfl⟩ := rx; exact SeqAt.EqAt.str_int a t' b t
  | str b => obtain ⟨t, rfl⟩ := rx; exact SeqAt.EqAt.str_str a t' b t
  | _ => exact absurd (show false = true from fx) Bool.false_ne_true
 | _ => exact absurd (show false = true from fy) Bool.false_ne_true
noncomputable def eqU (x : V) (u : Value) : Bool := match u with
 | .none => eqV .non x
 | .bool b => eqV (.bl b) x
 | .int i _ => eqV (.int i) x
 | .str z _ => eqV (.str z) x
 | _ => false
theorem eqU_of {x y : V} {u : Value} (r : RelV y u) (f : Fe y = true) : eqU x u = eqV y x := by
 cases y with
 | non => cases r; rfl
 | bl b => cases r; rfl
 | int i => obtain ⟨t, rfl⟩ := r; rfl
 | str z => obtain ⟨t, rfl⟩ := r; rfl
 | _ => exact absurd (show false = true from f) Bool.false_ne_true
theorem any_eqU {x : V} : ∀ {xs : List V} {us : List Value}, Vals xs us → xs.all Fe = true → us.any (eqU x) = xs.any fun y => eqV y x
 | _, _, .nil, _ => rfl
 | y :: xs, u :: us, .cons r t, f => by
  rw [List.all_cons, Bool.and_eq_true] at f
  rw [List.any_cons, List.any_cons, eqU_of r f.1, any_eqU t f.2]
theorem mem_eqAt {A : Around} {s : Shared} {x : V} {v : Value} (rx : RelV x v) (fx : Fe x = true) : ∀ {xs : List V} {us : List Value}, Vals xs us → xs.all Fe = true → ∀ u ∈ us, SeqAt.EqAt A s u v (eqU x u)
 | _, _, .nil, _ => fun u hu => by cases hu
 | y :: xs, u :: us, .cons r t, f => fun u' hu => by
  rw [List.all_cons, Bool.and_eq_true] at f
  rcases List.mem_cons.mp hu with rfl | hu
  ·rw [eqU_of r f.1]; exact eqAt_V r rx f.1 fx
  ·exact mem_eqAt rx fx t f.2 u' hu
noncomputable def inV (x : V) (xs : List V) : Bool := xs.any fun y => eqV y x
noncomputable def rIn (K : PySem.W.Frag) (neg : Bool) : R2 := fun x y H Q => ∃ p xs, y = .ref p ∧ (SqL K H p xs ∨ SqT K H p xs) ∧ Fe x = true ∧ xs.all Fe = true ∧ Q (.bl (if neg then !inV x xs else inV x xs)) H
theorem op_notIn_seq : OpR X (compareOp .NotIn) (rIn X.K true) := by
 intro pins s σ H x y v u Q I rx ry h
 obtain ⟨p, xs, rfl, hq, fx, fs, q⟩ := h
 cases ry
 rcases hq with hq | hq
 ·obtain ⟨its, r, pl, hz⟩ := I.list hq
  refine SeqAt.notIn_listAt (eqU x) pl.isList (fun w hw => mem_eqAt rx fx r fs w (by simpa using hw)) ⟨.bl _, H, I, rfl, ?_⟩
  rw [show its.toArray.any (eqU x) = its.any (eqU x) by simp, any_eqU r fs]
  exact q
 ·obtain ⟨its, r, pl, hz⟩ := I.tuple hq
  refine SeqAt.notIn_tupleAt (eqU x) pl (fun w hw => mem_eqAt rx fx r fs w (by simpa using hw)) ⟨.bl _, H, I, rfl, ?_⟩
  rw [show its.toArray.any (eqU x) = its.any (eqU x) by simp, any_eqU r fs]
  exact q
theorem call_len_seq : E2 X (.builtin "len") (fun xs H Q => ∃ p ys, xs = [.ref p] ∧ (SqL X.K H p ys ∨ SqT X.K H p ys) ∧ Q (.int ys.length) H) := by
 intro pins s σ H xs us Q I r h
 obtain ⟨p, ys, rfl, hq, q⟩ := h
 obtain ⟨u, rfl, rx⟩ := Ff r
 cases rx
 have hn := Fk
 rcases hq with hq | hq
 ·obtain ⟨its, r', pl, hz⟩ := I.list hq
  have hlen := r'.length
  exact Calls.call_len_list pl.isList (by simp only [List.size_toArray] <;> omega) ⟨.int ys.length, H, I.tok _, ⟨s.toks + 1, by rw [List.size_toArray, hlen]⟩, q⟩
 ·obtain ⟨its, r', pl, hz⟩ := I.tuple hq
  have hlen := r'.length
  exact len_tuple pl (by simp only [List.size_toArray] <;> omega) ⟨.int ys.length, H, I.tok _, ⟨s.toks + 1, by rw [List.size_toArray, hlen]⟩, q⟩
theorem call_len_str : E2 X (.builtin "len") (fun xs H Q => ∃ z, xs = [.str z] ∧ z.length ≤ sizeLine ∧ Q (.int z.length) H) := by
 intro pins s σ H xs us Q I r h
 obtain ⟨z, rfl, hz, q⟩ := h
 obtain ⟨u, rfl, t, rfl⟩ := Ff r
 have hn := Fk
 exact len_str (by omega) ⟨.int z.length, H, I.tok _, ⟨_, rfl⟩, q⟩
theorem call_list_of : E2 X (.type "list") (fun xs H Q => ∃ p ys, xs = [.ref p] ∧ (SqL X.K H p ys ∨ SqT X.K H p ys) ∧ ∀ l, H l = none → Q (.ref l) (upd H l (.lst ys))) := by
 intro pins s σ H xs us Q I r h
 obtain ⟨p, ys, rfl, hq, q⟩ := h
 obtain ⟨u, rfl, rx⟩ := Ff r
 cases rx
 have fin : ∀ (its : List Value), Vals ys its → ys.length ≤ sizeLine → ∀ (h' : Heap) (c' : Nat), (∀ b o', s.heap.get? b = some o' → h'.get? b = some o') →
   h'.get? s.heap.objs.size = some { cls := .type "list", dict := none, data := .seq its.toArray c', slots := #[] } → EP X pins σ Q (.ref s.heap.objs.size) { s with heap := h' } := fun its r' hz h' c' kp e =>
  ⟨.ref s.heap.objs.size, _, I.laid (t' := s.toks) kp (Nat.le_refl _) (show ObjOk X.prog X.w _ h' _ (.lst ys) from ⟨hz, its, c', r', e⟩), rfl, q _ (I.hok.fresh (Nat.le_refl _))⟩
 rcases hq with hq | hq
 ·obtain ⟨its, r', pl, hz⟩ := I.list hq
  have hlen := r'.length
  obtain ⟨o, ho, hc, n, hd⟩ := pl.isList
  exact call_list_seq p (.inl rfl) ho hc hd (fun h' c' kp e => fin its r' hz h' c' kp e) (by simp only [List.size_toArray] <;> omega)
 ·obtain ⟨its, r', pl, hz⟩ := I.tuple hq
  have hlen := r'.length
  obtain ⟨o, ho, hc, n, hd⟩ := pl
  exact call_list_seq p (.inr rfl) ho hc hd (fun h' c' kp e => fin its r' hz h' c' kp e) (by simp only [List.size_toArray] <;> omega)
noncomputable def tyV (K : PySem.W.Frag) (T : String) (x : V) (H : Hp) : Prop := match x with
 | .str _ => T = "str"
 | .int _ => T = "int"
 | .ref p => (T = "list" ∧ ∃ xs, SqL K H p xs) ∨ (T = "tuple" ∧ ∃ o, K.lookup p = some o ∧ o.cls = .type "tuple" ∧ o.dict = none) ∨
   (T = "dict" ∧ ((∃ kvs, H p = some (.dK kvs)) ∨ ∃ kvs, H p = some (.dT kvs))) ∨ (T = "set" ∧ ∃ S n, H p = some (.set S n))
 | _ => False
theorem tyV_is {pins : List (Addr × Obj)} {σ : St} {H : Hp} {s : Shared} {T : String} {x : V} {v : Value} (I : Inv X pins σ H s) (r : RelV x v) (ty : tyV X.K T x H) :
  s.TypeIs v T ∧ ∀ a, v = .ref a → ∃ ob, s.heap.get? a = some ob ∧ ob.dict = none := by
 cases x with
 | str z =>
  obtain ⟨t, rfl⟩ := r
  cases (show T = "str" from ty)
  exact ⟨typeIs_str s z t, fun _ e => nomatch e⟩
 | int i =>
  obtain ⟨t, rfl⟩ := r
  cases (show T = "int" from ty)
  exact ⟨typeIs_int s i t, fun _ e => nomatch e⟩
 | ref p =>
  cases r
  rcases ty with ⟨rfl, xs, hq⟩ | ⟨rfl, o, hk, hc, hd⟩ | ⟨rfl, hk⟩ | ⟨rfl, S, n, hk⟩
  ·obtain ⟨its, _, pl, _⟩ := I.list hq
   refine ⟨pl.isList.typeIs, fun a e => ?_⟩
   cases e
   obtain ⟨o, n, e, c, hd, _⟩ := pl
   exact ⟨o, e, hd⟩
  ·refine ⟨⟨o, I.kIn p o hk, hc⟩, fun a e => ?_⟩
   cases e
   exact ⟨o, I.kIn _ o hk, hd⟩
  ·have z : ∃ o, s.heap.get? p = some o ∧ o.ExactDict := by
    rcases hk with ⟨kvs, hk⟩ | ⟨kvs, hk⟩
    ·obtain ⟨_, _, _, _, o, _, _, e, ex, _⟩ := I.hok p _ hk
     exact ⟨o, e, ex⟩
    ·obtain ⟨_, _, _, _, o, _, _, e, ex, _⟩ := I.hok p _ hk
     exact ⟨o, e, ex⟩
   obtain ⟨o, e, ex⟩ := z
   refine ⟨⟨o, e, ex.1⟩, fun a e2 => ?_⟩
   cases e2
   exact ⟨o, e, ex.2.1⟩
  ·obtain ⟨o, _, _, _, e, ex, _⟩ := I.hok p _ hk
   refine ⟨⟨o, e, ex.1⟩, fun a e2 => ?_⟩
   cases e2
   exact ⟨o, e, ex.2.1⟩
 | _ => exact False.elim ty
noncomputable abbrev tBM0 (K : PySem.W.Frag) (T : String) (r : V → List V → Hp → VK → Prop) (to : TE) : TE := fun σ H Q => to σ H fun x H1 => tyV K T x H1 ∧ r x [] H1 Q
noncomputable abbrev tBM (K : PySem.W.Frag) (T : String) (r : V → List V → Hp → VK → Prop) (to : TE) (t : TA) : TE := fun σ H Q => to σ H fun x H1 => tyV K T x H1 ∧ t σ H1 fun xs H2 => r x xs H2 Q
variable {o e : Expr} {es : List Expr} {to : TE} {t : TA} {name : Str} {apos cpos : Pos} {T id : String} {r : V → List V → Hp → VK → Prop}
theorem pe_bm0 (pa : PlainAttrs T) (slot : Slot T name id) (hty : typeOf (.builtin id) = pure (.type "method_descriptor")) (hm : MtR X id r) (ho : PE X o to)
  (hbase : attributeBase o name X.env (eval o X.env) = eval o X.env := by rfl) (hline : (apos.endLine == cpos.line) = true := by rfl) : PE X (.Call (.Attribute o name apos) [] [] cpos) (tBM0 X.K T r to) := by
 intro pins s σ H Q I h
 refine wpAny_Call_method0_late hbase hline (thn (ho pins s σ H _ I h) fun v s1 ⟨x, H1, I1, r1, ty, q1⟩ => ?_)
 obtain ⟨h1, h2⟩ := tyV_is I1 r1 ty
 exact ⟨T, id, pa, slot, hty, h1, h2, Calls.callWith_builtin rfl (PySem.evalArgs_none (hm pins s1 σ H1 x [] v [] Q I1 r1 .nil q1))⟩
theorem pe_bm (pa : PlainAttrs T) (slot : Slot T name id) (hty : typeOf (.builtin id) = pure (.type "method_descriptor")) (hm : MtR X id r) (ho : PE X o to) (ha : PA X (e :: es) t)
  (hbase : attributeBase o name X.env (eval o X.env) = eval o X.env := by rfl)
  (hfew : ((backTo cpos (starEach (e :: es) X.env)).all (fun x => !x.1) && (backToKw cpos (keywordEach [] X.env)).all (fun x => x.1.isSome)
   && decide ((e :: es).length + ([] : List Keyword).length + (if ([] : List Keyword).isEmpty then 0 else 1) < 30)) = true := by rfl)
  (hline : (apos.endLine == cpos.line) = true := by rfl) (hs : starEach (e :: es) X.env = (false, eval e X.env) :: starEach es X.env := by rfl) (hplain : (backTo cpos (starEach es X.env)).any (·.1) = false := by rfl) :
  PE X (.Call (.Attribute o name apos) (e :: es) [] cpos) (tBM X.K T r to t) := by
 intro pins s σ H Q I h
 refine wpAny_Call_method_late hbase hfew hline rfl (thn (ho pins s σ H _ I h) fun v s1 ⟨x, H1, I1, r1, ty, q1⟩ => ?_)
 obtain ⟨h1, h2⟩ := tyV_is I1 r1 ty
 refine ⟨T, id, pa, slot, hty, h1, h2, ?_⟩
 have hA := ha cpos pins s1 σ H1 _ I1 q1
 rw [hs] at hA ⊢
 refine Calls.callWith_builtin (by show (false || (backTo cpos (starEach es X.env)).any (·.1)) = false; rw [hplain] <;> rfl) (Calls.evalArgs_plain ?_)
 exact thn hA fun us s2 ⟨vs, H2, I2, r2, q2⟩ => hm pins s2 σ H2 x vs v us Q I2 r1 r2 q2
end
noncomputable def MtM (X : Cx) (id : String) (r : V → List V → Hp → VK → Prop) : Prop :=
 ∀ (pins : List (Addr × Obj)) (s : Shared) (σ : St) (H : Hp) (x : V) (xs : List V) (v : Value) (us : List Value) (Q : VK), Inv X pins σ H s → RelV x v → Vals xs us → r x xs H Q →
  wpAny (model X.prog X.w) X.A (call (.builtin id) (v :: us)) (EP X pins σ Q) X.xe s
theorem Vals.one : ∀ {x : V} {us : List Value}, Vals [x] us → ∃ u, us = [u] ∧ RelV x u
 | _, _, .cons r .nil => ⟨_, rfl, r⟩
theorem Vals.two : ∀ {x y : V} {us : List Value}, Vals [x, y] us → ∃ u v, us = [u, v] ∧ RelV x u ∧ RelV y v
 | _, _, _, .cons r (.cons q .nil) => ⟨_, _, rfl, r, q⟩
theorem Vals.zero : ∀ {us : List Value}, Vals [] us → us = []
 | _, .nil => rfl
theorem Vals.dropLast {xs : List V} {us : List Value} (h : Vals xs us) : Vals xs.dropLast us.dropLast := by
 induction h with
 | nil => exact .nil
 | cons r t ih =>
  cases t with
  | nil => exact .nil
  | cons q t' => exact .cons r ih
theorem Vals.eraseIdx : ∀ {xs : List V} {us : List Value} (i : Nat), Vals xs us → Vals (xs.eraseIdx i) (us.eraseIdx i)
 | _, _, _, .nil => .nil
 | _, _, 0, .cons _ t => t
 | _, _, i + 1, .cons r t => .cons r (Vals.eraseIdx i t)
theorem Vals.reverse {xs : List V} {us : List Value} (h : Vals xs us) : Vals xs.reverse us.reverse := by
 induction h with
 | nil => exact .nil
 | cons r t ih => rw [List.reverse_cons, List.reverse_cons]; exact Vals.append ih (.cons r .nil)
theorem Vals.rep {xs : List V} {us : List Value} (h : Vals xs us) : ∀ k : Nat, Vals (List.replicate k xs).flatten (List.replicate k us).flatten
 | 0 => .nil
 | k + 1 => by
  rw [List.replicate_succ, List.replicate_succ, List.flatten_cons, List.flatten_cons]
  exact Vals.append h (Vals.rep h k)
theorem erase_last {α : Type} (l : List α) : l.eraseIdx (l.length - 1) = l.dropLast := by
 induction l with
 | nil => rfl
 | cons a r ih =>
  cases r with
  | nil => rfl
  | cons b r =>
   have e : (a :: b :: r).length - 1 = ((b :: r).length - 1) + 1 := by
    have h1 : (a :: b :: r).length = r.length + 2 := rfl
    have h2 : (b :: r).length = r.length + 1 := rfl
    omega
   rw [e, List.eraseIdx_cons_succ, ih]
   all_goals rfl
theorem foldl_rep (its : List Value) : ∀ (k : Nat) (acc : List Value),
  List.foldl (fun x1 x2 => x1 ++ x2) acc.toArray (List.replicate k its.toArray) = (acc ++ (List.replicate k its).flatten).toArray
 | 0, acc => by simp
 | k + 1, acc => by
  have e : acc.toArray ++ its.toArray = (acc ++ its).toArray := by simp
  have e2 : (acc ++ its) ++ (List.replicate k its).flatten = acc ++ (List.replicate (k + 1) its).flatten := by
   rw [List.replicate_succ, List.flatten_cons, List.append_assoc]
  rw [← e2, ← foldl_rep its k (acc ++ its), ← e, List.replicate_succ, List.foldl_cons]
section
variable {X : Cx} {pins : List (Addr × Obj)} {σ : St} {H : Hp} {s : Shared} {l b : Addr} {xs ys zs : List V}
theorem Inv.lset {its its' : List Value} {n : Nat} {f : Array Value → Array Value} {t' : Nat} (I : Inv X pins σ H s) (hH : H l = some (.lst xs))
  (e : s.heap.get? l = some { cls := .type "list", data := .seq its.toArray n }) (hf : f its.toArray = its'.toArray) (hv : Vals ys its') (hz : ys.length ≤ sizeLine) :
  Inv X pins σ (upd H l (.lst ys)) { s with heap := s.heap.update l (Obj.mapSeq f), toks := t' } := by
 have q := PySem.IsL.update e f
 rw [hf] at q
 refine I.write (x := l) (e := l) (by rw [hH]; exact trivial) (.inl rfl) (fun b' u hb hu => (Heap.get?_update_other s.heap (Obj.mapSeq f) (Ne.symm hb)).trans hu) ⟨_, q⟩ ?_
 exact ⟨hz, its', _, hv, q⟩
theorem Inv.lnew {its : List Value} {t' : Nat} (I : Inv X pins σ H s) (hv : Vals ys its) (hz : ys.length ≤ sizeLine) :
  Inv X pins σ (upd H s.heap.objs.size (.lst ys)) { s with heap := s.heap.push { cls := .type "list", data := .seq its.toArray }, toks := t' } :=
 I.laid (fun _ _ q => Heap.get?_push_of_some _ q) (Nat.le_refl _) ⟨hz, its, 0, hv, Heap.get?_push_size _ rfl⟩
theorem Inv.fresh (I : Inv X pins σ H s) : H s.heap.objs.size = none := I.hok.fresh (Nat.le_refl _)
theorem Inv.lstM (I : Inv X pins σ H s) (hH : H l = some (.lst xs)) : xs.length ≤ sizeLine ∧ ∃ (its : List Value) (n : Nat), Vals xs its ∧ xs.length = its.length ∧ s.heap.get? l = some { cls := .type "list", data := .seq its.toArray n } := by
 obtain ⟨z, its, n, r, e⟩ := I.hok l _ hH
 exact ⟨z, its, n, r, r.length, e⟩
theorem notLongL {n : Nat} (h : n ≤ sizeLine) : Builtin.List.listTooLong n = false := by
 unfold Builtin.List.listTooLong
 exact decide_eq_false (by omega)
end
section
variable {X : Cx}
noncomputable def Fv : V → List V → Hp → VK → Prop := fun x vs H Q => ∃ l xs y, x = .ref l ∧ vs = [y] ∧ H l = some (.lst xs) ∧ xs.length < sizeLine ∧ Q .non (upd H l (.lst (xs ++ [y])))
theorem C3 : MtM X "list.append" Fv := by
 intro pins s σ H x vs v us Q I rx rv h
 obtain ⟨l, xs, y, rfl, rfl, hH, hz, q⟩ := h
 cases rx
 obtain ⟨u, rfl, ru⟩ := rv.one
 obtain ⟨z, its, n, r, hl, e⟩ := I.lstM hH
 refine call_meets F.slot_list_append ⟨_, e, rfl⟩ F.entry_list_append (F.args_list_append_2 _ _) (PySem.list_append l its.toArray n u (by rw [List.size_toArray]; omega)) ⟨e, ?_⟩
 refine ⟨.non, _, I.lset (its' := its ++ [u]) hH e (by simp) (r.append (.cons ru .nil)) ?_, rfl, q⟩
 rw [List.length_append, List.length_singleton]
 omega
noncomputable def rPop : V → List V → Hp → VK → Prop := fun x vs H Q => ∃ l xs y, x = .ref l ∧ vs = [] ∧ H l = some (.lst xs) ∧ xs[xs.length - 1]? = some y ∧ Q y (upd H l (.lst xs.dropLast))
theorem mt_pop : MtM X "list.pop" rPop := by
 intro pins s σ H x vs v us Q I rx rv h
 obtain ⟨l, xs, y, rfl, rfl, hH, hy, q⟩ := h
 cases rx
 have hus := rv.zero
 subst hus
 obtain ⟨z, its, n, r, hl, e⟩ := I.lstM hH
 obtain ⟨u, hu, ru⟩ := r.get hy
 have hy' : its.toArray[its.toArray.size - 1]? = some u := by
  show its.toArray[its.length - 1]? = some u
  rw [← Array.getElem?_toList, ← hl]
  exact hu
 refine call_meets F.slot_list_pop ⟨_, e, rfl⟩ F.entry_list_pop (F.args_list_pop_1 _) (MeetsSeq.list_pop_last l its.toArray n u hy' (by rw [List.size_toArray]; omega)) ⟨e, ?_⟩
 refine ⟨y, _, I.lset (its' := its.dropLast) hH e ?_ r.dropLast ?_, ru, q⟩
 ·show its.toArray.eraseIdxIfInBounds (its.toArray.size - 1) = its.dropLast.toArray
  rw [List.size_toArray, List.eraseIdxIfInBounds_toArray, erase_last]
 ·rw [List.length_dropLast]
  omega
noncomputable def rRep : R2 := fun x y H Q => ∃ l k xs, x = .ref l ∧ y = .int k ∧ H l = some (.lst xs) ∧ -(2 ^ 63) ≤ k ∧ k < 2 ^ 63 ∧ xs.length * k.toNat ≤ sizeLine ∧
 ∀ p, H p = none → Q (.ref p) (upd H p (.lst (List.replicate k.toNat xs).flatten))
theorem len_rep {α : Type} (xs : List α) (k : Nat) : (List.replicate k xs).flatten.length = k * xs.length := by
 induction k with
 | zero => simp
 | succ k ih => rw [List.replicate_succ, List.flatten_cons, List.length_append, ih, Nat.succ_mul, Nat.add_comm]
theorem op_rep : OpR X (binaryOp .Mult) rRep := by
 intro pins s σ H x y v u Q I rx ry h
 obtain ⟨l, k, xs, rfl, rfl, hH, h1, h2, hz, q⟩ := h
 cases rx
 obtain ⟨t, rfl⟩ := ry
 obtain ⟨z, its, n, r, hl, e⟩ := I.lstM hH
 have hlen : its.toArray.size * k.toNat ≤ sizeLine := by rw [List.size_toArray, ← hl]; exact hz
 have hcap : ¬ its.toArray.size * k.toNat > (2 ^ 63 - 1) / 8 := by
  have : (sizeLine : Nat) ≤ (2 ^ 63 - 1) / 8 := by decide
  omega
 have hfit : ¬ (!Builtin.List.listFitsIndex k) = true := by
  rw [fitsIndex_both h1 h2]
  exact Bool.false_ne_true
 have hlong : ¬ Builtin.List.listTooLong (its.toArray.size * k.toNat) = true := by
  rw [notLongL hlen]
  exact Bool.false_ne_true
 have hnew : List.foldl (fun x1 x2 => x1 ++ x2) #[] (List.replicate (if its.toArray.isEmpty = true then 0 else k.toNat) its.toArray) = (List.replicate k.toNat its).flatten.toArray := by
  have f0 : ∀ m : Nat, List.foldl (fun x1 x2 => x1 ++ x2) #[] (List.replicate m its.toArray) = (List.replicate m its).flatten.toArray := fun m => by
   have := foldl_rep its m []
   rw [List.nil_append] at this
   exact this
  rw [f0]
  cases its with
  | nil => simp
  | cons a r' => rw [if_neg (by simp)]
 refine wpAny_binaryOp_repeat_ref (T := "list") (U := "int") (by decide) ⟨_, e, rfl⟩ (fun s' => typeIs_int s' k t) noFill_list_mul F.fills_int_mul F.slot_int_rmul repeat_list F.slot_int_index.lookup
  (call_meets F.slot_int_rmul (typeIs_int s k t) F.entry_int_rmul (F.args_int_rmul_2 _ _) (int___rmul___int_list k t l its.toArray n)
   ⟨e, rfl, ⟨_, e, rfl⟩, call_meets F.slot_list_mul ⟨_, e, rfl⟩ F.entry_list_mul (F.args_list_mul_2 _ _) (AutoListH.list___mul___list_int_3 l its.toArray n k t hfit hcap hlong) ⟨e, ?_⟩⟩)
 rw [hnew]
 exact ⟨.ref _, _, I.lnew (t' := s.toks) (r.rep k.toNat) (by rw [len_rep, Nat.mul_comm]; exact hz), rfl, q _ I.fresh⟩
end
section
variable {prog : Program} {w : World} {A : Around} {E : Value → Shared → Prop} {s : Shared}
end
section
variable {X : Cx}
end
end L2
namespace Att
open PySem PySem.W PySem.Calls PyProof.Rows
theorem ints_of_wellAll {P : Params} {h : Heap} : ∀ (ns : List Int) (vs : List Value), WellAll P h vs (ns.map WData.int) → IntsAre vs ns := by
 intro ns
 induction ns with
 | nil =>
  intro vs w
  rw [List.map_nil] at w
  cases w
  exact .nil
 | cons n ns ih =>
  intro vs w
  rw [List.map_cons] at w
  cases w with
  | cons a b =>
   cases a
   exact .cons _ _ (ih _ b)
theorem script_of {l : OpenLaw} {n : Nat} (hn : l.most = some n) {P : Params} {h : Heap} {args : List WData} {vals : List Value}
  (hpre : l.row.toRowW.claim.pre args = true) (hwl : WellAll P h vals args) :
  ∃ a vs ns, vals = [Value.ref a] ∧ args = [WData.list (ns.map WData.int)] ∧ h.get? a = some { cls := .type "list", data := .seq vs.toArray } ∧ IntsAre vs ns ∧ ns.length ≤ n := by
 have hsh : WShape.hasAll [] args [.list .int] = true := (pre_splitW hpre).1
 have hc : l.pre.holds [] { args := args } = true := (pre_splitW hpre).2
 obtain ⟨d, r, rfl, h1, h2⟩ := hasAllW_cons hsh
 obtain rfl := hasAllW_nil h2
 obtain ⟨xs, rfl, h3⟩ := hasW_list h1
 obtain ⟨ns, rfl⟩ := items_int h3
 have hlen : ns.length ≤ n := by
  unfold OpenLaw.pre at hc
  have h4 : (WTm.not (.lt (.lit (.int (n : Int))) (.len (.arg 0)))).holds [] { args := [.list (ns.map .int)] } = true := by
   have h4 := (holds_andW hc).1
   rw [hn] at h4
   exact h4
  have h5 := condW_of h4 (w_not (w_lt w_lit (w_len_list (w_arg rfl))))
  rw [List.length_map] at h5
  refine Nat.le_of_not_lt fun q => ?_
  have q' : (n : Int) < ((ns.length : Nat) : Int) := by omega
  first
   | (rw [decide_eq_true q'] at h5; exact absurd h5 (by decide))
   | (simp at h5; omega)
 cases hwl with
 | cons w1 w2 =>
  cases w2
  cases w1 with
  | list ho hall => exact ⟨_, _, ns, rfl, rfl, ho, ints_of_wellAll ns _ hall, hlen⟩
theorem post_true (l : OpenLaw) (args : List WData) : l.row.toRowW.claim.post args (.bool true) args = true :=
 postW_of (r := l.row.toRowW) (X := (true == true))
  (show WShape.has [] (.bool true) .bool = true by first | rfl | decide | simp [WShape.has, WShape.arms, WShape.armsAll])
  (show (WTm.eq .res (.lit (.bool true))).value [] { args := args, res := some (.bool true), after := args } = some (.bool (true == true)) from w_eq_bool (w_res rfl) w_lit) rfl
theorem attach_call {l : OpenLaw} {n : Nat} {q : Program} {loose : List Str} {XP : (Str → Option Value) → Heap → Prop} {YP : World → Heap → Prop} {d : DefRec}
  (hn : l.most = some n) (hdf : d.params.defaults = [])
  (call : ∀ (w : World) (s₀ s₁ : Shared) (mg mb : Str → Option Value) (fa : Addr) (o : Obj) (pm cd doc : Value) (a : Addr) (vs : List Value) (ns : List Int),
   Ground q loose [] XP w s₀ mg mb s₁.heap → YP w s₁.heap →
   s₁.heap.get? fa = some o → o.data = .func (docDef d.name d.params d.body d.scope pm cd doc) → s₁.heap.CodeRec cd d.name → mg d.name = some (.ref fa) →
   s₁.heap.get? a = some { cls := .type "list", data := .seq vs.toArray } → IntsAre vs ns → ns.length ≤ n → s₁.gens = #[] →
   codeAny (model l.prog w) callerA (.call (.ref fa) ⟨[.ref a], []⟩) (fun r s' => r = .ok (.ret (.bool true)) ∧ OldK s₁.heap s'.heap ∧ s'.os = s₁.os ∧ AllBare s'.gens) s₁) :
  WalkO q loose XP YP l.row.toRowW d [] (fun f vs => PySem.call f vs) := by
 intro w s₀ s₁ mg mb G Y fa o pm cd doc dV kV ho hd hcd hD hmg hg args vals as hpre hlay hrd hwl hlo
 obtain rfl : dV = .none := Dflts.none hD hdf
 obtain rfl : kV = .none := Dflts.noKw hD
 obtain ⟨a, vs, ns, rfl, rfl, hobj, hints, hlen⟩ := script_of hn hpre hwl
 refine enter_call (codeAny_mono (call w s₀ s₁ mg mb fa o pm cd doc a vs ns G Y ho (fd_plain hd) hcd hmg hobj hints hlen hg) fun r s' hq => ?_)
 obtain ⟨rfl, h2, h3, h4⟩ := hq
 exact ⟨.inl ⟨.bool true, .bool true, [], rfl, fun _ => rfl, .bool true, post_true l _, fun _ => ⟨List.Pairwise.nil, fun _ hm => (nomatch hm)⟩⟩, h2, h3, h4⟩
section
variable {prog : Program} {w : World} {A : Around} {E : Value → Shared → Prop} {s : Shared} {K : Frag}
end
end Att
namespace L2
open PySem PySem.Spec PyProof.Rows
theorem vals_ints : ∀ {vs : List Value} {ns : List Int}, IntsAre vs ns → Vals (ns.map V.int) vs
 | _, _, .nil => .nil
 | _, _, .cons n t h => .cons ⟨t, rfl⟩ (vals_ints h)
noncomputable def Only (H : Hp) : Prop := ∀ b, H b = none ∨ ∃ o xs, H b = some (.frz o (.lst xs))
theorem law_call {P : Program} {w : World} {K : PySem.W.Frag} {mg mb : Str → Option Value} {CX : CXT} {k : Nat} {fa a : Addr} {fd : FuncData} {x : Str} {sp : Sp} {s₁ : Shared} {vs : List Value} {ns : List Int}
  (KX : K.In s₁.heap) (hns : s₁.heap.Ns mainGlobals mg) (hb : s₁.heap.Ns builtinsNs mb) (hbb : ∀ x : Str, x ≠ "__name__" → mb x = bootBuiltins x) (hlim : s₁.heap.NoLimit) (hg : s₁.gens = #[])
  (ha : s₁.heap.get? a = some { cls := .type "list", data := .seq vs.toArray }) (hi : IntsAre vs ns) (hl : ns.length ≤ sizeLine) (hr : Room k callerA)
  (F : ∀ base : Heap, K.In base → base.Ns mainGlobals mg → FnOk P w K mg base CX k fa fd [x] sp) (hbind : ∀ (s : Shared) (u : Value), BindsTo s fd ⟨[u], []⟩ [(x, u)])
  (hsp : ∀ H : Hp, Only H → SqL K H a (ns.map V.int) → sp [.ref a] H (fun v _ => v = .bl true) fun _ _ _ => False)
  (hCX : ∀ H e s', CX [] H s₁ (fun _ _ _ => False) e s' → False) :
  codeAny (model P w) callerA (.call (.ref fa) ⟨[.ref a], []⟩) (fun r s' => r = .ok (.ret (.bool true)) ∧ OldK s₁.heap s'.heap ∧ s'.os = s₁.os ∧ AllBare s'.gens) s₁ := by
 have rv := vals_ints hi
 have lenV := hi.length
 have core : ∀ H : Hp, Only H → SqL K H a (ns.map V.int) → HOk P w H s₁.heap → (∀ b, H b ≠ none → b = a) → (H a ≠ none → K.lookup a = none) →
   codeAny (model P w) callerA (.call (.ref fa) ⟨[.ref a], []⟩) (fun r s' => r = .ok (.ret (.bool true)) ∧ OldK s₁.heap s'.heap ∧ s'.os = s₁.os ∧ AllBare s'.gens) s₁ := by
  intro H hO hS hok hA hK
  have base_of : ∀ {b : Addr} {o : Obj}, s₁.heap.get? b = some o → H b = none → (hidT s₁.heap H).get? b = some o := fun e n => hidT_get e n
  have noA : ∀ {b : Addr} {o : Obj} {es : Array DictEntry} {ep : Nat}, s₁.heap.get? b = some o → o.data = .dict es ep → H b = none := fun {b o es ep} e d => by
   cases q : H b with
   | none => rfl
   | some u =>
    have e' : b = a := hA b (by rw [q]; simp)
    subst e'
    rw [ha] at e; cases e
    have d' : Data.seq vs.toArray _ = Data.dict es ep := d
    cases d'
  have nsK : ∀ {b : Addr} {m : Str → Option Value}, s₁.heap.Ns b m → (hidT s₁.heap H).Ns b m := fun {b m} ⟨o, es, ep, e, d, r⟩ => ⟨o, es, ep, base_of e (noA e d), d, r⟩
  have hKb : K.In (hidT s₁.heap H) := fun b o e => base_of (KX b o e) (by
   cases q : H b with
   | none => rfl
   | some u =>
    have e' : b = a := hA b (by rw [q]; simp)
    subst e'
    rw [hK (by rw [q]; simp)] at e; cases e)
  have hM : Mod K mg (hidT s₁.heap H) := ⟨hKb, nsK hns, ⟨mb, nsK hb, hbb⟩, let ⟨mc, h1, h2⟩ := hlim; ⟨mc, nsK h1, h2⟩⟩
  have e0 : Env0 P w K mg (hidT s₁.heap H) callerA [] s₁ H := ⟨rfl, hM, fun b o e => of_hidT e, Nat.le_of_eq (hidT_size _ _), trivial, fun b hb => absurd (show b ∈ ([] : List Addr) from hb) (by simp), hok, .of_eq hg⟩
  refine codeAny_mono ((F _ hKb (nsK hns)).run callerA [] s₁ H ⟨[.ref a], []⟩ [.ref a] [.ref a] _ _ hr e0 (hbind s₁ (.ref a)) (.cons rfl .nil) (hsp H hO hS)) fun r s' h => ?_
  cases r with
  | error e => exact (hCX H e s' h).elim
  | ok fl =>
   cases fl with
   | next => exact False.elim h
   | brk => exact False.elim h
   | cont => exact False.elim h
   | ret u =>
    obtain ⟨v, H', os, bare, un, hok', r', q⟩ := h
    have q' : v = .bl true := q
    subst q'
    obtain rfl : u = Value.bool true := r'
    refine ⟨rfl, OldK.of_keep fun b o e => ?_, os, bare⟩
    cases q : H b with
    | none => exact un.keep b o e q (by intro z; exact absurd (show b ∈ ([] : List Addr) from z) (by simp)) (by simp)
    | some u =>
     rcases hO b with z | ⟨ob, xs, z⟩
     ·rw [q] at z; cases z
     ·have z2 := un.frzs b ob _ z
      obtain ⟨e1, _⟩ := hok b _ z
      obtain ⟨e2, _⟩ := hok' b _ z2
      rw [e] at e1; cases e1
      exact e2
 cases hk : K.lookup a with
 | some o =>
  have e := KX a o hk
  rw [ha] at e
  cases e
  refine core (fun _ => none) (fun _ => .inl rfl) (.inr ⟨_, vs.toArray, _, hk, rfl, rfl, rfl, by rw [List.size_toArray, lenV]; exact hl, by simpa using rv⟩) (fun b u z => by have z' : (none : Option HO) = some u := z; cases z') (fun b z => absurd rfl z) fun z => absurd rfl z
 | none =>
  refine core (fun b => if b = a then some (.frz { cls := .type "list", data := .seq vs.toArray } (.lst (ns.map V.int))) else none) (fun b => ?_) (.inl (.inr ⟨{ cls := .type "list", data := .seq vs.toArray }, if_pos rfl⟩)) (fun b u z => ?_) (fun b z => ?_) fun _ => hk
  ·by_cases hb : b = a
   ·exact .inr ⟨_, _, if_pos hb⟩
   ·exact .inl (if_neg hb)
  ·by_cases hb : b = a
   ·have z' := (if_pos hb).symm.trans z
    cases z'
    subst hb
    exact ⟨ha, by rw [List.length_map]; exact hl, vs, _, rv, ha⟩
   ·have z' := (if_neg hb).symm.trans z
    cases z'
  ·by_cases hb : b = a
   ·exact hb
   ·exact absurd (if_neg hb) z
theorem walk_of {l : PySem.W.OpenLaw} {n k : Nat} {q : Program} {loose : List Str} {XP : (Str → Option Value) → Heap → Prop} {YP : World → Heap → Prop} {d : DefRec} {K : Params → PySem.W.Frag} {CX : World → CXT} {sp : World → Sp} {x : Str}
  (hn : l.most = some n) (hn2 : n ≤ sizeLine) (hdf : d.params.defaults = []) (hr : Room k callerA)
  (hY : ∀ (w : World) (h : Heap), YP w h → (K w.params).In h)
  (F : ∀ (w : World) (mg : Str → Option Value) (fa : Addr) (h : Heap), (K w.params).In h → h.Ns mainGlobals mg → mg d.name = some (.ref fa) →
   ∃ fd : FuncData, (∀ (s : Shared) (u : Value), BindsTo s fd ⟨[u], []⟩ [(x, u)]) ∧
    ∀ base : Heap, (K w.params).In base → base.Ns mainGlobals mg → FnOk l.prog w (K w.params) mg base (CX w) k fa fd [x] (sp w))
  (hsp : ∀ (w : World) (H : Hp) (a : Addr) (ns : List Int), ns.length ≤ n → Only H → SqL (K w.params) H a (ns.map V.int) → sp w [.ref a] H (fun v _ => v = .bl true) fun _ _ _ => False)
  (hCX : ∀ (w : World) (H : Hp) (s : Shared) (e : Value) (s' : Shared), CX w [] H s (fun _ _ _ => False) e s' → False) :
  PySem.W.WalkO q loose XP YP l.row.toRowW d [] (fun f vs => PySem.call f vs) := by
 refine Att.attach_call hn hdf fun w s₀ s₁ mg mb fa o pm cd doc a vs ns G Y ho hd hcd hmg hobj hints hlen hg => ?_
 have KX := hY w _ Y
 obtain ⟨fd, hb, hF⟩ := F w mg fa _ KX G.T.g hmg
 exact law_call KX G.T.g G.T.b G.T.builtins G.T.nolimit hg hobj hints (Nat.le_trans hlen hn2) hr hF hb (fun H hO hS => hsp w H a ns hlen hO hS) fun H e s' => hCX w H s₁ e s'
noncomputable def Al (s : Stmt) : Arguments := match s with
 | .FunctionDef _ a _ _ _ _ _ _ _ _ => a
 | _ => { posonlyargs := [], args := [], vararg := none, kwonlyargs := [], kw_defaults := [], kwarg := none, defaults := [] }
noncomputable def Aj (s : Stmt) : List Stmt := match s with
 | .FunctionDef _ _ b _ _ _ _ _ _ _ => b
 | _ => []
noncomputable def AC (s : Stmt) : Scope := match s with
 | .FunctionDef _ _ _ _ _ _ sc _ _ _ => sc
 | _ => { kind := .function, names := [], isGenerator := false, isCoroutine := false }
noncomputable abbrev CX0 : CXT := fun _ _ _ _ _ _ => False
noncomputable abbrev E0 : XK := fun _ _ _ => False
theorem pass0 {X : Cx} : Passes CX0 X E0 := fun _ _ _ _ _ _ _ h => h.elim
structure Fun (K : PySem.W.Frag) (x qual : Str) (st : Stmt) (f : Addr) (fd : FuncData) : Prop where
 ex : ∃ (oc : Value) (od : Option Addr) (kV doc pm : Value) (an : Option Addr) (cdv ct : Value) (osl : Array (Option Value)),
  fd = PySem.W.fnOf x qual (Al st) (Aj st) (AC st) .none kV doc pm an cdv ct ∧ K.lookup f = some ⟨oc, od, .func fd, osl⟩ ∧ PySem.W.codeIn K cdv qual = true
 kp : PySem.W.keepIn K (.ref f) = true
section
variable {P : Program} {w : World} {K : PySem.W.Frag} {mg : Str → Option Value} {base : Heap}
theorem Fun.ok {x qual : Str} {st : Stmt} {f : Addr} {fd : FuncData} {N ps : List Str} {k : Nat} {sp : Sp} (F : Fun K x qual st f fd) (S : FnScope N ps (AC st)) (len : ∀ vs H Q E, sp vs H Q E → vs.length = ps.length)
  (hbody : ∀ (cdv : Value) (A : Around) (outer : List Env) (s : Shared) (H : Hp) (vs : List V) (Q : VK) (E : XK), Room k (A.deeper (envOfC qual (AC st) s.heap.objs.size f cdv)) → sp vs H Q E →
   ∃ t, PSs (cxOf CX0 P w K mg base N qual (AC st) f cdv A outer s H E).nox (Aj st) t ∧ t { nx := fun _ H' => Q .non H', rt := Q } (start N vs) H) : FnOk P w K mg base CX0 (k + 1) f fd ps sp := by
 obtain ⟨oc, od, kV, doc, pm, an, cdv, ct, osl, rfl, lk, hcd⟩ := F.ex
 refine fn_of lk hcd S len fun A outer s H vs Q E hr hsp => ?_
 obtain ⟨t, h, q⟩ := hbody cdv A outer s H vs Q E hr hsp
 exact ⟨t, h.nox, q⟩
theorem Fun.binds {x qual : Str} {st : Stmt} {f : Addr} {fd : FuncData} {ps : List Str} (F : Fun K x qual st f fd)
  (h : ∀ (kV doc pm : Value) (an : Option Addr) (cdv ct : Value) (us : List Value), us.length = ps.length → bindArgs (PySem.W.fnOf x qual (Al st) (Aj st) (AC st) .none kV doc pm an cdv ct) ⟨us, []⟩ = pure (ps.zip us)) : Binds K fd ps [] := by
 obtain ⟨oc, od, kV, doc, pm, an, cdv, ct, osl, rfl, lk, hcd⟩ := F.ex
 exact .all (h kV doc pm an cdv ct)
theorem BJ {x qual : Str} {st : Stmt} {f : Addr} {oc : Value} {od an : Option Addr} {osl : Array (Option Value)} {kV doc pm cdv ct : Value} (l : K.lookup f = some ⟨oc, od, .func (PySem.W.fnOf x qual (Al st) (Aj st) (AC st) .none kV doc pm an cdv ct), osl⟩)
  (c : PySem.W.codeIn K cdv qual = true) (k : PySem.W.keepIn K (.ref f) = true) : Fun K x qual st f (PySem.W.fnOf x qual (Al st) (Aj st) (AC st) .none kV doc pm an cdv ct) := ⟨⟨oc, od, kV, doc, pm, an, cdv, ct, osl, rfl, l, c⟩, k⟩
end
section
variable {X : Cx}
theorem pv (i : Nat) {x : Str} {pos : Pos} (hN : X.N[i]? = some x := by rfl) (hv : Vis X.env.scope x := by first | exact Or.inl rfl | exact Or.inr (Or.inl rfl) | exact Or.inr (Or.inr rfl)) (hd : (x == ("__debug__" : Str)) = false := by decide)
  (hcd : (x == ("__classdict__" : Str)) = false := by decide) : PE X (.Name x pos) (Bc i) := pe_var hN hv hd hcd
end
theorem BQ {A B : Prop} (h : B) : if false = true then A else B := by
 rw [if_neg Bool.false_ne_true]
 exact h
theorem BR {A B : Prop} (h : A) : if true = true then A else B := by
 rw [if_pos rfl]
 exact h
noncomputable def Same (H H' : Hp) : Prop := ∀ b o, H b = some o → H' b = some o
theorem Same.refl (H : Hp) : Same H H := fun _ _ h => h
theorem Same.trans {H H1 H2 : Hp} (a : Same H H1) (b : Same H1 H2) : Same H H2 := fun c o h => b c o (a c o h)
theorem Same.free {H H' : Hp} (e : Same H H') {l : Addr} (h : H' l = Option.none) : H l = Option.none := by
 cases q : H l with
 | none => rfl
 | some o =>
  rw [e l o q] at h
  cases h
theorem Same.seq {K : PySem.W.Frag} {H H' : Hp} {a : Addr} {xs : List V} (e : Same H H') (h : SqL K H a xs) : SqL K H' a xs := by
 rcases h with (h | ⟨o, h⟩) | h
 ·exact .inl (.inl (e _ _ h))
 ·exact .inl (.inr ⟨o, e _ _ h⟩)
 ·exact .inr h
section
variable {κ : Type} [DecidableEq κ]
noncomputable def FK (kvs : List (κ × V)) (k : κ) : Option V := (kvs.find? fun kv => decide (kv.1 = k)).map (·.2)
noncomputable def Fn (kvs : List (κ × V)) (k : κ) (v : V) : List (κ × V) :=
 if (kvs.any fun kv => decide (kv.1 = k)) = true then kvs.map (fun kv => if kv.1 = k then (kv.1, v) else kv) else kvs ++ [(k, v)]
noncomputable def dropK (kvs : List (κ × V)) (k : κ) : List (κ × V) := kvs.filter fun kv => decide (kv.1 ≠ k)
theorem Dw {p : κ × V} {r : List (κ × V)} {k : κ} (e : p.1 = k) : FK (p :: r) k = some p.2 := by simp [FK, List.find?_cons, e]
theorem Dy {p : κ × V} {r : List (κ × V)} {k : κ} (e : ¬ p.1 = k) : FK (p :: r) k = FK r k := by simp [FK, List.find?_cons, e]
theorem valV_any (k : κ) : ∀ kvs : List (κ × V), (kvs.any fun kv => decide (kv.1 = k)) = (FK kvs k).isSome
 | [] => rfl
 | p :: r => by
  rw [List.any_cons]
  by_cases e : p.1 = k
  ·simp only [Dw e, decide_eq_true e, Bool.true_or, Option.isSome_some]
  ·rw [Dy e, decide_eq_false e, Bool.false_or]; exact valV_any k r
theorem valV_snoc (k j : κ) (y : V) : ∀ kvs : List (κ × V), FK kvs k = none → FK (kvs ++ [(k, y)]) j = if j = k then some y else FK kvs j
 | [], _ => by
  by_cases e : k = j
  ·rw [if_pos e.symm]; exact Dw (p := (k, y)) e
  ·rw [if_neg (fun z => e z.symm)]; exact Dy (p := (k, y)) e
 | p :: r, hn => by
  rw [List.cons_append]
  have hk : ¬ p.1 = k := fun z => by rw [Dw z] at hn; cases hn
  rw [Dy hk] at hn
  have ih := valV_snoc k j y r hn
  by_cases e : p.1 = j
  ·rw [Dw e, Dw e, if_neg (fun z => hk (e.trans z))]
  ·rw [Dy e, Dy e, ih]
theorem length_putK (kvs : List (κ × V)) (k : κ) (v : V) : (Fn kvs k v).length ≤ kvs.length + 1 := by
 unfold Fn
 split
 ·rw [List.length_map]; omega
 ·rw [List.length_append, List.length_cons, List.length_nil]; omega
theorem putK_new {kvs : List (κ × V)} {k : κ} (v : V) (h : FK kvs k = none) : Fn kvs k v = kvs ++ [(k, v)] := by
 unfold Fn
 rw [valV_any, h]
 exact if_neg (by decide)
theorem RelO.isSome_eq {o : Option V} {u : Option Value} (r : RelO o u) : o.isSome = u.isSome := by
 cases o with
 | none => cases u with
  | none => rfl
  | some _ => exact (show False from r).elim
 | some _ => cases u with
  | none => exact (show False from r).elim
  | some _ => rfl
theorem RelO.getD {o : Option V} {u : Option Value} {d : V} {d' : Value} (r : RelO o u) (rd : RelV d d') : RelV (o.getD d) (u.getD d') := by
 cases o with
 | none => cases u with
  | none => exact rd
  | some _ => exact (show False from r).elim
 | some _ => cases u with
  | none => exact (show False from r).elim
  | some _ => exact r
theorem KV.val {kvs : List (κ × V)} {vs : List (κ × Value)} (r : KV kvs vs) (k : κ) : RelO (FK kvs k) (valueAt vs k) := by
 unfold KV at r
 induction r with
 | nil => exact True.intro
 | @cons p q ps qs h t ih =>
  obtain ⟨h1, h2⟩ := h
  by_cases e : p.1 = k
  ·have e' : q.1 = k := h1.symm.trans e
   have b : valueAt (q :: qs) k = some q.2 := by simp [valueAt, List.find?_cons, e']
   rw [Dw e, b]; exact h2
  ·have e' : ¬ q.1 = k := fun z => e (h1.trans z)
   have b : valueAt (q :: qs) k = valueAt qs k := by simp [valueAt, List.find?_cons, e']
   rw [Dy e, b]; exact ih
theorem KV.any {kvs : List (κ × V)} {vs : List (κ × Value)} (r : KV kvs vs) (k : κ) : (kvs.any fun kv => decide (kv.1 = k)) = vs.any fun kv => decide (kv.1 = k) := by
 unfold KV at r
 induction r with
 | nil => rfl
 | cons h t ih => rw [List.any_cons, List.any_cons, ih, h.1]
theorem KV.repl {kvs : List (κ × V)} {vs : List (κ × Value)} (r : KV kvs vs) (k : κ) {y : V} {u : Value} (ry : RelV y u) :
  KV (kvs.map fun kv => if kv.1 = k then (kv.1, y) else kv) (vs.map fun kv => if kv.1 = k then (kv.1, u) else kv) := by
 unfold KV at r ⊢
 induction r with
 | nil => exact .nil
 | @cons p q ps qs h t ih =>
  rw [List.map_cons, List.map_cons]
  refine .cons ?_ ih
  obtain ⟨h1, h2⟩ := h
  by_cases e : p.1 = k
  ·rw [if_pos e, if_pos (h1.symm.trans e)]; exact ⟨h1, ry⟩
  ·rw [if_neg e, if_neg (fun z => e (h1.trans z))]; exact ⟨h1, h2⟩
theorem KV.put {kvs : List (κ × V)} {vs : List (κ × Value)} (r : KV kvs vs) (k : κ) {y : V} {u : Value} (ry : RelV y u) : KV (Fn kvs k y) (stored vs k u) := by
 unfold Fn stored
 rw [r.any k]
 by_cases e : (vs.any fun kv => decide (kv.1 = k)) = true
 ·rw [if_pos e, if_pos e]; exact r.repl k ry
 ·rw [if_neg e, if_neg e]; exact Paired.snoc r ⟨rfl, ry⟩
theorem KV.drop {kvs : List (κ × V)} {vs : List (κ × Value)} (r : KV kvs vs) (k : κ) : KV (dropK kvs k) (without vs k) := by
 unfold KV at r ⊢
 unfold dropK without
 induction r with
 | nil => exact .nil
 | @cons p q ps qs h t ih =>
  obtain ⟨h1, h2⟩ := h
  rw [List.filter_cons, List.filter_cons]
  by_cases e : p.1 = k
  ·have a : ¬ decide (p.1 ≠ k) = true := by simp [e]
   have b : ¬ decide (q.1 ≠ k) = true := by simp [h1.symm.trans e]
   rw [if_neg a, if_neg b]; exact ih
  ·have e' : ¬ q.1 = k := fun z => e (h1.trans z)
   have a : decide (p.1 ≠ k) = true := by simp [e]
   have b : decide (q.1 ≠ k) = true := by simp [e']
   rw [if_pos a, if_pos b]; exact .cons ⟨h1, h2⟩ ih
theorem KV.length {kvs : List (κ × V)} {vs : List (κ × Value)} (r : KV kvs vs) : kvs.length = vs.length := Paired.length r
end
theorem kV_is {P : Program} {w : World} {k : Key} {u : Value} (r : RelV (kV k) u) : (BY P w).is k u = true := by
 cases k with
 | inl i => obtain ⟨t, e⟩ := (show ∃ t, u = Value.int i t from r); subst e; exact mixKind_int P w i t
 | inr x => obtain ⟨t, e⟩ := (show ∃ t, u = Value.str x t from r); subst e; exact mixKind_str P w x t
theorem items_are {P : Program} {w : World} : ∀ {ks : List Key} {us : List Value}, Vals (ks.map kV) us → ItemsAre (BY P w) ks us
 | [], _, r => by rw [List.map_nil] at r; cases r; exact .nil
 | k :: ks, _, r => by
  rw [List.map_cons] at r
  cases r with
  | cons h t => exact .cons (kV_is h) (items_are t)
noncomputable abbrev KT (H : Hp) : List (List Key × V) → List (List Key × Addr × Value) → Prop := Paired fun p q => p.1 = q.1 ∧ H q.2.1 = some (.tup (p.1.map kV)) ∧ RelV p.2 q.2.2
theorem KT.val {H : Hp} {kvs : List (List Key × V)} {xs : List (List Key × Addr × Value)} (r : KT H kvs xs) (k : List Key) : RelO (FK kvs k) ((atKey xs k).map (·.2)) := by
 induction r with
 | nil => exact True.intro
 | @cons p q ps qs h t ih =>
  obtain ⟨h1, _, h2⟩ := h
  by_cases e : p.1 = k
  ·have e' : q.1 = k := h1.symm.trans e
   have b : atKey (q :: qs) k = some q.2 := by simp [atKey, List.find?_cons, e']
   rw [Dw e, b]; exact h2
  ·have e' : ¬ q.1 = k := fun z => e (h1.trans z)
   have b : atKey (q :: qs) k = atKey qs k := by simp [atKey, List.find?_cons, e']
   rw [Dy e, b]; exact ih
theorem KT.repl {H : Hp} {kvs : List (List Key × V)} {xs : List (List Key × Addr × Value)} (r : KT H kvs xs) (k : List Key) {y : V} {u : Value} (ry : RelV y u) :
  KT H (kvs.map fun kv => if kv.1 = k then (kv.1, y) else kv) (xs.map (putAt k u)) := by
 induction r with
 | nil => exact .nil
 | @cons p q ps qs h t ih =>
  rw [List.map_cons, List.map_cons]
  refine .cons ?_ ih
  obtain ⟨h1, h2, h3⟩ := h
  unfold putAt
  by_cases e : p.1 = k
  ·rw [if_pos e, if_pos (h1.symm.trans e)]; exact ⟨h1, h2, ry⟩
  ·rw [if_neg e, if_neg (fun z => e (h1.trans z))]; exact ⟨h1, h2, h3⟩
theorem KT.put {H : Hp} {kvs : List (List Key × V)} {xs : List (List Key × Addr × Value)} (r : KT H kvs xs) (k : List Key) {b : Addr} {y : V} {u : Value} (hb : H b = some (.tup (k.map kV))) (ry : RelV y u) :
  KT H (Fn kvs k y) (storedH xs k b u) := by
 have e : (kvs.any fun kv => decide (kv.1 = k)) = (atKey xs k).isSome := by
  rw [valV_any, (r.val k).isSome_eq, Option.isSome_map]
 unfold Fn storedH
 rw [e]
 by_cases q : (atKey xs k).isSome = true
 ·rw [if_pos q, if_pos q]; exact r.repl k ry
 ·rw [if_neg q, if_neg q]; exact Paired.snoc r ⟨rfl, hb, ry⟩
theorem KT.keeps {H H' : Hp} {kvs : List (List Key × V)} {xs : List (List Key × Addr × Value)} (r : KT H kvs xs) (ht : ∀ b ys, H b = some (.tup ys) → H' b = some (.tup ys)) : KT H' kvs xs :=
 Paired.mapP r fun _ _ z => ⟨z.1, ht _ _ z.2.1, z.2.2⟩
section
variable {P : Program} {w : World} {H : Hp} {h : Heap} {a : Addr}
theorem rd_of {u : HO} (ok : HOk P w H h) (e : Rd H a u) : ObjOk P w H h a u := e.ok ok
theorem dk_rd {kvs : List (Key × V)} (ok : HOk P w H h) (e : Rd H a (.dK kvs)) : kvs.length ≤ sizeLine ∧ (a == sysModules) = false ∧ ∃ vs, KV kvs vs ∧ h.DictOf (BY P w) a vs :=
 show ObjOk P w H h a (.dK kvs) from rd_of ok e
theorem dk_of {kvs : List (Key × V)} (ok : HOk P w H h) (e : H a = some (.dK kvs)) : kvs.length ≤ sizeLine ∧ (a == sysModules) = false ∧ ∃ vs, KV kvs vs ∧ h.DictOf (BY P w) a vs := dk_rd ok (.inl e)
theorem key_of {ks : List Key} (ok : HOk P w H h) (e : H a = some (.tup (ks.map kV))) : (tupleKind (BY P w)).is h ks a := by
 obtain ⟨_, its, r, o, h1, h2, n, h3⟩ := (show ObjOk P w H h a (.tup (ks.map kV)) from ok a _ e)
 exact ⟨o, its.toArray, n, h1, h2, h3, by simpa using items_are r⟩
theorem dt_rd {kvs : List (List Key × V)} (ok : HOk P w H h) (e : Rd H a (.dT kvs)) : kvs.length ≤ sizeLine ∧ (a == sysModules) = false ∧
  ∃ xs, KT H kvs xs ∧ h.DictOfH (tupleKind (BY P w)) a xs := by
 obtain ⟨z, y, xs, r, o, es, ep, h1, h2, h3, h4, h5⟩ := (show ObjOk P w H h a (.dT kvs) from rd_of ok e)
 refine ⟨z, y, xs, r, o, es, ep, h1, h2, h3, h4, fun x hx => ?_, h5⟩
 have all : ∀ {l : List (List Key × V)} {m : List (List Key × Addr × Value)}, KT H l m → ∀ x ∈ m, (tupleKind (BY P w)).is h x.1 x.2.1 := by
  intro l m q
  induction q with
  | nil => intro x hx; exact nomatch hx
  | @cons p q ps qs hq t ih =>
   intro x hx
   rcases List.mem_cons.mp hx with e | hx
   ·subst e
    exact key_of ok (by rw [← hq.1]; exact hq.2.1)
   ·exact ih x hx
 exact all r x hx
theorem dt_of {kvs : List (List Key × V)} (ok : HOk P w H h) (e : H a = some (.dT kvs)) : kvs.length ≤ sizeLine ∧ (a == sysModules) = false ∧
  ∃ xs, KT H kvs xs ∧ h.DictOfH (tupleKind (BY P w)) a xs := dt_rd ok (.inl e)
end
noncomputable def DGet (H : Hp) (a : Addr) (y : V) (r : Option V) : Prop :=
 (∃ kvs k, Rd H a (.dK kvs) ∧ y = kV k ∧ r = FK kvs k) ∨ ∃ kvs k b, Rd H a (.dT kvs) ∧ y = .ref b ∧ H b = some (.tup (k.map kV)) ∧ r = FK kvs k
noncomputable def DPut (H : Hp) (a : Addr) (y v : V) (H' : Hp) : Prop :=
 (∃ kvs k, H a = some (.dK kvs) ∧ y = kV k ∧ kvs.length < sizeLine ∧ H' = upd H a (.dK (Fn kvs k v))) ∨
 ∃ kvs k b, H a = some (.dT kvs) ∧ y = .ref b ∧ H b = some (.tup (k.map kV)) ∧ kvs.length < sizeLine ∧ H' = upd H a (.dT (Fn kvs k v))
theorem DGet.k {H : Hp} {a : Addr} {kvs : List (Key × V)} {k : Key} (e : H a = some (.dK kvs)) : DGet H a (kV k) (FK kvs k) := .inl ⟨kvs, k, .inl e, rfl, rfl⟩
theorem DGet.t {H : Hp} {a b : Addr} {kvs : List (List Key × V)} {k : List Key} (e : H a = some (.dT kvs)) (eb : H b = some (.tup (k.map kV))) : DGet H a (.ref b) (FK kvs k) := .inr ⟨kvs, k, b, .inl e, rfl, eb, rfl⟩
theorem DPut.k {H : Hp} {a : Addr} {kvs : List (Key × V)} {k : Key} {v : V} (e : H a = some (.dK kvs)) (hl : kvs.length < sizeLine) : DPut H a (kV k) v (upd H a (.dK (Fn kvs k v))) := .inl ⟨kvs, k, e, rfl, hl, rfl⟩
theorem DPut.t {H : Hp} {a b : Addr} {kvs : List (List Key × V)} {k : List Key} {v : V} (e : H a = some (.dT kvs)) (eb : H b = some (.tup (k.map kV))) (hl : kvs.length < sizeLine) :
  DPut H a (.ref b) v (upd H a (.dT (Fn kvs k v))) := .inr ⟨kvs, k, b, e, rfl, eb, hl, rfl⟩
section
variable {X : Cx} {pins : List (Addr × Obj)} {σ : St} {H : Hp} {s : Shared} {a : Addr} {y v : V} {u r : Value} {o : Option V} {A : Around} {E : Value → Shared → Prop}
theorem Inv.big (I : Inv X pins σ H s) : sysModules < s.heap.objs.size := by
 have h : mainGlobals < s.heap.objs.size := (I.mod.glob.keeps I.bk).lt
 exact Nat.lt_trans (by decide) h
theorem d_getItem {Q : Value → Shared → Prop} (hu : A.units + 1 < cLine) (I : Inv X pins σ H s) (g : DGet H a y (some v)) (ry : RelV y u) (h : ∀ w' s', Inv X pins σ H s' → RelV v w' → Q w' s') :
  wpAny (model X.prog X.w) A (getItem (.ref a) u) Q E s := by
 rcases g with ⟨kvs, k, e, ey, l⟩ | ⟨kvs, k, b, e, ey, eb, l⟩
 ·subst ey
  obtain ⟨z, hd, vs, rel, dd⟩ := dk_rd I.hok e
  obtain ⟨w', hw, rw'⟩ := RelO.some_of (v := v) (o := valueAt vs k) (by rw [l]; exact rel.val k)
  exact wpAny_getItem_of (kV_is ry) dd.mapOf hw (h w' _ (I.tok _) rw')
 ·subst ey
  cases (show u = Value.ref b from ry)
  obtain ⟨z, hd, xs, rel, dd⟩ := dt_rd I.hok e
  obtain ⟨w', hw, rw'⟩ := RelO.some_of (v := v) (o := (atKey xs k).map (·.2)) (by rw [l]; exact rel.val k)
  obtain ⟨p, hp, hp2⟩ := Option.map_eq_some_iff.mp hw
  refine wpAny_getItem_heap (tupleKind_room_in1 hu) (key_of I.hok eb) dd hp ?_
  rw [hp2]
  exact h w' _ (I.tok _) rw'
theorem d_notIn {Q : Value → Shared → Prop} (hu : A.units + 1 < cLine) (I : Inv X pins σ H s) (g : DGet H a y o) (ry : RelV y u) (h : ∀ s', Inv X pins σ H s' → Q (.bool (!o.isSome)) s') :
  wpAny (model X.prog X.w) A (compareOp .NotIn u (.ref a)) Q E s := by
 rcases g with ⟨kvs, k, e, ey, l⟩ | ⟨kvs, k, b, e, ey, eb, l⟩
 ·subst ey
  obtain ⟨z, hd, vs, rel, dd⟩ := dk_rd I.hok e
  refine wpAny_notIn_of (kV_is ry) hd dd.mapOf ?_
  rw [← (rel.val k).isSome_eq, ← l]
  exact h _ (I.tok _)
 ·subst ey
  cases (show u = Value.ref b from ry)
  obtain ⟨z, hd, xs, rel, dd⟩ := dt_rd I.hok e
  refine wpAny_notIn_heap (tupleKind_room_in1 hu) (key_of I.hok eb) hd dd ?_
  have q := (rel.val k).isSome_eq
  rw [Option.isSome_map] at q
  rw [← q, ← l]
  exact h _ (I.tok _)
theorem d_write {h' : Heap} {t' : Nat} {ob : HO} (I : Inv X pins σ H s) (mu : Mut (H a)) (hs : Heap.SameBut a s.heap h') (he : ∃ q, h'.get? a = some q) (new : ObjOk X.prog X.w (upd H a ob) h' a ob) :
  Inv X pins σ (upd H a ob) { s with heap := h', toks := t' } :=
 I.write (x := a) (e := a) mu (.inl rfl) (fun b q hb z => (hs.2 b hb).trans z) he new
theorem dk_new {P : Program} {w : World} {H' : Hp} {h' : Heap} {kvs : List (Key × V)} {vs : List (Key × Value)} (z : kvs.length ≤ sizeLine) (hd : (a == sysModules) = false) (rel : KV kvs vs) (dd : h'.DictOf (BY P w) a vs) :
  ObjOk P w H' h' a (.dK kvs) := ⟨z, hd, vs, rel, dd⟩
theorem d_setItem {H' : Hp} {Q : Unit → Shared → Prop} (hu : A.units + 1 < cLine) (I : Inv X pins σ H s) (g : DPut H a y v H') (ry : RelV y u) (rv : RelV v r) (h : ∀ s', Inv X pins σ H' s' → Q () s') :
  wpAny (model X.prog X.w) A (setItem (.ref a) u r) Q E s := by
 rcases g with ⟨kvs, k, e, ey, l, eH⟩ | ⟨kvs, k, b, e, ey, eb, l, eH⟩
 ·subst ey eH
  obtain ⟨z, hd, vs, rel, dd⟩ := dk_of I.hok e
  have hz : vs.length ≤ sizeLine := by rw [← rel.length]; exact z
  have hl : (Fn kvs k v).length ≤ sizeLine := by have := length_putK kvs k v; omega
  refine wpAny_setItem_pairs (hsz := hz) (kV_is ry) dd fun h' dd' hs => h _ ?_
  have he : ∃ q, h'.get? a = some q := let ⟨q, _, _, hq, _⟩ := dd'; ⟨q, hq⟩
  exact d_write I (by rw [e]; exact True.intro) hs he (dk_new hl hd (rel.put k rv) dd')
 ·subst ey eH
  cases (show u = Value.ref b from ry)
  obtain ⟨z, hd, xs, rel, dd⟩ := dt_of I.hok e
  have hz : xs.length ≤ sizeLine := by rw [← Paired.length rel]; exact z
  have hl : (Fn kvs k v).length ≤ sizeLine := by have := length_putK kvs k v; omega
  refine wpAny_setItem_heap (hsz := hz) (tupleKind_room_in1 hu) (key_of I.hok eb) dd fun h' dd' hs => h _ ?_
  obtain ⟨q, es, ep, hq, h2, h3, h4, _, h5⟩ := dd'
  refine d_write I (by rw [e]; exact True.intro) hs ⟨q, hq⟩ ⟨hl, hd, _, (rel.put k eb rv).keeps fun c ys ec => ?_, q, es, ep, hq, h2, h3, h4, h5⟩
  rw [Ao (ne_of ec e (fun z => nomatch z))]
  exact ec
end
section
variable {X : Cx} {pins : List (Addr × Obj)} {σ : St} {H : Hp} {s : Shared} {a : Addr} {kvs : List (Key × V)} {k : Key} {u : Value} {A : Around} {E : Value → Shared → Prop}
end
noncomputable def NoSl (i : Expr) : Prop := ∀ ov iv, subscripted i false ov iv = operate [ov, iv] (getItem ov iv)
theorem subD_of {prog : Program} {w : World} {A : Around} {E : Value → Shared → Prop} {s : Shared} {env : Env} {value slice : Expr} {pos : Pos} {T id : String} {Q : Value → Shared → Prop}
  (hl : typeLookup (.type T) "__getitem__" = pure (some (.builtin id))) (hs : NoSl slice)
  (h : wpAny (model prog w) A (eval value env) (fun o s₁ => wpAny (model prog w) A (eval slice env) (fun i s₂ => s₂.TypeIs o T ∧ wpAny (model prog w) A (getItem o i) Q E s₂) E s₁) E s) :
  wpAny (model prog w) A (eval (.Subscript value slice pos) env) Q E s := by
 refine Subscript_ (wpAny_mono h (fun o s₁ h₁ => wpAny_mono h₁ (fun i s₂ h₂ => ?_) fun _ _ x => x) fun _ _ x => x)
 obtain ⟨hT, h₂⟩ := h₂
 unfold subscriptTail
 refine wpAny_bind ?_
 rw [getitemInPython_of_ne hT.not_modules]
 refine wpAny_bind (wpAny_specialOf hT hl ?_)
 have fin : wpAny (model prog w) A (subscripted slice false o i) (fun r s₃ => wpAny (model prog w) A (letTemporaryGo value o r >>= fun _ => pure r) Q E s₃) E s₂ := by
  rw [hs o i]
  exact wpAny_operating (wpAny_mono h₂ (fun r s₃ h₃ => wpAny_bind (wpAny_letTemporaryGo (wpAny_pure h₃))) fun _ _ x => x)
 first
  | exact wpAny_pure (wpAny_bind fin)
  | exact wpAny_bind (wpAny_pure (wpAny_bind fin))
  | exact wpAny_bind fin
theorem dict_typeIs {X : Cx} {pins : List (Addr × Obj)} {σ : St} {H : Hp} {s : Shared} {a : Addr} {y : V} {o : Option V} (I : Inv X pins σ H s) (g : DGet H a y o) : s.TypeIs (.ref a) "dict" := by
 rcases g with ⟨kvs, k, e, _, _⟩ | ⟨kvs, k, b, e, _, _, _⟩
 ·obtain ⟨_, _, vs, _, dd⟩ := dk_rd I.hok e
  exact dd.typeIs
 ·obtain ⟨_, _, xs, _, dd⟩ := dt_rd I.hok e
  exact dd.typeIs
noncomputable def tDGet (td ty : TE) : TE := fun σ H Q => td σ H fun x H1 => ty σ H1 fun y H2 => ∃ a v, x = .ref a ∧ DGet H2 a y (some v) ∧ Q v H2
noncomputable def tDNotIn (ty td : TE) : TE := fun σ H Q => ty σ H fun y H1 => td σ H1 fun x H2 => ∃ a o, x = .ref a ∧ DGet H2 a y o ∧ Q (.bl (!o.isSome)) H2
noncomputable def sDPut (td ty tv : TE) : TS := fun D σ H => tv σ H fun v H1 => td σ H1 fun x H2 => ty σ H2 fun y H3 => ∃ a H4, x = .ref a ∧ DPut H3 a y v H4 ∧ D.nx σ H4
section
variable {X : Cx} {o i e value : Expr} {pos pos' tpos : Pos} {td ty tv : TE}
theorem pe_dget (hu : X.A.units + 1 < cLine) (ho : PE X o td) (hi : PE X i ty) (hs : NoSl i) : PE X (.Subscript o i pos) (tDGet td ty) := by
 intro pins s σ H Q I h
 refine subD_of PySem.F.slot_dict_getitem.lookup hs (thn (ho pins s σ H _ I h) fun u s1 ⟨x, H1, I1, rx, q1⟩ => thn (hi pins s1 σ H1 _ I1 q1) fun iv s2 ⟨y, H2, I2, ry, a, v, ex, g, q2⟩ => ?_)
 subst ex
 obtain rfl : u = Value.ref a := rx
 exact ⟨dict_typeIs I2 g, d_getItem hu I2 g ry fun w' s3 I3 rw' => ⟨v, H2, I3, rw', q2⟩⟩
theorem pc_dnotin (hu : X.A.units + 1 < cLine) (hi : PE X i ty) (ho : PE X o td) : PC X .NotIn i o (tDNotIn ty td) := by
 intro pins s σ H Q I h
 refine thn (hi pins s σ H _ I h) fun iv s1 ⟨y, H1, I1, ry, q1⟩ => thn (ho pins s1 σ H1 _ I1 q1) fun u s2 ⟨x, H2, I2, rx, a, ov, ex, g, q2⟩ => ?_
 subst ex
 obtain rfl : u = Value.ref a := rx
 exact d_notIn hu I2 g ry fun s3 I3 => ⟨.bl (!ov.isSome), H2, I3, rfl, q2⟩
theorem ps_dput (hu : X.A.units + 1 < cLine) (ho : PE X o td) (hi : PE X i ty) (hv : PE X value tv) (hs : swapsWith value (some (.Subscript o i pos')) pos.line X.env = pure false) :
  PS X (.Assign [.Subscript o i pos'] value pos) (sDPut td ty tv) := by
 intro pins s σ H D I h
 refine wpAny_Assign_Subscript (thn (hv pins s σ H _ I h) fun r s1 ⟨v, H1, I1, rv, q1⟩ => thn (ho pins s1 σ H1 _ I1 q1) fun u s2 ⟨x, H2, I2, rx, q2⟩ => thn (hi pins s2 σ H2 _ I2 q2) fun iv s3 ⟨y, H3, I3, ry, a, H4, ex, g, q3⟩ => ?_) hs
 subst ex
 obtain rfl : u = Value.ref a := rx
 exact d_setItem hu I3 g ry rv fun s4 I4 => ⟨σ, H4, I4, q3⟩
end
theorem dt_empty {P : Program} {w : World} {H : Hp} (h : Heap) (hb : sysModules < h.objs.size) : ObjOk P w H (h.push { cls := .type "dict", data := .dict #[] }) h.objs.size (.dT []) :=
 ⟨Nat.zero_le _, beq_eq_false_iff_ne.mpr (Ne.symm (Nat.ne_of_lt hb)), [], .nil, _, #[], 0, Heap.get?_push_size _ rfl, ⟨rfl, rfl, rfl⟩, rfl, rfl, List.nodup_nil⟩
noncomputable def tDNewT : TE := fun _ H Q => ∀ p, H p = none → Q (.ref p) (upd H p (.dT []))
section
variable {X : Cx} {pos : Pos}
theorem pe_dnewT : PE X (.Dict [] [] pos) tDNewT := fun pins s σ H Q I h =>
 wpAny_Dict_empty ⟨.ref s.heap.objs.size, _, I.laid (a := s.heap.objs.size) (o := .dT []) (t' := s.toks) (fun _ _ q => Heap.get?_push_of_some _ q) (Nat.le_refl _) (dt_empty s.heap I.big), rfl, h _ (I.hok.fresh (Nat.le_refl _))⟩
end
section
variable {X : Cx} {pins : List (Addr × Obj)} {σ : St} {H : Hp} {s : Shared} {a : Addr} {y d : V} {u r : Value} {o : Option V} {A : Around} {E : Value → Shared → Prop}
end
section
variable {X : Cx} {o e f : Expr} {apos cpos : Pos} {td ty tx : TE}
end
section
variable {X : Cx} {pins : List (Addr × Obj)} {σ : St} {H : Hp} {s : Shared} {a : Addr} {kvs : List (Key × V)} {A : Around} {E : Value → Shared → Prop}
end
section
variable {X : Cx} {pins : List (Addr × Obj)} {σ : St} {H : Hp} {s : Shared} {a : Addr} {y : V} {u : Value} {A : Around} {E : Value → Shared → Prop}
end
theorem len_app (x y : Str) : (x ++ y).length = x.length + y.length := by
 show (x.cps ++ y.cps).size = _
 rw [Array.size_append]
 rfl
theorem cps_app (x y : Str) : (x ++ y).cps.toList = x.cps.toList ++ y.cps.toList := by
 show (x.cps ++ y.cps).toList = _
 rw [Array.toList_append]
theorem len_cps (x : Str) : x.length = x.cps.toList.length := by
 show x.cps.size = _
 rw [Array.length_toList]
theorem empty_cps : ("" : Str).cps = #[] := by decide +kernel
theorem glue_nil : ∀ (ps : List Str) (acc : Array Nat), (ps.foldl (fun acc p => acc ++ ("" : Str).cps ++ p.cps) acc).toList = acc.toList ++ (ps.map (·.cps.toList)).flatten
 | [], acc => by simp
 | p :: ps, acc => by
  rw [List.foldl_cons, glue_nil ps]
  simp [empty_cps]
theorem join_cps (ys : List Str) : (Txt.join "" ys).cps.toList = (ys.map (·.cps.toList)).flatten := by
 show ((ys.drop 1).foldl (fun acc p => acc ++ ("" : Str).cps ++ p.cps) (ys.headD Str.empty).cps).toList = _
 rw [glue_nil]
 cases ys with
 | nil => rfl
 | cons a r => simp
theorem flat_ones : ∀ (cs : List Nat), ((cs.map fun c => (⟨#[c]⟩ : Str)).map (·.cps.toList)).flatten = cs
 | [] => rfl
 | c :: cs => by
  have := flat_ones cs
  simp only [List.map_cons, List.flatten_cons]
  rw [this]
  rfl
theorem join_ones' (cs : List Nat) : (Txt.join "" (cs.map fun c => (⟨#[c]⟩ : Str))).cps.toList = cs := by
 rw [join_cps, flat_ones]
theorem sum_ones : ∀ (cs : List Nat), ((cs.map fun c => (⟨#[c]⟩ : Str)).map (·.length)).sum = cs.length
 | [] => rfl
 | c :: cs => by
  have := sum_ones cs
  simp only [List.map_cons, List.sum_cons, this, List.length_cons]
  show 1 + cs.length = _
  omega
theorem sing_lt (a b : Nat) : ([a] < [b]) ↔ a < b := by
 rw [List.cons_lt_cons_iff]
 simp
noncomputable def GB (scope : Scope) (env : Env) : List (Str × Addr) :=
 (scope.names.filterMap fun p => if p.2 == NameKind.free then (env.cells.lookup p.1).map fun c => (p.1, c) else none).reverse
theorem Ev {env : Env} : ∀ (names : List (Str × NameKind)) (acc : List (Str × Addr)), (∀ y ∈ names, y.2 = .free → ∃ c, env.cells.lookup y.1 = some c) →
  (forIn names acc fun (x : Str × NameKind) (cs : List (Str × Addr)) => (match x with
   | (name, kind) => if (kind == NameKind.free) = true then do
     let c ← cellOf env name
     pure (ForInStep.yield ((name, c) :: cs))
    else pure (ForInStep.yield cs) : Sem (ForInStep (List (Str × Addr))))) =
   pure ((names.filterMap fun p => if p.2 == NameKind.free then (env.cells.lookup p.1).map fun c => (p.1, c) else none).reverse ++ acc)
 | [], acc, _ => rfl
 | (n, k) :: r, acc, h => by
  rw [List.forIn_cons]
  by_cases hk : k = .free
  ·subst hk
   obtain ⟨c, hc⟩ := h (n, .free) List.mem_cons_self rfl
   have e1 : cellOf env n = pure c := by unfold cellOf; rw [hc]
   have ih := Ev r ((n, c) :: acc) fun y hy => h y (List.mem_cons_of_mem _ hy)
   simp only [beq_self_eq_true, if_true, e1, pure_bind, List.filterMap_cons, hc, Option.map_some, List.reverse_cons, List.append_assoc, List.singleton_append]
   exact ih
  ·have hb : (k == NameKind.free) = false := by simpa using hk
   have ih := Ev r acc fun y hy => h y (List.mem_cons_of_mem _ hy)
   simp only [hb, Bool.false_eq_true, if_false, pure_bind, List.filterMap_cons]
   exact ih
theorem closureFor_eq {scope : Scope} {env : Env} (h : ∀ y ∈ scope.names, y.2 = .free → ∃ c, env.cells.lookup y.1 = some c) : closureFor scope env = pure (GB scope env) := by
 have e := Ev (env := env) scope.names [] h
 unfold closureFor
 rw [List.append_nil] at e
 exact (congrArg (· >>= pure) e).trans (by rfl)
theorem clOf_mem {scope : Scope} {env : Env} {y : Str} {c : Addr} (h : (y, c) ∈ GB scope env) : (y, NameKind.free) ∈ scope.names ∧ env.cells.lookup y = some c := by
 unfold GB at h
 obtain ⟨⟨n, k⟩, hp, e⟩ := List.mem_filterMap.mp (List.mem_reverse.mp h)
 by_cases hk : k = .free
 ·subst hk
  simp only [beq_self_eq_true, if_true] at e
  cases hc : env.cells.lookup n with
  | none => rw [hc] at e; cases e
  | some c' =>
   rw [hc] at e
   have e' : (n, c') = (y, c) := Option.some.inj e
   cases e'
   exact ⟨hp, hc⟩
 ·have hb : (k == NameKind.free) = false := by simpa using hk
  simp only [hb, Bool.false_eq_true, if_false] at e
  cases e
theorem Cl {scope : Scope} {env : Env} {y : Str} {c : Addr} (h : (GB scope env).lookup y = some c) : env.cells.lookup y = some c := (clOf_mem (PySem.mem_of_lookup h)).2
theorem lookup_of_mem {α : Type} {y : Str} : ∀ {l : List (Str × α)} {c : α}, (y, c) ∈ l → ∃ c', l.lookup y = some c'
 | (n, a) :: r, c, h => by
  by_cases e : y = n
  ·subst e; exact ⟨a, by simp [List.lookup_cons]⟩
  ·have hb : (y == n) = false := by simpa using e
   rcases List.mem_cons.mp h with h | h
   ·cases h; exact absurd rfl e
   ·obtain ⟨c', h'⟩ := lookup_of_mem h
    exact ⟨c', by simp [List.lookup_cons, hb, h']⟩
theorem clOf_has {scope : Scope} {env : Env} {y : Str} {c : Addr} (h1 : (y, NameKind.free) ∈ scope.names) (h2 : env.cells.lookup y = some c) : (GB scope env).lookup y = some c := by
 have m : (y, c) ∈ GB scope env := by
  unfold GB
  exact List.mem_reverse.mpr (List.mem_filterMap.mpr ⟨(y, .free), h1, by simp [h2]⟩)
 obtain ⟨c', h'⟩ := lookup_of_mem m
 have := Cl h'
 rw [h2] at this
 cases this
 exact h'
theorem relabel_free {scope : Scope} {env : Env} (hcell : ∀ y ∈ scope.names, y.2 ≠ .cell) {y : Str} (h : (relabel scope env).names.lookup y = some .cell ∨ (relabel scope env).names.lookup y = some .free) : (y, NameKind.free) ∈ scope.names := by
 have m : ∃ k, (k = .cell ∨ k = .free) ∧ (y, k) ∈ (relabel scope env).names := by
  rcases h with h | h
  ·exact ⟨_, .inl rfl, PySem.mem_of_lookup h⟩
  ·exact ⟨_, .inr rfl, PySem.mem_of_lookup h⟩
 obtain ⟨k, hk, hm⟩ := m
 unfold relabel at hm
 obtain ⟨⟨n, k'⟩, hp, e⟩ := List.mem_map.mp hm
 dsimp only at e
 by_cases hf : k' = .free
 ·subst hf
  split at e <;> (cases e; exact hp)
 ·have hb : (k' == NameKind.free) = false := by simpa using hf
  rw [hb, Bool.false_and, Bool.false_and, if_neg (by decide)] at e
  cases e
  rcases hk with hk | hk
  ·exact absurd hk (hcell _ hp)
  ·exact absurd hk hf
noncomputable def BM (X : Cx) (N : List Str) (scope : Scope) (C : Addr) (s : Shared) (H : Hp) (fp : List Addr) : Cx where
 prog := X.prog
 w := X.w
 K := X.K
 mg := X.mg
 base := X.base
 A := X.A
 N := N
 s₀ := s
 H₀ := H
 env := compEnvC scope (GB scope X.env) C X.env
 outer := X.stack
 stack := X.stack
 ex := fp
 fn := fun _ => false
 calm := true
 pn := []
 xe := fun _ _ => False
noncomputable def Caps (X : Cx) (scope : Scope) : List Str → List Nat → Prop
 | [], [] => True
 | x :: xs, i :: is => (X.N[i]? = some x ∧ (X.env.scope.names.lookup x = some .cell ∨ X.env.scope.names.lookup x = some .free) ∧ scope.names.lookup x = some .free) ∧ Caps X scope xs is
 | _, _ => False
theorem Caps.len {X : Cx} {scope : Scope} : ∀ {xs : List Str} {is : List Nat}, Caps X scope xs is → is.length = xs.length
 | [], [], _ => rfl
 | _ :: _, _ :: _, h => congrArg (· + 1) (Caps.len h.2)
 | [], _ :: _, h => h.elim
 | _ :: _, [], h => h.elim
theorem Caps.at {X : Cx} {scope : Scope} : ∀ {xs : List Str} {is : List Nat} {j : Nat} {x : Str}, Caps X scope xs is → xs[j]? = some x → ∃ i, is[j]? = some i ∧ X.N[i]? = some x ∧ (X.env.scope.names.lookup x = some .cell ∨ X.env.scope.names.lookup x = some .free) ∧ scope.names.lookup x = some .free
 | [], [], _, _, _, e => by simp at e
 | y :: _, i :: _, 0, x, h, e => by
  simp at e; subst e
  exact ⟨i, rfl, h.1⟩
 | _ :: xs, _ :: is, j + 1, x, h, e => by
  obtain ⟨i, h1, h2⟩ := Caps.at (j := j) h.2 (by simpa using e)
  exact ⟨i, by simpa using h1, h2⟩
 | [], _ :: _, _, _, h, _ => h.elim
 | _ :: _, [], _, _, h, _ => h.elim
noncomputable def inner (cap : List Nat) (σ : St) : St := none :: cap.map fun i => (σ[i]?).join
noncomputable def PTs (X : Cx) (ifs : List Expr) (t : TT) : Prop :=
 ∀ (pins : List (Addr × Obj)) (s : Shared) (σ : St) (H : Hp) (Q : Bool → Hp → Prop), Inv X pins σ H s → t σ H Q →
  wpAny (model X.prog X.w) X.A (forIn ifs true fun c r => if r = true then do let ok ← isTrue c X.env (eval c X.env); pure (ForInStep.yield ok) else pure (ForInStep.yield r)) (TP X pins σ Q) X.xe s
noncomputable def tYes : TT := fun _ H Q => Q true H
theorem D9 {X : Cx} : PTs X [] tYes := fun _ _ _ H _ I h => wpAny_tests_nil ⟨H, I, h⟩
theorem Fy {X : Cx} {c : Expr} {t : TT} (h : PT X c t) : PTs X [c] t := fun pins s σ H Q I q => wpAny_tests_one (h pins s σ H Q I q)
theorem compLoop_any {prog : Program} {w : World} {A : Around} {R : Result → Shared → Prop} {s : Shared} {elt target iter : Expr} {ifs : List Expr} {scope : Scope} {pos : Pos} {it acc : Value} {env : Env} (I : Nat → Shared → Prop)
  (turn : ∀ n s, I n s → wpAny (model prog w) A (pyNext it) (fun r s₁ => match r with
   | none => R (.ok .next) s₁
   | some v => wpAny (model prog w) A (letOwnedTupleGo target it v) (fun _ s₁' => wpAny (model prog w) A (assign target env v) (fun _ s₂ =>
     wpAny (model prog w) A (forIn ifs true fun c r => if r = true then do let ok ← isTrue c env (eval c env); pure (ForInStep.yield ok) else pure (ForInStep.yield r)) (fun ok s₃ =>
      if ok = true then wpAny (model prog w) A (eval elt env) (fun x s₄ =>
       wpAny (model prog w) A (call (.builtin "list.append") [acc, x]) (fun _ s₅ => ∃ m, m < n ∧ I m s₅) (fun _ _ => False) s₄) (fun _ _ => False) s₃
      else ∃ m, m < n ∧ I m s₃) (fun _ _ => False) s₂) (fun _ _ => False) s₁') (fun _ _ => False) s₁) (fun _ _ => False) s)
  (n : Nat) (h : I n s) :
  codeAny (model prog w) A (.compLoop (.ListComp elt [⟨target, iter, ifs, 0⟩] scope pos) 0 it acc env) R s := by
 refine codeAny_loop rfl I (fun n s hI => ?_) n h
 show wpAny _ A ((compTurn (.ListComp elt [⟨target, iter, ifs, 0⟩] scope pos) 0 it acc env).onRaise (fun x => do noteFrame x env; theTreesLotGoes x)) _ _ s
 refine wpAny_noted ?_
 rw [compTurn_list]
 refine wpAny_bind (wpAny_standAt (wpAny_bind (wpAny_mono (turn n s hI) (fun r s₁ h₁ => ?_) fun _ _ h' => h'.elim)))
 cases r with
 | none => exact wpAny_pure h₁
 | some v =>
  refine wpAny_bind (wpAny_mono h₁ (fun _ s₁' h₁' => ?_) fun _ _ h' => h'.elim)
  refine wpAny_bind (wpAny_mono h₁' (fun _ s₂ h₂ => wpAny_bind (wpAny_mono h₂ (fun ok s₃ h₃ => ?_) fun _ _ h' => h'.elim)) fun _ _ h' => h'.elim)
  cases ok with
  | false => exact wpAny_pure ⟨rfl, h₃⟩
  | true =>
   exact wpAny_bind (wpAny_bind (wpAny_mono h₃ (fun x s₄ h₄ => wpAny_bind (wpAny_mono h₄ (fun _ s₅ h₅ => wpAny_pure (wpAny_pure ⟨rfl, h₅⟩)) fun _ _ h' => h'.elim)) fun _ _ h' => h'.elim))
noncomputable def tComp (cap : List Nat) (wi : TI) (tc : TT) (te : TE) : TE := fun σ H Q => wi σ H fun J H1 => ∀ p, H1 p = none →
 ∃ W : Nat → Nat → List V → Hp → Prop, (∃ m, W 0 m [] (upd H1 p (.lst []))) ∧ ∀ i m xs H2, W i m xs H2 →
  (J.stop i H2 ∧ Q (.ref p) H2) ∨ (J.go i H2 ∧ ∃ N : List V → Hp → Prop, (∀ xs' H', N xs' H' → ∃ m', m' < m ∧ W (i + 1) m' xs' H') ∧
   ∀ x H3, J.yld i H2 x H3 → tc ((inner cap σ).set 0 (some x)) H3 fun b H5 => if b = true then te ((inner cap σ).set 0 (some x)) H5 fun v H6 => H6 p = some (.lst xs) ∧ xs.length < sizeLine ∧ N (xs ++ [v]) (upd H6 p (.lst (xs ++ [v]))) else N xs H5)
section
variable {X : Cx} {pins : List (Addr × Obj)} {σ : St}
structure CompScope (X : Cx) (scope : Scope) : Prop where
 cell : ∀ y ∈ scope.names, y.2 ≠ .cell
 kind : scope.kind = .function
 names : ∀ y ∈ scope.names, y.2 = .local → scope.names.lookup y.1 = some .local
 free : ∀ y ∈ scope.names, y.2 = .free → X.env.scope.names.lookup y.1 = some .cell ∨ X.env.scope.names.lookup y.1 = some .free
theorem CompScope.clos {scope : Scope} {H : Hp} {s : Shared} (S : CompScope X scope) (I : Inv X pins σ H s) : closureFor scope X.env = pure (GB scope X.env) :=
 closureFor_eq fun y hy hf => I.ok.has y.1 (S.free y hy hf)
theorem comp_start {scope : Scope} {x : Str} {cn : List Str} {cap : List Nat} {s3 : Shared} {H3 : Hp} {fp : List Addr} {h₁ : Heap} {tk : Nat} {H2 : Hp} (S : CompScope X scope) (I : Inv X pins σ H3 s3) (hc : X.calm = true) (hcap : Caps X scope cn cap)
  (f2 : ∀ b ∈ fp, FD X pins H2 b) (lt : ∀ b ∈ fp, b < s3.heap.objs.size) (keep : ∀ b o, s3.heap.get? b = some o → h₁.get? b = some o) (hns : h₁.Ns s3.heap.objs.size fun _ => none) :
  Inv (BM X (x :: cn) scope s3.heap.objs.size s3 H3 fp) [] (inner cap σ) H3 { s3 with heap := h₁, toks := tk } := by
 have noS : ∀ b o, X.base.get? b = some o → b < X.s₀.heap.objs.size := fun b o e => Nat.lt_of_lt_of_le (Heap.lt_size e) I.ok.bsz
 refine ⟨⟨I.ok.mod, S.kind, I.ok.glob, I.ok.blt, Nat.le_refl _, fun y z c h1 h2 => I.ok.inj y z c (Cl h1) (Cl h2), fun y hy => ?_, fun y c h => ?_, fun _ => I.ok.hd hc, I.ok.frames, .inl rfl, fun b hb => ⟨Nat.ne_of_lt (lt b hb), fun y c h => (f2 b hb).2.2.2.2.1 y c (Cl h)⟩,
  I.bs, Nat.le_trans I.ok.bsz I.sz, fun b o e hb => ?_, fun b hb z => ?_, I.stack, I.stkFree⟩, rfl, I.bare, Un.kept keep, ⟨_, hns, fun i y v e1 e2 e3 => ?_⟩, fun y c e => ?_, I.hok.fresh (Nat.le_refl _), fun y c e => I.freeC y c (Cl e), fun p hp => absurd (show p ∈ ([] : List (Addr × Obj)) from hp) (by simp), I.hok.kept keep, ?_⟩
 ·have m := relabel_free S.cell hy
  obtain ⟨c, hc'⟩ := I.ok.has y (S.free _ m rfl)
  exact ⟨c, clOf_has m hc'⟩
 ·cases h
 ·rcases (f2 b hb).2.2.2.1 with z | z
  ·exact I.ok.noex b o e z
  ·exact absurd (Nat.lt_of_lt_of_le (noS b o e) z) (Nat.lt_irrefl _)
 ·rcases List.mem_cons.mp (I.stkSub b z) with e | e
  ·exact (f2 b hb).2.1 e
  ·exact (f2 b hb).2.2.1 e
 ·cases i with
  | zero =>
   have e2 : (some none : Option (Option V)) = some (some v) := e2
   cases e2
  | succ j =>
   have e1 : cn[j]? = some y := e1
   obtain ⟨k, hk, hN, hkind, hfr⟩ := hcap.at e1
   have e2 : (cap.map fun i => (σ[i]?).join)[j]? = some (some v) := e2
   rw [List.getElem?_map, hk] at e2
   have e2 : (σ[k]?).join = some v := Option.some.inj e2
   have e2 : σ[k]? = some (some v) := by
    cases q : σ[k]? with
    | none => rw [q] at e2; cases e2
    | some o => rw [q] at e2; cases o with
     | none => cases e2
     | some v' => have e2 : some v' = some v := e2; rw [e2]
   obtain ⟨m, hn, hl⟩ := I.loc
   obtain ⟨u, r, l⟩ := hl k y v hN e2 (.inr hkind)
   refine ⟨u, r, ?_⟩
   rcases l with ⟨kl, _⟩ | ⟨_, c, hc', o, ho, hd⟩
   ·have kl : X.env.scope.names.lookup y = some .local := kl
    rw [kl] at hkind
    rcases hkind with z | z <;> cases z
   ·refine .inr ⟨?_, c, clOf_has (PySem.mem_of_lookup hfr) hc', o, keep c o ho, hd⟩
    rcases e3 with z | z
    ·
     exfalso
     have z : (relabel scope X.env).names.lookup y = some .local := z
     have hm := PySem.mem_of_lookup z
     unfold relabel at hm
     obtain ⟨⟨n, k'⟩, hp, e⟩ := List.mem_map.mp hm
     dsimp only at e
     have hl2 : (y, NameKind.local) ∈ scope.names := by
      split at e
      ·cases e
      ·cases e; exact hp
     have := S.names _ hl2 rfl
     rw [hfr] at this
     cases this
    ·exact z
 ·obtain ⟨v, o, ho, hd⟩ := I.cell y c (Cl e)
  exact ⟨v, o, keep c o ho, hd⟩
 ·show (inner cap σ).length = (x :: cn).length
  unfold inner
  rw [List.length_cons, List.length_map, hcap.len, List.length_cons]
theorem comp_out {scope : Scope} {N : List Str} {C : Addr} {s3 s' : Shared} {H2 H3 Hf : Hp} {fp : List Addr} {pins' : List (Addr × Obj)} {σ' : St} (I : Inv X pins σ H3 s3) (J : Inv (BM X N scope C s3 H3 fp) pins' σ' Hf s') (f2 : ∀ b ∈ fp, FD X pins H2 b) : Inv X pins σ Hf s' :=
 I.call' (ch := fp) J.os J.base J.hok J.bare fun b hb => ⟨(f2 b hb).2.2.2.1, (f2 b hb).2.1, (f2 b hb).2.2.2.2.1, (f2 b hb).2.2.2.2.2⟩
theorem comp_core {scope : Scope} {x : Str} {px pos : Pos} {elt iter : Expr} {ifs : List Expr} {cn : List Str} {cap : List Nat} {s2 : Shared} {H2 : Hp} {it : Addr} {fp : List Addr} {tn : Nat → Heap → Prop} {J : It} {tc : TT} {te : TE} {Q : VK} {RR : Value → Addr → Result → Shared → Prop} {E : Value → Shared → Prop}
  (S : CompScope X scope) (I2 : Inv X pins σ H2 s2) (hc : X.calm = true) (hcap : Caps X scope cn cap) (hx : scope.names.lookup x = some .local) (hnd : (x :: cn).Nodup)
  (T : Turn X.prog X.w X.K (.Name x px) J fp it tn) (st2 : tn 0 s2.heap) (f2 : ∀ b ∈ fp, FD X pins H2 b)
  (body : ∀ (C : Addr) (s : Shared) (H : Hp) (fp : List Addr), PTs (BM X (x :: cn) scope C s H fp) ifs tc ∧ PE (BM X (x :: cn) scope C s H fp) elt te)
  (q : ∀ p, H2 p = none → ∃ W : Nat → Nat → List V → Hp → Prop, (∃ m, W 0 m [] (upd H2 p (.lst []))) ∧ ∀ i m xs H3, W i m xs H3 →
   (J.stop i H3 ∧ Q (.ref p) H3) ∨ (J.go i H3 ∧ ∃ N : List V → Hp → Prop, (∀ xs' H', N xs' H' → ∃ m', m' < m ∧ W (i + 1) m' xs' H') ∧
    ∀ v H4, J.yld i H3 v H4 → tc ((inner cap σ).set 0 (some v)) H4 fun b H5 => if b = true then te ((inner cap σ).set 0 (some v)) H5 fun v H6 => H6 p = some (.lst xs) ∧ xs.length < sizeLine ∧ N (xs ++ [v]) (upd H6 p (.lst (xs ++ [v]))) else N xs H5))
  (hRR : ∀ (p C : Addr) (s3 s' : Shared) (H3 Hf : Hp) (σ' : St), Inv X pins σ H3 s3 → s3.heap.objs.size = C → Inv (BM X (x :: cn) scope C s3 H3 fp) [] σ' Hf s' → Q (.ref p) Hf → RR (.ref p) C (.ok .next) s') :
  wpAny (model X.prog X.w) X.A (newList []) (fun acc s₃ => wpAny (model X.prog X.w) X.A (newFunctionEnv scope X.env.globals (GB scope X.env) [] X.env.qual none .none (some X.env)) (fun cenv s₄ =>
   codeAny (model X.prog X.w) X.A (.compStart (.ListComp elt [⟨.Name x px, iter, ifs, 0⟩] scope pos) 0 (.ref it) acc { cenv with scope := relabel scope X.env }) (RR acc cenv.locals) s₄) E s₃) E s2 := by
 refine wpAny_newObj_type (wpAny_newFunctionEnv S.cell (by intro y hy; simp at hy) (fun h₁ hns₁ hsb₁ => ?_) S.kind)
 dsimp only at hns₁ hsb₁ ⊢
 have hfr : H2 s2.heap.objs.size = none := I2.hok.fresh (Nat.le_refl _)
 obtain ⟨W, ⟨m0, w0⟩, turn⟩ := q _ hfr
 have I3 : Inv X pins σ (upd H2 s2.heap.objs.size (.lst [])) { s2 with heap := s2.heap.push { cls := .type "list", data := .seq ([] : List Value).toArray } } :=
  I2.lnew (its := []) (t' := s2.toks) .nil (Nat.zero_le _)
 generalize hs3 : ({ s2 with heap := s2.heap.push { cls := .type "list", data := .seq ([] : List Value).toArray } } : Shared) = s3 at I3
 have hs3h : s3.heap = s2.heap.push { cls := .type "list", data := .seq ([] : List Value).toArray } := by rw [← hs3]
 have hst3 : tn 0 s3.heap := T.keep _ _ _ st2 fun b hb o e => by rw [hs3h]; exact Heap.get?_push_of_some _ e
 have ltf : ∀ b ∈ fp, b < s3.heap.objs.size := fun b hb => by
  obtain ⟨o, e, _⟩ := T.obj _ _ hst3 b hb
  exact Heap.lt_size e
 have hC : (s2.heap.push { cls := .type "list", dict := none, data := .seq ([] : List Value).toArray }).objs.size = s3.heap.objs.size := by rw [hs3h]
 rw [hC] at hns₁ hsb₁ ⊢
 have keep : ∀ b o, s3.heap.get? b = some o → h₁.get? b = some o := fun b o e => by
  refine hsb₁.extBut b o (Nat.ne_of_lt (Heap.lt_size e)) (Heap.get?_push_of_some _ ?_)
  rw [hs3h] at e
  exact e
 have J4 : Inv (BM X (x :: cn) scope s3.heap.objs.size s3 (upd H2 s2.heap.objs.size (.lst [])) fp) [] (inner cap σ) (upd H2 s2.heap.objs.size (.lst [])) { s3 with heap := h₁, toks := s2.toks + ([] : List (Str × Value)).length } :=
  comp_start S I3 hc hcap f2 ltf keep hns₁
 have st4 : tn 0 h₁ := T.keep _ _ _ hst3 fun b hb o e => keep b o e
 have fr4 : ∀ b ∈ fp, (upd H2 s2.heap.objs.size (.lst [])) b = none := fun b hb => by
  obtain ⟨o, e, _⟩ := T.obj _ _ st2 b hb
  rw [Ao (Nat.ne_of_lt (Heap.lt_size e))]
  exact (f2 b hb).1
 have hst : ({ s2 with heap := h₁, toks := s2.toks + ([] : List (Str × Value)).length } : Shared) = { s3 with heap := h₁, toks := s2.toks + ([] : List (Str × Value)).length } := by rw [← hs3]
 have loop : codeAny (model X.prog X.w) X.A (.compLoop (.ListComp elt [⟨.Name x px, iter, ifs, 0⟩] scope pos) 0 (.ref it) (.ref s2.heap.objs.size) (compEnvC scope (GB scope X.env) s3.heap.objs.size X.env))
   (RR (.ref s2.heap.objs.size) s3.heap.objs.size) { s2 with heap := h₁, toks := s2.toks + ([] : List (Str × Value)).length } := by
  rw [hst]
  generalize hX' : BM X (x :: cn) scope s3.heap.objs.size s3 (upd H2 s2.heap.objs.size (.lst [])) fp = X' at J4
  have hfpk : ∀ {Hc : Hp}, (∀ b ∈ fp, Hc b = none) → ∀ b ∈ fp, FD X' [] Hc b := fun {Hc} hn b hb => by
   subst hX'
   refine ⟨hn b hb, (J4.ok.exf b hb).1, J4.ok.exfs b hb, .inl hb, (J4.ok.exf b hb).2, fun p hp => absurd (show p ∈ ([] : List (Addr × Obj)) from hp) (by simp)⟩
  refine compLoop_any (fun n s' => ∃ i xs Hc, Inv X' [] (inner cap σ) Hc s' ∧ tn i s'.heap ∧ (∀ b ∈ fp, Hc b = none) ∧ W i n xs Hc) ?_ m0 ⟨0, [], _, J4, st4, fr4, w0⟩
  rintro n s5 ⟨i, xs, Hc, I5, st5, fr5, w5⟩
  have B := body s3.heap.objs.size s3 (upd H2 s2.heap.objs.size (.lst [])) fp
  rcases turn i n xs Hc w5 with ⟨stop, qn⟩ | ⟨go, N, hN, step⟩
  ·subst hX'
   refine thn (T.done (BM X (x :: cn) scope s3.heap.objs.size s3 (upd H2 s2.heap.objs.size (.lst [])) fp) rfl rfl rfl rfl i [] s5 (inner cap σ) Hc (fun _ _ => False) I5 (hfpk fr5) st5 stop) fun r s6 ⟨hr, I6⟩ => ?_
   subst hr
   exact hRR _ _ s3 s6 _ Hc _ I3 rfl I6 qn
  ·subst hX'
   refine thn (T.item (BM X (x :: cn) scope s3.heap.objs.size s3 (upd H2 s2.heap.objs.size (.lst [])) fp) rfl rfl rfl rfl i [] s5 (inner cap σ) Hc (fun _ _ => False) I5 (hfpk fr5) st5 go) fun r s6 ⟨u, hr, h6⟩ => ?_
   subst hr
   refine thn h6 fun _ s7 ⟨v, H7, I7, r7, y7, st7, fr7⟩ => ?_
   have I7' := I7.pinned (hfpk fr7) (T.obj _ _ st7)
   have hlook : (relabel scope X.env).names.lookup x = some .local := lookup_relabel_local hx
   refine wpAny_assign_Name (store_ok (X := BM X (x :: cn) scope s3.heap.objs.size s3 (upd H2 s2.heap.objs.size (.lst [])) fp) I7' (i := 0) hnd rfl (.inl hlook) r7 (fun s8 I8 => ?_) (.inr hlook))
   have again : ∀ {s9 : Shared} {H9 : Hp} {ys : List V}, Inv (BM X (x :: cn) scope s3.heap.objs.size s3 (upd H2 s2.heap.objs.size (.lst [])) fp) ([] ++ GD fp s7.heap) ((inner cap σ).set 0 (some v)) H9 s9 → N ys H9 →
     ∃ m, m < n ∧ ∃ i xs Hc, Inv (BM X (x :: cn) scope s3.heap.objs.size s3 (upd H2 s2.heap.objs.size (.lst [])) fp) [] (inner cap σ) Hc s9 ∧ tn i s9.heap ∧ (∀ b ∈ fp, Hc b = none) ∧ W i m xs Hc := fun {s9 H9 ys} I9 n9 => by
    obtain ⟨m', hm, w9⟩ := hN ys H9 n9
    refine ⟨m', hm, i + 1, ys, H9, (I9.unpinned (pins := [])).weak (by simp [inner]) (fun j w e => ?_), T.keep _ _ _ st7 fun b hb o e => (I9.pin (b, o) (List.mem_append_right _ (List.mem_append_right _ (Dc hb e)))).1, fun b hb => ?_, w9⟩
    ·cases j with
     | zero =>
      have e : (some none : Option (Option V)) = some (some w) := e
      cases e
     | succ j => exact e
    ·obtain ⟨o, e, _⟩ := T.obj _ _ st7 b hb
     exact (I9.pin (b, o) (List.mem_append_right _ (List.mem_append_right _ (Dc hb e)))).2.1
   refine thn (B.1 _ s8 _ H7 _ I8 (step v H7 y7)) fun ok s9 ⟨H9, I9, q9⟩ => ?_
   cases ok with
   | false =>
    rw [if_neg Bool.false_ne_true] at q9 ⊢
    exact again I9 q9
   | true =>
    rw [if_pos rfl] at q9 ⊢
    refine thn (B.2 _ s9 _ H9 _ I9 q9) fun uy s10 ⟨y, H10, I10, r10, hp, hl, n10⟩ => ?_
    refine thn (C3 _ s10 _ H10 (.ref s2.heap.objs.size) [y] (.ref s2.heap.objs.size) [uy] (fun _ H11 => N (xs ++ [y]) H11) I10 rfl (.cons r10 .nil) ⟨_, xs, y, rfl, rfl, hp, hl, n10⟩) fun _ s11 ⟨_, H11, I11, _, n11⟩ => ?_
    exact again I11 n11
 exact codeAny_compStart_list loop (T.self _ _ _ _ _ st4 loop)
theorem Cb {scope : Scope} {x : Str} {px pos : Pos} {elt iter : Expr} {ifs : List Expr} {cn : List Str} {cap : List Nat} {wi : TI} {tc : TT} {te : TE}
  (hc : X.calm = true) (S : CompScope X scope) (hx : scope.names.lookup x = some .local) (hnd : (x :: cn).Nodup) (hcap : Caps X scope cn cap) (hi : PI X (.Name x px) iter wi)
  (body : ∀ (C : Addr) (s : Shared) (H : Hp) (fp : List Addr), PTs (BM X (x :: cn) scope C s H fp) ifs tc ∧ PE (BM X (x :: cn) scope C s H fp) elt te)
  (hs : ∀ x, foldedSetIterable iter X.env x = pure x := by intro _; rfl) : PE X (.ListComp elt [⟨.Name x px, iter, ifs, 0⟩] scope pos) (tComp cap wi tc te) := by
 intro pins s σ H Q I h
 rw [eval_ListComp]
 refine wpAny_comprehension_free (use := none) rfl hs (S.clos I) S.kind S.names (thn (hi pins s σ H _ I h) fun xv s1 h1 => thn h1 fun itv s2 h2 => ?_)
 obtain ⟨it, fp, tn, J, H2, e, I2, T, st2, f2, q⟩ := h2
 subst e
 refine comp_core (RR := fun acc C => compPost (model X.prog X.w) X.A X.xe none (EP X pins σ Q) acc C) S I2 hc hcap hx hnd T st2 f2 body q ?_
 intro p C s3 s' H3 Hf σ' I3 hC J' qf
 subst hC
 have I4 := comp_out I3 J' f2
 obtain ⟨m, hn, _⟩ := J'.loc
 refine ⟨m, hn, fun h' hs' => ?_⟩
 refine ⟨.ref p, Hf, ?_, rfl, qf⟩
 have f := I3.fpOk (H' := Hf) (Nat.le_refl _) J'.free
 exact I4.turned (t' := s'.toks) (it := s3.heap.objs.size) (fun b o hb e => (hs'.2 b hb).trans e) f.1 f.2.1 f.2.2.2.1 f.2.2.2.2.1 f.2.2.2.2.2
theorem ps_setcomp {scope : Scope} {x y : Str} {px py pos spos : Pos} {elt iter : Expr} {ifs : List Expr} {cn : List Str} {cap : List Nat} {wi : TI} {tc : TT} {te : TE} {i : Nat}
  (hN : X.N.Nodup) (hi : X.N[i]? = some y) (hy : Loc X.env.scope y) (hc : X.calm = true) (S : CompScope X scope) (hx : scope.names.lookup x = some .local) (hnd : (x :: cn).Nodup) (hcap : Caps X scope cn cap) (hit : PI X (.Name x px) iter wi)
  (body : ∀ (C : Addr) (s : Shared) (H : Hp) (fp : List Addr), PTs (BM X (x :: cn) scope C s H fp) ifs tc ∧ PE (BM X (x :: cn) scope C s H fp) elt te)
  (hsw : swapsWith (.ListComp elt [⟨.Name x px, iter, ifs, 0⟩] scope pos) (some (.Name y py)) spos.line X.env = pure true := by rfl)
  (hf : X.fn y = true ∨ X.env.scope.names.lookup y = some .local := by first | exact .inl rfl | exact .inr rfl | assumption)
  (hs : ∀ x, foldedSetIterable iter X.env x = pure x := by intro _; rfl) : PS X (.Assign [.Name y py] (.ListComp elt [⟨.Name x px, iter, ifs, 0⟩] scope pos) spos) (FJ (tComp cap wi tc te) (D2 i)) := by
 intro pins s σ H D I h
 rw [exec_Assign_Name_used _ _ _ _ hsw]
 refine wpAny_bind (wpAny_standAt (wpAny_bind ?_))
 show wpAny _ X.A (do let _ ← comprehension (.ListComp elt [⟨.Name x px, iter, ifs, 0⟩] scope pos) scope X.env _ (newList []) false (eval iter X.env) (some (assign (.Name y py) X.env))) _ _ s
 refine wpAny_bind (wpAny_mono (wpAny_comprehension_free (use := some (assign (.Name y py) X.env)) (Q := fun _ s' => SP X pins D .next s') rfl hs (S.clos I) S.kind S.names
  (thn (hit pins s σ H _ I h) fun xv s1 h1 => thn h1 fun itv s2 h2 => ?_)) (fun _ s' hq => wpAny_pure (wpAny_pure hq)) fun _ _ e => e)
 obtain ⟨it, fp, tn, J, H2, e, I2, T, st2, f2, q⟩ := h2
 subst e
 refine comp_core (Q := fun v H1 => D2 i v σ H1 D.nx) (RR := fun acc C => compPost (model X.prog X.w) X.A X.xe (some (assign (.Name y py) X.env)) (fun _ s' => SP X pins D .next s') acc C) S I2 hc hcap hx hnd T st2 f2 body q ?_
 intro p C s3 s' H3 Hf σ' I3 hC J' qf
 subst hC
 have I4 := comp_out I3 J' f2
 obtain ⟨m, hn, _⟩ := J'.loc
 have f := I3.fpOk (H' := Hf) (Nat.le_refl _) J'.free
 show wpAny _ X.A (assign (.Name y py) X.env (.ref p)) _ _ _
 refine wpAny_assign_Name (store_ok2 (v := V.ref p) I4 hN hi hy rfl (fun s'' I5 ch => ?_) hf)
 obtain ⟨a, hsb, ha⟩ := ch
 have hCa : s3.heap.objs.size ≠ a := by
  rcases ha with rfl | ha
  ·exact f.2.1
  ·exact fun z => f.2.2.2.2.1 y a ha z.symm
 refine ⟨m, hn.sameBut hsb hCa, fun h' hs' => ?_⟩
 exact ⟨_, Hf, I5.turned (t' := s''.toks) (it := s3.heap.objs.size) (fun b o hb e => (hs'.2 b hb).trans e) f.1 f.2.1 f.2.2.2.1 f.2.2.2.2.1 f.2.2.2.2.2, qf⟩
end
theorem Ba : bootBuiltins "len" = some (.builtin "len") := by decide +kernel
theorem bt_isinstance : bootBuiltins "isinstance" = some (.builtin "isinstance") := by decide +kernel
theorem bt_all : bootBuiltins "all" = some (.builtin "all") := by decide +kernel
theorem bt_sorted : bootBuiltins "sorted" = some (.builtin "sorted") := by decide +kernel
theorem bt_list : bootBuiltins "list" = some (.type "list") := by decide +kernel
theorem bt_tuple : bootBuiltins "tuple" = some (.type "tuple") := by decide +kernel
theorem bt_int : bootBuiltins "int" = some (.type "int") := by decide +kernel
theorem bt_set : bootBuiltins "set" = some (.type "set") := by decide +kernel
noncomputable def kitC (T c : String) : Option Bool := if (T == c) = true then some true else if PySem.W.kitMeta c = true then (fastBuiltinMro T).map (·.contains (.type c)) else none
theorem kit_of {K : PySem.W.Frag} {T c : String} {b : Bool} (h : kitC T c = some b) : PySem.W.kitOne K (.type T) (.type c) = some b := by
 unfold kitC at h
 unfold PySem.W.kitOne
 by_cases e : T = c
 ·subst e
  rw [if_pos (by simp)] at h
  rw [if_pos (by simp)]
  exact h
 ·rw [if_neg (by simpa using e)] at h
  rw [if_neg (by intro z; exact e (by simpa using z))]
  exact h
structure DefOk (P : Program) (w : World) (K : PySem.W.Frag) (mg : Str → Option Value) (base : Heap) (x : Str) (k : Nat) (ps : List Str) (sp : Sp) : Prop where
 ex : ∃ f fd, FnOk P w K mg base CX0 k f fd ps sp ∧ mg x = some (.ref f) ∧ PySem.W.keepIn K (.ref f) = true ∧ Binds K fd ps []
section
variable {X : Cx} {x : Str} {k j : Nat} {ps : List Str} {sp : Sp} {e : Expr} {es : List Expr} {t : TA} {p pos : Pos}
theorem Ae (F : DefOk X.prog X.w X.K X.mg X.base x k ps sp) (hr : Room j X.A) (hj : k ≤ j) (hg : Gl X x) (ha : PA X (e :: es) t) (hdb : (x == ("__debug__" : Str)) = false := by decide)
  (he : starEach (e :: es) X.env = (false, eval e X.env) :: starEach es X.env := by rfl) (hpl : (backTo pos (starEach es X.env)).any (·.1) = false := by rfl) :
  PE X (.Call (.Name x p) (e :: es) [] pos) (Dv sp [] E0 t) := by
 obtain ⟨f, fd, G, m, kp, b⟩ := F.ex
 exact pe_call G (hr.mono hj) hg m kp b .nil pass0 ha hdb he hpl
end
theorem BB {P : Program} {w : World} {K : PySem.W.Frag} {mg : Str → Option Value} {base : Heap} {x : Str} {st : Stmt} {f : Addr} {fd : FuncData} {k : Nat} {ps : List Str} {sp : Sp} (F : Fun K x x st f fd) (m : mg x = some (.ref f)) (b : Binds K fd ps []) (G : FnOk P w K mg base CX0 k f fd ps sp) : DefOk P w K mg base x k ps sp :=
 ⟨f, fd, G, m, F.kp, b⟩
theorem C7 {X : Cx} {scope : Scope} (h : (scope.names.all fun p => p.2 != .free || X.env.scope.names.lookup p.1 == some .cell || X.env.scope.names.lookup p.1 == some .free) = true) :
  ∀ y ∈ scope.names, y.2 = .free → X.env.scope.names.lookup y.1 = some .cell ∨ X.env.scope.names.lookup y.1 = some .free := fun y hy hf => by
 have := List.all_eq_true.mp h y hy
 rw [hf] at this
 simpa using this
theorem Same.new {H : Hp} {p : Addr} {o : HO} (h : H p = none) : Same H (upd H p o) := fun b u e => by rw [Ao (CP e h)]; exact e
theorem Same.put {H H' : Hp} {p : Addr} {o : HO} (s : Same H H') (h : H p = none) : Same H (upd H' p o) := fun b u e => by rw [Ao (CP e h)]; exact s b u e
noncomputable def Its (x : Str) : It := ⟨fun i _ => i < x.cps.size, fun i H v H' => H' = H ∧ ∃ c, x.cps[i]? = some c ∧ v = .str ⟨#[c]⟩, fun i _ => i = x.cps.size⟩
noncomputable def StrIt (it : Addr) (x : Str) (t : Tok) (i : Nat) (h : Heap) : Prop := h.IsStrIter it "str_ascii_iterator" x t i ∨ h.IsStrIter it "str_iterator" x t i
theorem turn_str {P : Program} {w : World} {K : PySem.W.Frag} {tg : Expr} (x : Str) (t : Tok) (it : Addr) : Turn P w K tg (Its x) [it] it (StrIt it x t) where
 mem := by simp
 obj := fun i h st b hb => by
  have e : b = it := by simpa using hb
  subst e
  rcases st with ⟨o, e, c, d⟩ | ⟨o, e, c, d⟩ <;> exact ⟨o, e, fun v z => by rw [d] at z; cases z⟩
 keep := fun i h h' st k => by
  rcases st with ⟨o, e, r⟩ | ⟨o, e, r⟩
  ·exact .inl ⟨o, k it (by simp) o e, r⟩
  ·exact .inr ⟨o, k it (by simp) o e, r⟩
 item := by
  intro X hP hw hK hc i pins s σ H E I hf st hg
  subst hP hw hK
  obtain ⟨f0, f1, f2, f3, f4, f5⟩ := hf it (by simp)
  rcases st with st | st
  ·refine (Walks.strAscii (prog := X.prog) (w := X.w) (I.ok.hd hc) it x t).item i s _ _ hg st fun v h' tk hv st' kk => ?_
   obtain ⟨c, u, hcx, rfl⟩ := hv
   have I1 := I.turned (h' := h') (t' := tk) (fun b o hb e => kk b o (by simpa using hb) e) f0 f1 f3 f4 f5
   obtain ⟨o, e, hc', d⟩ := id st'
   exact ⟨_, rfl, go_of (s := { s with heap := h', toks := tk }) e hc' d (by decide) ⟨.str ⟨#[c]⟩, H, I1, ⟨u, rfl⟩, ⟨rfl, c, hcx, rfl⟩, .inl st', fun b hb => (hf b hb).1⟩⟩
  ·refine (Walks.strWide (prog := X.prog) (w := X.w) (I.ok.hd hc) it x t).item i s _ _ hg st fun v h' tk hv st' kk => ?_
   obtain ⟨c, u, hcx, rfl⟩ := hv
   have I1 := I.turned (h' := h') (t' := tk) (fun b o hb e => kk b o (by simpa using hb) e) f0 f1 f3 f4 f5
   obtain ⟨o, e, hc', d⟩ := id st'
   exact ⟨_, rfl, go_of (s := { s with heap := h', toks := tk }) e hc' d (by decide) ⟨.str ⟨#[c]⟩, H, I1, ⟨u, rfl⟩, ⟨rfl, c, hcx, rfl⟩, .inr st', fun b hb => (hf b hb).1⟩⟩
 done := by
  intro X hP hw hK hc i pins s σ H E I hf st hg
  subst hP hw hK
  obtain ⟨f0, f1, f2, f3, f4, f5⟩ := hf it (by simp)
  have hg : i = x.cps.size := hg
  subst hg
  rcases st with st | st
  ·exact (Walks.strAscii (prog := X.prog) (w := X.w) (I.ok.hd hc) it x t).done s _ _ st fun h' tk kk => ⟨rfl, I.turned (fun b o hb e => kk b o (by simpa using hb) e) f0 f1 f3 f4 f5⟩
  ·exact (Walks.strWide (prog := X.prog) (w := X.w) (I.ok.hd hc) it x t).done s _ _ st fun h' tk kk => ⟨rfl, I.turned (fun b o hb e => kk b o (by simpa using hb) e) f0 f1 f3 f4 f5⟩
 self := fun _ _ _ _ _ st h => by
  rcases st with st | st
  ·exact wpAny_pyIter_striter_ascii st h
  ·exact wpAny_pyIter_striter_wide st h
section
variable {X : Cx} {tg : Expr}
noncomputable def GU (K : PySem.W.Frag) (tl : TE) : TI := fun σ H R => tl σ H fun v H1 => match v with
 | .str x => R (Its x) H1
 | .ref a => ((∃ xs, SqL K H1 a xs) ∧ R (Itl K a) H1) ∨ ((∃ xs, SqT K H1 a xs) ∧ R (Itt K a) H1)
 | _ => False
theorem pi_any {l : Expr} {tl : TE} (hl : PE X l tl) : PI X tg l (GU X.K tl) := by
 intro pins s σ H R I h
 refine thn (hl pins s σ H _ I h) fun v s1 ⟨x, H1, I1, r1, q1⟩ => ?_
 have one : ∀ b ∈ [s1.heap.objs.size], FD X pins H1 b := fun b hb => by
  have e : b = s1.heap.objs.size := by simpa using hb
  subst e
  exact I1.fpOk (Nat.le_refl _) (I1.hok.fresh (Nat.le_refl _))
 cases x with
 | str z =>
  obtain ⟨t, rfl⟩ := r1
  have q1 : R (Its z) H1 := q1
  cases ha : z.cps.all (· < 128)
  ·exact wpAny_pyIter_wide ha ⟨s1.heap.objs.size, [s1.heap.objs.size], _, _, H1, rfl, I1.kept (t' := s1.toks) fun b o e => Heap.get?_push_of_some _ e, turn_str z t _, .inr ⟨_, Heap.get?_push_size _ rfl, rfl, rfl⟩, one, q1⟩
  ·exact wpAny_pyIter_ascii ha ⟨s1.heap.objs.size, [s1.heap.objs.size], _, _, H1, rfl, I1.kept (t' := s1.toks) fun b o e => Heap.get?_push_of_some _ e, turn_str z t _, .inl ⟨_, Heap.get?_push_size _ rfl, rfl, rfl⟩, one, q1⟩
 | ref a =>
  cases r1
  have q1 : ((∃ xs, SqL X.K H1 a xs) ∧ R (Itl X.K a) H1) ∨ ((∃ xs, SqT X.K H1 a xs) ∧ R (Itt X.K a) H1) := q1
  rcases q1 with ⟨⟨xs, hq⟩, q⟩ | ⟨⟨xs, hq⟩, q⟩
  ·obtain ⟨its, rv, p, hz⟩ := I1.list hq
   exact wpAny_pyIter_list p.isList ⟨s1.heap.objs.size, [s1.heap.objs.size], _, _, H1, rfl, I1.kept (t' := s1.toks) fun b o e => Heap.get?_push_of_some _ e, turn_list a _, ⟨_, Heap.get?_push_size _ rfl, rfl, rfl⟩, one, q⟩
  ·obtain ⟨its, rv, p, hz⟩ := I1.tuple hq
   exact wpAny_pyIter_tuple (show s1.heap.IsTuple a its.toArray from p) ⟨s1.heap.objs.size, [s1.heap.objs.size], _, _, H1, rfl, I1.kept (t' := s1.toks) fun b o e => Heap.get?_push_of_some _ e, turn_tuple a _, ⟨_, Heap.get?_push_size _ rfl, rfl, rfl⟩, one, q⟩
 | _ => exact (show False from q1).elim
end
structure Yields (J : It) (H : Hp) (xs : List V) : Prop where
 go : ∀ i H', Same H H' → i < xs.length → J.go i H'
 stop : ∀ H', Same H H' → J.stop xs.length H'
 yld : ∀ i H' x H'', Same H H' → i < xs.length → J.yld i H' x H'' → H'' = H' ∧ xs[i]? = some x
noncomputable def DG (x : Str) : List V := x.cps.toList.map fun c => .str ⟨#[c]⟩
theorem yields_str (x : Str) (H : Hp) : Yields (Its x) H (DG x) where
 go := fun i H' _ hi => by
  have : (DG x).length = x.cps.size := by simp [DG]
  show i < x.cps.size
  omega
 stop := fun H' _ => by
  show (DG x).length = x.cps.size
  simp [DG]
 yld := fun i H' v H'' _ _ y => by
  obtain ⟨rfl, c, hc, rfl⟩ := y
  refine ⟨rfl, ?_⟩
  simp only [DG, List.getElem?_map, Array.getElem?_toList, hc, Option.map_some]
theorem yields_range (lo : Int) (n : Nat) (H : Hp) : Yields (Itr lo n) H ((List.range n).map fun (i : Nat) => V.int (lo + (i : Int))) where
 go := fun i H' _ hi => by
  show i < n
  simpa using hi
 stop := fun H' _ => by
  show n ≤ ((List.range n).map fun (i : Nat) => V.int (lo + (i : Int))).length
  simp
 yld := fun i H' v H'' _ hi y => by
  obtain ⟨rfl, rfl⟩ := y
  rw [List.length_map, List.length_range] at hi
  refine ⟨rfl, ?_⟩
  simp [hi]
theorem yields_list {K : PySem.W.Frag} {a : Addr} {xs : List V} {H : Hp} (h : SqL K H a xs) : Yields (Itl K a) H xs where
 go := fun i H' s hi => ⟨xs, xs[i], s.seq h, by simp [hi]⟩
 stop := fun H' s => ⟨xs, s.seq h, Nat.le_refl _⟩
 yld := fun i H' v H'' s _ y => ⟨y.1, y.2 xs (s.seq h)⟩
section
variable {X : Cx}
noncomputable def rPlus (K : PySem.W.Frag) : R2 := fun x y H Q => match x, y with
 | .int i, .int j => Q (.int (i + j)) H
 | .str a, .str b => a.length + b.length ≤ sizeLine ∧ Q (.str (a ++ b)) H
 | .ref a, .ref b => ∃ xs ys, Rd H a (.lst xs) ∧ Rd H b (.lst ys) ∧ xs.length + ys.length ≤ sizeLine ∧ ∀ p, H p = none → Q (.ref p) (upd H p (.lst (xs ++ ys)))
 | _, _ => False
theorem op_catS : OpR X (binaryOp .Add) (fun x y H Q => ∃ a b xs ys, x = .ref a ∧ y = .ref b ∧ Rd H a (.lst xs) ∧ Rd H b (.lst ys) ∧ xs.length + ys.length ≤ sizeLine ∧ ∀ p, H p = none → Q (.ref p) (upd H p (.lst (xs ++ ys)))) := by
 intro pins s σ H x y v u Q I rx ry h
 obtain ⟨l, b, xs, zs, rfl, rfl, hH, hB, hz, q⟩ := h
 cases rx
 cases ry
 obtain ⟨z, its, n, r, e⟩ := hH.ok I.hok
 obtain ⟨z2, its2, n2, r2, e2⟩ := hB.ok I.hok
 have hl := r.length
 have hl2 := r2.length
 refine PySem.P.add_list e e2 ?_ (by rw [List.size_toArray, List.size_toArray]; omega)
 have ea : its.toArray ++ its2.toArray = (its ++ its2).toArray := by simp
 rw [ea]
 exact ⟨.ref _, _, I.lnew (t' := s.toks) (r.append r2) (by rw [List.length_append]; omega), rfl, q _ I.fresh⟩
theorem op_plus : OpR X (binaryOp .Add) (rPlus X.K) := by
 intro pins s σ H x y v u Q I rx ry h
 cases x with
 | int i => cases y with
  | int j => exact op_add pins s σ H _ _ v u Q I rx ry ⟨i, j, rfl, rfl, h⟩
  | _ => exact (show False from h).elim
 | str a => cases y with
  | str b => exact op_add_str pins s σ H _ _ v u Q I rx ry ⟨a, b, rfl, rfl, h.1, h.2⟩
  | _ => exact (show False from h).elim
 | ref a => cases y with
  | ref b =>
   obtain ⟨xs, ys, h1, h2, h3, h4⟩ := h
   exact op_catS pins s σ H _ _ v u Q I rx ry ⟨a, b, xs, ys, rfl, rfl, h1, h2, h3, h4⟩
  | _ => exact (show False from h).elim
 | _ => exact (show False from h).elim
noncomputable def rOrd (fi : Int → Int → Bool) (fs : List Nat → List Nat → Bool) : R2 := fun x y H Q => match x, y with
 | .int i, .int j => Q (.bl (fi i j)) H
 | .str a, .str b => Q (.bl (fs a.cps.toList b.cps.toList)) H
 | _, _ => False
theorem ord_of {f : Value → Value → Sem Value} {fi : Int → Int → Bool} {fs : List Nat → List Nat → Bool} (hi : OpR X f (rI0 fun i j => .bl (fi i j)))
  (hs : ∀ (s : Shared) (a b : Str) (t u : Tok) (Q : Value → Shared → Prop), Q (.bool (fs a.cps.toList b.cps.toList)) s → wpAny (model X.prog X.w) X.A (f (.str a t) (.str b u)) Q X.xe s) : OpR X f (rOrd fi fs) := by
 intro pins s σ H x y v u Q I rx ry h
 cases x with
 | int i => cases y with
  | int j => exact hi pins s σ H _ _ v u Q I rx ry ⟨i, j, rfl, rfl, h⟩
  | _ => exact (show False from h).elim
 | str a => cases y with
  | str b =>
   obtain ⟨t, rfl⟩ := rx
   obtain ⟨t', rfl⟩ := ry
   exact hs s a b t t' _ ⟨.bl _, H, I, rfl, h⟩
  | _ => exact (show False from h).elim
 | _ => exact (show False from h).elim
theorem GC : OpR X (compareOp .Lt) (rOrd (fun i j => decide (i < j)) fun a b => decide (a < b)) := ord_of op_lt fun _ _ _ _ _ _ h => lt_str h
theorem op_leU : OpR X (compareOp .LtE) (rOrd (fun i j => decide (i ≤ j)) fun a b => !decide (b < a)) := ord_of op_le fun _ _ _ _ _ _ h => PySem.P.le_str h
theorem op_gtU : OpR X (compareOp .Gt) (rOrd (fun i j => decide (j < i)) fun a b => decide (b < a)) := ord_of op_gt fun _ _ _ _ _ _ h => PySem.P.gt_str h
noncomputable def rMul (K : PySem.W.Frag) : R2 := fun x y H Q => match x, y with
 | .int i, .int j => CMul i j ∧ Q (.int (i * j)) H
 | .ref l, .int k => ∃ xs, H l = some (.lst xs) ∧ -(2 ^ 63) ≤ k ∧ k < 2 ^ 63 ∧ xs.length * k.toNat ≤ sizeLine ∧ ∀ p, H p = none → Q (.ref p) (upd H p (.lst (List.replicate k.toNat xs).flatten))
 | _, _ => False
theorem op_mulU : OpR X (binaryOp .Mult) (rMul X.K) := by
 intro pins s σ H x y v u Q I rx ry h
 cases x with
 | int i => cases y with
  | int j => exact op_mul pins s σ H _ _ v u Q I rx ry ⟨i, j, rfl, rfl, h.1, h.2⟩
  | _ => exact (show False from h).elim
 | ref l => cases y with
  | int k =>
   obtain ⟨xs, h1, h2, h3, h4, h5⟩ := h
   exact op_rep pins s σ H _ _ v u Q I rx ry ⟨l, k, xs, rfl, rfl, h1, h2, h3, h4, h5⟩
  | _ => exact (show False from h).elim
 | _ => exact (show False from h).elim
noncomputable def rSl (K : PySem.W.Frag) : V → Option Int → Option Int → Hp → VK → Prop := fun x lo hi H Q => match x with
 | .str z => z.length ≤ sizeLine ∧ Q (.str (Txt.slice z lo hi)) H
 | .ref a => (∃ xs, SqL K H a xs ∧ ∀ p, H p = none → Q (.ref p) (upd H p (.lst (GT xs lo hi))))
 | _ => False
theorem sl_str : SlR X (fun x lo hi H Q => ∃ z, x = .str z ∧ z.length ≤ sizeLine ∧ Q (.str (Txt.slice z lo hi)) H) := by
 intro pins s σ H x v vl vu lo hi sl Q I rx hs pl pu h
 obtain ⟨z, rfl, hz, q⟩ := h
 obtain ⟨t, rfl⟩ := rx
 refine ⟨"str", _, F.slot_str_getitem.lookup, typeIs_str _ _ _, ?_⟩
 have fin : ∀ (t' : Tok) (k : Nat), EP X pins σ Q (.str (Txt.slice z lo hi) t') { s with toks := k } := fun t' k => ⟨.str _, H, I.tok k, ⟨t', rfl⟩, q⟩
 cases pl with
 | none => cases pu with
  | none => exact wpAny_getItem_str_slice (l := none) (u := none) (st := none) hs rfl (post_val_or_str ⟨Nat.le_trans (Txt.slice_le z _ _) hz, fin⟩)
  | int j uj => exact wpAny_getItem_str_slice (l := none) (u := some (j, uj)) (st := none) hs rfl (post_val_or_str ⟨Nat.le_trans (Txt.slice_le z _ _) hz, fin⟩)
 | int i ui => cases pu with
  | none => exact wpAny_getItem_str_slice (l := some (i, ui)) (u := none) (st := none) hs rfl (post_val_or_str ⟨Nat.le_trans (Txt.slice_le z _ _) hz, fin⟩)
  | int j uj => exact wpAny_getItem_str_slice (l := some (i, ui)) (u := some (j, uj)) (st := none) hs rfl (post_val_or_str ⟨Nat.le_trans (Txt.slice_le z _ _) hz, fin⟩)
theorem sl_any : SlR X (rSl X.K) := by
 intro pins s σ H x v vl vu lo hi sl Q I rx hs pl pu h
 cases x with
 | str z => exact sl_str pins s σ H _ v vl vu lo hi sl Q I rx hs pl pu ⟨z, rfl, h.1, h.2⟩
 | ref a =>
  obtain ⟨xs, h1, h2⟩ := h
  exact sl_list pins s σ H _ v vl vu lo hi sl Q I rx hs pl pu ⟨a, xs, rfl, h1, h2⟩
 | _ => exact (show False from h).elim
noncomputable def rAt (K : PySem.W.Frag) : R2 := fun x y H Q => match x, y with
 | .str z, .int i => z.length ≤ sizeLine ∧ ∃ c, atI z.cps.toList i = some c ∧ Q (.str ⟨#[c]⟩) H
 | .ref p, .int i => (∃ xs v, SqL K H p xs ∧ atI xs i = some v ∧ Q v H) ∨ (∃ xs v, SqT K H p xs ∧ atI xs i = some v ∧ Q v H)
 | _, _ => False
theorem ix_any : IxR X (rAt X.K) := by
 intro value slice pins s σ H x y v u Q I rx ry q hs
 cases x with
 | str z => cases y with
  | int i =>
   obtain ⟨hz, c, hc, q⟩ := q
   exact ix_str value slice pins s σ H _ _ v u Q I rx ry ⟨z, i, c, rfl, rfl, hz, hc, q⟩ hs
  | _ => exact (show False from q).elim
 | ref p => cases y with
  | int i =>
   rcases q with ⟨xs, w', h1, h2, h3⟩ | ⟨xs, w', h1, h2, h3⟩
   ·exact ix_list value slice pins s σ H _ _ v u Q I rx ry ⟨p, xs, i, w', rfl, rfl, h1, h2, h3⟩ hs
   ·exact ix_tup value slice pins s σ H _ _ v u Q I rx ry ⟨p, xs, i, w', rfl, rfl, h1, h2, h3⟩ hs
  | _ => exact (show False from q).elim
 | _ => exact (show False from q).elim
noncomputable def rLen (K : PySem.W.Frag) : List V → Hp → VK → Prop := fun vs H Q => match vs with
 | [.str z] => z.length ≤ sizeLine ∧ Q (.int z.length) H
 | [.ref p] => ∃ ys, (SqL K H p ys ∨ SqT K H p ys) ∧ Q (.int ys.length) H
 | _ => False
theorem call_lenU : E2 X (.builtin "len") (rLen X.K) := by
 intro pins s σ H vs us Q I r h
 match vs, h with
 | [.str z], h => exact call_len_str pins s σ H _ us Q I r ⟨z, rfl, h.1, h.2⟩
 | [.ref p], h =>
  obtain ⟨ys, h1, h2⟩ := h
  exact call_len_seq pins s σ H _ us Q I r ⟨p, ys, rfl, h1, h2⟩
theorem strsAre_of {ys : List Str} : ∀ {us : List Value}, Vals (ys.map V.str) us → StrsAre us ys := by
 induction ys with
 | nil => intro us r; rw [List.map_nil] at r; cases r; exact .nil
 | cons n ns ih =>
  intro us r
  rw [List.map_cons] at r
  cases r with
  | cons r1 r2 =>
   obtain ⟨t, e⟩ := r1
   subst e
   exact .cons n t (ih r2)
noncomputable def rJoin (K : PySem.W.Frag) : V → List V → Hp → VK → Prop := fun x vs H Q => ∃ z l ys, x = .str z ∧ vs = [.ref l] ∧ SqL K H l (ys.map V.str) ∧ (ys.map (·.length)).sum + ys.length * z.length ≤ 16777216 ∧ Q (.str (Txt.join z ys)) H
theorem mt_join : MtR X "str.join" (rJoin X.K) := by
 intro pins s σ H x vs v us Q I rx rv h
 obtain ⟨z, l, ys, rfl, rfl, hl, hz, q⟩ := h
 obtain ⟨t, rfl⟩ := rx
 obtain ⟨u, rfl, ru⟩ := Ff rv
 cases ru
 obtain ⟨its, r, pl, _⟩ := I.list hl
 exact join_list pl.isList (by simpa using strsAre_of r) hz fun t' k => ⟨.str _, H, I.tok k, ⟨t', rfl⟩, q⟩
end
structure EqTy (K : PySem.W.Frag) (k : Nat) {α : Type} [DecidableEq α] (R : Hp → V → α → Prop) : Prop where
 fn : ∀ {X : Cx} {pins : List (Addr × Obj)} {σ : St} {H : Hp} {s : Shared} {x : V} {a b : α}, X.K = K → Inv X pins σ H s → R H x a → R H x b → a = b
 eq : ∀ {X : Cx} {pins : List (Addr × Obj)} {σ : St} {H : Hp} {s : Shared} {x y : V} {u v : Value} {a b : α} (A : Around), X.K = K → Inv X pins σ H s → A.units + k < cLine → RelV x u → RelV y v → R H x a → R H y b → SeqAt.EqAt A s u v (decide (a = b))
 rc : ∀ {X : Cx} {pins : List (Addr × Obj)} {σ : St} {H : Hp} {s : Shared} {x y : V} {u v : Value} {a b : α} (A : Around), X.K = K → Inv X pins σ H s → A.units + k < cLine → RelV x u → RelV y v → R H x a → R H y b → SeqAt.RcAt A s u v (decide (a = b)) ∧ SeqAt.RcNeAt A s u v (!decide (a = b))
noncomputable def isStr : Hp → V → Str → Prop := fun _ x a => x = .str a
noncomputable def isInt : Hp → V → Int → Prop := fun _ x a => x = .int a
noncomputable def isBl : Hp → V → Bool → Prop := fun _ x a => x = .bl a
theorem Dl {α : Type} [DecidableEq α] [BEq α] [LawfulBEq α] (a b : α) : (a == b) = decide (a = b) := by
 by_cases h : a = b
 ·subst h; simp
 ·rw [decide_eq_false h]; simpa using h
theorem eqStr {K : PySem.W.Frag} : EqTy K 0 isStr where
 fn := fun _ _ h1 h2 => by cases h1; cases h2; rfl
 eq := fun A _ _ _ r1 r2 h1 h2 => by
  cases h1; cases h2
  obtain ⟨t, rfl⟩ := r1
  obtain ⟨t', rfl⟩ := r2
  rw [← Dl]
  exact SeqAt.EqAt.str_str _ _ _ _
 rc := fun A _ _ _ r1 r2 h1 h2 => by
  cases h1; cases h2
  obtain ⟨t, rfl⟩ := r1
  obtain ⟨t', rfl⟩ := r2
  rw [← Dl]
  exact ⟨SeqAt.RcAt.str_str _ _ _ _, SeqAt.RcNeAt.str_str _ _ _ _⟩
theorem eqInt {K : PySem.W.Frag} : EqTy K 0 isInt where
 fn := fun _ _ h1 h2 => by cases h1; cases h2; rfl
 eq := fun A _ _ _ r1 r2 h1 h2 => by
  cases h1; cases h2
  obtain ⟨t, rfl⟩ := r1
  obtain ⟨t', rfl⟩ := r2
  rw [← Dl]
  exact SeqAt.EqAt.int_int _ _ _ _
 rc := fun A _ _ _ r1 r2 h1 h2 => by
  cases h1; cases h2
  obtain ⟨t, rfl⟩ := r1
  obtain ⟨t', rfl⟩ := r2
  rw [← Dl]
  exact ⟨SeqAt.RcAt.int_int _ _ _ _, SeqAt.RcNeAt.int_int _ _ _ _⟩
theorem eqBl {K : PySem.W.Frag} : EqTy K 0 isBl where
 fn := fun _ _ h1 h2 => by cases h1; cases h2; rfl
 eq := fun A _ _ _ r1 r2 h1 h2 => by
  cases h1; cases h2
  cases r1; cases r2
  rw [← Dl]
  exact SeqAt.EqAt.bool_bool _ _
 rc := fun A _ _ _ r1 r2 h1 h2 => by
  cases h1; cases h2
  cases r1; cases r2
  rw [← Dl]
  exact ⟨SeqAt.RcAt.bool_bool _ _, SeqAt.RcNeAt.bool_bool _ _⟩
theorem Paired.at' {α β : Type} {F : α → β → Prop} : ∀ {l₁ : List α} {l₂ : List β} {i : Nat} {a : α} {b : β}, Paired F l₁ l₂ → l₁[i]? = some a → l₂[i]? = some b → F a b
 | _, _, _, _, _, .nil, e, _ => by simp at e
 | _, _, 0, _, _, .cons h _, e1, e2 => by simp at e1 e2; subst e1; subst e2; exact h
 | _, _, i + 1, _, _, .cons _ t, e1, e2 => Paired.at' (i := i) t (by simpa using e1) (by simpa using e2)
theorem FU {α β : Type} {F : α → β → Prop} (hf : ∀ a b c, F a b → F a c → b = c) : ∀ {xs : List α} {as bs : List β}, Paired F xs as → Paired F xs bs → as = bs
 | _, _, _, .nil, .nil => rfl
 | _, _, _, .cons h t, .cons h' t' => by rw [hf _ _ _ h h', FU hf t t']
theorem all_dec {α : Type} [DecidableEq α] : ∀ (as bs : List α) (hl : as.length = bs.length), ((List.range as.length).all fun j => decide (as[j]? = bs[j]?)) = decide (as = bs) := by
 intro as bs hl
 apply Bool.eq_iff_iff.mpr
 rw [decide_eq_true_iff, List.all_eq_true]
 constructor
 ·intro h
  apply List.ext_getElem?
  intro i
  by_cases hi : i < as.length
  ·exact of_decide_eq_true (h i (List.mem_range.mpr hi))
  ·rw [List.getElem?_eq_none (by omega), List.getElem?_eq_none (by omega)]
 ·rintro rfl i _
  simp
noncomputable def isLst (K : PySem.W.Frag) {α : Type} (R : Hp → V → α → Prop) : Hp → V → List α → Prop := fun H x as => ∃ l xs, x = .ref l ∧ SqL K H l xs ∧ Paired (R H) xs as
theorem items_eqAt {K : PySem.W.Frag} {k : Nat} {α : Type} [DecidableEq α] {R : Hp → V → α → Prop} (E : EqTy K k R) {X : Cx} {pins : List (Addr × Obj)} {σ : St} {H : Hp} {s : Shared} {A : Around} (hK : X.K = K) (I : Inv X pins σ H s) (hu : A.units + (k + 1) < cLine)
  {xs ys : List V} {us vs : List Value} {as bs : List α} (rx : Vals xs us) (ry : Vals ys vs) (px : Paired (R H) xs as) (py : Paired (R H) ys bs) :
  ∀ j (h1 : j < us.toArray.size) (h2 : j < vs.toArray.size), SeqAt.EqAt A.in1 s us.toArray[j] vs.toArray[j] (decide (as[j]? = bs[j]?)) := by
 intro j h1 h2
 have h1' : j < us.length := by simpa using h1
 have h2' : j < vs.length := by simpa using h2
 have lx := rx.length
 have ly := ry.length
 have lpx := Paired.length px
 have lpy := Paired.length py
 have ex : xs[j]? = some xs[j] := List.getElem?_eq_getElem (by omega)
 have ey : ys[j]? = some ys[j] := List.getElem?_eq_getElem (by omega)
 have ea : as[j]? = some as[j] := List.getElem?_eq_getElem (by omega)
 have eb : bs[j]? = some bs[j] := List.getElem?_eq_getElem (by omega)
 obtain ⟨u, hu', ru⟩ := rx.get ex
 obtain ⟨v, hv', rv⟩ := ry.get ey
 have e1 : us.toArray[j] = u := by
  rw [List.getElem?_eq_getElem h1'] at hu'
  simpa using hu'
 have e2 : vs.toArray[j] = v := by
  rw [List.getElem?_eq_getElem h2'] at hv'
  simpa using hv'
 rw [e1, e2, ea, eb]
 have := E.eq A.in1 hK I (show A.units + 1 + k < cLine by omega) ru rv (Paired.at' px ex ea) (Paired.at' py ey eb)
 have e3 : decide (some as[j] = some bs[j]) = decide (as[j] = bs[j]) := by simp
 rw [e3]
 exact this
theorem eqLst {K : PySem.W.Frag} {k : Nat} {α : Type} [DecidableEq α] {R : Hp → V → α → Prop} (E : EqTy K k R) : EqTy K (k + 1) (isLst K R) := by
 have fn : ∀ {X : Cx} {pins : List (Addr × Obj)} {σ : St} {H : Hp} {s : Shared} {x : V} {a b : List α}, X.K = K → Inv X pins σ H s → isLst K R H x a → isLst K R H x b → a = b := by
  intro X pins σ H s x a b hK I ha hb
  obtain ⟨l, xs, rfl, h1, p1⟩ := ha
  obtain ⟨l', ys, e, h2, p2⟩ := hb
  cases e
  subst hK
  have := I.list_inj h1 h2
  subst this
  exact FU (F := R H) (fun _ _ _ p q => E.fn rfl I p q) p1 p2
 have rc : ∀ {X : Cx} {pins : List (Addr × Obj)} {σ : St} {H : Hp} {s : Shared} {x y : V} {u v : Value} {a b : List α} (A : Around), X.K = K → Inv X pins σ H s → A.units + (k + 1) < cLine → RelV x u → RelV y v → isLst K R H x a → isLst K R H y b →
   SeqAt.RcAt A s u v (decide (a = b)) ∧ SeqAt.RcNeAt A s u v (!decide (a = b)) := by
  intro X pins σ H s x y u v a b A hK I hu r1 r2 ha hb
  obtain ⟨l, xs, rfl, h1, p1⟩ := ha
  obtain ⟨l', ys, rfl, h2, p2⟩ := hb
  cases r1; cases r2
  subst hK
  obtain ⟨us, rx, plx, _⟩ := I.list h1
  obtain ⟨vs, ry, ply, _⟩ := I.list h2
  have lx := rx.length
  have ly := ry.length
  have lpx := Paired.length p1
  have lpy := Paired.length p2
  by_cases hl : a.length = b.length
  ·have hsz : us.toArray.size = vs.toArray.size := by simp; omega
   have it := items_eqAt E rfl I hu rx ry p1 p2
   have ed : ((List.range us.toArray.size).all fun j => decide (a[j]? = b[j]?)) = decide (a = b) := by
    rw [← all_dec a b hl, List.size_toArray, ← lx, lpx]
   rw [← ed]
   exact ⟨SeqAt.RcAt.lists plx.isList ply.isList hsz (by omega) it, SeqAt.RcNeAt.lists plx.isList ply.isList hsz (by omega) it⟩
  ·have hsz : (us.toArray.size != vs.toArray.size) = true := by simp; omega
   have ne : a ≠ b := fun e => hl (by rw [e])
   rw [decide_eq_false ne]
   exact ⟨SeqAt.RcAt.lists_lengths plx.isList ply.isList hsz (by omega), SeqAt.RcNeAt.lists_lengths plx.isList ply.isList hsz (by omega)⟩
 refine ⟨fn, ?_, rc⟩
 intro X pins σ H s x y u v a b A hK I hu r1 r2 ha hb
 have h := (rc A hK I hu r1 r2 ha hb).1
 obtain ⟨l, xs, rfl, h1, p1⟩ := id ha
 obtain ⟨l', ys, rfl, h2, p2⟩ := id hb
 cases r1; cases r2
 by_cases e : l = l'
 ·subst e
  have : a = b := fn hK I ha hb
  rw [decide_eq_true this]
  exact SeqAt.EqAt.same _
 ·exact SeqAt.EqAt.of_refs e h
section
variable {X : Cx}
theorem op_neD {k j : Nat} {α : Type} [DecidableEq α] {R : Hp → V → α → Prop} (E : EqTy X.K k R) (hr : Room j X.A) (hk : k ≤ 10) : OpR X (compareOp .NotEq) (fun x y H Q => ∃ a b, R H x a ∧ R H y b ∧ Q (.bl (!decide (a = b))) H) := by
 intro pins s σ H x y v u Q I rx ry h
 obtain ⟨a, b, h1, h2, q⟩ := h
 exact (E.rc X.A rfl I (by have := hr.un; omega) rx ry h1 h2).2 _ _ _ _ ⟨.bl _, H, I, rfl, q⟩
end
class Rp (α : Type) where
 rel : PySem.W.Frag → Hp → V → α → Prop
 mono : ∀ {K : PySem.W.Frag} {H H' : Hp} {v : V} {a : α}, Same H H' → rel K H v a → rel K H' v a
theorem Same.rd {H H' : Hp} {a : Addr} {u : HO} (s : Same H H') (h : Rd H a u) : Rd H' a u := by
 rcases h with h | ⟨o, h⟩
 ·exact .inl (s _ _ h)
 ·exact .inr ⟨o, s _ _ h⟩
theorem Same.tup {K : PySem.W.Frag} {H H' : Hp} {a : Addr} {xs : List V} (e : Same H H') (h : SqT K H a xs) : SqT K H' a xs := by
 rcases h with h | h
 ·exact .inl (e.rd h)
 ·exact .inr h
noncomputable instance rpInt : Rp Int := ⟨fun _ _ v a => v = .int a, fun _ h => h⟩
noncomputable instance rpBool : Rp Bool := ⟨fun _ _ v a => v = .bl a, fun _ h => h⟩
noncomputable instance rpStr : Rp Str := ⟨fun _ _ v a => v = .str a ∧ a.length ≤ sizeLine, fun _ h => h⟩
noncomputable instance rpUnit : Rp Unit := ⟨fun _ _ v _ => v = .non, fun _ h => h⟩
noncomputable instance rpList {α : Type} [Rp α] : Rp (List α) :=
 ⟨fun K H v as => ∃ l xs, v = .ref l ∧ Rd H l (.lst xs) ∧ xs.length ≤ sizeLine ∧ Paired (Rp.rel K H) xs as,
  fun s ⟨l, xs, e, h, z, p⟩ => ⟨l, xs, e, s.rd h, z, Paired.imp' (fun _ _ r => Rp.mono s r) p⟩⟩
noncomputable instance rpPair {α β : Type} [Rp α] [Rp β] : Rp (α × β) :=
 ⟨fun K H v p => ∃ t a b, v = .ref t ∧ SqT K H t [a, b] ∧ Rp.rel K H a p.1 ∧ Rp.rel K H b p.2,
  fun s ⟨t, a, b, e, h, r1, r2⟩ => ⟨t, a, b, e, s.tup h, Rp.mono s r1, Rp.mono s r2⟩⟩
structure T3 (α β γ : Type) where
 a : α
 b : β
 c : γ
 deriving DecidableEq
structure Tp (α : Type) where
 l : List α
 deriving DecidableEq
noncomputable instance rpT3 {α β γ : Type} [Rp α] [Rp β] [Rp γ] : Rp (T3 α β γ) :=
 ⟨fun K H v p => ∃ t a b c, v = .ref t ∧ SqT K H t [a, b, c] ∧ Rp.rel K H a p.a ∧ Rp.rel K H b p.b ∧ Rp.rel K H c p.c,
  fun s ⟨t, a, b, c, e, h, r1, r2, r3⟩ => ⟨t, a, b, c, e, s.tup h, Rp.mono s r1, Rp.mono s r2, Rp.mono s r3⟩⟩
noncomputable instance rpTp {α : Type} [Rp α] : Rp (Tp α) :=
 ⟨fun K H v as => ∃ t xs, v = .ref t ∧ SqT K H t xs ∧ xs.length ≤ sizeLine ∧ Paired (Rp.rel K H) xs as.l,
  fun s ⟨l, xs, e, h, z, p⟩ => ⟨l, xs, e, s.tup h, z, Paired.imp' (fun _ _ r => Rp.mono s r) p⟩⟩
noncomputable instance rpOpt {α : Type} [Rp α] : Rp (Option α) :=
 ⟨fun K H v o => match o with | none => v = .non | some a => Rp.rel K H v a,
  fun {K H H' v o} s h => by cases o with | none => exact h | some a => exact Rp.mono (α := α) s h⟩
class RpA (α : Type) where
 n : Nat
 rel : PySem.W.Frag → Hp → List V → α → Prop
 mono : ∀ {K : PySem.W.Frag} {H H' : Hp} {v : List V} {a : α}, Same H H' → rel K H v a → rel K H' v a
 len : ∀ {K : PySem.W.Frag} {H : Hp} {v : List V} {a : α}, rel K H v a → v.length = n
noncomputable instance raNil : RpA Unit := ⟨0, fun _ _ vs _ => vs = [], fun _ h => h, fun h => by rw [h]; rfl⟩
noncomputable instance raCons {α β : Type} [Rp α] [RpA β] : RpA (α × β) :=
 ⟨RpA.n β + 1, fun K H vs p => ∃ v r, vs = v :: r ∧ Rp.rel K H v p.1 ∧ RpA.rel K H r p.2,
  fun s ⟨v, r, e, h1, h2⟩ => ⟨v, r, e, Rp.mono s h1, RpA.mono s h2⟩, fun ⟨v, r, e, h1, h2⟩ => by rw [e, List.length_cons, RpA.len h2]⟩
structure Ext (G H G' H' : Hp) : Prop where
 gg : Same G G'
 gh : Same G' H'
 hh : Same H H'
 no : ∀ b, G b = none → H b ≠ none → G' b = none
section
variable {G H G1 H1 G2 H2 G0 H0 : Hp} {p : Addr} {o : HO}
theorem Ext.refl (s : Same G H) : Ext G H G H := ⟨.refl _, s, .refl _, fun _ h _ => h⟩
theorem Ext.trans (x : Ext G H G1 H1) (y : Ext G1 H1 G2 H2) : Ext G H G2 H2 :=
 ⟨x.gg.trans y.gg, y.gh, x.hh.trans y.hh, fun b h1 h2 => y.no b (x.no b h1 h2) fun z => h2 (x.hh.free z)⟩
theorem Same.both (s : Same G H) : Same (upd G p o) (upd H p o) := fun b u e => by
 by_cases hb : b = p
 ·subst hb
  rw [AQ] at e ⊢
  exact e
 ·rw [Ao hb] at e ⊢
  exact s b u e
theorem Ext.new (s : Same G H) (h : H p = none) : Ext G H (upd G p o) (upd H p o) :=
 ⟨Same.new (s.free h), s.both, Same.new h, fun b h1 h2 => by
  have hb : b ≠ p := fun z => h2 (by rw [z]; exact h)
  rw [Ao hb]
  exact h1⟩
theorem Ext.own (s : Same G H) (h : H p = none) : Ext G H G (upd H p o) := ⟨.refl _, s.trans (Same.new h), Same.new h, fun _ h _ => h⟩
theorem Ext.put (x : Ext G0 H0 G H) (h0 : H0 p = none) (hg : G p = none) : Ext G0 H0 G (upd H p o) := ⟨x.gg, x.gh.put hg, x.hh.put h0, x.no⟩
theorem Ext.frz (x : Ext G0 H0 G H) (h0 : H0 p = none) (hg : G p = none) (hh : H p = some o) : Ext G0 H0 (upd G p o) H :=
 ⟨x.gg.trans (Same.new hg), fun b u e => by
  by_cases hb : b = p
  ·subst hb
   rw [AQ] at e
   rw [hh]
   exact e
  ·rw [Ao hb] at e
   exact x.gh b u e, x.hh, fun b h1 h2 => by
  have hb : b ≠ p := fun z => h2 (by rw [z]; exact h0)
  rw [Ao hb]
  exact x.no b h1 h2⟩
end
section
variable {K : PySem.W.Frag} {σ : St} {G : Hp}
noncomputable def EV (K : PySem.W.Frag) {α : Type} [Rp α] (te : TE) (σ : St) (G : Hp) (m : Option α) : Prop :=
 ∀ G1, Same G G1 → ∀ a, m = some a → ∀ H, Same G1 H → ∀ Q : VK, (∀ v G2 H2, Ext G1 H G2 H2 → Rp.rel K G2 v a → Q v H2) → te σ H Q
noncomputable def TV (t : TT) (σ : St) (G : Hp) (m : Option Bool) : Prop :=
 ∀ G1, Same G G1 → ∀ a, m = some a → ∀ H, Same G1 H → ∀ Q : Bool → Hp → Prop, (∀ G2 H2, Ext G1 H G2 H2 → Q a H2) → t σ H Q
noncomputable def AV (K : PySem.W.Frag) {α : Type} [RpA α] (t : TA) (σ : St) (G : Hp) (m : Option α) : Prop :=
 ∀ G1, Same G G1 → ∀ a, m = some a → ∀ H, Same G1 H → ∀ Q : List V → Hp → Prop, (∀ vs G2 H2, Ext G1 H G2 H2 → RpA.rel K G2 vs a → Q vs H2) → t σ H Q
noncomputable def LV (K : PySem.W.Frag) {α : Type} [Rp α] (t : TA) (σ : St) (G : Hp) (n : Nat) (m : Option (List α)) : Prop :=
 ∀ G1, Same G G1 → ∀ a, m = some a → ∀ H, Same G1 H → ∀ Q : List V → Hp → Prop, (∀ vs G2 H2, Ext G1 H G2 H2 → vs.length = n → Paired (Rp.rel K G2) vs a → Q vs H2) → t σ H Q
noncomputable def OV (t : TO) (σ : St) (G : Hp) (m : Option (Option Int)) : Prop :=
 ∀ G1, Same G G1 → ∀ a, m = some a → ∀ H, Same G1 H → ∀ Q : Option Int → Hp → Prop, (∀ G2 H2, Ext G1 H G2 H2 → Q a H2) → t σ H Q
noncomputable def FV (K : PySem.W.Frag) {α : Type} [Rp α] (te : TE) (σ : St) (G : Hp) (m : Option (List α)) : Prop :=
 ∀ G1, Same G G1 → ∀ a, m = some a → ∀ H, Same G1 H → ∀ Q : VK, (∀ p vs G2 H2, Ext G1 H G2 H2 → H p = none → G2 p = none → H2 p = some (.lst vs) → vs.length ≤ sizeLine → Paired (Rp.rel K G2) vs a → Q (.ref p) H2) → te σ H Q
section
variable {α β γ δ : Type} [Rp α] [Rp β] [Rp γ] [Rp δ] {ta tb tc td : TE} {ma : Option α} {mb : Option β} {mc : Option γ}
theorem EV.run {te : TE} {H : Hp} {a : α} {Q : VK} {m : Option α} (e : EV K te σ G m) (hm : m = some a) (s : Same G H) (k : ∀ v G2 H2, Ext G H G2 H2 → Rp.rel K G2 v a → Q v H2) : te σ H Q := e G (.refl G) a hm H s Q k
theorem TV.run {t : TT} {H : Hp} {a : Bool} {Q : Bool → Hp → Prop} {m : Option Bool} (e : TV t σ G m) (hm : m = some a) (s : Same G H) (k : ∀ G2 H2, Ext G H G2 H2 → Q a H2) : t σ H Q := e G (.refl G) a hm H s Q k
theorem EV.of {te : TE} {m m' : Option α} (e : EV K te σ G m) (h : m = m') : EV K te σ G m' := h ▸ e
theorem FV.ev {te : TE} {m : Option (List α)} (e : FV K te σ G m) : EV K te σ G m := by
 intro G1 s1 a ha H sH Q k
 refine e G1 s1 a ha H sH Q fun p vs G2 H2 x h0 hg hh hz hp => ?_
 exact k _ _ _ (x.frz h0 hg hh) ⟨p, vs, rfl, .inl AQ, hz, Paired.imp' (fun _ _ r => Rp.mono (Same.new hg) r) hp⟩
theorem A5 {i : Nat} {v : V} {a : α} (h : σ[i]? = some (some v)) (r : Rp.rel K G v a) : EV K (Bc i) σ G (some a) := fun G1 s a' e H sH Q k => by
 cases e
 exact ⟨v, h, k v G1 H (.refl sH) (Rp.mono s r)⟩
theorem GS {v : V} {a : α} (h : ∀ G, Rp.rel K G v a) : EV K (tC v) σ G (some a) := fun G1 s a' e H sH Q k => by
 cases e
 exact k v G1 H (.refl sH) (h _)
theorem Af {i : Int} : EV K (tC (.int i)) σ G (some i) := GS fun _ => rfl
theorem GP {b : Bool} : EV K (tC (.bl b)) σ G (some b) := GS fun _ => rfl
theorem As {x : Str} (h : x.length ≤ sizeLine := by decide +kernel) : EV K (tC (.str x)) σ G (some x) := GS fun _ => ⟨rfl, h⟩
theorem ev_none : EV K (tC .non) σ G (some (none : Option α)) := GS fun _ => rfl
theorem ev_some {te : TE} {m : Option α} (e : EV K te σ G m) : EV K te σ G (m.bind fun a => some (some a)) := by
 intro G1 s1 c hc H sH Q k
 obtain ⟨a, ha, hc⟩ := Option.bind_eq_some_iff.mp hc
 cases hc
 exact e G1 s1 a ha H sH Q k
theorem CA {r : R2} {f : α → β → Option γ}
  (h : ∀ {G H : Hp} {v u : V} {a : α} {b : β} {c : γ}, Same G H → Rp.rel K G v a → Rp.rel K G u b → f a b = some c → ∀ {Q : VK}, (∀ w G2 H2, Ext G H G2 H2 → Rp.rel K G2 w c → Q w H2) → r v u H Q)
  (ea : EV K ta σ G ma) (eb : EV K tb σ G mb) : EV K (tOp r ta tb) σ G (ma.bind fun a => mb.bind fun b => f a b) := by
 intro G1 s1 c hc H sH Q k
 obtain ⟨a, ha, hc⟩ := Option.bind_eq_some_iff.mp hc
 obtain ⟨b, hb, hc⟩ := Option.bind_eq_some_iff.mp hc
 refine ea G1 s1 a ha H sH _ fun v G2 H2 x2 r2 => ?_
 refine eb G2 (s1.trans x2.gg) b hb H2 x2.gh _ fun u G3 H3 x3 r3 => ?_
 exact h x3.gh (Rp.mono x3.gg r2) r3 hc fun w G4 H4 x4 r4 => k w G4 H4 ((x2.trans x3).trans x4) r4
theorem ev_un {r : V → Hp → VK → Prop} {f : α → Option γ}
  (h : ∀ {G H : Hp} {v : V} {a : α} {c : γ}, Same G H → Rp.rel K G v a → f a = some c → ∀ {Q : VK}, (∀ w G2 H2, Ext G H G2 H2 → Rp.rel K G2 w c → Q w H2) → r v H Q)
  (ea : EV K ta σ G ma) : EV K (tUn r ta) σ G (ma.bind fun a => f a) := by
 intro G1 s1 c hc H sH Q k
 obtain ⟨a, ha, hc⟩ := Option.bind_eq_some_iff.mp hc
 refine ea G1 s1 a ha H sH _ fun v G2 H2 x2 r2 => ?_
 exact h x2.gh r2 hc fun w G4 H4 x4 r4 => k w G4 H4 (x2.trans x4) r4
noncomputable instance decMul (i j : Int) : Decidable (CMul i j) := by unfold CMul; infer_instance
noncomputable instance decDiv (i j : Int) : Decidable (CDiv i j) := by unfold CDiv; infer_instance
noncomputable instance decPow (i j : Int) : Decidable (CPow i j) := by unfold CPow; infer_instance
noncomputable def mulO (a b : Int) : Option Int := if CMul a b then some (a * b) else none
noncomputable def divO (a b : Int) : Option Int := if CDiv a b then some (a / b) else none
noncomputable def modO (a b : Int) : Option Int := if 0 < b then some (a % b) else none
theorem BN {p : Prop} [Decidable p] {α : Type} {a c : α} (h : (if p then some a else none) = some c) : p ∧ a = c := by
 by_cases hp : p
 ·rw [if_pos hp] at h
  exact ⟨hp, Option.some.inj h⟩
 ·rw [if_neg hp] at h
  cases h
section
variable {ia ib : Option Int}
theorem Bh (ea : EV K ta σ G ia) (eb : EV K tb σ G ib) : EV K (tOp (rPlus K) ta tb) σ G (ia.bind fun a => ib.bind fun b => some (a + b)) :=
 CA (fun s ra rb e Q k => by cases ra; cases rb; cases e; exact k _ _ _ (.refl s) rfl) ea eb
theorem ev_sub (ea : EV K ta σ G ia) (eb : EV K tb σ G ib) : EV K (tOp (rI0 fun i j => .int (i - j)) ta tb) σ G (ia.bind fun a => ib.bind fun b => some (a - b)) :=
 CA (fun s ra rb e Q k => by cases ra; cases rb; cases e; exact ⟨_, _, rfl, rfl, k _ _ _ (.refl s) rfl⟩) ea eb
theorem ev_mul (ea : EV K ta σ G ia) (eb : EV K tb σ G ib) : EV K (tOp (rMul K) ta tb) σ G (ia.bind fun a => ib.bind fun b => mulO a b) :=
 CA (fun s ra rb e Q k => by cases ra; cases rb; obtain ⟨h, rfl⟩ := BN e; exact ⟨h, k _ _ _ (.refl s) rfl⟩) ea eb
theorem ev_mod (ea : EV K ta σ G ia) (eb : EV K tb σ G ib) : EV K (tOp (rI (fun _ j => 0 < j) fun i j => .int (i % j)) ta tb) σ G (ia.bind fun a => ib.bind fun b => modO a b) :=
 CA (fun s ra rb e Q k => by cases ra; cases rb; obtain ⟨h, rfl⟩ := BN e; exact ⟨_, _, rfl, rfl, h, k _ _ _ (.refl s) rfl⟩) ea eb
theorem ev_div (ea : EV K ta σ G ia) (eb : EV K tb σ G ib) : EV K (tOp (rI CDiv fun i j => .int (i / j)) ta tb) σ G (ia.bind fun a => ib.bind fun b => divO a b) :=
 CA (fun s ra rb e Q k => by cases ra; cases rb; obtain ⟨h, rfl⟩ := BN e; exact ⟨_, _, rfl, rfl, h, k _ _ _ (.refl s) rfl⟩) ea eb
theorem ev_neg (ea : EV K ta σ G ia) : EV K (tUn (rU fun i => .int (-i)) ta) σ G (ia.bind fun a => some (-a)) :=
 ev_un (fun s ra e Q k => by cases ra; cases e; exact ⟨_, rfl, k _ _ _ (.refl s) rfl⟩) ea
theorem Ee {p : Int → Int → Bool} {q : List Nat → List Nat → Bool} (ea : EV K ta σ G ia) (eb : EV K tb σ G ib) : EV K (tOp (rOrd p q) ta tb) σ G (ia.bind fun a => ib.bind fun b => some (p a b)) :=
 CA (fun s ra rb e Q k => by cases ra; cases rb; cases e; exact k _ _ _ (.refl s) rfl) ea eb
theorem DY (ea : EV K ta σ G ia) (eb : EV K tb σ G ib) : EV K (tOp rEq ta tb) σ G (ia.bind fun a => ib.bind fun b => some (decide (a = b))) :=
 CA (fun s ra rb e Q k => by cases ra; cases rb; cases e; exact ⟨rfl, k _ _ _ (.refl s) (by show V.bl _ = V.bl _; congr 1; simp)⟩) ea eb
theorem ev_neI (ea : EV K ta σ G ia) (eb : EV K tb σ G ib) : EV K (tOp rNe ta tb) σ G (ia.bind fun a => ib.bind fun b => some (!decide (a = b))) :=
 CA (fun s ra rb e Q k => by cases ra; cases rb; cases e; exact ⟨rfl, k _ _ _ (.refl s) (by show V.bl _ = V.bl _; congr 1; simp)⟩) ea eb
end
section
variable {ba bb : Option Bool}
theorem ev_neB (ea : EV K ta σ G ba) (eb : EV K tb σ G bb) : EV K (tOp rNe ta tb) σ G (ba.bind fun a => bb.bind fun b => some (!decide (a = b))) :=
 CA (fun s ra rb e Q k => by cases ra; cases rb; cases e; exact ⟨rfl, k _ _ _ (.refl s) (by show V.bl _ = V.bl _; congr 1; simp)⟩) ea eb
theorem ev_not (ea : EV K ta σ G ba) : EV K (tNotV ta) σ G (ba.bind fun a => some (!a)) := by
 intro G1 s1 c hc H sH Q k
 obtain ⟨a, ha, hc⟩ := Option.bind_eq_some_iff.mp hc
 cases hc
 refine ea G1 s1 a ha H sH _ fun v G2 H2 x2 r2 => ?_
 cases r2
 exact ⟨_, rfl, k _ _ _ x2 rfl⟩
theorem ev_and (ea : EV K ta σ G ba) (eb : EV K tb σ G bb) : EV K (tAndV ta tb) σ G (ba.bind fun a => cond a bb (some false)) := by
 intro G1 s1 c hc H sH Q k
 obtain ⟨a, ha, hc⟩ := Option.bind_eq_some_iff.mp hc
 refine ea G1 s1 a ha H sH _ fun v G2 H2 x2 r2 => ?_
 cases r2
 refine ⟨_, rfl, ?_⟩
 cases a with
 | false => cases hc; exact BQ (k _ _ _ x2 rfl)
 | true => exact BR (eb G2 (s1.trans x2.gg) c hc H2 x2.gh _ fun u G3 H3 x3 r3 => k _ _ _ (x2.trans x3) r3)
theorem ev_or (ea : EV K ta σ G ba) (eb : EV K tb σ G bb) : EV K (tOrV ta tb) σ G (ba.bind fun a => cond a (some true) bb) := by
 intro G1 s1 c hc H sH Q k
 obtain ⟨a, ha, hc⟩ := Option.bind_eq_some_iff.mp hc
 refine ea G1 s1 a ha H sH _ fun v G2 H2 x2 r2 => ?_
 cases r2
 refine ⟨_, rfl, ?_⟩
 cases a with
 | true => cases hc; exact BR (k _ _ _ x2 rfl)
 | false => exact BQ (eb G2 (s1.trans x2.gg) c hc H2 x2.gh _ fun u G3 H3 x3 r3 => k _ _ _ (x2.trans x3) r3)
theorem AJ (ea : EV K ta σ G ba) : TV (tTest ta) σ G ba := by
 intro G1 s1 c hc H sH Q k
 refine ea G1 s1 c hc H sH _ fun v G2 H2 x2 r2 => ?_
 cases r2
 exact ⟨_, rfl, k _ _ x2⟩
theorem tv_not {t : TT} (ea : TV t σ G ba) : TV (tNot t) σ G (ba.bind fun a => some (!a)) := by
 intro G1 s1 c hc H sH Q k
 obtain ⟨a, ha, hc⟩ := Option.bind_eq_some_iff.mp hc
 cases hc
 exact ea G1 s1 a ha H sH _ fun G2 H2 x2 => k _ _ x2
theorem GF {t u : TT} (ea : TV t σ G ba) (eb : TV u σ G bb) : TV (tAnd t u) σ G (ba.bind fun a => cond a bb (some false)) := by
 intro G1 s1 c hc H sH Q k
 obtain ⟨a, ha, hc⟩ := Option.bind_eq_some_iff.mp hc
 refine ea G1 s1 a ha H sH _ fun G2 H2 x2 => ?_
 cases a with
 | false => cases hc; exact BQ (k _ _ x2)
 | true => exact BR (eb G2 (s1.trans x2.gg) c hc H2 x2.gh _ fun G3 H3 x3 => k _ _ (x2.trans x3))
theorem tv_or {t u : TT} (ea : TV t σ G ba) (eb : TV u σ G bb) : TV (tOr t u) σ G (ba.bind fun a => cond a (some true) bb) := by
 intro G1 s1 c hc H sH Q k
 obtain ⟨a, ha, hc⟩ := Option.bind_eq_some_iff.mp hc
 refine ea G1 s1 a ha H sH _ fun G2 H2 x2 => ?_
 cases a with
 | true => cases hc; exact BR (k _ _ x2)
 | false => exact BQ (eb G2 (s1.trans x2.gg) c hc H2 x2.gh _ fun G3 H3 x3 => k _ _ (x2.trans x3))
theorem tv_tru {f : α → Bool} (h : ∀ {G : Hp} {v : V} {a : α}, Rp.rel K G v a → TruV K v G (f a)) (mn : ∀ {G H : Hp} {v : V} {k : Bool}, Same G H → TruV K v G k → TruV K v H k) (ea : EV K ta σ G ma) :
  TV (fun σ H Q => ta σ H fun x H' => ∃ k, TruV K x H' k ∧ Q k H') σ G (ma.bind fun a => some (f a)) := by
 intro G1 s1 c hc H sH Q k
 obtain ⟨a, ha, hc⟩ := Option.bind_eq_some_iff.mp hc
 cases hc
 refine ea G1 s1 a ha H sH _ fun v G2 H2 x2 r2 => ?_
 exact ⟨_, mn x2.gh (h r2), k _ _ x2⟩
end
end
end
section
variable {K : PySem.W.Frag} {σ : St} {G : Hp} {α β γ δ : Type} [Rp α] [Rp β] [Rp γ] [Rp δ] {ta tb tc td : TE} {ma : Option α} {mb : Option β} {mc : Option γ} {md : Option δ}
section
variable {sa sb : Option Str} {ia ib : Option Int}
noncomputable def catS (a b : Str) : Option Str := if a.length + b.length ≤ sizeLine then some (a ++ b) else none
theorem ev_catS (ea : EV K ta σ G sa) (eb : EV K tb σ G sb) : EV K (tOp (rPlus K) ta tb) σ G (sa.bind fun a => sb.bind fun b => catS a b) :=
 CA (fun s ra rb e Q k => by
  obtain ⟨rfl, z1⟩ := ra; obtain ⟨rfl, z2⟩ := rb; obtain ⟨h, rfl⟩ := BN e
  exact ⟨h, k _ _ _ (.refl s) ⟨rfl, by rw [len_app]; exact h⟩⟩) ea eb
theorem Av (ea : EV K ta σ G sa) (eb : EV K tb σ G sb) : EV K (tOp rEq ta tb) σ G (sa.bind fun a => sb.bind fun b => some (decide (a = b))) :=
 CA (fun s ra rb e Q k => by obtain ⟨rfl, z1⟩ := ra; obtain ⟨rfl, z2⟩ := rb; cases e; exact ⟨rfl, k _ _ _ (.refl s) (by show V.bl _ = V.bl _; congr 1; simp)⟩) ea eb
theorem ev_neS (ea : EV K ta σ G sa) (eb : EV K tb σ G sb) : EV K (tOp rNe ta tb) σ G (sa.bind fun a => sb.bind fun b => some (!decide (a = b))) :=
 CA (fun s ra rb e Q k => by obtain ⟨rfl, z1⟩ := ra; obtain ⟨rfl, z2⟩ := rb; cases e; exact ⟨rfl, k _ _ _ (.refl s) (by show V.bl _ = V.bl _; congr 1; simp)⟩) ea eb
noncomputable def inS (a b : Str) : Bool := !(Builtin.Str.occurrences b a 0 b.length 1).isEmpty
theorem ev_inS (ea : EV K ta σ G sa) (eb : EV K tb σ G sb) : EV K (tOp (fun x y H Q => ∃ i j, x = .str i ∧ y = .str j ∧ Q (.bl (!(Builtin.Str.occurrences j i 0 j.length 1).isEmpty)) H) ta tb) σ G (sa.bind fun a => sb.bind fun b => some (inS a b)) :=
 CA (fun s ra rb e Q k => by obtain ⟨rfl, z1⟩ := ra; obtain ⟨rfl, z2⟩ := rb; cases e; exact ⟨_, _, rfl, rfl, k _ _ _ (.refl s) rfl⟩) ea eb
theorem ev_atS (ea : EV K ta σ G sa) (eb : EV K tb σ G ib) : EV K (tOp (rAt K) ta tb) σ G (sa.bind fun a => ib.bind fun i => (atI a.cps.toList i).bind fun c => some (⟨#[c]⟩ : Str)) :=
 CA (fun s ra rb e Q k => by
  obtain ⟨rfl, z1⟩ := ra; cases rb
  obtain ⟨c, hc, e⟩ := Option.bind_eq_some_iff.mp e
  cases e
  exact ⟨z1, c, hc, k _ _ _ (.refl s) ⟨rfl, by show 1 ≤ sizeLine; decide⟩⟩) ea eb
end
theorem paired_atI {R : V → α → Prop} {xs : List V} {as : List α} {i : Int} {a : α} (p : Paired R xs as) (h : atI as i = some a) : ∃ v, atI xs i = some v ∧ R v a := by
 have hl := Paired.length p
 unfold atI at h ⊢
 obtain ⟨j, hj, h⟩ := Option.bind_eq_some_iff.mp h
 rw [hl, hj]
 have hlt : j < xs.length := by
  have := (List.getElem?_eq_some_iff.mp h).1
  omega
 exact ⟨xs[j], List.getElem?_eq_getElem hlt, Paired.at' p (List.getElem?_eq_getElem hlt) h⟩
theorem Paired.app {α β : Type} {F : α → β → Prop} : ∀ {l1 l2 : List α} {m1 m2 : List β}, Paired F l1 m1 → Paired F l2 m2 → Paired F (l1 ++ l2) (m1 ++ m2)
 | _, _, _, _, .nil, h => h
 | _, _, _, _, .cons r t, h => .cons r (Paired.app t h)
theorem Paired.tk {α β : Type} {F : α → β → Prop} : ∀ (n : Nat) {l : List α} {m : List β}, Paired F l m → Paired F (l.take n) (m.take n)
 | 0, _, _, _ => by simpa using .nil
 | n + 1, _, _, .nil => by simpa using .nil
 | n + 1, _, _, .cons r t => .cons r (Paired.tk n t)
theorem Paired.dp {α β : Type} {F : α → β → Prop} : ∀ (n : Nat) {l : List α} {m : List β}, Paired F l m → Paired F (l.drop n) (m.drop n)
 | 0, _, _, h => h
 | n + 1, _, _, .nil => by simpa using .nil
 | n + 1, _, _, .cons r t => Paired.dp n t
theorem Paired.rep {α β : Type} {F : α → β → Prop} {l : List α} {m : List β} (h : Paired F l m) : ∀ n : Nat, Paired F (List.replicate n l).flatten (List.replicate n m).flatten
 | 0 => .nil
 | n + 1 => by
  rw [List.replicate_succ, List.replicate_succ, List.flatten_cons, List.flatten_cons]
  exact Paired.app h (Paired.rep h n)
theorem Paired.st {α β : Type} {F : α → β → Prop} {a : α} {b : β} (r : F a b) : ∀ {l : List α} {m : List β} (j : Nat), Paired F l m → Paired F (l.set j a) (m.set j b)
 | _, _, _, .nil => .nil
 | _, _, 0, .cons _ t => .cons r t
 | _, _, j + 1, .cons q t => .cons q (Paired.st r j t)
section
variable {la lb : Option (List α)} {ia ib : Option Int}
theorem BK (ea : EV K ta σ G la) (eb : EV K tb σ G ib) : EV K (tOp (rAt K) ta tb) σ G (la.bind fun a => ib.bind fun i => atI a i) :=
 CA (fun s ra rb e Q k => by
  obtain ⟨l, xs, rfl, h, z, p⟩ := ra; cases rb
  obtain ⟨v, hv, r⟩ := paired_atI p e
  exact .inl ⟨xs, v, .inl (s.rd h), hv, k _ _ _ (.refl s) r⟩) ea eb
theorem B8 {pa : Option (Tp α)} (ea : EV K ta σ G pa) (eb : EV K tb σ G ib) : EV K (tOp (rAt K) ta tb) σ G (pa.bind fun a => ib.bind fun i => atI a.l i) :=
 CA (fun s ra rb e Q k => by
  obtain ⟨l, xs, rfl, h, z, p⟩ := ra; cases rb
  obtain ⟨v, hv, r⟩ := paired_atI p e
  exact .inr ⟨xs, v, s.tup h, hv, k _ _ _ (.refl s) r⟩) ea eb
theorem fv_of {H : Hp} {Q : VK} {as : List α} {G1 : Hp} (s : Same G1 H) {vs : List V} (hz : vs.length ≤ sizeLine) (hp : Paired (Rp.rel K G1) vs as)
  (k : ∀ p vs G2 H2, Ext G1 H G2 H2 → H p = none → G2 p = none → H2 p = some (.lst vs) → vs.length ≤ sizeLine → Paired (Rp.rel K G2) vs as → Q (.ref p) H2) : ∀ p, H p = none → Q (.ref p) (upd H p (.lst vs)) :=
 fun p h => k p vs G1 _ (.own s h) h (s.free h) AQ hz hp
theorem FV.mono {H H' G1 G2 : Hp} {as : List α} {Q : VK} (x : Ext G1 H G2 H')
  (k : ∀ p vs G3 H3, Ext G1 H G3 H3 → H p = none → G3 p = none → H3 p = some (.lst vs) → vs.length ≤ sizeLine → Paired (Rp.rel K G3) vs as → Q (.ref p) H3) :
  ∀ p vs G3 H3, Ext G2 H' G3 H3 → H' p = none → G3 p = none → H3 p = some (.lst vs) → vs.length ≤ sizeLine → Paired (Rp.rel K G3) vs as → Q (.ref p) H3 :=
 fun p vs G3 H3 y h0 => k p vs G3 H3 (x.trans y) (x.hh.free h0)
noncomputable def GV {α : Type} (a b : List α) : Option (List α) := if a.length + b.length ≤ sizeLine then some (a ++ b) else none
theorem fv_cat (ea : EV K ta σ G la) (eb : EV K tb σ G lb) : FV K (tOp (rPlus K) ta tb) σ G (la.bind fun a => lb.bind fun b => GV a b) := by
 intro G1 s1 c hc H sH Q k
 obtain ⟨a, ha, hc⟩ := Option.bind_eq_some_iff.mp hc
 obtain ⟨b, hb, hc⟩ := Option.bind_eq_some_iff.mp hc
 obtain ⟨hl, rfl⟩ := BN hc
 refine ea G1 s1 a ha H sH _ fun v G2 H2 x2 r2 => ?_
 refine eb G2 (s1.trans x2.gg) b hb H2 x2.gh _ fun u G3 H3 x3 r3 => ?_
 obtain ⟨l1, xs, rfl, h1, z1, p1⟩ := Rp.mono x3.gg r2
 obtain ⟨l2, ys, rfl, h2, z2, p2⟩ := r3
 have e1 := Paired.length p1
 have e2 := Paired.length p2
 have hz : (xs ++ ys).length ≤ sizeLine := by rw [List.length_append]; omega
 exact ⟨xs, ys, x3.gh.rd h1, x3.gh.rd h2, by rw [List.length_append] at hz; exact hz, fv_of x3.gh hz (Paired.app p1 p2) (FV.mono (x2.trans x3) k)⟩
noncomputable def Cf {α : Type} (xs : List α) (lo hi : Option Int) : List α := (xs.drop (HT.sIx xs.length 0 lo)).take (HT.sIx xs.length xs.length hi - HT.sIx xs.length 0 lo)
theorem Paired.cut {α : Type} {R : V → α → Prop} {xs : List V} {as : List α} (p : Paired R xs as) (lo hi : Option Int) : Paired R (GT xs lo hi) (Cf as lo hi) := by
 unfold GT Cf
 rw [Paired.length p]
 exact Paired.tk _ (Paired.dp _ p)
section
variable {t1 t2 : TO} {m1 m2 : Option (Option Int)}
theorem E3 : OV tNoPart σ G (some none) := fun G1 s1 a ha H sH Q k => by
 cases ha
 exact k _ _ (.refl sH)
theorem Cz (ea : EV K ta σ G ia) : OV (tPart ta) σ G (ia.bind fun i => some (some i)) := by
 intro G1 s1 c hc H sH Q k
 obtain ⟨a, ha, hc⟩ := Option.bind_eq_some_iff.mp hc
 cases hc
 refine ea G1 s1 a ha H sH _ fun v G2 H2 x2 r2 => ?_
 cases r2
 exact ⟨_, rfl, k _ _ x2⟩
theorem ES (ea : EV K ta σ G la) (e1 : OV t1 σ G m1) (e2 : OV t2 σ G m2) : FV K (tSl (rSl K) ta t1 t2) σ G (la.bind fun a => m1.bind fun lo => m2.bind fun hi => some (Cf a lo hi)) := by
 intro G1 s1 c hc H sH Q k
 obtain ⟨a, ha, hc⟩ := Option.bind_eq_some_iff.mp hc
 obtain ⟨lo, hlo, hc⟩ := Option.bind_eq_some_iff.mp hc
 obtain ⟨hi, hhi, hc⟩ := Option.bind_eq_some_iff.mp hc
 cases hc
 refine ea G1 s1 a ha H sH _ fun v G2 H2 x2 r2 => ?_
 refine e1 G2 (s1.trans x2.gg) lo hlo H2 x2.gh _ fun G3 H3 x3 => ?_
 refine e2 G3 (s1.trans (x2.trans x3).gg) hi hhi H3 x3.gh _ fun G4 H4 x4 => ?_
 obtain ⟨l, xs, rfl, h, z, p⟩ := Rp.mono (x3.trans x4).gg r2
 exact ⟨xs, .inl (x4.gh.rd h), fv_of x4.gh (Nat.le_trans (Dt _ _ _) z) (Paired.cut p lo hi) (FV.mono ((x2.trans x3).trans x4) k)⟩
theorem ev_sliceS {sa : Option Str} (ea : EV K ta σ G sa) (e1 : OV t1 σ G m1) (e2 : OV t2 σ G m2) : EV K (tSl (rSl K) ta t1 t2) σ G (sa.bind fun a => m1.bind fun lo => m2.bind fun hi => some (Txt.slice a lo hi)) := by
 intro G1 s1 c hc H sH Q k
 obtain ⟨a, ha, hc⟩ := Option.bind_eq_some_iff.mp hc
 obtain ⟨lo, hlo, hc⟩ := Option.bind_eq_some_iff.mp hc
 obtain ⟨hi, hhi, hc⟩ := Option.bind_eq_some_iff.mp hc
 cases hc
 refine ea G1 s1 a ha H sH _ fun v G2 H2 x2 r2 => ?_
 refine e1 G2 (s1.trans x2.gg) lo hlo H2 x2.gh _ fun G3 H3 x3 => ?_
 refine e2 G3 (s1.trans (x2.trans x3).gg) hi hhi H3 x3.gh _ fun G4 H4 x4 => ?_
 obtain ⟨rfl, z⟩ := r2
 exact ⟨z, k _ _ _ ((x2.trans x3).trans x4) ⟨rfl, Nat.le_trans (Txt.slice_le _ _ _) z⟩⟩
end
end
section
variable {t : TA} {n : Nat} {ml : Option (List α)}
theorem Aq : LV K C0 σ G 0 (some ([] : List α)) := fun G1 s1 a ha H sH Q k => by
 cases ha
 exact k _ _ _ (.refl sH) rfl .nil
theorem AB (ea : EV K ta σ G ma) (er : LV K t σ G n ml) : LV K (Ag ta t) σ G (n + 1) (ma.bind fun a => ml.bind fun r => some (a :: r)) := by
 intro G1 s1 c hc H sH Q k
 obtain ⟨a, ha, hc⟩ := Option.bind_eq_some_iff.mp hc
 obtain ⟨r, hr, hc⟩ := Option.bind_eq_some_iff.mp hc
 cases hc
 refine ea G1 s1 a ha H sH _ fun v G2 H2 x2 r2 => ?_
 refine er G2 (s1.trans x2.gg) r hr H2 x2.gh _ fun vs G3 H3 x3 hl hp => ?_
 exact k _ _ _ (x2.trans x3) (by rw [List.length_cons, hl]) (.cons (Rp.mono x3.gg r2) hp)
theorem CL (e : LV K t σ G n ml) (hn : n ≤ sizeLine := by decide) : FV K (tLst t) σ G ml := by
 intro G1 s1 c hc H sH Q k
 refine e G1 s1 c hc H sH _ fun vs G2 H2 x2 hl hp => ?_
 exact ⟨by omega, fv_of x2.gh (by omega) hp (FV.mono x2 k)⟩
theorem ev_tupL (e : LV K t σ G n ml) (hn : n ≤ sizeLine := by decide) : EV K (tTup t) σ G (ml.bind fun l => some (Tp.mk l)) := by
 intro G1 s1 c hc H sH Q k
 obtain ⟨l, hl, hc⟩ := Option.bind_eq_some_iff.mp hc
 cases hc
 refine e G1 s1 l hl H sH _ fun vs G2 H2 x2 hl hp => ⟨by omega, fun p h => ?_⟩
 exact k _ _ _ (x2.trans (.new x2.gh h)) ⟨p, vs, rfl, SqT.of AQ, by omega, Paired.imp' (fun _ _ r => Rp.mono (Same.new (x2.gh.free h)) r) hp⟩
end
section
variable {t : TA} {A B : Type} [RpA A] [RpA B] {mA : Option A}
theorem av_nil : AV K C0 σ G (some ()) := fun G1 s1 a ha H sH Q k => by
 cases ha
 exact k _ _ _ (.refl sH) rfl
theorem av_cons (ea : EV K ta σ G ma) (er : AV K t σ G mA) : AV K (Ag ta t) σ G (ma.bind fun a => mA.bind fun r => some (a, r)) := by
 intro G1 s1 c hc H sH Q k
 obtain ⟨a, ha, hc⟩ := Option.bind_eq_some_iff.mp hc
 obtain ⟨r, hr, hc⟩ := Option.bind_eq_some_iff.mp hc
 cases hc
 refine ea G1 s1 a ha H sH _ fun v G2 H2 x2 r2 => ?_
 refine er G2 (s1.trans x2.gg) r hr H2 x2.gh _ fun vs G3 H3 x3 hp => ?_
 exact k _ _ _ (x2.trans x3) ⟨v, vs, rfl, Rp.mono x3.gg r2, hp⟩
noncomputable def spM (K : PySem.W.Frag) {A : Type} {ρ : Type} [RpA A] [Rp ρ] (m : A → Option ρ) : Sp := fun vs H Q _ =>
 ∃ G a r, Same G H ∧ RpA.rel K G vs a ∧ m a = some r ∧ ∀ v G2 H2, Ext G H G2 H2 → Rp.rel K G2 v r → Q v H2
theorem BL {A : Type} {ρ : Type} [RpA A] [Rp ρ] {m : A → Option ρ} {vs : List V} {H : Hp} {Q : VK} {E : XK} (h : spM K m vs H Q E) : vs.length = RpA.n A := by
 obtain ⟨G, a, r, _, h, _⟩ := h
 exact RpA.len h
theorem ev_def {m : A → Option α} (ea : AV K t σ G mA) : EV K (Dv (spM K m) [] E0 t) σ G (mA.bind fun a => m a) := by
 intro G1 s1 c hc H sH Q k
 obtain ⟨a, ha, hc⟩ := Option.bind_eq_some_iff.mp hc
 refine ea G1 s1 a ha H sH _ fun vs G2 H2 x2 hp => ?_
 show spM K m (vs ++ []) H2 Q E0
 rw [List.append_nil]
 exact ⟨G2, a, c, x2.gh, hp, hc, fun v G3 H3 x3 r3 => k v G3 H3 (x2.trans x3) r3⟩
theorem Cg {la : Option (List α)} (ea : EV K ta σ G la) : EV K (tCB (rLen K) (Ag ta C0)) σ G (la.bind fun a => some (a.length : Int)) := by
 intro G1 s1 c hc H sH Q k
 obtain ⟨a, ha, hc⟩ := Option.bind_eq_some_iff.mp hc
 cases hc
 refine ea G1 s1 a ha H sH _ fun v G2 H2 x2 r2 => ?_
 obtain ⟨l, xs, rfl, h, z, p⟩ := r2
 exact ⟨xs, .inl (.inl (x2.gh.rd h)), by rw [Paired.length p]; exact k _ _ _ x2 rfl⟩
theorem FS {la : Option (Tp α)} (ea : EV K ta σ G la) : EV K (tCB (rLen K) (Ag ta C0)) σ G (la.bind fun a => some (a.l.length : Int)) := by
 intro G1 s1 c hc H sH Q k
 obtain ⟨a, ha, hc⟩ := Option.bind_eq_some_iff.mp hc
 cases hc
 refine ea G1 s1 a ha H sH _ fun v G2 H2 x2 r2 => ?_
 obtain ⟨l, xs, rfl, h, z, p⟩ := r2
 exact ⟨xs, .inr (x2.gh.tup h), by rw [Paired.length p]; exact k _ _ _ x2 rfl⟩
theorem ev_lenS {sa : Option Str} (ea : EV K ta σ G sa) : EV K (tCB (rLen K) (Ag ta C0)) σ G (sa.bind fun a => some (a.length : Int)) := by
 intro G1 s1 c hc H sH Q k
 obtain ⟨a, ha, hc⟩ := Option.bind_eq_some_iff.mp hc
 cases hc
 refine ea G1 s1 a ha H sH _ fun v G2 H2 x2 r2 => ?_
 obtain ⟨rfl, z⟩ := r2
 exact ⟨z, k _ _ _ x2 rfl⟩
theorem fv_list {la : Option (List α)} (ea : EV K ta σ G la) : FV K (tCB (fun xs H Q => ∃ p ys, xs = [.ref p] ∧ (SqL K H p ys ∨ SqT K H p ys) ∧ ∀ l, H l = none → Q (.ref l) (upd H l (.lst ys))) (Ag ta C0)) σ G la := by
 intro G1 s1 a ha H sH Q k
 refine ea G1 s1 a ha H sH _ fun v G2 H2 x2 r2 => ?_
 obtain ⟨l, xs, rfl, h, z, p⟩ := r2
 exact ⟨l, xs, rfl, .inl (.inl (x2.gh.rd h)), fv_of x2.gh z p (FV.mono x2 k)⟩
end
inductive TyS (K : PySem.W.Frag) (H : Hp) : V → String → Prop where
 | non : TyS K H .non "NoneType"
 | bl (x : Bool) : TyS K H (.bl x) "bool"
 | int (i : Int) : TyS K H (.int i) "int"
 | str (x : Str) : TyS K H (.str x) "str"
 | lst {a : Addr} {xs : List V} (e : SqL K H a xs) : TyS K H (.ref a) "list"
 | tup {a : Addr} {xs : List V} (e : SqT K H a xs) : TyS K H (.ref a) "tuple"
 | dK {a : Addr} {kvs : List (Key × V)} (e : Rd H a (.dK kvs)) : TyS K H (.ref a) "dict"
 | dT {a : Addr} {kvs : List (List Key × V)} (e : Rd H a (.dT kvs)) : TyS K H (.ref a) "dict"
noncomputable def rInst (K : PySem.W.Frag) : List V → Hp → VK → Prop := fun vs H Q => ∃ x t T b, vs = [x, .ty T] ∧ TyS K H x t ∧ kitC t T = some b ∧ Q (.bl b) H
theorem call_inst {X : Cx} : E2 X (.builtin "isinstance") (rInst X.K) := by
 intro pins s σ H vs us Q I r h
 obtain ⟨x, t, T, b, rfl, ty, e, q⟩ := h
 obtain ⟨u, w', rfl, rx, r2⟩ := vals2 r
 obtain rfl : w' = Value.type T := r2
 have e := kit_of (K := X.K) e
 have fin : ∀ tk, EP X pins σ Q (.bool b) { s with toks := tk } := fun tk => ⟨.bl b, H, I.tok tk, rfl, q⟩
 cases ty with
 | non => cases (show u = Value.none from rx); exact PySem.W.kia_one PySem.W.kitx_none I.kIn True.intro e (fun z => nomatch z) fin
 | bl y => cases (show u = Value.bool y from rx); exact PySem.W.kia_one PySem.W.kitx_bool I.kIn True.intro e (fun z => nomatch z) fin
 | int i => obtain ⟨t, q'⟩ := (show ∃ t, u = Value.int i t from rx); cases q'; exact PySem.W.kia_one PySem.W.kitx_int I.kIn True.intro e (fun z => nomatch z) fin
 | str y => obtain ⟨t, q'⟩ := (show ∃ t, u = Value.str y t from rx); cases q'; exact PySem.W.kia_one PySem.W.kitx_str I.kIn True.intro e (fun z => nomatch z) fin
 | @lst a xs ea =>
  cases (show u = Value.ref a from rx)
  obtain ⟨its, _, pl, _⟩ := I.list ea
  obtain ⟨o, n, h1, h2, _⟩ := pl
  exact PySem.W.kia_one PySem.W.kitx_list I.kIn ⟨o, h1, h2⟩ e (fun z => nomatch z) fin
 | @tup a xs ea =>
  cases (show u = Value.ref a from rx)
  obtain ⟨its, _, pl, _⟩ := I.tuple ea
  obtain ⟨o, h1, h2, _⟩ := pl
  exact PySem.W.kia_one PySem.W.kitx_tuple I.kIn ⟨o, h1, h2⟩ e (fun z => nomatch z) fin
 | @dK a kvs ea =>
  cases (show u = Value.ref a from rx)
  obtain ⟨_, _, vs, _, p⟩ := ea.ok I.hok
  obtain ⟨o, es, ep, h1, h2, _⟩ := p
  exact PySem.W.kia_one PySem.W.kitx_dict I.kIn ⟨o, h1, h2.1⟩ e (fun z => nomatch z) fin
 | @dT a kvs ea =>
  cases (show u = Value.ref a from rx)
  obtain ⟨_, _, xs, _, o, es, ep, h1, h2, _⟩ := ea.ok I.hok
  exact PySem.W.kia_one PySem.W.kitx_dict I.kIn ⟨o, h1, h2.1⟩ e (fun z => nomatch z) fin
class RpT (α : Type) [Rp α] where
 tn : String
 ty : ∀ {K : PySem.W.Frag} {H : Hp} {v : V} {a : α}, Rp.rel K H v a → TyS K H v tn
noncomputable instance rtInt : RpT Int := ⟨"int", fun h => by cases h; exact .int _⟩
noncomputable instance rtBool : RpT Bool := ⟨"bool", fun h => by cases h; exact .bl _⟩
noncomputable instance rtStr : RpT Str := ⟨"str", fun h => by obtain ⟨rfl, _⟩ := h; exact .str _⟩
noncomputable instance rtUnit : RpT Unit := ⟨"NoneType", fun h => by cases h; exact .non⟩
noncomputable instance rtList : RpT (List α) := ⟨"list", fun h => by obtain ⟨l, xs, rfl, h, _⟩ := h; exact .lst (.inl h)⟩
noncomputable instance rtPair : RpT (α × β) := ⟨"tuple", fun h => by obtain ⟨l, x, y, rfl, h, _⟩ := h; exact .tup h⟩
noncomputable instance rtT3 : RpT (T3 α β γ) := ⟨"tuple", fun h => by obtain ⟨l, x, y, z, rfl, h, _⟩ := h; exact .tup h⟩
noncomputable instance rtTp : RpT (Tp α) := ⟨"tuple", fun h => by obtain ⟨l, xs, rfl, h, _⟩ := h; exact .tup h⟩
theorem TyS.mono {H H' : Hp} {v : V} {t : String} (s : Same H H') (h : TyS K H v t) : TyS K H' v t := by
 cases h with
 | non => exact .non
 | bl => exact .bl _
 | int => exact .int _
 | str => exact .str _
 | lst e => exact .lst (s.seq e)
 | tup e => exact .tup (s.tup e)
 | dK e => exact .dK (s.rd e)
 | dT e => exact .dT (s.rd e)
theorem ev_inst [RpT α] {T : String} {b : Bool} (h : kitC (RpT.tn α) T = some b) (ea : EV K ta σ G ma) : EV K (tCB (rInst K) (Ag ta (Ag (tC (.ty T)) C0))) σ G (ma.bind fun _ => some b) := by
 intro G1 s1 c hc H sH Q k
 obtain ⟨a, ha, hc⟩ := Option.bind_eq_some_iff.mp hc
 cases hc
 refine ea G1 s1 a ha H sH _ fun v G2 H2 x2 r2 => ?_
 exact ⟨_, _, _, _, rfl, (RpT.ty r2).mono x2.gh, h, k _ _ _ x2 rfl⟩
theorem EqTy.imp {k : Nat} {α : Type} [DecidableEq α] {R R' : Hp → V → α → Prop} (E : EqTy K k R) (h : ∀ H v a, R' H v a → R H v a) : EqTy K k R' :=
 ⟨fun hK I a b => E.fn hK I (h _ _ _ a) (h _ _ _ b), fun A hK I hu r1 r2 a b => E.eq A hK I hu r1 r2 (h _ _ _ a) (h _ _ _ b), fun A hK I hu r1 r2 a b => E.rc A hK I hu r1 r2 (h _ _ _ a) (h _ _ _ b)⟩
class RpE (α : Type) [Rp α] [DecidableEq α] where
 k : Nat
 ty : ∀ K : PySem.W.Frag, EqTy K k (Rp.rel (α := α) K)
noncomputable instance reInt : RpE Int := ⟨0, fun _ => eqInt⟩
noncomputable instance reBool : RpE Bool := ⟨0, fun _ => eqBl⟩
noncomputable instance reStr : RpE Str := ⟨0, fun _ => eqStr.imp fun _ _ _ h => h.1⟩
noncomputable instance reList {α : Type} [Rp α] [DecidableEq α] [RpE α] : RpE (List α) := ⟨RpE.k α + 1, fun K => (eqLst (RpE.ty K)).imp fun _ _ _ ⟨l, xs, e, h, _, p⟩ => ⟨l, xs, e, .inl h, p⟩⟩
theorem EqTy.up {k j : Nat} {α : Type} [DecidableEq α] {R : Hp → V → α → Prop} (E : EqTy K k R) (h : k ≤ j) : EqTy K j R :=
 ⟨fun hK I a b => E.fn hK I a b, fun A hK I hu r1 r2 a b => E.eq A hK I (by omega) r1 r2 a b, fun A hK I hu r1 r2 a b => E.rc A hK I (by omega) r1 r2 a b⟩
section
variable {α : Type} [Rp α] [DecidableEq α] {m1 m2 : Option α}
noncomputable def rNeD (K : PySem.W.Frag) (α : Type) [Rp α] [DecidableEq α] : R2 := fun x y H Q => ∃ a b : α, Rp.rel K H x a ∧ Rp.rel K H y b ∧ Q (.bl (!decide (a = b))) H
theorem op_neM {X : Cx} {j : Nat} (α : Type) [Rp α] [DecidableEq α] [RpE α] (hr : Room j X.A) (hk : RpE.k α ≤ 10) : OpR X (compareOp .NotEq) (rNeD X.K α) := op_neD (RpE.ty X.K) hr hk
theorem ev_ne (ea : EV K ta σ G m1) (eb : EV K tb σ G m2) : EV K (tOp (rNeD K α) ta tb) σ G (m1.bind fun a => m2.bind fun b => some (!decide (a = b))) :=
 CA (fun s ra rb e Q k => by cases e; exact ⟨_, _, Rp.mono s ra, Rp.mono s rb, k _ _ _ (.refl s) rfl⟩) ea eb
end
end
inductive Fl (S ρ : Type) where
 | nx (s : S)
 | bk (s : S)
 | rt (r : ρ)
noncomputable def EA {α S ρ : Type} (f : α → S → Option (Fl S ρ)) : List α → S → Option (Fl S ρ)
 | [], s => some (.nx s)
 | a :: as, s => (f a s).bind fun fl => match fl with
  | .nx s' => EA f as s'
  | .bk s' => some (.nx s')
  | .rt r => some (.rt r)
noncomputable def FN {S ρ : Type} (c : S → Option Bool) (f : S → Option (Fl S ρ)) : Nat → S → Option (Fl S ρ)
 | 0, _ => none
 | n + 1, s => (c s).bind fun b => cond b ((f s).bind fun fl => match fl with
  | .nx s' => FN c f n s'
  | .bk s' => some (.nx s')
  | .rt r => some (.rt r)) (some (.nx s))
noncomputable def fuelW : Nat := 16777216
noncomputable def Cd {α β : Type} (fc : α → Option Bool) (fe : α → Option β) : List α → Option (List β)
 | [] => some []
 | a :: r => (fc a).bind fun b => cond b ((fe a).bind fun y => (Cd fc fe r).bind fun ys => some (y :: ys)) (Cd fc fe r)
noncomputable def EJ {α β : Type} (fe : α → Option β) : List α → Option (List β)
 | [] => some []
 | a :: r => (fe a).bind fun y => (EJ fe r).bind fun ys => some (y :: ys)
theorem compO_true {α β : Type} (fe : α → Option β) : ∀ as, Cd (fun _ => some true) fe as = EJ fe as
 | [] => rfl
 | a :: r => by
  show ((fe a).bind fun y => (Cd (fun _ => some true) fe r).bind fun ys => some (y :: ys)) = _
  rw [compO_true fe r]
  rfl
noncomputable def Ec (lo hi : Int) : Option (List Int) := if (-(2 ^ 62) ≤ lo ∧ lo < 2 ^ 62 ∧ -(2 ^ 62) ≤ hi ∧ hi < 2 ^ 62) ∧ (hi - lo).toNat ≤ sizeLine then some ((List.range (hi - lo).toNat).map fun (i : Nat) => lo + (i : Int)) else none
section
variable {K : PySem.W.Frag} {σ : St} {G : Hp} {α β γ δ : Type} [Rp α] [Rp β] [Rp γ] [Rp δ] {ta tb tc td : TE} {ma : Option α} {mb : Option β} {mc : Option γ} {md : Option δ}
noncomputable def IW (K : PySem.W.Frag) {α : Type} [Rp α] (wi : TI) (σ : St) (G : Hp) (m : Option (List α)) : Prop :=
 ∀ G1, Same G G1 → ∀ a, m = some a → ∀ H, Same G1 H → ∀ R : It → Hp → Prop, (∀ J vs G2 H2, Ext G1 H G2 H2 → Yields J G2 vs → vs.length ≤ sizeLine → Paired (Rp.rel K G2) vs a → R J H2) → wi σ H R
theorem yields_tup {a : Addr} {xs : List V} {H : Hp} (h : SqT K H a xs) : Yields (Itt K a) H xs where
 go := fun i H' s hi => ⟨xs, xs[i], s.tup h, by simp [hi]⟩
 stop := fun H' s => ⟨xs, s.tup h, Nat.le_refl _⟩
 yld := fun i H' v H'' s _ y => ⟨y.1, y.2 xs (s.tup h)⟩
theorem Dn {la : Option (List α)} (ea : EV K ta σ G la) : IW K (GU K ta) σ G la := by
 intro G1 s1 a ha H sH R k
 refine ea G1 s1 a ha H sH _ fun v G2 H2 x2 r2 => ?_
 obtain ⟨l, xs, rfl, h, z, p⟩ := r2
 exact .inl ⟨⟨xs, .inl (x2.gh.rd h)⟩, k _ xs G2 H2 x2 (yields_list (.inl h)) z p⟩
theorem iw_tup {la : Option (Tp α)} (ea : EV K ta σ G la) : IW K (GU K ta) σ G (la.bind fun a => some a.l) := by
 intro G1 s1 a ha H sH R k
 obtain ⟨b, hb, ha⟩ := Option.bind_eq_some_iff.mp ha
 cases ha
 refine ea G1 s1 b hb H sH _ fun v G2 H2 x2 r2 => ?_
 obtain ⟨l, xs, rfl, h, z, p⟩ := r2
 exact .inr ⟨⟨xs, x2.gh.tup h⟩, k _ xs G2 H2 x2 (yields_tup h) z p⟩
noncomputable def Dg (x : Str) : List Str := x.cps.toList.map fun c => (⟨#[c]⟩ : Str)
theorem paired_signs (x : Str) (H : Hp) : Paired (Rp.rel K H) (DG x) (Dg x) := by
 unfold DG Dg
 induction x.cps.toList with
 | nil => exact .nil
 | cons c r ih => exact .cons ⟨rfl, by show 1 ≤ sizeLine; decide⟩ ih
theorem iw_str {sa : Option Str} (ea : EV K ta σ G sa) : IW K (GU K ta) σ G (sa.bind fun a => some (Dg a)) := by
 intro G1 s1 a ha H sH R k
 obtain ⟨b, hb, ha⟩ := Option.bind_eq_some_iff.mp ha
 cases ha
 refine ea G1 s1 b hb H sH _ fun v G2 H2 x2 r2 => ?_
 obtain ⟨rfl, z⟩ := r2
 exact k _ (DG b) G2 H2 x2 (yields_str b G2) (by unfold DG; rw [List.length_map]; exact z) (paired_signs b G2)
theorem FE (H : Hp) (f : Nat → Int) : ∀ l : List Nat, Paired (Rp.rel K H) (l.map fun i => V.int (f i)) (l.map fun i => f i)
 | [] => .nil
 | a :: r => .cons rfl (FE H f r)
theorem Cy {ia : Option Int} (ea : EV K ta σ G ia) : IW K (iRng1 (Ag ta C0)) σ G (ia.bind fun j => Ec 0 j) := by
 intro G1 s1 a ha H sH R k
 obtain ⟨j, hj, ha⟩ := Option.bind_eq_some_iff.mp ha
 obtain ⟨⟨hb, hz⟩, rfl⟩ := BN ha
 refine ea G1 s1 j hj H sH _ fun v G2 H2 x2 r2 => ?_
 cases r2
 refine ⟨j, rfl, hb.2.2.1, hb.2.2.2, ?_⟩
 have e : (j - 0).toNat = j.toNat := by omega
 rw [e] at hz k
 exact k (Itr 0 j.toNat) _ G2 H2 x2 (yields_range 0 j.toNat G2) (by rw [List.length_map, List.length_range]; exact hz) (FE G2 (fun i => (0 : Int) + (i : Int)) _)
theorem tv_yes : TV tYes σ G (some true) := fun G1 s1 a ha H sH Q k => by
 cases ha
 exact k _ _ (.refl sH)
theorem Paired.getR {F : V → α → Prop} : ∀ {xs : List V} {as : List α} {i : Nat} {v : V}, Paired F xs as → xs[i]? = some v → ∃ a, as[i]? = some a ∧ F v a
 | _, _, _, _, .nil, e => by simp at e
 | _, _, 0, _, .cons r _, e => by simp at e; subst e; exact ⟨_, rfl, r⟩
 | _, _, i + 1, _, .cons _ t, e => Paired.getR (i := i) t (by simpa using e)
theorem Ft {cap : List Nat} {wi : TI} {tt : TT} {te : TE} {mi : Option (List α)} {fc : α → Option Bool} {fe : α → Option β} (ei : IW K wi σ G mi)
  (hb : ∀ (x : V) (a : α) (G1 : Hp), Same G G1 → Rp.rel K G1 x a → TV tt ((inner cap σ).set 0 (some x)) G1 (fc a) ∧ EV K te ((inner cap σ).set 0 (some x)) G1 (fe a)) :
  FV K (tComp cap wi tt te) σ G (mi.bind fun as => Cd fc fe as) := by
 intro G1 s1 c hc H sH Q k
 obtain ⟨as, has, hc⟩ := Option.bind_eq_some_iff.mp hc
 refine ei G1 s1 as has H sH _ fun J vs Ga Ha xa Y hz pr p hp => ?_
 have hla := Paired.length pr
 refine ⟨fun i m ys H2 => m = vs.length - i ∧ i ≤ vs.length ∧ ∃ G2 bs cs, Ext Ga Ha G2 H2 ∧ G2 p = none ∧ H2 p = some (.lst ys) ∧ ys.length ≤ i ∧ Paired (Rp.rel K G2) ys bs ∧ Cd fc fe (as.drop i) = some cs ∧ c = bs ++ cs,
  ⟨vs.length, by simp, Nat.zero_le _, Ga, [], c, .own xa.gh hp, xa.gh.free hp, AQ, Nat.le_refl _, .nil, hc, rfl⟩, ?_⟩
 rintro i m ys H2 ⟨rfl, hi, G2, bs, cs, x2, hg, hh, hy, hpr, hcs, rfl⟩
 by_cases hlt : i < vs.length
 ·refine .inr ⟨Y.go i _ (x2.gg.trans x2.gh) hlt, fun ys' H' => ∃ G2 bs' cs', Ext Ga Ha G2 H' ∧ G2 p = none ∧ H' p = some (.lst ys') ∧ ys'.length ≤ i + 1 ∧ Paired (Rp.rel K G2) ys' bs' ∧ Cd fc fe (as.drop (i + 1)) = some cs' ∧ bs ++ cs = bs' ++ cs',
   fun ys' H' ⟨G3, bs', cs', h⟩ => ⟨vs.length - (i + 1), by omega, rfl, hlt, G3, bs', cs', h⟩, fun x H3 y => ?_⟩
  obtain ⟨rfl, hx⟩ := Y.yld i _ x H3 (x2.gg.trans x2.gh) hlt y
  obtain ⟨a, hai, ra⟩ := Paired.getR pr hx
  have hd : as.drop i = a :: as.drop (i + 1) := by
   obtain ⟨h1, h2⟩ := List.getElem?_eq_some_iff.mp hai
   rw [List.drop_eq_getElem_cons h1, h2]
  rw [hd] at hcs
  obtain ⟨b, hbb, hcs⟩ := Option.bind_eq_some_iff.mp hcs
  have B := hb x a G2 (s1.trans (xa.gg.trans x2.gg)) (Rp.mono x2.gg ra)
  refine B.1 G2 (.refl _) b hbb _ x2.gh _ fun G5 H5 x5 => ?_
  have hp5 : H5 p = some (.lst ys) := x5.hh _ _ hh
  have hg5 : G5 p = none := x5.no p hg (by rw [hh]; exact fun z => nomatch z)
  cases b with
  | false =>
   rw [if_neg Bool.false_ne_true]
   exact ⟨G5, bs, cs, x2.trans x5, hg5, hp5, by omega, Paired.imp' (fun _ _ r => Rp.mono x5.gg r) hpr, hcs, rfl⟩
  | true =>
   rw [if_pos rfl]
   obtain ⟨z, hze, hcs⟩ := Option.bind_eq_some_iff.mp hcs
   obtain ⟨cs', hcs', hcs⟩ := Option.bind_eq_some_iff.mp hcs
   cases hcs
   refine B.2 G5 x5.gg z hze H5 x5.gh _ fun v G6 H6 x6 r6 => ?_
   have hp6 : H6 p = some (.lst ys) := x6.hh _ _ hp5
   have hg6 : G6 p = none := x6.no p hg5 (by rw [hp5]; exact fun z => nomatch z)
   refine ⟨hp6, by omega, G6, bs ++ [z], cs', ((x2.trans x5).trans x6).put hp hg6, hg6, AQ, ?_, Paired.app (Paired.imp' (fun _ _ r => Rp.mono (x5.trans x6).gg r) hpr) (.cons r6 .nil), hcs', by simp⟩
   rw [List.length_append, List.length_singleton]
   omega
 ·have e : i = vs.length := by omega
  subst e
  have hd : as.drop vs.length = [] := List.drop_eq_nil_of_le (by omega)
  rw [hd] at hcs
  cases hcs
  refine .inl ⟨Y.stop _ (x2.gg.trans x2.gh), ?_⟩
  rw [List.append_nil] at k
  exact k p ys G2 H2 (xa.trans x2) (xa.hh.free hp) hg hh (by omega) hpr
theorem ER {cap : List Nat} {wi : TI} {te : TE} {mi : Option (List α)} {fe : α → Option β} (ei : IW K wi σ G mi)
  (hb : ∀ (x : V) (a : α) (G1 : Hp), Same G G1 → Rp.rel K G1 x a → EV K te ((inner cap σ).set 0 (some x)) G1 (fe a)) :
  FV K (tComp cap wi tYes te) σ G (mi.bind fun as => EJ fe as) := by
 have h := Ft (tt := tYes) (fc := fun _ => some true) ei fun x a G1 s r => ⟨tv_yes, hb x a G1 s r⟩
 have e : (fun as => Cd (fun _ => some true) fe as) = fun as => EJ fe as := funext (compO_true fe)
 rw [e] at h
 exact h
noncomputable def GL (z : Str) (ys : List Str) : Option Str := if (ys.map (·.length)).sum + ys.length * z.length ≤ 16777216 then some (Txt.join z ys) else none
theorem paired_strs {H : Hp} : ∀ {xs : List V} {ys : List Str}, Paired (Rp.rel K H) xs ys → xs = ys.map V.str
 | _, _, .nil => rfl
 | _, _, .cons r t => by
  obtain ⟨rfl, _⟩ := r
  rw [paired_strs t]
  rfl
theorem join_le (z : Str) : ∀ (ps : List Str) (acc : Array Nat), (ps.foldl (fun acc p => acc ++ z.cps ++ p.cps) acc).size = acc.size + (ps.map (·.length)).sum + ps.length * z.length
 | [], acc => by simp
 | p :: ps, acc => by
  rw [List.foldl_cons, join_le z ps]
  simp only [Array.size_append, List.map_cons, List.sum_cons, List.length_cons, Nat.succ_mul]
  have : p.cps.size = p.length := rfl
  have : z.cps.size = z.length := rfl
  omega
theorem join_len (z : Str) (ys : List Str) : (Txt.join z ys).length ≤ (ys.map (·.length)).sum + ys.length * z.length := by
 show ((ys.drop 1).foldl (fun acc p => acc ++ z.cps ++ p.cps) (ys.headD Str.empty).cps).size ≤ _
 rw [join_le]
 cases ys with
 | nil => simp; rfl
 | cons a r =>
  simp only [List.headD_cons, List.drop_succ_cons, List.drop_zero, List.map_cons, List.sum_cons, List.length_cons, Nat.succ_mul]
  have : a.cps.size = a.length := rfl
  omega
theorem Fq {sa : Option Str} {lb : Option (List Str)} (ea : EV K ta σ G sa) (eb : EV K tb σ G lb) : EV K (tBM K "str" (rJoin K) ta (Ag tb C0)) σ G (sa.bind fun z => lb.bind fun ys => GL z ys) := by
 intro G1 s1 c hc H sH Q k
 obtain ⟨a, ha, hc⟩ := Option.bind_eq_some_iff.mp hc
 obtain ⟨b, hb, hc⟩ := Option.bind_eq_some_iff.mp hc
 obtain ⟨hz, rfl⟩ := BN hc
 refine ea G1 s1 a ha H sH _ fun v G2 H2 x2 r2 => ?_
 obtain ⟨rfl, za⟩ := r2
 refine ⟨rfl, ?_⟩
 refine eb G2 (s1.trans x2.gg) b hb H2 x2.gh _ fun u G3 H3 x3 r3 => ?_
 obtain ⟨l, xs, rfl, h, z, p⟩ := r3
 obtain rfl := paired_strs p
 exact ⟨a, l, b, rfl, rfl, .inl (x3.gh.rd h), hz, k _ _ _ (x2.trans x3) ⟨rfl, Nat.le_trans (join_len _ _) (by rw [sizeLine_eq]; exact hz)⟩⟩
noncomputable def repL {α : Type} (a : List α) (k : Int) : Option (List α) := if (-(2 ^ 63) ≤ k ∧ k < 2 ^ 63) ∧ a.length * k.toNat ≤ sizeLine then some (List.replicate k.toNat a).flatten else none
theorem ev_isN {mo : Option (Option α)} (hn : ∀ {G : Hp} {v : V} {a : α}, Rp.rel K G v a → v ≠ .non) (ea : EV K ta σ G mo) :
  EV K (tOp (fun x y H Q => y = .non ∧ Q (.bl (decide (x = .non))) H) ta (tC .non)) σ G (mo.bind fun o => some o.isNone) := by
 intro G1 s1 c hc H sH Q k
 obtain ⟨a, ha, hc⟩ := Option.bind_eq_some_iff.mp hc
 cases hc
 refine ea G1 s1 a ha H sH _ fun v G2 H2 x2 r2 => ⟨rfl, ?_⟩
 refine k _ _ _ x2 ?_
 show V.bl _ = V.bl _
 congr 1
 cases a with
 | none => exact decide_eq_true r2
 | some a => exact decide_eq_false (hn r2)
theorem nn_list {G : Hp} {v : V} {a : List α} (h : Rp.rel K G v a) : v ≠ .non := by obtain ⟨_, _, rfl, _⟩ := h; exact fun z => nomatch z
end
section
variable {K : PySem.W.Frag} {σ : St} {G H : Hp} {α β : Type} [Rp α] [Rp β] {te : TE} {tt : TT} {t u rest : TS} {D : Ends} {i : Nat} {a : α} {m : Option α}
theorem Bd (e : EV K te σ G m) (hm : m = some a) (s : Same G H) (k : ∀ v G2 H2, Ext G H G2 H2 → Rp.rel K G2 v a → rest D (σ.set i (some v)) H2) : CK (FJ te (D2 i)) rest D σ H := e.run hm s k
theorem Am (e : EV K te σ G m) (hm : m = some a) (s : Same G H) (k : ∀ v G2 H2, Ext G H G2 H2 → Rp.rel K G2 v a → D.rt v H2) : CK (tRet te) rest D σ H := e.run hm s k
theorem B9 {b : Bool} {m : Option Bool} (e : TV tt σ G m) (hm : m = some b) (s : Same G H) (k : ∀ G2 H2, Ext G H G2 H2 → if b = true then t { D with nx := rest D } σ H2 else u { D with nx := rest D } σ H2) :
  CK (tIfS tt t u) rest D σ H := e.run hm s k
theorem sv_join (Pv : St → Hp → Prop) (h : ∀ nx : St → Hp → Prop, (∀ σ' H', Pv σ' H' → nx σ' H') → CK t C9 { D with nx := nx } σ H) (key : ∀ σ' H', Pv σ' H' → rest D σ' H') : CK t rest D σ H := h (rest D) key
structure LoopOb (K : PySem.W.Frag) {α S ρ : Type} [Rp α] (RR : ρ → V → Hp → Hp → Prop) (f : α → S → Option (Fl S ρ)) (g : TG) (tb : TS) (D : Ends) (σ : St) (G2 H2 : Hp) (as : List α) (s0 : S) (res : Fl S ρ) (RS : S → St → Hp → Hp → Prop) : Prop where
 start : RS s0 σ G2 H2
 keep : ∀ s σ' G' H', RS s σ' G' H' → Same G2 G' ∧ Same G' H'
 step : ∀ (x : V) (a : α) (s : S) (σ1 : St) (G1 H1 : Hp) (fl : Fl S ρ), a ∈ as → RS s σ1 G1 H1 → Rp.rel K G1 x a → f a s = some fl → ∀ D' : Ends, (∀ s' σ' G' H', fl = .nx s' → RS s' σ' G' H' → D'.nx σ' H') → (∀ s' σ' G' H', fl = .nx s' → RS s' σ' G' H' → D'.ct σ' H') →
  (∀ s' σ' G' H', fl = .bk s' → RS s' σ' G' H' → D'.bk σ' H') → (∀ r v G' H', fl = .rt r → RR r v G' H' → D'.rt v H') → g x σ1 H1 fun σ2 H2 => tb D' σ2 H2
 nxt : ∀ s σ' G' H', res = .nx s → RS s σ' G' H' → D.nx σ' H'
 rtn : ∀ r v G' H', res = .rt r → RR r v G' H' → D.rt v H'
theorem Ef {S ρ : Type} {RR : ρ → V → Hp → Hp → Prop} {f : α → S → Option (Fl S ρ)} {wi : TI} {g : TG} {tb : TS} {mi : Option (List α)} {as : List α} {s0 : S} {res : Fl S ρ} (ei : IW K wi σ G mi) (hm : mi = some as) (hf : EA f as s0 = some res) (sg : Same G H)
  (k : ∀ G2 H2, Ext G H G2 H2 → ∃ RS, LoopOb K RR f g tb { D with nx := rest D } σ G2 H2 as s0 res RS) : CK (tFor wi g tb) rest D σ H := by
 refine ei G (.refl G) as hm H sg _ fun J vs G2 H2 x2 Y hz pr => ?_
 obtain ⟨RS, L⟩ := k G2 H2 x2
 have hla := Paired.length pr
 refine ⟨fun i m σ' H' => m = vs.length - i ∧ i ≤ vs.length ∧ ∃ s G', RS s σ' G' H' ∧ EA f (as.drop i) s = some res, ⟨vs.length, by simp, Nat.zero_le _, s0, G2, L.start, hf⟩, ?_⟩
 rintro i m σ' H' ⟨rfl, hi, s, G', rs, hfo⟩
 obtain ⟨k1, k2⟩ := L.keep _ _ _ _ rs
 by_cases hlt : i < vs.length
 ·refine .inr ⟨Y.go i _ (k1.trans k2) hlt, fun σ'' H'' => ∃ s' G'', RS s' σ'' G'' H'' ∧ EA f (as.drop (i + 1)) s' = some res, fun σ'' H'' ⟨s', G'', h⟩ => ⟨vs.length - (i + 1), by omega, rfl, hlt, s', G'', h⟩, fun x H3 y => ?_⟩
  obtain ⟨rfl, hx⟩ := Y.yld i _ x H3 (k1.trans k2) hlt y
  obtain ⟨a, hai, ra⟩ := Paired.getR pr hx
  have hd : as.drop i = a :: as.drop (i + 1) := by
   obtain ⟨h1, h2⟩ := List.getElem?_eq_some_iff.mp hai
   rw [List.drop_eq_getElem_cons h1, h2]
  rw [hd] at hfo
  obtain ⟨fl, hfl, hfo⟩ := Option.bind_eq_some_iff.mp hfo
  refine L.step x a s σ' G' _ fl (List.mem_of_getElem? hai) rs (Rp.mono k1 ra) hfl _ ?_ ?_ ?_ ?_
  ·intro s' σ'' G'' H'' e r
   subst e
   exact ⟨s', G'', r, hfo⟩
  ·intro s' σ'' G'' H'' e r
   subst e
   exact ⟨s', G'', r, hfo⟩
  ·intro s' σ'' G'' H'' e r
   subst e
   exact L.nxt s' σ'' G'' H'' (Option.some.inj hfo).symm r
  ·intro r v G'' H'' e rl
   subst e
   exact L.rtn r v G'' H'' (Option.some.inj hfo).symm rl
 ·have e : i = vs.length := by omega
  subst e
  have hd : as.drop vs.length = [] := List.drop_eq_nil_of_le (by omega)
  rw [hd] at hfo
  exact .inl ⟨Y.stop _ (k1.trans k2), L.nxt s σ' G' H' (Option.some.inj hfo).symm rs⟩
structure WhileOb (K : PySem.W.Frag) {S ρ : Type} (RR : ρ → V → Hp → Hp → Prop) (c : S → Option Bool) (f : S → Option (Fl S ρ)) (tt : TT) (tb : TS) (D : Ends) (σ : St) (G2 H2 : Hp) (s0 : S) (res : Fl S ρ) (RS : S → St → Hp → Hp → Prop) : Prop where
 start : RS s0 σ G2 H2
 keep : ∀ s σ' G' H', RS s σ' G' H' → Same G' H'
 test : ∀ s σ' G' H' b, RS s σ' G' H' → c s = some b → ∀ Q : Bool → Hp → Prop, (∀ G'' H'', RS s σ' G'' H'' → Q b H'') → tt σ' H' Q
 step : ∀ (s : S) (σ1 : St) (G1 H1 : Hp) (fl : Fl S ρ), RS s σ1 G1 H1 → f s = some fl → c s = some true → ∀ D' : Ends, (∀ s' σ' G' H', fl = .nx s' → RS s' σ' G' H' → D'.nx σ' H') → (∀ s' σ' G' H', fl = .nx s' → RS s' σ' G' H' → D'.ct σ' H') →
  (∀ s' σ' G' H', fl = .bk s' → RS s' σ' G' H' → D'.bk σ' H') → (∀ r v G' H', fl = .rt r → RR r v G' H' → D'.rt v H') → tb D' σ1 H1
 nxt : ∀ s σ' G' H', res = .nx s → RS s σ' G' H' → D.nx σ' H'
 rtn : ∀ r v G' H', res = .rt r → RR r v G' H' → D.rt v H'
theorem sv_while {S ρ : Type} {RR : ρ → V → Hp → Hp → Prop} {c : S → Option Bool} {f : S → Option (Fl S ρ)} {tb : TS} {n : Nat} {s0 : S} {res : Fl S ρ} (hf : FN c f n s0 = some res) (RS : S → St → Hp → Hp → Prop)
  (L : WhileOb K RR c f tt tb { D with nx := rest D } σ G H s0 res RS) : CK (tWhile tt tb) rest D σ H := by
 refine ⟨fun m σ' H' => ∃ s G', RS s σ' G' H' ∧ FN c f m s = some res, ⟨n, s0, G, L.start, hf⟩, ?_⟩
 rintro m σ' H' ⟨s, G', rs, hw⟩
 cases m with
 | zero => cases hw
 | succ m =>
  obtain ⟨b, hb, hw⟩ := Option.bind_eq_some_iff.mp hw
  refine L.test s σ' G' H' b rs hb _ fun G'' H'' rs' => ?_
  cases b with
  | false => exact BQ (L.nxt s σ' G'' H'' (Option.some.inj hw).symm rs')
  | true =>
   obtain ⟨fl, hfl, hw⟩ := Option.bind_eq_some_iff.mp hw
   refine BR ⟨fun σ2 H2 => ∃ s' G2, RS s' σ2 G2 H2 ∧ FN c f m s' = some res, fun σ2 H2 h => ⟨m, Nat.lt_succ_self m, h⟩, ?_⟩
   refine L.step s σ' G'' H'' fl rs' hfl hb _ ?_ ?_ ?_ ?_
   ·intro s' σ2 G2 H2 e r
    subst e
    exact ⟨s', G2, r, hw⟩
   ·intro s' σ2 G2 H2 e r
    subst e
    exact ⟨s', G2, r, hw⟩
   ·intro s' σ2 G2 H2 e r
    subst e
    exact L.nxt s' σ2 G2 H2 (Option.some.inj hw).symm r
   ·intro r v G2 H2 e rl
    subst e
    exact L.rtn r v G2 H2 (Option.some.inj hw).symm rl
end
structure Own (K : PySem.W.Frag) {α : Type} [Rp α] (G H : Hp) (v : V) (p : Addr) (vs : List V) (as : List α) : Prop where
 v : v = .ref p
 g : G p = none
 h : H p = some (.lst vs)
 z : vs.length ≤ sizeLine
 p : Paired (Rp.rel K G) vs as
section
variable {K : PySem.W.Frag} {σ : St} {G H G1 H1 G0 H0 : Hp} {α β : Type} [Rp α] [Rp β] {te ti : TE} {tt : TT} {t u rest : TS} {D : Ends} {i : Nat} {a : α} {m : Option α} {as : List α} {v : V} {p q : Addr} {vs : List V}
theorem Own.ext (o : Own K G H v p vs as) (x : Ext G H G1 H1) : Own K G1 H1 v p vs as :=
 ⟨o.v, x.no p o.g (by rw [o.h]; exact fun z => nomatch z), x.hh _ _ o.h, o.z, Paired.imp' (fun _ _ r => Rp.mono x.gg r) o.p⟩
theorem Own.put {ho : HO} (o : Own K G H v p vs as) (h : p ≠ q) : Own K G (upd H q ho) v p vs as := ⟨o.v, o.g, by rw [Ao h]; exact o.h, o.z, o.p⟩
theorem Own.tell (o : Own K G H v p vs as) : Rp.rel K (upd G p (.lst vs)) v as := ⟨p, vs, o.v, .inl AQ, o.z, Paired.imp' (fun _ _ r => Rp.mono (Same.new o.g) r) o.p⟩
theorem Own.same (o : Own K G H v p vs as) (s : Same G H) : Same (upd G p (.lst vs)) H := fun b x e => by
 by_cases hb : b = p
 ·subst hb
  rw [AQ] at e
  rw [o.h]
  exact e
 ·rw [Ao hb] at e
  exact s b x e
theorem Fp {m : Option (List α)} {as : List α} (e : FV K te σ G m) (hm : m = some as) (s : Same G H) (k : ∀ p vs G2 H2, Ext G H G2 H2 → H p = none → Own K G2 H2 (.ref p) p vs as → rest D (σ.set i (some (.ref p))) H2) : CK (FJ te (D2 i)) rest D σ H :=
 e G (.refl G) as hm H s _ fun p vs G2 H2 x h0 hg hh hz hp => k p vs G2 H2 x h0 ⟨rfl, hg, hh, hz, hp⟩
noncomputable def Ej {α : Type} (as : List α) (a : α) : Option (List α) := if as.length < sizeLine then some (as ++ [a]) else none
theorem Eh {as' : List α} (hσ : σ[i]? = some (some v)) (o : Own K G H v p vs as) (e : EV K te σ G m) (hm : m = some a) (hp : Ej as a = some as') (s : Same G H)
  (k : ∀ G2 H2 w, Ext G H G2 H2 → Own K G2 (upd H2 p (.lst (vs ++ [w]))) v p (vs ++ [w]) as' → rest D σ (upd H2 p (.lst (vs ++ [w])))) : CK (tDrop (tBM K "list" Fv (Bc i) (Ag te C0))) rest D σ H := by
 obtain ⟨hl, rfl⟩ := BN hp
 have hlen := Paired.length o.p
 obtain ⟨rfl, og, oh, oz, op⟩ := o
 refine ⟨_, hσ, .inl ⟨rfl, _, SqL.of oh⟩, ?_⟩
 refine e.run hm s fun w G2 H2 x r => ?_
 refine ⟨p, vs, w, rfl, rfl, x.hh _ _ oh, by omega, ?_⟩
 refine k G2 H2 w x ⟨rfl, x.no p og (by rw [oh]; exact fun z => nomatch z), AQ, ?_, Paired.app (Paired.imp' (fun _ _ r => Rp.mono x.gg r) op) (.cons r .nil)⟩
 rw [List.length_append, List.length_singleton]
 omega
structure TupK (H H' : Hp) : Prop where
 rd : ∀ b xs, Rd H b (.tup xs) → Rd H' b (.tup xs)
 eq : ∀ b xs, H b = some (.tup xs) → H' b = some (.tup xs)
class Imm (α : Type) [Rp α] : Prop where
 im : ∀ {K : PySem.W.Frag} {H H' : Hp} {v : V} {a : α}, TupK H H' → Rp.rel K H v a → Rp.rel K H' v a
noncomputable instance imInt : Imm Int := ⟨fun _ h => h⟩
noncomputable instance imBool : Imm Bool := ⟨fun _ h => h⟩
noncomputable instance imStr : Imm Str := ⟨fun _ h => h⟩
noncomputable instance imUnit : Imm Unit := ⟨fun _ h => h⟩
theorem SqT.im {H H' : Hp} {t : Addr} {xs : List V} (f : TupK H H') (h : SqT K H t xs) : SqT K H' t xs := by
 rcases h with h | h
 ·exact .inl (f.rd _ _ h)
 ·exact .inr h
noncomputable instance imPair {α β : Type} [Rp α] [Rp β] [Imm α] [Imm β] : Imm (α × β) := ⟨fun f ⟨t, a, b, e, h, r1, r2⟩ => ⟨t, a, b, e, h.im f, Imm.im f r1, Imm.im f r2⟩⟩
noncomputable instance imTp {α : Type} [Rp α] [Imm α] : Imm (Tp α) := ⟨fun f ⟨t, xs, e, h, z, p⟩ => ⟨t, xs, e, h.im f, z, Paired.imp' (fun _ _ r => Imm.im f r) p⟩⟩
noncomputable instance imOpt {α : Type} [Rp α] [Imm α] : Imm (Option α) := ⟨fun {K H H' v a} f h => by cases a with | none => exact h | some a => exact Imm.im (α := α) f h⟩
noncomputable def del (G : Hp) (p : Addr) : Hp := fun b => if b = p then none else G b
theorem GA {G : Hp} {p b : Addr} (h : b ≠ p) : del G p b = G b := by unfold del; rw [if_neg h]
theorem del_same {G : Hp} {p : Addr} : del G p p = none := by unfold del; rw [if_pos rfl]
theorem Ext.del {ho : HO} {G2 H2 : Hp} (hg : G p = none) (x : Ext (upd G p ho) H G2 H2) : Ext G H (L2.del G2 p) H2 :=
 ⟨fun b o e => by
  have hb : b ≠ p := CP e hg
  rw [GA hb]
  exact x.gg b o (by rw [Ao hb]; exact e), fun b o e => by
  by_cases hb : b = p
  ·subst hb
   rw [del_same] at e
   cases e
  ·rw [GA hb] at e
   exact x.gh b o e, x.hh, fun b h1 h2 => by
  by_cases hb : b = p
  ·subst hb
   exact del_same
  ·rw [GA hb]
   exact x.no b (by rw [Ao hb]; exact h1) h2⟩
theorem Imm.del {β : Type} [Rp β] [Imm β] {G2 : Hp} {w : V} {c : β} {ys : List V} (h : G2 p = some (.lst ys)) (r : Rp.rel K G2 w c) : Rp.rel K (L2.del G2 p) w c :=
 Imm.im ⟨fun b xs e => by
  have hb : b ≠ p := fun z => by
   subst z
   rcases e with e | ⟨o, e⟩ <;> (rw [h] at e; cases e)
  rcases e with e | ⟨o, e⟩
  ·exact .inl (by rw [GA hb]; exact e)
  ·exact .inr ⟨o, by rw [GA hb]; exact e⟩, fun b xs e => by
  have hb : b ≠ p := fun z => by
   subst z
   rw [h] at e
   cases e
  rw [GA hb]
  exact e⟩ r
theorem EV.runB {β : Type} [Rp β] [Imm β] {mb : Option β} {b : β} {Q : VK} (o : Own K G H v p vs as) (e : EV K te σ (upd G p (.lst vs)) mb) (hm : mb = some b) (s : Same G H) (k : ∀ w G2 H2, Ext G H G2 H2 → Rp.rel K G2 w b → Q w H2) : te σ H Q :=
 e.run hm (o.same s) fun w G2 H2 x r => k w (del G2 p) H2 (x.del o.g) (Imm.del (x.gg _ _ AQ) r)
theorem TV.runB {mb : Option Bool} {b : Bool} {Q : Bool → Hp → Prop} (o : Own K G H v p vs as) (e : TV tt σ (upd G p (.lst vs)) mb) (hm : mb = some b) (s : Same G H) (k : ∀ G2 H2, Ext G H G2 H2 → Q b H2) : tt σ H Q :=
 e.run hm (o.same s) fun G2 H2 x => k (del G2 p) H2 (x.del o.g)
end
section
variable {K : PySem.W.Frag} {σ : St} {G : Hp}
theorem C6 {ρ A0 : Type} [Rp ρ] [Rp A0] {t0 : TE} {m0 : Option A0} {m : A0 × Unit → Option ρ} (e0 : EV K t0 σ G m0) : EV K (Dv (spM K m) [] E0 (Ag t0 C0)) σ G (m0.bind fun a0 => m (a0, ())) := by
 intro G1 s1 c hc H sH Q k
 obtain ⟨a0, ha0, hc⟩ := Option.bind_eq_some_iff.mp hc
 refine e0 G1 s1 a0 ha0 H sH _ fun v0 G2 H2 x0 r0 => ?_
 have y0 := x0
 exact ⟨G2, _, c, y0.gh, ⟨v0, _, rfl, r0, rfl⟩, hc, fun v G9 H9 x9 r9 => k v G9 H9 (y0.trans x9) r9⟩
theorem CD {ρ A0 A1 : Type} [Rp ρ] [Rp A0] [Rp A1] {t0 t1 : TE} {m0 : Option A0} {m1 : Option A1} {m : A0 × A1 × Unit → Option ρ} (e0 : EV K t0 σ G m0) (e1 : EV K t1 σ G m1) : EV K (Dv (spM K m) [] E0 (Ag t0 (Ag t1 C0))) σ G (m0.bind fun a0 => m1.bind fun a1 => m (a0, a1, ())) := by
 intro G1 s1 c hc H sH Q k
 obtain ⟨a0, ha0, hc⟩ := Option.bind_eq_some_iff.mp hc
 obtain ⟨a1, ha1, hc⟩ := Option.bind_eq_some_iff.mp hc
 refine e0 G1 s1 a0 ha0 H sH _ fun v0 G2 H2 x0 r0 => ?_
 have y0 := x0
 refine e1 G2 (s1.trans y0.gg) a1 ha1 H2 y0.gh _ fun v1 G3 H3 x1 r1 => ?_
 have y1 := y0.trans x1
 exact ⟨G3, _, c, y1.gh, ⟨v0, _, rfl, (Rp.mono x1.gg r0), ⟨v1, _, rfl, r1, rfl⟩⟩, hc, fun v G9 H9 x9 r9 => k v G9 H9 (y1.trans x9) r9⟩
theorem Eb {ρ A0 A1 A2 : Type} [Rp ρ] [Rp A0] [Rp A1] [Rp A2] {t0 t1 t2 : TE} {m0 : Option A0} {m1 : Option A1} {m2 : Option A2} {m : A0 × A1 × A2 × Unit → Option ρ} (e0 : EV K t0 σ G m0) (e1 : EV K t1 σ G m1) (e2 : EV K t2 σ G m2) : EV K (Dv (spM K m) [] E0 (Ag t0 (Ag t1 (Ag t2 C0)))) σ G (m0.bind fun a0 => m1.bind fun a1 => m2.bind fun a2 => m (a0, a1, a2, ())) := by
 intro G1 s1 c hc H sH Q k
 obtain ⟨a0, ha0, hc⟩ := Option.bind_eq_some_iff.mp hc
 obtain ⟨a1, ha1, hc⟩ := Option.bind_eq_some_iff.mp hc
 obtain ⟨a2, ha2, hc⟩ := Option.bind_eq_some_iff.mp hc
 refine e0 G1 s1 a0 ha0 H sH _ fun v0 G2 H2 x0 r0 => ?_
 have y0 := x0
 refine e1 G2 (s1.trans y0.gg) a1 ha1 H2 y0.gh _ fun v1 G3 H3 x1 r1 => ?_
 have y1 := y0.trans x1
 refine e2 G3 (s1.trans y1.gg) a2 ha2 H3 y1.gh _ fun v2 G4 H4 x2 r2 => ?_
 have y2 := y1.trans x2
 exact ⟨G4, _, c, y2.gh, ⟨v0, _, rfl, (Rp.mono x2.gg (Rp.mono x1.gg r0)), ⟨v1, _, rfl, (Rp.mono x2.gg r1), ⟨v2, _, rfl, r2, rfl⟩⟩⟩, hc, fun v G9 H9 x9 r9 => k v G9 H9 (y2.trans x9) r9⟩
section
variable {ta tb : TE} {a b : Bool} {tt tu : TT} {mb : Option Bool}
theorem TV.of {m m' : Option Bool} (e : TV tt σ G m) (h : m = m') : TV tt σ G m' := h ▸ e
theorem tv_andP (ea : TV tt σ G (some a)) (eb : TV tu σ G (some b)) : TV (tAnd tt tu) σ G (some (a && b)) := (GF ea eb).of (by cases a <;> rfl)
theorem tv_orP (ea : TV tt σ G (some a)) (eb : TV tu σ G (some b)) : TV (tOr tt tu) σ G (some (a || b)) := (tv_or ea eb).of (by cases a <;> rfl)
theorem ev_get {α : Type} [Rp α] {te : TE} {mo : Option (Option α)} (e : EV K te σ G mo) : EV K te σ G (mo.bind fun o => o) := by
 intro G1 s1 c hc H sH Q k
 obtain ⟨o, ho, hc⟩ := Option.bind_eq_some_iff.mp hc
 subst hc
 exact e G1 s1 _ ho H sH Q k
theorem TruV.mono {G H : Hp} {v : V} {k : Bool} (s : Same G H) (h : TruV K v G k) : TruV K v H k := by
 cases v with
 | ref p =>
  rcases h with ⟨xs, hx, e⟩ | ⟨xs, hx, e⟩ | ⟨kvs, hx, e⟩
  ·exact .inl ⟨xs, s.seq hx, e⟩
  ·exact .inr (.inl ⟨xs, s.tup hx, e⟩)
  ·exact .inr (.inr ⟨kvs, s _ _ hx, e⟩)
 | _ => exact h
theorem tv_b {mb : Option Bool} (ea : EV K ta σ G mb) : TV (fun σ H Q => ta σ H fun x H' => ∃ k, TruV K x H' k ∧ Q k H') σ G mb := by
 have h := tv_tru (K := K) (f := fun (a : Bool) => a) (fun {G v a} (r : Rp.rel K G v a) => by cases r; exact rfl) (fun s => TruV.mono s) ea
 refine h.of ?_
 cases mb <;> rfl
end
theorem cT {α : Type} {A B : Option α} {r : Option α} (h : cond true A B = r) : A = r := h
theorem cF {α : Type} {A B : Option α} {r : Option α} (h : cond false A B = r) : B = r := h
theorem E8 {i : Nat} {x : V} {σ : St} {H : Hp} {tb : TS} {D : Ends} (h : tb D (σ.set i (some x)) H) : D2 i x σ H fun σ2 H2 => tb D σ2 H2 := h
end
section
variable {K : PySem.W.Frag} {σ : St} {G H : Hp} {α β γ : Type} [Rp α] [Rp β] [Rp γ] {ta tb te : TE} {ia ib : Option Int} {c : Int} {rest t u : TS} {D : Ends} {i j : Nat} {tt : TT}
theorem ev_mulL (eb : EV K tb σ G ib) (hc : -(2 ^ 64) < c ∧ c < 2 ^ 64 := by decide) : EV K (tOp (rMul K) (tC (.int c)) tb) σ G (ib.bind fun b => some (c * b)) := by
 have h := ev_mul (Af (K := K) (σ := σ) (G := G) (i := c)) eb
 have e : ((some c).bind fun a => ib.bind fun b => mulO a b) = ib.bind fun b => some (c * b) := by
  show (ib.bind fun b => mulO c b) = _
  congr 1; funext b
  unfold mulO
  rw [if_pos (.inl hc)]
 exact h.of e
theorem Bg (ea : EV K ta σ G ia) (hc : 0 < c := by decide) : EV K (tOp (rI (fun _ j => 0 < j) fun i j => .int (i % j)) ta (tC (.int c))) σ G (ia.bind fun a => some (a % c)) := by
 have h := ev_mod ea (Af (K := K) (σ := σ) (G := G) (i := c))
 have e : (ia.bind fun a => (some c).bind fun b => modO a b) = ia.bind fun a => some (a % c) := by
  congr 1; funext a
  show modO a c = _
  unfold modO
  rw [if_pos hc]
 exact h.of e
theorem Dj (ea : EV K ta σ G ia) (hc : 0 < c ∧ c < 1073741824 := by decide) : EV K (tOp (rI CDiv fun i j => .int (i / j)) ta (tC (.int c))) σ G (ia.bind fun a => some (a / c)) := by
 have h := ev_div ea (Af (K := K) (σ := σ) (G := G) (i := c))
 have e : (ia.bind fun a => (some c).bind fun b => divO a b) = ia.bind fun a => some (a / c) := by
  congr 1; funext a
  show divO a c = _
  unfold divO
  rw [if_pos (show CDiv a c from hc)]
 exact h.of e
structure Scr where
 l : List Int
noncomputable instance rpScr : Rp Scr := ⟨fun K H v a => ∃ l, v = .ref l ∧ SqL K H l (a.l.map V.int), fun s ⟨l, e, h⟩ => ⟨l, e, s.seq h⟩⟩
theorem ev_lenX {ma : Option Scr} (ea : EV K ta σ G ma) : EV K (tCB (rLen K) (Ag ta C0)) σ G (ma.bind fun a => some (a.l.length : Int)) := by
 intro G1 s1 c hc H sH Q k
 obtain ⟨a, ha, hc⟩ := Option.bind_eq_some_iff.mp hc
 cases hc
 refine ea G1 s1 a ha H sH _ fun v G2 H2 x2 r2 => ?_
 obtain ⟨l, rfl, h⟩ := r2
 exact ⟨_, .inl (x2.gh.seq h), by rw [List.length_map]; exact k _ _ _ x2 rfl⟩
theorem pairedI {H : Hp} : ∀ ns : List Int, Paired (Rp.rel K H) (ns.map V.int) ns
 | [] => .nil
 | _ :: r => .cons rfl (pairedI r)
theorem ev_atX {ma : Option Scr} (ea : EV K ta σ G ma) (eb : EV K tb σ G ib) : EV K (tOp (rAt K) ta tb) σ G (ma.bind fun a => ib.bind fun i => atI a.l i) :=
 CA (fun s ra rb e Q k => by
  obtain ⟨l, rfl, h⟩ := ra; cases rb
  obtain ⟨v, hv, r⟩ := paired_atI (pairedI (K := K) _) e
  exact .inl ⟨_, v, s.seq h, hv, k _ _ _ (.refl s) r⟩) ea eb
theorem op_repR {X : Cx} : OpR X (binaryOp .Mult) (fun x y H Q => ∃ l k xs, x = .ref l ∧ y = .int k ∧ Rd H l (.lst xs) ∧ -(2 ^ 63) ≤ k ∧ k < 2 ^ 63 ∧ xs.length * k.toNat ≤ sizeLine ∧ ∀ p, H p = none → Q (.ref p) (upd H p (.lst (List.replicate k.toNat xs).flatten))) := by
 intro pins s σ H x y v u Q I rx ry h
 obtain ⟨l, k, xs, rfl, rfl, hH, h1, h2, hz, q⟩ := h
 cases rx
 obtain ⟨t, rfl⟩ := ry
 obtain ⟨z, its, n, r, e⟩ := hH.ok I.hok
 have hl := r.length
 have hlen : its.toArray.size * k.toNat ≤ sizeLine := by rw [List.size_toArray, ← hl]; exact hz
 have hcap : ¬ its.toArray.size * k.toNat > (2 ^ 63 - 1) / 8 := by
  have : (sizeLine : Nat) ≤ (2 ^ 63 - 1) / 8 := by decide
  omega
 have hfit : ¬ (!Builtin.List.listFitsIndex k) = true := by
  rw [fitsIndex_both h1 h2]
  exact Bool.false_ne_true
 have hlong : ¬ Builtin.List.listTooLong (its.toArray.size * k.toNat) = true := by
  rw [notLongL hlen]
  exact Bool.false_ne_true
 have hnew : List.foldl (fun x1 x2 => x1 ++ x2) #[] (List.replicate (if its.toArray.isEmpty = true then 0 else k.toNat) its.toArray) = (List.replicate k.toNat its).flatten.toArray := by
  have f0 : ∀ m : Nat, List.foldl (fun x1 x2 => x1 ++ x2) #[] (List.replicate m its.toArray) = (List.replicate m its).flatten.toArray := fun m => by
   have := foldl_rep its m []
   rw [List.nil_append] at this
   exact this
  rw [f0]
  cases its with
  | nil => simp
  | cons a r' => rw [if_neg (by simp)]
 refine wpAny_binaryOp_repeat_ref (T := "list") (U := "int") (by decide) ⟨_, e, rfl⟩ (fun s' => typeIs_int s' k t) noFill_list_mul F.fills_int_mul F.slot_int_rmul repeat_list F.slot_int_index.lookup
  (call_meets F.slot_int_rmul (typeIs_int s k t) F.entry_int_rmul (F.args_int_rmul_2 _ _) (int___rmul___int_list k t l its.toArray n)
   ⟨e, rfl, ⟨_, e, rfl⟩, call_meets F.slot_list_mul ⟨_, e, rfl⟩ F.entry_list_mul (F.args_list_mul_2 _ _) (AutoListH.list___mul___list_int_3 l its.toArray n k t hfit hcap hlong) ⟨e, ?_⟩⟩)
 rw [hnew]
 exact ⟨.ref _, _, I.lnew (t' := s.toks) (r.rep k.toNat) (by rw [len_rep, Nat.mul_comm]; exact hz), rfl, q _ I.fresh⟩
theorem fv_rep {la : Option (List α)} (ea : EV K ta σ G la) (eb : EV K tb σ G ib) :
  FV K (tOp (fun x y H Q => ∃ l k xs, x = .ref l ∧ y = .int k ∧ Rd H l (.lst xs) ∧ -(2 ^ 63) ≤ k ∧ k < 2 ^ 63 ∧ xs.length * k.toNat ≤ sizeLine ∧ ∀ p, H p = none → Q (.ref p) (upd H p (.lst (List.replicate k.toNat xs).flatten))) ta tb) σ G (la.bind fun a => ib.bind fun b => repL a b) := by
 intro G1 s1 c hc H sH Q k
 obtain ⟨a, ha, hc⟩ := Option.bind_eq_some_iff.mp hc
 obtain ⟨b, hb, hc⟩ := Option.bind_eq_some_iff.mp hc
 obtain ⟨⟨hl, hz⟩, rfl⟩ := BN hc
 refine ea G1 s1 a ha H sH _ fun v G2 H2 x2 r2 => ?_
 refine eb G2 (s1.trans x2.gg) b hb H2 x2.gh _ fun u G3 H3 x3 r3 => ?_
 obtain ⟨l1, xs, rfl, h1, z1, p1⟩ := Rp.mono x3.gg r2
 cases r3
 have e1 := Paired.length p1
 rw [← e1] at hz
 exact ⟨l1, b, xs, rfl, rfl, x3.gh.rd h1, hl.1, hl.2, hz, fv_of x3.gh (by rw [len_rep, Nat.mul_comm]; exact hz) (Paired.rep p1 _) (FV.mono (x2.trans x3) k)⟩
theorem sv_ifB {b : Bool} {m : Option Bool} {v : V} {p : Addr} {vs : List V} {as : List β} (o : Own K G H v p vs as) (e : TV tt σ (upd G p (.lst vs)) m) (hm : m = some b) (s : Same G H) (k : ∀ G2 H2, Ext G H G2 H2 → if b = true then t { D with nx := rest D } σ H2 else u { D with nx := rest D } σ H2) :
  CK (tIfS tt t u) rest D σ H := TV.runB o e hm s k
noncomputable def setO {α : Type} (as : List α) (k : Int) (a : α) : Option (List α) := (ixN as.length k).bind fun j => some (as.set j a)
theorem sv_unpack {a : α × β} {m : Option (α × β)} (e : EV K te σ G m) (hm : m = some a) (s : Same G H) (k : ∀ v1 v2 G2 H2, Ext G H G2 H2 → Rp.rel K G2 v1 a.1 → Rp.rel K G2 v2 a.2 → rest D ((σ.set i (some v1)).set j (some v2)) H2) :
  CK (FJ te (gTup K 2 (gCons (D2 i) (gCons (D2 j) gNil)))) rest D σ H := by
 refine e.run hm s fun v G2 H2 x r => ?_
 obtain ⟨t, x1, x2, rfl, ht, r1, r2⟩ := r
 exact ⟨t, _, rfl, x.gh.tup ht, rfl, x1, _, rfl, x2, _, rfl, rfl, k _ _ _ _ x r1 r2⟩
end
structure Own2 (K : PySem.W.Frag) {α β : Type} [Rp α] [Rp β] (G H : Hp) (v : V) (p q : Addr) (vs ws : List V) (a : List α × List β) : Prop where
 t : ∃ t, v = .ref t ∧ G t = some (.tup [.ref p, .ref q])
 o1 : Own K G H (.ref p) p vs a.1
 o2 : Own K G H (.ref q) q ws a.2
 ne : p ≠ q
section
variable {K : PySem.W.Frag} {σ : St} {G H G1 H1 G0 H0 : Hp} {α β γ : Type} [Rp α] [Rp β] [Rp γ] {ta tb te ti : TE} {tt : TT} {t u rest : TS} {D : Ends} {i j : Nat} {v : V} {p q r : Addr} {vs ws : List V} {a : List α × List β}
theorem Own2.ext (o : Own2 K G H v p q vs ws a) (x : Ext G H G1 H1) : Own2 K G1 H1 v p q vs ws a :=
 ⟨let ⟨t, e, h⟩ := o.t; ⟨t, e, x.gg _ _ h⟩, o.o1.ext x, o.o2.ext x, o.ne⟩
theorem Own2.put {ho : HO} (o : Own2 K G H v p q vs ws a) (h1 : p ≠ r) (h2 : q ≠ r) : Own2 K G (upd H r ho) v p q vs ws a := ⟨o.t, o.o1.put h1, o.o2.put h2, o.ne⟩
noncomputable def two (G : Hp) (p q : Addr) (vs ws : List V) : Hp := upd (upd G p (.lst vs)) q (.lst ws)
theorem Own2.g2 (o : Own2 K G H v p q vs ws a) : (upd G p (.lst vs)) q = none := by rw [Ao (Ne.symm o.ne)]; exact o.o2.g
theorem Own2.up (o : Own2 K G H v p q vs ws a) : Same G (two G p q vs ws) := (Same.new o.o1.g).trans (Same.new o.g2)
theorem Own2.same (o : Own2 K G H v p q vs ws a) (s : Same G H) : Same (two G p q vs ws) H := fun b x e => by
 unfold two at e
 by_cases hb : b = q
 ·subst hb
  rw [AQ] at e
  rw [o.o2.h]
  exact e
 ·rw [Ao hb] at e
  exact o.o1.same s b x e
theorem Own2.tell (o : Own2 K G H v p q vs ws a) : Rp.rel K (two G p q vs ws) v a := by
 obtain ⟨t, rfl, ht⟩ := o.t
 refine ⟨t, .ref p, .ref q, rfl, SqT.of (o.up _ _ ht), ⟨p, vs, rfl, .inl ?_, o.o1.z, Paired.imp' (fun _ _ r => Rp.mono o.up r) o.o1.p⟩, ⟨q, ws, rfl, .inl AQ, o.o2.z, Paired.imp' (fun _ _ r => Rp.mono o.up r) o.o2.p⟩⟩
 unfold two
 rw [Ao o.ne]
 exact AQ
theorem Own2.frz (o : Own2 K G H v p q vs ws a) (x : Ext G0 H0 G H) (h1 : H0 p = none) (h2 : H0 q = none) : Ext G0 H0 (two G p q vs ws) H :=
 (x.frz h1 o.o1.g o.o1.h).frz h2 o.g2 o.o2.h
noncomputable def NV (K : PySem.W.Frag) {α β : Type} [Rp α] [Rp β] (te : TE) (σ : St) (G : Hp) (m : Option (List α × List β)) : Prop :=
 ∀ G1, Same G G1 → ∀ a, m = some a → ∀ H, Same G1 H → ∀ Q : VK, (∀ v p q vs ws G2 H2, Ext G1 H G2 H2 → H p = none → H q = none → Own2 K G2 H2 v p q vs ws a → Q v H2) → te σ H Q
theorem NV.ev {m : Option (List α × List β)} (e : NV K te σ G m) : EV K te σ G m := by
 intro G1 s1 a ha H sH Q k
 refine e G1 s1 a ha H sH Q fun v p q vs ws G2 H2 x h1 h2 o => ?_
 exact k v _ H2 (o.frz x h1 h2) o.tell
noncomputable def spN (K : PySem.W.Frag) {A : Type} [RpA A] {α β : Type} [Rp α] [Rp β] (m : A → Option (List α × List β)) : Sp := fun vs H Q _ =>
 ∃ G a r, Same G H ∧ RpA.rel K G vs a ∧ m a = some r ∧ ∀ v p q vs ws G2 H2, Ext G H G2 H2 → H p = none → H q = none → Own2 K G2 H2 v p q vs ws r → Q v H2
noncomputable def spL (K : PySem.W.Frag) {A : Type} [RpA A] {α : Type} [Rp α] (m : A → Option (List α)) : Sp := fun vs H Q _ =>
 ∃ G a r, Same G H ∧ RpA.rel K G vs a ∧ m a = some r ∧ ∀ p vs G2 H2, Ext G H G2 H2 → H p = none → Own K G2 H2 (.ref p) p vs r → Q (.ref p) H2
theorem spN_len {A : Type} [RpA A] {m : A → Option (List α × List β)} {vs : List V} {H : Hp} {Q : VK} {E : XK} (h : spN K m vs H Q E) : vs.length = RpA.n A := by
 obtain ⟨G, a, r, _, h, _⟩ := h
 exact RpA.len h
theorem Fx {A : Type} [RpA A] {m : A → Option (List α)} {vs : List V} {H : Hp} {Q : VK} {E : XK} (h : spL K m vs H Q E) : vs.length = RpA.n A := by
 obtain ⟨G, a, r, _, h, _⟩ := h
 exact RpA.len h
theorem nv_def1 {A0 : Type} [Rp A0] {t0 : TE} {m0 : Option A0} {m : A0 × Unit → Option (List α × List β)} (e0 : EV K t0 σ G m0) : NV K (Dv (spN K m) [] E0 (Ag t0 C0)) σ G (m0.bind fun a0 => m (a0, ())) := by
 intro G1 s1 c hc H sH Q k
 obtain ⟨a0, ha0, hc⟩ := Option.bind_eq_some_iff.mp hc
 refine e0 G1 s1 a0 ha0 H sH _ fun v0 G2 H2 x0 r0 => ?_
 have y0 := x0
 exact ⟨G2, _, c, y0.gh, ⟨v0, _, rfl, r0, rfl⟩, hc, fun v p q vs ws G9 H9 x9 h1 h2 o => k v p q vs ws G9 H9 (y0.trans x9) (y0.hh.free h1) (y0.hh.free h2) o⟩
theorem FR {A0 A1 A2 : Type} [Rp A0] [Rp A1] [Rp A2] {t0 t1 t2 : TE} {m0 : Option A0} {m1 : Option A1} {m2 : Option A2} {m : A0 × A1 × A2 × Unit → Option (List α)} (e0 : EV K t0 σ G m0) (e1 : EV K t1 σ G m1) (e2 : EV K t2 σ G m2) : FV K (Dv (spL K m) [] E0 (Ag t0 (Ag t1 (Ag t2 C0)))) σ G (m0.bind fun a0 => m1.bind fun a1 => m2.bind fun a2 => m (a0, a1, a2, ())) := by
 intro G1 s1 c hc H sH Q k
 obtain ⟨a0, ha0, hc⟩ := Option.bind_eq_some_iff.mp hc
 obtain ⟨a1, ha1, hc⟩ := Option.bind_eq_some_iff.mp hc
 obtain ⟨a2, ha2, hc⟩ := Option.bind_eq_some_iff.mp hc
 refine e0 G1 s1 a0 ha0 H sH _ fun v0 G2 H2 x0 r0 => ?_
 have y0 := x0
 refine e1 G2 (s1.trans y0.gg) a1 ha1 H2 y0.gh _ fun v1 G3 H3 x1 r1 => ?_
 have y1 := y0.trans x1
 refine e2 G3 (s1.trans y1.gg) a2 ha2 H3 y1.gh _ fun v2 G4 H4 x2 r2 => ?_
 have y2 := y1.trans x2
 exact ⟨G4, _, c, y2.gh, ⟨v0, _, rfl, (Rp.mono x2.gg (Rp.mono x1.gg r0)), ⟨v1, _, rfl, (Rp.mono x2.gg r1), ⟨v2, _, rfl, r2, rfl⟩⟩⟩, hc, fun p vs G9 H9 x9 h1 o => k p vs G9 H9 (y2.trans x9) (y2.hh.free h1) o.g o.h o.z o.p⟩
theorem fv_def4 {A0 A1 A2 A3 : Type} [Rp A0] [Rp A1] [Rp A2] [Rp A3] {t0 t1 t2 t3 : TE} {m0 : Option A0} {m1 : Option A1} {m2 : Option A2} {m3 : Option A3} {m : A0 × A1 × A2 × A3 × Unit → Option (List α)} (e0 : EV K t0 σ G m0) (e1 : EV K t1 σ G m1) (e2 : EV K t2 σ G m2) (e3 : EV K t3 σ G m3) : FV K (Dv (spL K m) [] E0 (Ag t0 (Ag t1 (Ag t2 (Ag t3 C0))))) σ G (m0.bind fun a0 => m1.bind fun a1 => m2.bind fun a2 => m3.bind fun a3 => m (a0, a1, a2, a3, ())) := by
 intro G1 s1 c hc H sH Q k
 obtain ⟨a0, ha0, hc⟩ := Option.bind_eq_some_iff.mp hc
 obtain ⟨a1, ha1, hc⟩ := Option.bind_eq_some_iff.mp hc
 obtain ⟨a2, ha2, hc⟩ := Option.bind_eq_some_iff.mp hc
 obtain ⟨a3, ha3, hc⟩ := Option.bind_eq_some_iff.mp hc
 refine e0 G1 s1 a0 ha0 H sH _ fun v0 G2 H2 x0 r0 => ?_
 have y0 := x0
 refine e1 G2 (s1.trans y0.gg) a1 ha1 H2 y0.gh _ fun v1 G3 H3 x1 r1 => ?_
 have y1 := y0.trans x1
 refine e2 G3 (s1.trans y1.gg) a2 ha2 H3 y1.gh _ fun v2 G4 H4 x2 r2 => ?_
 have y2 := y1.trans x2
 refine e3 G4 (s1.trans y2.gg) a3 ha3 H4 y2.gh _ fun v3 G5 H5 x3 r3 => ?_
 have y3 := y2.trans x3
 exact ⟨G5, _, c, y3.gh, ⟨v0, _, rfl, (Rp.mono x3.gg (Rp.mono x2.gg (Rp.mono x1.gg r0))), ⟨v1, _, rfl, (Rp.mono x3.gg (Rp.mono x2.gg r1)), ⟨v2, _, rfl, (Rp.mono x3.gg r2), ⟨v3, _, rfl, r3, rfl⟩⟩⟩⟩, hc, fun p vs G9 H9 x9 h1 o => k p vs G9 H9 (y3.trans x9) (y3.hh.free h1) o.g o.h o.z o.p⟩
theorem Bx {as : List α} {m : Option (List α)} (e : FV K te σ G m) (hm : m = some as) (s : Same G H) (k : ∀ p vs G2 H2, Ext G H G2 H2 → H p = none → Own K G2 H2 (.ref p) p vs as → D.rt (.ref p) H2) : CK (tRet te) rest D σ H :=
 e G (.refl G) as hm H s _ fun p vs G2 H2 x h0 hg hh hz hp => k p vs G2 H2 x h0 ⟨rfl, hg, hh, hz, hp⟩
theorem sv_retO2 {v1 v2 : V} {as : List α} {bs : List β} (h1 : σ[i]? = some (some v1)) (h2 : σ[j]? = some (some v2)) (o1 : Own K G H v1 p vs as) (o2 : Own K G H v2 q ws bs) (ne : p ≠ q) (s : Same G H)
  (k : ∀ v G2 H2, Ext G H G2 H2 → Own2 K G2 H2 v p q vs ws (as, bs) → D.rt v H2) : CK (tRet (tTup (Ag (Bc i) (Ag (Bc j) C0)))) rest D σ H := by
 obtain ⟨rfl, g1, hh1, z1, p1⟩ := o1
 obtain ⟨rfl, g2, hh2, z2, p2⟩ := o2
 refine ⟨_, h1, _, h2, by show 2 ≤ sizeLine; decide, fun t ht => ?_⟩
 have x4 : Ext G H (upd G t (.tup [.ref p, .ref q])) (upd H t (.tup [.ref p, .ref q])) := .new s ht
 exact k (.ref t) _ _ x4 ⟨⟨t, rfl, AQ⟩, Own.ext ⟨rfl, g1, hh1, z1, p1⟩ x4, Own.ext ⟨rfl, g2, hh2, z2, p2⟩ x4, ne⟩
end
section
variable {X : Cx} {K : PySem.W.Frag}
theorem Ar (h : X.K = K) : OpR X (binaryOp .Add) (rPlus K) := h ▸ op_plus
theorem op_mulK (h : X.K = K) : OpR X (binaryOp .Mult) (rMul K) := h ▸ op_mulU
theorem E9 (h : X.K = K) : SlR X (rSl K) := h ▸ sl_any
theorem AD (h : X.K = K) : IxR X (rAt K) := h ▸ ix_any
theorem Ap (h : X.K = K) : E2 X (.builtin "len") (rLen K) := h ▸ call_lenU
theorem call_instK (h : X.K = K) : E2 X (.builtin "isinstance") (rInst K) := h ▸ call_inst
theorem FI (h : X.K = K) : MtR X "str.join" (rJoin K) := h ▸ mt_join
theorem op_neK {j : Nat} (h : X.K = K) (α : Type) [Rp α] [DecidableEq α] [RpE α] (hr : Room j X.A) (hk : RpE.k α ≤ 10) : OpR X (compareOp .NotEq) (rNeD K α) := h ▸ op_neM α hr hk
theorem call_listK (h : X.K = K) : E2 X (.type "list") (fun xs H Q => ∃ p ys, xs = [.ref p] ∧ (SqL K H p ys ∨ SqT K H p ys) ∧ ∀ l, H l = none → Q (.ref l) (upd H l (.lst ys))) := h ▸ call_list_of
theorem D1 {tg l : Expr} {tl : TE} (h : X.K = K) (hl : PE X l tl) : PI X tg l (GU K tl) := h ▸ pi_any hl
theorem DZ {a : Expr} {ta : TE} (h : X.K = K) (ha : PE X a ta) (he : ∀ whole, isTrue a X.env whole = (do let v ← whole; standAt a.pos; holding [v] (truthy v))) :
  PT X a (fun σ H Q => ta σ H fun x H' => ∃ k, TruV K x H' k ∧ Q k H') := h ▸ pt_truth ha he
section
variable {o e : Expr} {es : List Expr} {to : TE} {t : TA} {name : Str} {apos cpos : Pos} {T id : String} {r : V → List V → Hp → VK → Prop}
theorem D3 (h : X.K = K) (pa : PlainAttrs T) (slot : Slot T name id) (hty : typeOf (.builtin id) = pure (.type "method_descriptor")) (hm : MtR X id r) (ho : PE X o to) (ha : PA X (e :: es) t)
  (hbase : attributeBase o name X.env (eval o X.env) = eval o X.env := by rfl)
  (hfew : ((backTo cpos (starEach (e :: es) X.env)).all (fun x => !x.1) && (backToKw cpos (keywordEach [] X.env)).all (fun x => x.1.isSome)
   && decide ((e :: es).length + ([] : List Keyword).length + (if ([] : List Keyword).isEmpty then 0 else 1) < 30)) = true := by rfl)
  (hline : (apos.endLine == cpos.line) = true := by rfl) (hs : starEach (e :: es) X.env = (false, eval e X.env) :: starEach es X.env := by rfl) (hplain : (backTo cpos (starEach es X.env)).any (·.1) = false := by rfl) :
  PE X (.Call (.Attribute o name apos) (e :: es) [] cpos) (tBM K T r to t) := h ▸ pe_bm pa slot hty hm ho ha hbase hfew hline hs hplain
end
end
theorem FQ {f : St → Hp → Prop} {rt : VK} {bk ct : St → Hp → Prop} {σ : St} {H : Hp} (h : f σ H) : ({ nx := f, rt := rt, bk := bk, ct := ct } : Ends).nx σ H := h
section
variable {K : PySem.W.Frag} {σ : St} {G H : Hp} {α β γ : Type} [Rp α] [Rp β] [Rp γ] {ta tb te : TE} {rest t u : TS} {D : Ends} {i j : Nat}
noncomputable def extO {α : Type} (as bs : List α) : Option (List α) := if as.length + bs.length ≤ sizeLine then some (as ++ bs) else none
end
inductive D where
 | non
 | bl (b : Bool)
 | int (i : Int)
 | str (x : Str)
 | lst (l : List D)
 | tup (l : List D)
 | dic
mutual
inductive RelD (K : PySem.W.Frag) (H : Hp) : V → D → Prop where
 | non : RelD K H .non .non
 | bl (b : Bool) : RelD K H (.bl b) (.bl b)
 | int (i : Int) : RelD K H (.int i) (.int i)
 | str (x : Str) (z : x.length ≤ sizeLine) : RelD K H (.str x) (.str x)
 | lst {a : Addr} {xs : List V} {ds : List D} (h : Rd H a (.lst xs)) (z : xs.length ≤ sizeLine) (r : RelDs K H xs ds) : RelD K H (.ref a) (.lst ds)
 | tup {a : Addr} {xs : List V} {ds : List D} (h : SqT K H a xs) (z : xs.length ≤ sizeLine) (r : RelDs K H xs ds) : RelD K H (.ref a) (.tup ds)
 | dK {a : Addr} {kvs : List (Key × V)} (h : Rd H a (.dK kvs)) : RelD K H (.ref a) .dic
inductive RelDs (K : PySem.W.Frag) (H : Hp) : List V → List D → Prop where
 | nil : RelDs K H [] []
 | cons {x : V} {d : D} {xs : List V} {ds : List D} (h : RelD K H x d) (t : RelDs K H xs ds) : RelDs K H (x :: xs) (d :: ds)
end
mutual
theorem RelD.mono {K : PySem.W.Frag} {H H' : Hp} (s : Same H H') : ∀ {v : V} {d : D}, RelD K H v d → RelD K H' v d
 | _, _, .non => .non
 | _, _, .bl b => .bl b
 | _, _, .int i => .int i
 | _, _, .str x z => .str x z
 | _, _, .lst h z r => .lst (s.rd h) z (RelDs.mono s r)
 | _, _, .tup h z r => .tup (s.tup h) z (RelDs.mono s r)
 | _, _, .dK h => .dK (s.rd h)
theorem RelDs.mono {K : PySem.W.Frag} {H H' : Hp} (s : Same H H') : ∀ {v : List V} {d : List D}, RelDs K H v d → RelDs K H' v d
 | _, _, .nil => .nil
 | _, _, .cons h t => .cons (RelD.mono s h) (RelDs.mono s t)
end
noncomputable instance rpD : Rp D := ⟨RelD, fun s h => RelD.mono s h⟩
theorem of_relDs {K : PySem.W.Frag} {H : Hp} : ∀ {xs : List V} {ds : List D}, RelDs K H xs ds → Paired (Rp.rel K H) xs ds
 | _, _, .nil => .nil
 | _, _, .cons h t => .cons h (of_relDs t)
class ToD (α : Type) [Rp α] where
 to : α → D
 rel : ∀ {K : PySem.W.Frag} {H : Hp} {v : V} {a : α}, Rp.rel K H v a → RelD K H v (to a)
theorem toDs {K : PySem.W.Frag} {H : Hp} {α : Type} [Rp α] [ToD α] : ∀ {xs : List V} {as : List α}, Paired (Rp.rel K H) xs as → Paired (Rp.rel (α := D) K H) xs (as.map ToD.to)
 | _, _, .nil => .nil
 | _, _, .cons h t => .cons (ToD.rel h) (toDs t)
noncomputable instance tdInt : ToD Int := ⟨.int, fun h => by cases h; exact .int _⟩
noncomputable instance tdBool : ToD Bool := ⟨.bl, fun h => by cases h; exact .bl _⟩
noncomputable instance tdStr : ToD Str := ⟨.str, fun h => by obtain ⟨rfl, z⟩ := h; exact .str _ z⟩
noncomputable instance tdUnit : ToD Unit := ⟨fun _ => .non, fun h => by cases h; exact .non⟩
noncomputable def dk : D → String
 | .non => "NoneType"
 | .bl _ => "bool"
 | .int _ => "int"
 | .str _ => "str"
 | .lst _ => "list"
 | .tup _ => "tuple"
 | .dic => "dict"
noncomputable def isK (T : String) (d : D) : Bool := dk d == T || (T == "int" && dk d == "bool")
section
variable {K : PySem.W.Frag} {σ : St} {G : Hp} {α β : Type} [Rp α] [Rp β] {ta tb te : TE} {md : Option D}
theorem ev_toD [ToD α] {m : Option α} (e : EV K te σ G m) : EV K te σ G (m.bind fun a => some (ToD.to a)) := by
 intro G1 s1 c hc H sH Q k
 obtain ⟨a, ha, hc⟩ := Option.bind_eq_some_iff.mp hc
 cases hc
 exact e G1 s1 a ha H sH Q fun v G2 H2 x r => k v G2 H2 x (ToD.rel r)
theorem RelD.ty {H : Hp} {v : V} {d : D} (r : RelD K H v d) : TyS K H v (dk d) := by
 cases r with
 | non => exact .non
 | bl => exact .bl _
 | int => exact .int _
 | str => exact .str _
 | lst h => exact .lst (.inl h)
 | tup h => exact .tup h
 | dK h => exact .dK h
theorem kit_all : ∀ n ∈ ["NoneType", "bool", "int", "str", "list", "tuple", "dict"], ∀ T ∈ ["str", "list", "tuple", "bool", "int", "dict"], kitC n T = some (n == T || (T == "int" && n == "bool")) := by decide +kernel
theorem isK_ok {T : String} (hT : T ∈ ["str", "list", "tuple", "bool", "int", "dict"]) (d : D) : kitC (dk d) T = some (isK T d) := by
 unfold isK
 exact kit_all (dk d) (by cases d <;> simp [dk]) T hT
theorem ev_instD {T : String} (hT : T ∈ ["str", "list", "tuple", "bool", "int", "dict"]) (ea : EV K ta σ G md) : EV K (tCB (rInst K) (Ag ta (Ag (tC (.ty T)) C0))) σ G (md.bind fun d => some (isK T d)) := by
 intro G1 s1 c hc H sH Q k
 obtain ⟨a, ha, hc⟩ := Option.bind_eq_some_iff.mp hc
 cases hc
 refine ea G1 s1 a ha H sH _ fun v G2 H2 x2 r2 => ?_
 exact ⟨_, _, _, _, rfl, (RelD.ty r2).mono x2.gh, isK_ok hT a, k _ _ _ x2 rfl⟩
theorem RelDs.len {H : Hp} {xs : List V} {ds : List D} (r : RelDs K H xs ds) : xs.length = ds.length := Paired.length (of_relDs r)
end
section
variable {K : PySem.W.Frag} {σ : St} {G : Hp} {ta : TE}
noncomputable def rAllB (K : PySem.W.Frag) : List V → Hp → VK → Prop := fun vs H Q => ∃ (l : Addr) (bs : List Bool), vs = [.ref l] ∧ SqL K H l (bs.map V.bl) ∧ Q (.bl (bs.all id)) H
theorem bools_at {bs : List Bool} {its : List Value} (r : Vals (bs.map V.bl) its) {i : Nat} {v : Value} (h : its.toArray[i]? = some v) : v = .bool (bs.getD i true) := by
 have h : its[i]? = some v := by simpa using h
 have hl := r.length
 rw [List.length_map] at hl
 obtain ⟨hi, _⟩ := List.getElem?_eq_some_iff.mp h
 have e : (bs.map V.bl)[i]? = some (V.bl (bs.getD i true)) := by
  have : i < bs.length := by omega
  simp [this]
 obtain ⟨u, hu, ru⟩ := r.get e
 rw [h] at hu
 cases hu
 exact ru
theorem call_allK {X : Cx} (hc : X.calm = true) (h : X.K = K) : E2 X (.builtin "all") (rAllB K) := by
 subst h
 intro pins s σ H vs us Q I r h
 obtain ⟨l, bs, rfl, hl, q⟩ := h
 obtain ⟨u, rfl, ru⟩ := Ff r
 cases ru
 obtain ⟨its, rv, pl, _⟩ := I.list hl
 have hL := pl.isList
 have hlt : l < s.heap.objs.size := by obtain ⟨_, e, _⟩ := hL; exact Heap.lt_size e
 have hlen := rv.length
 rw [List.length_map] at hlen
 refine call_all_walk (wpAny_pyIter_list hL ?_)
 refine ⟨_, _, _, _, _, _, fun i => bs.getD i true, rfl, Walks.list (A := X.A.in1) (I.ok.hd hc) _ l (Nat.ne_of_lt hlt) its.toArray, ⟨⟨_, Heap.get?_push_size _ rfl, rfl, rfl⟩, hL.push _⟩, ?_, fun h' tk hk => ?_⟩
 ·intro i v s' Q' E' hP hQ
  rw [bools_at rv hP]
  exact wpAny_truthy_bool hQ
 ·have e : (List.range its.toArray.size).all (fun i => bs.getD i true) = bs.all id := by
   rw [List.size_toArray, ← hlen]
   apply Bool.eq_iff_iff.mpr
   rw [List.all_eq_true, List.all_eq_true]
   constructor
   ·intro hh b hb
    obtain ⟨i, hi⟩ := List.mem_iff_getElem?.mp hb
    have hi2 := (List.getElem?_eq_some_iff.mp hi).1
    have := hh i (List.mem_range.mpr hi2)
    rw [List.getD_eq_getElem?_getD, hi] at this
    exact this
   ·intro hh i hi
    have hi2 := List.mem_range.mp hi
    have := hh bs[i] (List.getElem_mem hi2)
    rw [List.getD_eq_getElem?_getD, List.getElem?_eq_getElem hi2]
    exact this
  rw [e]
  refine ⟨.bl _, H, I.kept fun b o eb => ?_, rfl, q⟩
  refine hk b o (fun hm => ?_) (Heap.get?_push_of_some _ eb)
  have : b = s.heap.objs.size := by simpa using hm
  exact absurd (this ▸ Heap.lt_size eb) (Nat.lt_irrefl _)
theorem Ez {H : Hp} : ∀ {xs : List V} {ys : List Bool}, Paired (Rp.rel K H) xs ys → xs = ys.map V.bl
 | _, _, .nil => rfl
 | _, _, .cons r t => by
  cases r
  rw [Ez t]
  rfl
theorem ev_all {lb : Option (List Bool)} (ea : EV K ta σ G lb) : EV K (tCB (rAllB K) (Ag ta C0)) σ G (lb.bind fun bs => some (bs.all id)) := by
 intro G1 s1 c hc H sH Q k
 obtain ⟨a, ha, hc⟩ := Option.bind_eq_some_iff.mp hc
 cases hc
 refine ea G1 s1 a ha H sH _ fun v G2 H2 x2 r2 => ?_
 obtain ⟨l, xs, rfl, h, z, p⟩ := r2
 obtain rfl := Ez p
 exact ⟨l, a, rfl, .inl (x2.gh.rd h), k _ _ _ x2 rfl⟩
end
noncomputable def OK {α : Type} (m : Option α) (P : α → Prop) : Prop := ∃ a, m = some a ∧ P a
section
variable {α β S ρ : Type} {m : Option α} {P Q : α → Prop} {R : β → Prop}
theorem OK.mono (h : OK m P) (k : ∀ a, P a → Q a) : OK m Q := let ⟨a, e, p⟩ := h; ⟨a, e, k a p⟩
theorem AM {a : α} (h : P a) : OK (some a) P := ⟨a, rfl, h⟩
theorem AW {f : α → Option β} (h : OK m fun a => OK (f a) R) : OK (m.bind f) R := by
 obtain ⟨a, rfl, h⟩ := h
 exact h
theorem Fd {f : α → Option β} (a : α) (e : m = some a) (h : OK (f a) R) : OK (m.bind f) R := AW ⟨a, e, h⟩
theorem GJ {f : α → Option β} (h : OK m P) (k : ∀ a, P a → OK (f a) R) : OK (m.bind f) R := AW (h.mono k)
theorem BA {b : Bool} {x y : Option α} (h1 : b = true → OK x P) (h2 : b = false → OK y P) : OK (cond b x y) P := by
 cases b with
 | true => exact h1 rfl
 | false => exact h2 rfl
theorem OK.eq {a : α} (h : OK m fun b => b = a) : m = some a := by obtain ⟨b, e, rfl⟩ := h; exact e
theorem OK.of {a : α} (e : m = some a) (h : P a) : OK m P := ⟨a, e, h⟩
theorem AF {α β : Type} (a : α) (f : α → Option β) : (some a).bind f = f a := by rw [Option.bind_some]
theorem AK {α : Type} (m : Option α) : (m.bind fun x => some x) = m := by cases m <;> rfl
theorem ok_mod {a b : Int} {P : Int → Prop} (hb : 0 < b) (h : P (a % b)) : OK (modO a b) P := ⟨_, if_pos hb, h⟩
theorem ok_mul {a b : Int} {P : Int → Prop} (hb : CMul a b) (h : P (a * b)) : OK (mulO a b) P := ⟨_, if_pos hb, h⟩
theorem ok_div {a b : Int} {P : Int → Prop} (hb : 0 < b ∧ b < 1073741824) (h : P (a / b)) : OK (divO a b) P := ⟨_, if_pos hb, h⟩
theorem ok_catS {a b : Str} {P : Str → Prop} (hb : a.length + b.length ≤ sizeLine) (h : P (a ++ b)) : OK (catS a b) P := ⟨_, if_pos hb, h⟩
theorem ok_catL {a b : List α} {P : List α → Prop} (hb : a.length + b.length ≤ sizeLine) (h : P (a ++ b)) : OK (GV a b) P := ⟨_, if_pos hb, h⟩
theorem E4 {a : List α} {b : α} {P : List α → Prop} (hb : a.length < sizeLine) (h : P (a ++ [b])) : OK (Ej a b) P := ⟨_, if_pos hb, h⟩
theorem Fg {lo hi : Int} {n : Nat} {P : List Int → Prop} (hn : hi - lo = n) (h0 : -1000000000 ≤ lo ∧ lo ≤ 1000000000) (h1 : n ≤ sizeLine) (h : P ((List.range n).map fun (i : Nat) => lo + (i : Int))) : OK (Ec lo hi) P := by
 have hs : sizeLine = 16777216 := sizeLine_eq
 have e : (hi - lo).toNat = n := by omega
 refine ⟨_, if_pos ⟨⟨by omega, by omega, by omega, by omega⟩, by omega⟩, ?_⟩
 rw [e]
 exact h
theorem GM {a : List α} {i : Int} (h0 : 0 ≤ i) (h1 : i < a.length) (h : ∀ x, a[i.toNat]? = some x → P x) : OK (atI a i) P := by
 obtain ⟨k, rfl⟩ := Int.eq_ofNat_of_zero_le h0
 have hk : k < a.length := by omega
 refine ⟨a[k], BX (by simp [hk]), h _ ?_⟩
 rw [Int.toNat_natCast]
 simp [hk]
theorem ok_for {f : α → S → Option (Fl S ρ)} {as : List α} {s0 : S} (I : Nat → S → Prop) (J : S → Prop) (R : ρ → Prop) {P : Fl S ρ → Prop} (h0 : I 0 s0)
  (hs : ∀ (i : Nat) a s, as[i]? = some a → I i s → OK (f a s) fun fl => match fl with | .nx s' => I (i + 1) s' | .bk s' => J s' | .rt r => R r)
  (hn : ∀ s, I as.length s → P (.nx s)) (hj : ∀ s, J s → P (.nx s)) (hr : ∀ r, R r → P (.rt r)) : OK (EA f as s0) P := by
 have key : ∀ (n i : Nat) (s : S), n = as.length - i → i ≤ as.length → I i s → OK (EA f (as.drop i) s) P := by
  intro n
  induction n with
  | zero =>
   intro i s hn0 hi hI
   have e : i = as.length := by omega
   subst e
   rw [List.drop_length]
   exact AM (hn s hI)
  | succ n ih =>
   intro i s hn0 hi hI
   have hlt : i < as.length := by omega
   rw [List.drop_eq_getElem_cons hlt]
   obtain ⟨fl, e, h⟩ := hs i as[i] s (by simp [hlt]) hI
   show OK ((f as[i] s).bind _) P
   rw [e]
   cases fl with
   | nx s' => exact ih (i + 1) s' (by omega) hlt h
   | bk s' => exact AM (hj s' h)
   | rt r => exact AM (hr r h)
 exact key as.length 0 s0 (by omega) (Nat.zero_le _) h0
theorem Ep {f : α → S → Option (Fl S ρ)} {as : List α} {s0 : S} (I : Nat → S → Prop) {P : Fl S ρ → Prop} (h0 : I 0 s0)
  (hs : ∀ (i : Nat) a s, as[i]? = some a → I i s → OK (f a s) fun fl => ∃ s', fl = .nx s' ∧ I (i + 1) s') (hn : ∀ s, I as.length s → P (.nx s)) : OK (EA f as s0) P :=
 ok_for I (fun _ => False) (fun _ => False) h0 (fun i a s ha hI => (hs i a s ha hI).mono fun fl ⟨s', e, h⟩ => by subst e; exact h) hn (fun _ h => h.elim) fun _ h => h.elim
theorem ok_while {c : S → Option Bool} {f : S → Option (Fl S ρ)} {s0 : S} (I : S → Prop) (J : S → Prop) (R : ρ → Prop) (μ : S → Nat) {P : Fl S ρ → Prop} (h0 : I s0) (hμ : μ s0 < 1000000)
  (hs : ∀ s, I s → OK (c s) fun b => if b = true then OK (f s) fun fl => match fl with | .nx s' => I s' ∧ μ s' < μ s | .bk s' => J s' | .rt r => R r else P (.nx s))
  (hj : ∀ s, J s → P (.nx s)) (hr : ∀ r, R r → P (.rt r)) : OK (FN c f fuelW s0) P := by
 have key : ∀ (n : Nat) (s : S), μ s < n → I s → OK (FN c f n s) P := by
  intro n
  induction n with
  | zero => intro s h; exact absurd h (Nat.not_lt_zero _)
  | succ n ih =>
   intro s hlt hI
   obtain ⟨b, e, h⟩ := hs s hI
   show OK ((c s).bind _) P
   rw [e]
   cases b with
   | false =>
    rw [if_neg Bool.false_ne_true] at h
    exact AM h
   | true =>
    rw [if_pos rfl] at h
    obtain ⟨fl, e2, h⟩ := h
    show OK ((f s).bind _) P
    rw [e2]
    cases fl with
    | nx s' => exact ih s' (by have := h.2; omega) h.1
    | bk s' => exact AM (hj s' h)
    | rt r => exact AM (hr r h)
 exact key fuelW s0 (by unfold fuelW; omega) h0
theorem ok_map {f : α → Option β} {g : α → β} {P : List β → Prop} : ∀ {as : List α}, (∀ a ∈ as, f a = some (g a)) → P (as.map g) → OK (EJ f as) P := by
 intro as
 have key : ∀ as : List α, (∀ a ∈ as, f a = some (g a)) → EJ f as = some (as.map g) := by
  intro as
  induction as with
  | nil => intro _; rfl
  | cons a r ih =>
   intro h
   show ((f a).bind fun y => (EJ f r).bind fun ys => some (y :: ys)) = _
   rw [h a List.mem_cons_self, ih fun x hx => h x (List.mem_cons_of_mem _ hx)]
   rfl
 exact fun h p => ⟨_, key as h, p⟩
theorem ok_comp {fc : α → Option Bool} {fe : α → Option β} {c : α → Bool} {g : α → β} {P : List β → Prop} {as : List α} (hc : ∀ a ∈ as, fc a = some (c a)) (he : ∀ a ∈ as, c a = true → fe a = some (g a)) (p : P ((as.filter c).map g)) : OK (Cd fc fe as) P := by
 have key : ∀ as : List α, (∀ a ∈ as, fc a = some (c a)) → (∀ a ∈ as, c a = true → fe a = some (g a)) → Cd fc fe as = some ((as.filter c).map g) := by
  intro as
  induction as with
  | nil => intro _ _; rfl
  | cons a r ih =>
   intro h1 h2
   have i := ih (fun x hx => h1 x (List.mem_cons_of_mem _ hx)) fun x hx => h2 x (List.mem_cons_of_mem _ hx)
   show ((fc a).bind fun b => cond b ((fe a).bind fun y => (Cd fc fe r).bind fun ys => some (y :: ys)) (Cd fc fe r)) = _
   rw [h1 a List.mem_cons_self, i]
   cases hb : c a with
   | true =>
    show ((fe a).bind fun y => _) = _
    rw [h2 a List.mem_cons_self hb]
    simp [hb]
   | false => simp [hb]
 exact ⟨_, key as hc he, p⟩
end
end L2
namespace Lasso
variable {α β : Type}
end Lasso
namespace Lasso
variable {α : Type} [DecidableEq α]
end Lasso
namespace L2
open PySem PySem.Spec PyProof.Rows
section
variable {K : PySem.W.Frag} {σ : St} {G H G0 H0 Gx G1 H1 G2 H2 : Hp} {α β : Type} [Rp α] [Rp β] {ta tb tc te : TE} {tt : TT} {t u rest : TS} {D : Ends} {i j : Nat} {v : V}
end
noncomputable def GN {α : Type} : List α → Option (α × List α)
 | [] => none
 | [a] => some (a, [])
 | a :: b :: r => (GN (b :: r)).bind fun p => some (p.1, a :: p.2)
theorem popO_eq {α : Type} : ∀ {as : List α} (h : as ≠ []), GN as = some (as.getLast h, as.dropLast)
 | [], h => absurd rfl h
 | [a], _ => rfl
 | a :: b :: r, _ => by
  show ((GN (b :: r)).bind fun p => some (p.1, a :: p.2)) = _
  rw [popO_eq (by simp)]
  rfl
theorem Paired.last {α β : Type} {R : α → β → Prop} : ∀ {vs : List α} {as : List β} {a : β} {as' : List β}, Paired R vs as → GN as = some (a, as') → ∃ w, vs[vs.length - 1]? = some w ∧ R w a ∧ Paired R vs.dropLast as'
 | _, _, _, _, .nil, hp => by cases hp
 | _, _, _, _, .cons h .nil, hp => by
  cases hp
  exact ⟨_, rfl, h, .nil⟩
 | _, _, _, _, .cons h (.cons h2 t), hp => by
  obtain ⟨q, hq, e⟩ := Option.bind_eq_some_iff.mp hp
  cases e
  obtain ⟨w, hw, r, pr⟩ := Paired.last (.cons h2 t) hq
  exact ⟨w, by simpa using hw, r, .cons h pr⟩
section
variable {X : Cx} {K : PySem.W.Frag} {o : Expr} {to : TE} {name : Str} {apos cpos : Pos} {T id : String} {r : V → List V → Hp → VK → Prop}
theorem Fs (h : X.K = K) (pa : PlainAttrs T) (slot : Slot T name id) (hty : typeOf (.builtin id) = pure (.type "method_descriptor")) (hm : MtR X id r) (ho : PE X o to)
  (hbase : attributeBase o name X.env (eval o X.env) = eval o X.env := by rfl) (hline : (apos.endLine == cpos.line) = true := by rfl) : PE X (.Call (.Attribute o name apos) [] [] cpos) (tBM0 K T r to) := h ▸ pe_bm0 pa slot hty hm ho hbase hline
end
section
variable {K : PySem.W.Frag} {σ : St} {G H G1 H1 G0 H0 : Hp} {α β : Type} [Rp α] [Rp β] {te ti : TE} {tt : TT} {t u rest : TS} {D : Ends} {i j : Nat} {a : α} {m : Option α} {as : List α} {v : V} {p q : Addr} {vs : List V}
theorem sv_pop {as' : List α} (hσ : σ[i]? = some (some v)) (o : Own K G H v p vs as) (hp : GN as = some (a, as'))
  (k : ∀ w, Rp.rel K G w a → Own K G (upd H p (.lst vs.dropLast)) v p vs.dropLast as' → rest D (σ.set j (some w)) (upd H p (.lst vs.dropLast))) : CK (FJ (tBM0 K "list" rPop (Bc i)) (D2 j)) rest D σ H := by
 obtain ⟨rfl, og, oh, oz, op⟩ := o
 obtain ⟨w, hw, r, pr⟩ := Paired.last op hp
 refine ⟨_, hσ, .inl ⟨rfl, _, SqL.of oh⟩, p, vs, w, rfl, rfl, oh, hw, ?_⟩
 refine k w r ⟨rfl, og, AQ, ?_, pr⟩
 rw [List.length_dropLast]
 omega
noncomputable def era (H : Hp) (C : List Addr) : Hp := fun a => if a ∈ C then none else H a
theorem Es {C : List Addr} {b : Addr} (h : b ∈ C) : era H C b = none := if_pos h
theorem Do {C : List Addr} {b : Addr} (h : b ∉ C) : era H C b = H b := if_neg h
theorem era_same {C : List Addr} : Same (era H C) H := fun b o e => by
 by_cases h : b ∈ C
 ·rw [Es h] at e
  cases e
 ·rw [Do h] at e
  exact e
theorem Ext.begin {C : List Addr} (s : Same G H) : Ext G (era H C) G H := ⟨.refl _, s, era_same, fun _ h _ => h⟩
theorem Ext.past {C : List Addr} (x : Ext G0 H0 G H) (h0 : ∀ b ∈ C, H0 b = none) (y : Ext G (era H C) G1 H1) : Ext G0 H0 G1 H1 := by
 refine ⟨x.gg.trans y.gg, y.gh, fun b o e => ?_, fun b g h => ?_⟩
 ·have hb : b ∉ C := fun hc => by
   rw [h0 b hc] at e
   cases e
  exact y.hh b o (by rw [Do hb]; exact x.hh b o e)
 ·have hb : b ∉ C := fun hc => h (h0 b hc)
  refine y.no b (x.no b g h) ?_
  rw [Do hb]
  cases e : H0 b with
  | none => exact absurd e h
  | some o =>
   rw [x.hh b o e]
   exact fun z => nomatch z
theorem Own.past {C : List Addr} (o : Own K G H v p vs as) (hp : p ∉ C) (y : Ext G (era H C) G1 H1) : Own K G1 H1 v p vs as :=
 ⟨o.v, y.no p o.g (by rw [Do hp, o.h]; exact fun z => nomatch z), y.hh _ _ (by rw [Do hp]; exact o.h), o.z, Paired.imp' (fun _ _ r => Rp.mono y.gg r) o.p⟩
noncomputable def spW2 (K : PySem.W.Frag) {A : Type} [RpA A] {α β : Type} [Rp α] [Rp β] (m : List α → List β → A → Option (List α × List β)) : Sp := fun vs H Q _ =>
 ∃ G p q xs ys us as bs a r, vs = .ref p :: .ref q :: us ∧ Same G H ∧ p ≠ q ∧ Own K G H (.ref p) p xs as ∧ Own K G H (.ref q) q ys bs ∧ RpA.rel K G us a ∧ m as bs a = some r ∧
  ∀ G2 H2 xs' ys', Ext G (era H [p, q]) G2 H2 → Own K G2 H2 (.ref p) p xs' r.1 → Own K G2 H2 (.ref q) q ys' r.2 → Q .non H2
theorem spW2_len {A : Type} [RpA A] {m : List α → List β → A → Option (List α × List β)} {vs : List V} {Q : VK} {E : XK} (h : spW2 K m vs H Q E) : vs.length = RpA.n A + 2 := by
 obtain ⟨G, p, q, xs, ys, us, as, bs, a, r, rfl, _, _, _, _, h, _⟩ := h
 rw [List.length_cons, List.length_cons, RpA.len h]
theorem sv_callW2 {A : Type} [RpA A] {bs : List β} {w : V} {ws : List V} {mA : Option A} {ta : TA} {c : A} {m : List α → List β → A → Option (List α × List β)} {r : List α × List β} (hσ : σ[i]? = some (some v)) (hτ : σ[j]? = some (some w)) (o : Own K G H v p vs as) (o2 : Own K G H w q ws bs) (ne : p ≠ q) (ea : AV K ta σ G mA) (ha : mA = some c) (hm : m as bs c = some r) (s : Same G H)
  (k : ∀ G1 H1 G2 H2 vs' ws', Ext G H G1 H1 → Ext G1 (era H1 [p, q]) G2 H2 → Own K G2 H2 v p vs' r.1 → Own K G2 H2 w q ws' r.2 → rest D σ H2) : CK (tDrop (Dv (spW2 K m) [] E0 (Ag (Bc i) (Ag (Bc j) ta)))) rest D σ H := by
 have ov := o.v
 have ow := o2.v
 subst ov
 subst ow
 refine ⟨_, hσ, _, hτ, ?_⟩
 refine ea G (.refl G) c ha H s _ fun us G1 H1 x h => ?_
 exact ⟨G1, p, q, vs, ws, us, as, bs, c, r, List.append_nil _, x.gh, ne, o.ext x, o2.ext x, h, hm, fun G2 H2 xs' ys' y o' o2' => k G1 H1 G2 H2 xs' ys' x y o' o2'⟩
end
inductive Nt where
 | txt (x : Str)
 | tup (l : List Nt)
 | int (n : Int)
mutual
noncomputable def Nt.dec : (a b : Nt) → Decidable (a = b)
 | .txt x, .txt y => if h : x = y then .isTrue (by rw [h]) else .isFalse fun e => h (by cases e; rfl)
 | .txt _, .tup _ => .isFalse fun e => by cases e
 | .tup _, .txt _ => .isFalse fun e => by cases e
 | .int m, .int n => if h : m = n then .isTrue (by rw [h]) else .isFalse fun e => h (by cases e; rfl)
 | .int _, .txt _ => .isFalse fun e => by cases e
 | .int _, .tup _ => .isFalse fun e => by cases e
 | .txt _, .int _ => .isFalse fun e => by cases e
 | .tup _, .int _ => .isFalse fun e => by cases e
 | .tup l, .tup m => match Nt.decs l m with
  | .isTrue h => .isTrue (by rw [h])
  | .isFalse h => .isFalse fun e => h (by cases e; rfl)
noncomputable def Nt.decs : (l m : List Nt) → Decidable (l = m)
 | [], [] => .isTrue rfl
 | [], _ :: _ => .isFalse fun e => by cases e
 | _ :: _, [] => .isFalse fun e => by cases e
 | a :: l, b :: m => match Nt.dec a b with
  | .isFalse h => .isFalse fun e => h (by cases e; rfl)
  | .isTrue h => match Nt.decs l m with
   | .isTrue h2 => .isTrue (by rw [h, h2])
   | .isFalse h2 => .isFalse fun e => h2 (by cases e; rfl)
end
noncomputable instance ntDec : DecidableEq Nt := Nt.dec
mutual
noncomputable def Nt.dep : Nt → Nat
 | .txt _ => 0
 | .int _ => 0
 | .tup l => Nt.deps l + 1
noncomputable def Nt.deps : List Nt → Nat
 | [] => 0
 | a :: l => max (Nt.dep a) (Nt.deps l)
end
mutual
inductive RelN (K : PySem.W.Frag) (H : Hp) : V → Nt → Prop where
 | txt (x : Str) (z : x.length ≤ sizeLine) : RelN K H (.str x) (.txt x)
 | int (n : Int) : RelN K H (.int n) (.int n)
 | tup {a : Addr} {xs : List V} {ds : List Nt} (h : SqT K H a xs) (z : xs.length ≤ sizeLine) (r : RelNs K H xs ds) (l : ds[0]? = some (.txt "lamp") → H a = some (.tup xs)) : RelN K H (.ref a) (.tup ds)
inductive RelNs (K : PySem.W.Frag) (H : Hp) : List V → List Nt → Prop where
 | nil : RelNs K H [] []
 | cons {x : V} {d : Nt} {xs : List V} {ds : List Nt} (h : RelN K H x d) (t : RelNs K H xs ds) : RelNs K H (x :: xs) (d :: ds)
end
mutual
theorem RelN.mono {K : PySem.W.Frag} {H H' : Hp} (s : Same H H') : ∀ {v : V} {d : Nt}, RelN K H v d → RelN K H' v d
 | _, _, .txt x z => .txt x z
 | _, _, .int n => .int n
 | _, _, .tup h z r l => .tup (s.tup h) z (RelNs.mono s r) fun e => s _ _ (l e)
theorem RelNs.mono {K : PySem.W.Frag} {H H' : Hp} (s : Same H H') : ∀ {v : List V} {d : List Nt}, RelNs K H v d → RelNs K H' v d
 | _, _, .nil => .nil
 | _, _, .cons h t => .cons (RelN.mono s h) (RelNs.mono s t)
end
noncomputable instance rpN : Rp Nt := ⟨RelN, fun s h => RelN.mono s h⟩
theorem relNs_of {K : PySem.W.Frag} {H : Hp} : ∀ {xs : List V} {ds : List Nt}, Paired (Rp.rel K H) xs ds → RelNs K H xs ds
 | _, _, .nil => .nil
 | _, _, .cons h t => .cons h (relNs_of t)
theorem of_relNs {K : PySem.W.Frag} {H : Hp} : ∀ {xs : List V} {ds : List Nt}, RelNs K H xs ds → Paired (Rp.rel K H) xs ds
 | _, _, .nil => .nil
 | _, _, .cons h t => .cons h (of_relNs t)
theorem SqT.keep {K : PySem.W.Frag} {H H' : Hp} {a : Addr} {xs : List V} (s : TupK H H') (h : SqT K H a xs) : SqT K H' a xs := by
 rcases h with h | h
 ·exact .inl (s.rd _ _ h)
 ·exact .inr h
mutual
theorem RelN.keep {K : PySem.W.Frag} {H H' : Hp} (s : TupK H H') : ∀ {v : V} {d : Nt}, RelN K H v d → RelN K H' v d
 | _, _, .txt x z => .txt x z
 | _, _, .int n => .int n
 | _, _, .tup h z r l => .tup (SqT.keep s h) z (RelNs.keep s r) fun e => s.eq _ _ (l e)
theorem RelNs.keep {K : PySem.W.Frag} {H H' : Hp} (s : TupK H H') : ∀ {v : List V} {d : List Nt}, RelNs K H v d → RelNs K H' v d
 | _, _, .nil => .nil
 | _, _, .cons h t => .cons (RelN.keep s h) (RelNs.keep s t)
end
noncomputable instance imN : Imm Nt := ⟨fun s h => RelN.keep s h⟩
noncomputable def isTxt : Hp → V → Nt → Prop := fun _ v a => (∃ x, v = .str x ∧ a = .txt x) ∨ ∃ n, v = .int n ∧ a = .int n
noncomputable def isU (K : PySem.W.Frag) (R : Hp → V → Nt → Prop) : Hp → V → Nt → Prop := fun H v a => isTxt H v a ∨ ∃ t xs l, v = .ref t ∧ SqT K H t xs ∧ a = .tup l ∧ Paired (R H) xs l
theorem txt_dec (x y : Str) : decide (Nt.txt x = Nt.txt y) = (x == y) := by
 rw [Dl]
 exact decide_eq_decide.mpr ⟨fun e => by cases e; rfl, fun e => by rw [e]⟩
theorem int_dec (m n : Int) : decide (Nt.int m = Nt.int n) = (m == n) := by
 rw [show (m == n) = decide (m = n) from rfl]
 exact decide_eq_decide.mpr ⟨fun e => by cases e; rfl, fun e => by rw [e]⟩
theorem eqTxt {K : PySem.W.Frag} : EqTy K 0 isTxt where
 fn := fun _ _ h h' => by
  rcases h with ⟨x, h1, e1⟩ | ⟨x, h1, e1⟩ <;> rcases h' with ⟨y, h2, e2⟩ | ⟨y, h2, e2⟩ <;> (subst h1; first | (cases h2; rw [e1, e2]; done) | cases h2)
 eq := fun A _ _ _ r1 r2 h h' => by
  rcases h with ⟨x, h1, e1⟩ | ⟨x, h1, e1⟩ <;> rcases h' with ⟨y, h2, e2⟩ | ⟨y, h2, e2⟩ <;> subst h1 <;> subst h2 <;> subst e1 <;> subst e2 <;> obtain ⟨t, rfl⟩ := r1 <;> obtain ⟨t', rfl⟩ := r2
  ·rw [txt_dec]
   exact SeqAt.EqAt.str_str _ _ _ _
  ·rw [decide_eq_false (fun e => by cases e)]
   exact SeqAt.EqAt.str_int _ _ _ _
  ·rw [decide_eq_false (fun e => by cases e)]
   exact SeqAt.EqAt.int_str _ _ _ _
  ·rw [int_dec]
   exact SeqAt.EqAt.int_int _ _ _ _
 rc := fun A _ _ _ r1 r2 h h' => by
  rcases h with ⟨x, h1, e1⟩ | ⟨x, h1, e1⟩ <;> rcases h' with ⟨y, h2, e2⟩ | ⟨y, h2, e2⟩ <;> subst h1 <;> subst h2 <;> subst e1 <;> subst e2 <;> obtain ⟨t, rfl⟩ := r1 <;> obtain ⟨t', rfl⟩ := r2
  ·rw [txt_dec]
   exact ⟨SeqAt.RcAt.str_str _ _ _ _, SeqAt.RcNeAt.str_str _ _ _ _⟩
  ·rw [decide_eq_false (fun e => by cases e)]
   exact ⟨SeqAt.RcAt.str_int _ _ _ _, SeqAt.RcNeAt.str_int _ _ _ _⟩
  ·rw [decide_eq_false (fun e => by cases e)]
   exact ⟨SeqAt.RcAt.int_str _ _ _ _, SeqAt.RcNeAt.int_str _ _ _ _⟩
  ·rw [int_dec]
   exact ⟨SeqAt.RcAt.int_int _ _ _ _, SeqAt.RcNeAt.int_int _ _ _ _⟩
theorem tups_dec {as bs : List Nt} {n m : Nat} (hn : n = as.length) (hm : m = bs.length) : ((List.range (min n m)).all (fun j => decide (as[j]? = bs[j]?)) && n == m) = decide (Nt.tup as = Nt.tup bs) := by
 subst hn
 subst hm
 by_cases hl : as.length = bs.length
 ·rw [← hl, Nat.min_self, beq_self_eq_true, Bool.and_true, all_dec as bs hl]
  exact decide_eq_decide.mpr ⟨fun e => by rw [e], fun e => by cases e; rfl⟩
 ·have h : (as.length == bs.length) = false := by simpa using hl
  have ne : Nt.tup as ≠ Nt.tup bs := fun e => by
   cases e
   exact hl rfl
  rw [h, Bool.and_false, decide_eq_false ne]
theorem eqNu {K : PySem.W.Frag} {k : Nat} {R : Hp → V → Nt → Prop} (E : EqTy K k R) : EqTy K (k + 1) (isU K R) := by
 have fn : ∀ {X : Cx} {pins : List (Addr × Obj)} {σ : St} {H : Hp} {s : Shared} {x : V} {a b : Nt}, X.K = K → Inv X pins σ H s → isU K R H x a → isU K R H x b → a = b := by
  intro X pins σ H s x a b hK I ha hb
  rcases ha with ha | ⟨t, xs, l, rfl, h1, rfl, p1⟩
  ·rcases hb with hb | ⟨t, xs, l, e, _⟩
   ·exact eqTxt.fn (K := K) hK I ha hb
   ·subst e
    rcases ha with ⟨z, e, _⟩ | ⟨z, e, _⟩ <;> cases e
  ·rcases hb with hb | ⟨t', ys, l', e, h2, rfl, p2⟩
   ·rcases hb with ⟨z, e, _⟩ | ⟨z, e, _⟩ <;> cases e
   ·cases e
    subst hK
    have := I.tuple_inj h1 h2
    subst this
    rw [FU (F := R H) (fun _ _ _ p q => E.fn rfl I p q) p1 p2]
 have rc : ∀ {X : Cx} {pins : List (Addr × Obj)} {σ : St} {H : Hp} {s : Shared} {x y : V} {u v : Value} {a b : Nt} (A : Around), X.K = K → Inv X pins σ H s → A.units + (k + 1) < cLine → RelV x u → RelV y v → isU K R H x a → isU K R H y b →
   SeqAt.RcAt A s u v (decide (a = b)) ∧ SeqAt.RcNeAt A s u v (!decide (a = b)) := by
  intro X pins σ H s x y u v a b A hK I hu r1 r2 ha hb
  rcases ha with ha | ⟨t, xs, l, rfl, h1, rfl, p1⟩
  ·rcases hb with hb | ⟨t', ys, l', rfl, h2, rfl, p2⟩
   ·exact eqTxt.rc (K := K) A hK I (by omega) r1 r2 ha hb
   ·subst hK
    obtain ⟨vs, ry, ply, _⟩ := I.tuple h2
    rcases ha with ⟨z, rfl, rfl⟩ | ⟨z, rfl, rfl⟩ <;> obtain ⟨tk, rfl⟩ := r1 <;> cases r2 <;> rw [decide_eq_false (fun e => by cases e)]
    ·exact ⟨SeqAt.RcAt.str_tuple _ _ ply (by omega), SeqAt.RcNeAt.str_tuple _ _ ply (by omega)⟩
    ·exact ⟨SeqAt.RcAt.int_tuple _ _ ply (by omega), SeqAt.RcNeAt.int_tuple _ _ ply (by omega)⟩
  ·rcases hb with hb | ⟨t', ys, l', rfl, h2, rfl, p2⟩
   ·subst hK
    obtain ⟨us, rx, plx, _⟩ := I.tuple h1
    rcases hb with ⟨z, rfl, rfl⟩ | ⟨z, rfl, rfl⟩ <;> obtain ⟨tk, rfl⟩ := r2 <;> cases r1 <;> rw [decide_eq_false (fun e => by cases e)]
    ·exact ⟨SeqAt.RcAt.tuple_str _ _ plx (by omega), SeqAt.RcNeAt.tuple_str _ _ plx (by omega)⟩
    ·exact ⟨SeqAt.RcAt.tuple_int _ _ plx (by omega), SeqAt.RcNeAt.tuple_int _ _ plx (by omega)⟩
   ·cases r1; cases r2
    subst hK
    obtain ⟨us, rx, plx, _⟩ := I.tuple h1
    obtain ⟨vs, ry, ply, _⟩ := I.tuple h2
    have lx := rx.length
    have ly := ry.length
    have lpx := Paired.length p1
    have lpy := Paired.length p2
    have it := items_eqAt E rfl I hu rx ry p1 p2
    rw [← tups_dec (as := l) (bs := l') (n := us.toArray.size) (m := vs.toArray.size) (by simp; omega) (by simp; omega)]
    exact ⟨SeqAt.RcAt.tuples plx ply (by omega) it, SeqAt.RcNeAt.tuples plx ply (by omega) it⟩
 refine ⟨fn, ?_, rc⟩
 intro X pins σ H s x y u v a b A hK I hu r1 r2 ha hb
 have h := (rc A hK I hu r1 r2 ha hb).1
 rcases id ha with ha' | ⟨t, xs, l, rfl, h1, rfl, p1⟩
 ·rcases id hb with hb' | ⟨t', ys, l', rfl, h2, rfl, p2⟩
  ·exact eqTxt.eq (K := K) A hK I (by omega) r1 r2 ha' hb'
  ·subst hK
   obtain ⟨vs, ry, ply, _⟩ := I.tuple h2
   rcases ha' with ⟨z, rfl, rfl⟩ | ⟨z, rfl, rfl⟩ <;> obtain ⟨tk, rfl⟩ := r1 <;> cases r2 <;> rw [decide_eq_false (fun e => by cases e)]
   ·exact SeqAt.EqAt.str_tuple _ _ ply (by omega)
   ·exact SeqAt.EqAt.int_tuple _ _ ply (by omega)
 ·rcases id hb with hb' | ⟨t', ys, l', rfl, h2, rfl, p2⟩
  ·subst hK
   obtain ⟨us, rx, plx, _⟩ := I.tuple h1
   rcases hb' with ⟨z, rfl, rfl⟩ | ⟨z, rfl, rfl⟩ <;> obtain ⟨tk, rfl⟩ := r2 <;> cases r1 <;> rw [decide_eq_false (fun e => by cases e)]
   ·exact SeqAt.EqAt.tuple_str _ _ plx (by omega)
   ·exact SeqAt.EqAt.tuple_int _ _ plx (by omega)
  ·cases r1; cases r2
   by_cases e : t = t'
   ·subst e
    have := fn hK I ha hb
    rw [decide_eq_true this]
    exact SeqAt.EqAt.same _
   ·exact SeqAt.EqAt.of_refs e h
noncomputable def isN (K : PySem.W.Frag) (d : Nat) : Hp → V → Nt → Prop := fun H v a => RelN K H v a ∧ a.dep ≤ d
theorem isNs {K : PySem.W.Frag} {H : Hp} {d : Nat} : ∀ {xs : List V} {l : List Nt}, RelNs K H xs l → Nt.deps l ≤ d → Paired (isN K d H) xs l
 | _, _, .nil, _ => .nil
 | _, _, .cons h t, hd => by
  unfold Nt.deps at hd
  exact .cons ⟨h, by omega⟩ (isNs t (by omega))
theorem eqN {K : PySem.W.Frag} : ∀ d : Nat, EqTy K d (isN K d)
 | 0 => eqTxt.imp fun H v a ⟨h, hd⟩ => by
  cases h with
  | txt x z => exact .inl ⟨x, rfl, rfl⟩
  | int n => exact .inr ⟨n, rfl, rfl⟩
  | tup h z r l =>
   unfold Nt.dep at hd
   omega
 | d + 1 => (eqNu (eqN d)).imp fun H v a ⟨h, hd⟩ => by
  cases h with
  | txt x z => exact .inl (.inl ⟨x, rfl, rfl⟩)
  | int n => exact .inl (.inr ⟨n, rfl, rfl⟩)
  | tup h z r l =>
   unfold Nt.dep at hd
   exact .inr ⟨_, _, _, rfl, h, rfl, isNs r (by omega)⟩
noncomputable def rEqN (K : PySem.W.Frag) : R2 := fun x y H Q => ∃ a b : Nt, isN K 180 H x a ∧ isN K 180 H y b ∧ Q (.bl (decide (a = b))) H
theorem op_eqN {X : Cx} {K : PySem.W.Frag} {j : Nat} (hK : X.K = K) (hr : Room j X.A) : OpR X (compareOp .Eq) (rEqN K) := by
 intro pins s σ H x y v u Q I rx ry h
 obtain ⟨a, b, h1, h2, q⟩ := h
 exact ((eqN 180).rc X.A hK I (by have := hr.un; omega) rx ry h1 h2).1 _ _ _ _ ⟨.bl _, H, I, rfl, q⟩
noncomputable def eqNO (a b : Nt) : Option Bool := if a.dep ≤ 180 ∧ b.dep ≤ 180 then some (decide (a = b)) else none
section
variable {K : PySem.W.Frag} {σ : St} {G : Hp} {ta tb te : TE} {m1 m2 md : Option Nt}
theorem ev_eqN (ea : EV K ta σ G m1) (eb : EV K tb σ G m2) : EV K (tOp (rEqN K) ta tb) σ G (m1.bind fun a => m2.bind fun b => eqNO a b) :=
 CA (fun s ra rb e Q k => by
  obtain ⟨⟨h1, h2⟩, rfl⟩ := BN e
  exact ⟨_, _, ⟨RelN.mono s ra, h1⟩, ⟨RelN.mono s rb, h2⟩, k _ _ _ (.refl s) rfl⟩) ea eb
theorem Ak {m : Option Str} (e : EV K te σ G m) : EV K te σ G (m.bind fun x => some (Nt.txt x)) := by
 intro G1 s1 c hc H sH Q k
 obtain ⟨x, hx, hc⟩ := Option.bind_eq_some_iff.mp hc
 cases hc
 exact e G1 s1 x hx H sH Q fun v G2 H2 x2 ⟨e, z⟩ => k v G2 H2 x2 (by subst e; exact .txt _ z)
noncomputable def Bz : Nt → Option Str
 | .txt x => some x
 | _ => none
noncomputable def BF : Nt → Option (Tp Nt)
 | .tup l => some ⟨l⟩
 | _ => none
theorem D4 (e : EV K te σ G md) : EV K te σ G (md.bind fun d => Bz d) := by
 intro G1 s1 c hc H sH Q k
 obtain ⟨d, hd, hc⟩ := Option.bind_eq_some_iff.mp hc
 refine e G1 s1 d hd H sH Q fun v G2 H2 x r => ?_
 cases r with
 | txt y z =>
  cases hc
  exact k _ _ _ x ⟨rfl, z⟩
 | int n => cases hc
 | tup h z r l => cases hc
theorem BE (e : EV K te σ G md) : EV K te σ G (md.bind fun d => BF d) := by
 intro G1 s1 c hc H sH Q k
 obtain ⟨d, hd, hc⟩ := Option.bind_eq_some_iff.mp hc
 refine e G1 s1 d hd H sH Q fun v G2 H2 x r => ?_
 cases r with
 | txt y z => cases hc
 | int n => cases hc
 | tup h z r l =>
  cases hc
  exact k _ _ _ x ⟨_, _, rfl, h, z, of_relNs r⟩
end
section
variable {X : Cx} {K : PySem.W.Frag}
theorem sl_tupK (h : X.K = K) : SlR X (rSlT K) := h ▸ sl_tup
theorem op_notInK (h : X.K = K) : OpR X (compareOp .NotIn) (rIn K true) := h ▸ op_notIn_seq
end
section
variable {K : PySem.W.Frag} {σ : St} {G : Hp} {α : Type} [Rp α] {ta tb tc te : TE} {t1 t2 : TO} {ia ib ic : Option Int} {m1 m2 : Option (Option Int)}
theorem ev_chain {p p' : Int → Int → Bool} {q q' : List Nat → List Nat → Bool} (ea : EV K ta σ G ia) (eb : EV K tb σ G ib) (ec : EV K tc σ G ic) :
  EV K (tChain (rOrd p q) (rOrd p' q') ta tb tc) σ G (ia.bind fun a => ib.bind fun b => cond (p a b) (ic.bind fun c => some (p' b c)) (some false)) := by
 intro G1 s1 r hr H sH Q k
 obtain ⟨a, ha, hr⟩ := Option.bind_eq_some_iff.mp hr
 obtain ⟨b, hb, hr⟩ := Option.bind_eq_some_iff.mp hr
 refine ea G1 s1 a ha H sH _ fun v G2 H2 x2 r2 => ?_
 refine eb G2 (s1.trans x2.gg) b hb H2 x2.gh _ fun u G3 H3 x3 r3 => ?_
 cases r2
 cases r3
 refine ⟨p a b, rfl, ?_⟩
 cases hp : p a b with
 | false =>
  rw [hp] at hr
  cases hr
  rw [if_neg Bool.false_ne_true]
  exact k _ _ _ (x2.trans x3) rfl
 | true =>
  rw [hp] at hr
  obtain ⟨c, hc, hr⟩ := Option.bind_eq_some_iff.mp (cT hr)
  cases hr
  rw [if_pos rfl]
  refine ec G3 (s1.trans (x2.trans x3).gg) c hc H3 x3.gh _ fun w G4 H4 x4 r4 => ?_
  cases r4
  exact k _ _ _ ((x2.trans x3).trans x4) rfl
noncomputable def cutT? {α : Type} (l : List α) (lo hi : Option Int) : Option (Tp α) := if ¬ (HT.sIx l.length 0 lo = 0 ∧ HT.sIx l.length l.length hi = l.length) then some ⟨Cf l lo hi⟩ else none
theorem ev_sliceT {ma : Option (Tp α)} (ea : EV K ta σ G ma) (e1 : OV t1 σ G m1) (e2 : OV t2 σ G m2) : EV K (tSl (rSlT K) ta t1 t2) σ G (ma.bind fun a => m1.bind fun lo => m2.bind fun hi => cutT? a.l lo hi) := by
 intro G1 s1 c hc H sH Q k
 obtain ⟨a, ha, hc⟩ := Option.bind_eq_some_iff.mp hc
 obtain ⟨lo, hlo, hc⟩ := Option.bind_eq_some_iff.mp hc
 obtain ⟨hi, hhi, hc⟩ := Option.bind_eq_some_iff.mp hc
 obtain ⟨hw, rfl⟩ := BN hc
 refine ea G1 s1 a ha H sH _ fun v G2 H2 x2 r2 => ?_
 refine e1 G2 (s1.trans x2.gg) lo hlo H2 x2.gh _ fun G3 H3 x3 => ?_
 refine e2 G3 (s1.trans (x2.trans x3).gg) hi hhi H3 x3.gh _ fun G4 H4 x4 => ?_
 obtain ⟨l, xs, rfl, h, z, p⟩ := Rp.mono (x3.trans x4).gg r2
 have hl := Paired.length p
 refine ⟨l, xs, rfl, x4.gh.tup h, by rw [hl]; exact hw, fun q hq => ?_⟩
 have hg : G4 q = none := x4.gh.free hq
 refine k _ (upd G4 q (.tup (GT xs lo hi))) _ (((x2.trans x3).trans x4).trans ⟨Same.new hg, fun b o e => ?_, Same.new hq, fun b h1 h2 => ?_⟩) ⟨q, _, rfl, .inl (.inl AQ), Nat.le_trans (Dt _ _ _) z, Paired.imp' (fun _ _ r => Rp.mono (Same.new hg) r) (Paired.cut p lo hi)⟩
 ·by_cases hb : b = q
  ·subst hb
   rw [AQ] at e ⊢
   exact e
  ·rw [Ao hb] at e ⊢
   exact x4.gh b o e
 ·have hb : b ≠ q := fun e => h2 (by rw [e]; exact hq)
  rw [Ao hb]
  exact h1
class Flat (α : Type) [Rp α] [DecidableEq α] : Prop where
 fl : ∀ {K : PySem.W.Frag} {H : Hp} {v : V} {a : α}, Rp.rel K H v a → Fe v = true
 eq : ∀ {K : PySem.W.Frag} {H H' : Hp} {v u : V} {a b : α}, Rp.rel K H v a → Rp.rel K H' u b → eqV v u = decide (a = b)
noncomputable instance flInt : Flat Int := ⟨fun h => by cases h; rfl, fun h h' => by cases h; cases h'; exact Dl _ _⟩
noncomputable instance flStr : Flat Str := ⟨fun h => by obtain ⟨rfl, _⟩ := h; rfl, fun h h' => by obtain ⟨rfl, _⟩ := h; obtain ⟨rfl, _⟩ := h'; exact Dl _ _⟩
noncomputable instance flBool : Flat Bool := ⟨fun h => by cases h; rfl, fun h h' => by cases h; cases h'; exact Dl _ _⟩
theorem flat_all [DecidableEq α] [Flat α] {H : Hp} : ∀ {xs : List V} {as : List α}, Paired (Rp.rel K H) xs as → xs.all Fe = true
 | _, _, .nil => rfl
 | _, _, .cons h t => by rw [List.all_cons, Flat.fl h, flat_all t]; rfl
theorem flat_in [DecidableEq α] [Flat α] {H H' : Hp} {v : V} {a : α} (hv : Rp.rel K H' v a) : ∀ {xs : List V} {as : List α}, Paired (Rp.rel K H) xs as → inV v xs = decide (a ∈ as)
 | _, _, .nil => by simp [inV]
 | _, _, .cons (b := b) h t => by
  have ih := flat_in hv t
  unfold inV at ih ⊢
  rw [List.any_cons, ih, Flat.eq h hv]
  apply Bool.eq_iff_iff.mpr
  simp only [Bool.or_eq_true, decide_eq_true_iff, List.mem_cons]
  exact ⟨fun h => h.imp Eq.symm id, fun h => h.imp Eq.symm id⟩
theorem ev_notInL [DecidableEq α] [Flat α] {ma : Option α} {ml : Option (List α)} (ea : EV K ta σ G ma) (eb : EV K tb σ G ml) : EV K (tOp (rIn K true) ta tb) σ G (ma.bind fun a => ml.bind fun l => some (!decide (a ∈ l))) :=
 CA (fun s ra rb e Q k => by
  cases e
  obtain ⟨l, xs, rfl, h, z, p⟩ := rb
  exact ⟨l, xs, rfl, .inl (.inl (s.rd h)), Flat.fl ra, flat_all p, by rw [if_pos rfl, flat_in ra p]; exact k _ _ _ (.refl s) rfl⟩) ea eb
end
mutual
noncomputable def Nt.toD : Nt → D
 | .txt x => .str x
 | .int n => .int n
 | .tup l => .tup (Nt.toDs l)
noncomputable def Nt.toDs : List Nt → List D
 | [] => []
 | a :: l => Nt.toD a :: Nt.toDs l
end
mutual
theorem RelN.toD {K : PySem.W.Frag} {H : Hp} : ∀ {v : V} {a : Nt}, RelN K H v a → RelD K H v a.toD
 | _, _, .txt x z => by unfold Nt.toD; exact .str x z
 | _, _, .int n => by unfold Nt.toD; exact .int n
 | _, _, .tup h z r _ => by unfold Nt.toD; exact .tup h z (RelNs.toD r)
theorem RelNs.toD {K : PySem.W.Frag} {H : Hp} : ∀ {xs : List V} {l : List Nt}, RelNs K H xs l → RelDs K H xs (Nt.toDs l)
 | _, _, .nil => by unfold Nt.toDs; exact .nil
 | _, _, .cons h t => by unfold Nt.toDs; exact .cons (RelN.toD h) (RelNs.toD t)
end
noncomputable instance tdN : ToD Nt := ⟨Nt.toD, fun h => RelN.toD h⟩
section
variable {K : PySem.W.Frag} {σ : St} {G H G1 H1 G0 H0 : Hp} {α β γ : Type} [Rp α] [Rp β] [Rp γ] {te ti : TE} {tt : TT} {t u rest : TS} {D : Ends} {i j : Nat} {as : List α} {bs : List β} {v w : V} {p q : Addr} {vs ws : List V}
theorem Own.over {o : HO} (h : Own K G H v p vs as) (ne : p ≠ q) (hq : G q = none) : Own K (upd G q o) H v p vs as :=
 ⟨h.v, by rw [Ao ne]; exact h.g, h.h, h.z, Paired.imp' (fun _ _ r => Rp.mono (Same.new hq) r) h.p⟩
theorem EV.runBB [Imm γ] {mb : Option γ} {b : γ} {Q : VK} (o1 : Own K G H v p vs as) (o2 : Own K G H w q ws bs) (ne : q ≠ p) (e : EV K te σ (upd (upd G p (.lst vs)) q (.lst ws)) mb) (hm : mb = some b) (s : Same G H)
  (k : ∀ w G2 H2, Ext G H G2 H2 → Rp.rel K G2 w b → Q w H2) : te σ H Q :=
 EV.runB (o2.over ne o1.g) e hm (o1.same s) fun w G2 H2 x r => k w (del G2 p) H2 (x.del o1.g) (Imm.del (x.gg _ _ AQ) r)
theorem TV.runBB {mb : Option Bool} {b : Bool} {Q : Bool → Hp → Prop} (o1 : Own K G H v p vs as) (o2 : Own K G H w q ws bs) (ne : q ≠ p) (e : TV tt σ (upd (upd G p (.lst vs)) q (.lst ws)) mb) (hm : mb = some b) (s : Same G H)
  (k : ∀ G2 H2, Ext G H G2 H2 → Q b H2) : tt σ H Q :=
 TV.runB (o2.over ne o1.g) e hm (o1.same s) fun G2 H2 x => k (del G2 p) H2 (x.del o1.g)
theorem sv_ifBB {b : Bool} {m : Option Bool} (o1 : Own K G H v p vs as) (o2 : Own K G H w q ws bs) (ne : q ≠ p) (e : TV tt σ (upd (upd G p (.lst vs)) q (.lst ws)) m) (hm : m = some b) (s : Same G H)
  (k : ∀ G2 H2, Ext G H G2 H2 → if b = true then t { D with nx := rest D } σ H2 else u { D with nx := rest D } σ H2) : CK (tIfS tt t u) rest D σ H := TV.runBB o1 o2 ne e hm s k
theorem Dx [Imm α] {a : α} {m : Option α} {mi : Option Int} {k' : Int} {as' : List α} (hσ : σ[i]? = some (some v)) (o : Own K G H v p vs as) (e : EV K te σ (upd G p (.lst vs)) m) (hm : m = some a) (ei : EV K ti σ G mi) (hi : mi = some k') (hs : setO as k' a = some as') (s : Same G H)
  (k : ∀ G2 H2 w j, Ext G H G2 H2 → Own K G2 (upd H2 p (.lst (vs.set j w))) v p (vs.set j w) as' → rest D σ (upd H2 p (.lst (vs.set j w)))) : CK (FJ te (gSub (Bc i) ti rSetL)) rest D σ H := by
 obtain ⟨j, hj, e'⟩ := Option.bind_eq_some_iff.mp hs
 cases e'
 have hlen := Paired.length o.p
 refine EV.runB o e hm s fun w G2 H2 x r => ?_
 have o2 := o.ext x
 refine ⟨v, hσ, ?_⟩
 refine ei G2 x.gg k' hi H2 x.gh _ fun u G3 H3 x3 r3 => ?_
 cases r3
 have o3 := o2.ext x3
 refine ⟨p, vs, k', j, o3.v, rfl, o3.h, by rw [hlen]; exact hj, ?_⟩
 exact k G3 H3 w j (x.trans x3) ⟨o3.v, o3.g, AQ, by rw [List.length_set]; exact o3.z, Paired.st (Rp.mono x3.gg r) j o3.p⟩
end
section
variable {K : PySem.W.Frag} {σ : St} {G H G1 H1 G2 H2 G0 H0 : Hp} {α β γ δ : Type} [Rp α] [Rp β] [Rp γ] [Rp δ] {te ta tb ti : TE} {t : TA} {tt : TT} {rest : TS} {D : Ends} {i j n : Nat} {as as' : List α} {v w : V} {p q : Addr} {vs ws : List V}
theorem Ext.era (x : Ext G H G2 H2) (g : G2 p = none) : Ext G (era H [p]) G2 (L2.era H2 [p]) := by
 refine ⟨x.gg, fun b o e => ?_, fun b o e => ?_, fun b h1 h2 => x.no b h1 fun z => h2 ?_⟩
 ·have hb : b ≠ p := fun z => by
   rw [z, g] at e
   cases e
  rw [Do (by simpa using hb)]
  exact x.gh b o e
 ·by_cases hb : b = p
  ·rw [Es (by simpa using hb)] at e
   cases e
  ·rw [Do (by simpa using hb)] at e ⊢
   exact x.hh b o e
 ·by_cases hb : b = p
  ·exact Es (by simpa using hb)
  ·rw [Do (by simpa using hb)]
   exact z
noncomputable def BV (K : PySem.W.Frag) (te : TE) (σ : St) (G : Hp) (v : V) (p : Addr) (vs : List V) (as : List α) (m : Option γ) : Prop :=
 ∀ G1, Same G G1 → ∀ c, m = some c → ∀ H, Same G1 H → Own K G1 H v p vs as → ∀ Q : VK, (∀ w G2 H2, Ext G1 H G2 H2 → Rp.rel K G2 w c → Q w H2) → te σ H Q
noncomputable def PV (K : PySem.W.Frag) (te : TE) (σ : St) (G : Hp) (v : V) (p : Addr) (vs : List V) (as as' : List α) (m : Option γ) : Prop :=
 ∀ G1, Same G G1 → ∀ c, m = some c → ∀ H, Same G1 H → Own K G1 H v p vs as → ∀ Q : VK, (∀ w G2 H2, Ext G1 (era H [p]) G2 H2 → Own K G2 H2 v p vs.dropLast as' → Rp.rel K G2 w c → Q w H2) → te σ H Q
noncomputable def PL (K : PySem.W.Frag) (t : TA) (σ : St) (G : Hp) (v : V) (p : Addr) (vs : List V) (as as' : List α) (n : Nat) (m : Option (List γ)) : Prop :=
 ∀ G1, Same G G1 → ∀ c, m = some c → ∀ H, Same G1 H → Own K G1 H v p vs as → ∀ Q : List V → Hp → Prop, (∀ ws G2 H2, Ext G1 (era H [p]) G2 H2 → Own K G2 H2 v p vs.dropLast as' → ws.length = n → Paired (Rp.rel K G2) ws c → Q ws H2) → t σ H Q
theorem bv_ev {m : Option γ} (e : EV K te σ G m) : BV K te σ G v p vs as m := fun G1 s1 c hc H sH _ Q k => e G1 s1 c hc H sH Q k
theorem bv_own [Imm γ] {m : Option γ} (hp : G p = none) (e : EV K te σ (upd G p (.lst vs)) m) : BV K te σ G v p vs as m := fun G1 s1 c hc H sH o Q k => by
 have s2 : Same (upd G p (.lst vs)) (upd G1 p (.lst vs)) := fun b u h => by
  by_cases hb : b = p
  ·subst hb
   rw [AQ] at h ⊢
   exact h
  ·rw [Ao hb] at h ⊢
   exact s1 b u h
 exact EV.runB o (fun G2 s3 => e G2 (s2.trans s3)) hc sH k
theorem pv_pop {a : α} (hσ : σ[i]? = some (some v)) (hp : GN as = some (a, as')) : PV K (tBM0 K "list" rPop (Bc i)) σ G v p vs as as' (some a) := by
 intro G1 s1 c hc H sH o Q k
 cases hc
 obtain ⟨rfl, og, oh, oz, op⟩ := o
 obtain ⟨w, hw, r, pr⟩ := Paired.last op hp
 refine ⟨_, hσ, .inl ⟨rfl, _, SqL.of oh⟩, p, vs, w, rfl, rfl, oh, hw, ?_⟩
 refine k w G1 _ ⟨.refl _, fun b u e => ?_, fun b u e => ?_, fun _ h _ => h⟩ ⟨rfl, og, AQ, ?_, pr⟩ r
 ·have hb : b ≠ p := fun z => by
   rw [z, og] at e
   cases e
  rw [Ao hb]
  exact sH b u e
 ·by_cases hb : b = p
  ·rw [Es (by simpa using hb)] at e
   cases e
  ·rw [Do (by simpa using hb)] at e
   rw [Ao hb]
   exact e
 ·rw [List.length_dropLast]
  omega
theorem pl_here {m : Option γ} {ml : Option (List γ)} (e : PV K te σ G v p vs as as' m) (l : LV K t σ G n ml) : PL K (Ag te t) σ G v p vs as as' (n + 1) (m.bind fun a => ml.bind fun r => some (a :: r)) := by
 intro G1 s1 c hc H sH o Q k
 obtain ⟨a, ha, hc⟩ := Option.bind_eq_some_iff.mp hc
 obtain ⟨r, hr, hc⟩ := Option.bind_eq_some_iff.mp hc
 cases hc
 refine e G1 s1 a ha H sH o _ fun w G2 H2 x2 o2 r2 => ?_
 refine l G2 (s1.trans x2.gg) r hr H2 x2.gh _ fun ws G3 H3 x3 hl hp => ?_
 exact k _ G3 H3 (x2.trans x3) (o2.ext x3) (by rw [List.length_cons, hl]) (.cons (Rp.mono x3.gg r2) hp)
theorem pl_there {m : Option γ} {ml : Option (List γ)} (e : BV K te σ G v p vs as m) (l : PL K t σ G v p vs as as' n ml) : PL K (Ag te t) σ G v p vs as as' (n + 1) (m.bind fun a => ml.bind fun r => some (a :: r)) := by
 intro G1 s1 c hc H sH o Q k
 obtain ⟨a, ha, hc⟩ := Option.bind_eq_some_iff.mp hc
 obtain ⟨r, hr, hc⟩ := Option.bind_eq_some_iff.mp hc
 cases hc
 refine e G1 s1 a ha H sH o _ fun w G2 H2 x2 r2 => ?_
 have o2 := o.ext x2
 refine l G2 (s1.trans x2.gg) r hr H2 x2.gh o2 _ fun ws G3 H3 x3 o3 hl hp => ?_
 exact k _ G3 H3 ((x2.era o2.g).trans x3) o3 (by rw [List.length_cons, hl]) (.cons (Rp.mono x3.gg r2) hp)
theorem pv_tupN {ml : Option (List Nt)} (l : PL K t σ G v p vs as as' n ml) (hn : n ≤ sizeLine := by decide) : PV K (tTup t) σ G v p vs as as' (ml.bind fun l => some (Nt.tup l)) := by
 intro G1 s1 c hc H sH o Q k
 obtain ⟨l', hl', hc⟩ := Option.bind_eq_some_iff.mp hc
 cases hc
 refine l G1 s1 l' hl' H sH o _ fun ws G2 H2 x2 o2 hl hp => ⟨by omega, fun q h => ?_⟩
 have x3 : Ext G2 H2 (upd G2 q (.tup ws)) (upd H2 q (.tup ws)) := .new x2.gh h
 exact k _ _ _ (x2.trans x3) (o2.ext x3) (.tup (SqT.of AQ) (by omega) (relNs_of (Paired.imp' (fun _ _ r => Rp.mono x3.gg r) hp)) fun _ => AQ)
theorem sv_appendP {a : α} {m : Option α} {as'' : List α} (hσ : σ[i]? = some (some v)) (o : Own K G H v p vs as) (e : PV K te σ G v p vs as as' m) (hm : m = some a) (hp : Ej as' a = some as'') (s : Same G H)
  (k : ∀ G2 H2 w, Ext G (era H [p]) G2 H2 → Own K G2 (upd H2 p (.lst (vs.dropLast ++ [w]))) v p (vs.dropLast ++ [w]) as'' → rest D σ (upd H2 p (.lst (vs.dropLast ++ [w])))) : CK (tDrop (tBM K "list" Fv (Bc i) (Ag te C0))) rest D σ H := by
 obtain ⟨hl, rfl⟩ := BN hp
 have ov := o.v
 subst ov
 refine ⟨_, hσ, .inl ⟨rfl, _, SqL.of o.h⟩, ?_⟩
 refine e G (.refl G) a hm H s o _ fun w G2 H2 x o2 r => ?_
 have hlen := Paired.length o2.p
 refine ⟨p, _, w, rfl, rfl, o2.h, by omega, ?_⟩
 refine k G2 H2 w x ⟨rfl, o2.g, AQ, ?_, Paired.app o2.p (.cons r .nil)⟩
 rw [List.length_append, List.length_singleton]
 omega
noncomputable def cutX (x : Scr) (lo hi : Option Int) : Option (List Int) := if x.l.length ≤ sizeLine then some (Cf x.l lo hi) else none
theorem paired_scr (H : Hp) : ∀ l : List Int, Paired (Rp.rel K H) (l.map V.int) l
 | [] => .nil
 | a :: r => .cons rfl (paired_scr H r)
theorem fv_sliceX {t1 t2 : TO} {m1 m2 : Option (Option Int)} {ma : Option Scr} (ea : EV K ta σ G ma) (e1 : OV t1 σ G m1) (e2 : OV t2 σ G m2) : FV K (tSl (rSl K) ta t1 t2) σ G (ma.bind fun a => m1.bind fun lo => m2.bind fun hi => cutX a lo hi) := by
 intro G1 s1 c hc H sH Q k
 obtain ⟨a, ha, hc⟩ := Option.bind_eq_some_iff.mp hc
 obtain ⟨lo, hlo, hc⟩ := Option.bind_eq_some_iff.mp hc
 obtain ⟨hi, hhi, hc⟩ := Option.bind_eq_some_iff.mp hc
 obtain ⟨z, rfl⟩ := BN hc
 refine ea G1 s1 a ha H sH _ fun v G2 H2 x2 r2 => ?_
 refine e1 G2 (s1.trans x2.gg) lo hlo H2 x2.gh _ fun G3 H3 x3 => ?_
 refine e2 G3 (s1.trans (x2.trans x3).gg) hi hhi H3 x3.gh _ fun G4 H4 x4 => ?_
 obtain ⟨l, rfl, h⟩ := Rp.mono (x3.trans x4).gg r2
 exact ⟨_, x4.gh.seq h, fv_of x4.gh (Nat.le_trans (Dt _ _ _) (by rw [List.length_map]; exact z)) (Paired.cut (paired_scr G4 a.l) lo hi) (FV.mono ((x2.trans x3).trans x4) k)⟩
end
theorem EO {X : Cx} {x : Str} {a : Addr} {pos : Pos} (hg : Gl X x) (h : X.mg x = some (.ref a)) (hd : (x == ("__debug__" : Str)) = false := by decide) : PE X (.Name x pos) (tC (.ref a)) :=
 pe_glob (u := .ref a) hg h rfl hd
theorem rel_tup1 {K : PySem.W.Frag} {a : Addr} {od : Option Addr} {n : Nat} {osl : Array (Option Value)} {x : Str} {t : Tok} (h : K.lookup a = some ⟨.type "tuple", od, .seq #[.str x t] n, osl⟩) (z : x.length ≤ sizeLine) (G : Hp) (hx : x ≠ "lamp" := by decide +kernel) :
  Rp.rel K G (.ref a) (Nt.tup [Nt.txt x]) :=
 RelN.tup (xs := [.str x]) (.inr ⟨_, _, _, h, rfl, rfl, (by show 1 ≤ sizeLine; decide), .cons ⟨t, rfl⟩ .nil⟩) (by show 1 ≤ sizeLine; decide) (.cons (.txt x z) .nil) fun e => absurd (Nt.txt.inj (Option.some.inj e)) hx
section
variable {K : PySem.W.Frag} {σ : St} {G : Hp} {ta : TE}
theorem B3 {t : TA} {n : Nat} {ml : Option (List Nt)} (e : LV K t σ G n ml) (z : n ≤ sizeLine := by decide) : EV K (tTup t) σ G (ml.bind fun l => some (Nt.tup l)) :=
 fun G1 s1 c hc H sH Q k => by
  obtain ⟨l, hl, hc⟩ := Option.bind_eq_some_iff.mp hc
  cases hc
  refine e G1 s1 l hl H sH _ fun vs G2 H2 x2 hl hp => ⟨by omega, fun p h => ?_⟩
  exact k _ _ _ (x2.trans (.new x2.gh h)) (.tup (SqT.of AQ) (by omega) (relNs_of (Paired.imp' (fun _ _ r => Rp.mono (Same.new (x2.gh.free h)) r) hp)) fun _ => AQ)
end
theorem Inv.turned2 {X : Cx} {pins : List (Addr × Obj)} {σ : List (Option V)} {H : Hp} {s : Shared} {h' : Heap} {t' : Nat} {e it : Addr} (I : Inv X pins σ H s) (k : ∀ b o, b ≠ e → b ≠ it → s.heap.get? b = some o → h'.get? b = some o) (fe : FD X pins H e) (fi : FD X pins H it) :
  Inv X pins σ H { s with heap := h', toks := t' } := by
 have nit : ∀ b u, H b = some u → b ≠ e ∧ b ≠ it := fun b u q => ⟨fun z => (by rw [z, fe.1] at q; cases q), fun z => (by rw [z, fi.1] at q; cases q)⟩
 have nm : ∀ b, b ∉ [e, it] → b ≠ e ∧ b ≠ it := fun b hb => ⟨fun z => hb (by simp [z]), fun z => hb (by simp [z])⟩
 refine I.step (g' := s.gens) (d' := s.drawn) (ch := [e, it]) (fun b hb => ?_) (fun b o _ _ hc q _ => k b o (nm b hc).1 (nm b hc).2 q) (fun b o _ _ hc q _ => ⟨o.slots, k b o (nm b hc).1 (nm b hc).2 q⟩) (fun _ _ _ _ n => n)
  (fun b o hc q => ⟨o, k b o (nm b hc).1 (nm b hc).2 q⟩) (fun _ _ q => q) (fun _ _ _ q => q) (fun b ps q => ⟨#[], by rw [q]; simp⟩) (fun m hm => ?_) (fun b u q => ?_) I.bare
 ·simp only [List.mem_cons, List.not_mem_nil, or_false] at hb
  rcases hb with z | z
  ·subst z
   exact ⟨fe.2.2.2.1, fe.2.1, fe.2.2.2.2.1, fe.2.2.2.2.2⟩
  ·subst z
   exact ⟨fi.2.2.2.1, fi.2.1, fi.2.2.2.2.1, fi.2.2.2.2.2⟩
 ·obtain ⟨o, es, ep, ho, r⟩ := hm
  exact ⟨o, es, ep, k _ o (Ne.symm fe.2.1) (Ne.symm fi.2.1) ho, r⟩
 ·refine (I.hok b u q).stay (fun c v hc z => ?_) (fun _ z => z) fun _ _ z => z
  rcases hc with y | y
  ·rw [y] at z ⊢
   exact k b v (nit b u q).1 (nit b u q).2 z
  ·exact k c v (nit c _ y).1 (nit c _ y).2 z
noncomputable def Du {α : Type} : Nat → List α → List (Int × α)
 | _, [] => []
 | n, a :: l => ((n : Int), a) :: Du (n + 1) l
theorem FT {α : Type} : ∀ (l : List α) (n i : Nat), (Du n l)[i]? = (l[i]?).map fun a => (((n + i : Nat) : Int), a)
 | [], n, i => by simp [Du]
 | a :: l, n, 0 => by simp [Du]
 | a :: l, n, i + 1 => by
  show (Du (n + 1) l)[i]? = _
  rw [FT l (n + 1) i]
  have : n + 1 + i = n + (i + 1) := by omega
  rw [this]
  rfl
theorem Eo {α : Type} : ∀ (l : List α) (n : Nat), (Du n l).length = l.length
 | [], _ => rfl
 | a :: l, n => by show (Du (n + 1) l).length + 1 = _; rw [Eo l (n + 1)]; rfl
section
variable {K : PySem.W.Frag} {σ : St} {G H : Hp} {α β γ : Type} [Rp α] [Rp β] [Rp γ] {ta tb te : TE} {rest : TS} {D : Ends} {i j : Nat}
theorem bt_any : bootBuiltins "any" = some (.builtin "any") := by decide +kernel
noncomputable def rAnyB (K : PySem.W.Frag) : List V → Hp → VK → Prop := fun vs H Q => ∃ (l : Addr) (bs : List Bool), vs = [.ref l] ∧ SqL K H l (bs.map V.bl) ∧ Q (.bl (bs.any id)) H
theorem bools_atF {bs : List Bool} {its : List Value} (r : Vals (bs.map V.bl) its) {i : Nat} {v : Value} (h : its.toArray[i]? = some v) : v = .bool (bs.getD i false) := by
 have h : its[i]? = some v := by simpa using h
 have hl := r.length
 rw [List.length_map] at hl
 obtain ⟨hi, _⟩ := List.getElem?_eq_some_iff.mp h
 have e : (bs.map V.bl)[i]? = some (V.bl (bs.getD i false)) := by
  have : i < bs.length := by omega
  simp [this]
 obtain ⟨u, hu, ru⟩ := r.get e
 rw [h] at hu
 cases hu
 exact ru
theorem call_anyK {X : Cx} (hc : X.calm = true) (h : X.K = K) : E2 X (.builtin "any") (rAnyB K) := by
 subst h
 intro pins s σ H vs us Q I r h
 obtain ⟨l, bs, rfl, hl, q⟩ := h
 obtain ⟨u, rfl, ru⟩ := Ff r
 cases ru
 obtain ⟨its, rv, pl, _⟩ := I.list hl
 have hL := pl.isList
 have hlt : l < s.heap.objs.size := by obtain ⟨_, e, _⟩ := hL; exact Heap.lt_size e
 have hlen := rv.length
 rw [List.length_map] at hlen
 refine call_any_walk (wpAny_pyIter_list hL ?_)
 refine ⟨_, _, _, _, _, _, fun i => bs.getD i false, rfl, Walks.list (A := X.A.in1) (I.ok.hd hc) _ l (Nat.ne_of_lt hlt) its.toArray, ⟨⟨_, Heap.get?_push_size _ rfl, rfl, rfl⟩, hL.push _⟩, ?_, fun h' tk hk => ?_⟩
 ·intro i v s' Q' E' hP hQ
  rw [bools_atF rv hP]
  exact wpAny_truthy_bool hQ
 ·have e : (List.range its.toArray.size).any (fun i => bs.getD i false) = bs.any id := by
   rw [List.size_toArray, ← hlen]
   apply Bool.eq_iff_iff.mpr
   rw [List.any_eq_true, List.any_eq_true]
   constructor
   ·rintro ⟨i, hi, hb⟩
    have hi2 := List.mem_range.mp hi
    rw [List.getD_eq_getElem?_getD, List.getElem?_eq_getElem hi2] at hb
    exact ⟨_, List.getElem_mem hi2, hb⟩
   ·rintro ⟨b, hb, hq⟩
    obtain ⟨i, hi⟩ := List.mem_iff_getElem?.mp hb
    have hi2 := (List.getElem?_eq_some_iff.mp hi).1
    refine ⟨i, List.mem_range.mpr hi2, ?_⟩
    rw [List.getD_eq_getElem?_getD, hi]
    exact hq
  rw [e]
  refine ⟨.bl _, H, I.kept fun b o eb => ?_, rfl, q⟩
  refine hk b o (fun hm => ?_) (Heap.get?_push_of_some _ eb)
  have : b = s.heap.objs.size := by simpa using hm
  exact absurd (this ▸ Heap.lt_size eb) (Nat.lt_irrefl _)
theorem ev_any {lb : Option (List Bool)} (ea : EV K ta σ G lb) : EV K (tCB (rAnyB K) (Ag ta C0)) σ G (lb.bind fun bs => some (bs.any id)) := by
 intro G1 s1 c hc H sH Q k
 obtain ⟨a, ha, hc⟩ := Option.bind_eq_some_iff.mp hc
 cases hc
 refine ea G1 s1 a ha H sH _ fun v G2 H2 x2 r2 => ?_
 obtain ⟨l, xs, rfl, h, z, p⟩ := r2
 obtain rfl := Ez p
 exact ⟨l, a, rfl, .inl (x2.gh.rd h), k _ _ _ x2 rfl⟩
end
noncomputable def isTps (K : PySem.W.Frag) {α : Type} (R : Hp → V → α → Prop) : Hp → V → Tp α → Prop := fun H x a => ∃ t xs, x = .ref t ∧ SqT K H t xs ∧ Paired (R H) xs a.l
theorem tp_dec {α : Type} [DecidableEq α] {as bs : Tp α} {n m : Nat} (hn : n = as.l.length) (hm : m = bs.l.length) : ((List.range (min n m)).all (fun j => decide (as.l[j]? = bs.l[j]?)) && n == m) = decide (as = bs) := by
 obtain ⟨as⟩ := as
 obtain ⟨bs⟩ := bs
 subst hn
 subst hm
 by_cases hl : as.length = bs.length
 ·show ((List.range (min as.length bs.length)).all (fun j => decide (as[j]? = bs[j]?)) && as.length == bs.length) = _
  rw [← hl, Nat.min_self, beq_self_eq_true, Bool.and_true, all_dec as bs hl]
  exact decide_eq_decide.mpr ⟨fun e => by rw [e], fun e => by cases e; rfl⟩
 ·have h : (as.length == bs.length) = false := by simpa using hl
  have ne : Tp.mk as ≠ Tp.mk bs := fun e => by
   cases e
   exact hl rfl
  show (_ && as.length == bs.length) = _
  rw [h, Bool.and_false, decide_eq_false ne]
theorem eqTp {K : PySem.W.Frag} {k : Nat} {α : Type} [DecidableEq α] {R : Hp → V → α → Prop} (E : EqTy K k R) : EqTy K (k + 1) (isTps K R) := by
 have fn : ∀ {X : Cx} {pins : List (Addr × Obj)} {σ : St} {H : Hp} {s : Shared} {x : V} {a b : Tp α}, X.K = K → Inv X pins σ H s → isTps K R H x a → isTps K R H x b → a = b := by
  intro X pins σ H s x a b hK I ha hb
  obtain ⟨a⟩ := a
  obtain ⟨b⟩ := b
  obtain ⟨l, xs, rfl, h1, p1⟩ := ha
  obtain ⟨l', ys, e, h2, p2⟩ := hb
  cases e
  subst hK
  have := I.tuple_inj h1 h2
  subst this
  exact congrArg Tp.mk (FU (F := R H) (fun _ _ _ p q => E.fn rfl I p q) p1 p2)
 have rc : ∀ {X : Cx} {pins : List (Addr × Obj)} {σ : St} {H : Hp} {s : Shared} {x y : V} {u v : Value} {a b : Tp α} (A : Around), X.K = K → Inv X pins σ H s → A.units + (k + 1) < cLine → RelV x u → RelV y v → isTps K R H x a → isTps K R H y b →
   SeqAt.RcAt A s u v (decide (a = b)) ∧ SeqAt.RcNeAt A s u v (!decide (a = b)) := by
  intro X pins σ H s x y u v a b A hK I hu r1 r2 ha hb
  obtain ⟨l, xs, rfl, h1, p1⟩ := ha
  obtain ⟨l', ys, rfl, h2, p2⟩ := hb
  cases r1; cases r2
  subst hK
  obtain ⟨us, rx, plx, _⟩ := I.tuple h1
  obtain ⟨vs, ry, ply, _⟩ := I.tuple h2
  have lx := rx.length
  have ly := ry.length
  have lpx := Paired.length p1
  have lpy := Paired.length p2
  have it := items_eqAt E rfl I hu rx ry p1 p2
  rw [← tp_dec (as := a) (bs := b) (n := us.toArray.size) (m := vs.toArray.size) (by simp; omega) (by simp; omega)]
  exact ⟨SeqAt.RcAt.tuples plx ply (by omega) it, SeqAt.RcNeAt.tuples plx ply (by omega) it⟩
 refine ⟨fn, ?_, rc⟩
 intro X pins σ H s x y u v a b A hK I hu r1 r2 ha hb
 have h := (rc A hK I hu r1 r2 ha hb).1
 obtain ⟨l, xs, rfl, h1, p1⟩ := id ha
 obtain ⟨l', ys, rfl, h2, p2⟩ := id hb
 cases r1; cases r2
 by_cases e : l = l'
 ·subst e
  have : a = b := fn hK I ha hb
  rw [decide_eq_true this]
  exact SeqAt.EqAt.same _
 ·exact SeqAt.EqAt.of_refs e h
class NoN (α : Type) [Rp α] : Prop where
 no_non : ∀ {K : PySem.W.Frag} {H : Hp} {x : V} {a : α}, Rp.rel K H x a → x ≠ .non
 ne : ∀ {K : PySem.W.Frag} {X : Cx} {pins : List (Addr × Obj)} {σ : St} {H : Hp} {s : Shared} {x : V} {u : Value} {a : α} (A : Around), X.K = K → Inv X pins σ H s → A.units < cLine → RelV x u → Rp.rel K H x a →
  (SeqAt.EqAt A s .none u false ∧ SeqAt.RcAt A s .none u false ∧ SeqAt.RcNeAt A s .none u true) ∧ SeqAt.EqAt A s u .none false ∧ SeqAt.RcAt A s u .none false ∧ SeqAt.RcNeAt A s u .none true
noncomputable instance nnInt : NoN Int := ⟨fun h => (by cases h; exact fun z => (nomatch z)), fun A hK I hu r h => by
 cases h
 obtain ⟨t, rfl⟩ := r
 exact ⟨⟨SeqAt.EqAt.none_int _ _, SeqAt.RcAt.none_int _ _, SeqAt.RcNeAt.none_int _ _⟩, SeqAt.EqAt.int_none _ _, SeqAt.RcAt.int_none _ _, SeqAt.RcNeAt.int_none _ _⟩⟩
noncomputable instance nnPair {α β : Type} [Rp α] [Rp β] : NoN (α × β) := ⟨fun h => (by obtain ⟨_, _, _, rfl, _⟩ := h; exact fun z => (nomatch z)), fun A hK I hu r h => by
 obtain ⟨t, x, y, rfl, h, _⟩ := h
 cases r
 subst hK
 obtain ⟨us, rx, pl, _⟩ := I.tuple h
 exact ⟨⟨SeqAt.EqAt.none_tuple pl hu, SeqAt.RcAt.none_tuple pl hu, SeqAt.RcNeAt.none_tuple pl hu⟩, SeqAt.EqAt.tuple_none pl hu, SeqAt.RcAt.tuple_none pl hu, SeqAt.RcNeAt.tuple_none pl hu⟩⟩
class Fix (α : Type) [Rp α] : Prop where
 fx : ∀ {K : PySem.W.Frag} {G G' : Hp} {v : V} {a : α}, Rp.rel K G v a → Rp.rel K G' v a
noncomputable instance fxInt : Fix Int := ⟨fun h => h⟩
noncomputable instance fxBool : Fix Bool := ⟨fun h => h⟩
noncomputable instance fxStr : Fix Str := ⟨fun h => h⟩
section
variable {K : PySem.W.Frag} {σ : St} {G Gx H G1 H1 G0 H0 : Hp} {α β γ : Type} [Rp α] [Rp β] [Rp γ] {te ta tb tc ti : TE} {tt : TT} {t u rest : TS} {D : Ends} {i j : Nat} {as : List α} {bs : List β} {v w : V} {p q : Addr} {vs ws : List V}
variable {a : T3 α (List β) γ}
end
section
variable {K : PySem.W.Frag} {σ : St} {G : Hp} {ta tb : TE}
end
end L2
namespace L3
open PySem
section
variable {prog : Program} {w : World} {A : Around} {E : Value → Shared → Prop} {s : Shared}
end
section
variable {prog : Program} {w : World} {A : Around} {E : Value → Shared → Prop} {s : Shared}
end
end L3
namespace L2
open PySem PySem.Spec PyProof.Rows
noncomputable def rRng2 : List V → Hp → VK → Prop := fun xs H Q => ∃ i j : Int, xs = [.int i, .int j] ∧ ∀ p, H p = none → Q (.ref p) (upd H p (.rng i j))
theorem call_rng2 {X : Cx} : E2 X (.type "range") rRng2 := by
 intro pins s σ H xs us Q I r h
 obtain ⟨i, j, rfl, q⟩ := h
 obtain ⟨u, u', rfl, ⟨t, rfl⟩, ⟨t', rfl⟩⟩ := vals2 r
 exact call_range_2 ⟨.ref s.heap.objs.size, _, I.laid (a := s.heap.objs.size) (o := .rng i j) (fun b o e => Heap.get?_push_of_some _ e) (Nat.le_refl _) ⟨_, _, _, Heap.get?_push_size _ rfl⟩, rfl, q _ (I.hok.fresh (Nat.le_refl _))⟩
noncomputable def GK (lo hi : Int) : List V := (List.range (hi - lo).toNat).map fun (i : Nat) => V.int (lo + (i : Int))
noncomputable def rngB (lo hi : Int) : Prop := (-(2 ^ 62) ≤ lo ∧ lo < 2 ^ 62 ∧ -(2 ^ 62) ≤ hi ∧ hi < 2 ^ 62) ∧ (hi - lo).toNat ≤ sizeLine
theorem items_ints {lo hi : Int} {acc : Array Value} (h : ItemsOf (fun i v => ∃ t, v = .int (lo + i * 1) t) acc (hi - lo).toNat) : Vals (GK lo hi) acc.toList := by
 have key : ∀ (n : Nat) (l : List Value) (k : Nat), l.length = n → (∀ (j : Nat) (v : Value), l[j]? = some v → ∃ t, v = Value.int (lo + ((k + j : Nat) : Int)) t) → Vals ((List.range n).map fun (i : Nat) => V.int (lo + ((k + i : Nat) : Int))) l := by
  intro n
  induction n with
  | zero =>
   intro l k hl _
   cases l with
   | nil => exact .nil
   | cons _ _ => cases hl
  | succ n ih =>
   intro l k hl hp
   cases l with
   | nil => cases hl
   | cons x l =>
    rw [List.range_succ_eq_map, List.map_cons, List.map_map]
    obtain ⟨t, e⟩ := hp 0 x rfl
    refine .cons ⟨t, e⟩ ?_
    have := ih l (k + 1) (by simpa using hl) fun j v hv => by
     obtain ⟨t, e⟩ := hp (j + 1) v (by simpa using hv)
     refine ⟨t, ?_⟩
     rw [e]
     congr 3
     omega
    refine cast (congrArg (fun z => Vals z l) (List.map_congr_left fun i _ => ?_)) this
    show V.int (lo + ((k + 1 + i : Nat) : Int)) = V.int (lo + ((k + (i + 1) : Nat) : Int))
    congr 3
    omega
 have := key (hi - lo).toNat acc.toList 0 (by simpa using h.1) fun j v hv => by
  obtain ⟨t, e⟩ := h.2 j v (by simpa using hv)
  refine ⟨t, ?_⟩
  rw [e]
  simp
 unfold GK
 refine cast (congrArg (fun z => Vals z acc.toList) (List.map_congr_left fun i _ => ?_)) this
 simp
noncomputable def rLstR : List V → Hp → VK → Prop := fun xs H Q => ∃ p lo hi, xs = [.ref p] ∧ H p = some (.rng lo hi) ∧ rngB lo hi ∧ ∀ l, H l = none → Q (.ref l) (upd H l (.lst (GK lo hi)))
theorem ints_length (lo hi : Int) : (GK lo hi).length = (hi - lo).toNat := by
 unfold GK
 rw [List.length_map, List.length_range]
theorem rsize (lo hi : Int) : Builtin.Range.rangeSize lo hi 1 = ((hi - lo).toNat : Int) := by
 rw [rangeSize_one]
 split <;> omega
theorem call_lstR {X : Cx} (hc : X.calm = true) : E2 X (.type "list") rLstR := by
 intro pins s σ H xs us Q I r h
 obtain ⟨p, lo, hi, rfl, hp, ⟨hb, hz⟩, q⟩ := h
 obtain ⟨u, rfl, ru⟩ := Ff r
 cases ru
 obtain ⟨t, u, v, e⟩ := (show ObjOk X.prog X.w H s.heap p (.rng lo hi) from I.hok p _ hp)
 have hs : sizeLine = 16777216 := sizeLine_eq
 refine call_list_range (I.ok.hd hc) e (small_one hb.1 hb.2.1 hb.2.2.1 hb.2.2.2) (rsize lo hi) (by omega) fun h' tk acc c' hk e' hi' => ?_
 exact ⟨.ref s.heap.objs.size, _, I.laid (t' := tk) hk (Nat.le_refl _) (show ObjOk X.prog X.w _ _ _ (.lst (GK lo hi)) from ⟨by rw [ints_length]; exact hz, acc.toList, c', items_ints hi', by simpa using e'⟩), rfl, q _ (I.hok.fresh (Nat.le_refl _))⟩
section
variable {K : PySem.W.Frag} {σ : St} {G : Hp} {ta tb : TE} {ia ib : Option Int}
theorem fv_lstR2 (ea : EV K ta σ G ia) (eb : EV K tb σ G ib) : FV K (tCB rLstR (Ag (tCB rRng2 (Ag ta (Ag tb C0))) C0)) σ G (ia.bind fun i => ib.bind fun j => Ec i j) := by
 intro G1 s1 c hc H sH Q k
 obtain ⟨i, hi, hc⟩ := Option.bind_eq_some_iff.mp hc
 obtain ⟨j, hj, hc⟩ := Option.bind_eq_some_iff.mp hc
 obtain ⟨hb, rfl⟩ := BN hc
 refine ea G1 s1 i hi H sH _ fun v G2 H2 x2 r2 => ?_
 refine eb G2 (s1.trans x2.gg) j hj H2 x2.gh _ fun u G3 H3 x3 r3 => ?_
 cases r2; cases r3
 refine ⟨i, j, rfl, fun p hp => ⟨p, i, j, rfl, AQ, hb, fun t ht => ?_⟩⟩
 have x4 : Ext G3 H3 G3 (upd H3 p (.rng i j)) := .own x3.gh hp
 have x5 : Ext G3 (upd H3 p (.rng i j)) G3 (upd (upd H3 p (.rng i j)) t (.lst (GK i j))) := .own x4.gh ht
 have y := ((x2.trans x3).trans x4).trans x5
 refine k t (GK i j) _ _ y (((x2.trans x3).trans x4).hh.free ht) ?_ AQ (by rw [ints_length]; exact hb.2) (FE _ (fun n => i + (n : Int)) _)
 cases e : G3 t with
 | none => rfl
 | some o =>
  have := x4.gh t o e
  rw [ht] at this
  cases this
end
noncomputable def DS (cap : List Nat) (σ : St) : St := none :: none :: cap.map fun i => (σ[i]?).join
noncomputable abbrev gTwo (K : PySem.W.Frag) : TG := gTup K 2 (gCons (D2 0) (gCons (D2 1) gNil))
theorem gTwo_at {K : PySem.W.Frag} {v : V} {σ : St} {H : Hp} {Q : St → Hp → Prop} (h : gTwo K v σ H Q) : gTwo K v σ H fun σ2 H2 => (∃ v0 v1, σ2 = (σ.set 0 (some v0)).set 1 (some v1)) ∧ Q σ2 H2 := by
 obtain ⟨a, xs, e, hs, hl, v0, r, e1, v1, r', e2, e3, q⟩ := h
 exact ⟨a, xs, e, hs, hl, v0, r, e1, v1, r', e2, e3, ⟨v0, v1, rfl⟩, q⟩
noncomputable def tComp2 (K : PySem.W.Frag) (cap : List Nat) (wi : TI) (tc : TT) (te : TE) : TE := fun σ H Q => wi σ H fun J H1 => ∀ p, H1 p = none →
 ∃ W : Nat → Nat → List V → Hp → Prop, (∃ m, W 0 m [] (upd H1 p (.lst []))) ∧ ∀ i m xs H2, W i m xs H2 →
  (J.stop i H2 ∧ Q (.ref p) H2) ∨ (J.go i H2 ∧ ∃ N : List V → Hp → Prop, (∀ xs' H', N xs' H' → ∃ m', m' < m ∧ W (i + 1) m' xs' H') ∧
   ∀ x H3, J.yld i H2 x H3 → gTwo K x (DS cap σ) H3 fun σ2 H4 => tc σ2 H4 fun b H5 => if b = true then te σ2 H5 fun v H6 => H6 p = some (.lst xs) ∧ xs.length < sizeLine ∧ N (xs ++ [v]) (upd H6 p (.lst (xs ++ [v]))) else N xs H5)
section
variable {X : Cx} {pins : List (Addr × Obj)} {σ : St}
theorem comp_start2 {scope : Scope} {x x' : Str} {cn : List Str} {cap : List Nat} {s3 : Shared} {H3 : Hp} {fp : List Addr} {h₁ : Heap} {tk : Nat} {H2 : Hp} (S : CompScope X scope) (I : Inv X pins σ H3 s3) (hc : X.calm = true) (hcap : Caps X scope cn cap)
  (f2 : ∀ b ∈ fp, FD X pins H2 b) (lt : ∀ b ∈ fp, b < s3.heap.objs.size) (keep : ∀ b o, s3.heap.get? b = some o → h₁.get? b = some o) (hns : h₁.Ns s3.heap.objs.size fun _ => none) :
  Inv (BM X (x :: x' :: cn) scope s3.heap.objs.size s3 H3 fp) [] (DS cap σ) H3 { s3 with heap := h₁, toks := tk } := by
 have noS : ∀ b o, X.base.get? b = some o → b < X.s₀.heap.objs.size := fun b o e => Nat.lt_of_lt_of_le (Heap.lt_size e) I.ok.bsz
 refine ⟨⟨I.ok.mod, S.kind, I.ok.glob, I.ok.blt, Nat.le_refl _, fun y z c h1 h2 => I.ok.inj y z c (Cl h1) (Cl h2), fun y hy => ?_, fun y c h => ?_, fun _ => I.ok.hd hc, I.ok.frames, .inl rfl, fun b hb => ⟨Nat.ne_of_lt (lt b hb), fun y c h => (f2 b hb).2.2.2.2.1 y c (Cl h)⟩,
  I.bs, Nat.le_trans I.ok.bsz I.sz, fun b o e hb => ?_, fun b hb z => ?_, I.stack, I.stkFree⟩, rfl, I.bare, Un.kept keep, ⟨_, hns, fun i y v e1 e2 e3 => ?_⟩, fun y c e => ?_, I.hok.fresh (Nat.le_refl _), fun y c e => I.freeC y c (Cl e), fun p hp => absurd (show p ∈ ([] : List (Addr × Obj)) from hp) (by simp), I.hok.kept keep, ?_⟩
 ·have m := relabel_free S.cell hy
  obtain ⟨c, hc'⟩ := I.ok.has y (S.free _ m rfl)
  exact ⟨c, clOf_has m hc'⟩
 ·cases h
 ·rcases (f2 b hb).2.2.2.1 with z | z
  ·exact I.ok.noex b o e z
  ·exact absurd (Nat.lt_of_lt_of_le (noS b o e) z) (Nat.lt_irrefl _)
 ·rcases List.mem_cons.mp (I.stkSub b z) with e | e
  ·exact (f2 b hb).2.1 e
  ·exact (f2 b hb).2.2.1 e
 ·cases i with
  | zero =>
   have e2 : (some none : Option (Option V)) = some (some v) := e2
   cases e2
  | succ j =>
   cases j with
   | zero =>
   have e2 : (some none : Option (Option V)) = some (some v) := e2
   cases e2
   | succ j =>
   have e1 : cn[j]? = some y := e1
   obtain ⟨k, hk, hN, hkind, hfr⟩ := hcap.at e1
   have e2 : (cap.map fun i => (σ[i]?).join)[j]? = some (some v) := e2
   rw [List.getElem?_map, hk] at e2
   have e2 : (σ[k]?).join = some v := Option.some.inj e2
   have e2 : σ[k]? = some (some v) := by
    cases q : σ[k]? with
    | none => rw [q] at e2; cases e2
    | some o => rw [q] at e2; cases o with
     | none => cases e2
     | some v' => have e2 : some v' = some v := e2; rw [e2]
   obtain ⟨m, hn, hl⟩ := I.loc
   obtain ⟨u, r, l⟩ := hl k y v hN e2 (.inr hkind)
   refine ⟨u, r, ?_⟩
   rcases l with ⟨kl, _⟩ | ⟨_, c, hc', o, ho, hd⟩
   ·have kl : X.env.scope.names.lookup y = some .local := kl
    rw [kl] at hkind
    rcases hkind with z | z <;> cases z
   ·refine .inr ⟨?_, c, clOf_has (PySem.mem_of_lookup hfr) hc', o, keep c o ho, hd⟩
    rcases e3 with z | z
    ·
     exfalso
     have z : (relabel scope X.env).names.lookup y = some .local := z
     have hm := PySem.mem_of_lookup z
     unfold relabel at hm
     obtain ⟨⟨n, k'⟩, hp, e⟩ := List.mem_map.mp hm
     dsimp only at e
     have hl2 : (y, NameKind.local) ∈ scope.names := by
      split at e
      ·cases e
      ·cases e; exact hp
     have := S.names _ hl2 rfl
     rw [hfr] at this
     cases this
    ·exact z
 ·obtain ⟨v, o, ho, hd⟩ := I.cell y c (Cl e)
  exact ⟨v, o, keep c o ho, hd⟩
 ·show (DS cap σ).length = (x :: x' :: cn).length
  unfold DS
  rw [List.length_cons, List.length_cons, List.length_map, hcap.len, List.length_cons, List.length_cons]
theorem comp_core2 {scope : Scope} {x x' : Str} {px px' pt pos : Pos} {k0 : Nat} {elt iter : Expr} {ifs : List Expr} {cn : List Str} {cap : List Nat} {s2 : Shared} {H2 : Hp} {it : Addr} {fp : List Addr} {tn : Nat → Heap → Prop} {J : It} {tc : TT} {te : TE} {Q : VK} {RR : Value → Addr → Result → Shared → Prop} {E : Value → Shared → Prop}
  (S : CompScope X scope) (I2 : Inv X pins σ H2 s2) (hc : X.calm = true) (hcap : Caps X scope cn cap) (hx : scope.names.lookup x = some .local) (hx' : scope.names.lookup x' = some .local) (hnd : (x :: x' :: cn).Nodup)
  (T : Turn X.prog X.w X.K (.Tuple [.Name x px, .Name x' px'] k0 pt) J fp it tn) (st2 : tn 0 s2.heap) (f2 : ∀ b ∈ fp, FD X pins H2 b)
  (body : ∀ (C : Addr) (s : Shared) (H : Hp) (fp : List Addr), PTs (BM X (x :: x' :: cn) scope C s H fp) ifs tc ∧ PE (BM X (x :: x' :: cn) scope C s H fp) elt te)
  (q : ∀ p, H2 p = none → ∃ W : Nat → Nat → List V → Hp → Prop, (∃ m, W 0 m [] (upd H2 p (.lst []))) ∧ ∀ i m xs H3, W i m xs H3 →
   (J.stop i H3 ∧ Q (.ref p) H3) ∨ (J.go i H3 ∧ ∃ N : List V → Hp → Prop, (∀ xs' H', N xs' H' → ∃ m', m' < m ∧ W (i + 1) m' xs' H') ∧
    ∀ v H4, J.yld i H3 v H4 → gTwo X.K v (DS cap σ) H4 fun σ2 H4 => tc σ2 H4 fun b H5 => if b = true then te σ2 H5 fun v H6 => H6 p = some (.lst xs) ∧ xs.length < sizeLine ∧ N (xs ++ [v]) (upd H6 p (.lst (xs ++ [v]))) else N xs H5))
  (hRR : ∀ (p C : Addr) (s3 s' : Shared) (H3 Hf : Hp) (σ' : St), Inv X pins σ H3 s3 → s3.heap.objs.size = C → Inv (BM X (x :: x' :: cn) scope C s3 H3 fp) [] σ' Hf s' → Q (.ref p) Hf → RR (.ref p) C (.ok .next) s') :
  wpAny (model X.prog X.w) X.A (newList []) (fun acc s₃ => wpAny (model X.prog X.w) X.A (newFunctionEnv scope X.env.globals (GB scope X.env) [] X.env.qual none .none (some X.env)) (fun cenv s₄ =>
   codeAny (model X.prog X.w) X.A (.compStart (.ListComp elt [⟨.Tuple [.Name x px, .Name x' px'] k0 pt, iter, ifs, 0⟩] scope pos) 0 (.ref it) acc { cenv with scope := relabel scope X.env }) (RR acc cenv.locals) s₄) E s₃) E s2 := by
 refine wpAny_newObj_type (wpAny_newFunctionEnv S.cell (by intro y hy; simp at hy) (fun h₁ hns₁ hsb₁ => ?_) S.kind)
 dsimp only at hns₁ hsb₁ ⊢
 have hfr : H2 s2.heap.objs.size = none := I2.hok.fresh (Nat.le_refl _)
 obtain ⟨W, ⟨m0, w0⟩, turn⟩ := q _ hfr
 have I3 : Inv X pins σ (upd H2 s2.heap.objs.size (.lst [])) { s2 with heap := s2.heap.push { cls := .type "list", data := .seq ([] : List Value).toArray } } :=
  I2.lnew (its := []) (t' := s2.toks) .nil (Nat.zero_le _)
 generalize hs3 : ({ s2 with heap := s2.heap.push { cls := .type "list", data := .seq ([] : List Value).toArray } } : Shared) = s3 at I3
 have hs3h : s3.heap = s2.heap.push { cls := .type "list", data := .seq ([] : List Value).toArray } := by rw [← hs3]
 have hst3 : tn 0 s3.heap := T.keep _ _ _ st2 fun b hb o e => by rw [hs3h]; exact Heap.get?_push_of_some _ e
 have ltf : ∀ b ∈ fp, b < s3.heap.objs.size := fun b hb => by
  obtain ⟨o, e, _⟩ := T.obj _ _ hst3 b hb
  exact Heap.lt_size e
 have hC : (s2.heap.push { cls := .type "list", dict := none, data := .seq ([] : List Value).toArray }).objs.size = s3.heap.objs.size := by rw [hs3h]
 rw [hC] at hns₁ hsb₁ ⊢
 have keep : ∀ b o, s3.heap.get? b = some o → h₁.get? b = some o := fun b o e => by
  refine hsb₁.extBut b o (Nat.ne_of_lt (Heap.lt_size e)) (Heap.get?_push_of_some _ ?_)
  rw [hs3h] at e
  exact e
 have J4 : Inv (BM X (x :: x' :: cn) scope s3.heap.objs.size s3 (upd H2 s2.heap.objs.size (.lst [])) fp) [] (DS cap σ) (upd H2 s2.heap.objs.size (.lst [])) { s3 with heap := h₁, toks := s2.toks + ([] : List (Str × Value)).length } :=
  comp_start2 S I3 hc hcap f2 ltf keep hns₁
 have st4 : tn 0 h₁ := T.keep _ _ _ hst3 fun b hb o e => keep b o e
 have fr4 : ∀ b ∈ fp, (upd H2 s2.heap.objs.size (.lst [])) b = none := fun b hb => by
  obtain ⟨o, e, _⟩ := T.obj _ _ st2 b hb
  rw [Ao (Nat.ne_of_lt (Heap.lt_size e))]
  exact (f2 b hb).1
 have hst : ({ s2 with heap := h₁, toks := s2.toks + ([] : List (Str × Value)).length } : Shared) = { s3 with heap := h₁, toks := s2.toks + ([] : List (Str × Value)).length } := by rw [← hs3]
 have loop : codeAny (model X.prog X.w) X.A (.compLoop (.ListComp elt [⟨.Tuple [.Name x px, .Name x' px'] k0 pt, iter, ifs, 0⟩] scope pos) 0 (.ref it) (.ref s2.heap.objs.size) (compEnvC scope (GB scope X.env) s3.heap.objs.size X.env))
   (RR (.ref s2.heap.objs.size) s3.heap.objs.size) { s2 with heap := h₁, toks := s2.toks + ([] : List (Str × Value)).length } := by
  rw [hst]
  generalize hX' : BM X (x :: x' :: cn) scope s3.heap.objs.size s3 (upd H2 s2.heap.objs.size (.lst [])) fp = X' at J4
  have hfpk : ∀ {Hc : Hp}, (∀ b ∈ fp, Hc b = none) → ∀ b ∈ fp, FD X' [] Hc b := fun {Hc} hn b hb => by
   subst hX'
   refine ⟨hn b hb, (J4.ok.exf b hb).1, J4.ok.exfs b hb, .inl hb, (J4.ok.exf b hb).2, fun p hp => absurd (show p ∈ ([] : List (Addr × Obj)) from hp) (by simp)⟩
  refine compLoop_any (fun n s' => ∃ i xs Hc, Inv X' [] (DS cap σ) Hc s' ∧ tn i s'.heap ∧ (∀ b ∈ fp, Hc b = none) ∧ W i n xs Hc) ?_ m0 ⟨0, [], _, J4, st4, fr4, w0⟩
  rintro n s5 ⟨i, xs, Hc, I5, st5, fr5, w5⟩
  have B := body s3.heap.objs.size s3 (upd H2 s2.heap.objs.size (.lst [])) fp
  rcases turn i n xs Hc w5 with ⟨stop, qn⟩ | ⟨go, N, hN, step⟩
  ·subst hX'
   refine thn (T.done (BM X (x :: x' :: cn) scope s3.heap.objs.size s3 (upd H2 s2.heap.objs.size (.lst [])) fp) rfl rfl rfl rfl i [] s5 (DS cap σ) Hc (fun _ _ => False) I5 (hfpk fr5) st5 stop) fun r s6 ⟨hr, I6⟩ => ?_
   subst hr
   exact hRR _ _ s3 s6 _ Hc _ I3 rfl I6 qn
  ·subst hX'
   refine thn (T.item (BM X (x :: x' :: cn) scope s3.heap.objs.size s3 (upd H2 s2.heap.objs.size (.lst [])) fp) rfl rfl rfl rfl i [] s5 (DS cap σ) Hc (fun _ _ => False) I5 (hfpk fr5) st5 go) fun r s6 ⟨u, hr, h6⟩ => ?_
   subst hr
   refine thn h6 fun _ s7 ⟨v, H7, I7, r7, y7, st7, fr7⟩ => ?_
   have I7' := I7.pinned (hfpk fr7) (T.obj _ _ st7)
   have hlook : (relabel scope X.env).names.lookup x = some .local := lookup_relabel_local hx
   have hlook' : (relabel scope X.env).names.lookup x' = some .local := lookup_relabel_local hx'
   have hg : PG (BM X (x :: x' :: cn) scope s3.heap.objs.size s3 (upd H2 s2.heap.objs.size (.lst [])) fp) (.Tuple [.Name x px, .Name x' px'] k0 pt) (gTwo X.K) :=
    pg_tup rfl (pgs_cons (Cc (i := 0) hnd rfl (.inl hlook) (.inr hlook)) (pgs_cons (Cc (i := 1) hnd rfl (.inl hlook') (.inr hlook')) pgs_nil))
   refine thn (hg _ s7 _ H7 v u _ I7' r7 (gTwo_at (step v H7 y7))) fun _ s8 ⟨σ8, H8, I8, ⟨v0, v1, e8⟩, q8⟩ => ?_
   subst e8
   have again : ∀ {s9 : Shared} {H9 : Hp} {ys : List V}, Inv (BM X (x :: x' :: cn) scope s3.heap.objs.size s3 (upd H2 s2.heap.objs.size (.lst [])) fp) ([] ++ GD fp s7.heap) (((DS cap σ).set 0 (some v0)).set 1 (some v1)) H9 s9 → N ys H9 →
     ∃ m, m < n ∧ ∃ i xs Hc, Inv (BM X (x :: x' :: cn) scope s3.heap.objs.size s3 (upd H2 s2.heap.objs.size (.lst [])) fp) [] (DS cap σ) Hc s9 ∧ tn i s9.heap ∧ (∀ b ∈ fp, Hc b = none) ∧ W i m xs Hc := fun {s9 H9 ys} I9 n9 => by
    obtain ⟨m', hm, w9⟩ := hN ys H9 n9
    refine ⟨m', hm, i + 1, ys, H9, (I9.unpinned (pins := [])).weak (by simp [DS]) (fun j w e => ?_), T.keep _ _ _ st7 fun b hb o e => (I9.pin (b, o) (List.mem_append_right _ (List.mem_append_right _ (Dc hb e)))).1, fun b hb => ?_, w9⟩
    ·cases j with
     | zero =>
      have e : (some none : Option (Option V)) = some (some w) := e
      cases e
     | succ j =>
      cases j with
      | zero =>
       have e : (some none : Option (Option V)) = some (some w) := e
       cases e
      | succ j => exact e
    ·obtain ⟨o, e, _⟩ := T.obj _ _ st7 b hb
     exact (I9.pin (b, o) (List.mem_append_right _ (List.mem_append_right _ (Dc hb e)))).2.1
   refine thn (B.1 _ s8 _ H8 _ I8 q8) fun ok s9 ⟨H9, I9, q9⟩ => ?_
   cases ok with
   | false =>
    rw [if_neg Bool.false_ne_true] at q9 ⊢
    exact again I9 q9
   | true =>
    rw [if_pos rfl] at q9 ⊢
    refine thn (B.2 _ s9 _ H9 _ I9 q9) fun uy s10 ⟨y, H10, I10, r10, hp, hl, n10⟩ => ?_
    refine thn (C3 _ s10 _ H10 (.ref s2.heap.objs.size) [y] (.ref s2.heap.objs.size) [uy] (fun _ H11 => N (xs ++ [y]) H11) I10 rfl (.cons r10 .nil) ⟨_, xs, y, rfl, rfl, hp, hl, n10⟩) fun _ s11 ⟨_, H11, I11, _, n11⟩ => ?_
    exact again I11 n11
 exact codeAny_compStart_list loop (T.self _ _ _ _ _ st4 loop)
theorem pe_comp2 {scope : Scope} {x x' : Str} {px px' pt pos : Pos} {k0 : Nat} {elt iter : Expr} {ifs : List Expr} {cn : List Str} {cap : List Nat} {wi : TI} {tc : TT} {te : TE}
  (hc : X.calm = true) (S : CompScope X scope) (hx : scope.names.lookup x = some .local) (hx' : scope.names.lookup x' = some .local) (hnd : (x :: x' :: cn).Nodup) (hcap : Caps X scope cn cap) (hi : PI X (.Tuple [.Name x px, .Name x' px'] k0 pt) iter wi)
  (body : ∀ (C : Addr) (s : Shared) (H : Hp) (fp : List Addr), PTs (BM X (x :: x' :: cn) scope C s H fp) ifs tc ∧ PE (BM X (x :: x' :: cn) scope C s H fp) elt te)
  (hs : ∀ x, foldedSetIterable iter X.env x = pure x := by intro _; rfl) : PE X (.ListComp elt [⟨.Tuple [.Name x px, .Name x' px'] k0 pt, iter, ifs, 0⟩] scope pos) (tComp2 X.K cap wi tc te) := by
 intro pins s σ H Q I h
 rw [eval_ListComp]
 refine wpAny_comprehension_free (use := none) rfl hs (S.clos I) S.kind S.names (thn (hi pins s σ H _ I h) fun xv s1 h1 => thn h1 fun itv s2 h2 => ?_)
 obtain ⟨it, fp, tn, J, H2, e, I2, T, st2, f2, q⟩ := h2
 subst e
 refine comp_core2 (RR := fun acc C => compPost (model X.prog X.w) X.A X.xe none (EP X pins σ Q) acc C) S I2 hc hcap hx hx' hnd T st2 f2 body q ?_
 intro p C s3 s' H3 Hf σ' I3 hC J' qf
 subst hC
 have I4 := comp_out I3 J' f2
 obtain ⟨m, hn, _⟩ := J'.loc
 refine ⟨m, hn, fun h' hs' => ?_⟩
 refine ⟨.ref p, Hf, ?_, rfl, qf⟩
 have f := I3.fpOk (H' := Hf) (Nat.le_refl _) J'.free
 exact I4.turned (t' := s'.toks) (it := s3.heap.objs.size) (fun b o hb e => (hs'.2 b hb).trans e) f.1 f.2.1 f.2.2.2.1 f.2.2.2.2.1 f.2.2.2.2.2
end
noncomputable def Itns (x : Str) : It :=
 ⟨fun i _ => i < x.cps.size, fun i H y H' => ∃ t v, y = .ref t ∧ H t = none ∧ H' = upd H t (.tup [.int i, v]) ∧ (DG x)[i]? = some v, fun i _ => i = x.cps.size⟩
theorem turn_enumS {P : Program} {w : World} {K : PySem.W.Frag} {elts : List Expr} {x1 : _} {pos : Pos} (x : Str) (tk : Tok) (e it : Addr) (ne : e ≠ it) {St : Nat → Heap → Prop}
  (D : ∀ A : Around, A.handled = none → Draws P w A it [it] x.cps.size (fun i v => ∃ c u, x.cps[i]? = some c ∧ v = .str ⟨#[c]⟩ u) St) (dat : ∀ i h, St i h → ∃ o, h.get? it = some o ∧ ∀ v, o.data ≠ .cell v) (frm : ∀ i h h', St i h → (∀ o, h.get? it = some o → h'.get? it = some o) → St i h') :
  Turn P w K (.Tuple elts x1 pos) (Itns x) [e, it] e (fun i h => (∃ old, IsEnum h e it i old) ∧ St i h) where
 mem := by simp
 obj := fun i h st b hb => by
  obtain ⟨⟨old, he⟩, st⟩ := st
  simp only [List.mem_cons, List.not_mem_nil, or_false] at hb
  rcases hb with z | z
  ·subst z
   exact ⟨_, he, fun v z => by
    have z' : Data.fields _ = Data.cell v := z
    cases z'⟩
  ·subst z
   exact dat i h st
 keep := fun i h h' st k => ⟨let ⟨old, he⟩ := st.1; ⟨old, k e (by simp) _ he⟩, frm i h h' st.2 fun o q => k it (by simp) o q⟩
 item := by
  intro X hP hw hK hc i pins s σ H E I hf st hg
  subst hP hw hK
  obtain ⟨⟨old, he⟩, hit⟩ := st
  have fe := hf e (by simp)
  have fi := hf it (by simp)
  have hi : i < x.cps.size := hg
  refine wpAny_pyNext_enum_itemD (D X.A.in1 (I.ok.hd hc)) he hit hi ne (by simpa using ne) fun u h1 tk' hu heo hit1 ht1 hz1 hk1 => ?_
  obtain ⟨c, t0, hc0, rfl⟩ := hu
  refine ⟨_, rfl, wpAny_letOwnedTupleGo_enum heo fun h2 he2 hs2 => ?_⟩
  replace hs2 : Heap.SameBut e h1 h2 := hs2
  have heH : e < s.heap.objs.size := Heap.lt_size he
  have hiH : it < s.heap.objs.size := by obtain ⟨o, q, _⟩ := dat i _ hit; exact Heap.lt_size q
  have ht2 : h2.get? s.heap.objs.size = some { cls := .type "tuple", data := .seq #[.int i tk', .str ⟨#[c]⟩ t0] } := (hs2.2 _ (Nat.ne_of_gt heH)).trans ht1
  have I1 : Inv X pins σ (upd H s.heap.objs.size (.tup [.int i, .str ⟨#[c]⟩])) { s with heap := s.heap.push { cls := .type "tuple", data := .seq #[.int i tk', .str ⟨#[c]⟩ t0] }, toks := s.toks } :=
   I.laid (fun b ob q => Heap.get?_push_of_some _ q) (Nat.le_refl _) ⟨by show 2 ≤ sizeLine; decide, [.int i tk', .str ⟨#[c]⟩ t0], .cons ⟨_, rfl⟩ (.cons ⟨_, rfl⟩ .nil), IsTup.new _ _⟩
  have fre : ∀ b, b ∈ [e, it] → b ≠ s.heap.objs.size := fun b hb => by
   simp only [List.mem_cons, List.not_mem_nil, or_false] at hb
   rcases hb with z | z
   ·rw [z]; exact Nat.ne_of_lt heH
   ·rw [z]; exact Nat.ne_of_lt hiH
  have fn : ∀ b ∈ [e, it], FD X pins (upd H s.heap.objs.size (.tup [.int i, .str ⟨#[c]⟩])) b := fun b hb => ⟨by rw [Ao (fre b hb)]; exact (hf b hb).1, (hf b hb).2⟩
  have I2 : Inv X pins σ (upd H s.heap.objs.size (.tup [.int i, .str ⟨#[c]⟩])) { s with heap := h2, toks := tk' + 1 } := I1.turned2 (h' := h2) (t' := tk' + 1) (fun b o h1' h2' q => by
   replace q : (s.heap.push { cls := .type "tuple", data := .seq #[.int i tk', .str ⟨#[c]⟩ t0] }).get? b = some o := q
   by_cases hb : b = s.heap.objs.size
   ·rw [hb] at q ⊢
    rw [Heap.get?_push_size _ rfl] at q
    rw [ht2]
    exact q
   ·have q' : s.heap.get? b = some o := by rw [← q]; exact (Heap.get?_push_ne _ _ _ hb).symm
    exact (hs2.2 _ h1').trans (hk1 b o h1' h2' q')) (fn e (by simp)) (fn it (by simp))
  refine ⟨.ref s.heap.objs.size, _, I2, rfl, ⟨_, .str ⟨#[c]⟩, rfl, I.hok.fresh (Nat.le_refl _), rfl, ?_⟩, ⟨⟨.str ⟨#[c]⟩ t0, ?_⟩, ?_⟩, fun b hb => (fn b hb).1⟩
  ·unfold DG
   rw [List.getElem?_map, Array.getElem?_toList, hc0]
   rfl
  ·have : ((i + 1 : Nat) : Int) = (i : Int) + 1 := by omega
   rw [this]
   exact he2
  ·exact frm (i + 1) h1 h2 hit1 fun o q => (hs2.2 it (Ne.symm ne)).trans q
 done := by
  intro X hP hw hK hc i pins s σ H E I hf st hg
  subst hP hw hK
  obtain ⟨⟨old, he⟩, hit⟩ := st
  have hi : i = x.cps.size := hg
  subst hi
  obtain ⟨f0, f1, f2, f3, f4, f5⟩ := hf it (by simp)
  exact wpAny_pyNext_enum_endD (D X.A.in1 (I.ok.hd hc)) he hit fun h' eb => ⟨rfl, I.turned (t' := s.toks) (fun b o hb q => eb b o hb q) f0 f1 f3 f4 f5⟩
 self := fun _ _ _ _ _ st h => by
  obtain ⟨⟨old, he⟩, _⟩ := st
  exact wpAny_pyIter_enum he h
noncomputable def iEnumS (ta : TA) : TI := fun σ H R => ta σ H fun vs H1 => ∃ x, vs = [.str x] ∧ R (Itns x) H1
theorem pi_enumS {X : Cx} {elts : List Expr} {x1 : _} {tp : Pos} {a : Expr} {ta : TA} {p pos : Pos} (hg : Gl X "enumerate") (hm : X.mg "enumerate" = none) (ha : PA X [a] ta) (hs : starEach [a] X.env = [(false, eval a X.env)] := by rfl) :
  PI X (.Tuple elts x1 tp) (.Call (.Name "enumerate" p) [a] [] pos) (iEnumS ta) := by
 intro pins s σ H R I h
 refine Call_ (ld_blt I hg hm boot_enumerate (PyProof.Rows.callWith_type1 (thn (ha pos pins s σ H _ I h) fun us s1 ⟨vs, H1, I1, r1, q1⟩ => ?_) hs rfl))
 obtain ⟨x, e, q⟩ := q1
 subst e
 obtain ⟨u, rfl, t, rfl⟩ := Ff r1
 refine call_enumerate_str fun h' he hit hz' hk => ?_
 refine wpAny_pyIter_enum (s := { s1 with heap := h' }) he ?_
 have I2 : Inv X pins σ H1 { s1 with heap := h' } := I1.kept (t' := s1.toks) hk
 have ne : s1.heap.objs.size + 1 ≠ s1.heap.objs.size := Nat.ne_of_gt (Nat.lt_succ_self _)
 have fpk : ∀ b ∈ [s1.heap.objs.size + 1, s1.heap.objs.size], FD X pins H1 b := fun b hb => by
  simp only [List.mem_cons, List.not_mem_nil, or_false] at hb
  rcases hb with z | z
  ·subst z
   exact I1.fpOk (by omega) (I1.hok.fresh (by omega))
  ·subst z
   exact I1.fpOk (Nat.le_refl _) (I1.hok.fresh (Nat.le_refl _))
 have dat : ∀ (T : String) (i : Nat) (h : Heap), h.IsStrIter s1.heap.objs.size T x t i → ∃ o, h.get? s1.heap.objs.size = some o ∧ ∀ v, o.data ≠ .cell v := fun T i h st => by
  obtain ⟨o, ho, _, d⟩ := st
  exact ⟨o, ho, fun v z => by rw [d] at z; cases z⟩
 have frm : ∀ (T : String) (i : Nat) (h h' : Heap), h.IsStrIter s1.heap.objs.size T x t i → (∀ o, h.get? s1.heap.objs.size = some o → h'.get? s1.heap.objs.size = some o) → h'.IsStrIter s1.heap.objs.size T x t i := fun T i h h' st k => by
  obtain ⟨o, ho, r⟩ := st
  exact ⟨o, k o ho, r⟩
 cases ha' : x.cps.all (· < 128)
 ·have hit' : h'.IsStrIter s1.heap.objs.size "str_iterator" x t 0 := by simpa [strIterType, ha'] using hit
  exact ⟨s1.heap.objs.size + 1, [s1.heap.objs.size + 1, s1.heap.objs.size], _, _, H1, rfl, I2, turn_enumS x t _ _ ne (fun A hh => Draws.strWide hh _ x t) (dat _) (frm _), ⟨⟨_, he⟩, hit'⟩, fpk, q⟩
 ·have hit' : h'.IsStrIter s1.heap.objs.size "str_ascii_iterator" x t 0 := by simpa [strIterType, ha'] using hit
  exact ⟨s1.heap.objs.size + 1, [s1.heap.objs.size + 1, s1.heap.objs.size], _, _, H1, rfl, I2, turn_enumS x t _ _ ne (fun A hh => Draws.strAscii hh _ x t) (dat _) (frm _), ⟨⟨_, he⟩, hit'⟩, fpk, q⟩
structure YieldsE (J : It) (H : Hp) (xs : List V) : Prop where
 go : ∀ i H', Same H H' → i < xs.length → J.go i H'
 stop : ∀ H', Same H H' → J.stop xs.length H'
 yld : ∀ (i : Nat) (H' : Hp) (x : V) (H'' : Hp), Same H H' → i < xs.length → J.yld i H' x H'' → ∃ t v, x = .ref t ∧ H' t = none ∧ H'' = upd H' t (.tup [.int i, v]) ∧ xs[i]? = some v
section
variable {K : PySem.W.Frag} {σ : St} {G : Hp} {α β : Type} [Rp α] [Rp β] {ta : TE}
noncomputable def IF (K : PySem.W.Frag) {α : Type} [Rp α] (wi : TI) (σ : St) (G : Hp) (m : Option (List α)) : Prop :=
 ∀ G1, Same G G1 → ∀ a, m = some a → ∀ H, Same G1 H → ∀ R : It → Hp → Prop, (∀ J vs G2 H2, Ext G1 H G2 H2 → YieldsE J G2 vs → vs.length ≤ sizeLine → Paired (Rp.rel K G2) vs a → R J H2) → wi σ H R
theorem if_str {sa : Option Str} (ea : EV K ta σ G sa) : IF K (iEnumS (Ag ta C0)) σ G (sa.bind fun a => some (Dg a)) := by
 intro G1 s1 a ha H sH R k
 obtain ⟨b, hb, ha⟩ := Option.bind_eq_some_iff.mp ha
 cases ha
 refine ea G1 s1 b hb H sH _ fun v G2 H2 x2 r2 => ?_
 obtain ⟨rfl, z⟩ := r2
 have hl : (DG b).length = b.cps.size := by simp [DG]
 exact ⟨b, rfl, k _ (DG b) G2 H2 x2 ⟨fun i H' _ hi => by show i < b.cps.size; omega, fun H' _ => hl, fun i H' y H'' _ _ hy => hy⟩ (by rw [hl]; exact z) (paired_signs b G2)⟩
theorem rel_i (G : Hp) (i : Int) : Rp.rel K G (V.int i) i := rfl
theorem fv_comp2 {cap : List Nat} {wi : TI} {tt : TT} {te : TE} {mi : Option (List α)} {fc : Int × α → Option Bool} {fe : Int × α → Option β} (ei : IF K wi σ G mi)
  (hb : ∀ (x : V) (a : Int × α) (G1 : Hp), Same G G1 → Rp.rel K G1 x a.2 → TV tt (((DS cap σ).set 0 (some (.int a.1))).set 1 (some x)) G1 (fc a) ∧ EV K te (((DS cap σ).set 0 (some (.int a.1))).set 1 (some x)) G1 (fe a)) :
  FV K (tComp2 K cap wi tt te) σ G (mi.bind fun as => Cd fc fe (Du 0 as)) := by
 intro G1 s1 c hc H sH Q k
 obtain ⟨as, has, hc⟩ := Option.bind_eq_some_iff.mp hc
 refine ei G1 s1 as has H sH _ fun J vs Ga Ha xa Y hz pr p hp => ?_
 have hla := Paired.length pr
 have hle := Eo as 0
 refine ⟨fun i m ys H2 => m = vs.length - i ∧ i ≤ vs.length ∧ ∃ G2 bs cs, Ext Ga Ha G2 H2 ∧ G2 p = none ∧ H2 p = some (.lst ys) ∧ ys.length ≤ i ∧ Paired (Rp.rel K G2) ys bs ∧ Cd fc fe ((Du 0 as).drop i) = some cs ∧ c = bs ++ cs,
  ⟨vs.length, by simp, Nat.zero_le _, Ga, [], c, .own xa.gh hp, xa.gh.free hp, AQ, Nat.le_refl _, .nil, hc, rfl⟩, ?_⟩
 rintro i m ys H2 ⟨rfl, hi, G2, bs, cs, x2, hg, hh, hy, hpr, hcs, rfl⟩
 by_cases hlt : i < vs.length
 ·refine .inr ⟨Y.go i _ (x2.gg.trans x2.gh) hlt, fun ys' H' => ∃ G2 bs' cs', Ext Ga Ha G2 H' ∧ G2 p = none ∧ H' p = some (.lst ys') ∧ ys'.length ≤ i + 1 ∧ Paired (Rp.rel K G2) ys' bs' ∧ Cd fc fe ((Du 0 as).drop (i + 1)) = some cs' ∧ bs ++ cs = bs' ++ cs',
   fun ys' H' ⟨G3, bs', cs', h⟩ => ⟨vs.length - (i + 1), by omega, rfl, hlt, G3, bs', cs', h⟩, fun x H3 y => ?_⟩
  obtain ⟨t, v, rfl, ht, rfl, hv⟩ := Y.yld i _ x H3 (x2.gg.trans x2.gh) hlt y
  obtain ⟨a, hai, ra⟩ := Paired.getR pr hv
  have hge : (Du 0 as)[i]? = some ((i : Int), a) := by rw [FT, hai]; simp
  have hd : (Du 0 as).drop i = ((i : Int), a) :: (Du 0 as).drop (i + 1) := by
   obtain ⟨h1, h2⟩ := List.getElem?_eq_some_iff.mp hge
   rw [List.drop_eq_getElem_cons h1, h2]
  rw [hd] at hcs
  obtain ⟨b, hbb, hcs⟩ := Option.bind_eq_some_iff.mp hcs
  have xn := Ext.new (o := .tup [.int i, v]) x2.gh ht
  have x2 := x2.trans xn
  have ne : p ≠ t := fun e => by rw [e, ht] at hh; cases hh
  have hh : (upd H2 t (.tup [.int i, v])) p = some (.lst ys) := by rw [Ao ne]; exact hh
  have hg : (upd G2 t (.tup [.int i, v])) p = none := by rw [Ao ne]; exact hg
  have hpr := Paired.imp' (fun _ _ r => Rp.mono xn.gg r) hpr
  have B := hb v ((i : Int), a) _ (s1.trans (xa.gg.trans x2.gg)) (Rp.mono x2.gg ra)
  refine ⟨t, _, rfl, SqT.of AQ, rfl, _, _, rfl, _, _, rfl, rfl, ?_⟩
  refine B.1 _ (.refl _) b hbb _ x2.gh _ fun G5 H5 x5 => ?_
  have hp5 : H5 p = some (.lst ys) := x5.hh _ _ hh
  have hg5 : G5 p = none := x5.no p hg (by rw [hh]; exact fun z => nomatch z)
  cases b with
  | false =>
   rw [if_neg Bool.false_ne_true]
   exact ⟨G5, bs, cs, x2.trans x5, hg5, hp5, by omega, Paired.imp' (fun _ _ r => Rp.mono x5.gg r) hpr, hcs, rfl⟩
  | true =>
   rw [if_pos rfl]
   obtain ⟨z, hze, hcs⟩ := Option.bind_eq_some_iff.mp hcs
   obtain ⟨cs', hcs', hcs⟩ := Option.bind_eq_some_iff.mp hcs
   cases hcs
   refine B.2 G5 x5.gg z hze H5 x5.gh _ fun v G6 H6 x6 r6 => ?_
   have hp6 : H6 p = some (.lst ys) := x6.hh _ _ hp5
   have hg6 : G6 p = none := x6.no p hg5 (by rw [hp5]; exact fun z => nomatch z)
   refine ⟨hp6, by omega, G6, bs ++ [z], cs', ((x2.trans x5).trans x6).put hp hg6, hg6, AQ, ?_, Paired.app (Paired.imp' (fun _ _ r => Rp.mono (x5.trans x6).gg r) hpr) (.cons r6 .nil), hcs', by simp⟩
   rw [List.length_append, List.length_singleton]
   omega
 ·have e : i = vs.length := by omega
  subst e
  have hd : (Du 0 as).drop vs.length = [] := List.drop_eq_nil_of_le (by omega)
  rw [hd] at hcs
  cases hcs
  refine .inl ⟨Y.stop _ (x2.gg.trans x2.gh), ?_⟩
  rw [List.append_nil] at k
  exact k p ys G2 H2 (xa.trans x2) (xa.hh.free hp) hg hh (by omega) hpr
end
inductive SI where
 | s (x : Str)
 | i (n : Int)
 deriving DecidableEq
noncomputable def RelSI (v : V) : SI → Prop
 | .s x => v = .str x ∧ x.length ≤ sizeLine
 | .i n => v = .int n
noncomputable instance rpSI : Rp SI := ⟨fun _ _ v a => RelSI v a, fun _ h => h⟩
noncomputable instance imSI : Imm SI := ⟨fun _ h => h⟩
theorem eqSI {K : PySem.W.Frag} : EqTy K 0 (Rp.rel (α := SI) K) where
 fn := fun {X pins σ H s x a b} hK I h1 h2 => by
  cases a with
  | s y => cases b with
   | s z => obtain ⟨rfl, _⟩ := h1; obtain ⟨e, _⟩ := h2; cases e; rfl
   | i n => obtain ⟨rfl, _⟩ := h1; cases h2
  | i m => cases b with
   | s z => obtain ⟨rfl, _⟩ := h2; cases h1
   | i n =>
    have h1 : x = .int m := h1
    have h2 : x = .int n := h2
    subst h1
    cases h2
    rfl
 eq := fun {X pins σ H s x y u v a b} A hK I hu r1 r2 h1 h2 => by
  cases a with
  | s p => cases b with
   | s q =>
    obtain ⟨rfl, _⟩ := h1
    obtain ⟨rfl, _⟩ := h2
    have := eqStr.eq (K := K) (a := p) (b := q) A hK I hu r1 r2 rfl rfl
    rwa [show decide (SI.s p = SI.s q) = decide (p = q) from decide_eq_decide.mpr ⟨fun e => by cases e; rfl, fun e => by rw [e]⟩]
   | i n =>
    obtain ⟨rfl, _⟩ := h1
    have h2 : y = .int n := h2
    subst h2
    obtain ⟨t, rfl⟩ := r1
    obtain ⟨t', rfl⟩ := r2
    rw [decide_eq_false (fun e => by cases e)]
    exact SeqAt.EqAt.str_int _ _ _ _
  | i m => cases b with
   | s q =>
    obtain ⟨rfl, _⟩ := h2
    have h1 : x = .int m := h1
    subst h1
    obtain ⟨t, rfl⟩ := r1
    obtain ⟨t', rfl⟩ := r2
    rw [decide_eq_false (fun e => by cases e)]
    exact SeqAt.EqAt.int_str _ _ _ _
   | i n =>
    have := eqInt.eq (K := K) (a := m) (b := n) A hK I hu r1 r2 h1 h2
    rwa [show decide (SI.i m = SI.i n) = decide (m = n) from decide_eq_decide.mpr ⟨fun e => by cases e; rfl, fun e => by rw [e]⟩]
 rc := fun {X pins σ H s x y u v a b} A hK I hu r1 r2 h1 h2 => by
  cases a with
  | s p => cases b with
   | s q =>
    obtain ⟨rfl, _⟩ := h1
    obtain ⟨rfl, _⟩ := h2
    have := eqStr.rc (K := K) (a := p) (b := q) A hK I hu r1 r2 rfl rfl
    rwa [show decide (SI.s p = SI.s q) = decide (p = q) from decide_eq_decide.mpr ⟨fun e => by cases e; rfl, fun e => by rw [e]⟩]
   | i n =>
    obtain ⟨rfl, _⟩ := h1
    have h2 : y = .int n := h2
    subst h2
    obtain ⟨t, rfl⟩ := r1
    obtain ⟨t', rfl⟩ := r2
    rw [decide_eq_false (fun e => by cases e)]
    exact ⟨SeqAt.RcAt.str_int _ _ _ _, SeqAt.RcNeAt.str_int _ _ _ _⟩
  | i m => cases b with
   | s q =>
    obtain ⟨rfl, _⟩ := h2
    have h1 : x = .int m := h1
    subst h1
    obtain ⟨t, rfl⟩ := r1
    obtain ⟨t', rfl⟩ := r2
    rw [decide_eq_false (fun e => by cases e)]
    exact ⟨SeqAt.RcAt.int_str _ _ _ _, SeqAt.RcNeAt.int_str _ _ _ _⟩
   | i n =>
    have := eqInt.rc (K := K) (a := m) (b := n) A hK I hu r1 r2 h1 h2
    rwa [show decide (SI.i m = SI.i n) = decide (m = n) from decide_eq_decide.mpr ⟨fun e => by cases e; rfl, fun e => by rw [e]⟩]
theorem room_u {j : Nat} {A : Around} (hr : Room j A) : A.units + 1 < cLine := by
 have := hr.un
 omega
noncomputable def asS : SI → Option Str
 | .s x => some x
 | .i _ => none
noncomputable def asI : SI → Option Int
 | .s _ => none
 | .i n => some n
section
variable {K : PySem.W.Frag} {σ : St} {G H : Hp} {ta tb te td ti : TE} {α : Type} [Rp α] {md : Option SI} {rest : TS} {D : Ends} {i : Nat}
theorem DR (e : EV K te σ G md) : EV K te σ G (md.bind fun d => asS d) := by
 intro G1 s1 c hc H sH Q k
 obtain ⟨d, hd, hc⟩ := Option.bind_eq_some_iff.mp hc
 refine e G1 s1 d hd H sH Q fun v G2 H2 x r => ?_
 cases d with
 | s y => cases hc; exact k _ _ _ x r
 | i n => cases hc
theorem ev_asI (e : EV K te σ G md) : EV K te σ G (md.bind fun d => asI d) := by
 intro G1 s1 c hc H sH Q k
 obtain ⟨d, hd, hc⟩ := Option.bind_eq_some_iff.mp hc
 refine e G1 s1 d hd H sH Q fun v G2 H2 x r => ?_
 cases d with
 | s y => cases hc
 | i n => cases hc; exact k _ _ _ x r
end
section
variable {K : PySem.W.Frag} {σ : St} {G H : Hp} {ta tb te td ti : TE} {α : Type} [Rp α]
end
section
variable {K : PySem.W.Frag} {σ : St} {G H : Hp} {ta tb te td ti : TE} {α : Type} [Rp α]
end
structure Mp (α : Type) where
 l : List (Int × α)
noncomputable def RelE (K : PySem.W.Frag) {α : Type} [Rp α] (H : Hp) (kv : Key × V) (q : Int × α) : Prop := kv.1 = .inl q.1 ∧ Rp.rel K H kv.2 q.2
noncomputable instance rpMp {α : Type} [Rp α] : Rp (Mp α) := ⟨fun K H v a => ∃ p kvs, v = .ref p ∧ H p = some (.dK kvs) ∧ Paired (RelE K H) kvs a.l,
 fun s ⟨p, kvs, e, h, pr⟩ => ⟨p, kvs, e, s _ _ h, Paired.imp' (fun _ _ r => ⟨r.1, Rp.mono s r.2⟩) pr⟩⟩
section
variable {K : PySem.W.Frag} {σ : St} {G H G1 H1 G0 H0 : Hp} {α β : Type} [Rp α] [Rp β] {td te ti : TE} {rest : TS} {D : Ends} {i : Nat} {a : Mp α} {v : V} {p q : Addr} {kvs : List (Key × V)}
end
section
variable {K : PySem.W.Frag} {σ : St} {G H : Hp} {α : Type} [Rp α] {te : TE} {rest : TS} {D : Ends} {i : Nat} {a : α} {m : Option α} {as : List α} {v : V} {p : Addr} {vs : List V}
end
section
variable {X : Cx} {e : Expr} {te : TE} {lo hi : Option Expr} {se : Expr} {tl th ts : TO} {pos p2 : Pos}
end
section
variable {K : PySem.W.Frag} {σ : St} {G H : Hp} {ta t3 : TE} {t1 t2 : TO} {α : Type} [Rp α] {m1 m2 : Option (Option Int)} {c : Int}
end
section
variable {K : PySem.W.Frag} {σ : St} {G : Hp} {α β γ : Type} [Rp α] [Rp β] [Rp γ] {ta tb : TE}
end
section
variable {K : PySem.W.Frag} {σ : St} {G H : Hp} {ta tb te : TE} {rest : TS} {D : Ends} {i : Nat} {v : V} {p : Addr} {vs : List V}
theorem paired_strsR {G : Hp} : ∀ {xs : List V} {ys : List Str}, Paired (Rp.rel K G) xs ys → xs = ys.map V.str
 | _, _, .nil => rfl
 | _, _, .cons h t => by
  obtain ⟨rfl, _⟩ := h
  rw [List.map_cons, paired_strsR t]
theorem sv_appendFB {δ : Type} [Rp δ] [Imm δ] {b : List δ} {m : Option (List δ)} {as as' : List (List δ)} (hσ : σ[i]? = some (some v)) (o : Own K G H v p vs as) (e : FV K te σ (upd G p (.lst vs)) m) (hm : m = some b) (hp : Ej as b = some as') (s : Same G H)
  (k : ∀ G2 H2 w, Ext G H G2 H2 → Own K G2 (upd H2 p (.lst (vs ++ [w]))) v p (vs ++ [w]) as' → rest D σ (upd H2 p (.lst (vs ++ [w])))) : CK (tDrop (tBM K "list" Fv (Bc i) (Ag te C0))) rest D σ H := by
 obtain ⟨hl, rfl⟩ := BN hp
 have hlen := Paired.length o.p
 have ov := o.v
 subst ov
 refine ⟨_, hσ, .inl ⟨rfl, _, SqL.of o.h⟩, ?_⟩
 refine e _ (.refl _) b hm H (o.same s) _ fun l ys G2 H2 x h0 hg hh hz hpr => ?_
 have gp : G2 p = some (.lst vs) := x.gg _ _ AQ
 have gl : L2.del G2 p l = none := by
  unfold L2.del
  split
  ·rfl
  ·exact hg
 have x3 : Ext G H (upd (L2.del G2 p) l (.lst ys)) H2 := (x.del o.g).frz h0 gl hh
 have o2 := o.ext x3
 have r : Rp.rel K (upd (L2.del G2 p) l (.lst ys)) (.ref l) b := ⟨l, ys, rfl, .inl AQ, hz, Paired.imp' (fun _ _ r => Rp.mono (Same.new gl) (Imm.del gp r)) hpr⟩
 refine ⟨p, vs, .ref l, rfl, rfl, o2.h, by omega, ?_⟩
 refine k _ H2 (.ref l) x3 ⟨rfl, o2.g, AQ, ?_, Paired.app o2.p (.cons r .nil)⟩
 rw [List.length_append, List.length_singleton]
 omega
end
noncomputable def leS (a b : Str) : Bool := !decide (b.cps.toList < a.cps.toList)
theorem leS_iff {a b : Str} : leS a b = true ↔ a.cps.toList ≤ b.cps.toList := by
 unfold leS
 rw [Bool.not_eq_true', decide_eq_false_iff_not]
 exact List.not_lt
theorem leS_trans (a b c : Str) (h1 : leS a b = true) (h2 : leS b c = true) : leS a c = true := leS_iff.mpr (List.le_trans (leS_iff.mp h1) (leS_iff.mp h2))
theorem leS_total (a b : Str) : (leS a b || leS b a) = true := by
 rw [Bool.or_eq_true, leS_iff, leS_iff]
 exact List.le_total _ _
theorem leS_anti {a b : Str} (h1 : leS a b = true) (h2 : leS b a = true) : a = b := by
 have := List.le_antisymm (leS_iff.mp h1) (leS_iff.mp h2)
 cases a
 cases b
 congr 1
 exact Array.toList_inj.mp this
noncomputable def sortS (ys : List Str) : List Str := ys.mergeSort leS
theorem EQ (ys : List Str) : (sortS ys).Perm ys := List.mergeSort_perm ys leS
theorem rising_pw : ∀ (p : Str) (l : List Str), risingS p l = true → (p :: l).Pairwise fun a b => leS a b = true
 | p, [], _ => by simp
 | p, x :: r, h => by
  have h : (!ltCps x.cps.toList p.cps.toList && risingS x r) = true := h
  rw [Bool.and_eq_true, ltCps_eq] at h
  have h1 : leS p x = true := h.1
  have ih := rising_pw x r h.2
  refine List.pairwise_cons.mpr ⟨fun y hy => ?_, ih⟩
  rcases List.mem_cons.mp hy with rfl | hy
  ·exact h1
  ·exact leS_trans _ _ _ h1 (List.rel_of_pairwise_cons ih hy)
theorem sortS_of {ss ss' : List Str} (hp : ss'.Perm ss) (hs : sortedS ss' = true) : ss' = sortS ss := by
 have pw : ss'.Pairwise fun a b => leS a b = true := by
  cases ss' with
  | nil => exact .nil
  | cons x r => exact rising_pw x r hs
 exact List.Perm.eq_of_pairwise (fun a b _ _ h1 h2 => leS_anti h1 h2) pw (List.pairwise_mergeSort leS_trans leS_total ss) (hp.trans (EQ ss).symm)
theorem vals_strs : ∀ {vs : List Value} {ss : List Str}, StrsAre vs ss → Vals (ss.map V.str) vs
 | _, _, .nil => .nil
 | _, _, .cons x t r => .cons ⟨t, rfl⟩ (vals_strs r)
theorem paired_len {K : PySem.W.Frag} {G : Hp} : ∀ {xs : List V} {ys : List Str}, Paired (Rp.rel K G) xs ys → ∀ y ∈ ys, y.length ≤ sizeLine
 | _, _, .nil => fun y hy => by cases hy
 | _, _, .cons h t => fun y hy => by
  rcases List.mem_cons.mp hy with rfl | hy
  ·exact h.2
  ·exact paired_len t y hy
section
variable {K : PySem.W.Frag} {σ : St} {G : Hp} {ta : TE}
end
noncomputable def rCatTp (K : PySem.W.Frag) : R2 := fun x y H Q => ∃ a b xs ys, x = .ref a ∧ y = .ref b ∧ SqT K H a xs ∧ SqT K H b ys ∧ xs.length + ys.length ≤ sizeLine ∧ (xs = [] → Q (.ref b) H) ∧ (ys = [] → Q (.ref a) H) ∧ ∀ p, H p = none → Q (.ref p) (upd H p (.tup (xs ++ ys)))
theorem op_catTp {X : Cx} {K : PySem.W.Frag} (h : X.K = K) : OpR X (binaryOp .Add) (rCatTp K) := by
 subst h
 intro pins s σ H x y v u Q I rx ry h
 obtain ⟨t, b, xs, ys, rfl, rfl, h1, h2, hz, q0, q1, q2⟩ := h
 cases rx
 cases ry
 obtain ⟨vs, rv, ht, _⟩ := I.tuple h1
 obtain ⟨ws, rw', hb, _⟩ := I.tuple h2
 have l1 := rv.length
 have l2 := rw'.length
 obtain ⟨⟨cls, dd, data, sl⟩, ho, hc, n, hd⟩ := id ht
 obtain ⟨⟨cls2, dd2, data2, sl2⟩, ho2, hc2, n2, hd2⟩ := id hb
 simp only at hc hd hc2 hd2
 subst hc hd hc2 hd2
 have e : vs.toArray ++ ws.toArray = (vs ++ ws).toArray := by simp
 by_cases hv : vs = []
 ·have hx : xs = [] := List.length_eq_zero_iff.mp (by rw [l1, hv]; rfl)
  exact concat_meets ⟨_, ho, rfl⟩ ⟨_, ho2, rfl⟩ noFill_tuple_add seq_tuple_add PySem.F.slot_tuple_add PySem.F.entry_tuple_add (PySem.F.args_tuple_add_2 _ _)
   (tuple_addW0 t b vs.toArray ws.toArray n n2 dd dd2 sl sl2 (by simp [hv])) ⟨ho, ho2, ⟨.ref b, H, I.tok _, rfl, q0 hx⟩⟩
 ·by_cases hw : ws = []
  ·have hy : ys = [] := List.length_eq_zero_iff.mp (by rw [l2, hw]; rfl)
   exact concat_meets ⟨_, ho, rfl⟩ ⟨_, ho2, rfl⟩ noFill_tuple_add seq_tuple_add PySem.F.slot_tuple_add PySem.F.entry_tuple_add (PySem.F.args_tuple_add_2 _ _)
    (tuple_addW1 t b vs.toArray ws.toArray n n2 dd dd2 sl sl2 (by simpa using hv) (by simp [hw])) ⟨ho, ho2, ⟨.ref t, H, I.tok _, rfl, q1 hy⟩⟩
  ·refine concat_meets ⟨_, ho, rfl⟩ ⟨_, ho2, rfl⟩ noFill_tuple_add seq_tuple_add PySem.F.slot_tuple_add PySem.F.entry_tuple_add (PySem.F.args_tuple_add_2 _ _)
    (tuple_addW2 t b vs.toArray ws.toArray n n2 dd dd2 sl sl2 (by simpa using hv) (by simpa using hw) (by rw [List.size_toArray, List.size_toArray]; omega)) ⟨ho, ho2, ?_⟩
   rw [e]
   exact ⟨.ref s.heap.objs.size, _, I.laid (t' := s.toks) (o := .tup (xs ++ ys)) (fun b ob q => Heap.get?_push_of_some _ q) (Nat.le_refl _) ⟨by rw [List.length_append]; exact hz, vs ++ ws, rv.append rw', IsTup.new _ _⟩, rfl, q2 _ (I.hok.fresh (Nat.le_refl _))⟩
section
variable {K : PySem.W.Frag} {σ : St} {G : Hp} {α : Type} [Rp α] {ta tb : TE}
end
section
variable {X : Cx} {pins : List (Addr × Obj)} {σ : St}
end
noncomputable def Ris (xs : Array Nat) : Prop := ∀ i j, i < j → (hj : j < xs.size) → xs.getD i 0 < xs.getD j 0
theorem below_go (xs : Array Nat) (j : Nat) (hr : Ris xs) : ∀ fuel lo hi, lo ≤ hi → hi ≤ xs.size → hi - lo ≤ fuel → (∀ i, i < lo → xs.getD i 0 < j) → (∀ i, hi ≤ i → i < xs.size → j ≤ xs.getD i 0) →
  (SetTable.below.go xs j fuel lo hi ≤ xs.size ∧ (∀ i, i < SetTable.below.go xs j fuel lo hi → xs.getD i 0 < j) ∧ ∀ i, SetTable.below.go xs j fuel lo hi ≤ i → i < xs.size → j ≤ xs.getD i 0) := by
 intro fuel
 induction fuel with
 | zero =>
  intro lo hi h1 h2 h3 h4 h5
  have e : lo = hi := by omega
  subst e
  exact ⟨h2, h4, h5⟩
 | succ fuel ih =>
  intro lo hi h1 h2 h3 h4 h5
  unfold SetTable.below.go
  by_cases hlt : lo < hi
  ·rw [if_pos hlt]
   dsimp only
   have hm1 : lo ≤ (lo + hi) / 2 := by omega
   have hm2 : (lo + hi) / 2 < hi := by omega
   generalize (lo + hi) / 2 = mid at hm1 hm2 ⊢
   have hms : mid < xs.size := by omega
   have e1 : xs.getD mid j = xs.getD mid 0 := by simp [Array.getD, hms]
   rw [e1]
   have mono : ∀ a b, a ≤ b → b < xs.size → xs.getD a 0 ≤ xs.getD b 0 := fun a b hab hb => by
    rcases Nat.lt_or_eq_of_le hab with h | h
    ·exact Nat.le_of_lt (hr a b h hb)
    ·rw [h]; exact Nat.le_refl _
   by_cases hc : xs.getD mid 0 < j
   ·rw [if_pos hc]
    refine ih (mid + 1) hi (by omega) h2 (by omega) (fun i hi' => ?_) h5
    exact Nat.lt_of_le_of_lt (mono i mid (by omega) hms) hc
   ·rw [if_neg hc]
    refine ih lo mid hm1 (by omega) (by omega) h4 fun i hi' hs => ?_
    exact Nat.le_trans (Nat.le_of_not_lt hc) (mono mid i hi' hs)
  ·rw [if_neg hlt]
   have e : lo = hi := by omega
   subst e
   exact ⟨h2, h4, h5⟩
theorem below_ok {xs : Array Nat} (hr : Ris xs) (j : Nat) : SetTable.below xs j ≤ xs.size ∧ (∀ i, i < SetTable.below xs j → xs.getD i 0 < j) ∧ ∀ i, SetTable.below xs j ≤ i → i < xs.size → j ≤ xs.getD i 0 :=
 below_go xs j hr xs.size 0 xs.size (Nat.zero_le _) (Nat.le_refl _) (Nat.le_refl _) (fun i h => absurd h (Nat.not_lt_zero _)) fun i h h' => absurd h' (Nat.not_lt.mpr h)
theorem below_eq {xs : Array Nat} (hr : Ris xs) {j p : Nat} (hp : p ≤ xs.size) (h1 : ∀ i, i < p → xs.getD i 0 < j) (h2 : ∀ i, p ≤ i → i < xs.size → j ≤ xs.getD i 0) : SetTable.below xs j = p := by
 obtain ⟨a, b, c⟩ := below_ok hr j
 rcases Nat.lt_trichotomy (SetTable.below xs j) p with h | h | h
 ·have := c _ (Nat.le_refl _) (by omega)
  have := h1 _ h
  omega
 ·exact h
 ·have := b _ h
  have := h2 p (Nat.le_refl _) (by omega)
  omega
theorem below_zero {xs : Array Nat} (hr : Ris xs) : SetTable.below xs 0 = 0 := below_eq hr (Nat.zero_le _) (fun i h => absurd h (Nat.not_lt_zero _)) fun i _ _ => Nat.zero_le _
theorem below_next {xs : Array Nat} (hr : Ris xs) {i : Nat} (hi : i < xs.size) : SetTable.below xs (xs.getD i 0 + 1) = i + 1 :=
 below_eq hr hi (fun k hk => by
  rcases Nat.lt_or_eq_of_le (Nat.le_of_lt_succ hk) with h | h
  ·have := hr k i h hi; omega
  ·rw [h]; exact Nat.lt_succ_self _) fun k hk hs => hr i k hk hs
theorem ris_of_pw {xs : Array Nat} (h : xs.toList.Pairwise (· < ·)) : Ris xs := fun i j hij hj => by
 have := List.pairwise_iff_getElem.mp h i j (by simpa using Nat.lt_trans hij hj) (by simpa using hj) hij
 simpa [Array.getD, hj, Nat.lt_trans hij hj] using this
theorem pw_of_ris {xs : Array Nat} (h : Ris xs) : xs.toList.Pairwise (· < ·) := by
 rw [List.pairwise_iff_getElem]
 intro i j hi hj hij
 have hi' : i < xs.size := by simpa using hi
 have hj' : j < xs.size := by simpa using hj
 have := h i j hij hj'
 simpa [Array.getD, hj', hi'] using this
theorem ris_insert {xs : Array Nat} (hr : Ris xs) {j : Nat} (hn : xs[SetTable.below xs j]? ≠ some j) : Ris (SetTable.insertAt xs (SetTable.below xs j) j) := by
 apply ris_of_pw
 rw [SetTable.toList_insertAt]
 obtain ⟨a, b, c⟩ := below_ok hr j
 have pw := pw_of_ris hr
 generalize hp : SetTable.below xs j = p at a b c hn
 have hA : ∀ x ∈ xs.toList.take p, x < j := fun x hx => by
  obtain ⟨i, hi, rfl⟩ := List.mem_iff_getElem.mp hx
  rw [List.length_take] at hi
  have h1 : i < p := by omega
  have h2 : i < xs.size := by rw [Array.length_toList] at hi; omega
  have := b i h1
  rw [List.getElem_take]
  simpa [Array.getD, h2] using this
 have hB : ∀ x ∈ xs.toList.drop p, j < x := fun x hx => by
  obtain ⟨i, hi, rfl⟩ := List.mem_iff_getElem.mp hx
  rw [List.length_drop, Array.length_toList] at hi
  have h2 : p + i < xs.size := by omega
  have hp2 : p < xs.size := by omega
  have h3 := c (p + i) (Nat.le_add_right _ _) h2
  rw [List.getElem_drop]
  have h4 : xs.getD (p + i) 0 ≠ j := fun e => by
   have h5 := c p (Nat.le_refl _) hp2
   have h6 : xs.getD p 0 ≤ xs.getD (p + i) 0 := by
    cases i with
    | zero => exact Nat.le_refl _
    | succ i => exact Nat.le_of_lt (hr p (p + (i + 1)) (by omega) h2)
   have h7 : xs.getD p 0 = j := by omega
   apply hn
   simp only [Array.getD, hp2, dite_true] at h7
   rw [Array.getElem?_eq_getElem hp2]
   exact congrArg some h7
  simp only [Array.getD, h2, dite_true] at h3 h4
  have e : xs.toList[p + i]'(by simpa using h2) = xs[p + i] := by simp
  rw [e]
  have h3' : j ≤ xs[p + i] := by simpa using h3
  have h4' : xs[p + i] ≠ j := by simpa using h4
  omega
 rw [List.pairwise_append]
 refine ⟨pw.take, List.pairwise_cons.mpr ⟨hB, pw.drop⟩, fun x hx y hy => ?_⟩
 have h1 := hA x hx
 rcases List.mem_cons.mp hy with rfl | hy
 ·exact h1
 ·exact Nat.lt_trans h1 (hB y hy)
structure RT (t : SetTable) : Prop where
 ris : Ris t.place
 dum : t.dummies = #[]
theorem has_empty (j : Nat) : SetTable.has #[] j = false := by
 unfold SetTable.has
 simp
theorem probe_go {t : SetTable} (hd : t.dummies = #[]) (f : Nat → Int) (h : Int) : ∀ fuel p j d, p.dummy = none → SetTable.probe.go t f h fuel p = some (.empty j d) → d = none ∧ t.place[SetTable.below t.place j]? ≠ some j := by
 intro fuel
 induction fuel with
 | zero => intro p j d _ e; cases e
 | succ fuel ih =>
  intro p j d hp e
  unfold SetTable.probe.go at e
  have hadv : (t.advance p).dummy = none := by
   unfold SetTable.advance
   split
   ·exact hp
   ·exact hp
  cases hs : t.slot p.j with
  | empty =>
   rw [hs] at e
   dsimp only at e
   cases e
   refine ⟨hp, fun hc => ?_⟩
   unfold SetTable.slot at hs
   dsimp only at hs
   rw [hc] at hs
   simp at hs
  | dummy =>
   unfold SetTable.slot at hs
   dsimp only at hs
   rw [hd, has_empty] at hs
   split at hs <;> simp at hs
  | live i =>
   rw [hs] at e
   dsimp only at e
   split at e
   ·cases e
   ·exact ih _ _ _ hadv e
theorem freeSlot_ok {t : SetTable} (hd : t.dummies = #[]) {h : Int} {j : Nat} {b : Bool} (e : t.freeSlot h = some (j, b)) : b = false ∧ t.place[SetTable.below t.place j]? ≠ some j := by
 unfold SetTable.freeSlot at e
 cases hp : t.probe (fun _ => h + 1) h (t.probeStart h) with
 | none => rw [hp] at e; cases e
 | some m =>
  rw [hp] at e
  cases m with
  | candidate _ _ _ => cases e
  | empty j' d =>
   obtain ⟨rfl, h2⟩ := probe_go hd _ _ _ _ _ _ rfl hp
   simp only [Option.getD_none, Option.isSome_none, Option.some.injEq, Prod.mk.injEq] at e
   obtain ⟨rfl, rfl⟩ := e
   exact ⟨rfl, h2⟩
theorem FB (t : SetTable) (n : Nat) : RT (t.standIn n) := ⟨ris_of_pw (by show (Array.range n).toList.Pairwise _; rw [Array.toList_range]; exact List.pairwise_lt_range), rfl⟩
theorem orStandIn_rt {t : SetTable} (h : RT t) (n : Nat) : RT (t.orStandIn n) := by
 unfold SetTable.orStandIn
 split
 ·exact h
 ·exact FB t n
theorem orStandIn_led (t : SetTable) (n : Nat) : (t.orStandIn n).led = t.led := by
 unfold SetTable.orStandIn
 split <;> rfl
theorem layNew_rt {t : SetTable} (ht : RT t) (es : Array (Int × Value)) (h : Int) (x : Value) : RT (layNew t es h x).2.1 ∧ (layNew t es h x).2.1.led = t.led := by
 unfold layNew
 split
 ·rename_i slot wd e
  obtain ⟨_, h2⟩ := freeSlot_ok ht.dum e
  refine ⟨orStandIn_rt ⟨?_, ?_⟩ _, orStandIn_led _ _⟩
  ·exact ris_insert ht.ris h2
  ·show (if SetTable.has t.dummies slot then _ else t.dummies) = #[]
   rw [ht.dum, has_empty]
   rfl
 ·exact ⟨FB _ _, rfl⟩
theorem filterMap_pw {β : Type} (f : Nat → Option β) : ∀ l : List Nat, l.Pairwise (· < ·) → ((l.filterMap fun j => (f j).map (j, ·)).map (·.1)).Pairwise (· < ·)
 | [], _ => .nil
 | a :: l, h => by
  have ih := filterMap_pw f l h.tail
  cases hf : f a with
  | none => rw [List.filterMap_cons_none (by rw [hf]; rfl)]; exact ih
  | some b =>
   rw [List.filterMap_cons_some (b := (a, b)) (by rw [hf]; rfl), List.map_cons]
   refine List.pairwise_cons.mpr ⟨fun y hy => ?_, ih⟩
   obtain ⟨⟨j, c⟩, hq, rfl⟩ := List.mem_map.mp hy
   obtain ⟨j', hj', e⟩ := List.mem_filterMap.mp hq
   cases hf' : f j' with
   | none => rw [hf'] at e; cases e
   | some c' =>
    rw [hf'] at e
    cases e
    exact List.rel_of_pairwise_cons h hj'
theorem laid_rt {mask finger moves : Nat} {led plain : Bool} {hs : Array Int} {t : SetTable} {o : Array Nat} (e : SetTable.laid mask finger moves led plain hs = some (t, o)) : RT t ∧ t.led = led ∧ t.plain = plain ∧ t.mask = mask := by
 unfold SetTable.laid at e
 cases hl : SetTable.layClean mask hs with
 | none => rw [hl] at e; cases e
 | some ow =>
  rw [hl] at e
  simp only [Option.pure_def, Option.bind_eq_bind, Option.bind_some, Option.some.injEq, Prod.mk.injEq] at e
  obtain ⟨rfl, rfl⟩ := e
  refine ⟨⟨ris_of_pw ?_, rfl⟩, rfl, rfl, rfl⟩
  exact filterMap_pw (fun j => ow.getD j none) _ List.pairwise_lt_range
theorem relayAll_rt (t : SetTable) (ht : RT t) (es : Array (Int × Value)) (wanted : Nat) : RT (relayAll t es wanted).2.1 ∧ (relayAll t es wanted).2.1.led = t.led := by
 unfold relayAll
 split
 ·rename_i t' order e
  dsimp only
  split
  ·unfold SetTable.relaid at e
   obtain ⟨a, b, _⟩ := laid_rt e
   exact ⟨a, b⟩
  ·exact ⟨FB _ _, rfl⟩
 ·exact ⟨FB _ _, rfl⟩
theorem erase_perm {α : Type} {l : List α} {i : Nat} (h : i < l.length) : (l[i] :: l.eraseIdx i).Perm l := by
 rw [List.eraseIdx_eq_take_drop_succ]
 have e : l = l.take i ++ l[i] :: l.drop (i + 1) := by rw [List.getElem_cons_drop, List.take_append_drop]
 exact List.perm_middle.symm.trans (List.Perm.of_eq e.symm)
theorem pick_go {α : Type} (next : Nat → Nat) : ∀ fuel k (left : List α) (out : Array α), left.length = fuel → (pickOrder.go next fuel k left out).toList.Perm (out.toList ++ left) := by
 intro fuel
 induction fuel with
 | zero =>
  intro k left out h
  have : left = [] := List.eq_nil_of_length_eq_zero h
  subst this
  unfold pickOrder.go
  rw [List.append_nil]
 | succ fuel ih =>
  intro k left out h
  unfold pickOrder.go
  have hlt : next k % left.length < left.length := Nat.mod_lt _ (by omega)
  rw [List.getElem?_eq_getElem hlt]
  dsimp only
  refine (ih (k + 1) _ _ (by rw [List.length_eraseIdx_of_lt hlt]; omega)).trans ?_
  rw [Array.toList_push, List.append_assoc]
  refine List.Perm.append_left _ ?_
  exact erase_perm hlt
theorem pick_perm {α : Type} (next : Nat → Nat) (xs : Array α) : (pickOrder next xs).toList.Perm xs.toList := by
 unfold pickOrder
 exact (pick_go next xs.size 0 xs.toList #[] (by simp)).trans (by simp)
noncomputable def byT (w : World) : Bool := w.params.followText "set-order"
noncomputable def Ent (w : World) (e : Int × Value) (k : Key) : Prop := E1 k e.2 = true ∧ e.1 = keyH w k
theorem key_scan {k : Key} {v : Value} (h : E1 k v = true) : v.scannable = true := by
 rcases Bb h with ⟨i, t, rfl, rfl⟩ | ⟨x, t, rfl, rfl⟩ <;> rfl
structure SObj (w : World) (o : Obj) (es : Array (Int × Value)) (ep : Nat) (t : SetTable) (ks : List Key) : Prop where
 exact' : o.ExactSet
 data : o.data = .set es ep t
 ent : Paired (Ent w) es.toList ks
 few : ks.length < scanBound
 fit : t.fits es.size = true
 rt : RT t
 led : t.led = !byT w
noncomputable def SetIs (w : World) (h : Heap) (a : Addr) (ks : List Key) : Prop := ∃ o es ep t, h.get? a = some o ∧ SObj w o es ep t ks
theorem Ds {α β : Type} {F : α → β → Prop} : ∀ {l₁ : List α} {l₂ : List β}, Paired F l₁ l₂ → l₁.length = l₂.length
 | _, _, .nil => rfl
 | _, _, .cons _ t => congrArg (· + 1) (Ds t)
theorem SObj.size {w : World} {o es ep t ks} (S : SObj w o es ep t ks) : es.size = ks.length := by
 have := Ds S.ent
 rwa [Array.length_toList] at this
theorem SObj.elems {prog : Program} {w : World} {o es ep t ks} (S : SObj w o es ep t ks) : ElemsOf (BY prog w) es.toList := by
 have : ∀ {l : List (Int × Value)} {ks : List Key}, Paired (Ent w) l ks → ElemsOf (BY prog w) l := by
  intro l ks p
  induction p with
  | nil => intro e he; cases he
  | cons hd _ ih =>
   intro e he
   rcases List.mem_cons.mp he with rfl | he
   ·exact ⟨⟨_, hd.1, hd.2⟩, key_scan hd.1⟩
   ·exact ih e he
 exact this S.ent
theorem FG {α β : Type} {F : α → β → Prop} {l l' : List α} (hp : l'.Perm l) : ∀ {m : List β}, Paired F l m → ∃ m', m'.Perm m ∧ Paired F l' m' := by
 have := hp.symm
 clear hp
 induction this with
 | nil => intro m p; exact ⟨m, .rfl, p⟩
 | cons x _ ih =>
  intro m p
  cases p with
  | cons h t =>
   obtain ⟨m', e, q⟩ := ih t
   exact ⟨_, e.cons _, .cons h q⟩
 | swap x y l =>
  intro m p
  cases p with
  | cons h t => cases t with
   | cons h2 t2 => exact ⟨_, List.Perm.swap _ _ _, .cons h2 (.cons h t2)⟩
 | trans _ _ ih1 ih2 =>
  intro m p
  obtain ⟨m1, e1, q1⟩ := ih1 p
  obtain ⟨m2, e2, q2⟩ := ih2 q1
  exact ⟨m2, e2.trans e1, q2⟩
theorem ent_find {w : World} {k : Key} : ∀ {l : List (Int × Value)} {ks : List Key}, Paired (Ent w) l ks → ((∃ e ∈ l, E1 k e.2 = true) ↔ k ∈ ks)
 | _, _, .nil => by simp
 | _, _, .cons (a := e) (b := k') h t => by
  have ih := ent_find (k := k) t
  have hk : E1 k e.2 = true ↔ k = k' := ⟨fun q => (BY default w).inj _ _ _ q h.1, fun q => q ▸ h.1⟩
  constructor
  ·rintro ⟨x, hx, q⟩
   rcases List.mem_cons.mp hx with rfl | hx
   ·exact List.mem_cons.mpr (.inl (hk.mp q))
   ·exact List.mem_cons.mpr (.inr (ih.mp ⟨x, hx, q⟩))
  ·intro hm
   rcases List.mem_cons.mp hm with rfl | hm
   ·exact ⟨e, List.mem_cons_self, h.1⟩
   ·obtain ⟨x, hx, q⟩ := ih.mpr hm
    exact ⟨x, List.mem_cons_of_mem _ hx, q⟩
noncomputable def Fb (ks : List Key) (k : Key) : List Key := if ks.any (fun y => decide (y = k)) then ks else ks ++ [k]
theorem any_mem {ks : List Key} {k : Key} : ks.any (fun y => decide (y = k)) = true ↔ k ∈ ks := by
 rw [List.any_eq_true]
 exact ⟨fun ⟨y, hy, e⟩ => (of_decide_eq_true e) ▸ hy, fun h => ⟨k, h, decide_eq_true rfl⟩⟩
theorem addK_in {ks : List Key} {k : Key} (h : k ∈ ks) : Fb ks k = ks := by unfold Fb; rw [if_pos (any_mem.mpr h)]
theorem addK_out {ks : List Key} {k : Key} (h : k ∉ ks) : Fb ks k = ks ++ [k] := by unfold Fb; rw [if_neg (fun q => h (any_mem.mp q))]
theorem rt_plain_off {t : SetTable} (h : RT t) : RT { t with plain := false } := ⟨h.ris, h.dum⟩
section
variable {prog : Program} {w : World} {A : Around} {E : Value → Shared → Prop} {s : Shared}
theorem Fa {Q : Bool → Shared → Prop} (h : Q (byT w) s) : wpAny (model prog w) A setsByText Q E s := by
 unfold setsByText
 exact wpAny_bind (wpAny_askSetting (wpAny_pure h))
theorem wp_choose {src : Source} {n : Nat} {Q : Nat → Shared → Prop} (hn : n ≠ 0) (h : ∀ i d, i < n → Q i { s with drawn := d }) : wpAny (model prog w) A (choose src n) Q E s :=
 fun Γ p hΓ => ⟨hn, h _ _ (Nat.mod_lt _ (Nat.pos_of_ne_zero hn))⟩
theorem store_set {a : Addr} {o : Obj} {es : Array (Int × Value)} {ep : Nat} {t : SetTable} {es' : Array (Int × Value)} {t' : SetTable} (ho : s.heap.get? a = some o) (hd : o.data = .set es ep t) :
  (s.heap.update a (Obj.putSet es' t')).get? a = some { o with data := .set es' (ep + 1) t' } := by
 have := Heap.get?_update_self (Obj.putSet es' t') ho (by rw [putSet_of es' t' hd]; rfl)
 rwa [putSet_of es' t' hd] at this
theorem few_line {n : Nat} (h : n < scanBound) : n ≤ sizeLine := fits_of_scanBound h
theorem add_tail {g : Bool → Sem Unit} (hg : ∀ (b : Bool) (s₁ : Shared) (Q' : Unit → Shared → Prop), Q' () s₁ → wpAny (model prog w) A (g b) Q' E s₁)
  {a : Addr} {o : Obj} {es : Array (Int × Value)} {ep : Nat} {t : SetTable} (gA : s.heap.get? a = some o) (xA : o.ExactSet) (dA : o.data = .set es ep t)
  {es1 : Array (Int × Value)} {t2 : SetTable} {ks : List Key} (p1 : Paired (Ent w) es1.toList ks) (f1 : ks.length < scanBound) (ft : t2.fits es1.size = true) (r2 : RT t2) (l2 : t2.led = !byT w) {wd : Bool} {R : Option Bool → Shared → Prop}
  (h : ∀ h' ks', Heap.SameBut a s.heap h' → SetIs w h' a ks' → ks'.Perm ks → R (some true) { s with heap := h' }) :
  wpAny (model prog w) A (do
    storeSet a es1 t2
    if (!wd && t2.tooFull) = true then do
      g (relayAll t2 es1 (SetTable.grown es1.size)).2.2; storeSet a (relayAll t2 es1 (SetTable.grown es1.size)).1 (relayAll t2 es1 (SetTable.grown es1.size)).2.1
      pure (some true)
     else pure (some true)) R E s := by
 have z1 : es1.size = ks.length := by have := Ds p1; rwa [Array.length_toList] at this
 refine wpAny_bind (wpAny_storeSet_of gA dA ?_ (few_line (by rw [z1]; exact f1)))
 have g1 := store_set (es' := es1) (t' := t2) gA dA
 have b1 := Heap.SameBut.update s.heap a (Obj.putSet es1 t2)
 split
 ·have hp := relayAll_perm t2 es1 (SetTable.grown es1.size)
  have hfr := relayAll_fits t2 es1 (SetTable.grown es1.size)
  obtain ⟨hrt, hld⟩ := relayAll_rt t2 r2 es1 (SetTable.grown es1.size)
  generalize relayAll t2 es1 (SetTable.grown es1.size) = Rl at hp hfr hrt hld ⊢
  obtain ⟨es2, t3, gave2⟩ := Rl
  dsimp only at hp hfr hrt hld ⊢
  obtain ⟨ks', e', p2⟩ := FG hp p1
  have f2 : ks'.length < scanBound := by rw [e'.length_eq]; exact f1
  have z2 : es2.size = ks'.length := by have := Ds p2; rwa [Array.length_toList] at this
  refine wpAny_bind (hg _ _ _ (wpAny_bind (wpAny_storeSet_of (o := { o with data := .set es1 (ep + 1) t2 }) g1 rfl ?_ (few_line (by rw [z2]; exact f2)))))
  have g2 := store_set (s := { s with heap := s.heap.update a (Obj.putSet es1 t2) }) (es' := es2) (t' := t3) g1 rfl
  exact wpAny_pure (h _ ks' (b1.trans (Heap.SameBut.update _ a _)) ⟨_, es2, _, t3, g2, ⟨xA, rfl, p2, f2, hfr, hrt, hld.trans l2⟩⟩ e')
 ·exact wpAny_pure (h _ ks b1 ⟨_, es1, _, t2, g1, ⟨xA, rfl, p1, f1, ft, r2, l2⟩⟩ .rfl)
theorem add_ok {a : Addr} {ks : List Key} {k : Key} {x : Value} {Q : Bool → Shared → Prop} (hk : E1 k x = true) (hS : SetIs w s.heap a ks) (hroom : ks.length + 1 < scanBound)
  (h : ∀ h' ks', Heap.SameBut a s.heap h' → SetIs w h' a ks' → ks'.Perm (Fb ks k) → ∀ b, Q b { s with heap := h' }) :
  wpAny (model prog w) A (setAddHashed a x (keyH w k)) Q E s := by
 obtain ⟨o, es, ep, t, gA, S⟩ := hS
 have hel := S.elems (prog := prog)
 have hsz := S.size
 have hsc := key_scan hk
 unfold setAddHashed setAddHashedIn
 refine wpAny_holding (wpAny_bind (wpAny_setState_of gA S.data S.fit ?_)); dsimp only
 rw [byScan_of hsc (by rw [hsz]; exact S.few) hel]; simp only [↓reduceIte]
 unfold setAddByScan
 refine wpAny_bind (wpAny_bind (wpAny_rule (wpAny_bind (wpAny_setScan_of (knd := BY prog w) (k := k) hk gA S.data S.fit hel ?_))))
 have hf := ent_find (k := k) S.ent
 cases hr : List.findIdx? (fun e => (BY prog w).is k e.2) es.toList with
 | some j =>
  dsimp only
  obtain ⟨hj, hpj, _⟩ := List.findIdx?_eq_some_iff_getElem.mp hr
  have hm : k ∈ ks := hf.mp ⟨es.toList[j], List.getElem_mem hj, hpj⟩
  refine wpAny_pure (wpAny_pure ?_)
  have e : s = { s with heap := s.heap } := by cases s; rfl
  have q := h s.heap ks (Heap.SameBut.refl a s.heap) ⟨o, es, ep, t, gA, S⟩ (by rw [addK_in hm]) false
  rw [← e] at q
  exact q
 | none =>
  dsimp only
  have hm : k ∉ ks := fun hm => by
   obtain ⟨e, he, q⟩ := hf.mpr hm
   have := List.findIdx?_eq_none_iff.mp hr e he
   have q' : (BY prog w).is k e.2 = true := q
   rw [q'] at this
   exact Bool.noConfusion this
  have hgw : ∀ (b : Bool) {s₁ : Shared} {Q' : Unit → Shared → Prop}, Q' () s₁ → wpAny (model prog w) A (match b with | true => rule "set.scan.the-table-gave-way" | false => pure ()) Q' E s₁ := by
   intro b s₁ Q' hq
   cases b
   ·exact wpAny_pure hq
   ·exact wpAny_rule hq
  have hperm := layNew_perm t es (keyH w k) x
  have hfits := layNew_fits t es (keyH w k) x
  obtain ⟨hrt, hld⟩ := layNew_rt S.rt es (keyH w k) x
  generalize hL : layNew t es (keyH w k) x = L at hperm hfits hrt hld
  obtain ⟨es1, t1, wd, gave⟩ := L
  dsimp only at hperm hfits hrt hld ⊢
  rw [Array.toList_push] at hperm
  obtain ⟨ks1, e1, p1⟩ := FG hperm (S.ent.snoc (b := k) (show Ent w (keyH w k, x) k from ⟨hk, rfl⟩))
  have f1 : ks1.length < scanBound := by rw [e1.length_eq, List.length_append]; exact hroom
  have fin : ∀ (h' : Heap) (ks' : List Key), Heap.SameBut a s.heap h' → SetIs w h' a ks' → ks'.Perm ks1 → Q true { s with heap := h' } := fun h' ks' b1 b2 b3 => h h' ks' b1 b2 (by rw [addK_out hm]; exact b3.trans e1) true
  refine wpAny_bind (hgw _ ?_)
  split
  ·refine wpAny_bind ?_; rw [hashByValue_scannable 8 hsc]
   refine wpAny_pure (add_tail (fun b s₁ Q' hq => by cases b <;> first | exact wpAny_pure hq | exact wpAny_rule hq) gA S.exact' S.data p1 f1 ?_ ?_ ?_ fun h' ks' b1 b2 b3 => ?_)
   ·split
    ·exact hfits
    ·exact SetTable.fits_plain_off hfits
   ·split
    ·exact hrt
    ·exact rt_plain_off hrt
   ·split
    ·exact hld.trans S.led
    ·exact hld.trans S.led
   ·exact wpAny_pure (fin h' ks' b1 b2 b3)
  ·refine wpAny_bind (wpAny_pure ?_); simp only [↓reduceIte]
   refine add_tail (fun b s₁ Q' hq => by cases b <;> first | exact wpAny_pure hq | exact wpAny_rule hq) gA S.exact' S.data p1 f1 hfits hrt (hld.trans S.led) fun h' ks' b1 b2 b3 => ?_
   exact wpAny_pure (fin h' ks' b1 b2 b3)
end
noncomputable def Fr (ks : List Key) : List Key := ks.foldl Fb []
theorem addK_perm {a b : List Key} (h : a.Perm b) (k : Key) : (Fb a k).Perm (Fb b k) := by
 by_cases hk : k ∈ b
 ·rw [addK_in hk, addK_in (h.mem_iff.mpr hk)]; exact h
 ·rw [addK_out hk, addK_out (fun q => hk (h.mem_iff.mp q))]; exact h.append_right _
theorem addK_len (a : List Key) (k : Key) : (Fb a k).length ≤ a.length + 1 := by
 unfold Fb
 split
 ·exact Nat.le_succ _
 ·rw [List.length_append]; exact Nat.le_refl _
theorem foldK_len (ks : List Key) : ∀ a : List Key, (ks.foldl Fb a).length ≤ a.length + ks.length := by
 induction ks with
 | nil => intro a; exact Nat.le_refl _
 | cons k ks ih =>
  intro a
  have h1 := ih (Fb a k)
  have h2 := addK_len a k
  rw [List.foldl_cons, List.length_cons]
  omega
theorem dedK_len (ks : List Key) : (Fr ks).length ≤ ks.length := by
 have := foldK_len ks []
 rw [List.length_nil] at this
 unfold Fr
 omega
theorem dedK_snoc (ks : List Key) (k : Key) : Fr (ks ++ [k]) = Fb (Fr ks) k := by
 unfold Fr
 rw [List.foldl_append]
 rfl
noncomputable def SetP (w : World) (h : Heap) (a : Addr) (ks : List Key) : Prop := ∃ ks', SetIs w h a ks' ∧ ks'.Perm ks
theorem SetIs.at {w : World} {h h' : Heap} {a : Addr} {ks : List Key} (x : SetIs w h a ks) (k : ∀ o, h.get? a = some o → h'.get? a = some o) : SetIs w h' a ks := by
 obtain ⟨o, es, ep, t, g, S⟩ := x
 exact ⟨o, es, ep, t, k _ g, S⟩
theorem SetP.at {w : World} {h h' : Heap} {a : Addr} {ks : List Key} (x : SetP w h a ks) (k : ∀ o, h.get? a = some o → h'.get? a = some o) : SetP w h' a ks := by
 obtain ⟨ks', g, e⟩ := x
 exact ⟨ks', g.at k, e⟩
theorem SetP.lt {w : World} {h : Heap} {a : Addr} {ks : List Key} (x : SetP w h a ks) : a < h.objs.size := by
 obtain ⟨_, ⟨_, _, _, _, g, _⟩, _⟩ := x
 exact Heap.lt_size g
theorem SetP.type {w : World} {s : Shared} {a : Addr} {ks : List Key} (x : SetP w s.heap a ks) : s.TypeIs (.ref a) "set" := by
 obtain ⟨_, ⟨o, _, _, _, g, S⟩, _⟩ := x
 exact ⟨o, g, S.exact'.1⟩
noncomputable def Co (w : World) : Obj := { cls := .type "set", dict := none, data := .set #[] 0 (.fresh 0 0 (!byT w)) }
theorem fresh_is {w : World} {h : Heap} {a : Addr} (g : h.get? a = some (Co w)) : SetIs w h a [] :=
 ⟨_, #[], 0, _, g, ⟨⟨rfl, rfl, rfl⟩, rfl, .nil, by decide, rfl, ⟨fun i j _ hj => absurd hj (Nat.not_lt_zero _), rfl⟩, rfl⟩⟩
section
variable {prog : Program} {w : World} {A : Around} {R : Result → Shared → Prop} {I : Addr} {fp wr : List Addr} {G : Array GenState → Array GenState → Prop} {n : Nat} {P : Nat → Value → Prop} {St : Nat → Shared → Prop}
theorem upd_loop (W : WalksS prog w A.in1 I fp wr G n P St) (S : Addr) (nS : S ∉ fp) (val : List Key) (hn : val.length = n) (hv : ∀ i v, P i v → ∃ k, val[i]? = some k ∧ E1 k v = true) (hb : n + 1 < scanBound) :
  ∀ (k i : Nat) (s : Shared), n - i = k → i ≤ n → St i s → SetP w s.heap S (Fr (val.take i)) →
   (∀ s', Moved (S :: wr) G s s' → SetP w s'.heap S (Fr val) → R (.ok (.ret .none)) s') →
   codeAny (model prog w) A (.builtin "set.update.loop" ⟨[.ref S, .ref I], []⟩) R s := by
 have nW : S ∉ wr := fun h => nS (W.sub _ h)
 have up : ∀ b ∈ wr, b ∈ S :: wr := fun b hb => List.mem_cons_of_mem _ hb
 intro k
 induction k with
 | zero =>
  intro i s e1 e2 st hS hR
  have ei : i = n := by omega
  subst ei
  refine codeAny_builtin PyProof.Rows.F.entry_set_update_loop ?_; rw [Around.under_plainId PyProof.Rows.F.plain_set_update_loop _]
  show wpAny _ A.in1 (pyNext (.ref I) >>= _) _ _ s; refine wpAny_bind (W.done s _ _ st fun s' hm => ?_)
  show wpAny _ A.in1 (ret Value.none) _ _ s'; refine wpAny_pure (hR s' (hm.mono up) ?_)
  rw [List.take_of_length_le (Nat.le_of_eq hn)] at hS
  exact hS.at fun o e => hm.heap S _ nW e
 | succ k ih =>
  intro i s e1 e2 st hS hR
  have hlt : i < n := by omega
  refine codeAny_builtin PyProof.Rows.F.entry_set_update_loop ?_; rw [Around.under_plainId PyProof.Rows.F.plain_set_update_loop _]
  show wpAny _ A.in1 (pyNext (.ref I) >>= _) _ _ s; refine wpAny_bind (W.item i s _ _ hlt st fun v s' hP st' hm => ?_)
  obtain ⟨kk, hkk, hi⟩ := hv i v hP
  obtain ⟨ks', hS', ep⟩ : SetP w s'.heap S (Fr (val.take i)) := hS.at fun o e => hm.heap S _ nW e
  show wpAny _ A.in1 (holding [v] (setAdd S v) >>= _) _ _ s'
  refine wpAny_bind (wpAny_holding ?_)
  unfold setAdd
  refine wpAny_holding (wpAny_bind ((BY prog w).pyHash (k := kk) hi ?_))
  have hl : ks'.length ≤ i := by
   rw [ep.length_eq]
   exact Nat.le_trans (dedK_len _) (by rw [List.length_take]; exact Nat.min_le_left _ _)
  refine add_ok (s := { s' with toks := s'.toks + 1 }) hi hS' (by omega) fun h' ks2 hsb hS2 e2' b => ?_
  have hnext : SetP w h' S (Fr (val.take (i + 1))) := by
   refine ⟨ks2, hS2, ?_⟩
   rw [List.take_add_one, hkk]
   show ks2.Perm (Fr (val.take i ++ [kk]))
   rw [dedK_snoc]
   exact e2'.trans (addK_perm ep kk)
  refine wpAny_pure ⟨plainId_quiet PyProof.Rows.F.plain_set_update_loop _, ih (i + 1) _ (by omega) hlt (W.frame _ s' _ _ st' (Nat.le_succ _) fun b hb o e => ?_) hnext fun s'' hm'' hS'' => ?_⟩
  ·exact (hsb.2 b (fun h : b = S => nS (by rw [← h]; exact hb))).trans e
  ·refine hR s'' (Moved.trans W.gtrans ((hm.mono up).then_heap (Nat.le_succ _) fun b o hb e => ?_) hm'') hS''
   exact (hsb.2 b (fun h : b = S => hb (by rw [h]; exact List.mem_cons_self))).trans e
end
noncomputable def Src (prog : Program) (w : World) (x : Value) (h0 : Heap) (n : Nat) (P : Nat → Value → Prop) : Prop :=
 ∀ s₁ : Shared, (∀ b o, h0.get? b = some o → s₁.heap.get? b = some o) → ∃ (oI : Obj) (fp : List Addr) (St : Nat → Heap → Prop), oI.isFreed = false ∧ (∀ b ∈ fp, b = s₁.heap.objs.size ∨ b < h0.objs.size) ∧ St 0 (s₁.heap.push oI) ∧
  (∀ (A' : Around) (Q : Value → Shared → Prop) (E : Value → Shared → Prop), A'.handled = none → Q (.ref s₁.heap.objs.size) { s₁ with heap := s₁.heap.push oI } → wpAny (model prog w) A' (pyIter x) Q E s₁) ∧
  ∀ A' : Around, A'.handled = none → Walks prog w A' s₁.heap.objs.size fp [s₁.heap.objs.size] n P St
section
variable {prog : Program} {w : World} {A : Around} {E : Value → Shared → Prop} {s : Shared}
theorem src_list {l : Addr} {items : Array Value} (hl : s.heap.IsList l items) : Src prog w (.ref l) s.heap items.size (fun i v => items[i]? = some v) := fun s₁ hk => by
 have hl1 : s₁.heap.IsList l items := hl.at fun o e => hk _ _ e
 obtain ⟨o0, ho0, _⟩ := hl
 have ne : l ≠ s₁.heap.objs.size := Nat.ne_of_lt (Heap.lt_size (hk _ _ ho0))
 refine ⟨{ cls := .type "list_iterator", data := .fields #[.ref l, .int 0 0] }, [s₁.heap.objs.size, l], _, rfl, fun b hb => ?_, ?_, fun A' Q E' hh q => wpAny_pyIter_list hl1 q, fun A' hh => Walks.list hh _ l ne items⟩
 ·rcases List.mem_cons.mp hb with e | e
  ·exact .inl e
  ·rw [List.mem_singleton.mp e]; exact .inr (Heap.lt_size ho0)
 ·exact ⟨⟨_, Heap.get?_push_size _ rfl, rfl, rfl⟩, hl1.push _⟩
theorem code_new_set (a : Value) {Q₁ : Value → Shared → Prop} (h : Q₁ (.ref s.heap.objs.size) { s with heap := s.heap.push (Co w) }) :
  codeAny (model prog w) A (.call (.builtin "set.__new__") ⟨[.type "set", a], []⟩) (wants Q₁ E) s := by
 refine codeAny_of_tree ?_
 show wpAny _ A.in1 (checkBuiltinCall "set.__new__" ⟨[.type "set", a], []⟩ >>= fun _ => again (.builtin "set.__new__" ⟨[.type "set", a], []⟩)) _ _ s
 refine wpAny_bind (wpAny_of_eq (PySem.F.newCall_set_1 a) (wpAny_pure ⟨plainId_quiet F.plain_set_new _, codeAny_builtin F.entry_set_new ?_⟩)); rw [Around.under_plainId F.plain_set_new _]
 unfold Builtin.«set.__new__» Builtin.Frozenset.newClass
 have hsub := sub_set_self
 obtain ⟨hp, g, d, tk, os⟩ := s
 dsimp only
 wp_walk
 refine wpAny_askSetting (wpAny_pure ?_); dsimp only
 simp only [newObj]
 exact wpAny_bind (wpAny_alloc (wpAny_pure (wpAny_pure h)))
end
section
variable {prog : Program} {w : World} {A : Around} {E : Value → Shared → Prop} {s : Shared}
theorem call_set_src {x : Value} {T : String} {n : Nat} {P : Nat → Value → Prop} {val : List Key} {Q : Value → Shared → Prop} (hh : A.handled = none) (hx : Src prog w x s.heap n P)
  (tx : ∀ s₁ : Shared, (∀ b o, s.heap.get? b = some o → s₁.heap.get? b = some o) → s₁.TypeIs x T) (n1 : isSubtype (.type T) (.type "set") = pure false) (n2 : isSubtype (.type T) (.type "frozenset") = pure false) (n3 : (Value.type T == Value.type "dict") = false)
  (hn : val.length = n) (hv : ∀ i v, P i v → ∃ k, val[i]? = some k ∧ E1 k v = true) (hb : n + 1 < scanBound)
  (h : ∀ (h' : Heap) (tk : Nat), SetP w h' s.heap.objs.size (Fr val) → (∀ b o, s.heap.get? b = some o → h'.get? b = some o) → Q (.ref s.heap.objs.size) { s with heap := h', toks := tk }) :
  wpAny (model prog w) A (call (.type "set") [x]) Q E s := by
 obtain ⟨c, tl, hmro⟩ := F.called_set.mro
 have hmade := F.called_set.made
 have hsub := F.called_set.sub
 refine wpAny_call (codeAny_of_tree ?_); show wpAny _ _ (callAny (.type "set") _) _ _ _
 refine wpAny_pure ⟨Code.quiet_builtin _ (by decide +kernel), codeAny_builtin F.entry_type_call ?_⟩; rw [Around.under_plain (weight_type_call_type "set" [x] []) rfl]
 have h1 := F.called_set.notType
 have h2 := F.called_set.canCreate
 have hct := PySem.F.typeCall_set_1 x
 repeat (any_goals (first | assumption | wp_step))
 refine codeAny_mono (code_new_set x (E := E) (Q₁ := fun obj s₁ => obj = .ref s.heap.objs.size ∧ s₁ = { s with heap := s.heap.push (Co w) }) ⟨rfl, rfl⟩) fun r s₁ hr => ?_
 cases r with
 | error e => exact hr
 | ok fl => cases fl with
  | ret obj =>
   obtain ⟨rfl, rfl⟩ := hr
   have gS : (s.heap.push (Co w)).get? s.heap.objs.size = some (Co w) := Heap.get?_push_size _ rfl
   have hT : Shared.TypeIs { s with heap := s.heap.push (Co w) } (.ref s.heap.objs.size) "set" := ⟨_, gS, rfl⟩
   have hli := F.called_set.init.lookup
   have hbi := F.called_set.init.bind (.ref s.heap.objs.size)
   repeat (any_goals (first | assumption | wp_step))
   refine codeAny_mono (codeAny_call_builtin (R := wants (fun r s₂ => r = .none ∧ ∃ h' tk, s₂ = { s with heap := h', toks := tk } ∧ SetP w h' s.heap.objs.size (Fr val) ∧ (∀ b o, s.heap.get? b = some o → h'.get? b = some o)) E) F.called_set.init.plain F.entry_set_init (check_set_init_1 hT ?_)) fun r₂ s₂ hr₂ => ?_
   ·obtain ⟨hp, g, d, tk0, os⟩ := s
    dsimp only at *
    have kp : ∀ b o, hp.get? b = some o → (hp.push (Co w)).get? b = some o := fun b o e => Heap.get?_push_of_some _ e
    have hTx : Shared.TypeIs { heap := hp.push (Co w), gens := g, drawn := d, toks := tk0, os := os } x T := tx _ kp
    unfold Builtin.«set.__init__» noKeywords Builtin.Frozenset.updateFrom
    generalize hPI : pyIter = PI
    unfold Co at *
    wp_walk
    subst hPI
    obtain ⟨oI, fp, St, hf, hfp, st0, hit, hW⟩ := hx { heap := hp.push (Co w), gens := g, drawn := d, toks := tk0, os := os } kp
    refine hit _ _ _ (by simp [hh]) (wpAny_bind (wpAny_runValue ?_))
    have eS : (hp.push (Co w)).objs.size = hp.objs.size + 1 := size_push' _ _
    have nS : hp.objs.size ∉ fp := fun hm => by
     rcases hfp _ hm with e | e
     ·rw [eS] at e; exact absurd e (Nat.ne_of_lt (Nat.lt_succ_self _))
     ·exact Nat.lt_irrefl _ e
    refine upd_loop (hW _ (by simp [hh])).toS hp.objs.size nS val hn hv hb n 0 _ rfl (Nat.zero_le _) st0 ?_ fun s' hm hS' => ?_
    ·exact ⟨[], fresh_is (Heap.get?_push_of_some _ gS), .rfl⟩
    ·obtain ⟨h', g', d', tk', os'⟩ := s'
     obtain rfl : g' = g := hm.gens
     obtain rfl : d' = d := hm.drawn
     obtain rfl : os' = os := hm.os
     refine wpAny_pure ?_
     show wpAny _ _ (ret Value.none) _ _ _
     refine wpAny_pure ⟨rfl, h', tk', rfl, hS', fun b o e => ?_⟩
     have lb : b < hp.objs.size := Heap.lt_size e
     refine hm.heap b o (fun hmem => ?_) (Heap.get?_push_of_some _ (kp b o e))
     rcases List.mem_cons.mp hmem with q | q
     ·exact absurd q (Nat.ne_of_lt lb)
     ·have q := List.mem_singleton.mp q
      rw [eS] at q
      exact absurd q (Nat.ne_of_lt (Nat.lt_succ_of_lt lb))
   ·cases r₂ with
    | error e => exact hr₂
    | ok fl₂ => cases fl₂ with
     | ret r =>
      obtain ⟨rfl, h', tk, rfl, hS', hk'⟩ := hr₂
      repeat (any_goals (first | assumption | wp_step))
      exact h _ _ hS' hk'
     | _ => exact hr₂.elim
  | _ => exact hr.elim
end
theorem slot_si_next : Slot "set_iterator" "__next__" "set_iterator.__next__" :=
 .of (owner := "set_iterator") (n := "__next__") (by rw [typeLookup_type, builtinLookup_eq_fast]; kernel_rfl) (by decide +kernel) (by decide +kernel) (by decide +kernel) (by first | exact .inl (by decide +kernel) | exact .inr (by decide +kernel)) (by rw [isSubtype_type]; kernel_rfl)
theorem Dk : entryFor table "set_iterator.__next__" = some Builtin.«set_iterator.__next__» := entryFor_of_tree (by kernel_rfl)
theorem ED (a : Value) : argsOk "set_iterator.__next__" ⟨[a], []⟩ := by unfold argsOk; kernel_rfl
theorem entry_s_iter : entryFor table "set.__iter__" = some Builtin.«frozenset.__iter__» := entryFor_alias (id' := "frozenset.__iter__") (by kernel_rfl) rfl (by decide +kernel) (by kernel_rfl)
noncomputable def SIter (h : Heap) (I : Addr) (f : Value) (i : Nat) (a : Addr) (n ep : Nat) : Prop := ∃ o, h.get? I = some o ∧ o.cls = .type "set_iterator" ∧ o.data = .fields #[f, rawInt i, .ref a, rawInt n, rawInt ep]
theorem SIter.type {s : Shared} {I f i a n ep} (x : SIter s.heap I f i a n ep) : s.TypeIs (.ref I) "set_iterator" := by
 obtain ⟨o, g, c, _⟩ := x
 exact ⟨o, g, c⟩
noncomputable def SAt (w : World) (h : Heap) (a : Addr) (es : Array (Int × Value)) (ep : Nat) (t : SetTable) (ks : List Key) : Prop := ∃ o, h.get? a = some o ∧ SObj w o es ep t ks
section
variable {prog : Program} {w : World} {A : Around} {E : Value → Shared → Prop} {s : Shared}
theorem fld_upd {h : Heap} {I : Addr} {o : Obj} {fs : Array Value} (k : Nat) (v : Value) (g : h.get? I = some o) (d : o.data = .fields fs) :
  ∃ o', (h.update I (Obj.mapFields (·.setIfInBounds k v))).get? I = some o' ∧ o'.cls = o.cls ∧ o'.data = .fields (fs.setIfInBounds k v) :=
 ⟨_, Heap.get?_update_self _ g (Obj.isFreed_of_fields (Obj.data_mapFields d _)), Obj.cls_mapFields .., Obj.data_mapFields d _⟩
theorem next_item {I a : Addr} {sl i n ep : Nat} {es : Array (Int × Value)} {t : SetTable} {ks : List Key} {x : Value} {nx : Nat} {Q : Option Value → Shared → Prop} (it : SIter s.heap I (rawInt sl) i a n ep) (sa : SAt w s.heap a es ep t ks) (hn : es.size = n)
  (nxt : ∀ (A' : Around) (E' : Value → Shared → Prop) (Q' : Option (Value × Nat) → Shared → Prop), Q' (some (x, nx)) s → wpAny (model prog w) A' (setNext a sl i ep) Q' E' s)
  (h : ∀ h', SIter h' I (rawInt nx) (i + 1) a n ep → Heap.SameBut I s.heap h' → Q (some x) { s with heap := h' }) : wpAny (model prog w) A (pyNext (.ref I)) Q E s := by
 obtain ⟨o, g, c, dt⟩ := id it
 obtain ⟨os, gs, S⟩ := sa
 unfold pyNext
 refine wpAny_bind (wpAny_attempt (wpAny_callSpecial?_slot (name := Str.ofString "__next__") it.type slot_si_next (wpAny_call_entry slot_si_next it.type Dk ?_ (ED _))))
 unfold Builtin.«set_iterator.__next__»
 refine wpAny_bind (wpAny_pure ?_); dsimp only
 refine wpAny_bind (wpAny_fieldsOf g dt ?_); simp only [rawInt]
 refine wpAny_bind (wpAny_setEntries_of gs S.data S.fit ?_); rw [if_neg (by rw [hn]; simp)]
 simp only [Int.toNat_natCast]
 refine wpAny_bind (nxt _ _ _ ?_)
 dsimp only
 refine wpAny_bind (wpAny_setField g dt (by simp) ?_)
 obtain ⟨o1, g1, c1, d1⟩ := fld_upd 0 (Value.int (nx : Int) 0) g dt
 refine wpAny_bind (wpAny_setField (s := { s with heap := s.heap.update I (Obj.mapFields (·.setIfInBounds 0 (Value.int (nx : Int) 0))) }) g1 d1 (by simp) ?_)
 obtain ⟨o2, g2, c2, d2⟩ := fld_upd 1 (Value.int ((i : Int) + 1) 0) g1 d1
 refine wpAny_pure ⟨_, rfl, wpAny_pure (h _ ⟨o2, g2, c2.trans (c1.trans c), ?_⟩ ((Heap.SameBut.update _ I _).trans (Heap.SameBut.update _ I _)))⟩
 rw [d2]
 simp [rawInt]
theorem stop_here {I : Addr} {o : Obj} {fs : Array Value} {Q : Option Value → Shared → Prop} {Q1 : PySem.Fin → Shared → Prop} (hh : A.handled = none) (g : s.heap.get? I = some o) (dt : o.data = .fields fs) (hz : 2 < fs.size)
  (h : ∀ h', Heap.ExtBut I s.heap h' → Q none { s with heap := h' }) :
  wpAny (model prog w) A.in1 (setField (.ref I) 2 .none >>= fun _ => newExc (.type "StopIteration") [] >>= fun e => raiseNew e) Q1
   (fun e s' => wpAny (model prog w) A (isInstance e (.type "StopIteration") >>= fun b => if b = true then pure none else throw e) Q E s') s := by
 refine wpAny_bind (wpAny_setField g dt hz ?_)
 refine wpAny_bind ?_
 simp only [newExc, newTuple]
 refine wpAny_bind (wpAny_newObj_type ?_ (by size_fits)); refine wpAny_bind (m := firstArgMember _ _) (wpAny_of_eq (a := Value.none) (by first | rfl | (simp only [firstArgMember]; rfl)) ?_)
 refine wpAny_newObj_type ?_ (by size_fits); simp only [raiseNew]
 refine wpAny_bind (wpAny_handled ?_); rw [show A.in1.handled = none from hh]
 refine wpAny_bind (wpAny_pure (wpAny_throw ?_)); refine wpAny_bind (wpAny_isInstance (T := "StopIteration") (b := true) ⟨_, Heap.get?_push_size _ rfl, rfl⟩ isSubtype_stop ?_)
 exact wpAny_pure (h _ (((Heap.SameBut.update ..).extBut.push _).push _))
theorem next_end {I a : Addr} {sl i n ep : Nat} {es : Array (Int × Value)} {t : SetTable} {ks : List Key} {Q : Option Value → Shared → Prop} (hh : A.handled = none) (it : SIter s.heap I (rawInt sl) i a n ep) (sa : SAt w s.heap a es ep t ks) (hn : es.size = n)
  (nxt : ∀ (A' : Around) (E' : Value → Shared → Prop) (Q' : Option (Value × Nat) → Shared → Prop), Q' none s → wpAny (model prog w) A' (setNext a sl i ep) Q' E' s)
  (h : ∀ h', Heap.ExtBut I s.heap h' → Q none { s with heap := h' }) : wpAny (model prog w) A (pyNext (.ref I)) Q E s := by
 obtain ⟨o, g, c, dt⟩ := id it
 obtain ⟨os, gs, S⟩ := sa
 unfold pyNext
 refine wpAny_bind (wpAny_attempt (wpAny_callSpecial?_slot (name := Str.ofString "__next__") it.type slot_si_next (wpAny_call_entry slot_si_next it.type Dk ?_ (ED _))))
 unfold Builtin.«set_iterator.__next__»
 refine wpAny_bind (wpAny_pure ?_); dsimp only
 refine wpAny_bind (wpAny_fieldsOf g dt ?_); simp only [rawInt]
 refine wpAny_bind (wpAny_setEntries_of gs S.data S.fit ?_); rw [if_neg (by rw [hn]; simp)]
 simp only [Int.toNat_natCast]
 refine wpAny_bind (nxt _ _ _ ?_)
 dsimp only
 exact stop_here hh g dt (by simp) h
noncomputable def TupAt (h : Heap) (T : Addr) (ps : List Nat) : Prop := ∃ o n, h.get? T = some o ∧ o.data = .seq (ps.map fun (p : Nat) => rawInt p).toArray n
theorem nextD_item {I a T : Addr} {i n ep p : Nat} {ps : List Nat} {es : Array (Int × Value)} {t : SetTable} {ks : List Key} {e : Int × Value} {Q : Option Value → Shared → Prop} (it : SIter s.heap I (.ref T) i a n ep) (tp : TupAt s.heap T ps) (sa : SAt w s.heap a es ep t ks) (hn : es.size = n)
  (hp : ps[i]? = some p) (he : es[p]? = some e) (h : ∀ h', SIter h' I (.ref T) (i + 1) a n ep → Heap.SameBut I s.heap h' → Q (some e.2) { s with heap := h' }) : wpAny (model prog w) A (pyNext (.ref I)) Q E s := by
 obtain ⟨o, g, c, dt⟩ := id it
 obtain ⟨os, gs, S⟩ := sa
 obtain ⟨ot, nt, gt, dtt⟩ := tp
 unfold pyNext
 refine wpAny_bind (wpAny_attempt (wpAny_callSpecial?_slot (name := Str.ofString "__next__") it.type slot_si_next (wpAny_call_entry slot_si_next it.type Dk ?_ (ED _))))
 unfold Builtin.«set_iterator.__next__»
 refine wpAny_bind (wpAny_pure ?_); dsimp only
 refine wpAny_bind (wpAny_fieldsOf g dt ?_); simp only [rawInt]
 refine wpAny_bind (wpAny_setEntries_of gs S.data S.fit ?_); rw [if_neg (by rw [hn]; simp)]
 refine wpAny_bind (wpAny_seqItems gt dtt ?_)
 dsimp only
 have e1 : (ps.map fun (p : Nat) => rawInt p).toArray[((i : Int)).toNat]? = some (Value.int (p : Int) 0) := by simp [hp, rawInt]
 rw [e1]
 dsimp only
 unfold setNextDrawn
 simp only [Int.toNat_natCast]
 refine wpAny_bind (wpAny_bind (wpAny_setState_of gs S.data S.fit ?_))
 dsimp only
 rw [if_neg (by simp)]
 rw [he]
 refine wpAny_pure ?_
 refine wpAny_bind (wpAny_setField g dt (by simp) ?_)
 obtain ⟨o2, g2, c2, d2⟩ := fld_upd 1 (Value.int ((i : Int) + 1) 0) g dt
 refine wpAny_pure ⟨_, rfl, wpAny_pure (h _ ⟨o2, g2, c2.trans c, ?_⟩ (Heap.SameBut.update _ I _))⟩
 rw [d2]
 simp [rawInt]
theorem nextD_end {I a T : Addr} {i n ep : Nat} {ps : List Nat} {es : Array (Int × Value)} {t : SetTable} {ks : List Key} {Q : Option Value → Shared → Prop} (hh : A.handled = none) (it : SIter s.heap I (.ref T) i a n ep) (tp : TupAt s.heap T ps) (sa : SAt w s.heap a es ep t ks) (hn : es.size = n)
  (hp : ps[i]? = none) (h : ∀ h', Heap.ExtBut I s.heap h' → Q none { s with heap := h' }) : wpAny (model prog w) A (pyNext (.ref I)) Q E s := by
 obtain ⟨o, g, c, dt⟩ := id it
 obtain ⟨os, gs, S⟩ := sa
 obtain ⟨ot, nt, gt, dtt⟩ := tp
 unfold pyNext
 refine wpAny_bind (wpAny_attempt (wpAny_callSpecial?_slot (name := Str.ofString "__next__") it.type slot_si_next (wpAny_call_entry slot_si_next it.type Dk ?_ (ED _))))
 unfold Builtin.«set_iterator.__next__»
 refine wpAny_bind (wpAny_pure ?_); dsimp only
 refine wpAny_bind (wpAny_fieldsOf g dt ?_); simp only [rawInt]
 refine wpAny_bind (wpAny_setEntries_of gs S.data S.fit ?_); rw [if_neg (by rw [hn]; simp)]
 refine wpAny_bind (wpAny_seqItems gt dtt ?_)
 dsimp only
 have e1 : (ps.map fun (p : Nat) => rawInt p).toArray[((i : Int)).toNat]? = none := by
  have := List.getElem?_eq_none_iff.mp hp
  simp [this]
 rw [e1]
 dsimp only
 refine wpAny_bind (wpAny_setField g dt (by simp) ?_)
 obtain ⟨o1, g1, c1, d1⟩ := fld_upd 0 (Value.int 0 0) g dt
 refine stop_here (s := { s with heap := s.heap.update I (Obj.mapFields (·.setIfInBounds 0 (Value.int 0 0))) }) hh g1 d1 (by simp) fun h' q => h h' ?_
 exact fun b o hb e => q b o hb (((Heap.SameBut.update s.heap I _).2 b hb).trans e)
end
theorem slot_si_iter : Slot "set_iterator" "__iter__" "set_iterator.__iter__" :=
 .of (owner := "set_iterator") (n := "__iter__") (by rw [typeLookup_type, builtinLookup_eq_fast]; kernel_rfl) (by decide +kernel) (by decide +kernel) (by decide +kernel) (by first | exact .inl (by decide +kernel) | exact .inr (by decide +kernel)) (by rw [isSubtype_type]; kernel_rfl)
theorem entry_si_iter : entryFor table "set_iterator.__iter__" = some Builtin.«dict_keyiterator.__iter__» := entryFor_alias (id' := "dict_keyiterator.__iter__") (by kernel_rfl) rfl (by decide +kernel) (by kernel_rfl)
theorem args_si_iter (a : Value) : argsOk "set_iterator.__iter__" ⟨[a], []⟩ := by unfold argsOk; kernel_rfl
theorem SAt.at {w : World} {h h' : Heap} {a : Addr} {es ep t ks} (x : SAt w h a es ep t ks) (k : ∀ o, h.get? a = some o → h'.get? a = some o) : SAt w h' a es ep t ks := by
 obtain ⟨o, g, S⟩ := x
 exact ⟨o, k _ g, S⟩
theorem SIter.at {h h' : Heap} {I f i a n ep} (x : SIter h I f i a n ep) (k : ∀ o, h.get? I = some o → h'.get? I = some o) : SIter h' I f i a n ep := by
 obtain ⟨o, g, r⟩ := x
 exact ⟨o, k _ g, r⟩
theorem TupAt.at {h h' : Heap} {T ps} (x : TupAt h T ps) (k : ∀ o, h.get? T = some o → h'.get? T = some o) : TupAt h' T ps := by
 obtain ⟨o, n, g, r⟩ := x
 exact ⟨o, n, k _ g, r⟩
section
variable {prog : Program} {w : World} {A : Around} {E : Value → Shared → Prop} {s : Shared} {I a T : Addr} {es xs : Array (Int × Value)} {ep : Nat} {t : SetTable} {ks : List Key}
theorem iter_self {f : Value} {i n : Nat} {Q : Value → Shared → Prop} (it : SIter s.heap I f i a n ep) (h : Q (.ref I) s) : wpAny (model prog w) A (pyIter (.ref I)) Q E s := by
 refine wpAny_pyIter_slot it.type slot_si_iter (wpAny_call_entry slot_si_iter it.type entry_si_iter ?_ (args_si_iter _))
 show wpAny _ _ (ret (.ref I)) _ _ s; exact wpAny_pure ⟨_, rfl, "set_iterator", _, it.type, slot_si_next.lookup, h⟩
theorem walk_int (hne : a ≠ I) (sl : Nat → Nat) (hx : xs.size = es.size)
  (nx : ∀ (i : Nat) (s : Shared) (A' : Around) (E' : Value → Shared → Prop) (Q' : Option (Value × Nat) → Shared → Prop), SAt w s.heap a es ep t ks → i ≤ es.size → Q' ((xs[i]?).map fun e => (e.2, sl (i + 1))) s → wpAny (model prog w) A' (setNext a (sl i) i ep) Q' E' s) (hh : A.handled = none) :
  Walks prog w A I [I, a] [I] es.size (fun i v => ∃ e, xs[i]? = some e ∧ e.2 = v) (fun i h => SIter h I (rawInt (sl i)) i a es.size ep ∧ SAt w h a es ep t ks) where
 sub := fun b hb => by simp at hb; simp [hb]
 frame := fun _ _ _ st hk => ⟨st.1.at fun o e => hk I (by simp) o e, st.2.at fun o e => hk a (by simp) o e⟩
 item := fun i s Q E hi st hQ => by
  have hi' : i < xs.size := by rw [hx]; exact hi
  refine next_item (x := xs[i].2) (nx := sl (i + 1)) st.1 st.2 rfl (fun A' E' Q' q => nx i s A' E' Q' st.2 (Nat.le_of_lt hi) ?_) fun h' it' hs => ?_
  ·rw [Array.getElem?_eq_getElem hi']; exact q
  ·exact hQ _ h' s.toks ⟨xs[i], Array.getElem?_eq_getElem hi', rfl⟩ ⟨it', st.2.at fun o e => (hs.2 a hne).trans e⟩ fun b o hb e => (hs.2 b (fun q => hb (by simp [q]))).trans e
 done := fun s Q E st hQ => by
  refine next_end hh st.1 st.2 rfl (fun A' E' Q' q => nx es.size s A' E' Q' st.2 (Nat.le_refl _) ?_) fun h' hs => hQ h' s.toks fun b o hb e => hs b o (fun q => hb (by simp [q])) e
  rw [Array.getElem?_eq_none (by rw [hx]; exact Nat.le_refl _)]; exact q
 self := fun i s Q E st q => iter_self st.1 q
theorem walk_drawn (hne : a ≠ I) (hT : T ≠ I) (ps : List Nat) (hp : ps.length = es.size) (hb : ∀ p ∈ ps, p < es.size) (hh : A.handled = none) :
  Walks prog w A I [I, a, T] [I] es.size (fun i v => ∃ p e, ps[i]? = some p ∧ es[p]? = some e ∧ e.2 = v) (fun i h => SIter h I (.ref T) i a es.size ep ∧ SAt w h a es ep t ks ∧ TupAt h T ps) where
 sub := fun b hb => by simp at hb; simp [hb]
 frame := fun _ _ _ st hk => ⟨st.1.at fun o e => hk I (by simp) o e, st.2.1.at fun o e => hk a (by simp) o e, st.2.2.at fun o e => hk T (by simp) o e⟩
 item := fun i s Q E hi st hQ => by
  have hi' : i < ps.length := by rw [hp]; exact hi
  have h1 : ps[i]? = some ps[i] := List.getElem?_eq_getElem hi'
  have h2 : ps[i] < es.size := hb _ (List.getElem_mem hi')
  have h3 : es[ps[i]]? = some es[ps[i]] := Array.getElem?_eq_getElem h2
  refine nextD_item st.1 st.2.2 st.2.1 rfl h1 h3 fun h' it' hs => ?_
  exact hQ _ h' s.toks ⟨_, _, h1, h3, rfl⟩ ⟨it', st.2.1.at fun o e => (hs.2 a hne).trans e, st.2.2.at fun o e => (hs.2 T hT).trans e⟩ fun b o hb e => (hs.2 b (fun q => hb (by simp [q]))).trans e
 done := fun s Q E st hQ => nextD_end hh st.1 st.2.2 st.2.1 rfl (List.getElem?_eq_none (by rw [hp]; exact Nat.le_refl _)) fun h' hs => hQ h' s.toks fun b o hb e => hs b o (fun q => hb (by simp [q])) e
 self := fun i s Q E st q => iter_self st.1 q
theorem nxt_text (hb : byT w = true) {sl i : Nat} {Q : Option (Value × Nat) → Shared → Prop} (sa : SAt w s.heap a es ep t ks) (h : Q (((pickOrder (w.params.setOrder a ep) es)[i]?).map fun e => (e.2, sl)) s) : wpAny (model prog w) A (setNext a sl i ep) Q E s := by
 obtain ⟨o, g, S⟩ := sa
 unfold setNext
 refine wpAny_bind (wpAny_setState_of g S.data S.fit (wpAny_bind (Fa ?_))); dsimp only
 rw [hb, if_pos rfl, if_neg (by simp)]
 refine wpAny_bind ?_
 unfold setWalk
 refine wpAny_bind (wpAny_setState_of g S.data S.fit (wpAny_bind (Fa ?_)))
 rw [hb, if_pos rfl]
 refine wpAny_bind (wpAny_askSetting (wpAny_pure (wpAny_pure ?_)))
 exact h
noncomputable def slP (t : SetTable) : Nat → Nat
 | 0 => 0
 | i + 1 => t.place.getD i 0 + 1
theorem below_slP {t : SetTable} (hr : RT t) : ∀ {i : Nat}, i ≤ t.place.size → SetTable.below t.place (slP t i) = i
 | 0, _ => below_zero hr.ris
 | i + 1, h => below_next hr.ris h
theorem nxt_place (hb : byT w = false) (hd : t.plain = true ∨ es.size ≤ 1) {i : Nat} {Q : Option (Value × Nat) → Shared → Prop} (sa : SAt w s.heap a es ep t ks) (hi : i ≤ es.size) (h : Q ((es[i]?).map fun e => (e.2, slP t (i + 1))) s) : wpAny (model prog w) A (setNext a (slP t i) i ep) Q E s := by
 obtain ⟨o, g, S⟩ := sa
 have hps : t.place.size = es.size := by
  have := S.fit
  simp only [SetTable.fits, Bool.and_eq_true, beq_iff_eq] at this
  exact this.1
 unfold setNext
 refine wpAny_bind (wpAny_setState_of g S.data S.fit (wpAny_bind (Fa ?_))); dsimp only
 rw [hb, if_neg Bool.false_ne_true]
 refine wpAny_ite_split (fun hab => ?_) fun _ => ?_
 ·have q : (!t.plain && decide (es.size > 1)) = true := hab
  rw [Bool.and_eq_true, decide_eq_true_eq] at q
  rcases hd with e | e
  ·rw [e] at q; exact absurd q.1 (by simp)
  ·omega
 ·refine wpAny_bind ?_
  show wpAny _ _ (if (!t.led && !es.isEmpty) = true then unsupported "set:maker-not-led" else pure ()) _ _ _
  rw [S.led, hb]
  simp only [Bool.not_false, Bool.not_true, Bool.false_and, Bool.false_eq_true, if_false]
  refine wpAny_pure (wpAny_pure ?_)
  rw [below_slP S.rt (by rw [hps]; exact hi)]
  rcases Nat.lt_or_eq_of_le hi with hl | hl
  ·have e1 : es[i]? = some es[i] := Array.getElem?_eq_getElem hl
   have e2 : t.place[i]? = some (t.place.getD i 0) := by
    have : i < t.place.size := by rw [hps]; exact hl
    simp [Array.getD, this]
   rw [e1] at h ⊢
   rw [e2]
   exact h
  ·have e1 : es[i]? = none := Array.getElem?_eq_none (by omega)
   rw [e1] at h ⊢
   exact h
theorem draw_order {α : Type} {Q : List α → Shared → Prop} : ∀ (xs : List α) (s : Shared), (∀ ys d, ys.Perm xs → Q ys { s with drawn := d }) → wpAny (model prog w) A (drawOrder xs.length xs) Q E s := by
 intro xs
 generalize hn : xs.length = n
 induction n generalizing xs Q with
 | zero =>
  intro s h
  have : xs = [] := List.eq_nil_of_length_eq_zero hn
  subst this
  unfold drawOrder
  exact wpAny_pure (h [] s.drawn .rfl)
 | succ n ih =>
  intro s h
  match xs, hn with
  | x :: r, hn =>
   unfold drawOrder
   refine wpAny_bind (wp_choose (by simp) fun i d hi => ?_)
   rw [List.getElem?_eq_getElem hi]
   dsimp only
   refine wpAny_bind (ih _ (by rw [List.length_eraseIdx_of_lt hi]; omega) _ fun ys d' hp => wpAny_pure (h _ d' ?_))
   exact (hp.cons _).trans (erase_perm hi)
theorem iter_walk {Q : Value → Shared → Prop} (sa : SAt w s.heap a es ep t ks)
  (h : ∀ (s' : Shared) (I : Addr) (xs : Array (Int × Value)) (fp : List Addr) (St : Nat → Heap → Prop), xs.toList.Perm es.toList → (∀ b o, s.heap.get? b = some o → s'.heap.get? b = some o) → s'.gens = s.gens → s'.os = s.os → s'.toks = s.toks →
   s.heap.objs.size ≤ I → (∀ b ∈ fp, b < s'.heap.objs.size ∧ (b = a ∨ s.heap.objs.size ≤ b)) → (∀ A' : Around, A'.handled = none → Walks prog w A' I fp [I] es.size (fun i v => ∃ e, xs[i]? = some e ∧ e.2 = v) St) → St 0 s'.heap → Q (.ref I) s') :
  wpAny (model prog w) A (pyIter (.ref a)) Q E s := by
 obtain ⟨o, g, S⟩ := id sa
 have la : a < s.heap.objs.size := Heap.lt_size g
 have hT : s.TypeIs (.ref a) "set" := ⟨o, g, S.exact'.1⟩
 refine wpAny_pyIter_slot hT F.slot_set_iter (wpAny_call_entry F.slot_set_iter hT entry_s_iter ?_ (F.args_set_iter_1 _))
 unfold Builtin.«frozenset.__iter__» Builtin.Frozenset.slot0 Builtin.Frozenset.sizeOf
 refine wpAny_bind (wpAny_bind (wpAny_pure (wpAny_pure ?_)))
 refine wpAny_bind (wpAny_bind (wpAny_setEntries_of g S.data S.fit (wpAny_pure ?_)))
 refine wpAny_bind ?_
 unfold setDrawn
 refine wpAny_bind (wpAny_setState_of g S.data S.fit (wpAny_bind (Fa (wpAny_pure ?_))))
 have fin : ∀ (d : Drawn) (sl : Nat → Nat) (xs : Array (Int × Value)), sl 0 = 0 → xs.size = es.size → xs.toList.Perm es.toList →
   (∀ (i : Nat) (s : Shared) (A' : Around) (E' : Value → Shared → Prop) (Q' : Option (Value × Nat) → Shared → Prop), SAt w s.heap a es ep t ks → i ≤ es.size → Q' ((xs[i]?).map fun e => (e.2, sl (i + 1))) s → wpAny (model prog w) A' (setNext a (sl i) i ep) Q' E' s) →
   wpAny (model prog w) A.in1 (setEpoch a >>= fun e => newFields "set_iterator" [rawInt 0, rawInt 0, .ref a, rawInt es.size, rawInt e] >>= fun v => ret v) (fun fin s' => ∃ v, fin = .done (.ret v) ∧ ∃ T' r, s'.TypeIs v T' ∧ typeLookup (.type T') "__next__" = pure (some r) ∧ Q v s') E { s with drawn := d } := by
  intro d sl xs e0 ex hp nx
  refine wpAny_bind (wpAny_setEpoch_of g S.data S.fit (wpAny_bind (wpAny_newObj_type (wpAny_pure ⟨_, rfl, "set_iterator", _, ⟨_, Heap.get?_push_size _ rfl, rfl⟩, slot_si_next.lookup, ?_⟩))))
  refine h { s with drawn := d, heap := s.heap.push { cls := .type "set_iterator", data := .fields #[rawInt 0, rawInt 0, .ref a, rawInt es.size, rawInt ep] } } s.heap.objs.size xs [s.heap.objs.size, a] _ hp (fun b o e => Heap.get?_push_of_some _ e) rfl rfl rfl (Nat.le_refl _) (fun b hb => ?_) (fun A' hh => walk_int (Nat.ne_of_lt la) sl ex nx hh) ?_
  ·show b < (s.heap.push _).objs.size ∧ _
   rw [size_push']
   rcases List.mem_cons.mp hb with e | e
   ·rw [e]; exact ⟨Nat.lt_succ_self _, .inr (Nat.le_refl _)⟩
   ·rw [List.mem_singleton.mp e]; exact ⟨Nat.lt_succ_of_lt la, .inl rfl⟩
  ·refine ⟨⟨_, Heap.get?_push_size _ rfl, rfl, ?_⟩, sa.at fun o e => Heap.get?_push_of_some _ e⟩
   rw [e0]; rfl
 dsimp only
 have hps : t.place.size = es.size := by
  have := S.fit
  simp only [SetTable.fits, Bool.and_eq_true, beq_iff_eq] at this
  exact this.1
 have fewE : es.size ≤ sizeLine := few_line (by rw [S.size]; exact S.few)
 refine wpAny_ite_split (fun hab => ?_) (fun hab => ?_)
 ·have key := draw_order (prog := prog) (w := w) (A := A.in1) (E := E) (List.range es.size) s (Q := fun ys s' => wpAny (model prog w) A.in1 (newTuple (ys.map fun (i : Nat) => rawInt i) >>= fun first => setEpoch a >>= fun e => newFields "set_iterator" [first, rawInt 0, .ref a, rawInt es.size, rawInt e] >>= fun v => ret v) (fun fin s' => ∃ v, fin = .done (.ret v) ∧ ∃ T' r, s'.TypeIs v T' ∧ typeLookup (.type T') "__next__" = pure (some r) ∧ Q v s') E s') fun ys d hp => ?_
  ·rw [List.length_range] at key
   exact wpAny_bind key
  ·have hl : ys.length = es.size := by rw [hp.length_eq, List.length_range]
   have hlt : ∀ p ∈ ys, p < es.size := fun p h => List.mem_range.mp (hp.mem_iff.mp h)
   refine wpAny_bind (wpAny_newTuple ?_ (by rw [List.length_map, hl]; exact fewE))
   have gt : (s.heap.push (seqObj "tuple" (ys.map fun (i : Nat) => rawInt i).toArray 0)).get? s.heap.objs.size = some (seqObj "tuple" (ys.map fun (i : Nat) => rawInt i).toArray 0) := Heap.get?_push_size _ rfl
   refine wpAny_bind (wpAny_setEpoch_of (s := { s with drawn := d, heap := s.heap.push (seqObj "tuple" (ys.map fun (i : Nat) => rawInt i).toArray 0) }) (Heap.get?_push_of_some _ g) S.data S.fit (wpAny_bind (wpAny_newObj_type (wpAny_pure ⟨_, rfl, "set_iterator", _, ⟨_, Heap.get?_push_size _ rfl, rfl⟩, slot_si_next.lookup, ?_⟩))))
   have z1 : (s.heap.push (seqObj "tuple" (ys.map fun (i : Nat) => rawInt i).toArray 0)).objs.size = s.heap.objs.size + 1 := size_push' _ _
   have W : ∀ A' : Around, A'.handled = none → Walks prog w A' (s.heap.objs.size + 1) [s.heap.objs.size + 1, a, s.heap.objs.size] [s.heap.objs.size + 1] es.size (fun i v => ∃ e, (ys.filterMap (es[·]?)).toArray[i]? = some e ∧ e.2 = v) (fun i h => SIter h (s.heap.objs.size + 1) (.ref s.heap.objs.size) i a es.size ep ∧ SAt w h a es ep t ks ∧ TupAt h s.heap.objs.size ys) := fun A' hh => by
    have W0 := walk_drawn (prog := prog) (w := w) (A := A') (I := s.heap.objs.size + 1) (a := a) (T := s.heap.objs.size) (es := es) (ep := ep) (t := t) (ks := ks) (Nat.ne_of_lt (Nat.lt_succ_of_lt la)) (Nat.ne_of_lt (Nat.lt_succ_self _)) ys hl hlt hh
    refine ⟨W0.sub, W0.frame, fun i s Q E hi st hQ => W0.item i s Q E hi st fun v h' tk hP => hQ v h' tk ?_, W0.done, W0.self⟩
    obtain ⟨p, e, h1, h2, h3⟩ := hP
    refine ⟨e, ?_, h3⟩
    have : ∀ (l : List Nat) (i : Nat), (∀ p ∈ l, p < es.size) → (l.filterMap (es[·]?))[i]? = (l[i]?).bind (es[·]?) := by
     intro l
     induction l with
     | nil => intro i _; simp
     | cons q l ih =>
      intro i hq
      have lq : q < es.size := hq q List.mem_cons_self
      have e0 : es[q]? = some es[q] := Array.getElem?_eq_getElem lq
      rw [List.filterMap_cons_some e0]
      cases i with
      | zero => simp [e0]
      | succ i => simpa using ih i fun p hp => hq p (List.mem_cons_of_mem _ hp)
    rw [List.getElem?_toArray, this ys i hlt, h1]
    show es[p]? = some e
    exact h2
   show Q (.ref (s.heap.push (seqObj "tuple" (ys.map fun (i : Nat) => rawInt i).toArray 0)).objs.size) _
   rw [z1]
   refine h { s with drawn := d, heap := (s.heap.push (seqObj "tuple" (ys.map fun (i : Nat) => rawInt i).toArray 0)).push { cls := .type "set_iterator", data := .fields #[.ref s.heap.objs.size, rawInt 0, .ref a, rawInt es.size, rawInt ep] } } (s.heap.objs.size + 1) _ _ _ ?_ (fun b o e => Heap.get?_push_of_some _ (Heap.get?_push_of_some _ e)) rfl rfl rfl (Nat.le_succ _) (fun b hb => ?_) W ?_
   ·show (ys.filterMap (es[·]?)).Perm es.toList
    exact (hp.filterMap _).trans (by rw [filterMap_getElem?_range])
   ·show b < ((s.heap.push _).push _).objs.size ∧ _
    rw [size_push', size_push']
    rcases List.mem_cons.mp hb with e | e
    ·rw [e]; exact ⟨Nat.lt_succ_self _, .inr (Nat.le_succ _)⟩
    ·rcases List.mem_cons.mp e with e | e
     ·rw [e]; exact ⟨Nat.lt_succ_of_lt (Nat.lt_succ_of_lt la), .inl rfl⟩
     ·rw [List.mem_singleton.mp e]; exact ⟨Nat.lt_succ_of_lt (Nat.lt_succ_self _), .inr (Nat.le_refl _)⟩
   ·refine ⟨⟨{ cls := .type "set_iterator", data := .fields #[.ref s.heap.objs.size, rawInt 0, .ref a, rawInt es.size, rawInt ep] }, ?_, rfl, rfl⟩, sa.at fun o e => Heap.get?_push_of_some _ (Heap.get?_push_of_some _ e), ⟨_, _, Heap.get?_push_of_some _ gt, rfl⟩⟩
    rw [← z1]
    exact Heap.get?_push_size _ rfl
 ·refine wpAny_bind (wpAny_pure ?_)
  cases hb : byT w with
  | true => exact fin s.drawn (fun _ => 0) (pickOrder (w.params.setOrder a ep) es) rfl (by rw [← Array.length_toList, (pick_perm _ es).length_eq, Array.length_toList]) (pick_perm _ es) fun i s' A' E' Q' sa' hi q => nxt_text hb sa' q
  | false =>
   have hd : t.plain = true ∨ es.size ≤ 1 := by
    have q : ¬ (!byT w && (!t.plain && decide (es.size > 1))) = true := hab
    rw [hb] at q
    cases hp : t.plain with
    | true => exact .inl rfl
    | false =>
     rw [hp] at q
     simp at q
     exact .inr q
   exact fin s.drawn (slP t) es rfl rfl .rfl fun i s' A' E' Q' sa' hi q => nxt_place hb hd sa' hi q
end
section
variable {prog : Program} {w : World} {A : Around} {E : Value → Shared → Prop} {s : Shared} {a : Addr} {es : Array (Int × Value)} {ep : Nat} {t : SetTable} {ks : List Key}
theorem hint_set (hT : s.TypeIs (.ref a) "set") {Q : Bool → Shared → Prop} (h : Q false s) : wpAny (model prog w) A (Builtin.List.listLengthHint (.ref a)) Q E s := by
 unfold Builtin.List.listLengthHint
 refine wpAny_bind (wpAny_specialOf hT PySem.F.slot_set_len.lookup ?_)
 generalize hid : ("set.__len__" : String) = id0
 wp_delta
 rw [show splitId id0 = some ("set", "__len__") from by subst hid; decide +kernel]
 subst hid
 refine wpAny_bind (wpAny_isInstance (T := "set") (b := true) hT (by rw [isSubtype_type]; kernel_rfl) ?_); refine wpAny_ite_split (fun hab => absurd hab (by decide)) (fun _ => ?_)
 refine wpAny_ite_split (fun _ => ?_) (fun hab => absurd (by decide +kernel) hab); exact wpAny_bind (wpAny_typeOf hT (wpAny_pure h))
noncomputable def KeysAre (vs : List Value) (ks : List Key) : Prop := Paired (fun v k => E1 k v = true) vs ks
theorem keysAre_of {w : World} {ps : Array (Int × Value)} {es : Array (Int × Value)} {ks : List Key} {acc : Array Value} (hp : ps.toList.Perm es.toList) (he : Paired (Ent w) es.toList ks) (hi : ItemsOf (fun i v => ∃ e, ps[i]? = some e ∧ e.2 = v) acc es.size) :
  ∃ ks', ks'.Perm ks ∧ KeysAre acc.toList ks' := by
 obtain ⟨ks', e1, p1⟩ := FG hp he
 refine ⟨ks', e1, ?_⟩
 have e2 : acc.toList = ps.toList.map (·.2) := by
  apply List.ext_getElem?
  intro i
  rw [Array.getElem?_toList, List.getElem?_map, Array.getElem?_toList]
  have hz : acc.size = es.size := hi.1
  have hz2 : ps.size = es.size := by rw [← Array.length_toList, hp.length_eq, Array.length_toList]
  by_cases hl : i < es.size
  ·have h1 : acc[i]? = some (acc[i]'(by omega)) := Array.getElem?_eq_getElem (by omega)
   obtain ⟨e, h2, h3⟩ := hi.2 i _ h1
   rw [h1, h2, ← h3]
   rfl
  ·rw [Array.getElem?_eq_none (by omega), Array.getElem?_eq_none (by omega)]
   rfl
 rw [e2]
 have : ∀ {l : List (Int × Value)} {ks : List Key}, Paired (Ent w) l ks → KeysAre (l.map (·.2)) ks := by
  intro l ks p
  induction p with
  | nil => exact .nil
  | cons h _ ih => exact .cons h.1 ih
 exact this p1
theorem collect_set {R : List Value → Shared → Prop} (hh : A.handled = none) (sa : SetP w s.heap a ks)
  (h : ∀ (s' : Shared) (vs : List Value) (ks' : List Key), (∀ b o, s.heap.get? b = some o → s'.heap.get? b = some o) → s'.gens = s.gens → s'.os = s.os → s.heap.objs.size ≤ s'.heap.objs.size → ks'.Perm ks → KeysAre vs ks' → R vs s') :
  wpAny (model prog w) A (collect (.ref a)) R E s := by
 obtain ⟨ks0, ⟨o, es, ep, t, g, S⟩, ek⟩ := sa
 have la : a < s.heap.objs.size := Heap.lt_size g
 have hn : es.size ≤ sizeLine := few_line (by rw [S.size]; exact S.few)
 unfold collect
 refine wpAny_bind (wpAny_runValue (codeAny_builtin entry_proto_collect' ?_)); rw [Around.under_plainId PySem.F.plain_proto_collect _]
 show wpAny _ A.in1 (newList [] >>= fun l => again (.builtin "list.__iadd__" ⟨[l, .ref a], []⟩)) _ _ s; refine wpAny_bind (wpAny_newObj_type ?_)
 refine wpAny_pure ⟨plainId_quiet PySem.F.plain_list_iadd _, codeAny_builtin entry_list_iadd' ?_⟩; rw [Around.under_plainId PySem.F.plain_list_iadd _]
 have gL : (s.heap.push { cls := .type "list", data := .seq ([] : List Value).toArray }).get? s.heap.objs.size = some { cls := .type "list", data := .seq #[] } := Heap.get?_push_size _ rfl
 have zL : (s.heap.push { cls := .type "list", data := .seq ([] : List Value).toArray }).objs.size = s.heap.objs.size + 1 := size_push' _ _
 show wpAny _ A.in1 (Builtin.List.listExtendWith (.ref s.heap.objs.size) (.ref a) (.ref s.heap.objs.size)) _ _ _
 have gA : (s.heap.push { cls := .type "list", data := .seq ([] : List Value).toArray }).get? a = some o := Heap.get?_push_of_some _ g
 have hTa : Shared.TypeIs { s with heap := s.heap.push { cls := .type "list", data := .seq ([] : List Value).toArray } } (.ref a) "set" := ⟨o, gA, S.exact'.1⟩
 unfold Builtin.List.listExtendWith
 refine wpAny_bind (wpAny_typeOf (T := "set") hTa ?_)
 have ne : s.heap.objs.size ≠ a := Nat.ne_of_gt la
 have h1 : Builtin.List.listSameRef (.ref s.heap.objs.size) (.ref a) = false := by simp [Builtin.List.listSameRef, ne]
 have h2 : (Value.type "set" == Value.type "list") = false := by decide
 have h3 : (Value.type "set" == Value.type "tuple") = false := by decide
 simp only [h1, h2, h3, Bool.or_false, Bool.false_eq_true, if_false]
 refine wpAny_bind (iter_walk (s := { s with heap := s.heap.push { cls := .type "list", data := .seq ([] : List Value).toArray } }) ⟨o, gA, S⟩ fun s1 I ps fp St hp hk eg eo et lI hfp W st => ?_)
 have gL1 : s1.heap.get? s.heap.objs.size = some { cls := .type "list", data := .seq #[] } := hk _ _ gL
 have nL : s.heap.objs.size ∉ fp := fun hm => by
  rcases (hfp _ hm).2 with q | q
  ·exact ne q
  ·exact absurd q (by show ¬ (s.heap.push _).objs.size ≤ _; rw [zL]; exact Nat.not_succ_le_self _)
 have hTa1 : s1.TypeIs (.ref a) "set" := ⟨o, hk _ _ gA, S.exact'.1⟩
 refine wpAny_bind (wpAny_holding (hint_set hTa1 ?_))
 have key : ∀ (hp' : Heap) (c₁ : Nat), St 0 hp' → (∀ b o, b ≠ s.heap.objs.size → s1.heap.get? b = some o → hp'.get? b = some o) → hp'.get? s.heap.objs.size = some { cls := .type "list", data := .seq #[] c₁ } →
   codeAny (model prog w) A (.builtin "list.extend.loop" ⟨[.ref s.heap.objs.size, .ref I, .ref s.heap.objs.size], []⟩) (fun x s' => ∃ acc c', x = .ok (.ret (.ref s.heap.objs.size)) ∧ (∀ b o, s.heap.get? b = some o → s'.heap.get? b = some o) ∧ s'.gens = s.gens ∧ s'.os = s.os ∧
    s'.heap.get? s.heap.objs.size = some { cls := .type "list", dict := none, data := .seq acc c', slots := #[] } ∧ ItemsOf (fun i v => ∃ e, ps[i]? = some e ∧ e.2 = v) acc es.size) { s1 with heap := hp' } := by
  intro hp' c₁ st' hk' gL'
  refine codeAny_extend_loopS (W A.in1 hh).toS hn s.heap.objs.size nL _ es.size 0 _ #[] c₁ rfl (Nat.zero_le _) st' gL' (ItemsOf.nil _) fun s' acc c' hm gL'' hi => ?_
  refine ⟨acc, c', rfl, fun b o e => ?_, hm.gens.trans eg, hm.os.trans eo, gL'', hi⟩
  have lb : b < s.heap.objs.size := Heap.lt_size e
  refine hm.heap b o (fun hmem => ?_) (hk' b o (Nat.ne_of_lt lb) (hk b o (Heap.get?_push_of_some _ e)))
  rcases List.mem_cons.mp hmem with q | q
  ·exact absurd q (Nat.ne_of_lt lb)
  ·have q := List.mem_singleton.mp q
   have lI' : s.heap.objs.size + 1 ≤ I := by rw [← zL]; exact lI
   rw [q] at lb
   exact absurd lb (Nat.not_lt.mpr (Nat.le_of_succ_le lI'))
 have last : ∀ (x : Result) (s' : Shared), (∃ acc c', x = .ok (.ret (.ref s.heap.objs.size)) ∧ (∀ b o, s.heap.get? b = some o → s'.heap.get? b = some o) ∧ s'.gens = s.gens ∧ s'.os = s.os ∧
   s'.heap.get? s.heap.objs.size = some { cls := .type "list", dict := none, data := .seq acc c', slots := #[] } ∧ ItemsOf (fun i v => ∃ e, ps[i]? = some e ∧ e.2 = v) acc es.size) → ∃ v, x = .ok (.ret v) ∧ wpAny (model prog w) A (match v with
   | Value.ref a => do
    match (← load a).data with
     | Data.seq xs _ => pure xs.toList
     | _ => unsupported "internal:collect"
   | _ => unsupported "internal:collect") R E s' := by
  intro x s' q
  obtain ⟨acc, c', rfl, k1, k2, k3, k4, k5⟩ := q
  refine ⟨_, rfl, ?_⟩
  show wpAny _ A (load s.heap.objs.size >>= _) _ _ _; refine wpAny_bind (wpAny_load k4 (wpAny_pure ?_))
  obtain ⟨ks', e1, e2⟩ := keysAre_of hp S.ent k5
  exact h s' acc.toList ks' k1 k2 k3 (Nat.le_of_lt (Heap.lt_size k4)) (e1.trans ek) e2
 refine wpAny_ite_split (fun _ => ?_) (fun _ => ?_)
 ·refine wpAny_bind (wpAny_rule (wpAny_bind ?_))
  show wpAny _ _ (updateSeq s.heap.objs.size (·.push .none) >>= fun _ => updateSeq s.heap.objs.size (·.pop)) _ _ _
  refine wpAny_bind (wpAny_updateSeq gL1 rfl ?_)
  have gL2 := Heap.get?_update_self (Obj.mapSeq (·.push Value.none)) gL1 rfl
  refine wpAny_updateSeq (hz := by seq_fits) gL2 rfl ?_
  have gL3 := Heap.get?_update_self (Obj.mapSeq (·.pop)) gL2 rfl
  refine wpAny_pure ⟨plainId_quiet PySem.F.plain_extend_loop _, codeAny_mono (key _ _ ?_ (fun b o hb e => ?_) gL3) fun x s' q => ?_⟩
  ·refine (W A.in1 hh).frame 0 _ _ st fun b hb o e => ?_
   have hbS : b ≠ s.heap.objs.size := fun q => nL (q ▸ hb)
   exact (Heap.get?_update_other _ _ (Ne.symm hbS)).trans ((Heap.get?_update_other _ _ (Ne.symm hbS)).trans e)
  ·exact (Heap.get?_update_other _ _ (Ne.symm hb)).trans ((Heap.get?_update_other _ _ (Ne.symm hb)).trans e)
  ·obtain ⟨v, rfl, q'⟩ := last x s' q
   exact q'
 ·refine wpAny_pure ⟨plainId_quiet PySem.F.plain_extend_loop _, codeAny_mono (key s1.heap 0 st (fun b o _ e => e) gL1) fun x s' q => ?_⟩
  obtain ⟨v, rfl, q'⟩ := last x s' q
  exact q'
theorem strsK {ss : List Str} : ∀ {vs : List Value}, KeysAre vs (ss.map Sum.inr) → StrsAre vs ss := by
 induction ss with
 | nil => intro vs p; cases p; exact .nil
 | cons n ns ih =>
  intro vs p
  cases p with
  | cons h r =>
   rcases Bb h with ⟨i, t, e, rfl⟩ | ⟨x, t, e, rfl⟩
   ·cases e
   ·cases e; exact .cons _ _ (ih r)
theorem perm_map_inv {α : Type} {f : α → Key} : ∀ {l : List α} {ks : List Key}, ks.Perm (l.map f) → ∃ l' : List α, l'.Perm l ∧ ks = l'.map f := by
 have : ∀ {ks ks' : List Key}, ks'.Perm ks → ∀ {l : List α}, ks' = l.map f → ∃ l' : List α, l'.Perm l ∧ ks = l'.map f := by
  intro ks ks' hp
  induction hp with
  | nil => intro l e; exact ⟨l, .rfl, e⟩
  | cons x _ ih =>
   intro l e
   match l, e with
   | y :: l, e =>
    rw [List.map_cons] at e
    injection e with e1 e2
    obtain ⟨l', h1, h2⟩ := ih e2
    exact ⟨y :: l', h1.cons _, by rw [List.map_cons, ← h2, e1]⟩
  | swap x y _ =>
   intro l e
   match l, e with
   | a :: b :: l, e =>
    simp only [List.map_cons, List.cons.injEq] at e
    obtain ⟨e1, e2, e3⟩ := e
    exact ⟨b :: a :: l, List.Perm.swap _ _ _, by simp [e1, e2, e3]⟩
  | trans _ _ ih1 ih2 =>
   intro l e
   obtain ⟨l1, h1, h2⟩ := ih1 e
   obtain ⟨l2, h3, h4⟩ := ih2 h2
   exact ⟨l2, h3.trans h1, h4⟩
 intro l ks hp
 exact this hp.symm rfl
theorem sorted_setS {ns : List Str} {Q : Value → Shared → Prop} (hh : A.handled = none) (sa : SetP w s.heap a (ns.map Sum.inr)) (h64 : ns.length < 64)
  (h : ∀ (s' : Shared) (D n : Nat) (out : Array Value) (ns' : List Str), (∀ b o, s.heap.get? b = some o → s'.heap.get? b = some o) → s'.gens = s.gens → s'.os = s.os → s.heap.objs.size ≤ D → s'.heap.get? D = some (seqObj "list" out n) → StrsAre out.toList ns' → ns'.Perm ns → sortedS ns' = true → Q (.ref D) s') :
  wpAny (model prog w) A (call (.builtin "sorted") [.ref a]) Q E s := by
 refine Calls.call_function_entry kind_sorted plain_sorted entry_sorted (args_sorted1 _) ?_; unfold Builtin.«sorted»
 refine wpAny_bind (m := checkCount "sorted" 1 1 _) (wpAny_pure (wpAny_bind (collect_set (A := A.in1) hh sa fun s1 vs ks' hk eg eo ez ep kv => ?_)))
 obtain ⟨ns1, p1, rfl⟩ := perm_map_inv ep
 have hi := strsK kv
 have hl : vs.length < 64 := by
  have : vs.length = ns1.length := by
   have := Ds kv
   rwa [List.length_map] at this
  rw [this, p1.length_eq]
  exact h64
 refine wpAny_bind (wpAny_newList ?_ (by rw [sizeLine_eq]; omega))
 have gD : (s1.heap.push (seqObj "list" vs.toArray 0)).get? s1.heap.objs.size = some (seqObj "list" vs.toArray 0) := Heap.get?_push_size _ rfl
 refine wpAny_bind (wpAny_holding (wpAny_call_entry slot_list_sort ⟨_, gD, rfl⟩ entry_list_sort (list_sort_treeK (s := { s1 with heap := s1.heap.push (seqObj "list" vs.toArray 0) }) strKind_oneLt gD hi.keysOf (fun v₁ v₂ rest e => keyKind_strs (by rw [← e]; exact hi)) hl fun st' b1 b2 => ⟨_, rfl, ?_⟩) (args_list_sort _)))
 obtain ⟨ns', a1, a2, a3⟩ := sorted_out_str hi b1 b2
 have lD : ∀ b o, s.heap.get? b = some o → b < s1.heap.objs.size := fun b o e => Heap.lt_size (hk b o e)
 obtain ⟨n, gO⟩ : ∃ n, (sortedHeap (s1.heap.push (seqObj "list" vs.toArray 0)) s1.heap.objs.size vs ((arrOf st').map (·.2))).get? s1.heap.objs.size = some (seqObj "list" ((arrOf st').map (·.2)) n) := sortedHeap_at gD
 refine wpAny_pure ⟨_, rfl, h _ s1.heap.objs.size n _ ns' (fun b o e => ?_) eg eo ez gO a1 (a2.trans p1) a3⟩
 have lb := lD b o e
 exact (sortedHeap_old (Nat.ne_of_lt lb) (by rw [size_push']; exact Nat.lt_succ_of_lt lb)).trans (Heap.get?_push_of_some _ (hk b o e))
end
noncomputable def SetO (w : World) (p : Addr) (ks : List Key) : HO := .ext fun h => SetP w h p ks
theorem setO_ok {P : Program} {w : World} {H : Hp} {h : Heap} {p : Addr} {ks : List Key} (x : SetP w h p ks) : ObjOk P w H h p (SetO w p ks) := by
 refine ⟨x, ?_, fun h1 h2 a b => a.at b⟩
 obtain ⟨_, ⟨o, _, _, _, g, _⟩, _⟩ := x
 exact ⟨o, g⟩
theorem setO_get {P : Program} {w : World} {H : Hp} {h : Heap} {p : Addr} {ks : List Key} (x : HOk P w H h) (e : H p = some (SetO w p ks)) : SetP w h p ks := (x p _ e).1
section
variable {X : Cx} {pins : List (Addr × Obj)} {σ : List (Option V)} {H : Hp} {s s' : Shared}
theorem Inv.same (I : Inv X pins σ H s) (e1 : s'.heap = s.heap) (e2 : s'.gens = s.gens) (e3 : s'.os = s.os) : Inv X pins σ H s' := by
 obtain ⟨h, g, d, t, o⟩ := s
 obtain ⟨h', g', d', t', o'⟩ := s'
 dsimp only at e1 e2 e3
 subst e1; subst e2; subst e3
 exact ⟨I.ok, I.os, I.bare, I.base, I.loc, I.cell, I.free, I.freeC, I.pin, I.hok, I.len⟩
theorem Inv.laid' {a : Addr} {o : HO} (I : Inv X pins σ H s) (k : ∀ b u, s.heap.get? b = some u → s'.heap.get? b = some u) (hp : s.heap.objs.size ≤ a) (new : ObjOk X.prog X.w (upd H a o) s'.heap a o) (e2 : s'.gens = s.gens) (e3 : s'.os = s.os) :
  Inv X pins σ (upd H a o) s' := (I.laid (t' := s.toks) k hp new).same rfl e2 e3
end
theorem rel_key : ∀ {k : Key} {u : Value}, RelV (kV k) u → E1 k u = true
 | .inl i, u, h => by obtain ⟨t, rfl⟩ := h; exact keyIs_int i t
 | .inr x, u, h => by obtain ⟨t, rfl⟩ := h; exact keyIs_str x t
theorem vals_key {ks : List Key} : ∀ {us : List Value}, Vals (ks.map kV) us → ∀ (i : Nat) (v : Value), us[i]? = some v → ∃ k, ks[i]? = some k ∧ E1 k v = true := by
 induction ks with
 | nil => intro us r i v e; cases r; cases e
 | cons k ks ih =>
  intro us r i v e
  rw [List.map_cons] at r
  cases r with
  | cons h t => cases i with
   | zero =>
    cases e
    exact ⟨k, rfl, rel_key h⟩
   | succ i => exact ih t i v e
noncomputable def rSetK (w : World) (K : PySem.W.Frag) : List V → Hp → VK → Prop := fun vs H Q => ∃ (l : Addr) (ks : List Key), vs = [.ref l] ∧ SqL K H l (ks.map kV) ∧ ks.length < 4000 ∧ ∀ p, H p = none → Q (.ref p) (upd H p (SetO w p (Fr ks)))
theorem call_setL {X : Cx} {w : World} {K : PySem.W.Frag} (hc : X.calm = true) (hw : X.w = w) (hK : X.K = K) : E2 X (.type "set") (rSetK w K) := by
 subst hK
 subst hw
 intro pins s σ H vs us Q I r h
 obtain ⟨l, ks, rfl, hl, hz, q⟩ := h
 obtain ⟨u, rfl, ru⟩ := Ff r
 cases ru
 obtain ⟨its, rv, pl, _⟩ := I.list hl
 have hlen := rv.length
 rw [List.length_map] at hlen
 have il := pl.isList
 refine call_set_src (val := ks) (T := "list") (I.ok.hd hc) (src_list il) (fun s1 k => (il.at fun o e => k _ _ e).typeIs) PySem.F.sub_list_set PySem.F.sub_list_frozenset (by decide) ?_ (fun i v e => vals_key rv i v (by rw [List.getElem?_toArray] at e; exact e)) ?_ fun h' tk hS hk => ?_
 ·rw [List.size_toArray]; exact hlen
 ·rw [List.size_toArray, ← hlen]; unfold scanBound; omega
 ·exact ⟨.ref s.heap.objs.size, _, I.laid' (s' := { s with heap := h', toks := tk }) (fun b o e => hk b o e) (Nat.le_refl _) (setO_ok hS) rfl rfl, rfl, q _ (I.hok.fresh (Nat.le_refl _))⟩
noncomputable def rSortPS (w : World) : List V → Hp → VK → Prop := fun vs H Q => ∃ (l : Addr) (ys : List Str), vs = [.ref l] ∧ H l = some (SetO w l (ys.map Sum.inr)) ∧ ys.length < 64 ∧ ∀ p, H p = none → Q (.ref p) (upd H p (.lst ((sortS ys).map V.str)))
theorem call_sortPS {X : Cx} {w : World} (hc : X.calm = true) (hw : X.w = w) : E2 X (.builtin "sorted") (rSortPS w) := by
 subst hw
 intro pins s σ H vs us Q I r h
 obtain ⟨l, ys, rfl, hl, h64, q⟩ := h
 obtain ⟨u, rfl, ru⟩ := Ff r
 cases ru
 refine sorted_setS (I.ok.hd hc) (setO_get I.hok hl) h64 fun s' D n out ns' hk eg eo lD gD a1 a2 a3 => ?_
 have e := sortS_of a2 a3
 subst e
 refine ⟨.ref D, _, I.laid' (o := .lst ((sortS ys).map V.str)) hk lD ⟨?_, out.toList, n, vals_strs a1, gD⟩ eg eo, rfl, q _ (I.hok.fresh lD)⟩
 rw [List.length_map, (EQ ys).length_eq, sizeLine_eq]
 omega
noncomputable def addA {α : Type} [DecidableEq α] (ks : List α) (k : α) : List α := if ks.any (fun y => decide (y = k)) then ks else ks ++ [k]
noncomputable def GR {α : Type} [DecidableEq α] (ks : List α) : List α := ks.foldl addA []
theorem addA_map {α : Type} [DecidableEq α] {f : α → Key} (hf : ∀ a b, f a = f b → a = b) (ks : List α) (k : α) : Fb (ks.map f) (f k) = (addA ks k).map f := by
 have e : (ks.map f).any (fun y => decide (y = f k)) = ks.any (fun y => decide (y = k)) := by
  rw [List.any_map]
  congr 1
  funext y
  show decide (f y = f k) = decide (y = k)
  by_cases h : y = k
  ·rw [h, decide_eq_true rfl, decide_eq_true rfl]
  ·rw [decide_eq_false h, decide_eq_false (fun q => h (hf _ _ q))]
 unfold Fb addA
 rw [e]
 split
 ·rfl
 ·rw [List.map_append]; rfl
theorem dedA_map {α : Type} [DecidableEq α] {f : α → Key} (hf : ∀ a b, f a = f b → a = b) (ks : List α) : Fr (ks.map f) = (GR ks).map f := by
 have : ∀ (ks acc : List α), (ks.map f).foldl Fb (acc.map f) = (ks.foldl addA acc).map f := by
  intro ks
  induction ks with
  | nil => intro acc; rfl
  | cons k ks ih => intro acc; rw [List.map_cons, List.foldl_cons, List.foldl_cons, addA_map hf, ih]
 exact this ks []
theorem inr_inj (a b : Str) (h : (Sum.inr a : Key) = Sum.inr b) : a = b := Sum.inr.inj h
noncomputable def EN (ys : List Str) : Option (List Str) := if ys.length < 4000 ∧ (GR ys).length < 64 then some (sortS (GR ys)) else none
theorem mem_addA {α : Type} [DecidableEq α] {ks : List α} {k x : α} : x ∈ addA ks k ↔ x ∈ ks ∨ x = k := by
 unfold addA
 split
 ·rename_i h
  obtain ⟨y, hy, e⟩ := List.any_eq_true.mp h
  have e := of_decide_eq_true e
  constructor
  ·exact .inl
  ·rintro (h | rfl)
   ·exact h
   ·exact e ▸ hy
 ·rw [List.mem_append, List.mem_singleton]
theorem mem_dedA {α : Type} [DecidableEq α] {ks : List α} {x : α} : x ∈ GR ks ↔ x ∈ ks := by
 have : ∀ (ks acc : List α), x ∈ ks.foldl addA acc ↔ x ∈ acc ∨ x ∈ ks := by
  intro ks
  induction ks with
  | nil => intro acc; simp
  | cons k ks ih => intro acc; rw [List.foldl_cons, ih, mem_addA, List.mem_cons, or_assoc]
 rw [GR, this]
 simp
theorem nodup_dedA {α : Type} [DecidableEq α] (ks : List α) : (GR ks).Nodup := by
 have : ∀ (ks acc : List α), acc.Nodup → (ks.foldl addA acc).Nodup := by
  intro ks
  induction ks with
  | nil => intro acc h; exact h
  | cons k ks ih =>
   intro acc h
   rw [List.foldl_cons]
   refine ih _ ?_
   unfold addA
   split
   ·exact h
   ·rename_i hn
    refine List.nodup_append.mpr ⟨h, by simp, fun a ha b hb e => hn ?_⟩
    rw [List.mem_singleton] at hb
    exact List.any_eq_true.mpr ⟨a, ha, decide_eq_true (e.trans hb)⟩
 exact this ks [] List.nodup_nil
section
variable {K : PySem.W.Frag} {σ : St} {G : Hp} {ta tb : TE} {w : World}
theorem strs_keys (a : List Str) : a.map V.str = (a.map (Sum.inr : Str → Key)).map kV := by rw [List.map_map]; rfl
theorem strs_rel {G2 : Hp} (zs : List Str) (h : ∀ y ∈ zs, y.length ≤ sizeLine) : Paired (Rp.rel K G2) (zs.map V.str) zs := by
 induction zs with
 | nil => exact .nil
 | cons y zs ih => exact .cons ⟨rfl, h y List.mem_cons_self⟩ (ih fun w hw => h w (List.mem_cons_of_mem _ hw))
theorem fv_sortSetS {la : Option (List Str)} (ea : EV K ta σ G la) : FV K (tCB (rSortPS w) (Ag (tCB (rSetK w K) (Ag ta C0)) C0)) σ G (la.bind fun ys => EN ys) := by
 intro G1 s1 c hc H sH Q k
 obtain ⟨a, ha, hc⟩ := Option.bind_eq_some_iff.mp hc
 obtain ⟨⟨h4, h64⟩, rfl⟩ := BN hc
 refine ea G1 s1 a ha H sH _ fun v G2 H2 x2 r2 => ?_
 obtain ⟨l, xs, rfl, h, z, p⟩ := r2
 have e := paired_strsR p
 subst e
 refine ⟨l, a.map Sum.inr, rfl, ?_, by rw [List.length_map]; exact h4, fun q hq => ?_⟩
 ·rw [← strs_keys]; exact .inl (x2.gh.rd h)
 ·rw [dedA_map inr_inj]
  refine ⟨q, GR a, rfl, AQ, h64, ?_⟩
  have x3 : Ext G2 H2 G2 (upd H2 q (SetO w q ((GR a).map Sum.inr))) := .own x2.gh hq
  refine fv_of x3.gh ?_ (strs_rel _ fun y hy => paired_len p y (mem_dedA.mp ((EQ _).mem_iff.mp hy))) (FV.mono (x2.trans x3) k)
  rw [List.length_map, (EQ _).length_eq, sizeLine_eq]
  omega
end
section
variable {prog : Program} {w : World} {A : Around} {E : Value → Shared → Prop} {s : Shared}
end
section
variable {prog : Program} {w : World} {A : Around} {E : Value → Shared → Prop} {s : Shared}
end
section
variable {prog : Program} {w : World} {A : Around} {E : Value → Shared → Prop} {s : Shared}
end
section
variable {prog : Program} {w : World} {A : Around} {E : Value → Shared → Prop} {s : Shared}
end
section
variable {K : PySem.W.Frag} {σ : St} {G : Hp} {ta tb : TE} {w : World}
end
section
variable {K : PySem.W.Frag} {σ : St} {G H G0 H0 : Hp} {α β : Type} [Rp α] [Rp β] {ta td ti : TE} {rest : TS} {D : Ends} {i : Nat} {a : Mp α} {v : V} {p : Addr} {kvs : List (Key × V)}
end
section
variable {K : PySem.W.Frag} {σ : St} {G : Hp} {α : Type} [Rp α] {ta : TE}
end
section
variable {K : PySem.W.Frag} {σ : St} {G H : Hp} {α : Type} [Rp α] {rest : TS} {D : Ends} {i : Nat} {as as' : List α} {v : V} {p : Addr} {vs : List V}
end
noncomputable def rExtendT (K : PySem.W.Frag) : V → List V → Hp → VK → Prop := fun x vs H Q => ∃ l b xs zs, x = .ref l ∧ vs = [.ref b] ∧ H l = some (.lst xs) ∧ SqT K H b zs ∧ xs.length + zs.length ≤ sizeLine ∧ Q .non (upd H l (.lst (xs ++ zs)))
theorem mt_extendT {X : Cx} {K : PySem.W.Frag} (hK : X.K = K) : MtM X "list.extend" (rExtendT K) := by
 subst hK
 intro pins s σ H x vs v us Q I rx rv h
 obtain ⟨l, b, xs, zs, rfl, rfl, hH, hB, hz, q⟩ := h
 cases rx
 obtain ⟨u, rfl, ru⟩ := rv.one
 cases ru
 obtain ⟨z, its, n, r, hl, e⟩ := I.lstM hH
 obtain ⟨its2, r2, ⟨o2, g2, c2, n2, d2⟩, _⟩ := I.tuple hB
 have h1 := r.length
 have h2 := r2.length
 have hsz : its.toArray.size + its2.toArray.size ≤ sizeLine := by rw [List.size_toArray, List.size_toArray]; omega
 refine wpAny_call_entry F.slot_list_extend ⟨_, e, rfl⟩ F.entry_list_extend ?_ (F.args_list_extend_2 _ _)
 unfold Builtin.«list.extend»
 refine wpAny_bind (wpAny_pure ?_)
 dsimp only
 unfold Builtin.List.listExtendWith
 refine wpAny_bind (wpAny_typeOf (T := "tuple") ⟨o2, g2, c2⟩ ?_)
 have ht : (Value.type "tuple" == Value.type "tuple") = true := by rfl
 rw [if_pos (by rw [ht]; simp)]
 refine wpAny_bind (listItems_at g2 d2 (wpAny_bind (listItems_at e rfl ?_)))
 rw [if_neg (by rw [notLongL hsz, Bool.and_false]; exact Bool.false_ne_true)]
 refine wpAny_bind (listUpdate_at e rfl ?_ (by omega) (by rw [Array.size_append]; omega))
 refine wpAny_pure ⟨_, rfl, .non, _, I.lset (its' := its ++ its2) (t' := s.toks) hH e (by simp) (r.append r2) ?_, rfl, q⟩
 rw [List.length_append]
 omega
section
variable {K : PySem.W.Frag} {σ : St} {G H : Hp} {α : Type} [Rp α] {te : TE} {rest : TS} {D : Ends} {i : Nat} {m : Option (Tp α)} {b : Tp α} {as as' : List α} {v : V} {p : Addr} {vs : List V}
theorem sv_extendTB [Imm (Tp α)] (hσ : σ[i]? = some (some v)) (o : Own K G H v p vs as) (e : EV K te σ (upd G p (.lst vs)) m) (hm : m = some b) (hp : extO as b.l = some as') (s : Same G H)
  (k : ∀ G2 H2 ws, Ext G H G2 H2 → Own K G2 (upd H2 p (.lst (vs ++ ws))) v p (vs ++ ws) as' → rest D σ (upd H2 p (.lst (vs ++ ws)))) : CK (tDrop (tBM K "list" (rExtendT K) (Bc i) (Ag te C0))) rest D σ H := by
 obtain ⟨hl, rfl⟩ := BN hp
 have hlen := Paired.length o.p
 have ov := o.v
 subst ov
 refine ⟨_, hσ, .inl ⟨rfl, _, SqL.of o.h⟩, ?_⟩
 refine EV.runB o e hm s fun w G2 H2 x r => ?_
 have o2 := o.ext x
 obtain ⟨q, ws, rfl, hq, hz, hpr⟩ := r
 have hlw := Paired.length hpr
 refine ⟨p, q, vs, ws, rfl, rfl, o2.h, x.gh.tup hq, by omega, ?_⟩
 refine k G2 H2 ws x ⟨rfl, o2.g, AQ, ?_, Paired.app o2.p hpr⟩
 rw [List.length_append]
 omega
end
structure MpS (α : Type) where
 l : List (Str × α)
noncomputable def RelS (K : PySem.W.Frag) {α : Type} [Rp α] (H : Hp) (kv : Key × V) (q : Str × α) : Prop := kv.1 = .inr q.1 ∧ Rp.rel K H kv.2 q.2
noncomputable instance rpMpS {α : Type} [Rp α] : Rp (MpS α) := ⟨fun K H v a => ∃ p kvs, v = .ref p ∧ H p = some (.dK kvs) ∧ Paired (RelS K H) kvs a.l,
 fun s ⟨p, kvs, e, h, pr⟩ => ⟨p, kvs, e, s _ _ h, Paired.imp' (fun _ _ r => ⟨r.1, Rp.mono s r.2⟩) pr⟩⟩
section
variable {K : PySem.W.Frag} {σ : St} {G H G1 H1 G0 H0 : Hp} {α β : Type} [Rp α] [Rp β] {td te ti : TE} {rest : TS} {D : Ends} {i : Nat} {a : MpS α} {v : V} {p q : Addr} {kvs : List (Key × V)}
end
section
variable {X : Cx} {i o : Expr} {ty td : TE} {pos : Pos}
end
section
variable {prog : Program} {w : World} {A : Around} {E : Value → Shared → Prop} {s : Shared}
end
section
variable {prog : Program} {w : World} {A : Around} {E : Value → Shared → Prop} {s : Shared} {z TI TO : Addr} {f0 f1 : Value}
end
section
variable {prog : Program} {w : World} {A : Around} {E : Value → Shared → Prop} {s : Shared}
end
section
variable {prog : Program} {w : World} {A : Around} {E : Value → Shared → Prop} {s : Shared}
end
section
variable {K : PySem.W.Frag} {σ : St} {G H G0 H0 : Hp} {α β : Type} [Rp α] [Rp β] {ta tb : TE}
end
section
variable {X : Cx} {i o : Expr} {ty : TE} {pos : Pos} {a : Addr} {w : World} {K : PySem.W.Frag} {l : List (Str × Int)}
end
section
variable {K : PySem.W.Frag} {σ : St} {G : Hp} {ty : TE} {l : List (Str × Int)}
end
end L2
namespace HT
open PySem PySem.Spec PyProof.Rows
section
variable {prog : Program} {w : World} {A : Around} {E : Value → Shared → Prop} {s : Shared}
end
end HT
namespace L2
open PySem PySem.Spec PyProof.Rows
section
variable {K : PySem.W.Frag} {σ : St} {G : Hp} {α : Type} [Rp α] {ta tb tc te : TE} {t1 t2 : TO} {sa sb sc : Option Str} {m1 m2 : Option (Option Int)}
end
section
variable {prog : Program} {w : World} {A : Around} {E : Value → Shared → Prop} {s : Shared}
end
section
variable {prog : Program} {w : World} {A : Around} {E : Value → Shared → Prop} {s : Shared}
end
section
variable {prog : Program} {w : World} {A : Around} {E : Value → Shared → Prop} {s : Shared}
end
section
variable {K : PySem.W.Frag} {σ : St} {G H : Hp} {α β : Type} [Rp α] [Rp β] {ta tb : TE}
end
section
variable {K : PySem.W.Frag} {σ : St} {G H : Hp} {ta tb te : TE} {rest : TS} {D : Ends} {i : Nat} {v : V} {p : Addr} {vs : List V} {β : Type} [Rp β]
end
section
variable {K : PySem.W.Frag} {σ : St} {G : Hp} {α : Type} [Rp α] [DecidableEq α] {ta tb : TE} {ma : Option α} {ml : Option (List α)}
end
section
variable {X : Cx} {es : List Expr} {t : TA} {te : TE} {p : Pos}
end
noncomputable def siK : SI → Key
 | .s x => .inr x
 | .i n => .inl n
theorem siK_inj : ∀ {a b : SI}, siK a = siK b → a = b
 | .s x, .s y, e => by rw [Sum.inr.inj e]
 | .s _, .i _, e => nomatch e
 | .i _, .s _, e => nomatch e
 | .i m, .i n, e => by rw [Sum.inl.inj e]
theorem keys_inj : ∀ {l m : List SI}, l.map siK = m.map siK → l = m
 | [], [], _ => rfl
 | [], _ :: _, e => nomatch e
 | _ :: _, [], e => nomatch e
 | a :: l, b :: m, e => by
  rw [List.map_cons, List.map_cons] at e
  obtain ⟨h1, h2⟩ := List.cons.inj e
  rw [siK_inj h1, keys_inj h2]
noncomputable def rowK (r : Tp SI) : List Key := r.l.map siK
theorem rowK_inj {a b : Tp SI} (e : rowK a = rowK b) : a = b := by
 cases a
 cases b
 exact congrArg Tp.mk (keys_inj e)
noncomputable def Fh : Nat → List (Tp SI) → List (List Key × V)
 | _, [] => []
 | i, r :: rs => (rowK r, .int (i : Int)) :: Fh (i + 1) rs
noncomputable def GQ : Nat → List (Tp SI) → Tp SI → Option Int
 | _, [], _ => none
 | i, a :: rs, r => if a = r then some (i : Int) else GQ (i + 1) rs r
theorem val_enc (r : Tp SI) : ∀ (rows : List (Tp SI)) (i : Nat), FK (Fh i rows) (rowK r) = (GQ i rows r).map V.int
 | [], _ => rfl
 | a :: rs, i => by
  unfold Fh GQ
  by_cases h : a = r
  ·rw [if_pos h, Dw (by rw [h])]
   rfl
  ·rw [if_neg h, Dy (fun e => h (rowK_inj e))]
   exact val_enc r rs (i + 1)
theorem encB_len : ∀ (rows : List (Tp SI)) (i : Nat), (Fh i rows).length = rows.length
 | [], _ => rfl
 | a :: rs, i => by
  unfold Fh
  rw [List.length_cons, List.length_cons, encB_len rs]
theorem encB_app (r : Tp SI) : ∀ (rows : List (Tp SI)) (i : Nat), Fh i (rows ++ [r]) = Fh i rows ++ [(rowK r, .int ((i + rows.length : Nat) : Int))]
 | [], _ => rfl
 | a :: rs, i => by
  rw [List.cons_append]
  unfold Fh
  rw [encB_app r rs (i + 1), List.cons_append, List.length_cons]
  congr 4
  congr 1
  omega
structure Rk where
 l : List SI
noncomputable instance rpRk : Rp Rk := ⟨fun K H v r => ∃ t xs, v = .ref t ∧ H t = some (.tup xs) ∧ xs.length ≤ sizeLine ∧ Paired (Rp.rel K H) xs r.l,
 fun s ⟨t, xs, e, h, z, p⟩ => ⟨t, xs, e, s _ _ h, z, Paired.imp' (fun _ _ r => Rp.mono s r) p⟩⟩
noncomputable def Rk.tp (r : Rk) : Tp SI := ⟨r.l⟩
noncomputable def Rk.of (r : Tp SI) : Rk := ⟨r.l⟩
theorem Rk.rel {K : PySem.W.Frag} {H : Hp} {v : V} {r : Rk} (h : Rp.rel K H v r) : Rp.rel K H v r.tp :=
 let ⟨t, xs, e, h, z, p⟩ := h
 ⟨t, xs, e, SqT.of h, z, p⟩
theorem sis_eq {K : PySem.W.Frag} {H : Hp} : ∀ {xs : List V} {l : List SI}, Paired (Rp.rel K H) xs l → xs = (l.map siK).map kV
 | _, _, .nil => rfl
 | _, _, .cons (b := .s x) h t => by
  rw [List.map_cons, List.map_cons, ← sis_eq t]
  exact congrArg (· :: _) h.1
 | _, _, .cons (b := .i n) h t => by
  rw [List.map_cons, List.map_cons, ← sis_eq t]
  exact congrArg (· :: _) (show _ = V.int n from h)
noncomputable def DH (rows : List (Tp SI)) (r : Rk) : Option (List (Tp SI) × Int) := match GQ 0 rows r.tp with
 | some n => some (rows, n)
 | none => if rows.length < sizeLine then some (rows ++ [r.tp], (rows.length : Int)) else none
structure OwnB (K : PySem.W.Frag) (G H : Hp) (p q : Addr) (vs : List V) (rows : List (Tp SI)) : Prop where
 l : Own K G H (.ref p) p vs rows
 ne : p ≠ q
 g : G q = none
 h : H q = some (.dT (Fh 0 rows))
 t : Paired (Rp.rel K G) vs (rows.map Rk.of)
noncomputable def spB (K : PySem.W.Frag) {α : Type} [Rp α] (m : List (Tp SI) → α → Option (List (Tp SI) × Int)) : Sp := fun vs H Q _ =>
 ∃ G p q v xs rows a r, vs = [.ref p, .ref q, v] ∧ Same G H ∧ OwnB K G H p q xs rows ∧ Rp.rel K G v a ∧ m rows a = some r ∧
  ∀ G2 H2 xs', Ext G (era H [p, q]) G2 H2 → OwnB K G2 H2 p q xs' r.1 → Q (.int r.2) H2
section
variable {K : PySem.W.Frag} {σ : St} {G H G1 H1 G0 H0 : Hp} {D : Ends} {p q l : Addr} {xs : List V} {rows : List (Tp SI)}
theorem spB_len {α : Type} [Rp α] {m : List (Tp SI) → α → Option (List (Tp SI) × Int)} {vs : List V} {Q : VK} {E : XK} (h : spB K m vs H Q E) : vs.length = 3 := by
 obtain ⟨G, p, q, v, xs, rows, a, r, rfl, _⟩ := h
 rfl
theorem OwnB.ext (o : OwnB K G H p q xs rows) (x : Ext G H G1 H1) : OwnB K G1 H1 p q xs rows :=
 ⟨o.l.ext x, o.ne, x.no q o.g (by rw [o.h]; exact fun z => nomatch z), x.hh _ _ o.h, Paired.imp' (fun _ _ r => Rp.mono x.gg r) o.t⟩
theorem OwnB.put {ho : HO} (o : OwnB K G H p q xs rows) (h1 : p ≠ l) (h2 : q ≠ l) : OwnB K G (upd H l ho) p q xs rows :=
 ⟨o.l.put h1, o.ne, o.g, by rw [Ao h2]; exact o.h, o.t⟩
theorem rown_body {v : V} {row : Rk} {r : List (Tp SI) × Int} (s : Same G H) (o : OwnB K G H p q xs rows) (rv : Rp.rel K G v row) (hm : DH rows row = some r)
  (k : ∀ G2 H2 xs', Ext G (era H [p, q]) G2 H2 → OwnB K G2 H2 p q xs' r.1 → D.rt (.int r.2) H2) :
  CK (tIfS (tB (tDNotIn (Bc 2) (Bc 1)))
    (CK (sDPut (Bc 1) (Bc 2) (tCB (rLen K) (Ag (Bc 0) C0))) (CK (tDrop (tBM K "list" Fv (Bc 0) (Ag (Bc 2) C0))) C9)) C9)
   (CK (tRet (tDGet (Bc 1) (Bc 2))) C9) D [some (.ref p), some (.ref q), some v] H := by
 obtain ⟨t, ys, rfl, ht, hz, pr⟩ := id rv
 have e1 := sis_eq pr
 have ht' : H t = some (.tup ((rowK row.tp).map kV)) := by
  rw [s _ _ ht, e1]
  rfl
 have hv := val_enc row.tp rows 0
 have b0 := Ext.begin (C := [p, q]) s
 refine ⟨_, rfl, _, rfl, q, _, rfl, DGet.t o.h ht', _, rfl, ?_⟩
 unfold DH at hm
 cases hi : GQ 0 rows row.tp with
 | some n =>
  rw [hi] at hm hv
  cases hm
  rw [hv]
  refine BQ ?_
  exact ⟨_, rfl, _, rfl, q, .int n, rfl, .inr ⟨_, _, t, .inl o.h, rfl, ht', hv.symm⟩, k G H xs b0 o⟩
 | none =>
  rw [hi] at hm hv
  obtain ⟨hl, e⟩ := BN hm
  cases e
  rw [hv]
  refine BR ?_
  have oh := o.l.h
  have hlen := Paired.length o.l.p
  have npq : p ≠ q := o.ne
  refine ⟨_, rfl, xs, .inl (SqL.of oh), ?_⟩
  refine ⟨_, rfl, _, rfl, q, _, rfl, DPut.t o.h ht' (by rw [encB_len]; exact hl), ?_⟩
  have enc : Fn (Fh 0 rows) (rowK row.tp) (.int (xs.length : Int)) = Fh 0 (rows ++ [row.tp]) := by
   rw [putK_new _ hv, encB_app, Nat.zero_add, hlen]
  rw [enc]
  have hp1 : upd H q (.dT (Fh 0 (rows ++ [row.tp]))) p = some (.lst xs) := by
   rw [Ao npq]
   exact oh
  refine ⟨_, rfl, .inl ⟨rfl, _, SqL.of hp1⟩, _, rfl, p, xs, .ref t, rfl, rfl, hp1, by omega, ?_⟩
  have tp : t ≠ p := fun z => by
   rw [z, oh] at ht'
   cases ht'
  have tq : t ≠ q := fun z => by
   rw [z, o.h] at ht'
   cases ht'
  have hq2 : upd (upd H q (.dT (Fh 0 (rows ++ [row.tp])))) p (.lst (xs ++ [.ref t])) q = some (.dT (Fh 0 (rows ++ [row.tp]))) := by
   rw [Ao (Ne.symm npq)]
   exact AQ
  have ht2 : upd (upd H q (.dT (Fh 0 (rows ++ [row.tp])))) p (.lst (xs ++ [.ref t])) t = some (.tup ((rowK row.tp).map kV)) := by
   rw [Ao tp, Ao tq]
   exact ht'
  refine ⟨_, rfl, _, rfl, q, .int (rows.length : Int), rfl, .inr ⟨_, _, t, .inl hq2, rfl, ht2, ?_⟩, ?_⟩
  ·rw [encB_app, valV_snoc _ _ _ _ hv, if_pos rfl, Nat.zero_add]
  ·refine k G _ (xs ++ [.ref t]) ((b0.put (Es (by simp)) o.g).put (Es (by simp)) o.l.g) ⟨⟨rfl, o.l.g, AQ, ?_, Paired.app o.l.p (.cons (Rk.rel rv) .nil)⟩, npq, o.g, hq2, by rw [List.map_append]; exact Paired.app o.t (.cons rv .nil)⟩
   rw [List.length_append, List.length_singleton]
   omega
noncomputable def sisO : List Nt → Option (List SI)
 | [] => some []
 | .txt x :: r => (sisO r).bind fun l => some (.s x :: l)
 | .tup _ :: _ => none
 | .int _ :: _ => none
theorem sis_rel : ∀ {xs : List V} {l : List Nt} {ks : List SI}, RelNs K G xs l → sisO l = some ks → Paired (Rp.rel K G) xs ks
 | _, _, _, .nil, e => by
  cases e
  exact .nil
 | _, _, _, .cons (.txt x z) t, e => by
  obtain ⟨l', h, e⟩ := Option.bind_eq_some_iff.mp e
  cases e
  exact .cons ⟨rfl, z⟩ (sis_rel t h)
 | _, _, _, .cons (.tup _ _ _ _) t, e => nomatch (show (none : Option (List SI)) = some _ from e)
 | _, _, _, .cons (.int _) t, e => nomatch (show (none : Option (List SI)) = some _ from e)
noncomputable def GO (lay : List (Tp SI) → Nt → Option (List (Tp SI) × Int)) (a : Nt) (s : List (Tp SI) × List SI) : Option (Fl (List (Tp SI) × List SI) Unit) :=
 (lay s.1 a).bind fun z => if s.2.length + 1 ≤ sizeLine then some (.nx (z.1, s.2 ++ [.i z.2])) else none
noncomputable def layE : Fl (List (Tp SI) × List SI) Unit → Option (List (Tp SI) × Int)
 | .nx z => DH z.1 ⟨z.2⟩
 | _ => none
noncomputable def EM (pm : Nt → Option (Tp Nt)) : Nat → List (Tp SI) → Nt → Option (List (Tp SI) × Int)
 | 0 => fun _ _ => none
 | n + 1 => fun rows a => (BF a).bind fun t => (atI t.l 0).bind fun b => (Bz b).bind fun w =>
   cond (decide (w = "lamp")) ((sisO t.l).bind fun l => DH rows ⟨l⟩)
   ((pm a).bind fun ps => (EA (GO (EM pm n)) ps.l (rows, [.s w])).bind fun z => layE z)
theorem lay_body {pm : Nt → Option (Tp Nt)} {mp : Nt × Unit → Option (Tp Nt)} (hpm : ∀ a, mp (a, ()) = pm a) {n : Nat} {v : V} {a : Nt} {r : List (Tp SI) × Int} (s : Same G H) (o : OwnB K G H p q xs rows) (rv : Rp.rel K G v a) (hm : EM pm (n + 1) rows a = some r)
  (k : ∀ G2 H2 xs', Ext G (era H [p, q]) G2 H2 → OwnB K G2 H2 p q xs' r.1 → D.rt (.int r.2) H2) :
  CK (tIfS (tTest (tOp rEq (tOp (rAt K) (Bc 2) (tC (.int 0))) (tC (.str "lamp"))))
    (CK (tRet (Dv (spB K DH) [] E0 (Ag (Bc 0) (Ag (Bc 1) (Ag (Bc 2) C0))))) C9) C9)
   (CK (FJ (tTup (Ag (tOp (rAt K) (Bc 2) (tC (.int 0))) C0)) (D2 3))
   (CK (tFor (GU K (Dv (spM K mp) [] E0 (Ag (Bc 2) C0))) (D2 4)
    (CK (FJ (tOp (rCatTp K) (Bc 3) (tTup (Ag (Dv (spB K (EM pm n)) [] E0 (Ag (Bc 0) (Ag (Bc 1) (Ag (Bc 4) C0)))) C0))) (D2 3)) C9))
   (CK (tRet (Dv (spB K DH) [] E0 (Ag (Bc 0) (Ag (Bc 1) (Ag (Bc 3) C0))))) C9))) D [some (.ref p), some (.ref q), some v, none, none] H := by
 obtain ⟨t, htu, hm⟩ := Option.bind_eq_some_iff.mp (show _ = some r from hm)
 refine bE hm fun b hb hm => ?_
 refine bE hm fun w hw hm => ?_
 have b0 := Ext.begin (C := [p, q]) s
 have z0 : ∀ b ∈ [p, q], era H [p, q] b = none := fun b hb => Es hb
 have hd : ((((some a).bind fun d => BF d).bind fun a => (some (0 : Int)).bind fun i => atI a.l i).bind fun d => Bz d) = some w := by
  rw [Option.bind_some, htu, Option.bind_some, Option.bind_some, hb, Option.bind_some, hw]
 refine B9 (AJ (K := K) (Av (D4 (B8 (BE (A5 rfl rv)) Af)) As)) (b := decide (w = "lamp")) (by rw [hd]; rfl) s fun G2 H2 x2 => ?_
 have o2 := o.ext x2
 have rv2 := Rp.mono x2.gg rv
 have xt := b0.trans x2
 by_cases hl : w = "lamp"
 ·rw [decide_eq_true hl] at hm ⊢
  have hmL : ((sisO t.l).bind fun l => DH rows ⟨l⟩) = some r := hm
  obtain ⟨ks, hks, hmK⟩ := Option.bind_eq_some_iff.mp hmL
  refine BR ?_
  cases rv2 with
  | txt x z => cases htu
  | int n => cases htu
  | @tup ad us ds h z rs hlp =>
   cases htu
   have h0 : ds[0]? = some (.txt "lamp") := by
    have hb' : atI ds 0 = some b := hb
    cases ds with
    | nil => cases hb'
    | cons d ds' =>
     have e0 : ixN (d :: ds').length (0 : Int) = some 0 := by
      unfold ixN
      rw [if_pos (by omega), if_pos (by rw [List.length_cons]; omega)]
      rfl
     have this : atI (d :: ds') (0 : Int) = some d := by
      unfold atI
      rw [e0]
      rfl
     rw [this] at hb'
     have hdb := Option.some.inj hb'
     cases d with
     | txt y =>
      rw [← hdb] at hw
      have hyw : y = w := Option.some.inj hw
      rw [hyw, hl]
      rfl
     | tup _ =>
      rw [← hdb] at hw
      cases hw
     | int _ =>
      rw [← hdb] at hw
      cases hw
   have rk : Rp.rel K G2 (.ref ad) (Rk.mk ks) := ⟨ad, us, rfl, hlp h0, z, sis_rel rs hks⟩
   exact ⟨_, rfl, _, rfl, _, rfl, G2, p, q, _, xs, rows, ⟨ks⟩, r, rfl, x2.gh, o2, rk, hmK, fun G3 H3 xs' y o' => k G3 H3 xs' (xt.past z0 y) o'⟩
 ·rw [decide_eq_false hl] at hm ⊢
  replace hm : ((pm a).bind fun ps => (EA (GO (EM pm n)) ps.l (rows, [.s w])).bind fun z => layE z) = some r := hm
  refine bE hm fun ps hps hm => ?_
  refine bE hm fun res hres hm => ?_
  refine BQ ?_
  refine (D4 (B8 (BE (A5 rfl rv2)) Af)).run (K := K) hd x2.gh fun u G3 H3 x3 r3 => ?_
  refine ⟨by show 1 ≤ sizeLine; decide, fun t3 ht3 => ?_⟩
  have x4 : Ext G3 H3 (upd G3 t3 (.tup [u])) (upd H3 t3 (.tup [u])) := .new x3.gh ht3
  have o4 := (o2.ext x3).ext x4
  have xt := (xt.trans x3).trans x4
  have rv4 := Rp.mono x4.gg (Rp.mono x3.gg rv2)
  have rk : Rp.rel K (upd G3 t3 (.tup [u])) (.ref t3) (Rk.mk [.s w]) := ⟨t3, [u], rfl, AQ, by show 1 ≤ sizeLine; decide, .cons (show RelSI u (.s w) from r3) .nil⟩
  refine Ef (K := K) (RR := fun _ _ _ _ => False) (iw_tup (ev_def (m := mp) (av_cons (A5 rfl rv4) av_nil))) (as := ps.l) (by
   show ((some (a, ())).bind fun a => mp a).bind _ = _
   rw [Option.bind_some, hpm, hps]
   rfl) hres xt.gh fun G5 H5 x5 => ⟨fun s σ' G' H' => ∃ u pt ys, σ' = [some (.ref p), some (.ref q), some v, some u, pt] ∧ Ext G (era H [p, q]) G' H' ∧ Same G5 G' ∧ OwnB K G' H' p q ys s.1 ∧ Rp.rel K G' u (Rk.mk s.2) ∧ s.2 ≠ [], ?_⟩
  refine ⟨⟨_, _, _, rfl, xt.trans x5, Same.refl _, o4.ext x5, Rp.mono x5.gg rk, by simp⟩, ?_, ?_, ?_, fun _ _ _ _ _ h => h.elim⟩
  ·rintro s σ' G' H' ⟨u, pt, ys, rfl, x, m, _⟩
   exact ⟨m, x.gh⟩
  ·rintro x a' s1 _ G6 H6 fl - ⟨u', pt, ys, rfl, x6, m6, o6, ru, ne6⟩ ra hf D' kN - - -
   obtain ⟨z, hz, hf⟩ := Option.bind_eq_some_iff.mp hf
   obtain ⟨hle, hf⟩ := BN hf
   subst hf
   refine ⟨_, rfl, _, rfl, _, rfl, _, rfl, G6, p, q, x, ys, s1.1, a', z, rfl, x6.gh, o6, ra, hz, fun G7 H7 ys' y7 o7 => ?_⟩
   refine ⟨by show 1 ≤ sizeLine; decide, fun t8 ht8 => ?_⟩
   have x8 : Ext G7 H7 (upd G7 t8 (.tup [.int z.2])) (upd H7 t8 (.tup [.int z.2])) := .new y7.gh ht8
   have xt7 := x6.past z0 y7
   obtain ⟨tu, us, rfl, hu, hzu, pu⟩ := Rp.mono x8.gg (Rp.mono y7.gg ru)
   have lu := Paired.length pu
   have lne : us ≠ [] := fun z => ne6 (List.length_eq_zero_iff.mp (by rw [← lu, z]; rfl))
   refine ⟨tu, t8, us, [.int z.2], rfl, rfl, SqT.of (x8.gh _ _ hu), SqT.of AQ, by rw [lu]; exact hle, (fun z => absurd z lne), (fun z => nomatch z), fun t9 ht9 => ?_⟩
   have x9 : Ext (upd G7 t8 (.tup [.int z.2])) (upd H7 t8 (.tup [.int z.2])) (upd (upd G7 t8 (.tup [.int z.2])) t9 (.tup (us ++ [.int z.2]))) (upd (upd H7 t8 (.tup [.int z.2])) t9 (.tup (us ++ [.int z.2]))) := .new x8.gh ht9
   refine kN (z.1, s1.2 ++ [.i z.2]) _ _ _ rfl ⟨_, _, ys', rfl, (xt7.trans x8).trans x9, m6.trans (y7.gg.trans (x8.gg.trans x9.gg)), (o7.ext x8).ext x9, ⟨t9, us ++ [.int z.2], rfl, AQ, ?_, ?_⟩, by simp⟩
   ·rw [List.length_append, List.length_singleton, lu]
    exact hle
   ·exact Paired.app (Paired.imp' (fun _ _ r => Rp.mono x9.gg r) pu) (.cons rfl .nil)
  ·rintro s1 _ G6 H6 rfl ⟨u', pt, ys, rfl, x6, m6, o6, ru, ne6⟩
   replace hm : DH s1.1 ⟨s1.2⟩ = some r := hm
   exact ⟨_, rfl, _, rfl, _, rfl, G6, p, q, _, ys, s1.1, ⟨s1.2⟩, r, rfl, x6.gh, o6, ru, hm, fun G7 H7 xs' y o' => k G7 H7 xs' (x6.past z0 y) o'⟩
noncomputable def FH (lay : List (Tp SI) → Nt → Option (List (Tp SI) × Int)) : List Nt → List (Tp SI) → Option (List (Tp SI) × List Int)
 | [], rows => some (rows, [])
 | a :: r, rows => (lay rows a).bind fun z => (FH lay r z.1).bind fun y => some (y.1, z.2 :: y.2)
theorem book_bodyG {β : Type} [Rp β] (f : Tp SI → β) (hf : ∀ {G : Hp} {xs : List V} {rows : List (Tp SI)}, Paired (Rp.rel K G) xs rows → Paired (Rp.rel K G) xs (rows.map Rk.of) → Paired (Rp.rel K G) xs (rows.map f)) {lay : List (Tp SI) → Nt → Option (List (Tp SI) × Int)} {v : V} {as : List Nt} {r : List (Tp SI) × List Int} (s : Same G H) (rv : Rp.rel K G v as) (hm : FH lay as [] = some r)
  (k : ∀ v p q vs ws G2 H2, Ext G H G2 H2 → H p = none → H q = none → Own2 K G2 H2 v p q vs ws (r.1.map f, r.2) → D.rt v H2) :
  CK (FJ (tLst C0) (D2 1)) (CK (FJ tDNewT (D2 2))
   (CK (FJ (tComp [1, 2] (GU K (Bc 0)) tYes (Dv (spB K lay) [] E0 (Ag (Bc 1) (Ag (Bc 2) (Ag (Bc 0) C0))))) (D2 3))
   (CK (tRet (tTup (Ag (Bc 1) (Ag (Bc 3) C0)))) C9))) D [some v, none, none, none] H := by
 refine ⟨by show 0 ≤ sizeLine; decide, fun p hp q hq => ?_⟩
 have npq : p ≠ q := fun z => by
  rw [z] at hq
  rw [AQ] at hq
  cases hq
 have hq0 : H q = none := by rwa [Ao (Ne.symm npq)] at hq
 have x1 : Ext G H G (upd (upd H p (.lst [])) q (.dT [])) := ((Ext.refl s).put hp (s.free hp)).put hq0 (s.free hq0)
 have o1 : OwnB K G (upd (upd H p (.lst [])) q (.dT [])) p q [] [] := ⟨⟨rfl, s.free hp, by rw [Ao npq]; exact AQ, Nat.zero_le _, .nil⟩, npq, s.free hq0, AQ, .nil⟩
 dsimp only [D2, CK, FJ, List.set]
 show tComp [1, 2] (GU K (Bc 0)) tYes (Dv (spB K lay) [] E0 (Ag (Bc 1) (Ag (Bc 2) (Ag (Bc 0) C0)))) [some v, some (.ref p), some (.ref q), none] (upd (upd H p (.lst [])) q (.dT [])) _
 refine (show IW K (GU K (Bc 0)) [some v, some (.ref p), some (.ref q), none] G (some as) from Dn (A5 rfl rv)) G (.refl G) as rfl _ x1.gh _ fun J vs Ga Ha xa Y hz pr => ?_
 intro l hl
 have oa := o1.ext xa
 have xt := x1.trans xa
 have nlp : p ≠ l := fun z => by
  rw [← z, oa.l.h] at hl
  cases hl
 have nlq : q ≠ l := fun z => by
  rw [← z, oa.h] at hl
  cases hl
 have hl0 : H l = none := xt.hh.free hl
 have hla := Paired.length pr
 have zpq : ∀ b ∈ [p, q], H b = none := fun b hb => by
  rcases List.mem_cons.mp hb with e | hb
  ·rw [e]; exact hp
  ·rw [List.mem_singleton.mp hb]; exact hq0
 refine ⟨fun i m ys H2 => m = vs.length - i ∧ i ≤ vs.length ∧ ∃ G2 xs rows ns cs, Ext G H G2 H2 ∧ Same Ga G2 ∧ OwnB K G2 H2 p q xs rows ∧ G2 l = none ∧ H2 l = some (.lst ys) ∧ ys = ns.map V.int ∧ ys.length ≤ i ∧ FH lay (as.drop i) rows = some (r.1, cs) ∧ r.2 = ns ++ cs,
  ⟨vs.length, by simp, Nat.zero_le _, Ga, [], [], [], r.2, xt.trans (.own xa.gh hl), Same.refl _, oa.put nlp nlq, xa.gh.free hl, AQ, rfl, Nat.le_refl _, hm, rfl⟩, ?_⟩
 rintro i m ys H2 ⟨rfl, hi, G2, xs, rows, ns, cs, x2, m2, o2, hg, hh, hys, hy, hcs, hr⟩
 by_cases hlt : i < vs.length
 ·refine .inr ⟨Y.go i _ (m2.trans x2.gh) hlt, fun ys' H' => ∃ G2 xs rows ns cs, Ext G H G2 H' ∧ Same Ga G2 ∧ OwnB K G2 H' p q xs rows ∧ G2 l = none ∧ H' l = some (.lst ys') ∧ ys' = ns.map V.int ∧ ys'.length ≤ i + 1 ∧ FH lay (as.drop (i + 1)) rows = some (r.1, cs) ∧ r.2 = ns ++ cs,
   fun ys' H' h => ⟨vs.length - (i + 1), by omega, rfl, hlt, h⟩, fun x H3 y => ?_⟩
  obtain ⟨rfl, hx⟩ := Y.yld i _ x H3 (m2.trans x2.gh) hlt y
  obtain ⟨a, hai, ra⟩ := Paired.getR pr hx
  have hd : as.drop i = a :: as.drop (i + 1) := by
   obtain ⟨h1, h2⟩ := List.getElem?_eq_some_iff.mp hai
   rw [List.drop_eq_getElem_cons h1, h2]
  rw [hd] at hcs
  obtain ⟨z, hz', hcs⟩ := Option.bind_eq_some_iff.mp (show ((lay rows a).bind fun z => _) = some _ from hcs)
  obtain ⟨y', hy', hcs⟩ := Option.bind_eq_some_iff.mp hcs
  obtain ⟨e1, e2⟩ := Prod.mk.inj (Option.some.inj hcs)
  subst e2
  have hy2 : FH lay (as.drop (i + 1)) z.1 = some (r.1, y'.2) := by rw [hy', ← e1]
  dsimp only [tYes]
  rw [if_pos rfl]
  refine ⟨_, rfl, _, rfl, _, rfl, G2, p, q, x, xs, rows, a, z, rfl, x2.gh, o2, Rp.mono m2 ra, hz', fun G4 H4 xs' y4 o4 => ?_⟩
  have nin : l ∉ [p, q] := fun hb => by
   rcases List.mem_cons.mp hb with e | hb
   ·exact nlp e.symm
   ·exact nlq (List.mem_singleton.mp hb).symm
  have e2 : era H3 [p, q] l = some (.lst ys) := by rw [Do nin]; exact hh
  have hh4 := y4.hh _ _ e2
  have hg4 := y4.no l hg (by rw [e2]; exact fun z => nomatch z)
  have xt4 := x2.past zpq y4
  refine ⟨hh4, by omega, G4, xs', z.1, ns ++ [z.2], y'.2, xt4.put hl0 hg4, m2.trans y4.gg, o4.put nlp nlq, hg4, AQ, by rw [hys, List.map_append]; rfl, ?_, hy2, by rw [hr, List.append_assoc]; rfl⟩
  rw [List.length_append, List.length_singleton]
  omega
 ·have e : i = vs.length := by omega
  subst e
  have hd : as.drop vs.length = [] := List.drop_eq_nil_of_le (by omega)
  rw [hd] at hcs
  obtain ⟨e1, e2⟩ := Prod.mk.inj (Option.some.inj (show some (rows, ([] : List Int)) = some (r.1, cs) from hcs))
  rw [← e2, List.append_nil] at hr
  refine .inl ⟨Y.stop _ (m2.trans x2.gh), ?_⟩
  have ol : Own K G2 H2 (.ref l) l ys r.2 := ⟨rfl, hg, hh, by omega, by
   rw [hys, hr]
   clear hys hr hy hh e2
   induction ns with
   | nil => exact .nil
   | cons a t ih => exact .cons rfl ih⟩
  refine sv_retO2 (K := K) (rest := C9) rfl rfl (by rw [← e1]; exact ⟨o2.l.v, o2.l.g, o2.l.h, o2.l.z, hf o2.l.p o2.t⟩ : Own K G2 H2 (.ref p) p xs (r.1.map f)) ol nlp x2.gh fun v G5 H5 x5 o5 => ?_
  exact k v p l xs ys G5 H5 (x2.trans x5) hp hl0 o5
noncomputable def booksR (lay : List (Tp SI) → Nt → Option (List (Tp SI) × Int)) (as : List Nt) : Option (List Rk × List Int) := (FH lay as []).bind fun r => some (r.1.map Rk.of, r.2)
theorem book_bodyR {lay : List (Tp SI) → Nt → Option (List (Tp SI) × Int)} {v : V} {as : List Nt} {r : List Rk × List Int} (s : Same G H) (rv : Rp.rel K G v as) (hm : booksR lay as = some r)
  (k : ∀ v p q vs ws G2 H2, Ext G H G2 H2 → H p = none → H q = none → Own2 K G2 H2 v p q vs ws r → D.rt v H2) :
  CK (FJ (tLst C0) (D2 1)) (CK (FJ tDNewT (D2 2))
   (CK (FJ (tComp [1, 2] (GU K (Bc 0)) tYes (Dv (spB K lay) [] E0 (Ag (Bc 1) (Ag (Bc 2) (Ag (Bc 0) C0))))) (D2 3))
   (CK (tRet (tTup (Ag (Bc 1) (Ag (Bc 3) C0)))) C9))) D [some v, none, none, none] H := by
 obtain ⟨r0, h0, e⟩ := Option.bind_eq_some_iff.mp hm
 cases e
 exact book_bodyG Rk.of (fun _ h => h) s rv h0 k
end
section
variable {K : PySem.W.Frag} {σ : St} {G H : Hp} {α B A : Type} [Rp α] [Rp B] [RpA A] {rest : TS} {D : Ends} {i : Nat} {as : List α} {v : V} {p : Addr} {vs : List V}
end
section
variable {K : PySem.W.Frag} {σ : St} {G : Hp} {α : Type} [Rp α] {ta : TE}
end
section
variable {prog : Program} {w : World} {A : Around} {E : Value → Shared → Prop} {s : Shared}
end
section
variable {K : PySem.W.Frag} {σ : St} {G : Hp} {α : Type} [Rp α] {ta tb : TE}
end
section
variable {prog : Program} {w : World} {A : Around} {E : Value → Shared → Prop} {s : Shared}
noncomputable def b01 (b : Bool) : Int := if b then 1 else 0
theorem sub_bool {M : Model} {b : Bool} {Q : Option Int → Shared → Prop} (h : Q (some (b01 b)) s) : wpAny M A (Builtin.List.listSubscript? (.bool b)) Q E s := by
 unfold Builtin.List.listSubscript?
 refine wpAny_bind (wpAny_specialOf (T := "bool") rfl PySem.F.slot_bool_index.lookup ?_)
 show wpAny M A (asIndex (.bool b) >>= _) Q E s
 refine wpAny_bind (wpAny_of_eq (a := b01 b) (by cases b <;> rfl) ?_)
 show wpAny M A (if (!Builtin.List.listFitsIndex (b01 b)) = true then _ else _) Q E s
 rw [if_neg (by cases b <;> decide)]
 exact wpAny_pure h
theorem getItem_listB {l : Addr} {items : Array Value} {b : Bool} {x : Value} {Q : Value → Shared → Prop} (hl : s.heap.IsList l items)
  (hx : items[(b01 b).toNat]? = some x) (h : Q x s) : wpAny (model prog w) A (getItem (.ref l) (.bool b)) Q E s := by
 obtain ⟨o, ho, hc, ne, hd⟩ := id hl
 unfold getItem
 try with_reducible refine wpAny_holding ?_
 first | refine wpAny_bind (wpAny_pure ?_) | skip
 refine wpAny_bind (wpAny_sequenceKey hl.typeIs (by decide) ?_)
 refine wpAny_bind (wpAny_callSpecial?_slot (name := Str.ofString "__getitem__") hl.typeIs slot_list_getitem
  (wpAny_call_entry slot_list_getitem hl.typeIs entry_list_getitem ?_ (args_list_getitem _ _)))
 show wpAny _ _ (Builtin.List.listSubscript? (.bool b) >>= _) _ _ s
 refine wpAny_bind (sub_bool ?_)
 have h0 : 0 ≤ b01 b := by cases b <;> decide
 generalize b01 b = k at hx h0 ⊢
 obtain ⟨j, rfl⟩ := Int.eq_ofNat_of_zero_le h0
 have hx' : items[j]? = some x := hx
 show wpAny _ _ ((seqItemAt l j >>= fun r => pure (r.map (j, ·))) >>= _) _ _ s
 refine wpAny_bind (wpAny_bind (wpAny_seqItemAt ho hd (wpAny_pure ?_)))
 rw [hx']
 first
  | exact wpAny_bind (wpAny_pure (wpAny_pure ⟨x, rfl, wpAny_pure h⟩))
  | exact wpAny_pure ⟨x, rfl, wpAny_pure h⟩
end
noncomputable def rAtB (K : PySem.W.Frag) : R2 := fun x y H Q => ∃ p xs b v, x = .ref p ∧ y = .bl b ∧ SqL K H p xs ∧ xs[(b01 b).toNat]? = some v ∧ Q v H
theorem ix_bool {X : Cx} {K : PySem.W.Frag} (hK : X.K = K) : IxR X (rAtB K) := by
 subst hK
 intro value slice pins s σ H x y v u Q I rx ry h hs
 obtain ⟨p, xs, b, z, rfl, rfl, hq, he, q⟩ := h
 cases rx
 cases ry
 obtain ⟨its, r, pl, hz⟩ := I.list hq
 obtain ⟨w, ew, rw'⟩ := r.get he
 exact subscriptTail_builtinR (x := w) pl.isList.typeIs slot_list_getitem.lookup (getItem_listB (Q := fun r s' => r = w ∧ EP X pins σ Q r s') pl.isList (by simpa using ew) ⟨rfl, z, H, I, rw', q⟩) hs
section
variable {K : PySem.W.Frag} {σ : St} {G : Hp} {α : Type} [Rp α] {ta tb : TE}
theorem ev_atB {la : Option (List α)} {ib : Option Bool} (ea : EV K ta σ G la) (eb : EV K tb σ G ib) : EV K (tOp (rAtB K) ta tb) σ G (la.bind fun a => ib.bind fun b => a[(b01 b).toNat]?) :=
 CA (fun s ra rb e Q k => by
  obtain ⟨l, xs, rfl, h, z, p⟩ := ra; cases rb
  have hlt := (List.getElem?_eq_some_iff.mp e).1
  rw [← Paired.length p] at hlt
  exact ⟨_, xs, _, _, rfl, rfl, .inl (s.rd h), List.getElem?_eq_getElem hlt, k _ _ _ (.refl s) (Paired.at' p (List.getElem?_eq_getElem hlt) e)⟩) ea eb
end
section
variable {K : PySem.W.Frag} {σ : St} {G : Hp} {ta tb : TE}
end
theorem Rk.eq {a b : Rk} (e : a.tp = b.tp) : a = b := by
 cases a
 cases b
 cases e
 rfl
noncomputable instance rkDec : DecidableEq Rk := fun a b => if h : a.l = b.l then .isTrue (by cases a; cases b; cases h; rfl) else .isFalse fun e => h (by rw [e])
theorem EqTy.pull {K : PySem.W.Frag} {k : Nat} {α β : Type} [DecidableEq α] [DecidableEq β] {R : Hp → V → β → Prop} (f : α → β) (inj : ∀ a b, f a = f b → a = b) (E : EqTy K k R) : EqTy K k (fun H v a => R H v (f a)) := by
 have d : ∀ a b : α, decide (f a = f b) = decide (a = b) := fun a b => decide_eq_decide.mpr ⟨inj a b, fun e => by rw [e]⟩
 refine ⟨fun hK I a b => inj _ _ (E.fn hK I a b), ?_, ?_⟩
 ·intro X pins σ H s x y u v a b A hK I hu r1 r2 h1 h2
  rw [← d]
  exact E.eq A hK I hu r1 r2 h1 h2
 ·intro X pins σ H s x y u v a b A hK I hu r1 r2 h1 h2
  rw [← d]
  exact E.rc A hK I hu r1 r2 h1 h2
noncomputable instance reRk : RpE Rk := ⟨1, fun K => ((eqTp (K := K) (eqSI (K := K))).pull Rk.tp fun _ _ => Rk.eq).imp fun _ _ _ ⟨l, xs, e, h, _, p⟩ => ⟨l, xs, e, SqT.of h, p⟩⟩
theorem sis_keep {K : PySem.W.Frag} {H H' : Hp} : ∀ {xs : List V} {l : List SI}, Paired (Rp.rel K H) xs l → Paired (Rp.rel K H') xs l
 | _, _, .nil => .nil
 | _, _, .cons (b := .s x) h t => .cons h (sis_keep t)
 | _, _, .cons (b := .i n) h t => .cons h (sis_keep t)
noncomputable instance imRk : Imm Rk := ⟨fun s ⟨t, xs, e, h, z, p⟩ => ⟨t, xs, e, s.eq _ _ h, z, sis_keep p⟩⟩
noncomputable def siN : SI → Nt
 | .s x => .txt x
 | .i n => .int n
theorem siN_rel {K : PySem.W.Frag} {H : Hp} {v : V} : ∀ {a : SI}, Rp.rel K H v a → Rp.rel K H v (siN a)
 | .s x, ⟨e, z⟩ => by subst e; exact .txt x z
 | .i n, e => by
  have e : v = .int n := e
  subst e
  exact .int n
theorem siNs_rel {K : PySem.W.Frag} {H : Hp} : ∀ {xs : List V} {l : List SI}, Paired (Rp.rel K H) xs l → Paired (Rp.rel K H) xs (l.map siN)
 | _, _, .nil => .nil
 | _, _, .cons h t => .cons (siN_rel h) (siNs_rel t)
noncomputable instance tdSI : ToD SI := ⟨fun a => ToD.to (siN a), fun h => ToD.rel (siN_rel h)⟩
noncomputable def Rk.nt (r : Rk) : Nt := .tup (r.l.map siN)
section
variable {K : PySem.W.Frag} {σ : St} {G : Hp} {te ta tb : TE}
theorem CB {m : Option Rk} (e : EV K te σ G m) : EV K te σ G (m.bind fun r => some r.tp) := by
 intro G1 s1 c hc H sH Q k
 obtain ⟨x, hx, hc⟩ := Option.bind_eq_some_iff.mp hc
 cases hc
 exact e G1 s1 x hx H sH Q fun v G2 H2 x2 r => k v G2 H2 x2 (Rk.rel r)
theorem ev_rkN {m : Option Rk} (e : EV K te σ G m) : EV K te σ G (m.bind fun r => some r.nt) := by
 intro G1 s1 c hc H sH Q k
 obtain ⟨x, hx, hc⟩ := Option.bind_eq_some_iff.mp hc
 cases hc
 exact e G1 s1 x hx H sH Q fun v G2 H2 x2 ⟨t, xs, e, h, z, p⟩ => k v G2 H2 x2 (by subst e; exact .tup (SqT.of h) z (relNs_of (siNs_rel p)) fun _ => h)
end
section
variable {K : PySem.W.Frag} {σ : St} {G : Hp} {te ta : TE}
end
noncomputable instance rtRk : RpT Rk := ⟨"tuple", fun h => by obtain ⟨l, xs, rfl, h, _⟩ := h; exact .tup (SqT.of h)⟩
end L2
namespace My
open PySem PySem.Spec PyProof.Rows L2
noncomputable def CU (BZ : Int) : Option Str :=
 (some ("abcdefghijklmnopqrstuvwxyz" : Str)).bind fun some_here_ =>
 (some (BZ % (23 : Int))).bind fun at_ =>
 (some (Txt.slice some_here_ (some at_) (some ((at_ + (1 : Int)) + ((BZ / (23 : Int)) % (4 : Int)))))).bind fun letters_here_ =>
 (some (decide (((BZ / (92 : Int)) % (2 : Int)) = (1 : Int)))).bind fun b19 => (cond b19
  ((((some letters_here_).bind fun t30 => (some (0 : Int)).bind fun t31 => (atI t30.cps.toList t31).bind fun z => some (⟨#[z]⟩ : Str)).bind fun t37 => ((some some_here_).bind fun t35 => (((some (BZ / (184 : Int))).bind fun t32 => (some ((23 : Int) - at_)).bind fun t33 => modO t32 t33).bind fun t34 => (some ((at_ + (3 : Int)) + t34))).bind fun t36 => (atI t35.cps.toList t36).bind fun z => some (⟨#[z]⟩ : Str)).bind fun t38 => catS t37 t38).bind fun letters_here_ =>
  some letters_here_)
  (some letters_here_)).bind fun s24 =>
 (some s24)
noncomputable abbrev DT (x : Int × Unit) : Option Str := CU x.1
noncomputable def DE (CN : Int) (letters_here_ : Str) : Option Nt :=
 (some (decide ((CN % (9 : Int)) = (0 : Int)))).bind fun b1 => cond b1
  ((some (Nt.tup [(Nt.txt ("yes" : Str))])))
  ((some (decide ((CN % (9 : Int)) = (1 : Int)))).bind fun b11 => cond b11
   ((some (Nt.tup [(Nt.txt ("no" : Str))])))
   (((((((some letters_here_).bind fun t23 => ((some (CN / (9 : Int))).bind fun t21 => (some (letters_here_.length : Int)).bind fun t22 => modO t21 t22).bind fun t24 => (atI t23.cps.toList t24).bind fun z => some (⟨#[z]⟩ : Str)).bind fun t25 => (some (Nt.txt t25))).bind fun t26 => (some [t26])).bind fun t27 => (some ((Nt.txt ("lamp" : Str)) :: t27))).bind fun t28 => (some (Nt.tup t28)))))
noncomputable abbrev DI (x : Int × Str × Unit) : Option Nt := DE x.1 x.2.1
noncomputable def EH (stack_ : (List Nt)) (Cn : (List Int)) (BZ : Int) (EW : Int) (letters_here_ : Str) : Option ((List Nt) × (List Int)) :=
 (some (BZ % (16 : Int))).bind fun kind_ =>
 (some ((decide (kind_ < (6 : Int))) && (decide ((0 : Int) < (stack_.length : Int))))).bind fun b7 => (cond b7
  (((((some Cn).bind fun t22 => (some (0 : Int)).bind fun t23 => atI t22 t23).bind fun t24 => (some (t24 + (stack_.length : Int)))).bind fun t25 => (some (decide (t25 ≤ EW)))).bind fun b26 => cond b26
   ((GN stack_).bind fun pr31 => ((((some [(Nt.txt ("not" : Str)), (Nt.txt ("next" : Str)), (Nt.txt ("atlast" : Str)), (Nt.txt ("always" : Str)), (Nt.txt ("again" : Str)), (Nt.txt ("settles" : Str))]).bind fun t42 => (some kind_).bind fun t43 => atI t42 t43).bind fun t44 => (some [t44, pr31.1])).bind fun t45 => (some (Nt.tup t45))).bind fun a33 => (Ej pr31.2 a33).bind fun z35 =>
   (((some Cn).bind fun t49 => (some (0 : Int)).bind fun t50 => atI t49 t50).bind fun t51 => (some (t51 + (1 : Int)))).bind fun a52 => (some (0 : Int)).bind fun k54 => (setO Cn k54 a52).bind fun z63 =>
   some (z35, z63))
   (some (stack_, Cn)))
  ((((some (5 : Int)).bind fun t70 => (some kind_).bind fun t71 => cond (decide (t70 < t71)) ((some (11 : Int)).bind fun t72 => some (decide (t71 < t72))) (some false)).bind fun t73 => cond t73 (some (decide ((1 : Int) < (stack_.length : Int)))) (some false)).bind fun b74 => cond b74
   ((GN stack_).bind fun pr79 =>
   (GN pr79.2).bind fun pr84 => ((((some [(Nt.txt ("and" : Str)), (Nt.txt ("until" : Str)), (Nt.txt ("or" : Str)), (Nt.txt ("then" : Str)), (Nt.txt ("frees" : Str))]).bind fun t95 => (some (kind_ - (6 : Int))).bind fun t96 => atI t95 t96).bind fun t97 => (some [t97, pr84.1, pr79.1])).bind fun t98 => (some (Nt.tup t98))).bind fun a86 => (Ej pr84.2 a86).bind fun z88 =>
   (((some Cn).bind fun t102 => (some (0 : Int)).bind fun t103 => atI t102 t103).bind fun t104 => (some (t104 + (1 : Int)))).bind fun a105 => (some (0 : Int)).bind fun k107 => (setO Cn k107 a105).bind fun z116 =>
   some (z88, z116))
   ((((((some Cn).bind fun t122 => (some (0 : Int)).bind fun t123 => atI t122 t123).bind fun t124 => (some (t124 + (stack_.length : Int)))).bind fun t125 => (some (t125 + (1 : Int)))).bind fun t126 => (some (decide (t126 ≤ EW)))).bind fun b127 => cond b127
    (((some (BZ / (16 : Int))).bind fun t132 => (some letters_here_).bind fun t133 => DE t132 t133).bind fun a134 => (Ej stack_ a134).bind fun z142 =>
    (((some Cn).bind fun t146 => (some (0 : Int)).bind fun t147 => atI t146 t147).bind fun t148 => (some (t148 + (1 : Int)))).bind fun a149 => (some (0 : Int)).bind fun k151 => (setO Cn k151 a149).bind fun z160 =>
    some (z142, z160))
    (some (stack_, Cn))))).bind fun s12 =>
 some (s12.1, s12.2)
noncomputable abbrev En (stack_ : (List Nt)) (Cn : (List Int)) (x : Int × Int × Str × Unit) : Option ((List Nt) × (List Int)) := EH stack_ Cn x.1 x.2.1 x.2.2.1
noncomputable def DJ (EU : (List Int)) (EW : Int) (letters_here_ : Str) : Option Nt :=
 (some ([] : List Nt)).bind fun stack_ =>
 (some [(0 : Int)]).bind fun Cn =>
 (some EU).bind fun as17 => (EA (S := ((List Nt) × (List Int))) (ρ := Nt) (fun (BZ : Int) s24 =>
   ((some BZ).bind fun t41 => ((some EW).bind fun t39 => ((some letters_here_).bind fun t37 => (some ()).bind fun t38 => some (t37, t38)).bind fun t40 => some (t39, t40)).bind fun t42 => some (t41, t42)).bind fun ca43 => (EH s24.1 s24.2 ca43.1 ca43.2.1 ca43.2.2.1).bind fun rz45 =>
   some (Fl.nx (rz45.1, rz45.2))) as17 (stack_, Cn)).bind fun fl19 => match fl19 with
  | .nx s24 =>
   (some (decide ((s24.1.length : Int) = (0 : Int)))).bind fun b61 => (cond b61
    (((some EW).bind fun t70 => (some letters_here_).bind fun t71 => DE t70 t71).bind fun a72 => (Ej s24.1 a72).bind fun z80 =>
    some z80)
    (some s24.1)).bind fun s66 =>
   (FN (S := ((List Nt))) (ρ := Nt) (fun s86 => (some (decide ((1 : Int) < (s86.length : Int))))) (fun s86 =>
     (GN s86).bind fun pr101 =>
     (GN pr101.2).bind fun pr106 => ((((some [(Nt.txt ("until" : Str)), (Nt.txt ("or" : Str)), (Nt.txt ("frees" : Str)), (Nt.txt ("and" : Str)), (Nt.txt ("then" : Str))]).bind fun t119 => (some ((pr101.2.length : Int) % (5 : Int))).bind fun t120 => atI t119 t120).bind fun t121 => (some [t121, pr106.1, pr101.1])).bind fun t122 => (some (Nt.tup t122))).bind fun a108 => (Ej pr106.2 a108).bind fun z110 =>
     some (Fl.nx z110)) fuelW s66).bind fun fl84 => match fl84 with
    | .nx s86 =>
     ((some s86).bind fun t130 => (some (0 : Int)).bind fun t131 => atI t130 t131)
    | .rt r => some r
    | .bk _ => none
  | .rt r => some r
  | .bk _ => none
noncomputable abbrev EC (x : (List Int) × Int × Str × Unit) : Option Nt := DJ x.1 x.2.1 x.2.2.1
noncomputable def Ay (script_ : Scr) (k_ : Int) : Option Int :=
 (some (decide (k_ < (script_.l.length : Int)))).bind fun b1 => cond b1
  (((some script_).bind fun t6 => (some k_).bind fun t7 => atI t6.l t7))
  ((some (0 : Int)))
noncomputable abbrev Au (x : Scr × Int × Unit) : Option Int := Ay x.1 x.2.1
noncomputable def CM (BZ : Int) (Bm : Int) : Option (List Int) :=
 (some ([] : List Int)).bind fun numbers_ =>
 (some ((BZ % (2147483647 : Int)) + (48271 : Int))).bind fun CN =>
 ((some Bm).bind fun t15 => Ec 0 t15).bind fun as16 => (EA (S := ((List Int) × Int)) (ρ := (List Int)) (fun (k_ : Int) s23 =>
   (((((some s23.2).bind fun t38 => (some s23.2).bind fun t39 => mulO t38 t39).bind fun t40 => (some (t40 + ((48271 : Int) * s23.2)))).bind fun t41 => (some (t41 + k_))).bind fun t42 => (some (t42 % (2147483647 : Int)))).bind fun CN =>
   (some CN).bind fun a49 => (Ej s23.1 a49).bind fun z57 =>
   some (Fl.nx (z57, CN))) as16 (numbers_, CN)).bind fun fl18 => match fl18 with
  | .nx s23 =>
   (some s23.1)
  | .rt r => some r
  | .bk _ => none
noncomputable abbrev CY (x : Int × Int × Unit) : Option (List Int) := CM x.1 x.2.1
noncomputable def DO (script_ : Scr) (Fo : Int) : Option (List Int) :=
 ((some script_).bind fun t1 => (some Fo).bind fun t2 => Ay t1 t2).bind fun BZ =>
 (some (decide ((BZ % (2 : Int)) = (0 : Int)))).bind fun b9 => cond b9
  (((some script_).bind fun t14 => (some (some (Fo + (1 : Int)))).bind fun t15 => (some (some (Fo + (15 : Int)))).bind fun t16 => cutX t14 t15 t16))
  ((((some script_).bind fun t22 => (some (Fo + (1 : Int))).bind fun t23 => Ay t22 t23).bind fun t24 => (some ((4 : Int) + ((BZ / (2 : Int)) % (24 : Int)))).bind fun t25 => CM t24 t25))
noncomputable abbrev E5 (x : Scr × Int × Unit) : Option (List Int) := DO x.1 x.2.1
noncomputable def Di (script_ : Scr) (letters_here_ : Str) : Option (List Nt) :=
 (some ([] : List Nt)).bind fun some_here_ =>
 (((((some script_).bind fun t9 => (some (0 : Int)).bind fun t10 => Ay t9 t10).bind fun t11 => (some (t11 % (3 : Int)))).bind fun t12 => (some ((1 : Int) + t12))).bind fun t13 => Ec 0 t13).bind fun as14 => (EA (S := ((List Nt))) (ρ := (List Nt)) (fun (k_ : Int) s21 =>
   ((((some script_).bind fun t35 => (some ((3 : Int) + k_)).bind fun t36 => Ay t35 t36).bind fun t37 => (some (t37 % (12 : Int)))).bind fun t38 => (some ((1 : Int) + t38))).bind fun EW =>
   (((some script_).bind fun t45 => (some ((6 : Int) + ((15 : Int) * k_))).bind fun t46 => DO t45 t46).bind fun t47 => (some EW).bind fun t48 => (some letters_here_).bind fun t49 => DJ t47 t48 t49).bind fun a50 => (Ej s21 a50).bind fun z58 =>
   some (Fl.nx z58)) as14 some_here_).bind fun fl16 => match fl16 with
  | .nx s21 =>
   ((some (decide ((1 : Int) < (s21.length : Int)))).bind fun t75 => cond t75 (((((some script_).bind fun t70 => (some (0 : Int)).bind fun t71 => Ay t70 t71).bind fun t72 => (some (t72 / (3 : Int)))).bind fun t73 => (some (t73 % (3 : Int)))).bind fun t74 => (some (decide (t74 = (0 : Int))))) (some false)).bind fun b76 => (cond b76
    (((some s21).bind fun t87 => (some (0 : Int)).bind fun t88 => atI t87 t88).bind fun a89 => (some (-(1 : Int))).bind fun k91 => (setO s21 k91 a89).bind fun z100 =>
    (((((((some z100).bind fun t130 => (some (0 : Int)).bind fun t131 => atI t130 t131).bind fun t132 => BF t132).bind fun t133 => (some (0 : Int)).bind fun t134 => atI t133.l t134).bind fun t135 => Bz t135).bind fun t136 => (some (!decide (t136 = ("lamp" : Str))))).bind fun t148 => cond t148 ((((((some z100).bind fun t137 => (some (0 : Int)).bind fun t138 => atI t137 t138).bind fun t139 => BF t139).bind fun t140 => (some (t140.l.length : Int))).bind fun t141 => (some (decide ((1 : Int) < t141)))).bind fun t147 => cond t147 (((((some script_).bind fun t142 => (some (0 : Int)).bind fun t143 => Ay t142 t143).bind fun t144 => (some (t144 / (9 : Int)))).bind fun t145 => (some (t145 % (2 : Int)))).bind fun t146 => (some (decide (t146 = (0 : Int))))) (some false)) (some false)).bind fun b149 => cond b149
     (((((some z100).bind fun t159 => (some (0 : Int)).bind fun t160 => atI t159 t160).bind fun t161 => BF t161).bind fun t162 => (some (-(1 : Int))).bind fun t163 => atI t162.l t163).bind fun a164 => (some (-(1 : Int))).bind fun k166 => (setO z100 k166 a164).bind fun z175 =>
     some z175)
     (some z100))
    (some s21)).bind fun s81 =>
   (some s81)
  | .rt r => some r
  | .bk _ => none
noncomputable abbrev EZ (x : Scr × Str × Unit) : Option (List Nt) := Di x.1 x.2.1
noncomputable def EI (BZ : Int) (Bm : Int) (letters_here_ : Str) : Option (List Str) :=
 ((some letters_here_).bind fun t3 => ((some [("" : Str), ("z" : Str)]).bind fun t1 => (some (BZ % (2 : Int))).bind fun t2 => atI t1 t2).bind fun t4 => catS t3 t4).bind fun some_here_ =>
 (some ([] : List Str)).bind fun lit_here_ =>
 ((some BZ).bind fun t19 => (some Bm).bind fun t20 => CM t19 t20).bind fun as21 => (EA (S := ((List Str))) (ρ := (List Str)) (fun (CN : Int) s28 =>
   ((some ("" : Str)).bind fun t53 => ((some (Dg some_here_)).bind fun t52 => Cd (fun (pc45 : (Int × Str)) => ((((some CN).bind fun t48 => ((some [(1 : Int), (3 : Int), (9 : Int), (27 : Int), (81 : Int)]).bind fun t46 => (some pc45.1).bind fun t47 => atI t46 t47).bind fun t49 => divO t48 t49).bind fun t50 => (some (t50 % (3 : Int)))).bind fun t51 => (some (decide (t51 = (1 : Int)))))) (fun (pc45 : (Int × Str)) => (some pc45.2)) (Du 0 t52)).bind fun t54 => GL t53 t54).bind fun a55 => (Ej s28 a55).bind fun z63 =>
   some (Fl.nx z63)) as21 lit_here_).bind fun fl23 => match fl23 with
  | .nx s28 =>
   (some s28)
  | .rt r => some r
  | .bk _ => none
noncomputable abbrev Ex (x : Int × Int × Str × Unit) : Option (List Str) := EI x.1 x.2.1 x.2.2.1
noncomputable def AZ (An : Nt) : Option (Tp Nt) :=
 (((((some An).bind fun t4 => BF t4).bind fun t5 => (some (0 : Int)).bind fun t6 => atI t5.l t6).bind fun t7 => Bz t7).bind fun t8 => (some (decide (t8 = ("lamp" : Str))))).bind fun b9 => cond b9
  ((some (Tp.mk ([] : List Nt))))
  ((((some An).bind fun t19 => BF t19).bind fun t20 => (some (some (1 : Int))).bind fun t21 => (some none).bind fun t22 => cutT? t20.l t21 t22))
noncomputable abbrev DM (x : Nt × Unit) : Option (Tp Nt) := AZ x.1
noncomputable def FZ (some_ : List Nt) : Option (List Rk × List Int) := booksR (EM AZ 160) some_
noncomputable abbrev Eu (x : List Nt × Unit) : Option (List Rk × List Int) := FZ x.1
noncomputable def CG (row_ : Rk) (k_ : Int) : Option Bool :=
 ((some (!true)).bind fun t7 => cond t7 (some true) ((((some row_.tp).bind fun t3 => (some (0 : Int)).bind fun t4 => atI t3.l t4).bind fun t5 => asS t5).bind fun t6 => (some (!decide (t6 ∈ [("yes" : Str), ("lamp" : Str), ("not" : Str), ("and" : Str), ("next" : Str), ("until" : Str)]))))).bind fun b8 => cond b8
  ((some false))
  ((((((some row_.tp).bind fun t20 => (some (0 : Int)).bind fun t21 => atI t20.l t21).bind fun t22 => asS t22).bind fun t23 => (some (decide (t23 = ("yes" : Str))))).bind fun t30 => cond t30 (some true) ((((some row_.tp).bind fun t26 => (some (0 : Int)).bind fun t27 => atI t26.l t27).bind fun t28 => asS t28).bind fun t29 => (some (decide (t29 = ("lamp" : Str)))))).bind fun b31 => cond b31
   (((some (row_.tp.l.length : Int)).bind fun t52 => ((some [(1 : Int), (2 : Int)]).bind fun t50 => ((((some row_.tp).bind fun t46 => (some (0 : Int)).bind fun t47 => atI t46.l t47).bind fun t48 => asS t48).bind fun t49 => (some (decide (t49 = ("lamp" : Str))))).bind fun t51 => t50[(b01 t51).toNat]?).bind fun t53 => some (decide (t52 = t53))))
   (((some (row_.tp.l.length : Int)).bind fun t89 => ((some [(2 : Int), (3 : Int)]).bind fun t87 => (((((some row_.tp).bind fun t76 => (some (0 : Int)).bind fun t77 => atI t76.l t77).bind fun t78 => asS t78).bind fun t79 => (some (decide (t79 = ("and" : Str))))).bind fun t86 => cond t86 (some true) ((((some row_.tp).bind fun t82 => (some (0 : Int)).bind fun t83 => atI t82.l t83).bind fun t84 => asS t84).bind fun t85 => (some (decide (t85 = ("until" : Str)))))).bind fun t88 => t87[(b01 t88).toNat]?).bind fun t90 => some (!decide (t89 = t90))).bind fun b91 => cond b91
    ((some false))
    (((((((some row_.tp).bind fun t101 => (some (some (1 : Int))).bind fun t102 => (some none).bind fun t103 => cutT? t101.l t102 t103).bind fun t104 => (some t104.l)).bind fun t115 => Cd (fun (DP : SI) => ((some (isK "int" (ToD.to DP))).bind fun t114 => cond t114 ((some (0 : Int)).bind fun t111 => ((some DP).bind fun t109 => asI t109).bind fun t112 => cond (decide (t111 ≤ t112)) ((some k_).bind fun t113 => some (decide (t112 < t113))) (some false)) (some false))) (fun (DP : SI) => (some DP)) t115).bind fun t116 => (some (t116.length : Int))).bind fun t117 => (some (decide (t117 = ((row_.tp.l.length : Int) - (1 : Int)))))))))
noncomputable abbrev DA (x : Rk × Int × Unit) : Option Bool := CG x.1 x.2.1
noncomputable def AH (B2 : Str) (one_ : (List Bool)) (Az : Int) : Option (List Bool) :=
 (some (one_.length : Int)).bind fun Bm =>
 (some (decide (B2 = ("not" : Str)))).bind fun b7 => cond b7
  ((((some Bm).bind fun t12 => Ec 0 t12).bind fun t20 => EJ (fun (k_ : Int) => (((some one_).bind fun t17 => (some k_).bind fun t18 => atI t17 t18).bind fun t19 => (some (!t19)))) t20))
  ((some (decide (B2 = ("next" : Str)))).bind fun b28 => cond b28
   (((some (Cf one_ (some (1 : Int)) none)).bind fun t36 => (((some one_).bind fun t33 => (some Az).bind fun t34 => atI t33 t34).bind fun t35 => (some [t35])).bind fun t37 => GV t36 t37))
   ((some (decide (B2 = ("atlast" : Str)))).bind fun b45 => cond b45
    ((((some Bm).bind fun t50 => Ec 0 t50).bind fun t58 => EJ (fun (k_ : Int) => (((some (Cf one_ (some k_) none)).bind fun t55 => (some (Cf one_ (some Az) none)).bind fun t56 => GV t55 t56).bind fun t57 => (some (t57.any id)))) t58))
    ((some (decide (B2 = ("always" : Str)))).bind fun b66 => cond b66
     ((((some Bm).bind fun t71 => Ec 0 t71).bind fun t79 => EJ (fun (k_ : Int) => (((some (Cf one_ (some k_) none)).bind fun t76 => (some (Cf one_ (some Az) none)).bind fun t77 => GV t76 t77).bind fun t78 => (some (t78.all id)))) t79))
     ((some (decide (B2 = ("again" : Str)))).bind fun b87 => cond b87
      (((some [((Cf one_ (some Az) none).any id)]).bind fun t92 => (some Bm).bind fun t93 => repL t92 t93))
      (((some [((Cf one_ (some Az) none).all id)]).bind fun t101 => (some Bm).bind fun t102 => repL t101 t102))))))
noncomputable abbrev BH (x : Str × (List Bool) × Int × Unit) : Option (List Bool) := AH x.1 x.2.1 x.2.2.1
noncomputable def Cj (one_ : (List Bool)) (Bv : (List Bool)) (Bl : (List Int)) : Option Bool :=
 (some Bl).bind fun as1 => (EA (S := Unit) (ρ := Bool) (fun (Cm : Int) s8 =>
   (((some Bv).bind fun t21 => (some Cm).bind fun t22 => atI t21 t22).bind fun t23 => (some (!t23))).bind fun b24 => cond b24
    ((some false).bind fun rr34 => some (Fl.rt rr34))
    (((some one_).bind fun t36 => (some Cm).bind fun t37 => atI t36 t37).bind fun b38 => cond b38
     ((some true).bind fun rr48 => some (Fl.rt rr48))
     (some (Fl.nx ())))) as1 ()).bind fun fl3 => match fl3 with
  | .nx s8 =>
   (some true)
  | .rt r => some r
  | .bk _ => none
noncomputable abbrev EB (x : (List Bool) × (List Bool) × (List Int) × Unit) : Option Bool := Cj x.1 x.2.1 x.2.2.1
noncomputable def BW (one_ : (List Bool)) (Bv : (List Bool)) (Bl : (List Int)) : Option Bool :=
 (some Bl).bind fun as1 => (EA (S := Unit) (ρ := Bool) (fun (Cm : Int) s8 =>
   ((some Bv).bind fun t21 => (some Cm).bind fun t22 => atI t21 t22).bind fun b23 => cond b23
    ((some true).bind fun rr33 => some (Fl.rt rr33))
    ((((some one_).bind fun t35 => (some Cm).bind fun t36 => atI t35 t36).bind fun t37 => (some (!t37))).bind fun b38 => cond b38
     ((some false).bind fun rr48 => some (Fl.rt rr48))
     (some (Fl.nx ())))) as1 ()).bind fun fl3 => match fl3 with
  | .nx s8 =>
   (some false)
  | .rt r => some r
  | .bk _ => none
noncomputable abbrev CZ (x : (List Bool) × (List Bool) × (List Int) × Unit) : Option Bool := BW x.1 x.2.1 x.2.2.1
noncomputable def Bi (Cm : Int) (Az : Int) (Bm : Int) : Option (List Int) :=
 (((some Cm).bind fun t1 => (some Bm).bind fun t2 => Ec t1 t2).bind fun t5 => ((some Az).bind fun t3 => (some Cm).bind fun t4 => Ec t3 t4).bind fun t6 => GV t5 t6)
noncomputable abbrev D7 (x : Int × Int × Int × Unit) : Option (List Int) := Bi x.1 x.2.1 x.2.2.1
noncomputable def AO (B2 : Str) (one_ : (List Bool)) (Bv : (List Bool)) (Az : Int) : Option (List Bool) :=
 (some (one_.length : Int)).bind fun Bm =>
 (some (decide (B2 = ("and" : Str)))).bind fun b7 => cond b7
  ((((some Bm).bind fun t12 => Ec 0 t12).bind fun t22 => EJ (fun (k_ : Int) => (((some one_).bind fun t17 => (some k_).bind fun t18 => atI t17 t18).bind fun t21 => cond t21 ((some Bv).bind fun t19 => (some k_).bind fun t20 => atI t19 t20) (some false))) t22))
  ((some (decide (B2 = ("or" : Str)))).bind fun b30 => cond b30
   ((((some Bm).bind fun t35 => Ec 0 t35).bind fun t45 => EJ (fun (k_ : Int) => (((some one_).bind fun t40 => (some k_).bind fun t41 => atI t40 t41).bind fun t44 => cond t44 (some true) ((some Bv).bind fun t42 => (some k_).bind fun t43 => atI t42 t43))) t45))
   ((some (decide (B2 = ("then" : Str)))).bind fun b53 => cond b53
    ((((some Bm).bind fun t58 => Ec 0 t58).bind fun t69 => EJ (fun (k_ : Int) => (((some Bv).bind fun t63 => (some k_).bind fun t64 => atI t63 t64).bind fun t68 => cond t68 (some true) (((some one_).bind fun t65 => (some k_).bind fun t66 => atI t65 t66).bind fun t67 => (some (!t67))))) t69))
    ((some (decide (B2 = ("until" : Str)))).bind fun b77 => cond b77
     ((((some Bm).bind fun t82 => Ec 0 t82).bind fun t93 => EJ (fun (k_ : Int) => ((some one_).bind fun t90 => (some Bv).bind fun t91 => ((some k_).bind fun t87 => (some Az).bind fun t88 => (some Bm).bind fun t89 => Bi t87 t88 t89).bind fun t92 => BW t90 t91 t92)) t93))
     ((((some Bm).bind fun t101 => Ec 0 t101).bind fun t112 => EJ (fun (k_ : Int) => ((some one_).bind fun t109 => (some Bv).bind fun t110 => ((some k_).bind fun t106 => (some Az).bind fun t107 => (some Bm).bind fun t108 => Bi t106 t107 t108).bind fun t111 => Cj t109 t110 t111)) t112)))))
noncomputable abbrev BG (x : Str × (List Bool) × (List Bool) × Int × Unit) : Option (List Bool) := AO x.1 x.2.1 x.2.2.1 x.2.2.2.1
noncomputable def B6 (self_ : Nt → (List Str) → Int → Option (List Bool)) (told_ : Nt) (lit_here_ : (List Str)) (Az : Int) : Option (List Bool) :=
 ((((some told_).bind fun t1 => BF t1).bind fun t2 => (some (0 : Int)).bind fun t3 => atI t2.l t3).bind fun t4 => Bz t4).bind fun B2 =>
 (some ((decide (B2 = ("yes" : Str))) || (decide (B2 = ("no" : Str))))).bind fun b11 => cond b11
  (((some [(decide (B2 = ("yes" : Str)))]).bind fun t16 => (some (lit_here_.length : Int)).bind fun t17 => repL t16 t17))
  ((some (decide (B2 = ("lamp" : Str)))).bind fun b25 => cond b25
   (((some lit_here_).bind fun t42 => EJ (fun (moment_ : Str) => (((((some told_).bind fun t37 => BF t37).bind fun t38 => (some (1 : Int)).bind fun t39 => atI t38.l t39).bind fun t40 => Bz t40).bind fun t41 => (some (inS t41 moment_)))) t42))
   (((((some told_).bind fun t50 => BF t50).bind fun t51 => (some (1 : Int)).bind fun t52 => atI t51.l t52).bind fun t53 => (some lit_here_).bind fun t54 => (some Az).bind fun t55 => self_ t53 t54 t55).bind fun one_ =>
   ((((some told_).bind fun t62 => BF t62).bind fun t63 => (some (t63.l.length : Int))).bind fun t64 => (some (decide (t64 = (2 : Int))))).bind fun b65 => cond b65
    (((some B2).bind fun t70 => (some one_).bind fun t71 => (some Az).bind fun t72 => AH t70 t71 t72))
    (((some B2).bind fun t86 => (some one_).bind fun t87 => ((((some told_).bind fun t80 => BF t80).bind fun t81 => (some (2 : Int)).bind fun t82 => atI t81.l t82).bind fun t83 => (some lit_here_).bind fun t84 => (some Az).bind fun t85 => self_ t83 t84 t85).bind fun t88 => (some Az).bind fun t89 => AO t86 t87 t88 t89))))
noncomputable def B7 : Nat → Nt → (List Str) → Int → Option (List Bool)
 | 0 => fun _ _ _ => none
 | n + 1 => fun told_ lit_here_ Az => B6 (B7 n) told_ lit_here_ Az
noncomputable abbrev BC (CT : Nat) (x : Nt × (List Str) × Int × Unit) : Option (List Bool) := B7 CT x.1 x.2.1 x.2.2.1
noncomputable def B5 (row_ : Rk) (ahead_of_ : (List (List Bool))) (lit_here_ : (List Str)) (Az : Int) : Option (List Bool) :=
 (((((some row_.tp).bind fun t3 => (some (0 : Int)).bind fun t4 => atI t3.l t4).bind fun t5 => asS t5).bind fun t6 => (some (decide (t6 = ("yes" : Str))))).bind fun t13 => cond t13 (some true) ((((some row_.tp).bind fun t9 => (some (0 : Int)).bind fun t10 => atI t9.l t10).bind fun t11 => asS t11).bind fun t12 => (some (decide (t12 = ("lamp" : Str)))))).bind fun b14 => cond b14
  (((some row_.nt).bind fun t19 => (some lit_here_).bind fun t20 => (some Az).bind fun t21 => B7 110 t19 t20 t21))
  ((((((some row_.tp).bind fun t31 => (some (0 : Int)).bind fun t32 => atI t31.l t32).bind fun t33 => asS t33).bind fun t34 => (some (decide (t34 = ("and" : Str))))).bind fun t41 => cond t41 (some true) ((((some row_.tp).bind fun t37 => (some (0 : Int)).bind fun t38 => atI t37.l t38).bind fun t39 => asS t39).bind fun t40 => (some (decide (t40 = ("until" : Str)))))).bind fun b42 => cond b42
   (((((some row_.tp).bind fun t47 => (some (0 : Int)).bind fun t48 => atI t47.l t48).bind fun t49 => asS t49).bind fun t60 => ((some ahead_of_).bind fun t53 => (((some row_.tp).bind fun t50 => (some (1 : Int)).bind fun t51 => atI t50.l t51).bind fun t52 => asI t52).bind fun t54 => atI t53 t54).bind fun t61 => ((some ahead_of_).bind fun t58 => (((some row_.tp).bind fun t55 => (some (2 : Int)).bind fun t56 => atI t55.l t56).bind fun t57 => asI t57).bind fun t59 => atI t58 t59).bind fun t62 => (some Az).bind fun t63 => AO t60 t61 t62 t63))
   (((((some row_.tp).bind fun t71 => (some (0 : Int)).bind fun t72 => atI t71.l t72).bind fun t73 => asS t73).bind fun t79 => ((some ahead_of_).bind fun t77 => (((some row_.tp).bind fun t74 => (some (1 : Int)).bind fun t75 => atI t74.l t75).bind fun t76 => asI t76).bind fun t78 => atI t77 t78).bind fun t80 => (some Az).bind fun t81 => AH t79 t80 t81)))
noncomputable abbrev DB (x : Rk × (List (List Bool)) × (List Str) × Int × Unit) : Option (List Bool) := B5 x.1 x.2.1 x.2.2.1 x.2.2.2.1
noncomputable def Be (rows_ : (List Rk)) (lit_here_ : (List Str)) (Az : Int) : Option (Option (List (List Bool))) :=
 (some ([] : List (List Bool))).bind fun told_ =>
 ((some (rows_.length : Int)).bind fun t9 => Ec 0 t9).bind fun as10 => (EA (S := ((List (List Bool)))) (ρ := (Option (List (List Bool)))) (fun (k_ : Int) s17 =>
   ((((some rows_).bind fun t30 => (some k_).bind fun t31 => atI t30 t31).bind fun t32 => (some k_).bind fun t33 => CG t32 t33).bind fun t34 => (some (!t34))).bind fun b35 => cond b35
    ((some none).bind fun rr45 => some (Fl.rt rr45))
    ((((some rows_).bind fun t53 => (some k_).bind fun t54 => atI t53 t54).bind fun t55 => (some s17).bind fun t56 => (some lit_here_).bind fun t57 => (some Az).bind fun t58 => B5 t55 t56 t57 t58).bind fun a59 => (Ej s17 a59).bind fun z67 =>
    some (Fl.nx z67))) as10 told_).bind fun fl12 => match fl12 with
  | .nx s17 =>
   (some (some s17))
  | .rt r => some r
  | .bk _ => none
noncomputable abbrev D0 (x : (List Rk) × (List Str) × Int × Unit) : Option (Option (List (List Bool))) := Be x.1 x.2.1 x.2.2.1
noncomputable def Bf (GI : Nt) : Option Nt :=
 (((((some GI).bind fun t4 => BF t4).bind fun t5 => (some (0 : Int)).bind fun t6 => atI t5.l t6).bind fun t7 => Bz t7).bind fun t8 => (some (decide (t8 = ("not" : Str))))).bind fun b9 => cond b9
  ((((some GI).bind fun t14 => BF t14).bind fun t15 => (some (1 : Int)).bind fun t16 => atI t15.l t16))
  ((some (Nt.tup [(Nt.txt ("not" : Str)), GI])))
noncomputable abbrev C1 (x : Nt × Unit) : Option Nt := Bf x.1
noncomputable def Bq (B2 : Str) (left_ : Nt) (Fj : Nt) : Option Nt :=
 (some (decide (B2 = ("or" : Str)))).bind fun b1 => cond b1
  (((((((((some left_).bind fun t6 => Bf t6).bind fun t9 => (((some Fj).bind fun t7 => Bf t7).bind fun t8 => (some [t8])).bind fun t10 => (some (t9 :: t10))).bind fun t11 => (some ((Nt.txt ("and" : Str)) :: t11))).bind fun t12 => (some (Nt.tup t12))).bind fun t13 => (some [t13])).bind fun t14 => (some ((Nt.txt ("not" : Str)) :: t14))).bind fun t15 => (some (Nt.tup t15))))
  ((some (decide (B2 = ("then" : Str)))).bind fun b21 => cond b21
   ((((((((((some Fj).bind fun t26 => Bf t26).bind fun t27 => (some [t27])).bind fun t28 => (some (left_ :: t28))).bind fun t29 => (some ((Nt.txt ("and" : Str)) :: t29))).bind fun t30 => (some (Nt.tup t30))).bind fun t31 => (some [t31])).bind fun t32 => (some ((Nt.txt ("not" : Str)) :: t32))).bind fun t33 => (some (Nt.tup t33))))
   ((some (decide (B2 = ("frees" : Str)))).bind fun b39 => cond b39
    (((((((((some left_).bind fun t44 => Bf t44).bind fun t47 => (((some Fj).bind fun t45 => Bf t45).bind fun t46 => (some [t46])).bind fun t48 => (some (t47 :: t48))).bind fun t49 => (some ((Nt.txt ("until" : Str)) :: t49))).bind fun t50 => (some (Nt.tup t50))).bind fun t51 => (some [t51])).bind fun t52 => (some ((Nt.txt ("not" : Str)) :: t52))).bind fun t53 => (some (Nt.tup t53))))
    ((some (Nt.tup [(Nt.txt B2), left_, Fj])))))
noncomputable abbrev Ca (x : Str × Nt × Nt × Unit) : Option Nt := Bq x.1 x.2.1 x.2.2.1
noncomputable def Br (B2 : Str) (FA : Nt) : Option Nt :=
 (some (decide (B2 = ("not" : Str)))).bind fun b1 => cond b1
  (((some FA).bind fun t6 => Bf t6))
  ((some (decide (B2 = ("next" : Str)))).bind fun b12 => cond b12
   ((some (Nt.tup [(Nt.txt ("next" : Str)), FA])))
   ((some (decide (B2 = ("atlast" : Str)))).bind fun b22 => cond b22
    ((some (Nt.tup [(Nt.txt ("until" : Str)), (Nt.tup [Nt.txt "yes"]), FA])))
    ((some (decide (B2 = ("always" : Str)))).bind fun b32 => cond b32
     ((((((((((some FA).bind fun t37 => Bf t37).bind fun t38 => (some [t38])).bind fun t39 => (some ((Nt.tup [Nt.txt "yes"]) :: t39))).bind fun t40 => (some ((Nt.txt ("until" : Str)) :: t40))).bind fun t41 => (some (Nt.tup t41))).bind fun t42 => (some [t42])).bind fun t43 => (some ((Nt.txt ("not" : Str)) :: t43))).bind fun t44 => (some (Nt.tup t44))))
     ((some (decide (B2 = ("again" : Str)))).bind fun b50 => cond b50
      ((some (Nt.tup [(Nt.txt ("not" : Str)), (Nt.tup [(Nt.txt ("until" : Str)), (Nt.tup [Nt.txt "yes"]), (Nt.tup [(Nt.txt ("not" : Str)), (Nt.tup [(Nt.txt ("until" : Str)), (Nt.tup [Nt.txt "yes"]), FA])])])])))
      ((((((((((((((some FA).bind fun t60 => Bf t60).bind fun t61 => (some [t61])).bind fun t62 => (some ((Nt.tup [Nt.txt "yes"]) :: t62))).bind fun t63 => (some ((Nt.txt ("until" : Str)) :: t63))).bind fun t64 => (some (Nt.tup t64))).bind fun t65 => (some [t65])).bind fun t66 => (some ((Nt.txt ("not" : Str)) :: t66))).bind fun t67 => (some (Nt.tup t67))).bind fun t68 => (some [t68])).bind fun t69 => (some ((Nt.tup [Nt.txt "yes"]) :: t69))).bind fun t70 => (some ((Nt.txt ("until" : Str)) :: t70))).bind fun t71 => (some (Nt.tup t71))))))))
noncomputable abbrev Ce (x : Str × Nt × Unit) : Option Nt := Br x.1 x.2.1
noncomputable def Db (self_ : Nt → Option Nt) (An : Nt) : Option Nt :=
 ((((some An).bind fun t1 => BF t1).bind fun t2 => (some (0 : Int)).bind fun t3 => atI t2.l t3).bind fun t4 => Bz t4).bind fun B2 =>
 (some (decide (B2 = ("no" : Str)))).bind fun b11 => cond b11
  ((some (Nt.tup [(Nt.txt ("not" : Str)), (Nt.tup [Nt.txt "yes"])])))
  ((some ((decide (B2 = ("yes" : Str))) || (decide (B2 = ("lamp" : Str))))).bind fun b21 => cond b21
   ((some An))
   (((((some An).bind fun t31 => BF t31).bind fun t32 => (some (t32.l.length : Int))).bind fun t33 => (some (decide (t33 = (2 : Int))))).bind fun b34 => cond b34
    (((some B2).bind fun t43 => ((((some An).bind fun t39 => BF t39).bind fun t40 => (some (1 : Int)).bind fun t41 => atI t40.l t41).bind fun t42 => self_ t42).bind fun t44 => Br t43 t44))
    (((some B2).bind fun t58 => ((((some An).bind fun t50 => BF t50).bind fun t51 => (some (1 : Int)).bind fun t52 => atI t51.l t52).bind fun t53 => self_ t53).bind fun t59 => ((((some An).bind fun t54 => BF t54).bind fun t55 => (some (2 : Int)).bind fun t56 => atI t55.l t56).bind fun t57 => self_ t57).bind fun t60 => Bq t58 t59 t60))))
noncomputable def E7 : Nat → Nt → Option Nt
 | 0 => fun _ => none
 | n + 1 => fun An => Db (E7 n) An
noncomputable abbrev D5 (CT : Nat) (x : Nt × Unit) : Option Nt := E7 CT x.1
noncomputable def DF (rows_ : (List Rk)) : Option Str :=
 ((some ("" : Str)).bind fun t29 => (((some rows_).bind fun t27 => Cd (fun (row_ : Rk) => ((((some row_.tp).bind fun t23 => (some (0 : Int)).bind fun t24 => atI t23.l t24).bind fun t25 => asS t25).bind fun t26 => (some (decide (t26 = ("lamp" : Str)))))) (fun (row_ : Rk) => (((some row_.tp).bind fun t18 => (some (1 : Int)).bind fun t19 => atI t18.l t19).bind fun t20 => asS t20)) t27).bind fun t28 => EN t28).bind fun t30 => GL t29 t30)
noncomputable abbrev ET (x : (List Rk) × Unit) : Option Str := DF x.1
noncomputable def Cu (An : Nt) : Option (List Nt) :=
 (some [An]).bind fun found_ =>
 (some (0 : Int)).bind fun Cm =>
 (FN (S := ((List Nt) × Int)) (ρ := (List Nt)) (fun s17 => (some (decide (s17.2 < (s17.1.length : Int))))) (fun s17 =>
   (((some s17.1).bind fun t36 => (some s17.2).bind fun t37 => atI t36 t37).bind fun t38 => AZ t38).bind fun a39 => (extO s17.1 a39.l).bind fun z47 =>
   (some (s17.2 + (1 : Int))).bind fun Cm =>
   some (Fl.nx (z47, Cm))) fuelW (found_, Cm)).bind fun fl15 => match fl15 with
  | .nx s17 =>
   (some s17.1)
  | .rt r => some r
  | .bk _ => none
noncomputable abbrev Dp (x : Nt × Unit) : Option (List Nt) := Cu x.1
noncomputable def Ck (An : Nt) : Option Str :=
 ((some ("" : Str)).bind fun t37 => ((((some An).bind fun t18 => Cu t18).bind fun t35 => Cd (fun (DP : Nt) => (((((some DP).bind fun t30 => BF t30).bind fun t31 => (some (0 : Int)).bind fun t32 => atI t31.l t32).bind fun t33 => Bz t33).bind fun t34 => (some (decide (t34 = ("lamp" : Str)))))) (fun (DP : Nt) => ((((some DP).bind fun t23 => BF t23).bind fun t24 => (some (1 : Int)).bind fun t25 => atI t24.l t25).bind fun t26 => Bz t26)) t35).bind fun t36 => EN t36).bind fun t38 => GL t37 t38)
noncomputable abbrev EX (x : Nt × Unit) : Option Str := Ck x.1
noncomputable def m_law (script_ : Scr) : Option Bool :=
 (((some script_).bind fun t1 => (some (1 : Int)).bind fun t2 => Ay t1 t2).bind fun t3 => CU t3).bind fun letters_here_ =>
 ((some script_).bind fun t10 => (some letters_here_).bind fun t11 => Di t10 t11).bind fun some_here_ =>
 ((some script_).bind fun t18 => (some (2 : Int)).bind fun t19 => Ay t18 t19).bind fun BZ =>
 (some (BZ % (5 : Int))).bind fun Az =>
 ((some (BZ / (20 : Int))).bind fun t32 => (some ((Az + (1 : Int)) + ((BZ / (5 : Int)) % (4 : Int)))).bind fun t33 => (some letters_here_).bind fun t34 => EI t32 t33 t34).bind fun lit_here_ =>
 ((some some_here_).bind fun t46 => EJ (fun (one_ : Nt) => ((some one_).bind fun t45 => E7 26 t45)) t46).bind fun flat_ =>
 ((some flat_).bind fun t53 => FZ t53).bind fun p54 =>
 ((some p54.1).bind fun t63 => (some lit_here_).bind fun t64 => (some Az).bind fun t65 => Be t63 t64 t65).bind fun told_ =>
 (some (told_.isNone || (!decide ((p54.2.length : Int) = (some_here_.length : Int))))).bind fun b72 => cond b72
  ((some false))
  (((some (some_here_.length : Int)).bind fun t82 => Ec 0 t82).bind fun as83 => (EA (S := Unit) (ρ := Bool) (fun (k_ : Int) s90 =>
    ((((some told_).bind fun t104 => t104).bind fun t107 => ((some p54.2).bind fun t105 => (some k_).bind fun t106 => atI t105 t106).bind fun t108 => atI t107 t108).bind fun t119 => (((some some_here_).bind fun t114 => (some k_).bind fun t115 => atI t114 t115).bind fun t116 => (some lit_here_).bind fun t117 => (some Az).bind fun t118 => B7 110 t116 t117 t118).bind fun t120 => (some (!decide (t119 = t120)))).bind fun b121 => cond b121
     ((some false).bind fun rr131 => some (Fl.rt rr131))
     (((some k_).bind fun t133 => Ec 0 t133).bind fun as134 => (EA (S := Unit) (ρ := Bool) (fun (j_ : Int) s141 =>
       ((((some p54.2).bind fun t154 => (some k_).bind fun t155 => atI t154 t155).bind fun t160 => ((some p54.2).bind fun t158 => (some j_).bind fun t159 => atI t158 t159).bind fun t161 => (some (decide (t160 = t161)))).bind fun t178 => (((some flat_).bind fun t170 => (some k_).bind fun t171 => atI t170 t171).bind fun t176 => ((some flat_).bind fun t174 => (some j_).bind fun t175 => atI t174 t175).bind fun t177 => eqNO t176 t177).bind fun t179 => (some (!decide (t178 = t179)))).bind fun b180 => cond b180
        ((some false).bind fun rr190 => some (Fl.rt rr190))
        (some (Fl.nx ()))) as134 ()).bind fun fl136 => match fl136 with
      | .nx s141 =>
       some (Fl.nx ())
      | .rt r => some (Fl.rt r)
      | .bk _ => none)) as83 ()).bind fun fl85 => match fl85 with
   | .nx s90 =>
    ((some ("" : Str)).bind fun t207 => ((some some_here_).bind fun t206 => EJ (fun (one_ : Nt) => ((some one_).bind fun t205 => Ck t205)) t206).bind fun t208 => GL t207 t208).bind fun lamps_ =>
    (((some p54.1).bind fun t215 => DF t215).bind fun t230 => ((some ("" : Str)).bind fun t228 => ((some (Dg ("abcdefghijklmnopqrstuvwxyz" : Str))).bind fun t227 => Cd (fun (EY : Str) => (some (inS EY lamps_))) (fun (EY : Str) => (some EY)) t227).bind fun t229 => GL t228 t229).bind fun t231 => (some (decide (t230 = t231))))
   | .rt r => some r
   | .bk _ => none)
noncomputable abbrev mm_law (x : Scr × Unit) : Option Bool := m_law x.1
noncomputable def top (i : Nat) : Stmt := PySem.Challenge.pw_lassoscribe_k19_whole_rows_say_the_same.main.body.getD i (.Pass ⟨0, 0, 0, 0⟩)
noncomputable abbrev Dd : Stmt := top 1
noncomputable abbrev Cq : Stmt := top 2
noncomputable abbrev De : Stmt := top 3
noncomputable abbrev Cr : Stmt := top 5
noncomputable abbrev s_lay : Stmt := top 6
noncomputable abbrev EF : Stmt := top 7
noncomputable abbrev Df : Stmt := top 8
noncomputable abbrev Ei : Stmt := top 11
noncomputable abbrev Bt : Stmt := top 12
noncomputable abbrev Bp : Stmt := top 13
noncomputable abbrev Ew : Stmt := top 14
noncomputable abbrev CW : Stmt := top 16
noncomputable abbrev Ct : Stmt := top 17
noncomputable abbrev Dh : Stmt := top 18
noncomputable abbrev EG : Stmt := top 19
noncomputable abbrev DK : Stmt := top 20
noncomputable abbrev Cv : Stmt := top 21
noncomputable abbrev Bs : Stmt := top 22
noncomputable abbrev DL : Stmt := top 23
noncomputable abbrev BO : Stmt := top 24
noncomputable abbrev BP : Stmt := top 25
noncomputable abbrev CQ : Stmt := top 26
noncomputable abbrev DN : Stmt := top 27
noncomputable abbrev DW : Stmt := top 28
noncomputable abbrev CV : Stmt := top 29
noncomputable abbrev EE : Stmt := top 30
noncomputable abbrev CH : Stmt := top 31
noncomputable abbrev CF : Stmt := top 32
noncomputable abbrev C2 : Stmt := top 33
noncomputable abbrev Fz : Stmt := top 34
structure Txt (K : PySem.W.Frag) (mg : Str → Option Value) : Prop where
 all_ : mg "all" = none
 any_ : mg "any" = none
 enumerate_ : mg "enumerate" = none
 int_ : mg "int" = none
 isinstance_ : mg "isinstance" = none
 len_ : mg "len" = none
 list_ : mg "list" = none
 range_ : mg "range" = none
 set_ : mg "set" = none
 sorted_ : mg "sorted" = none
 tuple_ : mg "tuple" = none
 YES : ∃ a, mg "YES" = some (.ref a) ∧ ∀ G, Rp.rel K G (.ref a) (Nt.tup [Nt.txt "yes"])
theorem sc_parts_of : FnScope ["sentence"] ["sentence"] (AC Dd) := ⟨rfl, rfl, rfl, by decide +kernel, rfl, by decide +kernel, by decide +kernel⟩
theorem sc_all_within : FnScope ["sentence", "found", "place"] ["sentence"] (AC Cq) := ⟨rfl, rfl, rfl, by decide +kernel, rfl, by decide +kernel, by decide +kernel⟩
theorem sc_lamps_of : FnScope ["sentence"] ["sentence"] (AC De) := ⟨rfl, rfl, rfl, by decide +kernel, rfl, by decide +kernel, by decide +kernel⟩
theorem sc_row_number : FnScope ["rows", "numbers", "row"] ["rows", "numbers", "row"] (AC Cr) := ⟨rfl, rfl, rfl, by decide +kernel, rfl, by decide +kernel, by decide +kernel⟩
theorem sc_lay : FnScope ["rows", "numbers", "sentence", "row", "part"] ["rows", "numbers", "sentence"] (AC s_lay) := ⟨rfl, rfl, rfl, by decide +kernel, rfl, by decide +kernel, by decide +kernel⟩
theorem sc_book_of : FnScope ["some", "rows", "numbers", "spots"] ["some"] (AC EF) := ⟨rfl, rfl, rfl, by decide +kernel, rfl, by decide +kernel, by decide +kernel⟩
theorem sc_lamps_in : FnScope ["rows"] ["rows"] (AC Df) := ⟨rfl, rfl, rfl, by decide +kernel, rfl, by decide +kernel, by decide +kernel⟩
theorem sc_denied : FnScope ["plain"] ["plain"] (AC Ei) := ⟨rfl, rfl, rfl, by decide +kernel, rfl, by decide +kernel, by decide +kernel⟩
theorem sc_plain_with_one : FnScope ["word", "inner"] ["word", "inner"] (AC Bt) := ⟨rfl, rfl, rfl, by decide +kernel, rfl, by decide +kernel, by decide +kernel⟩
theorem sc_plain_with_two : FnScope ["word", "left", "right"] ["word", "left", "right"] (AC Bp) := ⟨rfl, rfl, rfl, by decide +kernel, rfl, by decide +kernel, by decide +kernel⟩
theorem sc_plain : FnScope ["sentence", "word"] ["sentence"] (AC Ew) := ⟨rfl, rfl, rfl, by decide +kernel, rfl, by decide +kernel, by decide +kernel⟩
theorem sc_law_cell_at : FnScope ["_law_script", "_law_k"] ["_law_script", "_law_k"] (AC CW) := ⟨rfl, rfl, rfl, by decide +kernel, rfl, by decide +kernel, by decide +kernel⟩
theorem sc_law_stream : FnScope ["_law_cell", "_law_many", "_law_numbers", "_law_number", "_law_k"] ["_law_cell", "_law_many"] (AC Ct) := ⟨rfl, rfl, rfl, by decide +kernel, rfl, by decide +kernel, by decide +kernel⟩
theorem sc_law_leaf : FnScope ["_law_number", "_law_letters_here"] ["_law_number", "_law_letters_here"] (AC Dh) := ⟨rfl, rfl, rfl, by decide +kernel, rfl, by decide +kernel, by decide +kernel⟩
theorem sc_law_put : FnScope ["_law_stack", "_law_spent", "_law_cell", "_law_room", "_law_letters_here", "_law_kind", "_law_other"] ["_law_stack", "_law_spent", "_law_cell", "_law_room", "_law_letters_here"] (AC EG) := ⟨rfl, rfl, rfl, by decide +kernel, rfl, by decide +kernel, by decide +kernel⟩
theorem sc_law_built : FnScope ["_law_cells_here", "_law_room", "_law_letters_here", "_law_stack", "_law_spent", "_law_cell", "_law_other"] ["_law_cells_here", "_law_room", "_law_letters_here"] (AC DK) := ⟨rfl, rfl, rfl, by decide +kernel, rfl, by decide +kernel, by decide +kernel⟩
theorem sc_law_onward : FnScope ["_law_place", "_law_stem", "_law_many"] ["_law_place", "_law_stem", "_law_many"] (AC Cv) := ⟨rfl, rfl, rfl, by decide +kernel, rfl, by decide +kernel, by decide +kernel⟩
theorem sc_law_held_until : FnScope ["_law_one", "_law_other", "_law_onward_here", "_law_place"] ["_law_one", "_law_other", "_law_onward_here"] (AC Bs) := ⟨rfl, rfl, rfl, by decide +kernel, rfl, by decide +kernel, by decide +kernel⟩
theorem sc_law_freed : FnScope ["_law_one", "_law_other", "_law_onward_here", "_law_place"] ["_law_one", "_law_other", "_law_onward_here"] (AC DL) := ⟨rfl, rfl, rfl, by decide +kernel, rfl, by decide +kernel, by decide +kernel⟩
theorem sc_law_truths_of_one : FnScope ["_law_word", "_law_one", "_law_stem", "_law_many"] ["_law_word", "_law_one", "_law_stem"] (AC BO) := ⟨rfl, rfl, rfl, by decide +kernel, rfl, by decide +kernel, by decide +kernel⟩
theorem sc_law_truths_of_two : FnScope ["_law_word", "_law_one", "_law_other", "_law_stem", "_law_many"] ["_law_word", "_law_one", "_law_other", "_law_stem"] (AC BP) := ⟨rfl, rfl, rfl, by decide +kernel, rfl, by decide +kernel, by decide +kernel⟩
theorem sc_law_truths : FnScope ["_law_told", "_law_lit_here", "_law_stem", "_law_word", "_law_one"] ["_law_told", "_law_lit_here", "_law_stem"] (AC CQ) := ⟨rfl, rfl, rfl, by decide +kernel, rfl, by decide +kernel, by decide +kernel⟩
theorem sc_law_cells : FnScope ["_law_script", "_law_start", "_law_cell"] ["_law_script", "_law_start"] (AC DN) := ⟨rfl, rfl, rfl, by decide +kernel, rfl, by decide +kernel, by decide +kernel⟩
theorem sc_law_some : FnScope ["_law_script", "_law_letters_here", "_law_some_here", "_law_k", "_law_room"] ["_law_script", "_law_letters_here"] (AC DW) := ⟨rfl, rfl, rfl, by decide +kernel, rfl, by decide +kernel, by decide +kernel⟩
theorem sc_law_letters : FnScope ["_law_cell", "_law_some_here", "_law_at", "_law_letters_here"] ["_law_cell"] (AC CV) := ⟨rfl, rfl, rfl, by decide +kernel, rfl, by decide +kernel, by decide +kernel⟩
theorem sc_law_lit : FnScope ["_law_cell", "_law_many", "_law_letters_here", "_law_some_here", "_law_lit_here", "_law_number"] ["_law_cell", "_law_many", "_law_letters_here"] (AC EE) := ⟨rfl, rfl, rfl, by decide +kernel, rfl, by decide +kernel, by decide +kernel⟩
theorem sc_law_row_told : FnScope ["_law_row", "_law_ahead_of", "_law_lit_here", "_law_stem"] ["_law_row", "_law_ahead_of", "_law_lit_here", "_law_stem"] (AC CH) := ⟨rfl, rfl, rfl, by decide +kernel, rfl, by decide +kernel, by decide +kernel⟩
theorem sc_law_row_fits : FnScope ["_law_row", "_law_k"] ["_law_row", "_law_k"] (AC CF) := ⟨rfl, rfl, rfl, by decide +kernel, rfl, by decide +kernel, by decide +kernel⟩
theorem sc_law_rows_told : FnScope ["_law_rows", "_law_lit_here", "_law_stem", "_law_told", "_law_k"] ["_law_rows", "_law_lit_here", "_law_stem"] (AC C2) := ⟨rfl, rfl, rfl, by decide +kernel, rfl, by decide +kernel, by decide +kernel⟩
theorem sc_law : FnScope ["_law_script", "_law_letters_here", "_law_some_here", "_law_cell", "_law_stem", "_law_lit_here", "_law_flat", "_law_rows", "_law_spots", "_law_told", "_law_k", "_law_j", "_law_lamps"] ["_law_script"] (AC Fz) := ⟨rfl, rfl, rfl, by decide +kernel, rfl, by decide +kernel, by decide +kernel⟩
noncomputable def sp_law (K : PySem.W.Frag) : Sp := fun vs H Q _ => ∃ (a : Addr) (ns : List Int), vs = [.ref a] ∧ SqL K H a (ns.map V.int) ∧ ns.length ≤ 63 ∧ ∀ H', Q (.bl true) H'
section
variable {P : Program} {w : World} {K : PySem.W.Frag} {mg : Str → Option Value} {base : Heap}
theorem ok_law_letters {f : Addr} {fd : FuncData} (F : Fun K "_law_letters" "_law_letters" CV f fd) (T : Txt K mg) : FnOk P w K mg base CX0 1 f fd ["_law_cell"] (spM K DT) := by
 refine F.ok sc_law_letters (fun vs H Q E h => (BL h).trans rfl) (fun cdv A outer s H0 vs Q E hr h => ?_)
 obtain ⟨G0, ⟨BZ, ⟨⟩⟩, res, sg0, ⟨DU, _, rfl, AY, rfl⟩, hm, q⟩ := h
 replace AY : Rp.rel K G0 DU BZ := AY
 replace hm : CU BZ = some res := hm
 unfold CU at hm
 have xt : Ext G0 H0 G0 H0 := Ext.refl sg0
 refine ⟨_, (A6 (B0 (i := 1) sc_law_letters.nd rfl (Or.inl rfl) AG)
   (A6 (B0 (i := 2) sc_law_letters.nd rfl (Or.inl rfl) (Ah CC (pv 0) AA))
   (A6 (B0 (i := 3) sc_law_letters.nd rfl (Or.inl rfl) (Ci (E9 (K := K) rfl) (pv 1) (Cs (pv 2)) (Cs (Ah (Ar (K := K) rfl) (Ah (Ar (K := K) rfl) (pv 2) AA) (Ah CC (Ah DQ (pv 0) AA) AA)))))
   (A6 (Aw (AL Ax (Ah CC (Ah DQ (pv 0) AA) AA) AA (AX _)) (A6 (B0 (i := 3) sc_law_letters.nd rfl (Or.inl rfl) (Ah (Ar (K := K) rfl) (Ab (AD (K := K) rfl) (pv 3) AA (fun _ _ => rfl)) (Ab (AD (K := K) rfl) (pv 1) (Ah (Ar (K := K) rfl) (Ah (Ar (K := K) rfl) (pv 2) AA) (Ah CC (Ah DQ (pv 0) AA) (Ah op_sub AA (pv 2)))) (fun _ _ => rfl))))
   A8) A8)
   (A6 (AS (pv 3))
   A8))))), ?_⟩
 refine bE hm fun some_here_ h6 hm => ?_
 refine Bd (K := K) As h6 xt.gh fun v1 G2 H3 x4 r5 => ?_
 have xt := xt.trans x4
 have AY := Rp.mono x4.gg AY
 refine bE hm fun at_ h12 hm => ?_
 refine Bd (K := K) (Bg (A5 rfl AY)) h12 xt.gh fun v7 G8 H9 x10 r11 => ?_
 have xt := xt.trans x10
 have AY := Rp.mono x10.gg AY
 have r5 := Rp.mono x10.gg r5
 refine bE hm fun letters_here_ h18 hm => ?_
 refine Bd (K := K) (ev_sliceS (A5 rfl r5) (Cz (K := K) (A5 rfl r11)) (Cz (K := K) (Bh (Bh (A5 rfl r11) Af) (Bg (Dj (A5 rfl AY)))))) h18 xt.gh fun v13 G14 H15 x16 r17 => ?_
 have xt := xt.trans x16
 have AY := Rp.mono x16.gg AY
 have r5 := Rp.mono x16.gg r5
 have r11 := Rp.mono x16.gg r11
 refine bE hm fun b19 h20 hm => ?_
 refine bE hm fun s24 h25 hm => ?_
 refine sv_join (fun S47 H46 => ∃ (G45 : Hp) (v27 : V), Ext G0 H0 G45 H46 ∧ Same G14 G45 ∧ S47 = [some DU, some v1, some v7, some v27] ∧ Rp.rel K G45 v27 (s24 : Str)) (fun nx kn29 => ?_) ?_
 ·refine B9 (AJ (K := K) (DY (Bg (Dj (A5 rfl AY))) Af)) h20 xt.gh fun G21 H22 x23 => ?_
  have xt := xt.trans x23
  have AY := Rp.mono x23.gg AY
  have r5 := Rp.mono x23.gg r5
  have r11 := Rp.mono x23.gg r11
  have r17 := Rp.mono x23.gg r17
  have mk26 : Same G14 G21 := x23.gg
  have hm := h25
  cases b19 with
  | true =>
   replace hm := cT hm
   refine BR ?_
   refine bE hm fun letters_here_ h44 hm => ?_
   refine Bd (K := K) (ev_catS (ev_atS (A5 rfl r17) Af) (ev_atS (A5 rfl r5) (Bh (Bh (A5 rfl r11) Af) (ev_mod (Dj (A5 rfl AY)) (ev_sub Af (A5 rfl r11)))))) h44 xt.gh fun v39 G40 H41 x42 r43 => ?_
   have xt := xt.trans x42
   have mk26 := mk26.trans x42.gg
   cases hm
   exact kn29 _ _ ⟨G40, v39, xt, mk26, rfl, r43⟩
  | false =>
   replace hm := cF hm
   refine BQ ?_
   cases hm
   exact kn29 _ _ ⟨G21, v13, xt, mk26, rfl, r17⟩
 ·rintro _ H46 ⟨G45, v27, xt, mk26, rfl, r28⟩
  exact Am (K := K) (A5 rfl r28) hm xt.gh fun v48 G49 H50 x51 r52 => q v48 G49 H50 (xt.trans x51) r52
theorem ok_law_leaf {f : Addr} {fd : FuncData} (F : Fun K "_law_leaf" "_law_leaf" Dh f fd) (T : Txt K mg) : FnOk P w K mg base CX0 1 f fd ["_law_number", "_law_letters_here"] (spM K DI) := by
 refine F.ok sc_law_leaf (fun vs H Q E h => (BL h).trans rfl) (fun cdv A outer s H0 vs Q E hr h => ?_)
 obtain ⟨G0, ⟨CN, ⟨letters_here_, ⟨⟩⟩⟩, res, sg0, ⟨v_number_, _, rfl, Cp, ⟨Aa, _, rfl, A7, rfl⟩⟩, hm, q⟩ := h
 replace Cp : Rp.rel K G0 v_number_ CN := Cp
 replace A7 : Rp.rel K G0 Aa letters_here_ := A7
 replace hm : DE CN letters_here_ = some res := hm
 unfold DE at hm
 have xt : Ext G0 H0 G0 H0 := Ext.refl sg0
 refine ⟨_, (A6 (Aw (AL Ax (Ah CC (pv 0) AA) AA (AX _)) (A6 (AS (BI (A4 AG A9)))
   A8) A8)
   (A6 (Aw (AL Ax (Ah CC (pv 0) AA) AA (AX _)) (A6 (AS (BI (A4 AG A9)))
   A8) A8)
   (A6 (AS (BI (A4 AG (A4 (Ab (AD (K := K) rfl) (pv 1) (Ah CC (Ah DQ (pv 0) AA) (Ai (Ap (K := K) rfl) (by rfl) T.len_ Ba (A4 (pv 1) A9))) (fun _ _ => rfl)) A9))))
   A8))), ?_⟩
 refine bE hm fun b1 h2 hm => ?_
 refine B9 (AJ (K := K) (DY (Bg (A5 rfl Cp)) Af)) h2 xt.gh fun G3 H4 x5 => ?_
 have xt := xt.trans x5
 have Cp := Rp.mono x5.gg Cp
 have A7 := Rp.mono x5.gg A7
 cases b1 with
 | true =>
  replace hm := cT hm
  refine BR ?_
  exact Am (K := K) (rest := C9) (σ := [some v_number_, some Aa]) (B3 (AB (Ak As) (Aq (α := Nt)))) hm xt.gh fun v6 G7 H8 x9 r10 => q v6 G7 H8 (xt.trans x9) r10
 | false =>
  replace hm := cF hm
  refine BQ ?_
  refine bE hm fun b11 h12 hm => ?_
  refine B9 (AJ (K := K) (DY (Bg (A5 rfl Cp)) Af)) h12 xt.gh fun G13 H14 x15 => ?_
  have xt := xt.trans x15
  have Cp := Rp.mono x15.gg Cp
  have A7 := Rp.mono x15.gg A7
  cases b11 with
  | true =>
   replace hm := cT hm
   refine BR ?_
   exact Am (K := K) (rest := C9) (σ := [some v_number_, some Aa]) (B3 (AB (Ak As) (Aq (α := Nt)))) hm xt.gh fun v16 G17 H18 x19 r20 => q v16 G17 H18 (xt.trans x19) r20
  | false =>
   replace hm := cF hm
   refine BQ ?_
   exact Am (K := K) (B3 (AB (Ak As) (AB (Ak (ev_atS (A5 rfl A7) (ev_mod (Dj (A5 rfl Cp)) (ev_lenS (A5 rfl A7))))) (Aq (α := Nt))))) hm xt.gh fun v29 G30 H31 x32 r33 => q v29 G30 H31 (xt.trans x32) r33
theorem ok_law_put {f : Addr} {fd : FuncData} (F : Fun K "_law_put" "_law_put" EG f fd) (T : Txt K mg) (D_law_leaf : DefOk P w K mg base "_law_leaf" 1 ["_law_number", "_law_letters_here"] (spM K DI)) : FnOk P w K mg base CX0 2 f fd ["_law_stack", "_law_spent", "_law_cell", "_law_room", "_law_letters_here"] (spW2 K En) := by
 refine F.ok sc_law_put (fun vs H Q E h => (spW2_len h).trans rfl) (fun cdv A outer s H9 vs Q E hr h => ?_)
 obtain ⟨G0, BT, C4, vs_stack_, vs_spent_, _, stack_, Cn, ⟨BZ, ⟨EW, ⟨letters_here_, ⟨⟩⟩⟩⟩, res, rfl, sg0, ne_pq, o_stack_, o_spent_, ⟨DU, _, rfl, AY, ⟨Ey, _, rfl, Ad, ⟨Aa, _, rfl, A7, rfl⟩⟩⟩, hm, q⟩ := h
 have xt : Ext G0 (era H9 [BT, C4]) G0 H9 := Ext.begin sg0
 have Da : era H9 [BT, C4] BT = none := Es (by simp)
 have FX : era H9 [BT, C4] C4 = none := Es (by simp)
 generalize era H9 [BT, C4] = H0 at xt q Da FX
 replace AY : Rp.rel K G0 DU BZ := AY
 replace Ad : Rp.rel K G0 Ey EW := Ad
 replace A7 : Rp.rel K G0 Aa letters_here_ := A7
 replace hm : EH stack_ Cn BZ EW letters_here_ = some res := hm
 unfold EH at hm
 refine ⟨_, (A6 (B0 (i := 5) sc_law_put.nd rfl (Or.inl rfl) (Ah CC (pv 2) AA))
   (A6 (Aw (PW.pt (GG (AL GC (pv 5) AA (AX _)) (Fu (AL op_gtU (Ai (Ap (K := K) rfl) (by rfl) T.len_ Ba (A4 (pv 0) A9)) AA (AX _))))) (A6 (Aw (AL op_leU (Ah (Ar (K := K) rfl) (Ab (AD (K := K) rfl) (pv 1) AA (fun _ _ => rfl)) (Ai (Ap (K := K) rfl) (by rfl) T.len_ Ba (A4 (pv 0) A9))) (pv 3) (AX _)) (A6 (DC (D3 (K := K) rfl PySem.F.plainAttrs_list PySem.F.slot_list_append PySem.F.type_list_append C3 (pv 0) (A4 (BI (A4 (Ab (AD (K := K) rfl) (CI (A4 AG (A4 AG (A4 AG (A4 AG (A4 AG (A4 AG A9))))))) (pv 5) (fun _ _ => rfl)) (A4 (Fs (K := K) rfl PySem.F.plainAttrs_list PySem.F.slot_list_pop PySem.F.type_list_pop mt_pop (pv 0)) A9))) A9)))
   (A6 (GE (Ah (Ar (K := K) rfl) (Ab (AD (K := K) rfl) (pv 1) AA (fun _ _ => rfl)) AA) (pg_sub (pv 1) AA FP))
   A8)) A8)
   A8) (A6 (Aw (PW.pt (GG (pt_chain GC GC AA (pv 5) AA) (Fu (AL op_gtU (Ai (Ap (K := K) rfl) (by rfl) T.len_ Ba (A4 (pv 0) A9)) AA (AX _))))) (A6 (B0 (i := 6) sc_law_put.nd rfl (Or.inl rfl) (Fs (K := K) rfl PySem.F.plainAttrs_list PySem.F.slot_list_pop PySem.F.type_list_pop mt_pop (pv 0)))
   (A6 (DC (D3 (K := K) rfl PySem.F.plainAttrs_list PySem.F.slot_list_append PySem.F.type_list_append C3 (pv 0) (A4 (BI (A4 (Ab (AD (K := K) rfl) (CI (A4 AG (A4 AG (A4 AG (A4 AG (A4 AG A9)))))) (Ah op_sub (pv 5) AA) (fun _ _ => rfl)) (A4 (Fs (K := K) rfl PySem.F.plainAttrs_list PySem.F.slot_list_pop PySem.F.type_list_pop mt_pop (pv 0)) (A4 (pv 6) A9)))) A9)))
   (A6 (GE (Ah (Ar (K := K) rfl) (Ab (AD (K := K) rfl) (pv 1) AA (fun _ _ => rfl)) AA) (pg_sub (pv 1) AA FP))
   A8))) (A6 (Aw (AL op_leU (Ah (Ar (K := K) rfl) (Ah (Ar (K := K) rfl) (Ab (AD (K := K) rfl) (pv 1) AA (fun _ _ => rfl)) (Ai (Ap (K := K) rfl) (by rfl) T.len_ Ba (A4 (pv 0) A9))) AA) (pv 3) (AX _)) (A6 (DC (D3 (K := K) rfl PySem.F.plainAttrs_list PySem.F.slot_list_append PySem.F.type_list_append C3 (pv 0) (A4 (Ae D_law_leaf hr (by decide) rfl (A4 (Ah DQ (pv 2) AA) (A4 (pv 4) A9))) A9)))
   (A6 (GE (Ah (Ar (K := K) rfl) (Ab (AD (K := K) rfl) (pv 1) AA (fun _ _ => rfl)) AA) (pg_sub (pv 1) AA FP))
   A8)) A8)
   A8))
   A8))
   A8)), ?_⟩
 refine bE hm fun kind_ h6 hm => ?_
 refine Bd (K := K) (Bg (A5 rfl AY)) h6 xt.gh fun v1 G2 H3 x4 r5 => ?_
 have xt := xt.trans x4
 have o_stack_ := o_stack_.ext x4
 have o_spent_ := o_spent_.ext x4
 have AY := Rp.mono x4.gg AY
 have Ad := Rp.mono x4.gg Ad
 have A7 := Rp.mono x4.gg A7
 refine bE hm fun b7 h8 hm => ?_
 refine bE hm fun s12 h13 hm => ?_
 refine sv_join (fun S163 H162 => ∃ (G161 : Hp) (v15 : Option V), Ext G0 H0 G161 H162 ∧ Same G2 G161 ∧ S163 = [some (V.ref BT), some (V.ref C4), some DU, some Ey, some Aa, some v1, v15] ∧ (∃ vs, Own K G161 H162 (V.ref BT) BT vs s12.1) ∧ (∃ vs, Own K G161 H162 (V.ref C4) C4 vs s12.2)) (fun nx kn17 => ?_) ?_
 ·refine sv_ifB o_stack_ (tv_andP (AJ (K := K) (Ee (A5 rfl (Rp.mono (Same.new o_stack_.g) r5)) Af)) (AJ (K := K) (Ee (Cg (A5 rfl o_stack_.tell)) Af))) h8 xt.gh fun G9 H10 x11 => ?_
  have xt := xt.trans x11
  have o_stack_ := o_stack_.ext x11
  have o_spent_ := o_spent_.ext x11
  have AY := Rp.mono x11.gg AY
  have Ad := Rp.mono x11.gg Ad
  have A7 := Rp.mono x11.gg A7
  have r5 := Rp.mono x11.gg r5
  have mk14 : Same G2 G9 := x11.gg
  have hm := h13
  cases b7 with
  | true =>
   replace hm := cT hm
   refine BR ?_
   refine bE hm fun b26 h27 hm => ?_
   refine sv_ifBB o_stack_ o_spent_ (by first | assumption | exact Ne.symm (by assumption)) (AJ (K := K) (Ee (Bh (BK (A5 rfl (o_spent_.over (by first | assumption | exact Ne.symm (by assumption)) o_stack_.g).tell) Af) (Cg (A5 rfl (Rp.mono (Same.new (o_spent_.over (by first | assumption | exact Ne.symm (by assumption)) o_stack_.g).g) o_stack_.tell)))) (A5 rfl (Rp.mono (Same.new (o_spent_.over (by first | assumption | exact Ne.symm (by assumption)) o_stack_.g).g) (Rp.mono (Same.new o_stack_.g) Ad))))) h27 xt.gh fun G28 H29 x30 => ?_
   have xt := xt.trans x30
   have mk14 := mk14.trans x30.gg
   have o_stack_ := o_stack_.ext x30
   have o_spent_ := o_spent_.ext x30
   have AY := Rp.mono x30.gg AY
   have Ad := Rp.mono x30.gg Ad
   have A7 := Rp.mono x30.gg A7
   have r5 := Rp.mono x30.gg r5
   cases b26 with
   | true =>
    replace hm := cT hm
    refine BR ?_
    refine bE hm fun pr31 h32 hm => ?_
    refine bE hm fun a33 h34 hm => ?_
    refine bE hm fun z35 h36 hm => ?_
    refine sv_appendP (K := K) (as' := pr31.2) rfl o_stack_ (pv_tupN (pl_there (bv_ev (BK (FV.ev (CL (AB (Ak As) (AB (Ak As) (AB (Ak As) (AB (Ak As) (AB (Ak As) (AB (Ak As) (Aq (α := Nt)))))))))) (A5 rfl r5))) (pl_here (pv_pop (a := pr31.1) (as' := pr31.2) rfl h32) (Aq (α := Nt))))) h34 h36 xt.gh fun G37 H38 w39 y40 o41 => ?_
    have xt : Ext G0 H0 G37 (upd H38 BT (.lst (vs_stack_.dropLast ++ [w39]))) := (xt.past (C := [BT]) (fun b hb => by rw [List.mem_singleton.mp hb]; exact Da) y40).put Da o41.g
    have mk14 := mk14.trans y40.gg
    have o_spent_ := (o_spent_.past (by rw [List.mem_singleton]; exact (by first | assumption | exact Ne.symm (by assumption))) y40).put (q := BT) (ho := .lst (vs_stack_.dropLast ++ [w39])) (by first | assumption | exact Ne.symm (by assumption))
    have AY := Rp.mono y40.gg AY
    have Ad := Rp.mono y40.gg Ad
    have A7 := Rp.mono y40.gg A7
    have r5 := Rp.mono y40.gg r5
    refine bE hm fun a52 h53 hm => ?_
    refine bE hm fun k54 h55 hm => ?_
    refine bE hm fun z63 h56 hm => ?_
    refine Dx (K := K) rfl o_spent_ (Bh (BK (A5 rfl o_spent_.tell) Af) Af) h53 Af h55 h56 xt.gh fun G57 H58 w59 j60 x61 o62 => ?_
    have xt : Ext G0 H0 G57 (upd H58 C4 (.lst (vs_spent_.set j60 w59))) := (xt.trans x61).put FX o62.g
    have mk14 := mk14.trans x61.gg
    have o41 := (o41.ext x61).put (q := C4) (ho := .lst (vs_spent_.set j60 w59)) (by first | assumption | exact Ne.symm (by assumption))
    cases hm
    exact kn17 _ _ ⟨G57, _, xt, mk14, rfl, ⟨_, o41⟩, ⟨_, o62⟩⟩
   | false =>
    replace hm := cF hm
    refine BQ ?_
    cases hm
    exact kn17 _ _ ⟨G28, _, xt, mk14, rfl, ⟨_, o_stack_⟩, ⟨_, o_spent_⟩⟩
  | false =>
   replace hm := cF hm
   refine BQ ?_
   refine bE hm fun b74 h75 hm => ?_
   refine sv_ifB o_stack_ (GF (AJ (K := K) (ev_chain Af (A5 rfl (Rp.mono (Same.new o_stack_.g) r5)) Af)) (AJ (K := K) (Ee (Cg (A5 rfl o_stack_.tell)) Af))) h75 xt.gh fun G76 H77 x78 => ?_
   have xt := xt.trans x78
   have mk14 := mk14.trans x78.gg
   have o_stack_ := o_stack_.ext x78
   have o_spent_ := o_spent_.ext x78
   have AY := Rp.mono x78.gg AY
   have Ad := Rp.mono x78.gg Ad
   have A7 := Rp.mono x78.gg A7
   have r5 := Rp.mono x78.gg r5
   cases b74 with
   | true =>
    replace hm := cT hm
    refine BR ?_
    refine bE hm fun pr79 h80 hm => ?_
    refine sv_pop (K := K) (a := pr79.1) (as' := pr79.2) rfl o_stack_ h80 fun w81 r82 o83 => ?_
    have xt : Ext G0 H0 G76 (upd H77 BT (.lst vs_stack_.dropLast)) := xt.put Da o83.g
    have o_spent_ := o_spent_.put (q := BT) (ho := .lst vs_stack_.dropLast) (by first | assumption | exact Ne.symm (by assumption))
    refine bE hm fun pr84 h85 hm => ?_
    refine bE hm fun a86 h87 hm => ?_
    refine bE hm fun z88 h89 hm => ?_
    refine sv_appendP (K := K) (as' := pr84.2) rfl o83 (pv_tupN (pl_there (bv_ev (BK (FV.ev (CL (AB (Ak As) (AB (Ak As) (AB (Ak As) (AB (Ak As) (AB (Ak As) (Aq (α := Nt))))))))) (ev_sub (A5 rfl r5) Af))) (pl_here (pv_pop (a := pr84.1) (as' := pr84.2) rfl h85) (AB (A5 rfl r82) (Aq (α := Nt)))))) h87 h89 xt.gh fun G90 H91 w92 y93 o94 => ?_
    have xt : Ext G0 H0 G90 (upd H91 BT (.lst (vs_stack_.dropLast.dropLast ++ [w92]))) := (xt.past (C := [BT]) (fun b hb => by rw [List.mem_singleton.mp hb]; exact Da) y93).put Da o94.g
    have mk14 := mk14.trans y93.gg
    have o_spent_ := (o_spent_.past (by rw [List.mem_singleton]; exact (by first | assumption | exact Ne.symm (by assumption))) y93).put (q := BT) (ho := .lst (vs_stack_.dropLast.dropLast ++ [w92])) (by first | assumption | exact Ne.symm (by assumption))
    have AY := Rp.mono y93.gg AY
    have Ad := Rp.mono y93.gg Ad
    have A7 := Rp.mono y93.gg A7
    have r5 := Rp.mono y93.gg r5
    have r82 := Rp.mono y93.gg r82
    refine bE hm fun a105 h106 hm => ?_
    refine bE hm fun k107 h108 hm => ?_
    refine bE hm fun z116 h109 hm => ?_
    refine Dx (K := K) rfl o_spent_ (Bh (BK (A5 rfl o_spent_.tell) Af) Af) h106 Af h108 h109 xt.gh fun G110 H111 w112 j113 x114 o115 => ?_
    have xt : Ext G0 H0 G110 (upd H111 C4 (.lst (vs_spent_.set j113 w112))) := (xt.trans x114).put FX o115.g
    have mk14 := mk14.trans x114.gg
    have o94 := (o94.ext x114).put (q := C4) (ho := .lst (vs_spent_.set j113 w112)) (by first | assumption | exact Ne.symm (by assumption))
    cases hm
    exact kn17 _ _ ⟨G110, _, xt, mk14, rfl, ⟨_, o94⟩, ⟨_, o115⟩⟩
   | false =>
    replace hm := cF hm
    refine BQ ?_
    refine bE hm fun b127 h128 hm => ?_
    refine sv_ifBB o_stack_ o_spent_ (by first | assumption | exact Ne.symm (by assumption)) (AJ (K := K) (Ee (Bh (Bh (BK (A5 rfl (o_spent_.over (by first | assumption | exact Ne.symm (by assumption)) o_stack_.g).tell) Af) (Cg (A5 rfl (Rp.mono (Same.new (o_spent_.over (by first | assumption | exact Ne.symm (by assumption)) o_stack_.g).g) o_stack_.tell)))) Af) (A5 rfl (Rp.mono (Same.new (o_spent_.over (by first | assumption | exact Ne.symm (by assumption)) o_stack_.g).g) (Rp.mono (Same.new o_stack_.g) Ad))))) h128 xt.gh fun G129 H130 x131 => ?_
    have xt := xt.trans x131
    have mk14 := mk14.trans x131.gg
    have o_stack_ := o_stack_.ext x131
    have o_spent_ := o_spent_.ext x131
    have AY := Rp.mono x131.gg AY
    have Ad := Rp.mono x131.gg Ad
    have A7 := Rp.mono x131.gg A7
    have r5 := Rp.mono x131.gg r5
    cases b127 with
    | true =>
     replace hm := cT hm
     refine BR ?_
     refine bE hm fun a134 h135 hm => ?_
     refine bE hm fun z142 h136 hm => ?_
     refine Eh (K := K) rfl o_stack_ (CD (m := DI) (Dj (A5 rfl AY)) (A5 rfl A7)) h135 h136 xt.gh fun G137 H138 w139 x140 o141 => ?_
     have xt : Ext G0 H0 G137 (upd H138 BT (.lst (vs_stack_ ++ [w139]))) := (xt.trans x140).put Da o141.g
     have mk14 := mk14.trans x140.gg
     have o_spent_ := (o_spent_.ext x140).put (q := BT) (ho := .lst (vs_stack_ ++ [w139])) (by first | assumption | exact Ne.symm (by assumption))
     have AY := Rp.mono x140.gg AY
     have Ad := Rp.mono x140.gg Ad
     have A7 := Rp.mono x140.gg A7
     have r5 := Rp.mono x140.gg r5
     refine bE hm fun a149 h150 hm => ?_
     refine bE hm fun k151 h152 hm => ?_
     refine bE hm fun z160 h153 hm => ?_
     refine Dx (K := K) rfl o_spent_ (Bh (BK (A5 rfl o_spent_.tell) Af) Af) h150 Af h152 h153 xt.gh fun G154 H155 w156 j157 x158 o159 => ?_
     have xt : Ext G0 H0 G154 (upd H155 C4 (.lst (vs_spent_.set j157 w156))) := (xt.trans x158).put FX o159.g
     have mk14 := mk14.trans x158.gg
     have o141 := (o141.ext x158).put (q := C4) (ho := .lst (vs_spent_.set j157 w156)) (by first | assumption | exact Ne.symm (by assumption))
     cases hm
     exact kn17 _ _ ⟨G154, _, xt, mk14, rfl, ⟨_, o141⟩, ⟨_, o159⟩⟩
    | false =>
     replace hm := cF hm
     refine BQ ?_
     cases hm
     exact kn17 _ _ ⟨G129, _, xt, mk14, rfl, ⟨_, o_stack_⟩, ⟨_, o_spent_⟩⟩
 ·rintro _ H162 ⟨G161, v15, xt, mk14, rfl, ⟨vs_stack_, o_stack_⟩, ⟨vs_spent_, o_spent_⟩⟩
  cases hm
  exact q _ _ _ _ xt o_stack_ o_spent_
theorem ok_law_built {f : Addr} {fd : FuncData} (F : Fun K "_law_built" "_law_built" DK f fd) (T : Txt K mg) (D_law_put : DefOk P w K mg base "_law_put" 2 ["_law_stack", "_law_spent", "_law_cell", "_law_room", "_law_letters_here"] (spW2 K En)) (D_law_leaf : DefOk P w K mg base "_law_leaf" 1 ["_law_number", "_law_letters_here"] (spM K DI)) : FnOk P w K mg base CX0 3 f fd ["_law_cells_here", "_law_room", "_law_letters_here"] (spM K EC) := by
 refine F.ok sc_law_built (fun vs H Q E h => (BL h).trans rfl) (fun cdv A outer s H0 vs Q E hr h => ?_)
 obtain ⟨G0, ⟨EU, ⟨EW, ⟨letters_here_, ⟨⟩⟩⟩⟩, res, sg0, ⟨Dq, _, rfl, AU, ⟨Ey, _, rfl, Ad, ⟨Aa, _, rfl, A7, rfl⟩⟩⟩, hm, q⟩ := h
 replace AU : Rp.rel K G0 Dq EU := AU
 replace Ad : Rp.rel K G0 Ey EW := Ad
 replace A7 : Rp.rel K G0 Aa letters_here_ := A7
 replace hm : DJ EU EW letters_here_ = some res := hm
 unfold DJ at hm
 have xt : Ext G0 H0 G0 H0 := Ext.refl sg0
 refine ⟨_, (A6 (B0 (i := 3) sc_law_built.nd rfl (Or.inl rfl) (CI A9))
   (A6 (B0 (i := 4) sc_law_built.nd rfl (Or.inl rfl) (CI (A4 AA A9)))
   (A6 (Ed PassesOwn.never rfl (D1 (K := K) rfl (pv 0)) (Cc (i := 5) sc_law_built.nd rfl (Or.inl rfl)) (A6 (DC (Ae D_law_put hr (by decide) rfl (A4 (pv 3) (A4 (pv 4) (A4 (pv 5) (A4 (pv 1) (A4 (pv 2) A9)))))))
   A8))
   (A6 (Aw (AL Ax (Ai (Ap (K := K) rfl) (by rfl) T.len_ Ba (A4 (pv 3) A9)) AA (AX _)) (A6 (DC (D3 (K := K) rfl PySem.F.plainAttrs_list PySem.F.slot_list_append PySem.F.type_list_append C3 (pv 3) (A4 (Ae D_law_leaf hr (by decide) rfl (A4 (pv 1) (A4 (pv 2) A9))) A9)))
   A8) A8)
   (A6 (ps_while PassesOwn.never (AL op_gtU (Ai (Ap (K := K) rfl) (by rfl) T.len_ Ba (A4 (pv 3) A9)) AA (AX _)) (A6 (B0 (i := 6) sc_law_built.nd rfl (Or.inl rfl) (Fs (K := K) rfl PySem.F.plainAttrs_list PySem.F.slot_list_pop PySem.F.type_list_pop mt_pop (pv 3)))
   (A6 (DC (D3 (K := K) rfl PySem.F.plainAttrs_list PySem.F.slot_list_append PySem.F.type_list_append C3 (pv 3) (A4 (BI (A4 (Ab (AD (K := K) rfl) (CI (A4 AG (A4 AG (A4 AG (A4 AG (A4 AG A9)))))) (Ah CC (Ai (Ap (K := K) rfl) (by rfl) T.len_ Ba (A4 (pv 3) A9)) AA) (fun _ _ => rfl)) (A4 (Fs (K := K) rfl PySem.F.plainAttrs_list PySem.F.slot_list_pop PySem.F.type_list_pop mt_pop (pv 3)) (A4 (pv 6) A9)))) A9)))
   A8)))
   (A6 (AS (Ab (AD (K := K) rfl) (pv 3) AA (fun _ _ => rfl)))
   A8)))))), ?_⟩
 refine bE hm fun stack_ h8 hm => ?_
 refine Fp (K := K) (CL (Aq (α := Nt))) h8 xt.gh fun p1 vs2 G3 H4 x5 hz6 o7 => ?_
 have hz6 := xt.hh.free hz6
 have xt := xt.trans x5
 have AU := Rp.mono x5.gg AU
 have Ad := Rp.mono x5.gg Ad
 have A7 := Rp.mono x5.gg A7
 refine bE hm fun Cn h16 hm => ?_
 refine Fp (K := K) (CL (AB Af (Aq (α := Int)))) h16 xt.gh fun p9 vs10 G11 H12 x13 hz14 o15 => ?_
 have ne_p1_p9 : p1 ≠ p9 := CP o7.h hz14
 have hz14 := xt.hh.free hz14
 have xt := xt.trans x13
 have AU := Rp.mono x13.gg AU
 have Ad := Rp.mono x13.gg Ad
 have A7 := Rp.mono x13.gg A7
 have o7 := o7.ext x13
 refine bE hm fun as17 h18 hm => ?_
 refine bE hm fun fl19 h20 hm => ?_
 refine Ef (K := K) (RR := fun r v G' H' => Ext G0 H0 G' H' ∧ Rp.rel K G' v r) (Dn (A5 rfl AU)) h18 h20 xt.gh fun G21 H22 x23 => ⟨fun s24 S' G' H' => ∃ (v25 : Option V), Ext G0 H0 G' H' ∧ Same G21 G' ∧ S' = [some Dq, some Ey, some Aa, some (V.ref p1), some (V.ref p9), v25, none] ∧ (∃ vs, Own K G' H' (V.ref p1) p1 vs s24.1) ∧ (∃ vs, Own K G' H' (V.ref p9) p9 vs s24.2), ?_, ?_, ?_, ?_, ?_⟩
 ·have xt := xt.trans x23
  have o7 := o7.ext x23
  have o15 := o15.ext x23
  exact ⟨_, xt, (Same.refl _), rfl, ⟨_, o7⟩, ⟨_, o15⟩⟩
 ·rintro _ S' G' H' ⟨v25, xt, mk26, rfl, ⟨vs2, o7⟩, ⟨vs10, o15⟩⟩
  exact ⟨mk26, xt.gh⟩
 ·rintro xv27 a28 s24 _ G31 H32 fl29 - ⟨v25, xt, mk26, rfl, ⟨vs2, o7⟩, ⟨vs10, o15⟩⟩ rx30 hm D' kN33 kC34 kB35 kR36
  have AU := Rp.mono (x23.gg.trans mk26) AU
  have Ad := Rp.mono (x23.gg.trans mk26) Ad
  have A7 := Rp.mono (x23.gg.trans mk26) A7
  refine E8 ?_
  refine bE hm fun ca43 h44 hm => ?_
  refine bE hm fun rz45 h46 hm => ?_
  refine sv_callW2 (K := K) (m := En) rfl rfl o7 o15 (by first | assumption | exact Ne.symm (by assumption)) (av_cons (A5 rfl rx30) (av_cons (A5 rfl Ad) (av_cons (A5 rfl A7) av_nil))) h44 h46 xt.gh fun G47 H48 G49 H50 vs53 vs54 x51 y52 o55 o56 => ?_
  have xt := (xt.trans x51).past (C := [p1, p9]) (fun b hb => by simp only [List.mem_cons, List.not_mem_nil, or_false] at hb; (first | (rcases hb with e | e <;> (rw [e]; assumption)) | (rw [hb]; assumption))) y52
  have mk26 := mk26.trans (x51.gg.trans y52.gg)
  cases hm
  exact kN33 _ _ _ _ rfl ⟨_, xt, mk26, rfl, ⟨_, o55⟩, ⟨_, o56⟩⟩
 ·rintro s24 _ G59 H60 rfl ⟨v57, xt, mk58, rfl, ⟨vs2, o7⟩, ⟨vs10, o15⟩⟩
  refine FQ ?_
  have AU := Rp.mono (x23.gg.trans mk58) AU
  have Ad := Rp.mono (x23.gg.trans mk58) Ad
  have A7 := Rp.mono (x23.gg.trans mk58) A7
  refine bE hm fun b61 h62 hm => ?_
  refine bE hm fun s66 h67 hm => ?_
  refine sv_join (fun S83 H82 => ∃ (G81 : Hp) , Ext G0 H0 G81 H82 ∧ Same G59 G81 ∧ S83 = [some Dq, some Ey, some Aa, some (V.ref p1), some (V.ref p9), v57, none] ∧ (∃ vs, Own K G81 H82 (V.ref p1) p1 vs s66) ∧ Own K G81 H82 (V.ref p9) p9 vs10 s24.2) (fun nx kn69 => ?_) ?_
  ·refine sv_ifB o7 (AJ (K := K) (DY (Cg (A5 rfl o7.tell)) Af)) h62 xt.gh fun G63 H64 x65 => ?_
   have xt := xt.trans x65
   have AU := Rp.mono x65.gg AU
   have Ad := Rp.mono x65.gg Ad
   have A7 := Rp.mono x65.gg A7
   have o7 := o7.ext x65
   have o15 := o15.ext x65
   have mk68 : Same G59 G63 := x65.gg
   have hm := h67
   cases b61 with
   | true =>
    replace hm := cT hm
    refine BR ?_
    refine bE hm fun a72 h73 hm => ?_
    refine bE hm fun z80 h74 hm => ?_
    refine Eh (K := K) rfl o7 (CD (m := DI) (A5 rfl Ad) (A5 rfl A7)) h73 h74 xt.gh fun G75 H76 w77 x78 o79 => ?_
    have xt : Ext G0 H0 G75 (upd H76 p1 (.lst (vs2 ++ [w77]))) := (xt.trans x78).put hz6 o79.g
    have mk68 := mk68.trans x78.gg
    have AU := Rp.mono x78.gg AU
    have Ad := Rp.mono x78.gg Ad
    have A7 := Rp.mono x78.gg A7
    have o15 := (o15.ext x78).put (q := p1) (ho := .lst (vs2 ++ [w77])) (by first | assumption | exact Ne.symm (by assumption))
    cases hm
    exact kn69 _ _ ⟨G75, xt, mk68, rfl, ⟨_, o79⟩, o15⟩
   | false =>
    replace hm := cF hm
    refine BQ ?_
    cases hm
    exact kn69 _ _ ⟨G63, xt, mk68, rfl, ⟨_, o7⟩, o15⟩
  ·rintro _ H82 ⟨G81, xt, mk68, rfl, ⟨vs2, o7⟩, o15⟩
   have AU := Rp.mono mk68 AU
   have Ad := Rp.mono mk68 Ad
   have A7 := Rp.mono mk68 A7
   refine bE hm fun fl84 h85 hm => ?_
   refine sv_while (K := K) (G := G81) (RR := fun r v G' H' => Ext G0 H0 G' H' ∧ Rp.rel K G' v r) h85 (fun s86 S' G' H' => ∃ (v87 : Option V), Ext G0 H0 G' H' ∧ Same G81 G' ∧ S' = [some Dq, some Ey, some Aa, some (V.ref p1), some (V.ref p9), v57, v87] ∧ (∃ vs, Own K G' H' (V.ref p1) p1 vs s86) ∧ Own K G' H' (V.ref p9) p9 vs10 s24.2) ⟨?_, ?_, ?_, ?_, ?_, ?_⟩
   ·exact ⟨_, xt, (Same.refl _), rfl, ⟨_, o7⟩, o15⟩
   ·rintro _ S' G' H' ⟨v87, xt, mk88, rfl, ⟨vs2, o7⟩, o15⟩
    exact xt.gh
   ·rintro s86 _ G89 H90 b' ⟨v87, xt, mk88, rfl, ⟨vs2, o7⟩, o15⟩ hc Q' k'
    refine TV.runB o7 (AJ (K := K) (Ee (Cg (A5 rfl o7.tell)) Af)) hc xt.gh fun G91 H92 x93 => ?_
    have xt := xt.trans x93
    have mk88 := mk88.trans x93.gg
    have o7 := o7.ext x93
    have o15 := o15.ext x93
    exact k' _ _ ⟨_, xt, mk88, rfl, ⟨_, o7⟩, o15⟩
   ·rintro s86 _ G95 H96 fl94 ⟨v87, xt, mk88, rfl, ⟨vs2, o7⟩, o15⟩ hm - D' kN97 kC98 kB99 kR100
    have AU := Rp.mono mk88 AU
    have Ad := Rp.mono mk88 Ad
    have A7 := Rp.mono mk88 A7
    refine bE hm fun pr101 h102 hm => ?_
    refine sv_pop (K := K) (a := pr101.1) (as' := pr101.2) rfl o7 h102 fun w103 r104 o105 => ?_
    have xt : Ext G0 H0 G95 (upd H96 p1 (.lst vs2.dropLast)) := xt.put hz6 o105.g
    have o15 := o15.put (q := p1) (ho := .lst vs2.dropLast) (by first | assumption | exact Ne.symm (by assumption))
    refine bE hm fun pr106 h107 hm => ?_
    refine bE hm fun a108 h109 hm => ?_
    refine bE hm fun z110 h111 hm => ?_
    refine sv_appendP (K := K) (as' := pr106.2) rfl o105 (pv_tupN (pl_there (bv_own o105.g (BK (FV.ev (CL (AB (Ak As) (AB (Ak As) (AB (Ak As) (AB (Ak As) (AB (Ak As) (Aq (α := Nt))))))))) (Bg (Cg (A5 rfl o105.tell))))) (pl_here (pv_pop (a := pr106.1) (as' := pr106.2) rfl h107) (AB (A5 rfl r104) (Aq (α := Nt)))))) h109 h111 xt.gh fun G112 H113 w114 y115 o116 => ?_
    have xt : Ext G0 H0 G112 (upd H113 p1 (.lst (vs2.dropLast.dropLast ++ [w114]))) := (xt.past (C := [p1]) (fun b hb => by rw [List.mem_singleton.mp hb]; exact hz6) y115).put hz6 o116.g
    have mk88 := mk88.trans y115.gg
    have AU := Rp.mono y115.gg AU
    have Ad := Rp.mono y115.gg Ad
    have A7 := Rp.mono y115.gg A7
    have o15 := (o15.past (by rw [List.mem_singleton]; exact (by first | assumption | exact Ne.symm (by assumption))) y115).put (q := p1) (ho := .lst (vs2.dropLast.dropLast ++ [w114])) (by first | assumption | exact Ne.symm (by assumption))
    cases hm
    exact kN97 _ _ _ _ rfl ⟨_, xt, mk88, rfl, ⟨_, o116⟩, o15⟩
   ·rintro s86 _ G125 H126 rfl ⟨v123, xt, mk124, rfl, ⟨vs2, o7⟩, o15⟩
    refine FQ ?_
    have AU := Rp.mono mk124 AU
    have Ad := Rp.mono mk124 Ad
    have A7 := Rp.mono mk124 A7
    have sf := Same.new (o := .lst vs2) o7.g
    have xt := xt.frz hz6 o7.g o7.h
    have r129 := o7.tell
    have AU := Rp.mono sf AU
    have Ad := Rp.mono sf Ad
    have A7 := Rp.mono sf A7
    have o15 := o15.over (o := .lst vs2) (by first | assumption | exact Ne.symm (by assumption)) o7.g
    exact Am (K := K) (BK (A5 rfl r129) Af) hm xt.gh fun v132 G133 H134 x135 r136 => q v132 G133 H134 (xt.trans x135) r136
   ·rintro r' v' G' H' rfl rl
    cases hm
    exact q v' G' H' rl.1 rl.2
 ·rintro r' v' G' H' rfl rl
  cases hm
  exact q v' G' H' rl.1 rl.2
theorem ok_law_cell_at {f : Addr} {fd : FuncData} (F : Fun K "_law_cell_at" "_law_cell_at" CW f fd) (T : Txt K mg) : FnOk P w K mg base CX0 1 f fd ["_law_script", "_law_k"] (spM K Au) := by
 refine F.ok sc_law_cell_at (fun vs H Q E h => (BL h).trans rfl) (fun cdv A outer s H0 vs Q E hr h => ?_)
 obtain ⟨G0, ⟨script_, ⟨k_, ⟨⟩⟩⟩, res, sg0, ⟨BU, _, rfl, AI, ⟨v_k_, _, rfl, Fc, rfl⟩⟩, hm, q⟩ := h
 replace AI : Rp.rel K G0 BU script_ := AI
 replace Fc : Rp.rel K G0 v_k_ k_ := Fc
 replace hm : Ay script_ k_ = some res := hm
 unfold Ay at hm
 have xt : Ext G0 H0 G0 H0 := Ext.refl sg0
 refine ⟨_, (A6 (Aw (AL GC (pv 1) (Ai (Ap (K := K) rfl) (by rfl) T.len_ Ba (A4 (pv 0) A9)) (AX _)) (A6 (AS (Ab (AD (K := K) rfl) (pv 0) (pv 1) (fun _ _ => rfl)))
   A8) A8)
   (A6 (AS AA)
   A8)), ?_⟩
 refine bE hm fun b1 h2 hm => ?_
 refine B9 (AJ (K := K) (Ee (A5 rfl Fc) (ev_lenX (A5 rfl AI)))) h2 xt.gh fun G3 H4 x5 => ?_
 have xt := xt.trans x5
 have AI := Rp.mono x5.gg AI
 have Fc := Rp.mono x5.gg Fc
 cases b1 with
 | true =>
  replace hm := cT hm
  refine BR ?_
  exact Am (K := K) (ev_atX (A5 rfl AI) (A5 rfl Fc)) hm xt.gh fun v8 G9 H10 x11 r12 => q v8 G9 H10 (xt.trans x11) r12
 | false =>
  replace hm := cF hm
  refine BQ ?_
  exact Am (K := K) (rest := C9) (σ := [some BU, some v_k_]) Af hm xt.gh fun v13 G14 H15 x16 r17 => q v13 G14 H15 (xt.trans x16) r17
theorem ok_law_stream {f : Addr} {fd : FuncData} (F : Fun K "_law_stream" "_law_stream" Ct f fd) (T : Txt K mg) : FnOk P w K mg base CX0 1 f fd ["_law_cell", "_law_many"] (spM K CY) := by
 refine F.ok sc_law_stream (fun vs H Q E h => (BL h).trans rfl) (fun cdv A outer s H0 vs Q E hr h => ?_)
 obtain ⟨G0, ⟨BZ, ⟨Bm, ⟨⟩⟩⟩, res, sg0, ⟨DU, _, rfl, AY, ⟨Er, _, rfl, Bj, rfl⟩⟩, hm, q⟩ := h
 replace AY : Rp.rel K G0 DU BZ := AY
 replace Bj : Rp.rel K G0 Er Bm := Bj
 replace hm : CM BZ Bm = some res := hm
 unfold CM at hm
 have xt : Ext G0 H0 G0 H0 := Ext.refl sg0
 refine ⟨_, (A6 (B0 (i := 2) sc_law_stream.nd rfl (Or.inl rfl) (CI A9))
   (A6 (B0 (i := 3) sc_law_stream.nd rfl (Or.inl rfl) (Ah (Ar (K := K) rfl) (Ah CC (pv 0) AA) AA))
   (A6 (Ed PassesOwn.never rfl (Bo rfl T.range_ (A4 (pv 1) A9)) (Cc (i := 4) sc_law_stream.nd rfl (Or.inl rfl)) (A6 (B0 (i := 3) sc_law_stream.nd rfl (Or.inl rfl) (Ah CC (Ah (Ar (K := K) rfl) (Ah (Ar (K := K) rfl) (Ah (op_mulK (K := K) rfl) (pv 3) (pv 3)) (Ah (op_mulK (K := K) rfl) AA (pv 3))) (pv 4)) AA))
   (A6 (DC (D3 (K := K) rfl PySem.F.plainAttrs_list PySem.F.slot_list_append PySem.F.type_list_append C3 (pv 2) (A4 (pv 3) A9)))
   A8)))
   (A6 (AS (pv 2))
   A8)))), ?_⟩
 refine bE hm fun numbers_ h8 hm => ?_
 refine Fp (K := K) (CL (Aq (α := Int))) h8 xt.gh fun p1 vs2 G3 H4 x5 hz6 o7 => ?_
 have hz6 := xt.hh.free hz6
 have xt := xt.trans x5
 have AY := Rp.mono x5.gg AY
 have Bj := Rp.mono x5.gg Bj
 refine bE hm fun CN h14 hm => ?_
 refine Bd (K := K) (Bh (Bg (A5 rfl AY)) Af) h14 xt.gh fun v9 G10 H11 x12 r13 => ?_
 have xt := xt.trans x12
 have Bj := Rp.mono x12.gg Bj
 have o7 := o7.ext x12
 refine bE hm fun as16 h17 hm => ?_
 refine bE hm fun fl18 h19 hm => ?_
 refine Ef (K := K) (RR := fun r v G' H' => Ext G0 H0 G' H' ∧ Rp.rel K G' v r) (Cy (A5 rfl Bj)) h17 h19 xt.gh fun G20 H21 x22 => ⟨fun s23 S' G' H' => ∃ (v24 : V) (v25 : Option V), Ext G0 H0 G' H' ∧ Same G20 G' ∧ S' = [some DU, some Er, some (V.ref p1), some v24, v25] ∧ (∃ vs, Own K G' H' (V.ref p1) p1 vs s23.1) ∧ Rp.rel K G' v24 (s23.2 : Int), ?_, ?_, ?_, ?_, ?_⟩
 ·have xt := xt.trans x22
  have o7 := o7.ext x22
  have r13 := Rp.mono x22.gg r13
  exact ⟨v9, _, xt, (Same.refl _), rfl, ⟨_, o7⟩, r13⟩
 ·rintro _ S' G' H' ⟨v24, v25, xt, mk26, rfl, ⟨vs2, o7⟩, r27⟩
  exact ⟨mk26, xt.gh⟩
 ·rintro xv28 a29 s23 _ G32 H33 fl30 - ⟨v24, v25, xt, mk26, rfl, ⟨vs2, o7⟩, r27⟩ rx31 hm D' kN34 kC35 kB36 kR37
  refine E8 ?_
  refine bE hm fun CN h48 hm => ?_
  refine Bd (K := K) (Bg (Bh (Bh (ev_mul (A5 rfl r27) (A5 rfl r27)) (ev_mulL (A5 rfl r27))) (A5 rfl rx31))) h48 xt.gh fun v43 G44 H45 x46 r47 => ?_
  have xt := xt.trans x46
  have mk26 := mk26.trans x46.gg
  have o7 := o7.ext x46
  refine bE hm fun a49 h50 hm => ?_
  refine bE hm fun z57 h51 hm => ?_
  refine Eh (K := K) rfl o7 (A5 rfl r47) h50 h51 xt.gh fun G52 H53 w54 x55 o56 => ?_
  have xt : Ext G0 H0 G52 (upd H53 p1 (.lst (vs2 ++ [w54]))) := (xt.trans x55).put hz6 o56.g
  have mk26 := mk26.trans x55.gg
  have r47 := Rp.mono x55.gg r47
  cases hm
  exact kN34 _ _ _ _ rfl ⟨v43, _, xt, mk26, rfl, ⟨_, o56⟩, r47⟩
 ·rintro s23 _ G62 H63 rfl ⟨v58, v59, xt, mk60, rfl, ⟨vs2, o7⟩, r61⟩
  refine FQ ?_
  have sf := Same.new (o := .lst vs2) o7.g
  have xt := xt.frz hz6 o7.g o7.h
  have r64 := o7.tell
  exact Am (K := K) (A5 rfl r64) hm xt.gh fun v65 G66 H67 x68 r69 => q v65 G66 H67 (xt.trans x68) r69
 ·rintro r' v' G' H' rfl rl
  cases hm
  exact q v' G' H' rl.1 rl.2
theorem ok_law_cells {f : Addr} {fd : FuncData} (F : Fun K "_law_cells" "_law_cells" DN f fd) (T : Txt K mg) (D_law_cell_at : DefOk P w K mg base "_law_cell_at" 1 ["_law_script", "_law_k"] (spM K Au)) (D_law_stream : DefOk P w K mg base "_law_stream" 1 ["_law_cell", "_law_many"] (spM K CY)) : FnOk P w K mg base CX0 2 f fd ["_law_script", "_law_start"] (spM K E5) := by
 refine F.ok sc_law_cells (fun vs H Q E h => (BL h).trans rfl) (fun cdv A outer s H0 vs Q E hr h => ?_)
 obtain ⟨G0, ⟨script_, ⟨Fo, ⟨⟩⟩⟩, res, sg0, ⟨BU, _, rfl, AI, ⟨v_start_, _, rfl, D6, rfl⟩⟩, hm, q⟩ := h
 replace AI : Rp.rel K G0 BU script_ := AI
 replace D6 : Rp.rel K G0 v_start_ Fo := D6
 replace hm : DO script_ Fo = some res := hm
 unfold DO at hm
 have xt : Ext G0 H0 G0 H0 := Ext.refl sg0
 refine ⟨_, (A6 (B0 (i := 2) sc_law_cells.nd rfl (Or.inl rfl) (Ae D_law_cell_at hr (by decide) rfl (A4 (pv 0) (A4 (pv 1) A9))))
   (A6 (Aw (AL Ax (Ah CC (pv 2) AA) AA (AX _)) (A6 (AS (Ci (E9 (K := K) rfl) (pv 0) (Cs (Ah (Ar (K := K) rfl) (pv 1) AA)) (Cs (Ah (Ar (K := K) rfl) (pv 1) AA))))
   A8) A8)
   (A6 (AS (Ae D_law_stream hr (by decide) rfl (A4 (Ae D_law_cell_at hr (by decide) rfl (A4 (pv 0) (A4 (Ah (Ar (K := K) rfl) (pv 1) AA) A9))) (A4 (Ah (Ar (K := K) rfl) AA (Ah CC (Ah DQ (pv 2) AA) AA)) A9))))
   A8))), ?_⟩
 refine bE hm fun BZ h8 hm => ?_
 refine Bd (K := K) (CD (m := Au) (A5 rfl AI) (A5 rfl D6)) h8 xt.gh fun v3 G4 H5 x6 r7 => ?_
 have xt := xt.trans x6
 have AI := Rp.mono x6.gg AI
 have D6 := Rp.mono x6.gg D6
 refine bE hm fun b9 h10 hm => ?_
 refine B9 (AJ (K := K) (DY (Bg (A5 rfl r7)) Af)) h10 xt.gh fun G11 H12 x13 => ?_
 have xt := xt.trans x13
 have AI := Rp.mono x13.gg AI
 have D6 := Rp.mono x13.gg D6
 have r7 := Rp.mono x13.gg r7
 cases b9 with
 | true =>
  replace hm := cT hm
  refine BR ?_
  exact Am (K := K) (FV.ev (fv_sliceX (A5 rfl AI) (Cz (K := K) (Bh (A5 rfl D6) Af)) (Cz (K := K) (Bh (A5 rfl D6) Af)))) hm xt.gh fun v17 G18 H19 x20 r21 => q v17 G18 H19 (xt.trans x20) r21
 | false =>
  replace hm := cF hm
  refine BQ ?_
  exact Am (K := K) (CD (m := CY) (CD (m := Au) (A5 rfl AI) (Bh (A5 rfl D6) Af)) (Bh Af (Bg (Dj (A5 rfl r7))))) hm xt.gh fun v26 G27 H28 x29 r30 => q v26 G27 H28 (xt.trans x29) r30
theorem ok_law_some {f : Addr} {fd : FuncData} (F : Fun K "_law_some" "_law_some" DW f fd) (T : Txt K mg) (D_law_built : DefOk P w K mg base "_law_built" 3 ["_law_cells_here", "_law_room", "_law_letters_here"] (spM K EC)) (D_law_cell_at : DefOk P w K mg base "_law_cell_at" 1 ["_law_script", "_law_k"] (spM K Au)) (D_law_cells : DefOk P w K mg base "_law_cells" 2 ["_law_script", "_law_start"] (spM K E5)) : FnOk P w K mg base CX0 4 f fd ["_law_script", "_law_letters_here"] (spM K EZ) := by
 refine F.ok sc_law_some (fun vs H Q E h => (BL h).trans rfl) (fun cdv A outer s H0 vs Q E hr h => ?_)
 obtain ⟨G0, ⟨script_, ⟨letters_here_, ⟨⟩⟩⟩, res, sg0, ⟨BU, _, rfl, AI, ⟨Aa, _, rfl, A7, rfl⟩⟩, hm, q⟩ := h
 replace AI : Rp.rel K G0 BU script_ := AI
 replace A7 : Rp.rel K G0 Aa letters_here_ := A7
 replace hm : Di script_ letters_here_ = some res := hm
 unfold Di at hm
 have xt : Ext G0 H0 G0 H0 := Ext.refl sg0
 refine ⟨_, (A6 (B0 (i := 2) sc_law_some.nd rfl (Or.inl rfl) (CI A9))
   (A6 (Ed PassesOwn.never rfl (Bo rfl T.range_ (A4 (Ah (Ar (K := K) rfl) AA (Ah CC (Ae D_law_cell_at hr (by decide) rfl (A4 (pv 0) (A4 AA A9))) AA)) A9)) (Cc (i := 3) sc_law_some.nd rfl (Or.inl rfl)) (A6 (B0 (i := 4) sc_law_some.nd rfl (Or.inl rfl) (Ah (Ar (K := K) rfl) AA (Ah CC (Ae D_law_cell_at hr (by decide) rfl (A4 (pv 0) (A4 (Ah (Ar (K := K) rfl) AA (pv 3)) A9))) AA)))
   (A6 (DC (D3 (K := K) rfl PySem.F.plainAttrs_list PySem.F.slot_list_append PySem.F.type_list_append C3 (pv 2) (A4 (Ae D_law_built hr (by decide) rfl (A4 (Ae D_law_cells hr (by decide) rfl (A4 (pv 0) (A4 (Ah (Ar (K := K) rfl) AA (Ah (op_mulK (K := K) rfl) AA (pv 3))) A9))) (A4 (pv 4) (A4 (pv 1) A9)))) A9)))
   A8)))
   (A6 (Aw (PW.pt (GG (AL op_gtU (Ai (Ap (K := K) rfl) (by rfl) T.len_ Ba (A4 (pv 2) A9)) AA (AX _)) (Fu (AL Ax (Ah CC (Ah DQ (Ae D_law_cell_at hr (by decide) rfl (A4 (pv 0) (A4 AA A9))) AA) AA) AA (AX _))))) (A6 (GE (Ab (AD (K := K) rfl) (pv 2) AA (fun _ _ => rfl)) (pg_sub (pv 2) (pe_un un_neg AA) FP))
   (A6 (Aw (PW.pt (GG (AL op_ne (Ab (AD (K := K) rfl) (Ab (AD (K := K) rfl) (pv 2) AA (fun _ _ => rfl)) AA (fun _ _ => rfl)) AG (AX _)) (GG (AL op_gtU (Ai (Ap (K := K) rfl) (by rfl) T.len_ Ba (A4 (Ab (AD (K := K) rfl) (pv 2) AA (fun _ _ => rfl)) A9)) AA (AX _)) (Fu (AL Ax (Ah CC (Ah DQ (Ae D_law_cell_at hr (by decide) rfl (A4 (pv 0) (A4 AA A9))) AA) AA) AA (AX _)))))) (A6 (GE (Ab (AD (K := K) rfl) (Ab (AD (K := K) rfl) (pv 2) AA (fun _ _ => rfl)) (pe_un un_neg AA) (fun _ _ => rfl)) (pg_sub (pv 2) (pe_un un_neg AA) FP))
   A8) A8)
   A8)) A8)
   (A6 (AS (pv 2))
   A8)))), ?_⟩
 refine bE hm fun some_here_ h8 hm => ?_
 refine Fp (K := K) (CL (Aq (α := Nt))) h8 xt.gh fun p1 vs2 G3 H4 x5 hz6 o7 => ?_
 have hz6 := xt.hh.free hz6
 have xt := xt.trans x5
 have AI := Rp.mono x5.gg AI
 have A7 := Rp.mono x5.gg A7
 refine bE hm fun as14 h15 hm => ?_
 refine bE hm fun fl16 h17 hm => ?_
 refine Ef (K := K) (RR := fun r v G' H' => Ext G0 H0 G' H' ∧ Rp.rel K G' v r) (Cy (Bh Af (Bg (CD (m := Au) (A5 rfl AI) Af)))) h15 h17 xt.gh fun G18 H19 x20 => ⟨fun s21 S' G' H' => ∃ (v22 : Option V) (v23 : Option V), Ext G0 H0 G' H' ∧ Same G18 G' ∧ S' = [some BU, some Aa, some (V.ref p1), v22, v23] ∧ (∃ vs, Own K G' H' (V.ref p1) p1 vs s21), ?_, ?_, ?_, ?_, ?_⟩
 ·have xt := xt.trans x20
  have o7 := o7.ext x20
  exact ⟨_, _, xt, (Same.refl _), rfl, ⟨_, o7⟩⟩
 ·rintro _ S' G' H' ⟨v22, v23, xt, mk24, rfl, ⟨vs2, o7⟩⟩
  exact ⟨mk24, xt.gh⟩
 ·rintro xv25 a26 s21 _ G29 H30 fl27 - ⟨v22, v23, xt, mk24, rfl, ⟨vs2, o7⟩⟩ rx28 hm D' kN31 kC32 kB33 kR34
  have AI := Rp.mono (x20.gg.trans mk24) AI
  have A7 := Rp.mono (x20.gg.trans mk24) A7
  refine E8 ?_
  refine bE hm fun EW h44 hm => ?_
  refine Bd (K := K) (Bh Af (Bg (CD (m := Au) (A5 rfl AI) (Bh Af (A5 rfl rx28))))) h44 xt.gh fun v39 G40 H41 x42 r43 => ?_
  have xt := xt.trans x42
  have mk24 := mk24.trans x42.gg
  have AI := Rp.mono x42.gg AI
  have A7 := Rp.mono x42.gg A7
  have o7 := o7.ext x42
  have rx28 := Rp.mono x42.gg rx28
  refine bE hm fun a50 h51 hm => ?_
  refine bE hm fun z58 h52 hm => ?_
  refine Eh (K := K) rfl o7 (Eb (m := EC) (CD (m := E5) (A5 rfl AI) (Bh Af (ev_mulL (A5 rfl rx28)))) (A5 rfl r43) (A5 rfl A7)) h51 h52 xt.gh fun G53 H54 w55 x56 o57 => ?_
  have xt : Ext G0 H0 G53 (upd H54 p1 (.lst (vs2 ++ [w55]))) := (xt.trans x56).put hz6 o57.g
  have mk24 := mk24.trans x56.gg
  cases hm
  exact kN31 _ _ _ _ rfl ⟨_, _, xt, mk24, rfl, ⟨_, o57⟩⟩
 ·rintro s21 _ G62 H63 rfl ⟨v59, v60, xt, mk61, rfl, ⟨vs2, o7⟩⟩
  refine FQ ?_
  have AI := Rp.mono (x20.gg.trans mk61) AI
  refine bE hm fun b76 h77 hm => ?_
  refine bE hm fun s81 h82 hm => ?_
  refine sv_join (fun S178 H177 => ∃ (G176 : Hp) , Ext G0 H0 G176 H177 ∧ Same G62 G176 ∧ S178 = [some BU, some Aa, some (V.ref p1), v59, v60] ∧ (∃ vs, Own K G176 H177 (V.ref p1) p1 vs s81)) (fun nx kn84 => ?_) ?_
  ·refine sv_ifB o7 (GF (AJ (K := K) (Ee (Cg (A5 rfl o7.tell)) Af)) (AJ (K := K) (DY (Bg (Dj (CD (m := Au) (A5 rfl (Rp.mono (Same.new o7.g) AI)) Af))) Af))) h77 xt.gh fun G78 H79 x80 => ?_
   have xt := xt.trans x80
   have AI := Rp.mono x80.gg AI
   have o7 := o7.ext x80
   have mk83 : Same G62 G78 := x80.gg
   have hm := h82
   cases b76 with
   | true =>
    replace hm := cT hm
    refine BR ?_
    refine bE hm fun a89 h90 hm => ?_
    refine bE hm fun k91 h92 hm => ?_
    refine bE hm fun z100 h93 hm => ?_
    refine Dx (K := K) rfl o7 (BK (A5 rfl o7.tell) Af) h90 (ev_neg Af) h92 h93 xt.gh fun G94 H95 w96 j97 x98 o99 => ?_
    have xt : Ext G0 H0 G94 (upd H95 p1 (.lst (vs2.set j97 w96))) := (xt.trans x98).put hz6 o99.g
    have mk83 := mk83.trans x98.gg
    have AI := Rp.mono x98.gg AI
    refine bE hm fun b149 h150 hm => ?_
    refine sv_ifB o99 (GF (AJ (K := K) (ev_neS (D4 (B8 (BE (BK (A5 rfl o99.tell) Af)) Af)) As)) (GF (AJ (K := K) (Ee (FS (BE (BK (A5 rfl o99.tell) Af))) Af)) (AJ (K := K) (DY (Bg (Dj (CD (m := Au) (A5 rfl (Rp.mono (Same.new o99.g) AI)) Af))) Af)))) h150 xt.gh fun G151 H152 x153 => ?_
    have xt := xt.trans x153
    have mk83 := mk83.trans x153.gg
    have o99 := o99.ext x153
    cases b149 with
    | true =>
     replace hm := cT hm
     refine BR ?_
     refine bE hm fun a164 h165 hm => ?_
     refine bE hm fun k166 h167 hm => ?_
     refine bE hm fun z175 h168 hm => ?_
     refine Dx (K := K) rfl o99 (B8 (BE (BK (A5 rfl o99.tell) Af)) (ev_neg Af)) h165 (ev_neg Af) h167 h168 xt.gh fun G169 H170 w171 j172 x173 o174 => ?_
     have xt : Ext G0 H0 G169 (upd H170 p1 (.lst ((vs2.set j97 w96).set j172 w171))) := (xt.trans x173).put hz6 o174.g
     have mk83 := mk83.trans x173.gg
     cases hm
     exact kn84 _ _ ⟨G169, xt, mk83, rfl, ⟨_, o174⟩⟩
    | false =>
     replace hm := cF hm
     refine BQ ?_
     cases hm
     exact kn84 _ _ ⟨G151, xt, mk83, rfl, ⟨_, o99⟩⟩
   | false =>
    replace hm := cF hm
    refine BQ ?_
    cases hm
    exact kn84 _ _ ⟨G78, xt, mk83, rfl, ⟨_, o7⟩⟩
  ·rintro _ H177 ⟨G176, xt, mk83, rfl, ⟨vs2, o7⟩⟩
   have sf := Same.new (o := .lst vs2) o7.g
   have xt := xt.frz hz6 o7.g o7.h
   have r179 := o7.tell
   exact Am (K := K) (A5 rfl r179) hm xt.gh fun v180 G181 H182 x183 r184 => q v180 G181 H182 (xt.trans x183) r184
 ·rintro r' v' G' H' rfl rl
  cases hm
  exact q v' G' H' rl.1 rl.2
theorem ok_law_lit {f : Addr} {fd : FuncData} (F : Fun K "_law_lit" "_law_lit" EE f fd) (T : Txt K mg) (D_law_stream : DefOk P w K mg base "_law_stream" 1 ["_law_cell", "_law_many"] (spM K CY)) : FnOk P w K mg base CX0 2 f fd ["_law_cell", "_law_many", "_law_letters_here"] (spM K Ex) := by
 refine F.ok sc_law_lit (fun vs H Q E h => (BL h).trans rfl) (fun cdv A outer s H0 vs Q E hr h => ?_)
 obtain ⟨G0, ⟨BZ, ⟨Bm, ⟨letters_here_, ⟨⟩⟩⟩⟩, res, sg0, ⟨DU, _, rfl, AY, ⟨Er, _, rfl, Bj, ⟨Aa, _, rfl, A7, rfl⟩⟩⟩, hm, q⟩ := h
 replace AY : Rp.rel K G0 DU BZ := AY
 replace Bj : Rp.rel K G0 Er Bm := Bj
 replace A7 : Rp.rel K G0 Aa letters_here_ := A7
 replace hm : EI BZ Bm letters_here_ = some res := hm
 unfold EI at hm
 have xt : Ext G0 H0 G0 H0 := Ext.refl sg0
 refine ⟨_, (A6 (B0 (i := 3) sc_law_lit.nd rfl (Or.inl rfl) (Ah (Ar (K := K) rfl) (pv 2) (Ab (AD (K := K) rfl) (CI (A4 AG (A4 AG A9))) (Ah CC (pv 0) AA) (fun _ _ => rfl))))
   (A6 (B0 (i := 4) sc_law_lit.nd rfl (Or.inl rfl) (CI A9))
   (A6 (Ed PassesOwn.never rfl (D1 (K := K) rfl (Ae D_law_stream hr (by decide) rfl (A4 (pv 0) (A4 (pv 1) A9)))) (Cc (i := 5) sc_law_lit.nd rfl (Or.inr rfl)) (A6 (DC (D3 (K := K) rfl PySem.F.plainAttrs_list PySem.F.slot_list_append PySem.F.type_list_append C3 (pv 4) (A4 (D3 (K := K) rfl PySem.F.plainAttrs_str PySem.F.slot_str_join PySem.F.type_str_join (FI (K := K) rfl) AG (A4 (pe_comp2 (cn := ["_law_number"]) (cap := [5]) rfl ⟨by decide +kernel, rfl, by decide +kernel, C7 rfl⟩ rfl rfl (by decide +kernel) ⟨⟨rfl, .inl rfl, rfl⟩, trivial⟩ (pi_enumS rfl T.enumerate_ (A4 (pv 3) A9)) (fun C s0 H0 fp => ⟨(Fy (AL Ax (Ah CC (Ah DQ (pv 2) (Ab (AD (K := K) rfl) (CI (A4 AA (A4 AA (A4 AA (A4 AA (A4 AA A9)))))) (pv 0) (fun _ _ => rfl))) AA) AA (AX _))), (pv 1)⟩)) A9)) A9)))
   A8))
   (A6 (AS (pv 4))
   A8)))), ?_⟩
 refine bE hm fun some_here_ h10 hm => ?_
 refine Bd (K := K) (ev_catS (A5 rfl A7) (BK (FV.ev (CL (AB As (AB As (Aq (α := Str)))))) (Bg (A5 rfl AY)))) h10 xt.gh fun v5 G6 H7 x8 r9 => ?_
 have xt := xt.trans x8
 have AY := Rp.mono x8.gg AY
 have Bj := Rp.mono x8.gg Bj
 refine bE hm fun lit_here_ h18 hm => ?_
 refine Fp (K := K) (CL (Aq (α := Str))) h18 xt.gh fun p11 vs12 G13 H14 x15 hz16 o17 => ?_
 have hz16 := xt.hh.free hz16
 have xt := xt.trans x15
 have AY := Rp.mono x15.gg AY
 have Bj := Rp.mono x15.gg Bj
 have r9 := Rp.mono x15.gg r9
 refine bE hm fun as21 h22 hm => ?_
 refine bE hm fun fl23 h24 hm => ?_
 refine Ef (K := K) (RR := fun r v G' H' => Ext G0 H0 G' H' ∧ Rp.rel K G' v r) (Dn (CD (m := CY) (A5 rfl AY) (A5 rfl Bj))) h22 h24 xt.gh fun G25 H26 x27 => ⟨fun s28 S' G' H' => ∃ (v29 : Option V), Ext G0 H0 G' H' ∧ Same G25 G' ∧ S' = [some DU, some Er, some Aa, some v5, some (V.ref p11), v29] ∧ (∃ vs, Own K G' H' (V.ref p11) p11 vs s28), ?_, ?_, ?_, ?_, ?_⟩
 ·have xt := xt.trans x27
  have o17 := o17.ext x27
  exact ⟨_, xt, (Same.refl _), rfl, ⟨_, o17⟩⟩
 ·rintro _ S' G' H' ⟨v29, xt, mk30, rfl, ⟨vs12, o17⟩⟩
  exact ⟨mk30, xt.gh⟩
 ·rintro xv31 a32 s28 _ G35 H36 fl33 - ⟨v29, xt, mk30, rfl, ⟨vs12, o17⟩⟩ rx34 hm D' kN37 kC38 kB39 kR40
  have r9 := Rp.mono (x27.gg.trans mk30) r9
  refine E8 ?_
  refine bE hm fun a55 h56 hm => ?_
  refine bE hm fun z63 h57 hm => ?_
  refine Eh (K := K) rfl o17 (Fq As (FV.ev (fv_comp2 (cap := [5]) (fc := fun (pc45 : (Int × Str)) => ((((some a32).bind fun t48 => ((some [(1 : Int), (3 : Int), (9 : Int), (27 : Int), (81 : Int)]).bind fun t46 => (some pc45.1).bind fun t47 => atI t46 t47).bind fun t49 => divO t48 t49).bind fun t50 => (some (t50 % (3 : Int)))).bind fun t51 => (some (decide (t51 = (1 : Int)))))) (fe := fun (pc45 : (Int × Str)) => (some pc45.2)) (if_str (A5 rfl r9)) fun xc44 pc45 Gc41 sc42 rc43 => ⟨(AJ (K := K) (DY (Bg (ev_div (A5 rfl (Rp.mono sc42 rx34)) (BK (FV.ev (CL (AB Af (AB Af (AB Af (AB Af (AB Af (Aq (α := Int))))))))) (A5 rfl (rel_i (K := K) Gc41 pc45.1))))) Af)), (A5 rfl rc43)⟩))) h56 h57 xt.gh fun G58 H59 w60 x61 o62 => ?_
  have xt : Ext G0 H0 G58 (upd H59 p11 (.lst (vs12 ++ [w60]))) := (xt.trans x61).put hz16 o62.g
  have mk30 := mk30.trans x61.gg
  cases hm
  exact kN37 _ _ _ _ rfl ⟨_, xt, mk30, rfl, ⟨_, o62⟩⟩
 ·rintro s28 _ G66 H67 rfl ⟨v64, xt, mk65, rfl, ⟨vs12, o17⟩⟩
  refine FQ ?_
  have sf := Same.new (o := .lst vs12) o17.g
  have xt := xt.frz hz16 o17.g o17.h
  have r68 := o17.tell
  exact Am (K := K) (A5 rfl r68) hm xt.gh fun v69 G70 H71 x72 r73 => q v69 G70 H71 (xt.trans x72) r73
 ·rintro r' v' G' H' rfl rl
  cases hm
  exact q v' G' H' rl.1 rl.2
theorem ok_parts_of {f : Addr} {fd : FuncData} (F : Fun K "parts_of" "parts_of" Dd f fd) (T : Txt K mg) : FnOk P w K mg base CX0 1 f fd ["sentence"] (spM K DM) := by
 refine F.ok sc_parts_of (fun vs H Q E h => (BL h).trans rfl) (fun cdv A outer s H0 vs Q E hr h => ?_)
 obtain ⟨G0, ⟨An, ⟨⟩⟩, res, sg0, ⟨Bn, _, rfl, AT, rfl⟩, hm, q⟩ := h
 replace AT : Rp.rel K G0 Bn An := AT
 replace hm : AZ An = some res := hm
 unfold AZ at hm
 have xt : Ext G0 H0 G0 H0 := Ext.refl sg0
 refine ⟨_, (A6 (Aw (AL Ax (Ab (AD (K := K) rfl) (pv 0) AA (fun _ _ => rfl)) AG (AX _)) (A6 (AS (BI A9))
   A8) A8)
   (A6 (AS (Ci (sl_tupK (K := K) rfl) (pv 0) (Cs AA) E6))
   A8)), ?_⟩
 refine bE hm fun b9 h10 hm => ?_
 refine B9 (AJ (K := K) (Av (D4 (B8 (BE (A5 rfl AT)) Af)) As)) h10 xt.gh fun G11 H12 x13 => ?_
 have xt := xt.trans x13
 have AT := Rp.mono x13.gg AT
 cases b9 with
 | true =>
  replace hm := cT hm
  refine BR ?_
  exact Am (K := K) (rest := C9) (σ := [some Bn]) (ev_tupL (Aq (α := Nt))) hm xt.gh fun v14 G15 H16 x17 r18 => q v14 G15 H16 (xt.trans x17) r18
 | false =>
  replace hm := cF hm
  refine BQ ?_
  exact Am (K := K) (ev_sliceT (BE (A5 rfl AT)) (Cz (K := K) Af) E3) hm xt.gh fun v23 G24 H25 x26 r27 => q v23 G24 H25 (xt.trans x26) r27
theorem ok_row_number {f : Addr} {fd : FuncData} (F : Fun K "row_number" "row_number" Cr f fd) (T : Txt K mg) : FnOk P w K mg base CX0 1 f fd ["rows", "numbers", "row"] (spB K DH) := by
 refine F.ok sc_row_number (fun vs H Q E h => (spB_len h).trans rfl) (fun cdv A outer s H0 vs Q E hr h => ?_)
 obtain ⟨G0, p, q, v, xs, rows, a, r, rfl, sg, o, rv, hm, k⟩ := h
 refine ⟨_, (A6 (Aw (pt_cmp (pc_dnotin (room_u hr) (pv 2) (pv 1))) (A6 (ps_dput (room_u hr) (pv 1) (pv 2) (Ai (Ap (K := K) rfl) (by rfl) T.len_ Ba (A4 (pv 0) A9)) rfl)
   (A6 (DC (D3 (K := K) rfl PySem.F.plainAttrs_list PySem.F.slot_list_append PySem.F.type_list_append C3 (pv 0) (A4 (pv 2) A9))) A8)) A8)
   (A6 (AS (pe_dget (room_u hr) (pv 1) (pv 2) (fun _ _ => rfl))) A8)), ?_⟩
 exact rown_body sg o rv hm k
theorem ok0_lay {f : Addr} {fd : FuncData} (F : Fun K "lay" "lay" s_lay f fd) : FnOk P w K mg base CX0 2 f fd ["rows", "numbers", "sentence"] (spB K (EM AZ 0)) := by
 refine F.ok sc_lay (fun vs H Q E h => (spB_len h).trans rfl) (fun cdv A outer s H0 vs Q E hr h => ?_)
 obtain ⟨_, _, _, _, _, _, _, _, _, _, _, _, hm, _⟩ := h
 exact nomatch (hm : none = some _)
theorem ok_lay {f : Addr} {fd : FuncData} (F : Fun K "lay" "lay" s_lay f fd) (T : Txt K mg) (D_parts_of : DefOk P w K mg base "parts_of" 1 ["sentence"] (spM K DM)) (D_row_number : DefOk P w K mg base "row_number" 1 ["rows", "numbers", "row"] (spB K DH)) (CT : Nat) (D_lay : DefOk P w K mg base "lay" (2 + CT) ["rows", "numbers", "sentence"] (spB K (EM AZ CT))) : FnOk P w K mg base CX0 (2 + CT + 1) f fd ["rows", "numbers", "sentence"] (spB K (EM AZ (CT + 1))) := by
 refine F.ok sc_lay (fun vs H Q E h => (spB_len h).trans rfl) (fun cdv A outer s H0 vs Q E hr h => ?_)
 obtain ⟨G0, p, q, v, xs, rows, a, r, rfl, sg, o, rv, hm, k⟩ := h
 refine ⟨_, (A6 (Aw (AL Ax (Ab (AD (K := K) rfl) (pv 2) AA (fun _ _ => rfl)) AG (AX _)) (A6 (AS (Ae D_row_number hr (by omega) rfl (A4 (pv 0) (A4 (pv 1) (A4 (pv 2) A9))))) A8) A8)
   (A6 (B0 (i := 3) sc_lay.nd rfl (Or.inl rfl) (BI (A4 (Ab (AD (K := K) rfl) (pv 2) AA (fun _ _ => rfl)) A9)))
   (A6 (Ed PassesOwn.never rfl (D1 (K := K) rfl (Ae D_parts_of hr (by omega) rfl (A4 (pv 2) A9))) (Cc (i := 4) sc_lay.nd rfl (Or.inl rfl))
    (A6 (B0 (i := 3) sc_lay.nd rfl (Or.inl rfl) (Ah (op_catTp (K := K) rfl) (pv 3) (BI (A4 (Ae D_lay hr (by omega) rfl (A4 (pv 0) (A4 (pv 1) (A4 (pv 4) A9)))) A9)))) A8))
   (A6 (AS (Ae D_row_number hr (by omega) rfl (A4 (pv 0) (A4 (pv 1) (A4 (pv 3) A9))))) A8)))), ?_⟩
 exact lay_body (pm := AZ) (mp := DM) (fun _ => rfl) sg o rv hm k
theorem ok_book_of {f : Addr} {fd : FuncData} (F : Fun K "book_of" "book_of" EF f fd) (T : Txt K mg) (D_lay : DefOk P w K mg base "lay" 162 ["rows", "numbers", "sentence"] (spB K (EM AZ 160))) : FnOk P w K mg base CX0 163 f fd ["some"] (spN K Eu) := by
 refine F.ok sc_book_of (fun vs H Q E h => (spN_len h).trans rfl) (fun cdv A outer s H0 vs Q E hr h => ?_)
 obtain ⟨G0, ⟨some_, ⟨⟩⟩, r, sg, ⟨v, _, rfl, rv, rfl⟩, hm, k⟩ := h
 refine ⟨_, (A6 (B0 (i := 1) sc_book_of.nd rfl (Or.inr rfl) (CI A9))
   (A6 (B0 (i := 2) sc_book_of.nd rfl (Or.inr rfl) pe_dnewT)
   (A6 (ps_setcomp (i := 3) sc_book_of.nd rfl (Or.inl rfl) (cn := ["rows", "numbers"]) (cap := [1, 2]) rfl ⟨by decide +kernel, rfl, by decide +kernel, C7 rfl⟩ rfl (by decide +kernel) ⟨⟨rfl, .inl rfl, rfl⟩, ⟨rfl, .inl rfl, rfl⟩, trivial⟩ (D1 (K := K) rfl (pv 0)) (fun C s0 H0 fp => ⟨D9, (Ae D_lay hr (by decide) rfl (A4 (pv 1) (A4 (pv 2) (A4 (pv 0) A9))))⟩))
   (A6 (AS (BI (A4 (pv 1) (A4 (pv 3) A9)))) A8)))), ?_⟩
 exact book_bodyR sg rv hm k
theorem ok_law_row_fits {f : Addr} {fd : FuncData} (F : Fun K "_law_row_fits" "_law_row_fits" CF f fd) (T : Txt K mg) : FnOk P w K mg base CX0 1 f fd ["_law_row", "_law_k"] (spM K DA) := by
 refine F.ok sc_law_row_fits (fun vs H Q E h => (BL h).trans rfl) (fun cdv A outer s H0 vs Q E hr h => ?_)
 obtain ⟨G0, ⟨row_, ⟨k_, ⟨⟩⟩⟩, res, sg0, ⟨v_row_, _, rfl, B1, ⟨v_k_, _, rfl, Fc, rfl⟩⟩, hm, q⟩ := h
 replace B1 : Rp.rel K G0 v_row_ row_ := B1
 replace Fc : Rp.rel K G0 v_k_ k_ := Fc
 replace hm : CG row_ k_ = some res := hm
 unfold CG at hm
 have xt : Ext G0 H0 G0 H0 := Ext.refl sg0
 refine ⟨_, (A6 (Aw (PW.pt (pw_or (pt_not (DZ (K := K) rfl (Ai (call_instK (K := K) rfl) (by rfl) T.isinstance_ bt_isinstance (A4 (pv 0) (A4 (pe_bltn (v := .ty "tuple") rfl T.tuple_ bt_tuple rfl) A9))) (fun _ => rfl))) (Fi (AL (op_notInK (K := K) rfl) (Ab (AD (K := K) rfl) (pv 0) AA (fun _ _ => rfl)) (CI (A4 AG (A4 AG (A4 AG (A4 AG (A4 AG (A4 AG A9))))))) rfl)))) (A6 (AS FF)
   A8) A8)
   (A6 (Aw (PW.pt (pw_or (AL Ax (Ab (AD (K := K) rfl) (pv 0) AA (fun _ _ => rfl)) AG (AX _)) (Fi (AL Ax (Ab (AD (K := K) rfl) (pv 0) AA (fun _ _ => rfl)) AG (AX _))))) (A6 (AS (Dr Ax (Ai (Ap (K := K) rfl) (by rfl) T.len_ Ba (A4 (pv 0) A9)) (Ab (ix_bool (K := K) rfl) (CI (A4 AA (A4 AA A9))) (Dr Ax (Ab (AD (K := K) rfl) (pv 0) AA (fun _ _ => rfl)) AG (AX _)) (fun _ _ => rfl)) (AX _)))
   A8) A8)
   (A6 (Aw (AL op_ne (Ai (Ap (K := K) rfl) (by rfl) T.len_ Ba (A4 (pv 0) A9)) (Ab (ix_bool (K := K) rfl) (CI (A4 AA (A4 AA A9))) (pe_or (Dr Ax (Ab (AD (K := K) rfl) (pv 0) AA (fun _ _ => rfl)) AG (AX _)) (pe_one (Dr Ax (Ab (AD (K := K) rfl) (pv 0) AA (fun _ _ => rfl)) AG (AX _)))) (fun _ _ => rfl)) (AX _)) (A6 (AS FF)
   A8) A8)
   (A6 (AS (Dr Ax (Ai (Ap (K := K) rfl) (by rfl) T.len_ Ba (A4 (Cb (cn := ["_law_k"]) (cap := [1]) rfl ⟨by decide +kernel, rfl, by decide +kernel, C7 rfl⟩ rfl (by decide +kernel) ⟨⟨rfl, .inl rfl, rfl⟩, trivial⟩ (D1 (K := K) rfl (Ci (sl_tupK (K := K) rfl) (pv 0) (Cs AA) E6)) (fun C s0 H0 fp => ⟨(Fy (PW.pt (GG (DZ (K := K) rfl (Ai (call_instK (K := K) rfl) (by rfl) T.isinstance_ bt_isinstance (A4 (pv 0) (A4 (pe_bltn (v := .ty "int") rfl T.int_ bt_int rfl) A9))) (fun _ => rfl)) (Fu (pt_chain op_leU GC AA (pv 0) (pv 1)))))), (pv 0)⟩)) A9)) (Ah op_sub (Ai (Ap (K := K) rfl) (by rfl) T.len_ Ba (A4 (pv 0) A9)) AA) (AX _)))
   A8)))), ?_⟩
 refine bE hm fun b8 h9 hm => ?_
 refine B9 (tv_or (tv_not (tv_b (K := K) (ev_inst (b := true) (by decide +kernel) (A5 rfl B1)))) (AJ (K := K) (ev_notInL (DR (B8 (CB (A5 rfl B1)) Af)) (FV.ev (CL (AB As (AB As (AB As (AB As (AB As (AB As (Aq (α := Str))))))))))))) h9 xt.gh fun G10 H11 x12 => ?_
 have xt := xt.trans x12
 have B1 := Rp.mono x12.gg B1
 have Fc := Rp.mono x12.gg Fc
 cases b8 with
 | true =>
  replace hm := cT hm
  refine BR ?_
  exact Am (K := K) (rest := C9) (σ := [some v_row_, some v_k_]) GP hm xt.gh fun v13 G14 H15 x16 r17 => q v13 G14 H15 (xt.trans x16) r17
 | false =>
  replace hm := cF hm
  refine BQ ?_
  refine bE hm fun b31 h32 hm => ?_
  refine B9 (tv_or (AJ (K := K) (Av (DR (B8 (CB (A5 rfl B1)) Af)) As)) (AJ (K := K) (Av (DR (B8 (CB (A5 rfl B1)) Af)) As))) h32 xt.gh fun G33 H34 x35 => ?_
  have xt := xt.trans x35
  have B1 := Rp.mono x35.gg B1
  have Fc := Rp.mono x35.gg Fc
  cases b31 with
  | true =>
   replace hm := cT hm
   refine BR ?_
   exact Am (K := K) (DY (FS (CB (A5 rfl B1))) (ev_atB (FV.ev (CL (AB Af (AB Af (Aq (α := Int)))))) (Av (DR (B8 (CB (A5 rfl B1)) Af)) As))) hm xt.gh fun v54 G55 H56 x57 r58 => q v54 G55 H56 (xt.trans x57) r58
  | false =>
   replace hm := cF hm
   refine BQ ?_
   refine bE hm fun b91 h92 hm => ?_
   refine B9 (AJ (K := K) (ev_neI (FS (CB (A5 rfl B1))) (ev_atB (FV.ev (CL (AB Af (AB Af (Aq (α := Int)))))) (ev_or (Av (DR (B8 (CB (A5 rfl B1)) Af)) As) (Av (DR (B8 (CB (A5 rfl B1)) Af)) As))))) h92 xt.gh fun G93 H94 x95 => ?_
   have xt := xt.trans x95
   have B1 := Rp.mono x95.gg B1
   have Fc := Rp.mono x95.gg Fc
   cases b91 with
   | true =>
    replace hm := cT hm
    refine BR ?_
    exact Am (K := K) (rest := C9) (σ := [some v_row_, some v_k_]) GP hm xt.gh fun v96 G97 H98 x99 r100 => q v96 G97 H98 (xt.trans x99) r100
   | false =>
    replace hm := cF hm
    refine BQ ?_
    exact Am (K := K) (DY (Cg (FV.ev (Ft (cap := [1]) (fc := fun (DP : SI) => ((some (isK "int" (ToD.to DP))).bind fun t114 => cond t114 ((some (0 : Int)).bind fun t111 => ((some DP).bind fun t109 => asI t109).bind fun t112 => cond (decide (t111 ≤ t112)) ((some k_).bind fun t113 => some (decide (t112 < t113))) (some false)) (some false))) (fe := fun (DP : SI) => (some DP)) (iw_tup (ev_sliceT (CB (A5 rfl B1)) (Cz (K := K) Af) E3)) fun xc108 DP Gc105 sc106 rc107 => ⟨(GF (tv_b (K := K) (ev_instD (by decide) (ev_toD (A5 rfl rc107)))) (AJ (K := K) (ev_chain Af (ev_asI (A5 rfl rc107)) (A5 rfl (Rp.mono sc106 Fc))))), (A5 rfl rc107)⟩))) (ev_sub (FS (CB (A5 rfl B1))) Af)) hm xt.gh fun v118 G119 H120 x121 r122 => q v118 G119 H120 (xt.trans x121) r122
theorem ok_law_truths_of_one {f : Addr} {fd : FuncData} (F : Fun K "_law_truths_of_one" "_law_truths_of_one" BO f fd) (T : Txt K mg) : FnOk P w K mg base CX0 1 f fd ["_law_word", "_law_one", "_law_stem"] (spL K BH) := by
 refine F.ok sc_law_truths_of_one (fun vs H Q E h => (Fx h).trans rfl) (fun cdv A outer s H0 vs Q E hr h => ?_)
 obtain ⟨G0, ⟨B2, ⟨one_, ⟨Az, ⟨⟩⟩⟩⟩, res, sg0, ⟨Et, _, rfl, AN, ⟨DD, _, rfl, Ac, ⟨Cw, _, rfl, AE, rfl⟩⟩⟩, hm, q⟩ := h
 replace AN : Rp.rel K G0 Et B2 := AN
 replace Ac : Rp.rel K G0 DD one_ := Ac
 replace AE : Rp.rel K G0 Cw Az := AE
 replace hm : AH B2 one_ Az = some res := hm
 unfold AH at hm
 have xt : Ext G0 H0 G0 H0 := Ext.refl sg0
 refine ⟨_, (A6 (B0 (i := 3) sc_law_truths_of_one.nd rfl (Or.inl rfl) (Ai (Ap (K := K) rfl) (by rfl) T.len_ Ba (A4 (pv 1) A9)))
   (A6 (Aw (AL Ax (pv 0) AG (AX _)) (A6 (AS (Cb (cn := ["_law_one"]) (cap := [1]) rfl ⟨by decide +kernel, rfl, by decide +kernel, C7 rfl⟩ rfl (by decide +kernel) ⟨⟨rfl, .inl rfl, rfl⟩, trivial⟩ (Bo rfl T.range_ (A4 (pv 3) A9)) (fun C s0 H0 fp => ⟨D9, (pe_not (Ab (AD (K := K) rfl) (pv 1) (pv 0) (fun _ _ => rfl)))⟩)))
   A8) A8)
   (A6 (Aw (AL Ax (pv 0) AG (AX _)) (A6 (AS (Ah (Ar (K := K) rfl) (Ci (E9 (K := K) rfl) (pv 1) (Cs AA) E6) (CI (A4 (Ab (AD (K := K) rfl) (pv 1) (pv 2) (fun _ _ => rfl)) A9))))
   A8) A8)
   (A6 (Aw (AL Ax (pv 0) AG (AX _)) (A6 (AS (Cb (cn := ["_law_one", "_law_stem"]) (cap := [1, 2]) rfl ⟨by decide +kernel, rfl, by decide +kernel, C7 rfl⟩ rfl (by decide +kernel) ⟨⟨rfl, .inl rfl, rfl⟩, ⟨rfl, .inl rfl, rfl⟩, trivial⟩ (Bo rfl T.range_ (A4 (pv 3) A9)) (fun C s0 H0 fp => ⟨D9, (Ai (call_anyK (K := K) rfl rfl) (by rfl) T.any_ bt_any (A4 (Ah (Ar (K := K) rfl) (Ci (E9 (K := K) rfl) (pv 1) (Cs (pv 0)) E6) (Ci (E9 (K := K) rfl) (pv 1) (Cs (pv 2)) E6)) A9))⟩)))
   A8) A8)
   (A6 (Aw (AL Ax (pv 0) AG (AX _)) (A6 (AS (Cb (cn := ["_law_one", "_law_stem"]) (cap := [1, 2]) rfl ⟨by decide +kernel, rfl, by decide +kernel, C7 rfl⟩ rfl (by decide +kernel) ⟨⟨rfl, .inl rfl, rfl⟩, ⟨rfl, .inl rfl, rfl⟩, trivial⟩ (Bo rfl T.range_ (A4 (pv 3) A9)) (fun C s0 H0 fp => ⟨D9, (Ai (call_allK (K := K) rfl rfl) (by rfl) T.all_ bt_all (A4 (Ah (Ar (K := K) rfl) (Ci (E9 (K := K) rfl) (pv 1) (Cs (pv 0)) E6) (Ci (E9 (K := K) rfl) (pv 1) (Cs (pv 2)) E6)) A9))⟩)))
   A8) A8)
   (A6 (Aw (AL Ax (pv 0) AG (AX _)) (A6 (AS (Ah op_repR (CI (A4 (Ai (call_anyK (K := K) rfl rfl) (by rfl) T.any_ bt_any (A4 (Ci (E9 (K := K) rfl) (pv 1) (Cs (pv 2)) E6) A9)) A9)) (pv 3)))
   A8) A8)
   (A6 (AS (Ah op_repR (CI (A4 (Ai (call_allK (K := K) rfl rfl) (by rfl) T.all_ bt_all (A4 (Ci (E9 (K := K) rfl) (pv 1) (Cs (pv 2)) E6) A9)) A9)) (pv 3)))
   A8))))))), ?_⟩
 refine bE hm fun Bm h6 hm => ?_
 refine Bd (K := K) (Cg (A5 rfl Ac)) h6 xt.gh fun v1 G2 H3 x4 r5 => ?_
 have xt := xt.trans x4
 have AN := Rp.mono x4.gg AN
 have Ac := Rp.mono x4.gg Ac
 have AE := Rp.mono x4.gg AE
 refine bE hm fun b7 h8 hm => ?_
 refine B9 (AJ (K := K) (Av (A5 rfl AN) As)) h8 xt.gh fun G9 H10 x11 => ?_
 have xt := xt.trans x11
 have AN := Rp.mono x11.gg AN
 have Ac := Rp.mono x11.gg Ac
 have AE := Rp.mono x11.gg AE
 have r5 := Rp.mono x11.gg r5
 cases b7 with
 | true =>
  replace hm := cT hm
  refine BR ?_
  exact Bx (K := K) (ER (cap := [1]) (fe := fun (k_ : Int) => (((some one_).bind fun t17 => (some k_).bind fun t18 => atI t17 t18).bind fun t19 => (some (!t19)))) (Cy (A5 rfl r5)) fun xc16 k_ Gc13 sc14 rc15 => (ev_not (BK (A5 rfl (Rp.mono sc14 Ac)) (A5 rfl rc15)))) hm xt.gh fun p21 vs22 G23 H24 x25 h26 o27 => q _ _ _ _ (xt.trans x25) (xt.hh.free h26) o27
 | false =>
  replace hm := cF hm
  refine BQ ?_
  refine bE hm fun b28 h29 hm => ?_
  refine B9 (AJ (K := K) (Av (A5 rfl AN) As)) h29 xt.gh fun G30 H31 x32 => ?_
  have xt := xt.trans x32
  have AN := Rp.mono x32.gg AN
  have Ac := Rp.mono x32.gg Ac
  have AE := Rp.mono x32.gg AE
  have r5 := Rp.mono x32.gg r5
  cases b28 with
  | true =>
   replace hm := cT hm
   refine BR ?_
   exact Bx (K := K) (fv_cat (FV.ev (ES (A5 rfl Ac) (Cz (K := K) Af) E3)) (FV.ev (CL (AB (BK (A5 rfl Ac) (A5 rfl AE)) (Aq (α := Bool)))))) hm xt.gh fun p38 vs39 G40 H41 x42 h43 o44 => q _ _ _ _ (xt.trans x42) (xt.hh.free h43) o44
  | false =>
   replace hm := cF hm
   refine BQ ?_
   refine bE hm fun b45 h46 hm => ?_
   refine B9 (AJ (K := K) (Av (A5 rfl AN) As)) h46 xt.gh fun G47 H48 x49 => ?_
   have xt := xt.trans x49
   have AN := Rp.mono x49.gg AN
   have Ac := Rp.mono x49.gg Ac
   have AE := Rp.mono x49.gg AE
   have r5 := Rp.mono x49.gg r5
   cases b45 with
   | true =>
    replace hm := cT hm
    refine BR ?_
    exact Bx (K := K) (ER (cap := [1, 2]) (fe := fun (k_ : Int) => (((some (Cf one_ (some k_) none)).bind fun t55 => (some (Cf one_ (some Az) none)).bind fun t56 => GV t55 t56).bind fun t57 => (some (t57.any id)))) (Cy (A5 rfl r5)) fun xc54 k_ Gc51 sc52 rc53 => (ev_any (FV.ev (fv_cat (FV.ev (ES (A5 rfl (Rp.mono sc52 Ac)) (Cz (K := K) (A5 rfl rc53)) E3)) (FV.ev (ES (A5 rfl (Rp.mono sc52 Ac)) (Cz (K := K) (A5 rfl (Rp.mono sc52 AE))) E3)))))) hm xt.gh fun p59 vs60 G61 H62 x63 h64 o65 => q _ _ _ _ (xt.trans x63) (xt.hh.free h64) o65
   | false =>
    replace hm := cF hm
    refine BQ ?_
    refine bE hm fun b66 h67 hm => ?_
    refine B9 (AJ (K := K) (Av (A5 rfl AN) As)) h67 xt.gh fun G68 H69 x70 => ?_
    have xt := xt.trans x70
    have AN := Rp.mono x70.gg AN
    have Ac := Rp.mono x70.gg Ac
    have AE := Rp.mono x70.gg AE
    have r5 := Rp.mono x70.gg r5
    cases b66 with
    | true =>
     replace hm := cT hm
     refine BR ?_
     exact Bx (K := K) (ER (cap := [1, 2]) (fe := fun (k_ : Int) => (((some (Cf one_ (some k_) none)).bind fun t76 => (some (Cf one_ (some Az) none)).bind fun t77 => GV t76 t77).bind fun t78 => (some (t78.all id)))) (Cy (A5 rfl r5)) fun xc75 k_ Gc72 sc73 rc74 => (ev_all (FV.ev (fv_cat (FV.ev (ES (A5 rfl (Rp.mono sc73 Ac)) (Cz (K := K) (A5 rfl rc74)) E3)) (FV.ev (ES (A5 rfl (Rp.mono sc73 Ac)) (Cz (K := K) (A5 rfl (Rp.mono sc73 AE))) E3)))))) hm xt.gh fun p80 vs81 G82 H83 x84 h85 o86 => q _ _ _ _ (xt.trans x84) (xt.hh.free h85) o86
    | false =>
     replace hm := cF hm
     refine BQ ?_
     refine bE hm fun b87 h88 hm => ?_
     refine B9 (AJ (K := K) (Av (A5 rfl AN) As)) h88 xt.gh fun G89 H90 x91 => ?_
     have xt := xt.trans x91
     have Ac := Rp.mono x91.gg Ac
     have AE := Rp.mono x91.gg AE
     have r5 := Rp.mono x91.gg r5
     cases b87 with
     | true =>
      replace hm := cT hm
      refine BR ?_
      exact Bx (K := K) (fv_rep (FV.ev (CL (AB (ev_any (FV.ev (ES (A5 rfl Ac) (Cz (K := K) (A5 rfl AE)) E3))) (Aq (α := Bool))))) (A5 rfl r5)) hm xt.gh fun p94 vs95 G96 H97 x98 h99 o100 => q _ _ _ _ (xt.trans x98) (xt.hh.free h99) o100
     | false =>
      replace hm := cF hm
      refine BQ ?_
      exact Bx (K := K) (fv_rep (FV.ev (CL (AB (ev_all (FV.ev (ES (A5 rfl Ac) (Cz (K := K) (A5 rfl AE)) E3))) (Aq (α := Bool))))) (A5 rfl r5)) hm xt.gh fun p103 vs104 G105 H106 x107 h108 o109 => q _ _ _ _ (xt.trans x107) (xt.hh.free h108) o109
theorem ok_law_freed {f : Addr} {fd : FuncData} (F : Fun K "_law_freed" "_law_freed" DL f fd) (T : Txt K mg) : FnOk P w K mg base CX0 1 f fd ["_law_one", "_law_other", "_law_onward_here"] (spM K EB) := by
 refine F.ok sc_law_freed (fun vs H Q E h => (BL h).trans rfl) (fun cdv A outer s H0 vs Q E hr h => ?_)
 obtain ⟨G0, ⟨one_, ⟨Bv, ⟨Bl, ⟨⟩⟩⟩⟩, res, sg0, ⟨DD, _, rfl, Ac, ⟨CJ, _, rfl, At, ⟨B4, _, rfl, Bu, rfl⟩⟩⟩, hm, q⟩ := h
 replace Ac : Rp.rel K G0 DD one_ := Ac
 replace At : Rp.rel K G0 CJ Bv := At
 replace Bu : Rp.rel K G0 B4 Bl := Bu
 replace hm : Cj one_ Bv Bl = some res := hm
 unfold Cj at hm
 have xt : Ext G0 H0 G0 H0 := Ext.refl sg0
 refine ⟨_, (A6 (Ed PassesOwn.never rfl (D1 (K := K) rfl (pv 2)) (Cc (i := 3) sc_law_freed.nd rfl (Or.inl rfl)) (A6 (Aw (pt_not (DZ (K := K) rfl (Ab (AD (K := K) rfl) (pv 1) (pv 3) (fun _ _ => rfl)) (fun _ => rfl))) (A6 (AS FF)
   A8) A8)
   (A6 (Aw (DZ (K := K) rfl (Ab (AD (K := K) rfl) (pv 0) (pv 3) (fun _ _ => rfl)) (fun _ => rfl)) (A6 (AS FF)
   A8) A8)
   A8)))
   (A6 (AS FF)
   A8)), ?_⟩
 refine bE hm fun as1 h2 hm => ?_
 refine bE hm fun fl3 h4 hm => ?_
 refine Ef (K := K) (RR := fun r v G' H' => Ext G0 H0 G' H' ∧ Rp.rel K G' v r) (Dn (A5 rfl Bu)) h2 h4 xt.gh fun G5 H6 x7 => ⟨fun s8 S' G' H' => ∃ (v9 : Option V), Ext G0 H0 G' H' ∧ Same G5 G' ∧ S' = [some DD, some CJ, some B4, v9], ?_, ?_, ?_, ?_, ?_⟩
 ·have xt := xt.trans x7
  exact ⟨_, xt, (Same.refl _), rfl⟩
 ·rintro _ S' G' H' ⟨v9, xt, mk10, rfl⟩
  exact ⟨mk10, xt.gh⟩
 ·rintro xv11 a12 s8 _ G15 H16 fl13 - ⟨v9, xt, mk10, rfl⟩ rx14 hm D' kN17 kC18 kB19 kR20
  have Ac := Rp.mono (x7.gg.trans mk10) Ac
  have At := Rp.mono (x7.gg.trans mk10) At
  refine E8 ?_
  refine bE hm fun b24 h25 hm => ?_
  refine B9 (tv_not (tv_b (K := K) (BK (A5 rfl At) (A5 rfl rx14)))) h25 xt.gh fun G26 H27 x28 => ?_
  have xt := xt.trans x28
  have mk10 := mk10.trans x28.gg
  have Ac := Rp.mono x28.gg Ac
  have rx14 := Rp.mono x28.gg rx14
  cases b24 with
  | true =>
   replace hm := cT hm
   refine BR ?_
   refine bE hm fun rr34 h35 hm => ?_
   cases hm
   exact Am (K := K) (rest := C9) (σ := [some DD, some CJ, some B4, some xv11]) GP h35 xt.gh fun v29 G30 H31 x32 r33 => kR20 _ v29 G30 H31 rfl ⟨xt.trans x32, r33⟩
  | false =>
   replace hm := cF hm
   refine BQ ?_
   refine bE hm fun b38 h39 hm => ?_
   refine B9 (tv_b (K := K) (BK (A5 rfl Ac) (A5 rfl rx14))) h39 xt.gh fun G40 H41 x42 => ?_
   have xt := xt.trans x42
   have mk10 := mk10.trans x42.gg
   cases b38 with
   | true =>
    replace hm := cT hm
    refine BR ?_
    refine bE hm fun rr48 h49 hm => ?_
    cases hm
    exact Am (K := K) (rest := C9) (σ := [some DD, some CJ, some B4, some xv11]) GP h49 xt.gh fun v43 G44 H45 x46 r47 => kR20 _ v43 G44 H45 rfl ⟨xt.trans x46, r47⟩
   | false =>
    replace hm := cF hm
    refine BQ ?_
    cases hm
    exact kN17 _ _ _ _ rfl ⟨_, xt, mk10, rfl⟩
 ·rintro s8 _ G52 H53 rfl ⟨v50, xt, mk51, rfl⟩
  refine FQ ?_
  exact Am (K := K) (rest := C9) (σ := [some DD, some CJ, some B4, v50]) GP hm xt.gh fun v54 G55 H56 x57 r58 => q v54 G55 H56 (xt.trans x57) r58
 ·rintro r' v' G' H' rfl rl
  cases hm
  exact q v' G' H' rl.1 rl.2
theorem ok_law_held_until {f : Addr} {fd : FuncData} (F : Fun K "_law_held_until" "_law_held_until" Bs f fd) (T : Txt K mg) : FnOk P w K mg base CX0 1 f fd ["_law_one", "_law_other", "_law_onward_here"] (spM K CZ) := by
 refine F.ok sc_law_held_until (fun vs H Q E h => (BL h).trans rfl) (fun cdv A outer s H0 vs Q E hr h => ?_)
 obtain ⟨G0, ⟨one_, ⟨Bv, ⟨Bl, ⟨⟩⟩⟩⟩, res, sg0, ⟨DD, _, rfl, Ac, ⟨CJ, _, rfl, At, ⟨B4, _, rfl, Bu, rfl⟩⟩⟩, hm, q⟩ := h
 replace Ac : Rp.rel K G0 DD one_ := Ac
 replace At : Rp.rel K G0 CJ Bv := At
 replace Bu : Rp.rel K G0 B4 Bl := Bu
 replace hm : BW one_ Bv Bl = some res := hm
 unfold BW at hm
 have xt : Ext G0 H0 G0 H0 := Ext.refl sg0
 refine ⟨_, (A6 (Ed PassesOwn.never rfl (D1 (K := K) rfl (pv 2)) (Cc (i := 3) sc_law_held_until.nd rfl (Or.inl rfl)) (A6 (Aw (DZ (K := K) rfl (Ab (AD (K := K) rfl) (pv 1) (pv 3) (fun _ _ => rfl)) (fun _ => rfl)) (A6 (AS FF)
   A8) A8)
   (A6 (Aw (pt_not (DZ (K := K) rfl (Ab (AD (K := K) rfl) (pv 0) (pv 3) (fun _ _ => rfl)) (fun _ => rfl))) (A6 (AS FF)
   A8) A8)
   A8)))
   (A6 (AS FF)
   A8)), ?_⟩
 refine bE hm fun as1 h2 hm => ?_
 refine bE hm fun fl3 h4 hm => ?_
 refine Ef (K := K) (RR := fun r v G' H' => Ext G0 H0 G' H' ∧ Rp.rel K G' v r) (Dn (A5 rfl Bu)) h2 h4 xt.gh fun G5 H6 x7 => ⟨fun s8 S' G' H' => ∃ (v9 : Option V), Ext G0 H0 G' H' ∧ Same G5 G' ∧ S' = [some DD, some CJ, some B4, v9], ?_, ?_, ?_, ?_, ?_⟩
 ·have xt := xt.trans x7
  exact ⟨_, xt, (Same.refl _), rfl⟩
 ·rintro _ S' G' H' ⟨v9, xt, mk10, rfl⟩
  exact ⟨mk10, xt.gh⟩
 ·rintro xv11 a12 s8 _ G15 H16 fl13 - ⟨v9, xt, mk10, rfl⟩ rx14 hm D' kN17 kC18 kB19 kR20
  have Ac := Rp.mono (x7.gg.trans mk10) Ac
  have At := Rp.mono (x7.gg.trans mk10) At
  refine E8 ?_
  refine bE hm fun b23 h24 hm => ?_
  refine B9 (tv_b (K := K) (BK (A5 rfl At) (A5 rfl rx14))) h24 xt.gh fun G25 H26 x27 => ?_
  have xt := xt.trans x27
  have mk10 := mk10.trans x27.gg
  have Ac := Rp.mono x27.gg Ac
  have rx14 := Rp.mono x27.gg rx14
  cases b23 with
  | true =>
   replace hm := cT hm
   refine BR ?_
   refine bE hm fun rr33 h34 hm => ?_
   cases hm
   exact Am (K := K) (rest := C9) (σ := [some DD, some CJ, some B4, some xv11]) GP h34 xt.gh fun v28 G29 H30 x31 r32 => kR20 _ v28 G29 H30 rfl ⟨xt.trans x31, r32⟩
  | false =>
   replace hm := cF hm
   refine BQ ?_
   refine bE hm fun b38 h39 hm => ?_
   refine B9 (tv_not (tv_b (K := K) (BK (A5 rfl Ac) (A5 rfl rx14)))) h39 xt.gh fun G40 H41 x42 => ?_
   have xt := xt.trans x42
   have mk10 := mk10.trans x42.gg
   cases b38 with
   | true =>
    replace hm := cT hm
    refine BR ?_
    refine bE hm fun rr48 h49 hm => ?_
    cases hm
    exact Am (K := K) (rest := C9) (σ := [some DD, some CJ, some B4, some xv11]) GP h49 xt.gh fun v43 G44 H45 x46 r47 => kR20 _ v43 G44 H45 rfl ⟨xt.trans x46, r47⟩
   | false =>
    replace hm := cF hm
    refine BQ ?_
    cases hm
    exact kN17 _ _ _ _ rfl ⟨_, xt, mk10, rfl⟩
 ·rintro s8 _ G52 H53 rfl ⟨v50, xt, mk51, rfl⟩
  refine FQ ?_
  exact Am (K := K) (rest := C9) (σ := [some DD, some CJ, some B4, v50]) GP hm xt.gh fun v54 G55 H56 x57 r58 => q v54 G55 H56 (xt.trans x57) r58
 ·rintro r' v' G' H' rfl rl
  cases hm
  exact q v' G' H' rl.1 rl.2
theorem ok_law_onward {f : Addr} {fd : FuncData} (F : Fun K "_law_onward" "_law_onward" Cv f fd) (T : Txt K mg) : FnOk P w K mg base CX0 1 f fd ["_law_place", "_law_stem", "_law_many"] (spM K D7) := by
 refine F.ok sc_law_onward (fun vs H Q E h => (BL h).trans rfl) (fun cdv A outer s H0 vs Q E hr h => ?_)
 obtain ⟨G0, ⟨Cm, ⟨Az, ⟨Bm, ⟨⟩⟩⟩⟩, res, sg0, ⟨v_place_, _, rfl, r_place_, ⟨Cw, _, rfl, AE, ⟨Er, _, rfl, Bj, rfl⟩⟩⟩, hm, q⟩ := h
 replace r_place_ : Rp.rel K G0 v_place_ Cm := r_place_
 replace AE : Rp.rel K G0 Cw Az := AE
 replace Bj : Rp.rel K G0 Er Bm := Bj
 replace hm : Bi Cm Az Bm = some res := hm
 unfold Bi at hm
 have xt : Ext G0 H0 G0 H0 := Ext.refl sg0
 refine ⟨_, (A6 (AS (Ah (Ar (K := K) rfl) (DV (call_lstR rfl) (by rfl) T.list_ bt_list (A4 (DV call_rng2 (by rfl) T.range_ boot_range (A4 (pv 0) (A4 (pv 2) A9))) A9)) (DV (call_lstR rfl) (by rfl) T.list_ bt_list (A4 (DV call_rng2 (by rfl) T.range_ boot_range (A4 (pv 1) (A4 (pv 0) A9))) A9))))
   A8), ?_⟩
 exact Am (K := K) (FV.ev (fv_cat (FV.ev (fv_lstR2 (A5 rfl r_place_) (A5 rfl Bj))) (FV.ev (fv_lstR2 (A5 rfl AE) (A5 rfl r_place_))))) hm xt.gh fun v7 G8 H9 x10 r11 => q v7 G8 H9 (xt.trans x10) r11
theorem ok_law_truths_of_two {f : Addr} {fd : FuncData} (F : Fun K "_law_truths_of_two" "_law_truths_of_two" BP f fd) (T : Txt K mg) (D_law_freed : DefOk P w K mg base "_law_freed" 1 ["_law_one", "_law_other", "_law_onward_here"] (spM K EB)) (D_law_held_until : DefOk P w K mg base "_law_held_until" 1 ["_law_one", "_law_other", "_law_onward_here"] (spM K CZ)) (D_law_onward : DefOk P w K mg base "_law_onward" 1 ["_law_place", "_law_stem", "_law_many"] (spM K D7)) : FnOk P w K mg base CX0 2 f fd ["_law_word", "_law_one", "_law_other", "_law_stem"] (spL K BG) := by
 refine F.ok sc_law_truths_of_two (fun vs H Q E h => (Fx h).trans rfl) (fun cdv A outer s H0 vs Q E hr h => ?_)
 obtain ⟨G0, ⟨B2, ⟨one_, ⟨Bv, ⟨Az, ⟨⟩⟩⟩⟩⟩, res, sg0, ⟨Et, _, rfl, AN, ⟨DD, _, rfl, Ac, ⟨CJ, _, rfl, At, ⟨Cw, _, rfl, AE, rfl⟩⟩⟩⟩, hm, q⟩ := h
 replace AN : Rp.rel K G0 Et B2 := AN
 replace Ac : Rp.rel K G0 DD one_ := Ac
 replace At : Rp.rel K G0 CJ Bv := At
 replace AE : Rp.rel K G0 Cw Az := AE
 replace hm : AO B2 one_ Bv Az = some res := hm
 unfold AO at hm
 have xt : Ext G0 H0 G0 H0 := Ext.refl sg0
 refine ⟨_, (A6 (B0 (i := 4) sc_law_truths_of_two.nd rfl (Or.inr rfl) (Ai (Ap (K := K) rfl) (by rfl) T.len_ Ba (A4 (pv 1) A9)))
   (A6 (Aw (AL Ax (pv 0) AG (AX _)) (A6 (AS (Cb (cn := ["_law_one", "_law_other"]) (cap := [1, 2]) rfl ⟨by decide +kernel, rfl, by decide +kernel, C7 rfl⟩ rfl (by decide +kernel) ⟨⟨rfl, .inl rfl, rfl⟩, ⟨rfl, .inl rfl, rfl⟩, trivial⟩ (Bo rfl T.range_ (A4 (pv 4) A9)) (fun C s0 H0 fp => ⟨D9, (pe_and (Ab (AD (K := K) rfl) (pv 1) (pv 0) (fun _ _ => rfl)) (pe_one (Ab (AD (K := K) rfl) (pv 2) (pv 0) (fun _ _ => rfl))))⟩)))
   A8) A8)
   (A6 (Aw (AL Ax (pv 0) AG (AX _)) (A6 (AS (Cb (cn := ["_law_one", "_law_other"]) (cap := [1, 2]) rfl ⟨by decide +kernel, rfl, by decide +kernel, C7 rfl⟩ rfl (by decide +kernel) ⟨⟨rfl, .inl rfl, rfl⟩, ⟨rfl, .inl rfl, rfl⟩, trivial⟩ (Bo rfl T.range_ (A4 (pv 4) A9)) (fun C s0 H0 fp => ⟨D9, (pe_or (Ab (AD (K := K) rfl) (pv 1) (pv 0) (fun _ _ => rfl)) (pe_one (Ab (AD (K := K) rfl) (pv 2) (pv 0) (fun _ _ => rfl))))⟩)))
   A8) A8)
   (A6 (Aw (AL Ax (pv 0) AG (AX _)) (A6 (AS (Cb (cn := ["_law_other", "_law_one"]) (cap := [2, 1]) rfl ⟨by decide +kernel, rfl, by decide +kernel, C7 rfl⟩ rfl (by decide +kernel) ⟨⟨rfl, .inl rfl, rfl⟩, ⟨rfl, .inl rfl, rfl⟩, trivial⟩ (Bo rfl T.range_ (A4 (pv 4) A9)) (fun C s0 H0 fp => ⟨D9, (pe_or (Ab (AD (K := K) rfl) (pv 1) (pv 0) (fun _ _ => rfl)) (pe_one (pe_not (Ab (AD (K := K) rfl) (pv 2) (pv 0) (fun _ _ => rfl)))))⟩)))
   A8) A8)
   (A6 (Aw (AL Ax (pv 0) AG (AX _)) (A6 (AS (Cb (cn := ["_law_one", "_law_other", "_law_stem", "_law_many"]) (cap := [1, 2, 3, 4]) rfl ⟨by decide +kernel, rfl, by decide +kernel, C7 rfl⟩ rfl (by decide +kernel) ⟨⟨rfl, .inl rfl, rfl⟩, ⟨rfl, .inl rfl, rfl⟩, ⟨rfl, .inl rfl, rfl⟩, ⟨rfl, .inl rfl, rfl⟩, trivial⟩ (Bo rfl T.range_ (A4 (pv 4) A9)) (fun C s0 H0 fp => ⟨D9, (Ae D_law_held_until hr (by decide) rfl (A4 (pv 1) (A4 (pv 2) (A4 (Ae D_law_onward hr (by decide) rfl (A4 (pv 0) (A4 (pv 3) (A4 (pv 4) A9)))) A9))))⟩)))
   A8) A8)
   (A6 (AS (Cb (cn := ["_law_one", "_law_other", "_law_stem", "_law_many"]) (cap := [1, 2, 3, 4]) rfl ⟨by decide +kernel, rfl, by decide +kernel, C7 rfl⟩ rfl (by decide +kernel) ⟨⟨rfl, .inl rfl, rfl⟩, ⟨rfl, .inl rfl, rfl⟩, ⟨rfl, .inl rfl, rfl⟩, ⟨rfl, .inl rfl, rfl⟩, trivial⟩ (Bo rfl T.range_ (A4 (pv 4) A9)) (fun C s0 H0 fp => ⟨D9, (Ae D_law_freed hr (by decide) rfl (A4 (pv 1) (A4 (pv 2) (A4 (Ae D_law_onward hr (by decide) rfl (A4 (pv 0) (A4 (pv 3) (A4 (pv 4) A9)))) A9))))⟩)))
   A8)))))), ?_⟩
 refine bE hm fun Bm h6 hm => ?_
 refine Bd (K := K) (Cg (A5 rfl Ac)) h6 xt.gh fun v1 G2 H3 x4 r5 => ?_
 have xt := xt.trans x4
 have AN := Rp.mono x4.gg AN
 have Ac := Rp.mono x4.gg Ac
 have At := Rp.mono x4.gg At
 have AE := Rp.mono x4.gg AE
 refine bE hm fun b7 h8 hm => ?_
 refine B9 (AJ (K := K) (Av (A5 rfl AN) As)) h8 xt.gh fun G9 H10 x11 => ?_
 have xt := xt.trans x11
 have AN := Rp.mono x11.gg AN
 have Ac := Rp.mono x11.gg Ac
 have At := Rp.mono x11.gg At
 have AE := Rp.mono x11.gg AE
 have r5 := Rp.mono x11.gg r5
 cases b7 with
 | true =>
  replace hm := cT hm
  refine BR ?_
  exact Bx (K := K) (ER (cap := [1, 2]) (fe := fun (k_ : Int) => (((some one_).bind fun t17 => (some k_).bind fun t18 => atI t17 t18).bind fun t21 => cond t21 ((some Bv).bind fun t19 => (some k_).bind fun t20 => atI t19 t20) (some false))) (Cy (A5 rfl r5)) fun xc16 k_ Gc13 sc14 rc15 => (ev_and (BK (A5 rfl (Rp.mono sc14 Ac)) (A5 rfl rc15)) (BK (A5 rfl (Rp.mono sc14 At)) (A5 rfl rc15)))) hm xt.gh fun p23 vs24 G25 H26 x27 h28 o29 => q _ _ _ _ (xt.trans x27) (xt.hh.free h28) o29
 | false =>
  replace hm := cF hm
  refine BQ ?_
  refine bE hm fun b30 h31 hm => ?_
  refine B9 (AJ (K := K) (Av (A5 rfl AN) As)) h31 xt.gh fun G32 H33 x34 => ?_
  have xt := xt.trans x34
  have AN := Rp.mono x34.gg AN
  have Ac := Rp.mono x34.gg Ac
  have At := Rp.mono x34.gg At
  have AE := Rp.mono x34.gg AE
  have r5 := Rp.mono x34.gg r5
  cases b30 with
  | true =>
   replace hm := cT hm
   refine BR ?_
   exact Bx (K := K) (ER (cap := [1, 2]) (fe := fun (k_ : Int) => (((some one_).bind fun t40 => (some k_).bind fun t41 => atI t40 t41).bind fun t44 => cond t44 (some true) ((some Bv).bind fun t42 => (some k_).bind fun t43 => atI t42 t43))) (Cy (A5 rfl r5)) fun xc39 k_ Gc36 sc37 rc38 => (ev_or (BK (A5 rfl (Rp.mono sc37 Ac)) (A5 rfl rc38)) (BK (A5 rfl (Rp.mono sc37 At)) (A5 rfl rc38)))) hm xt.gh fun p46 vs47 G48 H49 x50 h51 o52 => q _ _ _ _ (xt.trans x50) (xt.hh.free h51) o52
  | false =>
   replace hm := cF hm
   refine BQ ?_
   refine bE hm fun b53 h54 hm => ?_
   refine B9 (AJ (K := K) (Av (A5 rfl AN) As)) h54 xt.gh fun G55 H56 x57 => ?_
   have xt := xt.trans x57
   have AN := Rp.mono x57.gg AN
   have Ac := Rp.mono x57.gg Ac
   have At := Rp.mono x57.gg At
   have AE := Rp.mono x57.gg AE
   have r5 := Rp.mono x57.gg r5
   cases b53 with
   | true =>
    replace hm := cT hm
    refine BR ?_
    exact Bx (K := K) (ER (cap := [2, 1]) (fe := fun (k_ : Int) => (((some Bv).bind fun t63 => (some k_).bind fun t64 => atI t63 t64).bind fun t68 => cond t68 (some true) (((some one_).bind fun t65 => (some k_).bind fun t66 => atI t65 t66).bind fun t67 => (some (!t67))))) (Cy (A5 rfl r5)) fun xc62 k_ Gc59 sc60 rc61 => (ev_or (BK (A5 rfl (Rp.mono sc60 At)) (A5 rfl rc61)) (ev_not (BK (A5 rfl (Rp.mono sc60 Ac)) (A5 rfl rc61))))) hm xt.gh fun p70 vs71 G72 H73 x74 h75 o76 => q _ _ _ _ (xt.trans x74) (xt.hh.free h75) o76
   | false =>
    replace hm := cF hm
    refine BQ ?_
    refine bE hm fun b77 h78 hm => ?_
    refine B9 (AJ (K := K) (Av (A5 rfl AN) As)) h78 xt.gh fun G79 H80 x81 => ?_
    have xt := xt.trans x81
    have Ac := Rp.mono x81.gg Ac
    have At := Rp.mono x81.gg At
    have AE := Rp.mono x81.gg AE
    have r5 := Rp.mono x81.gg r5
    cases b77 with
    | true =>
     replace hm := cT hm
     refine BR ?_
     exact Bx (K := K) (ER (cap := [1, 2, 3, 4]) (fe := fun (k_ : Int) => ((some one_).bind fun t90 => (some Bv).bind fun t91 => ((some k_).bind fun t87 => (some Az).bind fun t88 => (some Bm).bind fun t89 => Bi t87 t88 t89).bind fun t92 => BW t90 t91 t92)) (Cy (A5 rfl r5)) fun xc86 k_ Gc83 sc84 rc85 => (Eb (m := CZ) (A5 rfl (Rp.mono sc84 Ac)) (A5 rfl (Rp.mono sc84 At)) (Eb (m := D7) (A5 rfl rc85) (A5 rfl (Rp.mono sc84 AE)) (A5 rfl (Rp.mono sc84 r5))))) hm xt.gh fun p94 vs95 G96 H97 x98 h99 o100 => q _ _ _ _ (xt.trans x98) (xt.hh.free h99) o100
    | false =>
     replace hm := cF hm
     refine BQ ?_
     exact Bx (K := K) (ER (cap := [1, 2, 3, 4]) (fe := fun (k_ : Int) => ((some one_).bind fun t109 => (some Bv).bind fun t110 => ((some k_).bind fun t106 => (some Az).bind fun t107 => (some Bm).bind fun t108 => Bi t106 t107 t108).bind fun t111 => Cj t109 t110 t111)) (Cy (A5 rfl r5)) fun xc105 k_ Gc102 sc103 rc104 => (Eb (m := EB) (A5 rfl (Rp.mono sc103 Ac)) (A5 rfl (Rp.mono sc103 At)) (Eb (m := D7) (A5 rfl rc104) (A5 rfl (Rp.mono sc103 AE)) (A5 rfl (Rp.mono sc103 r5))))) hm xt.gh fun p113 vs114 G115 H116 x117 h118 o119 => q _ _ _ _ (xt.trans x117) (xt.hh.free h118) o119
theorem ok0_law_truths {f : Addr} {fd : FuncData} (F : Fun K "_law_truths" "_law_truths" CQ f fd) : FnOk P w K mg base CX0 3 f fd ["_law_told", "_law_lit_here", "_law_stem"] (spL K (BC 0)) := by
 refine F.ok sc_law_truths (fun vs H Q E h => (Fx h).trans rfl) (fun cdv A outer s H0 vs Q E hr h => ?_)
 obtain ⟨_, _, _, _, _, hm, _⟩ := h
 exact nomatch (hm : none = some _)
theorem ok_law_truths {f : Addr} {fd : FuncData} (F : Fun K "_law_truths" "_law_truths" CQ f fd) (T : Txt K mg) (D_law_truths_of_two : DefOk P w K mg base "_law_truths_of_two" 2 ["_law_word", "_law_one", "_law_other", "_law_stem"] (spL K BG)) (D_law_truths_of_one : DefOk P w K mg base "_law_truths_of_one" 1 ["_law_word", "_law_one", "_law_stem"] (spL K BH)) (CT : Nat) (D_law_truths : DefOk P w K mg base "_law_truths" (3 + CT) ["_law_told", "_law_lit_here", "_law_stem"] (spL K (BC CT))) : FnOk P w K mg base CX0 (3 + CT + 1) f fd ["_law_told", "_law_lit_here", "_law_stem"] (spL K (BC (CT + 1))) := by
 refine F.ok sc_law_truths (fun vs H Q E h => (Fx h).trans rfl) (fun cdv A outer s H0 vs Q E hr h => ?_)
 obtain ⟨G0, ⟨told_, ⟨lit_here_, ⟨Az, ⟨⟩⟩⟩⟩, res, sg0, ⟨v_told_, _, rfl, C5, ⟨Ch, _, rfl, AR, ⟨Cw, _, rfl, AE, rfl⟩⟩⟩, hm, q⟩ := h
 replace C5 : Rp.rel K G0 v_told_ told_ := C5
 replace AR : Rp.rel K G0 Ch lit_here_ := AR
 replace AE : Rp.rel K G0 Cw Az := AE
 replace hm : B6 (B7 CT) told_ lit_here_ Az = some res := hm
 unfold B6 at hm
 have xt : Ext G0 H0 G0 H0 := Ext.refl sg0
 refine ⟨_, (A6 (B0 (i := 3) sc_law_truths.nd rfl (Or.inl rfl) (Ab (AD (K := K) rfl) (pv 0) AA (fun _ _ => rfl)))
   (A6 (Aw (PW.pt (pw_or (AL Ax (pv 3) AG (AX _)) (Fi (AL Ax (pv 3) AG (AX _))))) (A6 (AS (Ah op_repR (CI (A4 (Dr Ax (pv 3) AG (AX _)) A9)) (Ai (Ap (K := K) rfl) (by rfl) T.len_ Ba (A4 (pv 1) A9))))
   A8) A8)
   (A6 (Aw (AL Ax (pv 3) AG (AX _)) (A6 (AS (Cb (cn := ["_law_told"]) (cap := [0]) rfl ⟨by decide +kernel, rfl, by decide +kernel, C7 rfl⟩ rfl (by decide +kernel) ⟨⟨rfl, .inl rfl, rfl⟩, trivial⟩ (D1 (K := K) rfl (pv 1)) (fun C s0 H0 fp => ⟨D9, (Dr op_in_str (Ab (AD (K := K) rfl) (pv 1) AA (fun _ _ => rfl)) (pv 0) rfl)⟩)))
   A8) A8)
   (A6 (B0 (i := 4) sc_law_truths.nd rfl (Or.inl rfl) (Ae D_law_truths hr (by omega) rfl (A4 (Ab (AD (K := K) rfl) (pv 0) AA (fun _ _ => rfl)) (A4 (pv 1) (A4 (pv 2) A9)))))
   (A6 (Aw (AL Ax (Ai (Ap (K := K) rfl) (by rfl) T.len_ Ba (A4 (pv 0) A9)) AA (AX _)) (A6 (AS (Ae D_law_truths_of_one hr (by omega) rfl (A4 (pv 3) (A4 (pv 4) (A4 (pv 2) A9)))))
   A8) A8)
   (A6 (AS (Ae D_law_truths_of_two hr (by omega) rfl (A4 (pv 3) (A4 (pv 4) (A4 (Ae D_law_truths hr (by omega) rfl (A4 (Ab (AD (K := K) rfl) (pv 0) AA (fun _ _ => rfl)) (A4 (pv 1) (A4 (pv 2) A9)))) (A4 (pv 2) A9))))))
   A8)))))), ?_⟩
 refine bE hm fun B2 h10 hm => ?_
 refine Bd (K := K) (D4 (B8 (BE (A5 rfl C5)) Af)) h10 xt.gh fun v5 G6 H7 x8 r9 => ?_
 have xt := xt.trans x8
 have C5 := Rp.mono x8.gg C5
 have AR := Rp.mono x8.gg AR
 have AE := Rp.mono x8.gg AE
 refine bE hm fun b11 h12 hm => ?_
 refine B9 (tv_orP (AJ (K := K) (Av (A5 rfl r9) As)) (AJ (K := K) (Av (A5 rfl r9) As))) h12 xt.gh fun G13 H14 x15 => ?_
 have xt := xt.trans x15
 have C5 := Rp.mono x15.gg C5
 have AR := Rp.mono x15.gg AR
 have AE := Rp.mono x15.gg AE
 have r9 := Rp.mono x15.gg r9
 cases b11 with
 | true =>
  replace hm := cT hm
  refine BR ?_
  exact Bx (K := K) (fv_rep (FV.ev (CL (AB (Av (A5 rfl r9) As) (Aq (α := Bool))))) (Cg (A5 rfl AR))) hm xt.gh fun p18 vs19 G20 H21 x22 h23 o24 => q _ _ _ _ (xt.trans x22) (xt.hh.free h23) o24
 | false =>
  replace hm := cF hm
  refine BQ ?_
  refine bE hm fun b25 h26 hm => ?_
  refine B9 (AJ (K := K) (Av (A5 rfl r9) As)) h26 xt.gh fun G27 H28 x29 => ?_
  have xt := xt.trans x29
  have C5 := Rp.mono x29.gg C5
  have AR := Rp.mono x29.gg AR
  have AE := Rp.mono x29.gg AE
  have r9 := Rp.mono x29.gg r9
  cases b25 with
  | true =>
   replace hm := cT hm
   refine BR ?_
   exact Bx (K := K) (ER (cap := [0]) (fe := fun (moment_ : Str) => (((((some told_).bind fun t37 => BF t37).bind fun t38 => (some (1 : Int)).bind fun t39 => atI t38.l t39).bind fun t40 => Bz t40).bind fun t41 => (some (inS t41 moment_)))) (Dn (A5 rfl AR)) fun xc33 moment_ Gc30 sc31 rc32 => (ev_inS (D4 (B8 (BE (A5 rfl (Rp.mono sc31 C5))) Af)) (A5 rfl rc32))) hm xt.gh fun p43 vs44 G45 H46 x47 h48 o49 => q _ _ _ _ (xt.trans x47) (xt.hh.free h48) o49
  | false =>
   replace hm := cF hm
   refine BQ ?_
   refine bE hm fun one_ h61 hm => ?_
   refine Bd (K := K) (FV.ev (FR (m := BC CT) (B8 (BE (A5 rfl C5)) Af) (A5 rfl AR) (A5 rfl AE))) h61 xt.gh fun v56 G57 H58 x59 r60 => ?_
   have xt := xt.trans x59
   have C5 := Rp.mono x59.gg C5
   have AR := Rp.mono x59.gg AR
   have AE := Rp.mono x59.gg AE
   have r9 := Rp.mono x59.gg r9
   refine bE hm fun b65 h66 hm => ?_
   refine B9 (AJ (K := K) (DY (FS (BE (A5 rfl C5))) Af)) h66 xt.gh fun G67 H68 x69 => ?_
   have xt := xt.trans x69
   have C5 := Rp.mono x69.gg C5
   have AR := Rp.mono x69.gg AR
   have AE := Rp.mono x69.gg AE
   have r9 := Rp.mono x69.gg r9
   have r60 := Rp.mono x69.gg r60
   cases b65 with
   | true =>
    replace hm := cT hm
    refine BR ?_
    exact Bx (K := K) (FR (m := BH) (A5 rfl r9) (A5 rfl r60) (A5 rfl AE)) hm xt.gh fun p73 vs74 G75 H76 x77 h78 o79 => q _ _ _ _ (xt.trans x77) (xt.hh.free h78) o79
   | false =>
    replace hm := cF hm
    refine BQ ?_
    exact Bx (K := K) (fv_def4 (m := BG) (A5 rfl r9) (A5 rfl r60) (FV.ev (FR (m := BC CT) (B8 (BE (A5 rfl C5)) Af) (A5 rfl AR) (A5 rfl AE))) (A5 rfl AE)) hm xt.gh fun p90 vs91 G92 H93 x94 h95 o96 => q _ _ _ _ (xt.trans x94) (xt.hh.free h95) o96
theorem ok_law_row_told {f : Addr} {fd : FuncData} (F : Fun K "_law_row_told" "_law_row_told" CH f fd) (T : Txt K mg) (D_law_truths_of_one : DefOk P w K mg base "_law_truths_of_one" 1 ["_law_word", "_law_one", "_law_stem"] (spL K BH)) (D_law_truths : DefOk P w K mg base "_law_truths" 113 ["_law_told", "_law_lit_here", "_law_stem"] (spL K (BC 110))) (D_law_truths_of_two : DefOk P w K mg base "_law_truths_of_two" 2 ["_law_word", "_law_one", "_law_other", "_law_stem"] (spL K BG)) : FnOk P w K mg base CX0 114 f fd ["_law_row", "_law_ahead_of", "_law_lit_here", "_law_stem"] (spL K DB) := by
 refine F.ok sc_law_row_told (fun vs H Q E h => (Fx h).trans rfl) (fun cdv A outer s H0 vs Q E hr h => ?_)
 obtain ⟨G0, ⟨row_, ⟨ahead_of_, ⟨lit_here_, ⟨Az, ⟨⟩⟩⟩⟩⟩, res, sg0, ⟨v_row_, _, rfl, B1, ⟨v_ahead_of_, _, rfl, C8, ⟨Ch, _, rfl, AR, ⟨Cw, _, rfl, AE, rfl⟩⟩⟩⟩, hm, q⟩ := h
 replace B1 : Rp.rel K G0 v_row_ row_ := B1
 replace C8 : Rp.rel K G0 v_ahead_of_ ahead_of_ := C8
 replace AR : Rp.rel K G0 Ch lit_here_ := AR
 replace AE : Rp.rel K G0 Cw Az := AE
 replace hm : B5 row_ ahead_of_ lit_here_ Az = some res := hm
 unfold B5 at hm
 have xt : Ext G0 H0 G0 H0 := Ext.refl sg0
 refine ⟨_, (A6 (Aw (PW.pt (pw_or (AL Ax (Ab (AD (K := K) rfl) (pv 0) AA (fun _ _ => rfl)) AG (AX _)) (Fi (AL Ax (Ab (AD (K := K) rfl) (pv 0) AA (fun _ _ => rfl)) AG (AX _))))) (A6 (AS (Ae D_law_truths hr (by decide) rfl (A4 (pv 0) (A4 (pv 2) (A4 (pv 3) A9)))))
   A8) A8)
   (A6 (Aw (PW.pt (pw_or (AL Ax (Ab (AD (K := K) rfl) (pv 0) AA (fun _ _ => rfl)) AG (AX _)) (Fi (AL Ax (Ab (AD (K := K) rfl) (pv 0) AA (fun _ _ => rfl)) AG (AX _))))) (A6 (AS (Ae D_law_truths_of_two hr (by decide) rfl (A4 (Ab (AD (K := K) rfl) (pv 0) AA (fun _ _ => rfl)) (A4 (Ab (AD (K := K) rfl) (pv 1) (Ab (AD (K := K) rfl) (pv 0) AA (fun _ _ => rfl)) (fun _ _ => rfl)) (A4 (Ab (AD (K := K) rfl) (pv 1) (Ab (AD (K := K) rfl) (pv 0) AA (fun _ _ => rfl)) (fun _ _ => rfl)) (A4 (pv 3) A9))))))
   A8) A8)
   (A6 (AS (Ae D_law_truths_of_one hr (by decide) rfl (A4 (Ab (AD (K := K) rfl) (pv 0) AA (fun _ _ => rfl)) (A4 (Ab (AD (K := K) rfl) (pv 1) (Ab (AD (K := K) rfl) (pv 0) AA (fun _ _ => rfl)) (fun _ _ => rfl)) (A4 (pv 3) A9)))))
   A8))), ?_⟩
 refine bE hm fun b14 h15 hm => ?_
 refine B9 (tv_or (AJ (K := K) (Av (DR (B8 (CB (A5 rfl B1)) Af)) As)) (AJ (K := K) (Av (DR (B8 (CB (A5 rfl B1)) Af)) As))) h15 xt.gh fun G16 H17 x18 => ?_
 have xt := xt.trans x18
 have B1 := Rp.mono x18.gg B1
 have C8 := Rp.mono x18.gg C8
 have AR := Rp.mono x18.gg AR
 have AE := Rp.mono x18.gg AE
 cases b14 with
 | true =>
  replace hm := cT hm
  refine BR ?_
  exact Bx (K := K) (FR (m := BC 110) (ev_rkN (A5 rfl B1)) (A5 rfl AR) (A5 rfl AE)) hm xt.gh fun p22 vs23 G24 H25 x26 h27 o28 => q _ _ _ _ (xt.trans x26) (xt.hh.free h27) o28
 | false =>
  replace hm := cF hm
  refine BQ ?_
  refine bE hm fun b42 h43 hm => ?_
  refine B9 (tv_or (AJ (K := K) (Av (DR (B8 (CB (A5 rfl B1)) Af)) As)) (AJ (K := K) (Av (DR (B8 (CB (A5 rfl B1)) Af)) As))) h43 xt.gh fun G44 H45 x46 => ?_
  have xt := xt.trans x46
  have B1 := Rp.mono x46.gg B1
  have C8 := Rp.mono x46.gg C8
  have AE := Rp.mono x46.gg AE
  cases b42 with
  | true =>
   replace hm := cT hm
   refine BR ?_
   exact Bx (K := K) (fv_def4 (m := BG) (DR (B8 (CB (A5 rfl B1)) Af)) (BK (A5 rfl C8) (ev_asI (B8 (CB (A5 rfl B1)) Af))) (BK (A5 rfl C8) (ev_asI (B8 (CB (A5 rfl B1)) Af))) (A5 rfl AE)) hm xt.gh fun p64 vs65 G66 H67 x68 h69 o70 => q _ _ _ _ (xt.trans x68) (xt.hh.free h69) o70
  | false =>
   replace hm := cF hm
   refine BQ ?_
   exact Bx (K := K) (FR (m := BH) (DR (B8 (CB (A5 rfl B1)) Af)) (BK (A5 rfl C8) (ev_asI (B8 (CB (A5 rfl B1)) Af))) (A5 rfl AE)) hm xt.gh fun p82 vs83 G84 H85 x86 h87 o88 => q _ _ _ _ (xt.trans x86) (xt.hh.free h87) o88
theorem ok_law_rows_told {f : Addr} {fd : FuncData} (F : Fun K "_law_rows_told" "_law_rows_told" C2 f fd) (T : Txt K mg) (D_law_row_fits : DefOk P w K mg base "_law_row_fits" 1 ["_law_row", "_law_k"] (spM K DA)) (D_law_row_told : DefOk P w K mg base "_law_row_told" 114 ["_law_row", "_law_ahead_of", "_law_lit_here", "_law_stem"] (spL K DB)) : FnOk P w K mg base CX0 115 f fd ["_law_rows", "_law_lit_here", "_law_stem"] (spM K D0) := by
 refine F.ok sc_law_rows_told (fun vs H Q E h => (BL h).trans rfl) (fun cdv A outer s H0 vs Q E hr h => ?_)
 obtain ⟨G0, ⟨rows_, ⟨lit_here_, ⟨Az, ⟨⟩⟩⟩⟩, res, sg0, ⟨Fw, _, rfl, CO, ⟨Ch, _, rfl, AR, ⟨Cw, _, rfl, AE, rfl⟩⟩⟩, hm, q⟩ := h
 replace CO : Rp.rel K G0 Fw rows_ := CO
 replace AR : Rp.rel K G0 Ch lit_here_ := AR
 replace AE : Rp.rel K G0 Cw Az := AE
 replace hm : Be rows_ lit_here_ Az = some res := hm
 unfold Be at hm
 have xt : Ext G0 H0 G0 H0 := Ext.refl sg0
 refine ⟨_, (A6 (B0 (i := 3) sc_law_rows_told.nd rfl (Or.inl rfl) (CI A9))
   (A6 (Ed PassesOwn.never rfl (Bo rfl T.range_ (A4 (Ai (Ap (K := K) rfl) (by rfl) T.len_ Ba (A4 (pv 0) A9)) A9)) (Cc (i := 4) sc_law_rows_told.nd rfl (Or.inl rfl)) (A6 (Aw (pt_not (DZ (K := K) rfl (Ae D_law_row_fits hr (by decide) rfl (A4 (Ab (AD (K := K) rfl) (pv 0) (pv 4) (fun _ _ => rfl)) (A4 (pv 4) A9))) (fun _ => rfl))) (A6 (AS pe_non)
   A8) A8)
   (A6 (DC (D3 (K := K) rfl PySem.F.plainAttrs_list PySem.F.slot_list_append PySem.F.type_list_append C3 (pv 3) (A4 (Ae D_law_row_told hr (by decide) rfl (A4 (Ab (AD (K := K) rfl) (pv 0) (pv 4) (fun _ _ => rfl)) (A4 (pv 3) (A4 (pv 1) (A4 (pv 2) A9))))) A9)))
   A8)))
   (A6 (AS (pv 3))
   A8))), ?_⟩
 refine bE hm fun told_ h8 hm => ?_
 refine Fp (K := K) (CL (Aq (α := (List Bool)))) h8 xt.gh fun p1 vs2 G3 H4 x5 hz6 o7 => ?_
 have hz6 := xt.hh.free hz6
 have xt := xt.trans x5
 have CO := Rp.mono x5.gg CO
 have AR := Rp.mono x5.gg AR
 have AE := Rp.mono x5.gg AE
 refine bE hm fun as10 h11 hm => ?_
 refine bE hm fun fl12 h13 hm => ?_
 refine Ef (K := K) (RR := fun r v G' H' => Ext G0 H0 G' H' ∧ Rp.rel K G' v r) (Cy (Cg (A5 rfl CO))) h11 h13 xt.gh fun G14 H15 x16 => ⟨fun s17 S' G' H' => ∃ (v18 : Option V), Ext G0 H0 G' H' ∧ Same G14 G' ∧ S' = [some Fw, some Ch, some Cw, some (V.ref p1), v18] ∧ (∃ vs, Own K G' H' (V.ref p1) p1 vs s17), ?_, ?_, ?_, ?_, ?_⟩
 ·have xt := xt.trans x16
  have o7 := o7.ext x16
  exact ⟨_, xt, (Same.refl _), rfl, ⟨_, o7⟩⟩
 ·rintro _ S' G' H' ⟨v18, xt, mk19, rfl, ⟨vs2, o7⟩⟩
  exact ⟨mk19, xt.gh⟩
 ·rintro xv20 a21 s17 _ G24 H25 fl22 - ⟨v18, xt, mk19, rfl, ⟨vs2, o7⟩⟩ rx23 hm D' kN26 kC27 kB28 kR29
  have CO := Rp.mono (x16.gg.trans mk19) CO
  have AR := Rp.mono (x16.gg.trans mk19) AR
  have AE := Rp.mono (x16.gg.trans mk19) AE
  refine E8 ?_
  refine bE hm fun b35 h36 hm => ?_
  refine B9 (tv_not (tv_b (K := K) (CD (m := DA) (BK (A5 rfl CO) (A5 rfl rx23)) (A5 rfl rx23)))) h36 xt.gh fun G37 H38 x39 => ?_
  have xt := xt.trans x39
  have mk19 := mk19.trans x39.gg
  have CO := Rp.mono x39.gg CO
  have AR := Rp.mono x39.gg AR
  have AE := Rp.mono x39.gg AE
  have o7 := o7.ext x39
  have rx23 := Rp.mono x39.gg rx23
  cases b35 with
  | true =>
   replace hm := cT hm
   refine BR ?_
   refine bE hm fun rr45 h46 hm => ?_
   cases hm
   exact Am (K := K) (rest := C9) (σ := [some Fw, some Ch, some Cw, some (V.ref p1), some xv20]) (ev_none (α := (List (List Bool)))) h46 xt.gh fun v40 G41 H42 x43 r44 => kR29 _ v40 G41 H42 rfl ⟨xt.trans x43, r44⟩
  | false =>
   replace hm := cF hm
   refine BQ ?_
   refine bE hm fun a59 h60 hm => ?_
   refine bE hm fun z67 h61 hm => ?_
   refine sv_appendFB (K := K) rfl o7 (fv_def4 (m := DB) (BK (A5 rfl (Rp.mono (Same.new o7.g) CO)) (A5 rfl (Rp.mono (Same.new o7.g) rx23))) (A5 rfl o7.tell) (A5 rfl (Rp.mono (Same.new o7.g) AR)) (A5 rfl (Rp.mono (Same.new o7.g) AE))) h60 h61 xt.gh fun G62 H63 w64 x65 o66 => ?_
   have xt : Ext G0 H0 G62 (upd H63 p1 (.lst (vs2 ++ [w64]))) := (xt.trans x65).put hz6 o66.g
   have mk19 := mk19.trans x65.gg
   cases hm
   exact kN26 _ _ _ _ rfl ⟨_, xt, mk19, rfl, ⟨_, o66⟩⟩
 ·rintro s17 _ G70 H71 rfl ⟨v68, xt, mk69, rfl, ⟨vs2, o7⟩⟩
  refine FQ ?_
  have sf := Same.new (o := .lst vs2) o7.g
  have xt := xt.frz hz6 o7.g o7.h
  have r72 := o7.tell
  exact Am (K := K) (ev_some (A5 rfl r72)) hm xt.gh fun v73 G74 H75 x76 r77 => q v73 G74 H75 (xt.trans x76) r77
 ·rintro r' v' G' H' rfl rl
  cases hm
  exact q v' G' H' rl.1 rl.2
theorem ok_denied {f : Addr} {fd : FuncData} (F : Fun K "denied" "denied" Ei f fd) (T : Txt K mg) : FnOk P w K mg base CX0 1 f fd ["plain"] (spM K C1) := by
 refine F.ok sc_denied (fun vs H Q E h => (BL h).trans rfl) (fun cdv A outer s H0 vs Q E hr h => ?_)
 obtain ⟨G0, ⟨GI, ⟨⟩⟩, res, sg0, ⟨v_plain_, _, rfl, EK, rfl⟩, hm, q⟩ := h
 replace EK : Rp.rel K G0 v_plain_ GI := EK
 replace hm : Bf GI = some res := hm
 unfold Bf at hm
 have xt : Ext G0 H0 G0 H0 := Ext.refl sg0
 refine ⟨_, (A6 (Aw (AL Ax (Ab (AD (K := K) rfl) (pv 0) AA (fun _ _ => rfl)) AG (AX _)) (A6 (AS (Ab (AD (K := K) rfl) (pv 0) AA (fun _ _ => rfl)))
   A8) A8)
   (A6 (AS (BI (A4 AG (A4 (pv 0) A9))))
   A8)), ?_⟩
 refine bE hm fun b9 h10 hm => ?_
 refine B9 (AJ (K := K) (Av (D4 (B8 (BE (A5 rfl EK)) Af)) As)) h10 xt.gh fun G11 H12 x13 => ?_
 have xt := xt.trans x13
 have EK := Rp.mono x13.gg EK
 cases b9 with
 | true =>
  replace hm := cT hm
  refine BR ?_
  exact Am (K := K) (B8 (BE (A5 rfl EK)) Af) hm xt.gh fun v17 G18 H19 x20 r21 => q v17 G18 H19 (xt.trans x20) r21
 | false =>
  replace hm := cF hm
  refine BQ ?_
  exact Am (K := K) (B3 (AB (Ak As) (AB (A5 rfl EK) (Aq (α := Nt))))) hm xt.gh fun v22 G23 H24 x25 r26 => q v22 G23 H24 (xt.trans x25) r26
theorem ok_plain_with_two {f : Addr} {fd : FuncData} (F : Fun K "plain_with_two" "plain_with_two" Bp f fd) (T : Txt K mg) (D_denied : DefOk P w K mg base "denied" 1 ["plain"] (spM K C1)) : FnOk P w K mg base CX0 2 f fd ["word", "left", "right"] (spM K Ca) := by
 refine F.ok sc_plain_with_two (fun vs H Q E h => (BL h).trans rfl) (fun cdv A outer s H0 vs Q E hr h => ?_)
 obtain ⟨G0, ⟨B2, ⟨left_, ⟨Fj, ⟨⟩⟩⟩⟩, res, sg0, ⟨Et, _, rfl, AN, ⟨v_left_, _, rfl, D8, ⟨v_right_, _, rfl, CS, rfl⟩⟩⟩, hm, q⟩ := h
 replace AN : Rp.rel K G0 Et B2 := AN
 replace D8 : Rp.rel K G0 v_left_ left_ := D8
 replace CS : Rp.rel K G0 v_right_ Fj := CS
 replace hm : Bq B2 left_ Fj = some res := hm
 unfold Bq at hm
 have xt : Ext G0 H0 G0 H0 := Ext.refl sg0
 refine ⟨_, (A6 (Aw (AL Ax (pv 0) AG (AX _)) (A6 (AS (BI (A4 AG (A4 (BI (A4 AG (A4 (Ae D_denied hr (by decide) rfl (A4 (pv 1) A9)) (A4 (Ae D_denied hr (by decide) rfl (A4 (pv 2) A9)) A9)))) A9))))
   A8) A8)
   (A6 (Aw (AL Ax (pv 0) AG (AX _)) (A6 (AS (BI (A4 AG (A4 (BI (A4 AG (A4 (pv 1) (A4 (Ae D_denied hr (by decide) rfl (A4 (pv 2) A9)) A9)))) A9))))
   A8) A8)
   (A6 (Aw (AL Ax (pv 0) AG (AX _)) (A6 (AS (BI (A4 AG (A4 (BI (A4 AG (A4 (Ae D_denied hr (by decide) rfl (A4 (pv 1) A9)) (A4 (Ae D_denied hr (by decide) rfl (A4 (pv 2) A9)) A9)))) A9))))
   A8) A8)
   (A6 (AS (BI (A4 (pv 0) (A4 (pv 1) (A4 (pv 2) A9)))))
   A8)))), ?_⟩
 refine bE hm fun b1 h2 hm => ?_
 refine B9 (AJ (K := K) (Av (A5 rfl AN) As)) h2 xt.gh fun G3 H4 x5 => ?_
 have xt := xt.trans x5
 have AN := Rp.mono x5.gg AN
 have D8 := Rp.mono x5.gg D8
 have CS := Rp.mono x5.gg CS
 cases b1 with
 | true =>
  replace hm := cT hm
  refine BR ?_
  exact Am (K := K) (B3 (AB (Ak As) (AB (B3 (AB (Ak As) (AB (C6 (m := C1) (A5 rfl D8)) (AB (C6 (m := C1) (A5 rfl CS)) (Aq (α := Nt)))))) (Aq (α := Nt))))) hm xt.gh fun v16 G17 H18 x19 r20 => q v16 G17 H18 (xt.trans x19) r20
 | false =>
  replace hm := cF hm
  refine BQ ?_
  refine bE hm fun b21 h22 hm => ?_
  refine B9 (AJ (K := K) (Av (A5 rfl AN) As)) h22 xt.gh fun G23 H24 x25 => ?_
  have xt := xt.trans x25
  have AN := Rp.mono x25.gg AN
  have D8 := Rp.mono x25.gg D8
  have CS := Rp.mono x25.gg CS
  cases b21 with
  | true =>
   replace hm := cT hm
   refine BR ?_
   exact Am (K := K) (B3 (AB (Ak As) (AB (B3 (AB (Ak As) (AB (A5 rfl D8) (AB (C6 (m := C1) (A5 rfl CS)) (Aq (α := Nt)))))) (Aq (α := Nt))))) hm xt.gh fun v34 G35 H36 x37 r38 => q v34 G35 H36 (xt.trans x37) r38
  | false =>
   replace hm := cF hm
   refine BQ ?_
   refine bE hm fun b39 h40 hm => ?_
   refine B9 (AJ (K := K) (Av (A5 rfl AN) As)) h40 xt.gh fun G41 H42 x43 => ?_
   have xt := xt.trans x43
   have AN := Rp.mono x43.gg AN
   have D8 := Rp.mono x43.gg D8
   have CS := Rp.mono x43.gg CS
   cases b39 with
   | true =>
    replace hm := cT hm
    refine BR ?_
    exact Am (K := K) (B3 (AB (Ak As) (AB (B3 (AB (Ak As) (AB (C6 (m := C1) (A5 rfl D8)) (AB (C6 (m := C1) (A5 rfl CS)) (Aq (α := Nt)))))) (Aq (α := Nt))))) hm xt.gh fun v54 G55 H56 x57 r58 => q v54 G55 H56 (xt.trans x57) r58
   | false =>
    replace hm := cF hm
    refine BQ ?_
    exact Am (K := K) (B3 (AB (Ak (A5 rfl AN)) (AB (A5 rfl D8) (AB (A5 rfl CS) (Aq (α := Nt)))))) hm xt.gh fun v59 G60 H61 x62 r63 => q v59 G60 H61 (xt.trans x62) r63
theorem ok_plain_with_one {f : Addr} {fd : FuncData} (F : Fun K "plain_with_one" "plain_with_one" Bt f fd) (T : Txt K mg) (D_denied : DefOk P w K mg base "denied" 1 ["plain"] (spM K C1)) : FnOk P w K mg base CX0 2 f fd ["word", "inner"] (spM K Ce) := by
 refine F.ok sc_plain_with_one (fun vs H Q E h => (BL h).trans rfl) (fun cdv A outer s H0 vs Q E hr h => ?_)
 obtain ⟨G0, ⟨B2, ⟨FA, ⟨⟩⟩⟩, res, sg0, ⟨Et, _, rfl, AN, ⟨v_inner_, _, rfl, BS, rfl⟩⟩, hm, q⟩ := h
 replace AN : Rp.rel K G0 Et B2 := AN
 replace BS : Rp.rel K G0 v_inner_ FA := BS
 replace hm : Br B2 FA = some res := hm
 unfold Br at hm
 obtain ⟨a_YES, e_YES, q_YES⟩ := T.YES
 have xt : Ext G0 H0 G0 H0 := Ext.refl sg0
 refine ⟨_, (A6 (Aw (AL Ax (pv 0) AG (AX _)) (A6 (AS (Ae D_denied hr (by decide) rfl (A4 (pv 1) A9)))
   A8) A8)
   (A6 (Aw (AL Ax (pv 0) AG (AX _)) (A6 (AS (BI (A4 AG (A4 (pv 1) A9))))
   A8) A8)
   (A6 (Aw (AL Ax (pv 0) AG (AX _)) (A6 (AS (BI (A4 AG (A4 (EO rfl e_YES) (A4 (pv 1) A9)))))
   A8) A8)
   (A6 (Aw (AL Ax (pv 0) AG (AX _)) (A6 (AS (BI (A4 AG (A4 (BI (A4 AG (A4 (EO rfl e_YES) (A4 (Ae D_denied hr (by decide) rfl (A4 (pv 1) A9)) A9)))) A9))))
   A8) A8)
   (A6 (Aw (AL Ax (pv 0) AG (AX _)) (A6 (AS (BI (A4 AG (A4 (BI (A4 AG (A4 (EO rfl e_YES) (A4 (BI (A4 AG (A4 (BI (A4 AG (A4 (EO rfl e_YES) (A4 (pv 1) A9)))) A9))) A9)))) A9))))
   A8) A8)
   (A6 (AS (BI (A4 AG (A4 (EO rfl e_YES) (A4 (BI (A4 AG (A4 (BI (A4 AG (A4 (EO rfl e_YES) (A4 (Ae D_denied hr (by decide) rfl (A4 (pv 1) A9)) A9)))) A9))) A9)))))
   A8)))))), ?_⟩
 refine bE hm fun b1 h2 hm => ?_
 refine B9 (AJ (K := K) (Av (A5 rfl AN) As)) h2 xt.gh fun G3 H4 x5 => ?_
 have xt := xt.trans x5
 have AN := Rp.mono x5.gg AN
 have BS := Rp.mono x5.gg BS
 cases b1 with
 | true =>
  replace hm := cT hm
  refine BR ?_
  exact Am (K := K) (C6 (m := C1) (A5 rfl BS)) hm xt.gh fun v7 G8 H9 x10 r11 => q v7 G8 H9 (xt.trans x10) r11
 | false =>
  replace hm := cF hm
  refine BQ ?_
  refine bE hm fun b12 h13 hm => ?_
  refine B9 (AJ (K := K) (Av (A5 rfl AN) As)) h13 xt.gh fun G14 H15 x16 => ?_
  have xt := xt.trans x16
  have AN := Rp.mono x16.gg AN
  have BS := Rp.mono x16.gg BS
  cases b12 with
  | true =>
   replace hm := cT hm
   refine BR ?_
   exact Am (K := K) (B3 (AB (Ak As) (AB (A5 rfl BS) (Aq (α := Nt))))) hm xt.gh fun v17 G18 H19 x20 r21 => q v17 G18 H19 (xt.trans x20) r21
  | false =>
   replace hm := cF hm
   refine BQ ?_
   refine bE hm fun b22 h23 hm => ?_
   refine B9 (AJ (K := K) (Av (A5 rfl AN) As)) h23 xt.gh fun G24 H25 x26 => ?_
   have xt := xt.trans x26
   have AN := Rp.mono x26.gg AN
   have BS := Rp.mono x26.gg BS
   cases b22 with
   | true =>
    replace hm := cT hm
    refine BR ?_
    exact Am (K := K) (B3 (AB (Ak As) (AB (GS q_YES) (AB (A5 rfl BS) (Aq (α := Nt)))))) hm xt.gh fun v27 G28 H29 x30 r31 => q v27 G28 H29 (xt.trans x30) r31
   | false =>
    replace hm := cF hm
    refine BQ ?_
    refine bE hm fun b32 h33 hm => ?_
    refine B9 (AJ (K := K) (Av (A5 rfl AN) As)) h33 xt.gh fun G34 H35 x36 => ?_
    have xt := xt.trans x36
    have AN := Rp.mono x36.gg AN
    have BS := Rp.mono x36.gg BS
    cases b32 with
    | true =>
     replace hm := cT hm
     refine BR ?_
     exact Am (K := K) (B3 (AB (Ak As) (AB (B3 (AB (Ak As) (AB (GS q_YES) (AB (C6 (m := C1) (A5 rfl BS)) (Aq (α := Nt)))))) (Aq (α := Nt))))) hm xt.gh fun v45 G46 H47 x48 r49 => q v45 G46 H47 (xt.trans x48) r49
    | false =>
     replace hm := cF hm
     refine BQ ?_
     refine bE hm fun b50 h51 hm => ?_
     refine B9 (AJ (K := K) (Av (A5 rfl AN) As)) h51 xt.gh fun G52 H53 x54 => ?_
     have xt := xt.trans x54
     have BS := Rp.mono x54.gg BS
     cases b50 with
     | true =>
      replace hm := cT hm
      refine BR ?_
      exact Am (K := K) (B3 (AB (Ak As) (AB (B3 (AB (Ak As) (AB (GS q_YES) (AB (B3 (AB (Ak As) (AB (B3 (AB (Ak As) (AB (GS q_YES) (AB (A5 rfl BS) (Aq (α := Nt)))))) (Aq (α := Nt))))) (Aq (α := Nt)))))) (Aq (α := Nt))))) hm xt.gh fun v55 G56 H57 x58 r59 => q v55 G56 H57 (xt.trans x58) r59
     | false =>
      replace hm := cF hm
      refine BQ ?_
      exact Am (K := K) (B3 (AB (Ak As) (AB (GS q_YES) (AB (B3 (AB (Ak As) (AB (B3 (AB (Ak As) (AB (GS q_YES) (AB (C6 (m := C1) (A5 rfl BS)) (Aq (α := Nt)))))) (Aq (α := Nt))))) (Aq (α := Nt)))))) hm xt.gh fun v72 G73 H74 x75 r76 => q v72 G73 H74 (xt.trans x75) r76
theorem ok0_plain {f : Addr} {fd : FuncData} (F : Fun K "plain" "plain" Ew f fd) : FnOk P w K mg base CX0 3 f fd ["sentence"] (spM K (D5 0)) := by
 refine F.ok sc_plain (fun vs H Q E h => (BL h).trans rfl) (fun cdv A outer s H0 vs Q E hr h => ?_)
 obtain ⟨_, _, _, _, _, hm, _⟩ := h
 exact nomatch (hm : none = some _)
theorem ok_plain {f : Addr} {fd : FuncData} (F : Fun K "plain" "plain" Ew f fd) (T : Txt K mg) (D_plain_with_two : DefOk P w K mg base "plain_with_two" 2 ["word", "left", "right"] (spM K Ca)) (D_plain_with_one : DefOk P w K mg base "plain_with_one" 2 ["word", "inner"] (spM K Ce)) (CT : Nat) (D_plain : DefOk P w K mg base "plain" (3 + CT) ["sentence"] (spM K (D5 CT))) : FnOk P w K mg base CX0 (3 + CT + 1) f fd ["sentence"] (spM K (D5 (CT + 1))) := by
 refine F.ok sc_plain (fun vs H Q E h => (BL h).trans rfl) (fun cdv A outer s H0 vs Q E hr h => ?_)
 obtain ⟨G0, ⟨An, ⟨⟩⟩, res, sg0, ⟨Bn, _, rfl, AT, rfl⟩, hm, q⟩ := h
 replace AT : Rp.rel K G0 Bn An := AT
 replace hm : Db (E7 CT) An = some res := hm
 unfold Db at hm
 obtain ⟨a_YES, e_YES, q_YES⟩ := T.YES
 have xt : Ext G0 H0 G0 H0 := Ext.refl sg0
 refine ⟨_, (A6 (B0 (i := 1) sc_plain.nd rfl (Or.inl rfl) (Ab (AD (K := K) rfl) (pv 0) AA (fun _ _ => rfl)))
   (A6 (Aw (AL Ax (pv 1) AG (AX _)) (A6 (AS (BI (A4 AG (A4 (EO rfl e_YES) A9))))
   A8) A8)
   (A6 (Aw (PW.pt (pw_or (AL Ax (pv 1) AG (AX _)) (Fi (AL Ax (pv 1) AG (AX _))))) (A6 (AS (pv 0))
   A8) A8)
   (A6 (Aw (AL Ax (Ai (Ap (K := K) rfl) (by rfl) T.len_ Ba (A4 (pv 0) A9)) AA (AX _)) (A6 (AS (Ae D_plain_with_one hr (by omega) rfl (A4 (pv 1) (A4 (Ae D_plain hr (by omega) rfl (A4 (Ab (AD (K := K) rfl) (pv 0) AA (fun _ _ => rfl)) A9)) A9))))
   A8) A8)
   (A6 (AS (Ae D_plain_with_two hr (by omega) rfl (A4 (pv 1) (A4 (Ae D_plain hr (by omega) rfl (A4 (Ab (AD (K := K) rfl) (pv 0) AA (fun _ _ => rfl)) A9)) (A4 (Ae D_plain hr (by omega) rfl (A4 (Ab (AD (K := K) rfl) (pv 0) AA (fun _ _ => rfl)) A9)) A9)))))
   A8))))), ?_⟩
 refine bE hm fun B2 h10 hm => ?_
 refine Bd (K := K) (D4 (B8 (BE (A5 rfl AT)) Af)) h10 xt.gh fun v5 G6 H7 x8 r9 => ?_
 have xt := xt.trans x8
 have AT := Rp.mono x8.gg AT
 refine bE hm fun b11 h12 hm => ?_
 refine B9 (AJ (K := K) (Av (A5 rfl r9) As)) h12 xt.gh fun G13 H14 x15 => ?_
 have xt := xt.trans x15
 have AT := Rp.mono x15.gg AT
 have r9 := Rp.mono x15.gg r9
 cases b11 with
 | true =>
  replace hm := cT hm
  refine BR ?_
  exact Am (K := K) (rest := C9) (σ := [some Bn, some v5]) (B3 (AB (Ak As) (AB (GS q_YES) (Aq (α := Nt))))) hm xt.gh fun v16 G17 H18 x19 r20 => q v16 G17 H18 (xt.trans x19) r20
 | false =>
  replace hm := cF hm
  refine BQ ?_
  refine bE hm fun b21 h22 hm => ?_
  refine B9 (tv_orP (AJ (K := K) (Av (A5 rfl r9) As)) (AJ (K := K) (Av (A5 rfl r9) As))) h22 xt.gh fun G23 H24 x25 => ?_
  have xt := xt.trans x25
  have AT := Rp.mono x25.gg AT
  have r9 := Rp.mono x25.gg r9
  cases b21 with
  | true =>
   replace hm := cT hm
   refine BR ?_
   exact Am (K := K) (A5 rfl AT) hm xt.gh fun v26 G27 H28 x29 r30 => q v26 G27 H28 (xt.trans x29) r30
  | false =>
   replace hm := cF hm
   refine BQ ?_
   refine bE hm fun b34 h35 hm => ?_
   refine B9 (AJ (K := K) (DY (FS (BE (A5 rfl AT))) Af)) h35 xt.gh fun G36 H37 x38 => ?_
   have xt := xt.trans x38
   have AT := Rp.mono x38.gg AT
   have r9 := Rp.mono x38.gg r9
   cases b34 with
   | true =>
    replace hm := cT hm
    refine BR ?_
    exact Am (K := K) (CD (m := Ce) (A5 rfl r9) (C6 (m := D5 CT) (B8 (BE (A5 rfl AT)) Af))) hm xt.gh fun v45 G46 H47 x48 r49 => q v45 G46 H47 (xt.trans x48) r49
   | false =>
    replace hm := cF hm
    refine BQ ?_
    exact Am (K := K) (Eb (m := Ca) (A5 rfl r9) (C6 (m := D5 CT) (B8 (BE (A5 rfl AT)) Af)) (C6 (m := D5 CT) (B8 (BE (A5 rfl AT)) Af))) hm xt.gh fun v61 G62 H63 x64 r65 => q v61 G62 H63 (xt.trans x64) r65
theorem ok_lamps_in {f : Addr} {fd : FuncData} (F : Fun K "lamps_in" "lamps_in" Df f fd) (T : Txt K mg) : FnOk P w K mg base CX0 1 f fd ["rows"] (spM K ET) := by
 refine F.ok sc_lamps_in (fun vs H Q E h => (BL h).trans rfl) (fun cdv A outer s H0 vs Q E hr h => ?_)
 obtain ⟨G0, ⟨rows_, ⟨⟩⟩, res, sg0, ⟨Fw, _, rfl, CO, rfl⟩, hm, q⟩ := h
 replace CO : Rp.rel K G0 Fw rows_ := CO
 replace hm : DF rows_ = some res := hm
 unfold DF at hm
 have xt : Ext G0 H0 G0 H0 := Ext.refl sg0
 refine ⟨_, (A6 (AS (D3 (K := K) rfl PySem.F.plainAttrs_str PySem.F.slot_str_join PySem.F.type_str_join (FI (K := K) rfl) AG (A4 (Ai (call_sortPS (w := w) rfl rfl) (by rfl) T.sorted_ bt_sorted (A4 (DV (call_setL (K := K) (w := w) rfl rfl rfl) (by rfl) T.set_ bt_set (A4 (Cb (cn := []) (cap := []) rfl ⟨by decide +kernel, rfl, by decide +kernel, C7 rfl⟩ rfl (by decide +kernel) trivial (D1 (K := K) rfl (pv 0)) (fun C s0 H0 fp => ⟨(Fy (AL Ax (Ab (AD (K := K) rfl) (pv 0) AA (fun _ _ => rfl)) AG (AX _))), (Ab (AD (K := K) rfl) (pv 0) AA (fun _ _ => rfl))⟩)) A9)) A9)) A9)))
   A8), ?_⟩
 exact Am (K := K) (Fq As (FV.ev (fv_sortSetS (w := w) (FV.ev (Ft (cap := []) (fc := fun (row_ : Rk) => ((((some row_.tp).bind fun t23 => (some (0 : Int)).bind fun t24 => atI t23.l t24).bind fun t25 => asS t25).bind fun t26 => (some (decide (t26 = ("lamp" : Str)))))) (fe := fun (row_ : Rk) => (((some row_.tp).bind fun t18 => (some (1 : Int)).bind fun t19 => atI t18.l t19).bind fun t20 => asS t20)) (Dn (A5 rfl CO)) fun xc17 row_ Gc14 sc15 rc16 => ⟨(AJ (K := K) (Av (DR (B8 (CB (A5 rfl rc16)) Af)) As)), (DR (B8 (CB (A5 rfl rc16)) Af))⟩))))) hm xt.gh fun v31 G32 H33 x34 r35 => q v31 G32 H33 (xt.trans x34) r35
theorem ok_all_within {f : Addr} {fd : FuncData} (F : Fun K "all_within" "all_within" Cq f fd) (T : Txt K mg) (D_parts_of : DefOk P w K mg base "parts_of" 1 ["sentence"] (spM K DM)) : FnOk P w K mg base CX0 2 f fd ["sentence"] (spM K Dp) := by
 refine F.ok sc_all_within (fun vs H Q E h => (BL h).trans rfl) (fun cdv A outer s H0 vs Q E hr h => ?_)
 obtain ⟨G0, ⟨An, ⟨⟩⟩, res, sg0, ⟨Bn, _, rfl, AT, rfl⟩, hm, q⟩ := h
 replace AT : Rp.rel K G0 Bn An := AT
 replace hm : Cu An = some res := hm
 unfold Cu at hm
 have xt : Ext G0 H0 G0 H0 := Ext.refl sg0
 refine ⟨_, (A6 (B0 (i := 1) sc_all_within.nd rfl (Or.inl rfl) (CI (A4 (pv 0) A9)))
   (A6 (B0 (i := 2) sc_all_within.nd rfl (Or.inl rfl) AA)
   (A6 (ps_while PassesOwn.never (AL GC (pv 2) (Ai (Ap (K := K) rfl) (by rfl) T.len_ Ba (A4 (pv 1) A9)) (AX _)) (A6 (DC (D3 (K := K) rfl PySem.F.plainAttrs_list PySem.F.slot_list_extend PySem.F.type_list_extend (mt_extendT (K := K) rfl) (pv 1) (A4 (Ae D_parts_of hr (by decide) rfl (A4 (Ab (AD (K := K) rfl) (pv 1) (pv 2) (fun _ _ => rfl)) A9)) A9)))
   (A6 (B0 (i := 2) sc_all_within.nd rfl (Or.inl rfl) (Ah (Ar (K := K) rfl) (pv 2) AA))
   A8)))
   (A6 (AS (pv 1))
   A8)))), ?_⟩
 refine bE hm fun found_ h8 hm => ?_
 refine Fp (K := K) (CL (AB (A5 rfl AT) (Aq (α := Nt)))) h8 xt.gh fun p1 vs2 G3 H4 x5 hz6 o7 => ?_
 have hz6 := xt.hh.free hz6
 have xt := xt.trans x5
 refine bE hm fun Cm h14 hm => ?_
 refine Bd (K := K) Af h14 xt.gh fun v9 G10 H11 x12 r13 => ?_
 have xt := xt.trans x12
 have o7 := o7.ext x12
 refine bE hm fun fl15 h16 hm => ?_
 refine sv_while (K := K) (G := G10) (RR := fun r v G' H' => Ext G0 H0 G' H' ∧ Rp.rel K G' v r) h16 (fun s17 S' G' H' => ∃ (v18 : V), Ext G0 H0 G' H' ∧ Same G10 G' ∧ S' = [some Bn, some (V.ref p1), some v18] ∧ (∃ vs, Own K G' H' (V.ref p1) p1 vs s17.1) ∧ Rp.rel K G' v18 (s17.2 : Int)) ⟨?_, ?_, ?_, ?_, ?_, ?_⟩
 ·exact ⟨v9, xt, (Same.refl _), rfl, ⟨_, o7⟩, r13⟩
 ·rintro _ S' G' H' ⟨v18, xt, mk19, rfl, ⟨vs2, o7⟩, r20⟩
  exact xt.gh
 ·rintro s17 _ G21 H22 b' ⟨v18, xt, mk19, rfl, ⟨vs2, o7⟩, r20⟩ hc Q' k'
  refine TV.runB o7 (AJ (K := K) (Ee (A5 rfl (Rp.mono (Same.new o7.g) r20)) (Cg (A5 rfl o7.tell)))) hc xt.gh fun G23 H24 x25 => ?_
  have xt := xt.trans x25
  have mk19 := mk19.trans x25.gg
  have o7 := o7.ext x25
  have r20 := Rp.mono x25.gg r20
  exact k' _ _ ⟨v18, xt, mk19, rfl, ⟨_, o7⟩, r20⟩
 ·rintro s17 _ G27 H28 fl26 ⟨v18, xt, mk19, rfl, ⟨vs2, o7⟩, r20⟩ hm - D' kN29 kC30 kB31 kR32
  refine bE hm fun a39 h40 hm => ?_
  refine bE hm fun z47 h41 hm => ?_
  refine sv_extendTB (K := K) rfl o7 (C6 (m := DM) (BK (A5 rfl o7.tell) (A5 rfl (Rp.mono (Same.new o7.g) r20)))) h40 h41 xt.gh fun G42 H43 w44 x45 o46 => ?_
  have xt : Ext G0 H0 G42 (upd H43 p1 (.lst (vs2 ++ w44))) := (xt.trans x45).put hz6 o46.g
  have mk19 := mk19.trans x45.gg
  have r20 := Rp.mono x45.gg r20
  refine bE hm fun Cm h53 hm => ?_
  refine Bd (K := K) (Bh (A5 rfl r20) Af) h53 xt.gh fun v48 G49 H50 x51 r52 => ?_
  have xt := xt.trans x51
  have mk19 := mk19.trans x51.gg
  have o46 := o46.ext x51
  cases hm
  exact kN29 _ _ _ _ rfl ⟨v48, xt, mk19, rfl, ⟨_, o46⟩, r52⟩
 ·rintro s17 _ G57 H58 rfl ⟨v54, xt, mk55, rfl, ⟨vs2, o7⟩, r56⟩
  refine FQ ?_
  have sf := Same.new (o := .lst vs2) o7.g
  have xt := xt.frz hz6 o7.g o7.h
  have r59 := o7.tell
  exact Am (K := K) (A5 rfl r59) hm xt.gh fun v60 G61 H62 x63 r64 => q v60 G61 H62 (xt.trans x63) r64
 ·rintro r' v' G' H' rfl rl
  cases hm
  exact q v' G' H' rl.1 rl.2
theorem ok_lamps_of {f : Addr} {fd : FuncData} (F : Fun K "lamps_of" "lamps_of" De f fd) (T : Txt K mg) (D_all_within : DefOk P w K mg base "all_within" 2 ["sentence"] (spM K Dp)) : FnOk P w K mg base CX0 3 f fd ["sentence"] (spM K EX) := by
 refine F.ok sc_lamps_of (fun vs H Q E h => (BL h).trans rfl) (fun cdv A outer s H0 vs Q E hr h => ?_)
 obtain ⟨G0, ⟨An, ⟨⟩⟩, res, sg0, ⟨Bn, _, rfl, AT, rfl⟩, hm, q⟩ := h
 replace AT : Rp.rel K G0 Bn An := AT
 replace hm : Ck An = some res := hm
 unfold Ck at hm
 have xt : Ext G0 H0 G0 H0 := Ext.refl sg0
 refine ⟨_, (A6 (AS (D3 (K := K) rfl PySem.F.plainAttrs_str PySem.F.slot_str_join PySem.F.type_str_join (FI (K := K) rfl) AG (A4 (Ai (call_sortPS (w := w) rfl rfl) (by rfl) T.sorted_ bt_sorted (A4 (DV (call_setL (K := K) (w := w) rfl rfl rfl) (by rfl) T.set_ bt_set (A4 (Cb (cn := []) (cap := []) rfl ⟨by decide +kernel, rfl, by decide +kernel, C7 rfl⟩ rfl (by decide +kernel) trivial (D1 (K := K) rfl (Ae D_all_within hr (by decide) rfl (A4 (pv 0) A9))) (fun C s0 H0 fp => ⟨(Fy (AL Ax (Ab (AD (K := K) rfl) (pv 0) AA (fun _ _ => rfl)) AG (AX _))), (Ab (AD (K := K) rfl) (pv 0) AA (fun _ _ => rfl))⟩)) A9)) A9)) A9)))
   A8), ?_⟩
 exact Am (K := K) (Fq As (FV.ev (fv_sortSetS (w := w) (FV.ev (Ft (cap := []) (fc := fun (DP : Nt) => (((((some DP).bind fun t30 => BF t30).bind fun t31 => (some (0 : Int)).bind fun t32 => atI t31.l t32).bind fun t33 => Bz t33).bind fun t34 => (some (decide (t34 = ("lamp" : Str)))))) (fe := fun (DP : Nt) => ((((some DP).bind fun t23 => BF t23).bind fun t24 => (some (1 : Int)).bind fun t25 => atI t24.l t25).bind fun t26 => Bz t26)) (Dn (C6 (m := Dp) (A5 rfl AT))) fun xc22 DP Gc19 sc20 rc21 => ⟨(AJ (K := K) (Av (D4 (B8 (BE (A5 rfl rc21)) Af)) As)), (D4 (B8 (BE (A5 rfl rc21)) Af))⟩))))) hm xt.gh fun v39 G40 H41 x42 r43 => q v39 G40 H41 (xt.trans x42) r43
theorem ok_law {f : Addr} {fd : FuncData} (F : Fun K "law" "law" Fz f fd) (T : Txt K mg) (D_law_letters : DefOk P w K mg base "_law_letters" 1 ["_law_cell"] (spM K DT)) (D_law_some : DefOk P w K mg base "_law_some" 4 ["_law_script", "_law_letters_here"] (spM K EZ)) (D_law_cell_at : DefOk P w K mg base "_law_cell_at" 1 ["_law_script", "_law_k"] (spM K Au)) (D_law_lit : DefOk P w K mg base "_law_lit" 2 ["_law_cell", "_law_many", "_law_letters_here"] (spM K Ex)) (D_book_of : DefOk P w K mg base "book_of" 163 ["some"] (spN K Eu)) (D_law_rows_told : DefOk P w K mg base "_law_rows_told" 115 ["_law_rows", "_law_lit_here", "_law_stem"] (spM K D0)) (D_plain : DefOk P w K mg base "plain" 29 ["sentence"] (spM K (D5 26))) (D_lamps_in : DefOk P w K mg base "lamps_in" 1 ["rows"] (spM K ET)) (D_law_truths : DefOk P w K mg base "_law_truths" 113 ["_law_told", "_law_lit_here", "_law_stem"] (spL K (BC 110))) (D_lamps_of : DefOk P w K mg base "lamps_of" 3 ["sentence"] (spM K EX)) : FnOk P w K mg base CX0 164 f fd ["_law_script"] (spM K mm_law) := by
 refine F.ok sc_law (fun vs H Q E h => (BL h).trans rfl) (fun cdv A outer s H0 vs Q E hr h => ?_)
 obtain ⟨G0, ⟨script_, ⟨⟩⟩, res, sg0, ⟨BU, _, rfl, AI, rfl⟩, hm, q⟩ := h
 replace AI : Rp.rel K G0 BU script_ := AI
 replace hm : m_law script_ = some res := hm
 unfold m_law at hm
 have xt : Ext G0 H0 G0 H0 := Ext.refl sg0
 refine ⟨_, (A6 (B0 (i := 1) sc_law.nd rfl (Or.inl rfl) (Ae D_law_letters hr (by decide) rfl (A4 (Ae D_law_cell_at hr (by decide) rfl (A4 (pv 0) (A4 AA A9))) A9)))
   (A6 (B0 (i := 2) sc_law.nd rfl (Or.inl rfl) (Ae D_law_some hr (by decide) rfl (A4 (pv 0) (A4 (pv 1) A9))))
   (A6 (B0 (i := 3) sc_law.nd rfl (Or.inl rfl) (Ae D_law_cell_at hr (by decide) rfl (A4 (pv 0) (A4 AA A9))))
   (A6 (B0 (i := 4) sc_law.nd rfl (Or.inl rfl) (Ah CC (pv 3) AA))
   (A6 (B0 (i := 5) sc_law.nd rfl (Or.inl rfl) (Ae D_law_lit hr (by decide) rfl (A4 (Ah DQ (pv 3) AA) (A4 (Ah (Ar (K := K) rfl) (Ah (Ar (K := K) rfl) (pv 4) AA) (Ah CC (Ah DQ (pv 3) AA) AA)) (A4 (pv 1) A9)))))
   (A6 (ps_setcomp (i := 6) sc_law.nd rfl (Or.inl rfl) (cn := []) (cap := []) rfl ⟨by decide +kernel, rfl, by decide +kernel, C7 rfl⟩ rfl (by decide +kernel) trivial (D1 (K := K) rfl (pv 2)) (fun C s0 H0 fp => ⟨D9, (Ae D_plain hr (by decide) rfl (A4 (pv 0) A9))⟩))
   (A6 (GE (Ae D_book_of hr (by decide) rfl (A4 (DV (call_listK (K := K) rfl) (by rfl) T.list_ bt_list (A4 (pv 6) A9)) A9)) (pg_tup rfl (pgs_cons (Cc (i := 7) sc_law.nd rfl (Or.inl rfl)) (pgs_cons (Cc (i := 8) sc_law.nd rfl (Or.inl rfl)) pgs_nil))))
   (A6 (B0 (i := 9) sc_law.nd rfl (Or.inl rfl) (Ae D_law_rows_told hr (by decide) rfl (A4 (pv 7) (A4 (pv 5) (A4 (pv 4) A9)))))
   (A6 (Aw (PW.pt (pw_or (AL op_isN (pv 9) pe_non (AX _)) (Fi (AL op_ne (Ai (Ap (K := K) rfl) (by rfl) T.len_ Ba (A4 (pv 8) A9)) (Ai (Ap (K := K) rfl) (by rfl) T.len_ Ba (A4 (pv 2) A9)) (AX _))))) (A6 (AS FF)
   A8) A8)
   (A6 (Ed PassesOwn.never rfl (Bo rfl T.range_ (A4 (Ai (Ap (K := K) rfl) (by rfl) T.len_ Ba (A4 (pv 2) A9)) A9)) (Cc (i := 10) sc_law.nd rfl (Or.inl rfl)) (A6 (Aw (AL (op_neK (K := K) rfl (List Bool) hr (by decide)) (Ab (AD (K := K) rfl) (pv 9) (Ab (AD (K := K) rfl) (pv 8) (pv 10) (fun _ _ => rfl)) (fun _ _ => rfl)) (Ae D_law_truths hr (by decide) rfl (A4 (Ab (AD (K := K) rfl) (pv 2) (pv 10) (fun _ _ => rfl)) (A4 (pv 5) (A4 (pv 4) A9)))) (AX _)) (A6 (AS FF)
   A8) A8)
   (A6 (Ed PassesOwn.never rfl (Bo rfl T.range_ (A4 (pv 10) A9)) (Cc (i := 11) sc_law.nd rfl (Or.inl rfl)) (A6 (Aw (AL op_ne (Dr Ax (Ab (AD (K := K) rfl) (pv 8) (pv 10) (fun _ _ => rfl)) (Ab (AD (K := K) rfl) (pv 8) (pv 11) (fun _ _ => rfl)) (AX _)) (Dr (op_eqN (K := K) rfl hr) (Ab (AD (K := K) rfl) (pv 6) (pv 10) (fun _ _ => rfl)) (Ab (AD (K := K) rfl) (pv 6) (pv 11) (fun _ _ => rfl)) (AX _)) (AX _)) (A6 (AS FF)
   A8) A8)
   A8))
   A8)))
   (A6 (B0 (i := 12) sc_law.nd rfl (Or.inr rfl) (D3 (K := K) rfl PySem.F.plainAttrs_str PySem.F.slot_str_join PySem.F.type_str_join (FI (K := K) rfl) AG (A4 (Cb (cn := []) (cap := []) rfl ⟨by decide +kernel, rfl, by decide +kernel, C7 rfl⟩ rfl (by decide +kernel) trivial (D1 (K := K) rfl (pv 2)) (fun C s0 H0 fp => ⟨D9, (Ae D_lamps_of hr (by decide) rfl (A4 (pv 0) A9))⟩)) A9)))
   (A6 (AS (Dr Ax (Ae D_lamps_in hr (by decide) rfl (A4 (pv 7) A9)) (D3 (K := K) rfl PySem.F.plainAttrs_str PySem.F.slot_str_join PySem.F.type_str_join (FI (K := K) rfl) AG (A4 (Cb (cn := ["_law_lamps"]) (cap := [12]) rfl ⟨by decide +kernel, rfl, by decide +kernel, C7 rfl⟩ rfl (by decide +kernel) ⟨⟨rfl, .inl rfl, rfl⟩, trivial⟩ (D1 (K := K) rfl AG) (fun C s0 H0 fp => ⟨(Fy (AL op_in_str (pv 0) (pv 1) rfl)), (pv 0)⟩)) A9)) (AX _)))
   A8)))))))))))), ?_⟩
 refine bE hm fun letters_here_ h9 hm => ?_
 refine Bd (K := K) (C6 (m := DT) (CD (m := Au) (A5 rfl AI) Af)) h9 xt.gh fun v4 G5 H6 x7 r8 => ?_
 have xt := xt.trans x7
 have AI := Rp.mono x7.gg AI
 refine bE hm fun some_here_ h17 hm => ?_
 refine Bd (K := K) (CD (m := EZ) (A5 rfl AI) (A5 rfl r8)) h17 xt.gh fun v12 G13 H14 x15 r16 => ?_
 have xt := xt.trans x15
 have AI := Rp.mono x15.gg AI
 have r8 := Rp.mono x15.gg r8
 refine bE hm fun BZ h25 hm => ?_
 refine Bd (K := K) (CD (m := Au) (A5 rfl AI) Af) h25 xt.gh fun v20 G21 H22 x23 r24 => ?_
 have xt := xt.trans x23
 have r8 := Rp.mono x23.gg r8
 have r16 := Rp.mono x23.gg r16
 refine bE hm fun Az h31 hm => ?_
 refine Bd (K := K) (Bg (A5 rfl r24)) h31 xt.gh fun v26 G27 H28 x29 r30 => ?_
 have xt := xt.trans x29
 have r8 := Rp.mono x29.gg r8
 have r16 := Rp.mono x29.gg r16
 have r24 := Rp.mono x29.gg r24
 refine bE hm fun lit_here_ h40 hm => ?_
 refine Bd (K := K) (Eb (m := Ex) (Dj (A5 rfl r24)) (Bh (Bh (A5 rfl r30) Af) (Bg (Dj (A5 rfl r24)))) (A5 rfl r8)) h40 xt.gh fun v35 G36 H37 x38 r39 => ?_
 have xt := xt.trans x38
 have r16 := Rp.mono x38.gg r16
 have r30 := Rp.mono x38.gg r30
 refine bE hm fun flat_ h52 hm => ?_
 refine Bd (K := K) (FV.ev (ER (cap := []) (fe := fun (one_ : Nt) => ((some one_).bind fun t45 => E7 26 t45)) (Dn (A5 rfl r16)) fun xc44 one_ Gc41 sc42 rc43 => (C6 (m := D5 26) (A5 rfl rc43)))) h52 xt.gh fun v47 G48 H49 x50 r51 => ?_
 have xt := xt.trans x50
 have r16 := Rp.mono x50.gg r16
 have r30 := Rp.mono x50.gg r30
 have r39 := Rp.mono x50.gg r39
 refine bE hm fun p54 h55 hm => ?_
 refine sv_unpack (K := K) (NV.ev (nv_def1 (m := Eu) (FV.ev (fv_list (A5 rfl r51))))) h55 xt.gh fun v59 v60 G56 H57 x58 r61 r62 => ?_
 have xt := xt.trans x58
 have r16 := Rp.mono x58.gg r16
 have r30 := Rp.mono x58.gg r30
 have r39 := Rp.mono x58.gg r39
 have r51 := Rp.mono x58.gg r51
 refine bE hm fun told_ h71 hm => ?_
 refine Bd (K := K) (Eb (m := D0) (A5 rfl r61) (A5 rfl r39) (A5 rfl r30)) h71 xt.gh fun v66 G67 H68 x69 r70 => ?_
 have xt := xt.trans x69
 have r16 := Rp.mono x69.gg r16
 have r30 := Rp.mono x69.gg r30
 have r39 := Rp.mono x69.gg r39
 have r51 := Rp.mono x69.gg r51
 have r61 := Rp.mono x69.gg r61
 have r62 := Rp.mono x69.gg r62
 refine bE hm fun b72 h73 hm => ?_
 refine B9 (tv_orP (AJ (K := K) (ev_isN nn_list (A5 rfl r70))) (AJ (K := K) (ev_neI (Cg (A5 rfl r62)) (Cg (A5 rfl r16))))) h73 xt.gh fun G74 H75 x76 => ?_
 have xt := xt.trans x76
 have r16 := Rp.mono x76.gg r16
 have r30 := Rp.mono x76.gg r30
 have r39 := Rp.mono x76.gg r39
 have r51 := Rp.mono x76.gg r51
 have r61 := Rp.mono x76.gg r61
 have r62 := Rp.mono x76.gg r62
 have r70 := Rp.mono x76.gg r70
 cases b72 with
 | true =>
  replace hm := cT hm
  refine BR ?_
  exact Am (K := K) (rest := C9) (σ := [some BU, some v4, some v12, some v20, some v26, some v35, some v47, some v59, some v60, some v66, none, none, none]) GP hm xt.gh fun v77 G78 H79 x80 r81 => q v77 G78 H79 (xt.trans x80) r81
 | false =>
  replace hm := cF hm
  refine BQ ?_
  refine bE hm fun as83 h84 hm => ?_
  refine bE hm fun fl85 h86 hm => ?_
  refine Ef (K := K) (RR := fun r v G' H' => Ext G0 H0 G' H' ∧ Rp.rel K G' v r) (Cy (Cg (A5 rfl r16))) h84 h86 xt.gh fun G87 H88 x89 => ⟨fun s90 S' G' H' => ∃ (v91 : Option V) (v92 : Option V), Ext G0 H0 G' H' ∧ Same G87 G' ∧ S' = [some BU, some v4, some v12, some v20, some v26, some v35, some v47, some v59, some v60, some v66, v91, v92, none], ?_, ?_, ?_, ?_, ?_⟩
  ·have xt := xt.trans x89
   exact ⟨_, _, xt, (Same.refl _), rfl⟩
  ·rintro _ S' G' H' ⟨v91, v92, xt, mk93, rfl⟩
   exact ⟨mk93, xt.gh⟩
  ·rintro xv94 a95 s90 _ G98 H99 fl96 - ⟨v91, v92, xt, mk93, rfl⟩ rx97 hm D' kN100 kC101 kB102 kR103
   have r16 := Rp.mono (x89.gg.trans mk93) r16
   have r30 := Rp.mono (x89.gg.trans mk93) r30
   have r39 := Rp.mono (x89.gg.trans mk93) r39
   have r51 := Rp.mono (x89.gg.trans mk93) r51
   have r62 := Rp.mono (x89.gg.trans mk93) r62
   have r70 := Rp.mono (x89.gg.trans mk93) r70
   refine E8 ?_
   refine bE hm fun b121 h122 hm => ?_
   refine B9 (AJ (K := K) (ev_ne (BK (ev_get (A5 rfl r70)) (BK (A5 rfl r62) (A5 rfl rx97))) (FV.ev (FR (m := BC 110) (BK (A5 rfl r16) (A5 rfl rx97)) (A5 rfl r39) (A5 rfl r30))))) h122 xt.gh fun G123 H124 x125 => ?_
   have xt := xt.trans x125
   have mk93 := mk93.trans x125.gg
   have r51 := Rp.mono x125.gg r51
   have r62 := Rp.mono x125.gg r62
   have rx97 := Rp.mono x125.gg rx97
   cases b121 with
   | true =>
    replace hm := cT hm
    refine BR ?_
    refine bE hm fun rr131 h132 hm => ?_
    cases hm
    exact Am (K := K) (rest := C9) (σ := [some BU, some v4, some v12, some v20, some v26, some v35, some v47, some v59, some v60, some v66, some xv94, v92, none]) GP h132 xt.gh fun v126 G127 H128 x129 r130 => kR103 _ v126 G127 H128 rfl ⟨xt.trans x129, r130⟩
   | false =>
    replace hm := cF hm
    refine BQ ?_
    refine bE hm fun as134 h135 hm => ?_
    refine bE hm fun fl136 h137 hm => ?_
    refine Ef (K := K) (RR := fun r v G' H' => Ext G0 H0 G' H' ∧ Rp.rel K G' v r) (Cy (A5 rfl rx97)) h135 h137 xt.gh fun G138 H139 x140 => ⟨fun s141 S' G' H' => ∃ (v142 : Option V), Ext G0 H0 G' H' ∧ Same G138 G' ∧ S' = [some BU, some v4, some v12, some v20, some v26, some v35, some v47, some v59, some v60, some v66, some xv94, v142, none], ?_, ?_, ?_, ?_, ?_⟩
    ·have xt := xt.trans x140
     exact ⟨_, xt, (Same.refl _), rfl⟩
    ·rintro _ S' G' H' ⟨v142, xt, mk143, rfl⟩
     exact ⟨mk143, xt.gh⟩
    ·rintro xv144 a145 s141 _ G148 H149 fl146 - ⟨v142, xt, mk143, rfl⟩ rx147 hm D' kN150 kC151 kB152 kR153
     have r51 := Rp.mono (x140.gg.trans mk143) r51
     have r62 := Rp.mono (x140.gg.trans mk143) r62
     have rx97 := Rp.mono (x140.gg.trans mk143) rx97
     refine E8 ?_
     refine bE hm fun b180 h181 hm => ?_
     refine B9 (AJ (K := K) (ev_neB (DY (BK (A5 rfl r62) (A5 rfl rx97)) (BK (A5 rfl r62) (A5 rfl rx147))) (ev_eqN (BK (A5 rfl r51) (A5 rfl rx97)) (BK (A5 rfl r51) (A5 rfl rx147))))) h181 xt.gh fun G182 H183 x184 => ?_
     have xt := xt.trans x184
     have mk143 := mk143.trans x184.gg
     cases b180 with
     | true =>
      replace hm := cT hm
      refine BR ?_
      refine bE hm fun rr190 h191 hm => ?_
      cases hm
      exact Am (K := K) (rest := C9) (σ := [some BU, some v4, some v12, some v20, some v26, some v35, some v47, some v59, some v60, some v66, some xv94, some xv144, none]) GP h191 xt.gh fun v185 G186 H187 x188 r189 => kR153 _ v185 G186 H187 rfl ⟨xt.trans x188, r189⟩
     | false =>
      replace hm := cF hm
      refine BQ ?_
      cases hm
      exact kN150 _ _ _ _ rfl ⟨_, xt, mk143, rfl⟩
    ·rintro s141 _ G194 H195 rfl ⟨v192, xt, mk193, rfl⟩
     refine FQ ?_
     have mk93 := (mk93.trans x140.gg).trans mk193
     cases hm
     exact kN100 _ _ _ _ rfl ⟨_, _, xt, mk93, rfl⟩
    ·rintro r' v' G' H' rfl rl
     cases hm
     exact kR103 _ v' G' H' rfl rl
  ·rintro s90 _ G199 H200 rfl ⟨v196, v197, xt, mk198, rfl⟩
   refine FQ ?_
   have r16 := Rp.mono (x89.gg.trans mk198) r16
   have r61 := Rp.mono (x89.gg.trans mk198) r61
   refine bE hm fun lamps_ h214 hm => ?_
   refine Bd (K := K) (Fq As (FV.ev (ER (cap := []) (fe := fun (one_ : Nt) => ((some one_).bind fun t205 => Ck t205)) (Dn (A5 rfl r16)) fun xc204 one_ Gc201 sc202 rc203 => (C6 (m := EX) (A5 rfl rc203))))) h214 xt.gh fun v209 G210 H211 x212 r213 => ?_
   have xt := xt.trans x212
   have r61 := Rp.mono x212.gg r61
   exact Am (K := K) (Av (C6 (m := ET) (A5 rfl r61)) (Fq As (FV.ev (Ft (cap := [12]) (fc := fun (EY : Str) => (some (inS EY lamps_))) (fe := fun (EY : Str) => (some EY)) (iw_str As) fun xc226 EY Gc223 sc224 rc225 => ⟨(AJ (K := K) (ev_inS (A5 rfl rc225) (A5 rfl (Rp.mono sc224 r213)))), (A5 rfl rc225)⟩)))) hm xt.gh fun v232 G233 H234 x235 r236 => q v232 G233 H234 (xt.trans x235) r236
  ·rintro r' v' G' H' rfl rl
   cases hm
   exact q v' G' H' rl.1 rl.2
end
noncomputable def abcN : List Nat := List.range' 97 26
noncomputable def one (c : Nat) : Str := ⟨#[c]⟩
theorem abc_cps : ("abcdefghijklmnopqrstuvwxyz" : Str).cps.toList = abcN := by decide +kernel
theorem signs_one (x : Str) : Dg x = x.cps.toList.map one := rfl
theorem abc_signs : Dg "abcdefghijklmnopqrstuvwxyz" = abcN.map one := by rw [signs_one, abc_cps]
theorem abc_pw : abcN.Pairwise (· < ·) := List.pairwise_lt_range'
theorem one_inj {a b : Nat} (h : one a = one b) : a = b := by
 have := congrArg (fun x : Str => x.cps.toList) h
 simpa [one] using this
theorem inS_one (c : Nat) (x : Str) : inS (one c) x = decide (c ∈ x.cps.toList) := by
 unfold inS one
 exact StrLaws.found_one x c
theorem join_mom (cs : List Nat) (h : cs.length ≤ 1000) : GL "" (cs.map one) = some (Txt.join "" (cs.map one)) := by
 refine if_pos ?_
 have e : ("" : Str).length = 0 := by decide
 have : ((cs.map one).map (·.length)).sum = cs.length := sum_ones cs
 rw [e, Nat.mul_zero, this]
 omega
theorem join_of (cs : List Nat) : (Txt.join "" (cs.map one)).cps.toList = cs := join_ones' cs
theorem leS_one {a b : Nat} (h : a ≤ b) : leS (one a) (one b) = true := by
 unfold leS one
 rw [Bool.not_eq_true', decide_eq_false_iff_not]
 intro q
 have := (sing_lt b a).mp q
 omega
theorem sortS_eq {ys zs : List Str} (hp : zs.Perm ys) (hz : zs.Pairwise fun a b => leS a b = true) : sortS ys = zs :=
 (List.Perm.eq_of_pairwise (fun a b _ _ h1 h2 => leS_anti h1 h2) hz (List.pairwise_mergeSort leS_trans leS_total ys) (hp.trans (EQ ys).symm)).symm
theorem sort_ded {ys : List Str} {cs : List Nat} (hc : cs.Pairwise (· < ·)) (h : ∀ y, y ∈ ys ↔ ∃ c ∈ cs, y = one c) : sortS (GR ys) = cs.map one ∧ (GR ys).length = cs.length := by
 have nd : (cs.map one).Nodup := by
  rw [List.nodup_iff_pairwise_ne]
  exact List.Pairwise.map _ (fun a b q e => absurd (one_inj e) (Nat.ne_of_lt q)) hc
 have hp : (cs.map one).Perm (GR ys) := (List.perm_ext_iff_of_nodup nd (nodup_dedA ys)).mpr fun y => by
  rw [mem_dedA, h y, List.mem_map]
  exact ⟨fun ⟨c, hc, e⟩ => ⟨c, hc, e.symm⟩, fun ⟨c, hc, e⟩ => ⟨c, hc, e.symm⟩⟩
 refine ⟨sortS_eq hp (List.Pairwise.map _ (fun a b q => leS_one (Nat.le_of_lt q)) hc), ?_⟩
 rw [← hp.length_eq, List.length_map]
theorem filter_one (cs : List Nat) (p : Str → Bool) : (cs.map one).filter p = (cs.filter fun c => p (one c)).map one := by rw [List.filter_map]; rfl
theorem DX (s : Scr) (k : Int) (h0 : 0 ≤ k) {P : Int → Prop} (hp : ∀ n, P n) : OK (Ay s k) P := by
 unfold Ay
 simp only [Option.bind_assoc, AF, AK]
 exact BA (fun h => GM h0 (of_decide_eq_true h) fun x _ => hp x) fun _ => AM (hp _)
theorem abc_size : (("abcdefghijklmnopqrstuvwxyz" : Str).cps.toList).length = 26 := by decide +kernel
theorem stream_ok (c many : Int) (hm : 0 ≤ many ∧ many ≤ 251) {P : List Int → Prop} (hp : ∀ l : List Int, (l.length : Int) = many → P l) : OK (CM c many) P := by
 have hs : sizeLine = 16777216 := sizeLine_eq
 obtain ⟨n, rfl⟩ := Int.eq_ofNat_of_zero_le hm.1
 unfold CM
 simp only [Option.bind_assoc, AF, AK]
 refine AW (Fg (n := n) (by omega) (by omega) (by omega) ?_)
 refine AW (Ep (fun i (s : List Int × Int) => s.1.length = i ∧ 0 ≤ s.2 ∧ s.2 < 4294967296) ⟨rfl, by dsimp only; omega, by dsimp only; omega⟩ (fun i a s ha hI => ?_) fun s hI => ?_)
 ·have hi : i < n := by simpa using (List.getElem?_eq_some_iff.mp ha).1
  refine AW (ok_mul (.inl ⟨by omega, by omega⟩) (AW (E4 (by omega) (AM ⟨_, rfl, by rw [List.length_append, hI.1]; rfl, ?_, ?_⟩))))
  ·exact Int.emod_nonneg _ (by decide)
  ·have := Int.emod_lt_of_pos (s.2 * s.2 + 48271 * s.2 + a) (b := 2147483647) (by decide)
   dsimp only
   omega
 ·refine AM (hp _ ?_)
  have := hI.1
  simp at this
  omega
theorem Em {α : Type} (l : List α) (x : α) : GN (l ++ [x]) = some (x, l) := by
 rw [popO_eq (by simp)]
 simp
inductive Fm where
 | yes
 | lamp (c : Str)
 | neg (a : Fm)
 | next (a : Fm)
 | and (a b : Fm)
 | unt (a b : Fm)
noncomputable def Fm.nt : Fm → Nt
 | .yes => .tup [.txt "yes"]
 | .lamp c => .tup [.txt "lamp", .txt c]
 | .neg a => .tup [.txt "not", a.nt]
 | .next a => .tup [.txt "next", a.nt]
 | .and a b => .tup [.txt "and", a.nt, b.nt]
 | .unt a b => .tup [.txt "until", a.nt, b.nt]
noncomputable def Fm.den : Fm → Fm
 | .neg a => a
 | a => .neg a
noncomputable def Fm.size : Fm → Nat
 | .yes => 1
 | .lamp _ => 1
 | .neg a => a.size + 1
 | .next a => a.size + 1
 | .and a b => a.size + b.size + 1
 | .unt a b => a.size + b.size + 1
noncomputable def Fm.dep : Fm → Nat
 | .yes => 1
 | .lamp _ => 1
 | .neg a => a.dep + 1
 | .next a => a.dep + 1
 | .and a b => max a.dep b.dep + 1
 | .unt a b => max a.dep b.dep + 1
theorem den_dep (a : Fm) : a.den.dep ≤ a.dep + 1 := by
 cases a <;> simp only [Fm.den, Fm.dep] <;> omega
theorem den_size (a : Fm) : a.den.size ≤ a.size + 1 := by
 cases a <;> simp only [Fm.den, Fm.size] <;> omega
noncomputable def pl1 (w : Str) (f : Fm) : Fm :=
 if w = "not" then f.den else if w = "next" then .next f else if w = "atlast" then .unt .yes f else if w = "always" then .neg (.unt .yes f.den)
 else if w = "again" then .neg (.unt .yes (.neg (.unt .yes f))) else .unt .yes (.neg (.unt .yes f.den))
noncomputable def pl2 (w : Str) (f g : Fm) : Fm :=
 if w = "or" then .neg (.and f.den g.den) else if w = "then" then .neg (.and f g.den) else if w = "frees" then .neg (.unt f.den g.den)
 else if w = "and" then .and f g else .unt f g
theorem pl1_not (f : Fm) : pl1 "not" f = f.den := by
 unfold pl1
 rw [if_pos rfl]
theorem pl1_next (f : Fm) : pl1 "next" f = .next f := by
 unfold pl1
 rw [if_neg (by decide +kernel), if_pos rfl]
theorem pl1_atlast (f : Fm) : pl1 "atlast" f = .unt .yes f := by
 unfold pl1
 rw [if_neg (by decide +kernel), if_neg (by decide +kernel), if_pos rfl]
theorem pl1_always (f : Fm) : pl1 "always" f = .neg (.unt .yes f.den) := by
 unfold pl1
 rw [if_neg (by decide +kernel), if_neg (by decide +kernel), if_neg (by decide +kernel), if_pos rfl]
theorem pl1_again (f : Fm) : pl1 "again" f = .neg (.unt .yes (.neg (.unt .yes f))) := by
 unfold pl1
 rw [if_neg (by decide +kernel), if_neg (by decide +kernel), if_neg (by decide +kernel), if_neg (by decide +kernel), if_pos rfl]
theorem pl1_settles (f : Fm) : pl1 "settles" f = .unt .yes (.neg (.unt .yes f.den)) := by
 unfold pl1
 rw [if_neg (by decide +kernel), if_neg (by decide +kernel), if_neg (by decide +kernel), if_neg (by decide +kernel), if_neg (by decide +kernel)]
theorem pl2_or (f g : Fm) : pl2 "or" f g = .neg (.and f.den g.den) := by
 unfold pl2
 rw [if_pos rfl]
theorem pl2_then (f g : Fm) : pl2 "then" f g = .neg (.and f g.den) := by
 unfold pl2
 rw [if_neg (by decide +kernel), if_pos rfl]
theorem pl2_frees (f g : Fm) : pl2 "frees" f g = .neg (.unt f.den g.den) := by
 unfold pl2
 rw [if_neg (by decide +kernel), if_neg (by decide +kernel), if_pos rfl]
theorem pl2_and (f g : Fm) : pl2 "and" f g = .and f g := by
 unfold pl2
 rw [if_neg (by decide +kernel), if_neg (by decide +kernel), if_neg (by decide +kernel), if_pos rfl]
theorem pl2_until (f g : Fm) : pl2 "until" f g = .unt f g := by
 unfold pl2
 rw [if_neg (by decide +kernel), if_neg (by decide +kernel), if_neg (by decide +kernel), if_neg (by decide +kernel)]
theorem pl1_dep (w : Str) (f : Fm) : (pl1 w f).dep ≤ f.dep + 4 := by
 have h1 := den_dep f
 have h2 : 1 ≤ f.dep := by cases f <;> simp only [Fm.dep] <;> omega
 unfold pl1
 repeat' split
 all_goals (try simp only [Fm.dep]); omega
theorem pl2_dep (w : Str) (f g : Fm) : (pl2 w f g).dep ≤ max f.dep g.dep + 3 := by
 have h1 := den_dep f
 have h2 := den_dep g
 unfold pl2
 repeat' split
 all_goals (try simp only [Fm.dep]); omega
theorem pl1_size (w : Str) (f : Fm) : (pl1 w f).size ≤ f.size + 6 := by
 have h1 := den_size f
 unfold pl1
 repeat' split
 all_goals (try simp only [Fm.size]); omega
theorem pl2_size (w : Str) (f g : Fm) : (pl2 w f g).size ≤ f.size + g.size + 4 := by
 have h1 := den_size f
 have h2 := den_size g
 unfold pl2
 repeat' split
 all_goals (try simp only [Fm.size]); omega
noncomputable def W1 : List Str := ["not", "next", "atlast", "always", "again", "settles"]
noncomputable def W2 : List Str := ["and", "until", "or", "then", "frees"]
noncomputable def Ek (c : Nat) : Nt := .tup [.txt "lamp", .txt (one c)]
inductive Sent : Nt → Nat → Fm → Prop where
 | yes : Sent (.tup [.txt "yes"]) 1 .yes
 | no : Sent (.tup [.txt "no"]) 1 (.neg .yes)
 | lamp {c : Nat} : c ∈ abcN → Sent (Ek c) 1 (.lamp (one c))
 | one {w : Str} {a : Nt} {n : Nat} {f : Fm} : w ∈ W1 → Sent a n f → Sent (.tup [.txt w, a]) (n + 1) (pl1 w f)
 | two {w : Str} {a b : Nt} {n m : Nat} {f g : Fm} : w ∈ W2 → Sent a n f → Sent b m g → Sent (.tup [.txt w, a, b]) (n + m + 1) (pl2 w f g)
theorem Sent.pos {a : Nt} {n : Nat} {f : Fm} (h : Sent a n f) : 1 ≤ n := by cases h <;> omega
theorem Sent.dep {a : Nt} {n : Nat} {f : Fm} (h : Sent a n f) : f.dep ≤ 4 * n := by
 induction h with
 | yes => decide
 | no => decide
 | lamp _ => simp only [Fm.dep]; omega
 | @one w a n f _ _ ih => have := pl1_dep w f; omega
 | @two w a b n m f g _ _ _ ih1 ih2 => have := pl2_dep w f g; omega
theorem Sent.size {a : Nt} {n : Nat} {f : Fm} (h : Sent a n f) : f.size ≤ 6 * n := by
 induction h with
 | yes => decide
 | no => decide
 | lamp _ => simp only [Fm.size]; omega
 | @one w a n f _ _ ih => have := pl1_size w f; omega
 | @two w a b n m f g _ _ _ ih1 ih2 => have := pl2_size w f g; omega
theorem at0 (w : Str) (l : List Nt) : atI (Nt.txt w :: l) (0 : Int) = some (Nt.txt w) := BX (j := 0) rfl
theorem at_n0 (x : Nt) (l : List Nt) : atI (x :: l) (0 : Int) = some x := BX (j := 0) rfl
theorem at1 (x y : Nt) (l : List Nt) : atI (x :: y :: l) (1 : Int) = some y := BX (j := 1) rfl
theorem at2 (x y z : Nt) (l : List Nt) : atI (x :: y :: z :: l) (2 : Int) = some z := BX (j := 2) rfl
theorem cut_tailN (a : Nt) (l : List Nt) : cutT? (a :: l) (some 1) none = some ⟨l⟩ := by
 have h1 : HT.sIx (a :: l).length 0 (some (1 : Int)) = 1 := by
  unfold HT.sIx
  simp
  try omega
 have h2 : HT.sIx (a :: l).length (a :: l).length none = (a :: l).length := rfl
 unfold cutT?
 rw [if_pos (by rw [h1]; exact fun z => absurd z.1 (by decide))]
 unfold Cf
 rw [h1, h2]
 simp
theorem parts_lamp (x : Nt) : AZ (.tup [.txt "lamp", x]) = some ⟨[]⟩ := by
 unfold AZ
 simp only [Option.bind_assoc, AF, AK, BF, at_n0, Bz]
 rfl
theorem parts_other {w : Str} {l : List Nt} (hw : w ≠ "lamp") : AZ (.tup (.txt w :: l)) = some ⟨l⟩ := by
 unfold AZ
 simp only [Option.bind_assoc, AF, AK, BF, at_n0, Bz, decide_eq_false hw, cond_false, cut_tailN]
theorem den_nt (a : Fm) : Bf a.nt = some a.den.nt := by
 have other : ∀ (w : Str) (l : List Nt), w ≠ "not" → Bf (.tup (.txt w :: l)) = some (.tup [.txt "not", .tup (.txt w :: l)]) := fun w l hw => by
  refine OK.eq ?_
  unfold Bf
  simp only [Option.bind_assoc, AF, AK, BF, at0, Bz, decide_eq_false hw, cond_false]
  exact AM rfl
 cases a with
 | yes => exact other _ _ (by decide +kernel)
 | lamp c => exact other _ _ (by decide +kernel)
 | neg a =>
  show Bf (.tup [.txt "not", a.nt]) = some a.nt
  refine OK.eq ?_
  unfold Bf
  simp only [Option.bind_assoc, AF, AK, BF]
  refine Fd (.txt "not") rfl (AW ⟨"not", rfl, ?_⟩)
  dsimp only
  rw [decide_eq_true rfl]
  exact ⟨_, rfl, rfl⟩
 | next a => exact other _ _ (by decide +kernel)
 | and a b => exact other _ _ (by decide +kernel)
 | unt a b => exact other _ _ (by decide +kernel)
theorem with_one_nt (w : Str) (f : Fm) : Br w f.nt = some (pl1 w f).nt := by
 refine OK.eq ?_
 unfold Br
 simp only [Option.bind_assoc, AF, AK, den_nt]
 unfold pl1
 refine BA (fun h => ?_) fun h => ?_
 ·rw [if_pos (of_decide_eq_true h)]
  exact AM rfl
 rw [if_neg (of_decide_eq_false h)]
 refine BA (fun h => ?_) fun h => ?_
 ·rw [if_pos (of_decide_eq_true h)]
  exact AM rfl
 rw [if_neg (of_decide_eq_false h)]
 refine BA (fun h => ?_) fun h => ?_
 ·rw [if_pos (of_decide_eq_true h)]
  exact AM rfl
 rw [if_neg (of_decide_eq_false h)]
 refine BA (fun h => ?_) fun h => ?_
 ·rw [if_pos (of_decide_eq_true h)]
  exact AM rfl
 rw [if_neg (of_decide_eq_false h)]
 refine BA (fun h => ?_) fun h => ?_
 ·rw [if_pos (of_decide_eq_true h)]
  exact AM rfl
 rw [if_neg (of_decide_eq_false h)]
 exact AM rfl
theorem with_two_nt {w : Str} (hw : w ∈ W2) (f g : Fm) : Bq w f.nt g.nt = some (pl2 w f g).nt := by
 refine OK.eq ?_
 unfold Bq
 simp only [Option.bind_assoc, AF, AK, den_nt]
 unfold pl2
 refine BA (fun h => ?_) fun h1 => ?_
 ·rw [if_pos (of_decide_eq_true h)]
  exact AM rfl
 rw [if_neg (of_decide_eq_false h1)]
 refine BA (fun h => ?_) fun h2 => ?_
 ·rw [if_pos (of_decide_eq_true h)]
  exact AM rfl
 rw [if_neg (of_decide_eq_false h2)]
 refine BA (fun h => ?_) fun h3 => ?_
 ·rw [if_pos (of_decide_eq_true h)]
  exact AM rfl
 rw [if_neg (of_decide_eq_false h3)]
 refine AM ?_
 simp only [W2, List.mem_cons, List.not_mem_nil, or_false] at hw
 rcases hw with e | e | e | e | e
 ·rw [if_pos e, e]
  rfl
 ·subst e
  rw [if_neg (by decide +kernel)]
  rfl
 ·exact absurd e (of_decide_eq_false h1)
 ·exact absurd e (of_decide_eq_false h2)
 ·exact absurd e (of_decide_eq_false h3)
structure Wd (w : Str) : Prop where
 no : w ≠ "no"
 yes : w ≠ "yes"
 lamp : w ≠ "lamp"
theorem wd_one {w : Str} (hw : w ∈ W1) : Wd w := by
 simp only [W1, List.mem_cons, List.not_mem_nil, or_false] at hw
 rcases hw with rfl | rfl | rfl | rfl | rfl | rfl <;> exact ⟨by decide +kernel, by decide +kernel, by decide +kernel⟩
theorem wd_two {w : Str} (hw : w ∈ W2) : Wd w := by
 simp only [W2, List.mem_cons, List.not_mem_nil, or_false] at hw
 rcases hw with rfl | rfl | rfl | rfl | rfl <;> exact ⟨by decide +kernel, by decide +kernel, by decide +kernel⟩
theorem plain_ok {S : Nt} {d : Nat} {f : Fm} (h : Sent S d f) : ∀ n, d ≤ n → E7 n S = some f.nt := by
 induction h with
 | yes =>
  intro n hn
  obtain ⟨m, rfl⟩ : ∃ m, n = m + 1 := ⟨n - 1, by omega⟩
  rfl
 | no =>
  intro n hn
  obtain ⟨m, rfl⟩ : ∃ m, n = m + 1 := ⟨n - 1, by omega⟩
  rfl
 | lamp _ =>
  intro n hn
  obtain ⟨m, rfl⟩ : ∃ m, n = m + 1 := ⟨n - 1, by omega⟩
  rfl
 | @one w a k f hw ha ih =>
  intro n hn
  obtain ⟨m, rfl⟩ : ∃ m, n = m + 1 := ⟨n - 1, by omega⟩
  have ww := wd_one hw
  show Db (E7 m) _ = _
  unfold Db
  simp only [Option.bind_assoc, AF, AK, BF, at0, at1, Bz, decide_eq_false ww.no, decide_eq_false ww.yes, decide_eq_false ww.lamp, Bool.or_self, cond_false]
  have e2 : decide ((([Nt.txt w, a] : List Nt).length : Int) = 2) = true := rfl
  rw [e2]
  simp only [AF, ih m (by omega), cond_true]
  exact with_one_nt w f
 | @two w a b k j f g hw ha hb ih1 ih2 =>
  intro n hn
  obtain ⟨m, rfl⟩ : ∃ m, n = m + 1 := ⟨n - 1, by omega⟩
  have ww := wd_two hw
  show Db (E7 m) _ = _
  unfold Db
  simp only [Option.bind_assoc, AF, AK, BF, at0, at1, at2, Bz, decide_eq_false ww.no, decide_eq_false ww.yes, decide_eq_false ww.lamp, Bool.or_self, cond_false]
  have e2 : decide ((([Nt.txt w, a, b] : List Nt).length : Int) = 2) = false := rfl
  rw [e2]
  simp only [AF, ih1 m (by omega), ih2 m (by omega), cond_false]
  exact with_two_nt hw f g
theorem FY {α : Type} (a : α) (l : List α) : cutT? (a :: l) (some 1) none = some ⟨l⟩ := by
 have h1 : HT.sIx (a :: l).length 0 (some (1 : Int)) = 1 := by
  unfold HT.sIx
  simp
  try omega
 have h2 : HT.sIx (a :: l).length (a :: l).length none = (a :: l).length := rfl
 unfold cutT?
 rw [if_pos (by rw [h1]; exact fun z => absurd z.1 (by decide))]
 unfold Cf
 rw [h1, h2]
 simp
theorem Fm.dep_pos (a : Fm) : 1 ≤ a.dep := by cases a <;> simp only [Fm.dep] <;> omega
theorem FO : ∀ a : Fm, a.nt.dep = a.dep
 | .yes => rfl
 | .lamp c => rfl
 | .neg a => by simp only [Fm.nt, Nt.dep, Nt.deps, Fm.dep, FO a]; omega
 | .next a => by simp only [Fm.nt, Nt.dep, Nt.deps, Fm.dep, FO a]; omega
 | .and a b => by simp only [Fm.nt, Nt.dep, Nt.deps, Fm.dep, FO a, FO b]; omega
 | .unt a b => by simp only [Fm.nt, Nt.dep, Nt.deps, Fm.dep, FO a, FO b]; omega
noncomputable def Fm.sub : Fm → List Fm
 | .yes => [.yes]
 | .lamp c => [.lamp c]
 | .neg a => .neg a :: a.sub
 | .next a => .next a :: a.sub
 | .and a b => .and a b :: (a.sub ++ b.sub)
 | .unt a b => .unt a b :: (a.sub ++ b.sub)
theorem EL : ∀ {f g : Fm}, g ∈ f.sub → g.size ≤ f.size
 | .yes, g, h => by rw [List.mem_singleton.mp h]; exact Nat.le_refl _
 | .lamp _, g, h => by rw [List.mem_singleton.mp h]; exact Nat.le_refl _
 | .neg a, g, h => by
  rcases List.mem_cons.mp h with e | h
  ·rw [e]; exact Nat.le_refl _
  ·have := EL h; simp only [Fm.size]; omega
 | .next a, g, h => by
  rcases List.mem_cons.mp h with e | h
  ·rw [e]; exact Nat.le_refl _
  ·have := EL h; simp only [Fm.size]; omega
 | .and a b, g, h => by
  rcases List.mem_cons.mp h with e | h
  ·rw [e]; exact Nat.le_refl _
  ·rcases List.mem_append.mp h with h | h <;> (have := EL h; simp only [Fm.size]; omega)
 | .unt a b, g, h => by
  rcases List.mem_cons.mp h with e | h
  ·rw [e]; exact Nat.le_refl _
  ·rcases List.mem_append.mp h with h | h <;> (have := EL h; simp only [Fm.size]; omega)
theorem sub_self (f : Fm) : f ∈ f.sub := by cases f <;> simp [Fm.sub]
theorem w1 : ("not" : Str) ≠ "next" := by decide +kernel
theorem w2 : ("and" : Str) ≠ "until" := by decide +kernel
noncomputable def R1 (fs : List Fm) (k : Nat) (r : Tp SI) : Fm → Prop
 | .yes => r = ⟨[.s "yes"]⟩
 | .lamp c => r = ⟨[.s "lamp", .s c]⟩
 | .neg a => ∃ i : Nat, i < k ∧ fs[i]? = some a ∧ r = ⟨[.s "not", .i (i : Int)]⟩
 | .next a => ∃ i : Nat, i < k ∧ fs[i]? = some a ∧ r = ⟨[.s "next", .i (i : Int)]⟩
 | .and a b => ∃ i j : Nat, i < k ∧ j < k ∧ fs[i]? = some a ∧ fs[j]? = some b ∧ r = ⟨[.s "and", .i (i : Int), .i (j : Int)]⟩
 | .unt a b => ∃ i j : Nat, i < k ∧ j < k ∧ fs[i]? = some a ∧ fs[j]? = some b ∧ r = ⟨[.s "until", .i (i : Int), .i (j : Int)]⟩
noncomputable def Dif (fs : List Fm) : Prop := ∀ (i j : Nat) (f : Fm), fs[i]? = some f → fs[j]? = some f → i = j
noncomputable def Bk (L : List (Tp SI)) (fs : List Fm) : Prop := L.length = fs.length ∧ ∀ (k : Nat) (r : Tp SI) (f : Fm), L[k]? = some r → fs[k]? = some f → R1 fs k r f
theorem Dm {α : Type} {l m : List α} {k : Nat} {a : α} (h : l[k]? = some a) : (l ++ m)[k]? = some a := by
 rw [List.getElem?_append_left (List.getElem?_eq_some_iff.mp h).1]
 exact h
theorem Dz {α : Type} {l : List α} {k : Nat} {a : α} (h : l[k]? = some a) : k < l.length := (List.getElem?_eq_some_iff.mp h).1
theorem R1.app {fs gs : List Fm} {k k' : Nat} {r : Tp SI} {f : Fm} (h : R1 fs k r f) (hk : k ≤ k') : R1 (fs ++ gs) k' r f := by
 cases f with
 | yes => exact h
 | lamp c => exact h
 | neg a => obtain ⟨i, h1, h2, e⟩ := h; exact ⟨i, by omega, Dm h2, e⟩
 | next a => obtain ⟨i, h1, h2, e⟩ := h; exact ⟨i, by omega, Dm h2, e⟩
 | and a b => obtain ⟨i, j, h1, h2, h3, h4, e⟩ := h; exact ⟨i, j, by omega, by omega, Dm h3, Dm h4, e⟩
 | unt a b => obtain ⟨i, j, h1, h2, h3, h4, e⟩ := h; exact ⟨i, j, by omega, by omega, Dm h3, Dm h4, e⟩
theorem row1_inj {w w' : Str} {i j : Nat} (e : (Tp.mk [SI.s w, SI.i (i : Int)]) = Tp.mk [SI.s w', SI.i (j : Int)]) : w = w' ∧ i = j := by
 have e1 := Tp.mk.inj e
 injection e1 with e2 e3
 injection e3 with e4 e5
 injection e4 with e4
 injection e2 with e2
 exact ⟨e2, by omega⟩
theorem Eg {w w' : Str} {i j i' j' : Nat} (e : (Tp.mk [SI.s w, SI.i (i : Int), SI.i (j : Int)]) = Tp.mk [SI.s w', SI.i (i' : Int), SI.i (j' : Int)]) : w = w' ∧ i = i' ∧ j = j' := by
 have e1 := Tp.mk.inj e
 injection e1 with e2 e3
 injection e3 with e4 e5
 injection e5 with e6 e7
 injection e6 with e6
 injection e4 with e4
 injection e2 with e2
 exact ⟨e2, by omega, by omega⟩
theorem R1.fn {fs : List Fm} {k k' : Nat} {r : Tp SI} {f f' : Fm} (h : R1 fs k r f) (h' : R1 fs k' r f') : f = f' := by
 cases f with
 | yes =>
  subst h
  cases f' with
  | yes => rfl
  | lamp c => cases (show (_ : Tp SI) = _ from h')
  | neg a => obtain ⟨i, _, _, e⟩ := h'; cases e
  | next a => obtain ⟨i, _, _, e⟩ := h'; cases e
  | and a b => obtain ⟨i, j, _, _, _, _, e⟩ := h'; cases e
  | unt a b => obtain ⟨i, j, _, _, _, _, e⟩ := h'; cases e
 | lamp c =>
  subst h
  cases f' with
  | yes => cases (show (_ : Tp SI) = _ from h')
  | lamp c' =>
   have e := (List.cons.inj (List.cons.inj (Tp.mk.inj (show (_ : Tp SI) = _ from h'))).2).1
   rw [SI.s.inj e]
  | neg a => obtain ⟨i, _, _, e⟩ := h'; have e := (List.cons.inj (List.cons.inj (Tp.mk.inj e)).2).1; cases e
  | next a => obtain ⟨i, _, _, e⟩ := h'; have e := (List.cons.inj (List.cons.inj (Tp.mk.inj e)).2).1; cases e
  | and a b => obtain ⟨i, j, _, _, _, _, e⟩ := h'; have e := (List.cons.inj (List.cons.inj (Tp.mk.inj e)).2).1; cases e
  | unt a b => obtain ⟨i, j, _, _, _, _, e⟩ := h'; have e := (List.cons.inj (List.cons.inj (Tp.mk.inj e)).2).1; cases e
 | neg a =>
  obtain ⟨i, _, hi, rfl⟩ := h
  cases f' with
  | yes => cases (show (_ : Tp SI) = _ from h')
  | lamp c => have e := (List.cons.inj (List.cons.inj (Tp.mk.inj (show (_ : Tp SI) = _ from h'))).2).1; cases e
  | neg a' => obtain ⟨j, _, hj, e⟩ := h'; rw [(row1_inj e).2, hj] at hi; rw [Option.some.inj hi]
  | next a' => obtain ⟨j, _, hj, e⟩ := h'; exact absurd (row1_inj e).1 w1
  | and a b => obtain ⟨i, j, _, _, _, _, e⟩ := h'; have e := (List.cons.inj (List.cons.inj (Tp.mk.inj e)).2).2; cases e
  | unt a b => obtain ⟨i, j, _, _, _, _, e⟩ := h'; have e := (List.cons.inj (List.cons.inj (Tp.mk.inj e)).2).2; cases e
 | next a =>
  obtain ⟨i, _, hi, rfl⟩ := h
  cases f' with
  | yes => cases (show (_ : Tp SI) = _ from h')
  | lamp c => have e := (List.cons.inj (List.cons.inj (Tp.mk.inj (show (_ : Tp SI) = _ from h'))).2).1; cases e
  | neg a' => obtain ⟨j, _, hj, e⟩ := h'; exact absurd (row1_inj e).1.symm w1
  | next a' => obtain ⟨j, _, hj, e⟩ := h'; rw [(row1_inj e).2, hj] at hi; rw [Option.some.inj hi]
  | and a b => obtain ⟨i, j, _, _, _, _, e⟩ := h'; have e := (List.cons.inj (List.cons.inj (Tp.mk.inj e)).2).2; cases e
  | unt a b => obtain ⟨i, j, _, _, _, _, e⟩ := h'; have e := (List.cons.inj (List.cons.inj (Tp.mk.inj e)).2).2; cases e
 | and a b =>
  obtain ⟨i, j, _, _, hi, hj, rfl⟩ := h
  cases f' with
  | yes => cases (show (_ : Tp SI) = _ from h')
  | lamp c => have e := (List.cons.inj (List.cons.inj (Tp.mk.inj (show (_ : Tp SI) = _ from h'))).2).1; cases e
  | neg a' => obtain ⟨j, _, hj, e⟩ := h'; have e := (List.cons.inj (List.cons.inj (Tp.mk.inj e)).2).2; cases e
  | next a' => obtain ⟨j, _, hj, e⟩ := h'; have e := (List.cons.inj (List.cons.inj (Tp.mk.inj e)).2).2; cases e
  | and a b => obtain ⟨i', j', _, _, hi', hj', e⟩ := h'; rw [(Eg e).2.1, hi'] at hi; rw [(Eg e).2.2, hj'] at hj; rw [Option.some.inj hi, Option.some.inj hj]
  | unt a b => obtain ⟨i', j', _, _, hi', hj', e⟩ := h'; exact absurd (Eg e).1 w2
 | unt a b =>
  obtain ⟨i, j, _, _, hi, hj, rfl⟩ := h
  cases f' with
  | yes => cases (show (_ : Tp SI) = _ from h')
  | lamp c => have e := (List.cons.inj (List.cons.inj (Tp.mk.inj (show (_ : Tp SI) = _ from h'))).2).1; cases e
  | neg a' => obtain ⟨j, _, hj, e⟩ := h'; have e := (List.cons.inj (List.cons.inj (Tp.mk.inj e)).2).2; cases e
  | next a' => obtain ⟨j, _, hj, e⟩ := h'; have e := (List.cons.inj (List.cons.inj (Tp.mk.inj e)).2).2; cases e
  | and a b => obtain ⟨i', j', _, _, hi', hj', e⟩ := h'; exact absurd (Eg e).1.symm w2
  | unt a b => obtain ⟨i', j', _, _, hi', hj', e⟩ := h'; rw [(Eg e).2.1, hi'] at hi; rw [(Eg e).2.2, hj'] at hj; rw [Option.some.inj hi, Option.some.inj hj]
theorem R1.inj {fs : List Fm} {k k' : Nat} {r r' : Tp SI} {f : Fm} (hd : Dif fs) (h : R1 fs k r f) (h' : R1 fs k' r' f) : r = r' := by
 cases f with
 | yes => rw [show r = _ from h, show r' = _ from h']
 | lamp c => rw [show r = _ from h, show r' = _ from h']
 | neg a => obtain ⟨i, _, h1, e⟩ := h; obtain ⟨j, _, h2, e'⟩ := h'; rw [e, e', hd i j a h1 h2]
 | next a => obtain ⟨i, _, h1, e⟩ := h; obtain ⟨j, _, h2, e'⟩ := h'; rw [e, e', hd i j a h1 h2]
 | and a b => obtain ⟨i, j, _, _, h1, h2, e⟩ := h; obtain ⟨i', j', _, _, h1', h2', e'⟩ := h'; rw [e, e', hd i i' a h1 h1', hd j j' b h2 h2']
 | unt a b => obtain ⟨i, j, _, _, h1, h2, e⟩ := h; obtain ⟨i', j', _, _, h1', h2', e'⟩ := h'; rw [e, e', hd i i' a h1 h1', hd j j' b h2 h2']
theorem El {α : Type} {l : List α} {a b : α} {k : Nat} (h : (l ++ [a])[k]? = some b) : l[k]? = some b ∨ (k = l.length ∧ a = b) := by
 by_cases hk : k < l.length
 ·rw [List.getElem?_append_left hk] at h
  exact .inl h
 ·rw [List.getElem?_append_right (by omega)] at h
  have h0 : k - l.length = 0 := by
   have := Dz h
   simp at this
   omega
  rw [h0] at h
  exact .inr ⟨by omega, Option.some.inj h⟩
theorem Bk.snoc {L : List (Tp SI)} {fs : List Fm} {r : Tp SI} {f : Fm} (hb : Bk L fs) (hr : R1 fs L.length r f) : Bk (L ++ [r]) (fs ++ [f]) := by
 have hl := hb.1
 refine ⟨by rw [List.length_append, List.length_append, hl]; rfl, fun k r' f' h1 h2 => ?_⟩
 rcases El h1 with h1 | ⟨e1, e2⟩
 ·have hk := Dz h1
  rcases El h2 with h2 | ⟨e3, e4⟩
  ·exact (hb.2 k r' f' h1 h2).app (Nat.le_refl _)
  ·omega
 ·rcases El h2 with h2 | ⟨e3, e4⟩
  ·have := Dz h2
   omega
  ·subst e2
   subst e4
   rw [e1]
   exact hr.app (Nat.le_refl _)
theorem Dif.snoc {fs : List Fm} {f : Fm} (h : Dif fs) (hf : ∀ m : Nat, fs[m]? ≠ some f) : Dif (fs ++ [f]) := by
 intro i j g hi hj
 rcases El hi with h1 | ⟨e1, e2⟩
 ·rcases El hj with h2 | ⟨e3, e4⟩
  ·exact h i j g h1 h2
  ·exact absurd (e4 ▸ h1) (hf i)
 ·rcases El hj with h2 | ⟨e3, e4⟩
  ·exact absurd (e2 ▸ h2) (hf j)
  ·omega
theorem Bk.nil : Bk [] [] := ⟨rfl, fun k r f h _ => by simp at h⟩
theorem Dif.nil : Dif [] := fun i j f h _ => by simp at h
theorem Bk.at {L : List (Tp SI)} {fs : List Fm} (hb : Bk L fs) {k : Nat} {f : Fm} (h : fs[k]? = some f) : ∃ r, L[k]? = some r ∧ R1 fs k r f := by
 have hk : k < L.length := by rw [hb.1]; exact Dz h
 exact ⟨L[k], List.getElem?_eq_getElem hk, hb.2 k _ f (List.getElem?_eq_getElem hk) h⟩
theorem Bk.at' {L : List (Tp SI)} {fs : List Fm} (hb : Bk L fs) {k : Nat} {r : Tp SI} (h : L[k]? = some r) : ∃ f, fs[k]? = some f ∧ R1 fs k r f := by
 have hk : k < fs.length := by rw [← hb.1]; exact Dz h
 exact ⟨fs[k], List.getElem?_eq_getElem hk, hb.2 k r _ h (List.getElem?_eq_getElem hk)⟩
theorem R1.take {fs : List Fm} {k n : Nat} {r : Tp SI} {f : Fm} (h : R1 fs k r f) (hk : k ≤ n) : R1 (fs.take n) k r f := by
 have t : ∀ {i : Nat} {a : Fm}, i < k → fs[i]? = some a → (fs.take n)[i]? = some a := fun hi h => by rw [List.getElem?_take_of_lt (by omega)]; exact h
 cases f with
 | yes => exact h
 | lamp c => exact h
 | neg a => obtain ⟨i, h1, h2, e⟩ := h; exact ⟨i, h1, t h1 h2, e⟩
 | next a => obtain ⟨i, h1, h2, e⟩ := h; exact ⟨i, h1, t h1 h2, e⟩
 | and a b => obtain ⟨i, j, h1, h2, h3, h4, e⟩ := h; exact ⟨i, j, h1, h2, t h1 h3, t h2 h4, e⟩
 | unt a b => obtain ⟨i, j, h1, h2, h3, h4, e⟩ := h; exact ⟨i, j, h1, h2, t h1 h3, t h2 h4, e⟩
theorem take_get {α : Type} {l : List α} {n k : Nat} {a : α} (h : (l.take n)[k]? = some a) : k < n ∧ l[k]? = some a := by
 have h1 := Dz h
 rw [List.length_take] at h1
 have h2 : k < n := by omega
 rw [List.getElem?_take_of_lt h2] at h
 exact ⟨h2, h⟩
theorem Bk.take {L : List (Tp SI)} {fs : List Fm} (hb : Bk L fs) (n : Nat) : Bk (L.take n) (fs.take n) := by
 refine ⟨by rw [List.length_take, List.length_take, hb.1], fun k r f h1 h2 => ?_⟩
 obtain ⟨hk, h1⟩ := take_get h1
 exact (hb.2 k r f h1 (take_get h2).2).take (by omega)
theorem Dif.take {fs : List Fm} (h : Dif fs) (n : Nat) : Dif (fs.take n) := fun i j f h1 h2 => h i j f (take_get h1).2 (take_get h2).2
theorem Bk.subs {L : List (Tp SI)} {fs : List Fm} (hb : Bk L fs) : ∀ {f g : Fm} {k : Nat}, fs[k]? = some f → g ∈ f.sub → ∃ i, i ≤ k ∧ fs[i]? = some g
 | .yes, g, k, h, hg => by rw [List.mem_singleton.mp hg]; exact ⟨k, Nat.le_refl _, h⟩
 | .lamp c, g, k, h, hg => by rw [List.mem_singleton.mp hg]; exact ⟨k, Nat.le_refl _, h⟩
 | .neg a, g, k, h, hg => by
  rcases List.mem_cons.mp hg with e | hg
  ·rw [e]; exact ⟨k, Nat.le_refl _, h⟩
  ·obtain ⟨r, _, i, h1, h2, _⟩ := hb.at h
   obtain ⟨j, h3, h4⟩ := hb.subs h2 hg
   exact ⟨j, by omega, h4⟩
 | .next a, g, k, h, hg => by
  rcases List.mem_cons.mp hg with e | hg
  ·rw [e]; exact ⟨k, Nat.le_refl _, h⟩
  ·obtain ⟨r, _, i, h1, h2, _⟩ := hb.at h
   obtain ⟨j, h3, h4⟩ := hb.subs h2 hg
   exact ⟨j, by omega, h4⟩
 | .and a b, g, k, h, hg => by
  rcases List.mem_cons.mp hg with e | hg
  ·rw [e]; exact ⟨k, Nat.le_refl _, h⟩
  ·obtain ⟨r, _, i, i', h1, h1', h2, h2', _⟩ := hb.at h
   rcases List.mem_append.mp hg with hg | hg
   ·obtain ⟨j, h3, h4⟩ := hb.subs h2 hg
    exact ⟨j, by omega, h4⟩
   ·obtain ⟨j, h3, h4⟩ := hb.subs h2' hg
    exact ⟨j, by omega, h4⟩
 | .unt a b, g, k, h, hg => by
  rcases List.mem_cons.mp hg with e | hg
  ·rw [e]; exact ⟨k, Nat.le_refl _, h⟩
  ·obtain ⟨r, _, i, i', h1, h1', h2, h2', _⟩ := hb.at h
   rcases List.mem_append.mp hg with hg | hg
   ·obtain ⟨j, h3, h4⟩ := hb.subs h2 hg
    exact ⟨j, by omega, h4⟩
   ·obtain ⟨j, h3, h4⟩ := hb.subs h2' hg
    exact ⟨j, by omega, h4⟩
theorem idx_get (r : Tp SI) : ∀ (rows : List (Tp SI)) (i : Nat) (n : Int), GQ i rows r = some n → ∃ j, n = ((i + j : Nat) : Int) ∧ rows[j]? = some r
 | [], i, n, h => by cases h
 | a :: rs, i, n, h => by
  unfold GQ at h
  by_cases e : a = r
  ·rw [if_pos e] at h
   cases h
   exact ⟨0, rfl, by rw [e]; rfl⟩
  ·rw [if_neg e] at h
   obtain ⟨j, h1, h2⟩ := idx_get r rs (i + 1) n h
   refine ⟨j + 1, ?_, h2⟩
   rw [h1]
   congr 1
   omega
theorem idx_none (r : Tp SI) : ∀ (rows : List (Tp SI)) (i : Nat), GQ i rows r = none → ∀ j : Nat, rows[j]? ≠ some r
 | [], i, h, j => by simp
 | a :: rs, i, h, j => by
  unfold GQ at h
  by_cases e : a = r
  ·rw [if_pos e] at h
   cases h
  ·rw [if_neg e] at h
   cases j with
   | zero => intro z; exact e (Option.some.inj z)
   | succ j => exact idx_none r rs (i + 1) h j
theorem step {L : List (Tp SI)} {fs : List Fm} {r : Tp SI} {f : Fm} (hb : Bk L fs) (hd : Dif fs) (hr : R1 fs L.length r f) (hl : L.length < 100000) :
  (∃ m : Nat, fs[m]? = some f ∧ DH L ⟨r.l⟩ = some (L, (m : Int))) ∨
  ((∀ m : Nat, fs[m]? ≠ some f) ∧ DH L ⟨r.l⟩ = some (L ++ [r], (L.length : Int)) ∧ Bk (L ++ [r]) (fs ++ [f]) ∧ Dif (fs ++ [f])) := by
 have hz : sizeLine = 16777216 := sizeLine_eq
 have hrow : DH L ⟨r.l⟩ = match GQ 0 L r with | some n => some (L, n) | none => if L.length < sizeLine then some (L ++ [r], (L.length : Int)) else none := rfl
 cases e : GQ 0 L r with
 | some n =>
  obtain ⟨j, h1, h2⟩ := idx_get r L 0 n e
  obtain ⟨g, h3, h4⟩ := hb.at' h2
  rw [h4.fn hr] at h3
  refine .inl ⟨j, h3, ?_⟩
  rw [hrow, e, h1, Nat.zero_add]
 | none =>
  have hn := idx_none r L 0 e
  have hf : ∀ m : Nat, fs[m]? ≠ some f := fun m hm => by
   obtain ⟨r', h1, h2⟩ := hb.at hm
   rw [h2.inj hd hr] at h1
   exact hn m h1
  refine .inr ⟨hf, ?_, hb.snoc hr, hd.snoc hf⟩
  rw [hrow, e]
  exact if_pos (by omega)
noncomputable def Got (L : List (Tp SI)) (fs : List Fm) (f : Fm) (o : Option (List (Tp SI) × Int)) : Prop :=
 ∃ (L' : List (Tp SI)) (fs' : List Fm) (k : Nat), o = some (L ++ L', (k : Int)) ∧ Bk (L ++ L') (fs ++ fs') ∧ Dif (fs ++ fs') ∧ (fs ++ fs')[k]? = some f ∧ (∀ g ∈ fs', g ∈ f.sub) ∧ L'.length ≤ f.size ∧
  ((∃ m : Nat, fs[m]? = some f) → L' = [] ∧ fs' = []) ∧ ((∀ m : Nat, fs[m]? ≠ some f) → k + 1 = (L ++ L').length)
theorem fin {L L' : List (Tp SI)} {fs fs' : List Fm} {r : Tp SI} {f : Fm} (hb : Bk (L ++ L') (fs ++ fs')) (hd : Dif (fs ++ fs')) (hs : ∀ g ∈ fs', g ∈ f.sub ∧ g.size < f.size) (hn : L'.length + 1 ≤ f.size)
  (hf : (∃ m : Nat, fs[m]? = some f) → L' = [] ∧ fs' = []) (hr : R1 (fs ++ fs') (L ++ L').length r f) (hl : (L ++ L').length < 100000) : Got L fs f (DH (L ++ L') ⟨r.l⟩) := by
 rcases step hb hd hr hl with ⟨m, h1, h2⟩ | ⟨h1, h2, h3, h4⟩
 ·refine ⟨L', fs', m, h2, hb, hd, h1, fun g hg => (hs g hg).1, by omega, hf, fun hno => ?_⟩
  exfalso
  by_cases hm : m < fs.length
  ·rw [List.getElem?_append_left hm] at h1
   exact hno m h1
  ·rw [List.getElem?_append_right (by omega)] at h1
   have := (hs f (List.mem_of_getElem? h1)).2
   omega
 ·refine ⟨L' ++ [r], fs' ++ [f], (L ++ L').length, by rw [h2, List.append_assoc], by rw [← List.append_assoc, ← List.append_assoc]; exact h3, by rw [← List.append_assoc]; exact h4, ?_, ?_, by rw [List.length_append]; exact hn, ?_, fun _ => by rw [← List.append_assoc, List.length_append (as := L ++ L')]; rfl⟩
  ·rw [← List.append_assoc, hb.1]
   simp
  ·intro g hg
   rcases List.mem_append.mp hg with hg | hg
   ·exact (hs g hg).1
   ·rw [List.mem_singleton.mp hg]
    exact sub_self f
  ·rintro ⟨m, hm⟩
   exact absurd (Dm hm) (h1 m)
theorem lay_succ (n : Nat) (rows : List (Tp SI)) (a : Nt) : EM AZ (n + 1) rows a = (BF a).bind fun t => (atI t.l 0).bind fun b => (Bz b).bind fun w =>
   cond (decide (w = "lamp")) ((sisO t.l).bind fun l => DH rows ⟨l⟩)
   ((AZ a).bind fun ps => (EA (GO (EM AZ n)) ps.l (rows, [.s w])).bind fun z => layE z) := rfl
theorem lay_word {n : Nat} {w : Str} {l : List Nt} (hw : w ≠ "lamp") (rows : List (Tp SI)) : EM AZ (n + 1) rows (.tup (.txt w :: l)) = (EA (GO (EM AZ n)) l (rows, [.s w])).bind fun z => layE z := by
 rw [lay_succ]
 simp only [BF, AF, at0, Bz, decide_eq_false hw, cond_false, parts_other hw]
theorem lay_lamp {n : Nat} (c : Str) (rows : List (Tp SI)) : EM AZ (n + 1) rows (.tup [.txt "lamp", .txt c]) = DH rows ⟨[.s "lamp", .s c]⟩ := by
 rw [lay_succ]
 simp only [BF, AF, at0, Bz, decide_true, cond_true]
 rfl
theorem layF_eq {lay : List (Tp SI) → Nt → Option (List (Tp SI) × Int)} {a : Nt} {s : List (Tp SI) × List SI} {z : List (Tp SI) × Int} (h : lay s.1 a = some z) (hl : s.2.length ≤ 10) : GO lay a s = some (.nx (z.1, s.2 ++ [.i z.2])) := by
 have hz : sizeLine = 16777216 := sizeLine_eq
 unfold GO
 rw [h, AF, if_pos (by omega)]
theorem fl_one {lay : List (Tp SI) → Nt → Option (List (Tp SI) × Int)} {a : Nt} {rows : List (Tp SI)} {w : Str} {z : List (Tp SI) × Int} (h : lay rows a = some z) :
  ((EA (GO lay) [a] (rows, [.s w])).bind fun z => layE z) = DH z.1 ⟨[.s w, .i z.2]⟩ := by
 have e := layF_eq (s := (rows, [.s w])) h (by simp)
 show (((GO lay a (rows, [.s w])).bind fun fl => _).bind _) = _
 rw [e]
 rfl
theorem fl_two {lay : List (Tp SI) → Nt → Option (List (Tp SI) × Int)} {a b : Nt} {rows : List (Tp SI)} {w : Str} {z y : List (Tp SI) × Int} (h : lay rows a = some z) (h2 : lay z.1 b = some y) :
  ((EA (GO lay) [a, b] (rows, [.s w])).bind fun z => layE z) = DH y.1 ⟨[.s w, .i z.2, .i y.2]⟩ := by
 have e := layF_eq (s := (rows, [.s w])) h (by simp)
 have e2 := layF_eq (s := (z.1, [.s w] ++ [.i z.2])) h2 (by simp)
 show (((GO lay a (rows, [.s w])).bind fun fl => _).bind _) = _
 rw [e]
 show (((GO lay b (z.1, [.s w] ++ [.i z.2])).bind fun fl => _).bind _) = _
 rw [e2]
 rfl
theorem nl : (("yes" : Str) ≠ "lamp" ∧ ("not" : Str) ≠ "lamp" ∧ ("next" : Str) ≠ "lamp") ∧ ("and" : Str) ≠ "lamp" ∧ ("until" : Str) ≠ "lamp" := by decide +kernel
theorem lay_all : ∀ (n : Nat) (f : Fm) (L : List (Tp SI)) (fs : List Fm), f.dep ≤ n → Bk L fs → Dif fs → L.length + f.size < 100000 → Got L fs f (EM AZ n L f.nt)
 | 0, f, L, fs, hd, _, _, _ => absurd hd (by have := f.dep_pos; omega)
 | n + 1, f, L, fs, hdp, hb, hd, hl => by
  have one : ∀ (w : Str) (a f : Fm), w ≠ "lamp" → f.sub = f :: a.sub → f.size = a.size + 1 → a.dep ≤ n → L.length + f.size < 100000 →
    (∀ {fs k r}, R1 fs k r f ↔ ∃ i : Nat, i < k ∧ fs[i]? = some a ∧ r = ⟨[.s w, .i (i : Int)]⟩) → Got L fs f (EM AZ (n + 1) L (.tup [.txt w, a.nt])) := fun w a f hw hsub hsz hdp hl hR => by
   rw [lay_word hw]
   obtain ⟨L1, fs1, k1, h1, h2, h3, h4, h5, h6, h7, h8⟩ := lay_all n a L fs hdp hb hd (by omega)
   rw [fl_one h1]
   refine fin (r := ⟨[.s w, .i (k1 : Int)]⟩) h2 h3 (fun g hg => ⟨by rw [hsub]; exact List.mem_cons_of_mem _ (h5 g hg), ?_⟩) (by omega) (fun ⟨m, hm⟩ => ?_) (hR.mpr ⟨k1, ?_, h4, rfl⟩) (by rw [List.length_append]; omega)
   ·have := EL (h5 g hg); omega
   ·obtain ⟨r, _, hr⟩ := hb.at hm
    obtain ⟨i, _, hi, _⟩ := hR.mp hr
    exact h7 ⟨i, hi⟩
   ·rw [h2.1]; exact Dz h4
  have two : ∀ (w : Str) (a b f : Fm), w ≠ "lamp" → f.sub = f :: (a.sub ++ b.sub) → f.size = a.size + b.size + 1 → a.dep ≤ n → b.dep ≤ n → L.length + f.size < 100000 →
    (∀ {fs k r}, R1 fs k r f ↔ ∃ i j : Nat, i < k ∧ j < k ∧ fs[i]? = some a ∧ fs[j]? = some b ∧ r = ⟨[.s w, .i (i : Int), .i (j : Int)]⟩) → Got L fs f (EM AZ (n + 1) L (.tup [.txt w, a.nt, b.nt])) := fun w a b f hw hsub hsz hdp hdp2 hl hR => by
   rw [lay_word hw]
   obtain ⟨L1, fs1, k1, h1, h2, h3, h4, h5, h6, h7, h8⟩ := lay_all n a L fs hdp hb hd (by omega)
   obtain ⟨L2, fs2, k2, i1, i2, i3, i4, i5, i6, i7, i8⟩ := lay_all n b (L ++ L1) (fs ++ fs1) hdp2 h2 h3 (by rw [List.length_append]; omega)
   rw [fl_two h1 i1]
   dsimp only
   rw [List.append_assoc] at i2 i3 i4 ⊢
   rw [List.append_assoc] at i2
   have k1' : (fs ++ (fs1 ++ fs2))[k1]? = some a := by rw [← List.append_assoc]; exact Dm h4
   refine fin (r := ⟨[.s w, .i (k1 : Int), .i (k2 : Int)]⟩) i2 i3 (fun g hg => ?_) (by rw [List.length_append]; omega) (fun ⟨m, hm⟩ => ?_) (hR.mpr ⟨k1, k2, ?_, ?_, k1', i4, rfl⟩) (by rw [List.length_append, List.length_append]; omega)
   ·rcases List.mem_append.mp hg with hg | hg
    ·exact ⟨by rw [hsub]; exact List.mem_cons_of_mem _ (List.mem_append_left _ (h5 g hg)), by have := EL (h5 g hg); omega⟩
    ·exact ⟨by rw [hsub]; exact List.mem_cons_of_mem _ (List.mem_append_right _ (i5 g hg)), by have := EL (i5 g hg); omega⟩
   ·obtain ⟨r, _, hr⟩ := hb.at hm
    obtain ⟨i, j, _, _, hi, hj, _⟩ := hR.mp hr
    obtain ⟨e1, e2⟩ := h7 ⟨i, hi⟩
    obtain ⟨e3, e4⟩ := i7 ⟨j, Dm hj⟩
    rw [e1, e2, e3, e4]
    exact ⟨rfl, rfl⟩
   ·rw [i2.1]; exact Dz k1'
   ·rw [i2.1]; exact Dz i4
  have zero : ∀ (r : Tp SI) (f : Fm), f.size = 1 → R1 fs L.length r f → L.length + 1 < 100000 → Got L fs f (DH L ⟨r.l⟩) := fun r f hs hr hl => by
   have := fin (L := L) (L' := []) (fs := fs) (fs' := []) (r := r) (f := f) (by simpa using hb) (by simpa using hd) (fun g hg => nomatch hg) (by simp [hs]) (fun _ => ⟨rfl, rfl⟩) (by simpa using hr) (by simp; omega)
   rwa [List.append_nil] at this
  cases f with
  | yes =>
   show Got _ _ _ (EM AZ (n + 1) L (.tup [.txt "yes"]))
   rw [lay_word nl.1.1]
   exact zero ⟨[.s "yes"]⟩ .yes rfl rfl hl
  | lamp c =>
   show Got _ _ _ (EM AZ (n + 1) L (.tup [.txt "lamp", .txt c]))
   rw [lay_lamp]
   exact zero ⟨[.s "lamp", .s c]⟩ (.lamp c) rfl rfl hl
  | neg a => exact one "not" a (.neg a) nl.1.2.1 rfl rfl (by simp only [Fm.dep] at hdp; omega) hl Iff.rfl
  | next a => exact one "next" a (.next a) nl.1.2.2 rfl rfl (by simp only [Fm.dep] at hdp; omega) hl Iff.rfl
  | and a b => exact two "and" a b (.and a b) nl.2.1 rfl rfl (by simp only [Fm.dep] at hdp; omega) (by simp only [Fm.dep] at hdp; omega) hl Iff.rfl
  | unt a b => exact two "until" a b (.unt a b) nl.2.2 rfl rfl (by simp only [Fm.dep] at hdp; omega) (by simp only [Fm.dep] at hdp; omega) hl Iff.rfl
theorem w_no_yes : decide (("no" : Str) = "yes") = false := by decide +kernel
theorem w_lamp_yes : decide (("lamp" : Str) = "yes") = false := by decide +kernel
theorem w_lamp_no : decide (("lamp" : Str) = "no") = false := by decide +kernel
theorem w_yes_no : decide (("yes" : Str) = "no") = false := by decide +kernel
theorem w_next_not : decide (("next" : Str) = "not") = false := by decide +kernel
theorem w_atlast_not : decide (("atlast" : Str) = "not") = false := by decide +kernel
theorem w_atlast_next : decide (("atlast" : Str) = "next") = false := by decide +kernel
theorem w_always_not : decide (("always" : Str) = "not") = false := by decide +kernel
theorem w_always_next : decide (("always" : Str) = "next") = false := by decide +kernel
theorem w_always_atlast : decide (("always" : Str) = "atlast") = false := by decide +kernel
theorem w_again_not : decide (("again" : Str) = "not") = false := by decide +kernel
theorem w_again_next : decide (("again" : Str) = "next") = false := by decide +kernel
theorem w_again_atlast : decide (("again" : Str) = "atlast") = false := by decide +kernel
theorem w_again_always : decide (("again" : Str) = "always") = false := by decide +kernel
theorem w_settles_not : decide (("settles" : Str) = "not") = false := by decide +kernel
theorem w_settles_next : decide (("settles" : Str) = "next") = false := by decide +kernel
theorem w_settles_atlast : decide (("settles" : Str) = "atlast") = false := by decide +kernel
theorem w_settles_always : decide (("settles" : Str) = "always") = false := by decide +kernel
theorem w_settles_again : decide (("settles" : Str) = "again") = false := by decide +kernel
theorem w_or_and : decide (("or" : Str) = "and") = false := by decide +kernel
theorem w_then_and : decide (("then" : Str) = "and") = false := by decide +kernel
theorem w_then_or : decide (("then" : Str) = "or") = false := by decide +kernel
theorem w_until_and : decide (("until" : Str) = "and") = false := by decide +kernel
theorem w_until_or : decide (("until" : Str) = "or") = false := by decide +kernel
theorem w_until_then : decide (("until" : Str) = "then") = false := by decide +kernel
theorem w_frees_and : decide (("frees" : Str) = "and") = false := by decide +kernel
theorem w_frees_or : decide (("frees" : Str) = "or") = false := by decide +kernel
theorem w_frees_then : decide (("frees" : Str) = "then") = false := by decide +kernel
theorem w_frees_until : decide (("frees" : Str) = "until") = false := by decide +kernel
noncomputable def ls (M : Nat) (f : Nat → Bool) : List Bool := (List.range M).map f
theorem Bw (M : Nat) (f : Nat → Bool) : (ls M f).length = M := by unfold ls; rw [List.length_map, List.length_range]
theorem ls_congr {M : Nat} {f g : Nat → Bool} (h : ∀ k, k < M → f k = g k) : ls M f = ls M g := List.map_congr_left fun k hk => h k (List.mem_range.mp hk)
theorem FC {M : Nat} {f : Nat → Bool} {j : Nat} (h : j < M) : atI (ls M f) (j : Int) = some (f j) := BX (by unfold ls; simp [h])
noncomputable def ons (M s k : Nat) : List Nat := (List.range (M - k)).map (fun i => k + i) ++ (List.range (k - s)).map (fun i => s + i)
theorem By {M s k i : Nat} (hk : k < M) : i ∈ ons M s k ↔ (k ≤ i ∧ i < M) ∨ (s ≤ i ∧ i < k) := by
 unfold ons
 rw [List.mem_append, List.mem_map, List.mem_map]
 constructor
 ·rintro (⟨j, hj, rfl⟩ | ⟨j, hj, rfl⟩)
  ·have := List.mem_range.mp hj
   exact .inl ⟨by omega, by omega⟩
  ·have := List.mem_range.mp hj
   exact .inr ⟨by omega, by omega⟩
 ·rintro (⟨h1, h2⟩ | ⟨h1, h2⟩)
  ·exact .inl ⟨i - k, List.mem_range.mpr (by omega), by omega⟩
  ·exact .inr ⟨i - s, List.mem_range.mpr (by omega), by omega⟩
noncomputable def hu (f g : Nat → Bool) : List Nat → Bool
 | [] => false
 | k :: t => cond (g k) true (cond (f k) (hu f g t) false)
noncomputable def fre (f g : Nat → Bool) : List Nat → Bool
 | [] => true
 | k :: t => cond (g k) (cond (f k) true (fre f g t)) false
theorem hu_true (g : Nat → Bool) : ∀ L : List Nat, hu (fun _ => true) g L = L.any g
 | [] => rfl
 | k :: t => by
  show cond (g k) true (cond true (hu (fun _ => true) g t) false) = _
  rw [hu_true g t, List.any_cons]
  cases g k <;> rfl
theorem hu_not (f g : Nat → Bool) : ∀ L : List Nat, (!hu (fun k => !f k) (fun k => !g k) L) = fre f g L
 | [] => rfl
 | k :: t => by
  have ih := hu_not f g t
  unfold hu fre
  rw [← ih]
  cases g k <;> cases f k <;> rfl
theorem held_for {f g : Nat → Bool} {F : Int → Unit → Option (Fl Unit Bool)} : ∀ {L : List Nat}, (∀ j ∈ L, F (j : Int) () = some (cond (g j) (.rt true) (cond (f j) (.nx ()) (.rt false)))) →
  ((EA F (L.map fun (j : Nat) => (j : Int)) ()).bind fun fl => match fl with | .nx _ => some false | .rt r => some r | .bk _ => none) = some (hu f g L)
 | [], _ => rfl
 | k :: t, h => by
  show (((F (k : Int) ()).bind _).bind _) = _
  rw [h k List.mem_cons_self]
  unfold hu
  have ih := held_for (L := t) fun j hj => h j (List.mem_cons_of_mem _ hj)
  cases g k with
  | true => rfl
  | false =>
   cases f k with
   | true => exact ih
   | false => rfl
theorem freed_for {f g : Nat → Bool} {F : Int → Unit → Option (Fl Unit Bool)} : ∀ {L : List Nat}, (∀ j ∈ L, F (j : Int) () = some (cond (g j) (cond (f j) (.rt true) (.nx ())) (.rt false))) →
  ((EA F (L.map fun (j : Nat) => (j : Int)) ()).bind fun fl => match fl with | .nx _ => some true | .rt r => some r | .bk _ => none) = some (fre f g L)
 | [], _ => rfl
 | k :: t, h => by
  show (((F (k : Int) ()).bind _).bind _) = _
  rw [h k List.mem_cons_self]
  unfold fre
  have ih := freed_for (L := t) fun j hj => h j (List.mem_cons_of_mem _ hj)
  cases g k with
  | false => rfl
  | true =>
   cases f k with
   | true => rfl
   | false => exact ih
theorem held_eq {M : Nat} (f g : Nat → Bool) {L : List Nat} (h : ∀ j ∈ L, j < M) : BW (ls M f) (ls M g) (L.map fun (j : Nat) => (j : Int)) = some (hu f g L) := by
 unfold BW
 simp only [Option.bind_assoc, AF, AK]
 refine held_for fun j hj => ?_
 rw [FC (h j hj), FC (h j hj)]
 simp only [AF]
 cases g j <;> cases f j <;> rfl
theorem freed_eq {M : Nat} (f g : Nat → Bool) {L : List Nat} (h : ∀ j ∈ L, j < M) : Cj (ls M f) (ls M g) (L.map fun (j : Nat) => (j : Int)) = some (fre f g L) := by
 unfold Cj
 simp only [Option.bind_assoc, AF, AK]
 refine freed_for fun j hj => ?_
 rw [FC (h j hj), FC (h j hj)]
 simp only [AF]
 cases g j <;> cases f j <;> rfl
theorem onward_eq {M s k : Nat} (hM : M ≤ 20) (hk : k < M) (hs : s < M) : Bi (k : Int) (s : Int) (M : Int) = some ((ons M s k).map fun (j : Nat) => (j : Int)) := by
 have hz : sizeLine = 16777216 := sizeLine_eq
 refine OK.eq ?_
 unfold Bi
 simp only [Option.bind_assoc, AF, AK]
 refine AW (Fg (n := M - k) (by omega) (by omega) (by omega) ?_)
 have e2 : Ec (s : Int) (k : Int) = some ((List.range (k - s)).map fun (i : Nat) => (s : Int) + (i : Int)) := by
  unfold Ec
  have e : ((k : Int) - (s : Int)).toNat = k - s := by omega
  rw [e, if_pos ⟨⟨by omega, by omega, by omega, by omega⟩, by omega⟩]
 rw [e2]
 simp only [AF]
 refine ok_catL (by rw [List.length_map, List.length_map, List.length_range, List.length_range]; omega) ?_
 unfold ons
 rw [List.map_append, List.map_map, List.map_map]
 congr 1
theorem Ea {M : Nat} (hM : M ≤ 20) {F : Int → Option Bool} {f : Nat → Bool} (h : ∀ k, k < M → F (k : Int) = some (f k)) {P : List Bool → Prop} (hp : P (ls M f)) : OK ((Ec 0 (M : Int)).bind fun l => EJ F l) P := by
 have hz : sizeLine = 16777216 := sizeLine_eq
 refine AW (Fg (n := M) (by omega) (by omega) (by omega) ?_)
 refine ok_map (g := fun i : Int => f i.toNat) (fun a ha => ?_) ?_
 ·obtain ⟨k, hk, rfl⟩ := List.mem_map.mp ha
  have e : (0 : Int) + (k : Int) = (k : Int) := by omega
  rw [e, h k (List.mem_range.mp hk)]
  rfl
 ·rw [List.map_map]
  have : (List.range M).map ((fun i : Int => f i.toNat) ∘ fun (i : Nat) => (0 : Int) + (i : Int)) = ls M f := List.map_congr_left fun i _ => by simp
  rw [this]
  exact hp
theorem mem_cut {M k : Nat} {f : Nat → Bool} {b : Bool} : b ∈ Cf (ls M f) (some (k : Int)) none ↔ ∃ i, k ≤ i ∧ i < M ∧ f i = b := by
 have e : Cf (ls M f) (some (k : Int)) none = (ls M f).drop k := by
  unfold Cf
  have h1 : HT.sIx (ls M f).length 0 (some (k : Int)) = min k M := by
   rw [Bw]
   unfold HT.sIx
   simp
   try omega
  have h2 : HT.sIx (ls M f).length (ls M f).length none = M := by
   rw [Bw]
   rfl
  rw [h1, h2]
  have h3 : ((ls M f).drop (min k M)).length = M - min k M := by rw [List.length_drop, Bw]
  rw [List.take_of_length_le (by omega)]
  by_cases hk : k ≤ M
  ·rw [Nat.min_eq_left hk]
  ·rw [Nat.min_eq_right (by omega), List.drop_eq_nil_of_le (by rw [Bw]; exact Nat.le_refl _), List.drop_eq_nil_of_le (by rw [Bw]; omega)]
 rw [e]
 constructor
 ·intro h
  obtain ⟨j, hj⟩ := List.mem_iff_getElem?.mp h
  rw [List.getElem?_drop] at hj
  have hl := (List.getElem?_eq_some_iff.mp hj).1
  rw [Bw] at hl
  refine ⟨k + j, by omega, hl, ?_⟩
  unfold ls at hj
  simpa [hl] using hj
 ·rintro ⟨i, h1, h2, rfl⟩
  refine List.mem_iff_getElem?.mpr ⟨i - k, ?_⟩
  rw [List.getElem?_drop]
  have : k + (i - k) = i := by omega
  rw [this]
  unfold ls
  simp [h2]
section
variable {lit : List Str} {s : Nat} (hs : s < lit.length) (hM : lit.length ≤ 20)
noncomputable def TP (lit : List Str) (s d : Nat) (p : Nt) (f : Nat → Bool) : Prop := ∀ n, d ≤ n → B7 n p lit (s : Int) = some (ls lit.length f)
theorem TP.up {d e : Nat} {p : Nt} {f : Nat → Bool} (h : TP lit s d p f) (he : d ≤ e) : TP lit s e p f := fun n hn => h n (by omega)
theorem TP.to {d : Nat} {p : Nt} {f g : Nat → Bool} (h : TP lit s d p f) (e : ∀ k, k < lit.length → f k = g k) : TP lit s d p g := fun n hn => by rw [h n hn, ls_congr e]
theorem rep_one {M : Nat} (hM : M ≤ 20) (b : Bool) : repL [b] (M : Int) = some (ls M fun _ => b) := by
 have hz : sizeLine = 16777216 := sizeLine_eq
 unfold repL
 rw [if_pos ⟨⟨by omega, by omega⟩, by rw [List.length_singleton]; omega⟩]
 congr 1
 have e : (M : Int).toNat = M := by omega
 rw [e]
 unfold ls
 induction M with
 | zero => rfl
 | succ M ih => rw [List.replicate_succ', List.flatten_append, ih (by omega) (by omega), List.range_succ, List.map_append]; rfl
include hM in
theorem tr_word {w : Str} {b c : Bool} (h1 : decide (w = "yes") = b) (h2 : decide (w = "no") = c) (h3 : (b || c) = true) : TP lit s 1 (.tup [.txt w]) fun _ => b := fun n hn => by
 obtain ⟨m, rfl⟩ : ∃ m, n = m + 1 := ⟨n - 1, by omega⟩
 show B6 (B7 m) _ lit (s : Int) = _
 unfold B6
 simp only [Option.bind_assoc, AF, AK, BF, at0, Bz]
 rw [h1, h2, h3, cond_true]
 exact rep_one hM b
include hM in
theorem tr_yes : TP lit s 1 (.tup [.txt "yes"]) fun _ => true := tr_word hM (decide_eq_true rfl) w_yes_no rfl
include hM in
theorem tr_no : TP lit s 1 (.tup [.txt "no"]) fun _ => false := tr_word hM w_no_yes (decide_eq_true rfl) rfl
theorem tr_lamp (c : Str) : TP lit s 1 (.tup [.txt "lamp", .txt c]) (fun k => inS c (lit.getD k "")) := by
 intro n hn
 obtain ⟨m, rfl⟩ : ∃ m, n = m + 1 := ⟨n - 1, by omega⟩
 show B6 (B7 m) _ lit (s : Int) = _
 unfold B6
 simp only [Option.bind_assoc, AF, AK, BF, at0, Bz]
 have e1 : atI [Nt.txt "lamp", Nt.txt c] (1 : Int) = some (Nt.txt c) := rfl
 simp only [e1, AF, w_lamp_yes, w_lamp_no, decide_true, Bool.or_self, cond_false, cond_true]
 refine OK.eq (ok_map (g := fun m => inS c m) (fun _ _ => rfl) ?_)
 unfold ls
 refine List.ext_getElem? fun i => ?_
 rw [List.getElem?_map, List.getElem?_map]
 by_cases hi : i < lit.length
 ·simp [hi]
 ·rw [List.getElem?_eq_none (by omega), List.getElem?_eq_none (by rw [List.length_range]; omega)]
  rfl
theorem GH {d : Nat} {a : Nt} {f g : Nat → Bool} {w : Str} (hw : Wd w) (h : TP lit s d a f) (e : AH w (ls lit.length f) (s : Int) = some (ls lit.length g)) : TP lit s (d + 1) (.tup [.txt w, a]) g := fun n hn => by
 obtain ⟨m, rfl⟩ : ∃ m, n = m + 1 := ⟨n - 1, by omega⟩
 show B6 (B7 m) _ lit (s : Int) = _
 unfold B6
 simp only [Option.bind_assoc, AF, AK, BF, at0, Bz, decide_eq_false hw.no, decide_eq_false hw.yes, decide_eq_false hw.lamp, Bool.or_self, cond_false]
 have e1 : atI [Nt.txt w, a] (1 : Int) = some a := rfl
 have e2 : decide ((([Nt.txt w, a] : List Nt).length : Int) = 2) = true := rfl
 rw [e1, e2]
 simp only [AF, h m (by omega), cond_true]
 exact e
theorem tr_two {d k : Nat} {a b : Nt} {f g r : Nat → Bool} {w : Str} (hw : Wd w) (h : TP lit s d a f) (h' : TP lit s k b g) (e : AO w (ls lit.length f) (ls lit.length g) (s : Int) = some (ls lit.length r)) : TP lit s (max d k + 1) (.tup [.txt w, a, b]) r := fun n hn => by
 obtain ⟨m, rfl⟩ : ∃ m, n = m + 1 := ⟨n - 1, by omega⟩
 show B6 (B7 m) _ lit (s : Int) = _
 unfold B6
 simp only [Option.bind_assoc, AF, AK, BF, at0, Bz, decide_eq_false hw.no, decide_eq_false hw.yes, decide_eq_false hw.lamp, Bool.or_self, cond_false]
 have e1 : atI [Nt.txt w, a, b] (1 : Int) = some a := rfl
 have e3 : atI [Nt.txt w, a, b] (2 : Int) = some b := rfl
 have e2 : decide ((([Nt.txt w, a, b] : List Nt).length : Int) = 2) = false := rfl
 rw [e1, e2, e3]
 simp only [AF, h m (by omega), h' m (by omega), cond_false]
 exact e
noncomputable def nxt (M s : Nat) (f : Nat → Bool) (k : Nat) : Bool := if k + 1 < M then f (k + 1) else f s
include hM in
theorem of_not (f : Nat → Bool) : AH "not" (ls lit.length f) (s : Int) = some (ls lit.length fun k => !f k) := by
 refine OK.eq ?_
 unfold AH
 simp only [w_next_not, w_atlast_not, w_atlast_next, w_always_not, w_always_next, w_always_atlast, w_again_not, w_again_next, w_again_atlast, w_again_always, w_settles_not, w_settles_next, w_settles_atlast, w_settles_always, w_settles_again, decide_true, Bool.or_true, Bool.or_false, Bool.true_or, Bool.or_self, cond_true, cond_false, Option.bind_assoc, AF, AK, Bw]
 refine Ea hM (fun k hk => ?_) rfl
 rw [FC hk]
 rfl
include hs hM in
theorem of_next (f : Nat → Bool) : AH "next" (ls lit.length f) (s : Int) = some (ls lit.length (nxt lit.length s f)) := by
 have hz : sizeLine = 16777216 := sizeLine_eq
 refine OK.eq ?_
 unfold AH
 simp only [w_next_not, w_atlast_not, w_atlast_next, w_always_not, w_always_next, w_always_atlast, w_again_not, w_again_next, w_again_atlast, w_again_always, w_settles_not, w_settles_next, w_settles_atlast, w_settles_always, w_settles_again, decide_true, Bool.or_true, Bool.or_false, Bool.true_or, Bool.or_self, cond_true, cond_false, Option.bind_assoc, AF, AK, Bw]
 show OK ((atI (ls lit.length f) (s : Int)).bind _) _
 rw [FC hs]
 simp only [AF]
 have e : Cf (ls lit.length f) (some 1) none = (ls lit.length f).drop 1 := by
  unfold Cf
  have h1 : HT.sIx (ls lit.length f).length 0 (some (1 : Int)) = 1 := by
   rw [Bw]
   unfold HT.sIx
   simp
   omega
  have h2 : HT.sIx (ls lit.length f).length (ls lit.length f).length none = lit.length := by
   rw [Bw]
   rfl
  rw [h1, h2, List.take_of_length_le (by rw [List.length_drop, Bw]; exact Nat.le_refl _)]
 rw [e]
 refine ok_catL (by rw [List.length_drop, Bw, List.length_singleton]; omega) ?_
 refine List.ext_getElem? fun i => ?_
 unfold ls nxt
 by_cases h1 : i + 1 < lit.length
 ·rw [List.getElem?_append_left (by simp; omega), List.getElem?_drop]
  have : 1 + i = i + 1 := by omega
  rw [this]
  simp [h1, show i < lit.length by omega]
 ·by_cases h2 : i + 1 = lit.length
  ·rw [List.getElem?_append_right (by simp; omega)]
   have : i - (((List.range lit.length).map f).drop 1).length = 0 := by simp; omega
   rw [this]
   simp [show i < lit.length by omega, h1]
  ·rw [List.getElem?_eq_none (by simp; omega), List.getElem?_eq_none (by simp; omega)]
noncomputable def ev (M s : Nat) (f : Nat → Bool) (k : Nat) : Bool := (ons M s k).any f
theorem any_cut {M s k : Nat} (f : Nat → Bool) (hk : k < M) (hs : s < M) : (Cf (ls M f) (some (k : Int)) none ++ Cf (ls M f) (some (s : Int)) none).any id = ev M s f k := by
 unfold ev
 apply Bool.eq_iff_iff.mpr
 rw [List.any_eq_true, List.any_eq_true]
 constructor
 ·rintro ⟨b, hb, hb1⟩
  have hb1 : b = true := hb1
  subst hb1
  rcases List.mem_append.mp hb with h | h
  ·obtain ⟨i, h1, h2, h3⟩ := mem_cut.mp h
   exact ⟨i, (By hk).mpr (.inl ⟨h1, h2⟩), h3⟩
  ·obtain ⟨i, h1, h2, h3⟩ := mem_cut.mp h
   refine ⟨i, (By hk).mpr ?_, h3⟩
   by_cases hik : k ≤ i
   ·exact .inl ⟨hik, h2⟩
   ·exact .inr ⟨h1, by omega⟩
 ·rintro ⟨i, hi, h3⟩
  refine ⟨true, List.mem_append.mpr ?_, rfl⟩
  rcases (By hk).mp hi with ⟨h1, h2⟩ | ⟨h1, h2⟩
  ·exact .inl (mem_cut.mpr ⟨i, h1, h2, h3⟩)
  ·exact .inr (mem_cut.mpr ⟨i, h1, by omega, h3⟩)
theorem all_cut {M s k : Nat} (f : Nat → Bool) (hk : k < M) (hs : s < M) : (Cf (ls M f) (some (k : Int)) none ++ Cf (ls M f) (some (s : Int)) none).all id = !ev M s (fun i => !f i) k := by
 unfold ev
 apply Bool.eq_iff_iff.mpr
 rw [List.all_eq_true, Bool.not_eq_true', List.any_eq_false]
 constructor
 ·intro h i hi h3
  have fi : f i = false := by simpa using h3
  rcases (By hk).mp hi with ⟨h1, h2⟩ | ⟨h1, h2⟩
  ·have := h false (List.mem_append.mpr (.inl (mem_cut.mpr ⟨i, h1, h2, fi⟩)))
   cases this
  ·have := h false (List.mem_append.mpr (.inr (mem_cut.mpr ⟨i, h1, by omega, fi⟩)))
   cases this
 ·intro h b hb
  cases b with
  | true => rfl
  | false =>
   exfalso
   rcases List.mem_append.mp hb with h' | h'
   ·obtain ⟨i, h1, h2, h3⟩ := mem_cut.mp h'
    exact h i ((By hk).mpr (.inl ⟨h1, h2⟩)) (by rw [h3]; rfl)
   ·obtain ⟨i, h1, h2, h3⟩ := mem_cut.mp h'
    refine h i ((By hk).mpr ?_) (by rw [h3]; rfl)
    by_cases hik : k ≤ i
    ·exact .inl ⟨hik, h2⟩
    ·exact .inr ⟨h1, by omega⟩
include hs hM in
theorem of_atlast (f : Nat → Bool) : AH "atlast" (ls lit.length f) (s : Int) = some (ls lit.length (ev lit.length s f)) := by
 have hz : sizeLine = 16777216 := sizeLine_eq
 refine OK.eq ?_
 unfold AH
 simp only [w_next_not, w_atlast_not, w_atlast_next, w_always_not, w_always_next, w_always_atlast, w_again_not, w_again_next, w_again_atlast, w_again_always, w_settles_not, w_settles_next, w_settles_atlast, w_settles_always, w_settles_again, decide_true, Bool.or_true, Bool.or_false, Bool.true_or, Bool.or_self, cond_true, cond_false, Option.bind_assoc, AF, AK, Bw]
 refine Ea hM (fun k hk => ?_) rfl
 have l1 : ∀ lo hi, (Cf (ls lit.length f) lo hi).length ≤ 20 := fun lo hi => by
  unfold Cf
  rw [List.length_take, List.length_drop, Bw]
  omega
 have c1 := l1 (some (k : Int)) none
 have c2 := l1 (some (s : Int)) none
 rw [show GV (Cf (ls lit.length f) (some (k : Int)) none) (Cf (ls lit.length f) (some (s : Int)) none) = some _ from if_pos (by omega)]
 simp only [AF]
 rw [any_cut f hk hs]
include hs hM in
theorem of_always (f : Nat → Bool) : AH "always" (ls lit.length f) (s : Int) = some (ls lit.length fun k => !ev lit.length s (fun i => !f i) k) := by
 have hz : sizeLine = 16777216 := sizeLine_eq
 refine OK.eq ?_
 unfold AH
 simp only [w_next_not, w_atlast_not, w_atlast_next, w_always_not, w_always_next, w_always_atlast, w_again_not, w_again_next, w_again_atlast, w_again_always, w_settles_not, w_settles_next, w_settles_atlast, w_settles_always, w_settles_again, decide_true, Bool.or_true, Bool.or_false, Bool.true_or, Bool.or_self, cond_true, cond_false, Option.bind_assoc, AF, AK, Bw]
 refine Ea hM (fun k hk => ?_) rfl
 have l1 : ∀ lo hi, (Cf (ls lit.length f) lo hi).length ≤ 20 := fun lo hi => by
  unfold Cf
  rw [List.length_take, List.length_drop, Bw]
  omega
 have c1 := l1 (some (k : Int)) none
 have c2 := l1 (some (s : Int)) none
 rw [show GV (Cf (ls lit.length f) (some (k : Int)) none) (Cf (ls lit.length f) (some (s : Int)) none) = some _ from if_pos (by omega)]
 simp only [AF]
 rw [all_cut f hk hs]
include hs hM in
theorem of_again (f : Nat → Bool) : AH "again" (ls lit.length f) (s : Int) = some (ls lit.length fun k => !ev lit.length s (fun j => !ev lit.length s f j) k) := by
 refine OK.eq ?_
 unfold AH
 simp only [w_next_not, w_atlast_not, w_atlast_next, w_always_not, w_always_next, w_always_atlast, w_again_not, w_again_next, w_again_atlast, w_again_always, w_settles_not, w_settles_next, w_settles_atlast, w_settles_always, w_settles_again, decide_true, Bool.or_true, Bool.or_false, Bool.true_or, Bool.or_self, cond_true, cond_false, Option.bind_assoc, AF, AK, Bw]
 show OK (repL _ _) _
 rw [rep_one hM]
 refine AM (ls_congr fun k hk => ?_)
 apply Bool.eq_iff_iff.mpr
 rw [List.any_eq_true, Bool.not_eq_true']
 unfold ev
 rw [List.any_eq_false]
 constructor
 ·rintro ⟨b, hb, hb1⟩ j hj h3
  have hb1 : b = true := hb1
  subst hb1
  obtain ⟨i, h1, h2, h4⟩ := mem_cut.mp hb
  have hjM : j < lit.length := by rcases (By hk).mp hj with h | h <;> omega
  have : (ons lit.length s j).any f = true := List.any_eq_true.mpr ⟨i, (By hjM).mpr (by by_cases hji : j ≤ i; exact .inl ⟨hji, h2⟩; exact .inr ⟨h1, by omega⟩), h4⟩
  rw [this] at h3
  cases h3
 ·intro h
  have hl : lit.length - 1 ∈ ons lit.length s k := (By hk).mpr (.inl ⟨by omega, by omega⟩)
  have h1 := h _ hl
  have h2 : (ons lit.length s (lit.length - 1)).any f = true := by
   cases hq : (ons lit.length s (lit.length - 1)).any f with
   | true => rfl
   | false => rw [hq] at h1; exact absurd rfl h1
  obtain ⟨i, hi, h4⟩ := List.any_eq_true.mp h2
  refine ⟨true, mem_cut.mpr ⟨i, ?_, ?_, h4⟩, rfl⟩
  ·rcases (By (by omega)).mp hi with h | h <;> omega
  ·rcases (By (by omega)).mp hi with h | h <;> omega
include hs hM in
theorem of_settles (f : Nat → Bool) : AH "settles" (ls lit.length f) (s : Int) = some (ls lit.length (ev lit.length s fun j => !ev lit.length s (fun i => !f i) j)) := by
 refine OK.eq ?_
 unfold AH
 simp only [w_next_not, w_atlast_not, w_atlast_next, w_always_not, w_always_next, w_always_atlast, w_again_not, w_again_next, w_again_atlast, w_again_always, w_settles_not, w_settles_next, w_settles_atlast, w_settles_always, w_settles_again, decide_true, Bool.or_true, Bool.or_false, Bool.true_or, Bool.or_self, cond_true, cond_false, Option.bind_assoc, AF, AK, Bw]
 show OK (repL _ _) _
 rw [rep_one hM]
 refine AM (ls_congr fun k hk => ?_)
 apply Bool.eq_iff_iff.mpr
 rw [List.all_eq_true]
 show _ ↔ (ons lit.length s k).any (fun j => !ev lit.length s (fun i => !f i) j) = true
 rw [List.any_eq_true]
 constructor
 ·intro h
  refine ⟨lit.length - 1, (By hk).mpr (.inl ⟨by omega, by omega⟩), ?_⟩
  rw [Bool.not_eq_true']
  unfold ev
  rw [List.any_eq_false]
  intro i hi h3
  have fi : f i = false := by simpa using h3
  have := h false (mem_cut.mpr ⟨i, by rcases (By (by omega)).mp hi with h | h <;> omega, by rcases (By (by omega)).mp hi with h | h <;> omega, fi⟩)
  cases this
 ·rintro ⟨j, hj, h3⟩ b hb
  have hjM : j < lit.length := by rcases (By hk).mp hj with h | h <;> omega
  cases b with
  | true => rfl
  | false =>
   exfalso
   obtain ⟨i, h1, h2, h4⟩ := mem_cut.mp hb
   rw [Bool.not_eq_true'] at h3
   unfold ev at h3
   rw [List.any_eq_false] at h3
   exact h3 i ((By hjM).mpr (by by_cases hji : j ≤ i; exact .inl ⟨hji, h2⟩; exact .inr ⟨h1, by omega⟩)) (by rw [h4]; rfl)
include hM in
theorem of_and (f g : Nat → Bool) : AO "and" (ls lit.length f) (ls lit.length g) (s : Int) = some (ls lit.length fun k => f k && g k) := by
 refine OK.eq ?_
 unfold AO
 simp only [w_or_and, w_then_and, w_then_or, w_until_and, w_until_or, w_until_then, w_frees_and, w_frees_or, w_frees_then, w_frees_until, decide_true, Bool.or_true, Bool.or_false, Bool.true_or, Bool.or_self, cond_true, cond_false, Option.bind_assoc, AF, AK, Bw]
 refine Ea hM (fun k hk => ?_) rfl
 rw [FC hk, FC hk]
 simp only [AF]
 cases f k <;> rfl
include hM in
theorem of_or (f g : Nat → Bool) : AO "or" (ls lit.length f) (ls lit.length g) (s : Int) = some (ls lit.length fun k => !(!f k && !g k)) := by
 refine OK.eq ?_
 unfold AO
 simp only [w_or_and, w_then_and, w_then_or, w_until_and, w_until_or, w_until_then, w_frees_and, w_frees_or, w_frees_then, w_frees_until, decide_true, Bool.or_true, Bool.or_false, Bool.true_or, Bool.or_self, cond_true, cond_false, Option.bind_assoc, AF, AK, Bw]
 refine Ea hM (fun k hk => ?_) rfl
 rw [FC hk, FC hk]
 simp only [AF]
 cases f k <;> cases g k <;> rfl
include hM in
theorem of_then (f g : Nat → Bool) : AO "then" (ls lit.length f) (ls lit.length g) (s : Int) = some (ls lit.length fun k => !(f k && !g k)) := by
 refine OK.eq ?_
 unfold AO
 simp only [w_or_and, w_then_and, w_then_or, w_until_and, w_until_or, w_until_then, w_frees_and, w_frees_or, w_frees_then, w_frees_until, decide_true, Bool.or_true, Bool.or_false, Bool.true_or, Bool.or_self, cond_true, cond_false, Option.bind_assoc, AF, AK, Bw]
 refine Ea hM (fun k hk => ?_) rfl
 rw [FC hk, FC hk]
 simp only [AF]
 cases f k <;> cases g k <;> rfl
noncomputable def un (M s : Nat) (f g : Nat → Bool) (k : Nat) : Bool := hu f g (ons M s k)
include hs hM in
theorem of_until (f g : Nat → Bool) : AO "until" (ls lit.length f) (ls lit.length g) (s : Int) = some (ls lit.length (un lit.length s f g)) := by
 refine OK.eq ?_
 unfold AO
 simp only [w_or_and, w_then_and, w_then_or, w_until_and, w_until_or, w_until_then, w_frees_and, w_frees_or, w_frees_then, w_frees_until, decide_true, Bool.or_true, Bool.or_false, Bool.true_or, Bool.or_self, cond_true, cond_false, Option.bind_assoc, AF, AK, Bw]
 refine Ea hM (fun k hk => ?_) rfl
 rw [onward_eq hM hk hs]
 simp only [AF]
 exact held_eq f g fun j hj => by rcases (By hk).mp hj with h | h <;> omega
include hs hM in
theorem of_frees (f g : Nat → Bool) : AO "frees" (ls lit.length f) (ls lit.length g) (s : Int) = some (ls lit.length fun k => !un lit.length s (fun i => !f i) (fun i => !g i) k) := by
 refine OK.eq ?_
 unfold AO
 simp only [w_or_and, w_then_and, w_then_or, w_until_and, w_until_or, w_until_then, w_frees_and, w_frees_or, w_frees_then, w_frees_until, decide_true, Bool.or_true, Bool.or_false, Bool.true_or, Bool.or_self, cond_true, cond_false, Option.bind_assoc, AF, AK, Bw]
 refine Ea hM (fun k hk => ?_) rfl
 rw [onward_eq hM hk hs]
 simp only [AF]
 rw [freed_eq f g fun j hj => by rcases (By hk).mp hj with h | h <;> omega]
 unfold un
 rw [hu_not]
theorem un_yes {M s : Nat} (g : Nat → Bool) (k : Nat) : un M s (fun _ => true) g k = ev M s g k := hu_true g _
noncomputable def tv (lit : List Str) (s : Nat) : Fm → Nat → Bool
 | .yes => fun _ => true
 | .lamp c => fun k => inS c (lit.getD k "")
 | .neg a => fun k => !tv lit s a k
 | .next a => nxt lit.length s (tv lit s a)
 | .and a b => fun k => tv lit s a k && tv lit s b k
 | .unt a b => un lit.length s (tv lit s a) (tv lit s b)
theorem FM (a : Fm) : tv lit s a.den = fun k => !tv lit s a k := by
 cases a with
 | neg a => funext k; exact (Bool.not_not _).symm
 | yes => rfl
 | lamp c => rfl
 | next a => rfl
 | and a b => rfl
 | unt a b => rfl
theorem FW {M s : Nat} (g : Nat → Bool) : un M s (fun _ => true) g = ev M s g := funext fun k => un_yes g k
include hs hM in
theorem Sent.tp {S : Nt} {n : Nat} {f : Fm} (h : Sent S n f) : TP lit s n S (tv lit s f) := by
 induction h with
 | yes => exact tr_yes hM
 | no => exact (tr_no hM).to fun _ _ => rfl
 | @lamp c hc => exact tr_lamp _
 | @one w a n f hw ha ih =>
  have ww := wd_one hw
  simp only [W1, List.mem_cons, List.not_mem_nil, or_false] at hw
  rcases hw with rfl | rfl | rfl | rfl | rfl | rfl
  ·rw [pl1_not, FM]
   exact GH ww ih (of_not hM _)
  ·rw [pl1_next]
   exact GH ww ih (of_next hs hM _)
  ·rw [pl1_atlast]
   show TP lit s _ _ (un lit.length s (fun _ => true) (tv lit s f))
   rw [FW]
   exact GH ww ih (of_atlast hs hM _)
  ·rw [pl1_always]
   show TP lit s _ _ (fun k => !un lit.length s (fun _ => true) (tv lit s f.den) k)
   rw [FW, FM]
   exact GH ww ih (of_always hs hM _)
  ·rw [pl1_again]
   show TP lit s _ _ (fun k => !un lit.length s (fun _ => true) (fun j => !un lit.length s (fun _ => true) (tv lit s f) j) k)
   rw [FW, FW]
   exact GH ww ih (of_again hs hM _)
  ·rw [pl1_settles]
   show TP lit s _ _ (un lit.length s (fun _ => true) (fun j => !un lit.length s (fun _ => true) (tv lit s f.den) j))
   rw [FW, FW, FM]
   exact GH ww ih (of_settles hs hM _)
 | @two w a b n m f g hw ha hb ih1 ih2 =>
  have ww := wd_two hw
  simp only [W2, List.mem_cons, List.not_mem_nil, or_false] at hw
  rcases hw with rfl | rfl | rfl | rfl | rfl
  ·rw [pl2_and]
   exact (tr_two ww ih1 ih2 (of_and hM _ _)).up (by omega)
  ·rw [pl2_until]
   exact (tr_two ww ih1 ih2 (of_until hs hM _ _)).up (by omega)
  ·rw [pl2_or]
   show TP lit s _ _ (fun k => !(tv lit s f.den k && tv lit s g.den k))
   rw [FM, FM]
   exact (tr_two ww ih1 ih2 (of_or hM _ _)).up (by omega)
  ·rw [pl2_then]
   show TP lit s _ _ (fun k => !(tv lit s f k && tv lit s g.den k))
   rw [FM]
   exact (tr_two ww ih1 ih2 (of_then hM _ _)).up (by omega)
  ·rw [pl2_frees]
   show TP lit s _ _ (fun k => !un lit.length s (tv lit s f.den) (tv lit s g.den) k)
   rw [FM, FM]
   exact (tr_two ww ih1 ih2 (of_frees hs hM _ _)).up (by omega)
end
section
variable {lit : List Str} {s : Nat} (hs : s < lit.length) (hM : lit.length ≤ 20)
theorem FL (w : Str) (l : List SI) : atI (SI.s w :: l) (0 : Int) = some (SI.s w) := BX (j := 0) rfl
theorem at_s1 (a b : SI) (l : List SI) : atI (a :: b :: l) (1 : Int) = some b := BX (j := 1) rfl
theorem at_s2 (a b c : SI) (l : List SI) : atI (a :: b :: c :: l) (2 : Int) = some c := BX (j := 2) rfl
theorem dw : ((("lamp" : Str) ≠ "yes" ∧ ("not" : Str) ≠ "yes" ∧ ("not" : Str) ≠ "and" ∧ ("not" : Str) ≠ "until") ∧ (("next" : Str) ≠ "yes" ∧ ("next" : Str) ≠ "and" ∧ ("next" : Str) ≠ "until")) ∧ ("and" : Str) ≠ "yes" ∧ ("until" : Str) ≠ "yes" ∧ ("until" : Str) ≠ "and" := by decide +kernel
theorem told_w {w : Str} {l : List SI} {B : List (List Bool)} (h1 : w ≠ "yes") (h2 : w ≠ "lamp") : B5 ⟨.s w :: l⟩ B lit (s : Int) =
  cond (cond (decide (w = "and")) true (decide (w = "until"))) ((atI (SI.s w :: l) 1).bind fun x => (asI x).bind fun i => (atI B i).bind fun a => (atI (SI.s w :: l) 2).bind fun y => (asI y).bind fun j => (atI B j).bind fun b => AO w a b (s : Int))
   ((atI (SI.s w :: l) 1).bind fun x => (asI x).bind fun i => (atI B i).bind fun a => AH w a (s : Int)) := by
 unfold B5
 simp only [Option.bind_assoc, AF, AK, Rk.tp, FL, asS, decide_eq_false h1, decide_eq_false h2, cond_false]
 cases decide (w = "and") <;> rfl
theorem told_y {B : List (List Bool)} {T : Nat} (hT : T = 110) : B5 ⟨[.s "yes"]⟩ B lit (s : Int) = B7 T (.tup [.txt "yes"]) lit (s : Int) := by
 unfold B5
 rw [← hT]
 simp only [Option.bind_assoc, AF, AK, Rk.tp, Rk.nt, siN, List.map_cons, List.map_nil, FL, asS, decide_true, cond_true]
theorem told_l {B : List (List Bool)} {T : Nat} (hT : T = 110) (c : Str) : B5 ⟨[.s "lamp", .s c]⟩ B lit (s : Int) = B7 T (.tup [.txt "lamp", .txt c]) lit (s : Int) := by
 unfold B5
 rw [← hT]
 simp only [Option.bind_assoc, AF, AK, Rk.tp, Rk.nt, siN, List.map_cons, List.map_nil, FL, asS, decide_eq_false dw.1.1.1, decide_true, cond_true, cond_false]
include hs hM in
theorem row_told {fs : List Fm} {k : Nat} {r : Tp SI} {f : Fm} (h : R1 fs k r f) {B : List (List Bool)} (hB : ∀ (j : Nat) (a : Fm), j < k → fs[j]? = some a → atI B (j : Int) = some (ls lit.length (tv lit s a))) :
  B5 (Rk.of r) B lit (s : Int) = some (ls lit.length (tv lit s f)) := by
 obtain ⟨⟨⟨a2, b1, b3, b4⟩, c1, c3, c4⟩, d1, e1, e3⟩ := dw
 obtain ⟨⟨g1, b2, c2⟩, d2, e2⟩ := nl
 cases f with
 | yes =>
  cases (show r = _ from h)
  obtain ⟨T, hT⟩ : ∃ T : Nat, T = 110 := ⟨_, rfl⟩
  exact (told_y hT).trans (tr_yes hM T (by omega))
 | lamp c =>
  cases (show r = _ from h)
  obtain ⟨T, hT⟩ : ∃ T : Nat, T = 110 := ⟨_, rfl⟩
  exact (told_l hT c).trans (tr_lamp c T (by omega))
 | neg a =>
  obtain ⟨j, hj, hja, rfl⟩ := h
  rw [show Rk.of ⟨[.s "not", .i (j : Int)]⟩ = ⟨[.s "not", .i (j : Int)]⟩ from rfl, told_w b1 b2, decide_eq_false b3, decide_eq_false b4, cond_false, cond_false, at_s1, AF, show asI (SI.i (j : Int)) = some (j : Int) from rfl, AF, hB j a hj hja, AF]
  exact of_not hM (tv lit s a)
 | next a =>
  obtain ⟨j, hj, hja, rfl⟩ := h
  rw [show Rk.of ⟨[.s "next", .i (j : Int)]⟩ = ⟨[.s "next", .i (j : Int)]⟩ from rfl, told_w c1 c2, decide_eq_false c3, decide_eq_false c4, cond_false, cond_false, at_s1, AF, show asI (SI.i (j : Int)) = some (j : Int) from rfl, AF, hB j a hj hja, AF]
  exact of_next hs hM (tv lit s a)
 | and a b =>
  obtain ⟨j, j', hj, hj', hja, hjb, rfl⟩ := h
  rw [show Rk.of ⟨[.s "and", .i (j : Int), .i (j' : Int)]⟩ = ⟨[.s "and", .i (j : Int), .i (j' : Int)]⟩ from rfl, told_w d1 d2, decide_eq_true rfl, cond_true, cond_true, at_s1, AF, show asI (SI.i (j : Int)) = some (j : Int) from rfl, AF, hB j a hj hja, AF, at_s2, AF, show asI (SI.i (j' : Int)) = some (j' : Int) from rfl, AF, hB j' b hj' hjb, AF]
  exact of_and hM (tv lit s a) (tv lit s b)
 | unt a b =>
  obtain ⟨j, j', hj, hj', hja, hjb, rfl⟩ := h
  rw [show Rk.of ⟨[.s "until", .i (j : Int), .i (j' : Int)]⟩ = ⟨[.s "until", .i (j : Int), .i (j' : Int)]⟩ from rfl, told_w e1 e2, decide_eq_false e3, cond_false, decide_eq_true rfl, cond_true, at_s1, AF, show asI (SI.i (j : Int)) = some (j : Int) from rfl, AF, hB j a hj hja, AF, at_s2, AF, show asI (SI.i (j' : Int)) = some (j' : Int) from rfl, AF, hB j' b hj' hjb, AF]
  exact of_until hs hM (tv lit s a) (tv lit s b)
end
theorem mem6 {w : Str} (h : w = "yes" ∨ w = "lamp" ∨ w = "not" ∨ w = "and" ∨ w = "next" ∨ w = "until") : w ∈ (["yes", "lamp", "not", "and", "next", "until"] : List Str) := by
 simp only [List.mem_cons, List.not_mem_nil, or_false]
 exact h
theorem kint (n : Int) : isK "int" (ToD.to (SI.i n)) = true := id rfl
theorem row_fits {fs : List Fm} {k : Nat} {r : Tp SI} {f : Fm} (h : R1 fs k r f) : CG (Rk.of r) (k : Int) = some true := by
 obtain ⟨⟨⟨a2, b1, b3, b4⟩, c1, c3, c4⟩, d1, e1, e3⟩ := dw
 obtain ⟨⟨g1, b2, c2⟩, d2, e2⟩ := nl
 have m1 := mem6 (w := "yes") (.inl rfl)
 have m2 := mem6 (w := "lamp") (.inr (.inl rfl))
 have m3 := mem6 (w := "not") (.inr (.inr (.inl rfl)))
 have m5 := mem6 (w := "and") (.inr (.inr (.inr (.inl rfl))))
 have m4 := mem6 (w := "next") (.inr (.inr (.inr (.inr (.inl rfl)))))
 have m6 := mem6 (w := "until") (.inr (.inr (.inr (.inr (.inr rfl)))))
 have inr : ∀ {j : Nat}, j < k → cond (decide ((0 : Int) ≤ (j : Int))) (some (decide ((j : Int) < (k : Int)))) (some false) = some true := fun hj => by
  rw [decide_eq_true (by omega), cond_true, decide_eq_true (by omega)]
 have t0 : (!true) = false := rfl
 refine OK.eq ?_
 unfold CG
 simp only [Option.bind_assoc, AF, AK, t0, cond_false]
 cases f with
 | yes =>
  cases (show r = _ from h)
  simp only [Rk.of, Rk.tp, FL, AF, asS, decide_eq_true m1, decide_eq_false g1, t0, decide_true, cond_true, cond_false]
  exact ⟨_, rfl, rfl⟩
 | lamp c =>
  cases (show r = _ from h)
  simp only [Rk.of, Rk.tp, FL, AF, asS, decide_eq_true m2, decide_eq_false a2, t0, decide_true, cond_true, cond_false]
  exact ⟨_, rfl, rfl⟩
 | neg a =>
  obtain ⟨j, hj, hja, rfl⟩ := h
  simp only [Rk.of, Rk.tp, FL, AF, asS, asI, decide_eq_true m3, decide_eq_false b1, decide_eq_false b2, decide_eq_false b3, decide_eq_false b4, t0, cond_false, FY, Cd, kint, decide_true, cond_true, inr hj]
  exact ⟨_, rfl, rfl⟩
 | next a =>
  obtain ⟨j, hj, hja, rfl⟩ := h
  simp only [Rk.of, Rk.tp, FL, AF, asS, asI, decide_eq_true m4, decide_eq_false c1, decide_eq_false c2, decide_eq_false c3, decide_eq_false c4, t0, cond_false, FY, Cd, kint, decide_true, cond_true, inr hj]
  exact ⟨_, rfl, rfl⟩
 | and a b =>
  obtain ⟨j, j', hj, hj', hja, hjb, rfl⟩ := h
  simp only [Rk.of, Rk.tp, FL, AF, asS, asI, decide_eq_true m5, decide_eq_false d1, decide_eq_false d2, t0, cond_false, FY, Cd, kint, decide_true, cond_true, inr hj, inr hj']
  exact ⟨_, rfl, rfl⟩
 | unt a b =>
  obtain ⟨j, j', hj, hj', hja, hjb, rfl⟩ := h
  simp only [Rk.of, Rk.tp, FL, AF, asS, asI, decide_eq_true m6, decide_eq_false e1, decide_eq_false e2, decide_eq_false e3, t0, cond_false, FY, Cd, kint, decide_true, cond_true, inr hj, inr hj']
  exact ⟨_, rfl, rfl⟩
theorem rng_at {n i : Nat} {a : Int} (h : ((List.range n).map fun (i : Nat) => (0 : Int) + (i : Int))[i]? = some a) : i < n ∧ a = (i : Int) := by
 have hi : i < n := by simpa using (List.getElem?_eq_some_iff.mp h).1
 refine ⟨hi, ?_⟩
 simp [hi] at h
 omega
theorem rng_len (n : Nat) : ((List.range n).map fun (i : Nat) => (0 : Int) + (i : Int)).length = n := by rw [List.length_map, List.length_range]
inductive Sn : Nt → Nat → List Nat → Prop where
 | leaf {w : Str} : w ≠ "lamp" → Sn (.tup [.txt w]) 1 []
 | lamp {c : Nat} : c ∈ abcN → Sn (Ek c) 1 [c]
 | one {w : Str} {a : Nt} {n : Nat} {ls : List Nat} : w ≠ "lamp" → Sn a n ls → Sn (.tup [.txt w, a]) (n + 1) ls
 | two {w : Str} {a b : Nt} {n m : Nat} {ls ms : List Nat} : w ≠ "lamp" → Sn a n ls → Sn b m ms → Sn (.tup [.txt w, a, b]) (n + m + 1) (ls ++ ms)
theorem Sn.pos {a : Nt} {n : Nat} {ls : List Nat} (h : Sn a n ls) : 1 ≤ n := by cases h <;> omega
theorem Sn.sub {a : Nt} {n : Nat} {ls : List Nat} (h : Sn a n ls) : ∀ c ∈ ls, c ∈ abcN := by
 induction h with
 | leaf _ => intro c hc; cases hc
 | lamp hc => intro c h; rw [List.mem_singleton.mp h]; exact hc
 | one _ _ ih => exact ih
 | two _ _ _ ih1 ih2 => intro c hc; exact (List.mem_append.mp hc).elim (ih1 c) (ih2 c)
inductive Sns : List Nt → Nat → List Nat → Prop where
 | nil : Sns [] 0 []
 | cons {a : Nt} {l : List Nt} {n m : Nat} {ls ms : List Nat} : Sn a n ls → Sns l m ms → Sns (a :: l) (n + m) (ls ++ ms)
theorem Sns.len {l : List Nt} {n : Nat} {ls : List Nat} (h : Sns l n ls) : l.length ≤ n := by
 induction h with
 | nil => exact Nat.le_refl _
 | cons h _ ih => have := h.pos; rw [List.length_cons]; omega
theorem Sns.app {l1 l2 : List Nt} {n1 n2 : Nat} {ls1 ls2 : List Nat} (h1 : Sns l1 n1 ls1) (h2 : Sns l2 n2 ls2) : ∃ ls, Sns (l1 ++ l2) (n1 + n2) ls ∧ ∀ c, c ∈ ls ↔ c ∈ ls1 ∨ c ∈ ls2 := by
 induction h1 with
 | nil => exact ⟨ls2, by rw [Nat.zero_add]; exact h2, fun c => by simp⟩
 | @cons a l n m ls ms h _ ih =>
  obtain ⟨ls', q, e⟩ := ih
  refine ⟨ls ++ ls', by rw [Nat.add_assoc]; exact .cons h q, fun c => ?_⟩
  rw [List.mem_append, e c, List.mem_append, or_assoc]
theorem Sns.one {a : Nt} {n : Nat} {ls : List Nat} (h : Sn a n ls) : Sns [a] n ls := by
 have := Sns.cons h .nil
 rwa [List.append_nil, Nat.add_zero] at this
theorem at_n1 (x y : Nt) (l : List Nt) : atI (x :: y :: l) (1 : Int) = some y := BX (j := 1) rfl
theorem Sn.parts {a : Nt} {n : Nat} {ls : List Nat} (h : Sn a n ls) : ∃ w l, a = .tup (.txt w :: l) ∧ ((∃ c, w = "lamp" ∧ a = Ek c ∧ n = 1 ∧ ls = [c] ∧ c ∈ abcN) ∨ (w ≠ "lamp" ∧ ∃ m ms, n = m + 1 ∧ Sns l m ms ∧ ∀ c, c ∈ ls ↔ c ∈ ms)) := by
 cases h with
 | leaf hw => exact ⟨_, _, rfl, .inr ⟨hw, 0, [], rfl, .nil, fun c => Iff.rfl⟩⟩
 | @lamp c hc => exact ⟨_, _, rfl, .inl ⟨c, rfl, rfl, rfl, rfl, hc⟩⟩
 | @one w a n ls hw ha => exact ⟨_, _, rfl, .inr ⟨hw, n, ls, rfl, Sns.one ha, fun c => Iff.rfl⟩⟩
 | @two w a b n m ls ms hw ha hb =>
  obtain ⟨q, h1, h2⟩ := (Sns.one ha).app (Sns.one hb)
  exact ⟨_, _, rfl, .inr ⟨hw, n + m, q, rfl, h1, fun c => by rw [h2 c, List.mem_append]⟩⟩
theorem within_ok {a : Nt} {n : Nat} {ls : List Nat} (h : Sn a n ls) (hn : n ≤ 1000) {P : List Nt → Prop} (hp : ∀ f : List Nt, f.length = n → (∀ x ∈ f, ∃ m ms, Sn x m ms) → (∀ c, c ∈ ls ↔ Ek c ∈ f) → P f) : OK (Cu a) P := by
 have hs : sizeLine = 16777216 := sizeLine_eq
 unfold Cu
 simp only [Option.bind_assoc, AF, AK]
 refine AW (ok_while (fun s : List Nt × Int => ∃ done todo N L, s.1 = done ++ todo ∧ s.2 = ((done.length : Nat) : Int) ∧ Sns todo N L ∧ done.length + N = n ∧ (∀ x ∈ s.1, ∃ m ms, Sn x m ms) ∧ ∀ c, c ∈ ls ↔ Ek c ∈ done ∨ c ∈ L) (fun _ => False) (fun _ => False) (fun s => n - s.2.toNat) ⟨[], [a], n, ls, rfl, rfl, Sns.one h, by simp, fun x hx => by rw [List.mem_singleton.mp hx]; exact ⟨n, ls, h⟩, fun c => by simp⟩ (by dsimp only; omega) (fun s ⟨done, todo, N, L, e1, e2, e3, e4, e5, e6⟩ => ?_) (fun _ h => h.elim) fun _ h => h.elim)
 have hl := e3.len
 refine AM ?_
 have e7 : (s.1.length : Int) = ((done.length + todo.length : Nat) : Int) := by rw [e1, List.length_append]
 cases e3 with
 | nil =>
  rw [decide_eq_false (by rw [e2, e7]; simp), if_neg Bool.false_ne_true]
  refine AM (hp _ ?_ e5 fun c => ?_)
  ·rw [e1, List.append_nil]; omega
  ·rw [e6 c, e1]; simp
 | @cons x todo n1 m1 ls1 ms1 hx ht =>
  rw [decide_eq_true (by rw [e2, e7, List.length_cons]; omega), if_pos rfl]
  have ex : atI s.1 s.2 = some x := by
   rw [e2]
   refine BX ?_
   rw [e1, List.getElem?_append_right (Nat.le_refl _), Nat.sub_self]
   rfl
  rw [ex]
  simp only [AF]
  have hlt := ht.len
  have h1 := hx.pos
  rw [List.length_cons] at hl e7
  obtain ⟨w, l, el, hcase⟩ := hx.parts
  rcases hcase with ⟨c, hw, ec, en, els, hc⟩ | ⟨hw, m, ms, en, hps, hmem⟩
  ·rw [ec, show AZ (Ek c) = some ⟨[]⟩ from parts_lamp _]
   simp only [AF]
   have : extO s.1 ([] : List Nt) = some (s.1 ++ []) := if_pos (by rw [List.length_nil]; omega)
   rw [this]
   simp only [AF]
   refine AM ⟨⟨done ++ [x], todo, m1, ms1, ?_, ?_, ht, ?_, ?_, fun c' => ?_⟩, ?_⟩
   ·dsimp only; rw [List.append_nil, e1, List.append_assoc]; rfl
   ·dsimp only; rw [e2, List.length_append]; rfl
   ·rw [List.length_append, List.length_singleton]; omega
   ·dsimp only; rw [List.append_nil]; exact e5
   ·rw [e6 c', els, List.mem_append, List.mem_append, List.mem_singleton, List.mem_singleton, ec, or_assoc]
    refine or_congr_right (or_congr_left ⟨fun e => by rw [e], fun e => ?_⟩)
    unfold Ek at e
    simp only [Nt.tup.injEq, List.cons.injEq, Nt.txt.injEq, and_true, true_and] at e
    exact one_inj e
   ·dsimp only; rw [e2]; omega
  ·rw [el, parts_other hw]
   simp only [AF]
   have hpl := hps.len
   have : extO s.1 l = some (s.1 ++ l) := if_pos (by omega)
   rw [this]
   simp only [AF]
   obtain ⟨q, g1, g2⟩ := ht.app hps
   refine AM ⟨⟨done ++ [x], todo ++ l, m1 + m, q, ?_, ?_, g1, ?_, fun y hy => ?_, fun c' => ?_⟩, ?_⟩
   ·dsimp only; rw [e1, List.append_assoc, List.append_assoc]; rfl
   ·dsimp only; rw [e2, List.length_append]; rfl
   ·rw [List.length_append, List.length_singleton]; omega
   ·rcases List.mem_append.mp hy with hy | hy
    ·exact e5 y hy
    ·have : ∀ {l : List Nt} {n : Nat} {ls : List Nat}, Sns l n ls → ∀ y ∈ l, ∃ m ms, Sn y m ms := by
      intro l n ls h
      induction h with
      | nil => intro y hy; cases hy
      | cons h _ ih =>
       intro y hy
       rcases List.mem_cons.mp hy with rfl | hy
       ·exact ⟨_, _, h⟩
       ·exact ih y hy
     exact this hps y hy
   ·rw [e6 c', g2 c', List.mem_append, List.mem_append, List.mem_singleton, hmem c', or_assoc]
    have : ¬ Ek c' = x := fun e => by
     rw [el] at e
     unfold Ek at e
     simp only [Nt.tup.injEq, List.cons.injEq, Nt.txt.injEq] at e
     exact hw e.1.symm
    constructor
    ·rintro (h | h | h)
     ·exact .inl h
     ·exact .inr (.inr (.inr h))
     ·exact .inr (.inr (.inl h))
    ·rintro (h | h | h | h)
     ·exact .inl h
     ·exact absurd h this
     ·exact .inr (.inr h)
     ·exact .inr (.inl h)
   ·dsimp only; rw [e2]; omega
noncomputable def lt (ls : List Nat) : Str := Txt.join "" ((abcN.filter fun c => decide (c ∈ ls)).map one)
noncomputable def isLamp (x : Nt) : Bool := match x with
 | .tup (.txt w :: _) => decide (w = "lamp")
 | _ => false
noncomputable def letOf (x : Nt) : Str := match x with
 | .tup [_, .txt y] => y
 | _ => ""
theorem lamps_eq {a : Nt} {n : Nat} {ls : List Nat} (h : Sn a n ls) (hn : n ≤ 1000) : Ck a = some (lt ls) := by
 refine OK.eq ?_
 unfold Ck
 simp only [Option.bind_assoc, AF, AK]
 have shape : ∀ {f : List Nt}, (∀ x ∈ f, ∃ m ms, Sn x m ms) → ∀ x ∈ f, (∃ c, x = Ek c ∧ c ∈ abcN) ∨ ∃ (w : Str) (l : List Nt), w ≠ "lamp" ∧ x = .tup (.txt w :: l) := fun h2 x hx => by
  obtain ⟨m, ms, hs⟩ := h2 x hx
  obtain ⟨w, l, el, h | h⟩ := hs.parts
  ·obtain ⟨c, _, ec, _, _, hc⟩ := h
   exact .inl ⟨c, ec, hc⟩
  ·exact .inr ⟨w, l, h.1, el⟩
 refine AW (within_ok h hn fun f h1 h2 h3 => AW (ok_comp (c := isLamp) (g := letOf) (fun x hx => ?_) (fun x hx hc => ?_) ?_))
 ·rcases shape h2 x hx with ⟨c, rfl, _⟩ | ⟨w, l, hw, rfl⟩
  ·unfold Ek
   simp only [BF, at_n0, Bz, AF]
   rfl
  ·simp only [BF, at_n0, Bz, AF]
   rfl
 ·rcases shape h2 x hx with ⟨c, rfl, _⟩ | ⟨w, l, hw, rfl⟩
  ·unfold Ek
   simp only [BF, at_n1, Bz, AF]
   rfl
  ·exact absurd (of_decide_eq_true hc) hw
 ·have pw : (abcN.filter fun c => decide (c ∈ ls)).Pairwise (· < ·) := abc_pw.sublist List.filter_sublist
  obtain ⟨e1, e2⟩ := sort_ded (ys := (f.filter isLamp).map letOf) pw fun y => by
   rw [List.mem_map]
   constructor
   ·rintro ⟨x, hx, rfl⟩
    obtain ⟨hx1, hx2⟩ := List.mem_filter.mp hx
    rcases shape h2 x hx1 with ⟨c, rfl, hc⟩ | ⟨w, l, hw, rfl⟩
    ·exact ⟨c, List.mem_filter.mpr ⟨hc, decide_eq_true ((h3 c).mpr hx1)⟩, rfl⟩
    ·exact absurd (of_decide_eq_true hx2) hw
   ·rintro ⟨c, hc, rfl⟩
    obtain ⟨_, hc2⟩ := List.mem_filter.mp hc
    exact ⟨Ek c, List.mem_filter.mpr ⟨(h3 c).mp (of_decide_eq_true hc2), (decide_eq_true rfl : decide (("lamp" : Str) = "lamp") = true)⟩, rfl⟩
  have l1 : (abcN.filter fun c => decide (c ∈ ls)).length ≤ 26 := List.length_filter_le _ abcN
  have l2 : ((f.filter isLamp).map letOf).length ≤ f.length := by rw [List.length_map]; exact List.length_filter_le _ _
  have e3 : EN ((f.filter isLamp).map letOf) = some ((abcN.filter fun c => decide (c ∈ ls)).map one) := by
   unfold EN
   rw [if_pos ⟨by omega, by omega⟩, e1]
  exact Fd _ e3 (⟨_, join_mom _ (by omega), rfl⟩)
theorem rows_told_ok {lit : List Str} {s : Nat} (hs : s < lit.length) (hM : lit.length ≤ 20) {L : List (Tp SI)} {fs : List Fm} (hb : Bk L fs) (hl : L.length ≤ 5000) :
  Be (L.map Rk.of) lit (s : Int) = some (some (fs.map fun f => ls lit.length (tv lit s f))) := by
 have hz : sizeLine = 16777216 := sizeLine_eq
 have hbl := hb.1
 refine OK.eq ?_
 unfold Be
 simp only [Option.bind_assoc, AF, AK, List.length_map]
 refine AW (Fg (n := L.length) (by omega) (by omega) (by omega) ?_)
 refine AW (Ep (fun i (t : List (List Bool)) => t = (fs.take i).map fun f => ls lit.length (tv lit s f)) (by simp) (fun i a t ha hI => ?_) fun t hI => ?_)
 ·obtain ⟨hi, rfl⟩ := rng_at ha
  subst hI
  have hif : i < fs.length := by omega
  have hf : fs[i]? = some fs[i] := List.getElem?_eq_getElem hif
  obtain ⟨r, hr, h1⟩ := hb.at hf
  have hat : atI (L.map Rk.of) (i : Int) = some (Rk.of r) := BX (by rw [List.getElem?_map, hr]; rfl)
  rw [hat, AF, row_fits h1, AF]
  refine BA (fun h => nomatch h) fun _ => ?_
  rw [AF, row_told hs hM h1 fun j a hj hja => BX (by rw [List.getElem?_map, List.getElem?_take_of_lt hj, hja]; rfl), AF]
  refine AW (E4 (by rw [List.length_map, List.length_take]; omega) (AM ⟨_, rfl, ?_⟩))
  rw [List.take_succ, hf, List.map_append]
  rfl
 ·refine AM ?_
  rw [hI, rng_len, hbl, List.take_length]
theorem books_all : ∀ (gs : List Fm) (L : List (Tp SI)) (fs : List Fm), (∀ g ∈ gs, g.dep ≤ 160 ∧ g.size ≤ 1000) → Bk L fs → Dif fs → L.length + 1000 * gs.length < 100000 →
  ∃ (L' : List (Tp SI)) (fs' : List Fm) (ks : List Nat), FH (EM AZ 160) (gs.map Fm.nt) L = some (L ++ L', ks.map fun (k : Nat) => (k : Int)) ∧ Bk (L ++ L') (fs ++ fs') ∧ Dif (fs ++ fs') ∧ ks.length = gs.length ∧
   (∀ (i : Nat) (g : Fm), gs[i]? = some g → ∃ k, ks[i]? = some k ∧ (fs ++ fs')[k]? = some g) ∧ (∀ h ∈ fs', ∃ g ∈ gs, h ∈ g.sub) ∧ L'.length ≤ 1000 * gs.length
 | [], L, fs, _, hb, hd, _ => ⟨[], [], [], by rw [List.append_nil]; rfl, by simpa using hb, by simpa using hd, rfl, (fun i g h => by simp at h), (fun h hh => by cases hh), Nat.zero_le _⟩
 | g :: gs, L, fs, hg, hb, hd, hl => by
  rw [List.length_cons] at hl
  have hg0 := hg g List.mem_cons_self
  obtain ⟨L1, fs1, k, h1, h2, h3, h4, h5, h6, h7, h8⟩ := lay_all 160 g L fs hg0.1 hb hd (by omega)
  obtain ⟨L2, fs2, ks, i1, i2, i3, i4, i5, i6, i7⟩ := books_all gs (L ++ L1) (fs ++ fs1) (fun x hx => hg x (List.mem_cons_of_mem _ hx)) h2 h3 (by rw [List.length_append]; omega)
  rw [List.append_assoc] at i1 i2 i3 i5
  rw [List.append_assoc] at i2
  refine ⟨L1 ++ L2, fs1 ++ fs2, k :: ks, ?_, i2, i3, by rw [List.length_cons, List.length_cons, i4], fun i x hx => ?_, fun h hh => ?_, by rw [List.length_append, List.length_cons]; omega⟩
  ·show ((EM AZ 160 L g.nt).bind fun z => (FH _ _ z.1).bind fun y => some (y.1, z.2 :: y.2)) = _
   rw [h1, AF]
   dsimp only
   rw [i1, AF]
   rfl
  ·cases i with
   | zero =>
    cases hx
    exact ⟨k, rfl, by rw [← List.append_assoc]; exact Dm h4⟩
   | succ i =>
    obtain ⟨k', e1, e2⟩ := i5 i x hx
    exact ⟨k', e1, e2⟩
  ·rcases List.mem_append.mp hh with hh | hh
   ·exact ⟨g, List.mem_cons_self, h5 h hh⟩
   ·obtain ⟨x, hx, hs⟩ := i6 h hh
    exact ⟨x, List.mem_cons_of_mem _ hx, hs⟩
theorem nt_inj : ∀ {a b : Fm}, a.nt = b.nt → a = b := by
 have w1' := w1
 have w2' := w2
 intro a
 induction a with
 | yes =>
  intro b e
  cases b with
  | yes => rfl
  | lamp c => have e := (List.cons.inj (Nt.tup.inj e)).2; cases e
  | neg c => have e := (List.cons.inj (Nt.tup.inj e)).2; cases e
  | next c => have e := (List.cons.inj (Nt.tup.inj e)).2; cases e
  | and c d => have e := (List.cons.inj (Nt.tup.inj e)).2; cases e
  | unt c d => have e := (List.cons.inj (Nt.tup.inj e)).2; cases e
 | lamp x =>
  intro b e
  cases b with
  | yes => have e0 := Nt.tup.inj e; have e := (List.cons.inj e0).2; cases e
  | lamp c => have e0 := Nt.tup.inj e; have e := (List.cons.inj (List.cons.inj e0).2).1; cases e; rfl
  | neg c => have e0 := Nt.tup.inj e; exact absurd (Nt.txt.inj (List.cons.inj e0).1).symm nl.1.2.1
  | next c => have e0 := Nt.tup.inj e; exact absurd (Nt.txt.inj (List.cons.inj e0).1).symm nl.1.2.2
  | and c d => have e0 := Nt.tup.inj e; exact absurd (Nt.txt.inj (List.cons.inj e0).1).symm nl.2.1
  | unt c d => have e0 := Nt.tup.inj e; exact absurd (Nt.txt.inj (List.cons.inj e0).1).symm nl.2.2
 | neg a ih =>
  intro b e
  cases b with
  | yes => have e0 := Nt.tup.inj e; have e := (List.cons.inj e0).2; cases e
  | lamp c => have e0 := Nt.tup.inj e; exact absurd (Nt.txt.inj (List.cons.inj e0).1) nl.1.2.1
  | neg c => have e0 := Nt.tup.inj e; rw [ih (List.cons.inj (List.cons.inj e0).2).1]
  | next c => have e0 := Nt.tup.inj e; exact absurd (Nt.txt.inj (List.cons.inj e0).1) w1
  | and c d => have e0 := Nt.tup.inj e; have e := (List.cons.inj (List.cons.inj e0).2).2; cases e
  | unt c d => have e0 := Nt.tup.inj e; have e := (List.cons.inj (List.cons.inj e0).2).2; cases e
 | next a ih =>
  intro b e
  cases b with
  | yes => have e0 := Nt.tup.inj e; have e := (List.cons.inj e0).2; cases e
  | lamp c => have e0 := Nt.tup.inj e; exact absurd (Nt.txt.inj (List.cons.inj e0).1) nl.1.2.2
  | neg c => have e0 := Nt.tup.inj e; exact absurd (Nt.txt.inj (List.cons.inj e0).1).symm w1
  | next c => have e0 := Nt.tup.inj e; rw [ih (List.cons.inj (List.cons.inj e0).2).1]
  | and c d => have e0 := Nt.tup.inj e; have e := (List.cons.inj (List.cons.inj e0).2).2; cases e
  | unt c d => have e0 := Nt.tup.inj e; have e := (List.cons.inj (List.cons.inj e0).2).2; cases e
 | and a b ih1 ih2 =>
  intro b e
  cases b with
  | yes => have e0 := Nt.tup.inj e; have e := (List.cons.inj e0).2; cases e
  | lamp c => have e0 := Nt.tup.inj e; have e := (List.cons.inj (List.cons.inj e0).2).2; cases e
  | neg c => have e0 := Nt.tup.inj e; have e := (List.cons.inj (List.cons.inj e0).2).2; cases e
  | next c => have e0 := Nt.tup.inj e; have e := (List.cons.inj (List.cons.inj e0).2).2; cases e
  | and c d => have e0 := Nt.tup.inj e; rw [ih1 (List.cons.inj (List.cons.inj e0).2).1, ih2 (List.cons.inj (List.cons.inj (List.cons.inj e0).2).2).1]
  | unt c d => have e0 := Nt.tup.inj e; exact absurd (Nt.txt.inj (List.cons.inj e0).1) w2
 | unt a b ih1 ih2 =>
  intro b e
  cases b with
  | yes => have e0 := Nt.tup.inj e; have e := (List.cons.inj e0).2; cases e
  | lamp c => have e0 := Nt.tup.inj e; have e := (List.cons.inj (List.cons.inj e0).2).2; cases e
  | neg c => have e0 := Nt.tup.inj e; have e := (List.cons.inj (List.cons.inj e0).2).2; cases e
  | next c => have e0 := Nt.tup.inj e; have e := (List.cons.inj (List.cons.inj e0).2).2; cases e
  | and c d => have e0 := Nt.tup.inj e; exact absurd (Nt.txt.inj (List.cons.inj e0).1).symm w2
  | unt c d => have e0 := Nt.tup.inj e; rw [ih1 (List.cons.inj (List.cons.inj e0).2).1, ih2 (List.cons.inj (List.cons.inj (List.cons.inj e0).2).2).1]
theorem den_lamp (a : Fm) (x : Str) : Fm.lamp x ∈ a.den.sub ↔ Fm.lamp x ∈ a.sub := by
 cases a <;> simp [Fm.den, Fm.sub]
theorem pl1_lamp (w : Str) (f : Fm) (x : Str) : Fm.lamp x ∈ (pl1 w f).sub ↔ Fm.lamp x ∈ f.sub := by
 have h := den_lamp f x
 unfold pl1
 repeat' split
 all_goals simp [Fm.sub, h]
theorem pl2_lamp (w : Str) (f g : Fm) (x : Str) : Fm.lamp x ∈ (pl2 w f g).sub ↔ Fm.lamp x ∈ f.sub ∨ Fm.lamp x ∈ g.sub := by
 have h := den_lamp f x
 have h' := den_lamp g x
 unfold pl2
 repeat' split
 all_goals simp [Fm.sub, h, h']
theorem Sent.sn {S : Nt} {n : Nat} {f : Fm} (h : Sent S n f) : ∃ cs, Sn S n cs ∧ ∀ x : Str, Fm.lamp x ∈ f.sub ↔ ∃ c ∈ cs, x = My.one c := by
 induction h with
 | yes => exact ⟨[], .leaf nl.1.1, fun x => by simp [Fm.sub]⟩
 | no => exact ⟨[], .leaf (by decide +kernel), fun x => by simp [Fm.sub]⟩
 | @lamp c hc => exact ⟨[c], .lamp hc, fun x => by simp [Fm.sub]⟩
 | @one w a n f hw ha ih =>
  obtain ⟨cs, h1, h2⟩ := ih
  exact ⟨cs, .one (wd_one hw).lamp h1, fun x => by rw [pl1_lamp]; exact h2 x⟩
 | @two w a b n m f g hw ha hb ih1 ih2 =>
  obtain ⟨cs, h1, h2⟩ := ih1
  obtain ⟨ds, h3, h4⟩ := ih2
  refine ⟨cs ++ ds, .two (wd_two hw).lamp h1 h3, fun x => ?_⟩
  rw [pl2_lamp, h2, h4]
  constructor
  ·rintro (⟨c, hc, e⟩ | ⟨c, hc, e⟩)
   ·exact ⟨c, List.mem_append_left _ hc, e⟩
   ·exact ⟨c, List.mem_append_right _ hc, e⟩
  ·rintro ⟨c, hc, e⟩
   rcases List.mem_append.mp hc with hc | hc
   ·exact .inl ⟨c, hc, e⟩
   ·exact .inr ⟨c, hc, e⟩
noncomputable def lampR (r : Rk) : Bool := match r.l with
 | .s w :: _ => decide (w = "lamp")
 | _ => false
noncomputable def letR (r : Rk) : Str := match r.l with
 | [_, .s y] => y
 | _ => ""
theorem lamps_in_ok {L : List (Tp SI)} {fs : List Fm} (hb : Bk L fs) (hl : L.length ≤ 3900) {cs : List Nat} (hcs : cs.Pairwise (· < ·)) (hc26 : cs.length ≤ 26) (hm : ∀ x : Str, Fm.lamp x ∈ fs ↔ ∃ c ∈ cs, x = one c) :
  DF (L.map Rk.of) = some (Txt.join "" (cs.map one)) := by
 refine OK.eq ?_
 unfold DF
 simp only [Option.bind_assoc, AF, AK]
 have shape : ∀ x ∈ L.map Rk.of, ∃ f ∈ fs, (∃ c, f = .lamp c ∧ x = ⟨[.s "lamp", .s c]⟩) ∨ ((∀ c, f ≠ .lamp c) ∧ ∃ (w : Str) (l : List SI), w ≠ "lamp" ∧ x = ⟨.s w :: l⟩) := fun x hx => by
  obtain ⟨r, hr, rfl⟩ := List.mem_map.mp hx
  obtain ⟨k, hk⟩ := List.getElem?_of_mem hr
  obtain ⟨f, hf, h⟩ := hb.at' hk
  refine ⟨f, List.mem_of_getElem? hf, ?_⟩
  cases f with
  | yes => cases (show r = _ from h); exact .inr ⟨(fun c e => by cases e), _, _, nl.1.1, rfl⟩
  | lamp c => cases (show r = _ from h); exact .inl ⟨c, rfl, rfl⟩
  | neg a => obtain ⟨j, _, _, rfl⟩ := h; exact .inr ⟨(fun c e => by cases e), _, _, nl.1.2.1, rfl⟩
  | next a => obtain ⟨j, _, _, rfl⟩ := h; exact .inr ⟨(fun c e => by cases e), _, _, nl.1.2.2, rfl⟩
  | and a b => obtain ⟨j, j', _, _, _, _, rfl⟩ := h; exact .inr ⟨(fun c e => by cases e), _, _, nl.2.1, rfl⟩
  | unt a b => obtain ⟨j, j', _, _, _, _, rfl⟩ := h; exact .inr ⟨(fun c e => by cases e), _, _, nl.2.2, rfl⟩
 refine AW (ok_comp (c := lampR) (g := letR) (fun x hx => ?_) (fun x hx hc => ?_) ?_)
 ·obtain ⟨f, _, ⟨c, _, rfl⟩ | ⟨_, w, l, hw, rfl⟩⟩ := shape x hx
  ·simp only [Rk.tp, FL, asS, AF]
   rfl
  ·simp only [Rk.tp, FL, asS, AF]
   rfl
 ·obtain ⟨f, _, ⟨c, _, rfl⟩ | ⟨_, w, l, hw, rfl⟩⟩ := shape x hx
  ·simp only [Rk.tp, at_s1, asS, AF]
   rfl
  ·exact absurd (of_decide_eq_true hc) hw
 ·obtain ⟨e1, e2⟩ := sort_ded (ys := ((L.map Rk.of).filter lampR).map letR) hcs fun y => by
   rw [List.mem_map]
   constructor
   ·rintro ⟨x, hx, rfl⟩
    obtain ⟨hx1, hx2⟩ := List.mem_filter.mp hx
    obtain ⟨f, hf, ⟨c, rfl, rfl⟩ | ⟨_, w, l, hw, rfl⟩⟩ := shape x hx1
    ·exact (hm c).mp hf
    ·exact absurd (of_decide_eq_true hx2) hw
   ·rintro ⟨c, hc, rfl⟩
    obtain ⟨k, hk⟩ := List.getElem?_of_mem ((hm (one c)).mpr ⟨c, hc, rfl⟩)
    obtain ⟨r, hr, h⟩ := hb.at hk
    cases (show r = _ from h)
    exact ⟨⟨[.s "lamp", .s (one c)]⟩, List.mem_filter.mpr ⟨List.mem_map.mpr ⟨_, List.mem_of_getElem? hr, rfl⟩, (decide_eq_true rfl : decide (("lamp" : Str) = "lamp") = true)⟩, rfl⟩
  have l2 : (((L.map Rk.of).filter lampR).map letR).length ≤ L.length := by rw [List.length_map]; exact Nat.le_trans (List.length_filter_le _ _) (by rw [List.length_map]; exact Nat.le_refl _)
  have e3 : EN (((L.map Rk.of).filter lampR).map letR) = some (cs.map one) := by
   unfold EN
   rw [if_pos ⟨by omega, by omega⟩, e1]
  exact Fd _ e3 (⟨_, join_mom _ (by omega), rfl⟩)
noncomputable def Pr (d : Nat) (S p : Nt) : Prop := ∃ f, Sent S d f ∧ p = f.nt
theorem pr_yes : Pr 1 (.tup [.txt "yes"]) (Fm.nt .yes) := ⟨_, .yes, rfl⟩
theorem pr_no : Pr 1 (.tup [.txt "no"]) (Fm.nt (.neg .yes)) := ⟨_, .no, rfl⟩
theorem pr_lamp {c : Nat} (hc : c ∈ abcN) : Pr 1 (.tup [.txt "lamp", .txt ⟨#[c]⟩]) (Fm.nt (.lamp (one c))) := ⟨_, .lamp hc, rfl⟩
theorem pr_one {d : Nat} {S p : Nt} (h : Pr d S p) {w : Nt} (hw : w ∈ ([.txt "not", .txt "next", .txt "atlast", .txt "always", .txt "again", .txt "settles"] : List Nt)) : ∃ q, Pr (d + 1) (.tup [w, S]) q := by
 obtain ⟨f, hs, _⟩ := h
 have : ∃ v ∈ W1, w = .txt v := by
  simp only [List.mem_cons, List.not_mem_nil, or_false] at hw
  rcases hw with rfl | rfl | rfl | rfl | rfl | rfl <;> exact ⟨_, by simp [W1], rfl⟩
 obtain ⟨v, hv, rfl⟩ := this
 exact ⟨_, _, .one hv hs, rfl⟩
theorem pr_two {d k : Nat} {S p T r : Nt} (h : Pr d S p) (h' : Pr k T r) {w : Nt} (hw : w ∈ ([.txt "and", .txt "until", .txt "or", .txt "then", .txt "frees"] : List Nt)) : ∃ q, Pr (d + k + 1) (.tup [w, S, T]) q := by
 obtain ⟨f, hs, _⟩ := h
 obtain ⟨g, ht, _⟩ := h'
 have : ∃ v ∈ W2, w = .txt v := by
  simp only [List.mem_cons, List.not_mem_nil, or_false] at hw
  rcases hw with rfl | rfl | rfl | rfl | rfl <;> exact ⟨_, by simp [W2], rfl⟩
 obtain ⟨v, hv, rfl⟩ := this
 exact ⟨_, _, .two hv hs ht, rfl⟩
theorem leaf_ok (n : Int) (z : Str) (hz : 0 < z.length) (hz2 : ∀ c ∈ z.cps.toList, c ∈ abcN) {P : Nt → Prop} (hp : ∀ S p, Pr 1 S p → P S) : OK (DE n z) P := by
 unfold DE
 simp only [Option.bind_assoc, AF, AK]
 have hz' : (0 : Int) < (z.length : Int) := by omega
 refine BA (fun _ => AM (hp _ _ pr_yes)) fun _ => BA (fun _ => AM (hp _ _ pr_no)) fun _ => AW (ok_mod hz' (AW (GM (Int.emod_nonneg _ (by omega)) ?_ fun c hc => AM (hp _ _ (pr_lamp (hz2 c (List.mem_of_getElem? hc)))))))
 have := Int.emod_lt_of_pos (n / 9) hz'
 rw [Array.length_toList]
 exact this
inductive Ws : Nat → List Nt → Prop where
 | nil : Ws 0 []
 | snoc {m d : Nat} {st : List Nt} {x p : Nt} : Ws m st → Pr d x p → Ws (m + d) (st ++ [x])
theorem Ws.last {m : Nat} {st : List Nt} (h : Ws m st) (ne : 0 < st.length) : ∃ m' d st' x p, st = st' ++ [x] ∧ m = m' + d ∧ Ws m' st' ∧ Pr d x p := by
 cases h with
 | nil => exact absurd ne (by decide)
 | snoc h p => exact ⟨_, _, _, _, _, rfl, rfl, h, p⟩
theorem put_ok (st : List Nt) (n : Nat) (cell room : Int) (z : Str) (hz : 0 < z.length) (hz2 : ∀ c ∈ z.cps.toList, c ∈ abcN) (hg : Ws n st) (hl : st.length ≤ 1000) (hr : (n + st.length : Int) ≤ room + 1) {P : List Nt × List Int → Prop}
  (hp : ∀ st' (n' : Nat), Ws n' st' → st'.length ≤ st.length + 1 → (n' + st'.length : Int) ≤ room + 1 → P (st', [(n' : Int)])) : OK (EH st [(n : Int)] cell room z) P := by
 have hs : sizeLine = 16777216 := sizeLine_eq
 have e0 : ∀ m : Int, atI [m] (0 : Int) = some m := fun m => rfl
 have e1 : ∀ m a : Int, setO [m] (0 : Int) a = some [a] := fun m a => rfl
 have en : ∀ k : Nat, ((k : Int) + 1) = ((k + 1 : Nat) : Int) := fun k => by omega
 unfold EH
 simp only [Option.bind_assoc, AF, AK, e0, e1, en]
 refine GJ (P := fun s : List Nt × List Int => ∃ m : Nat, s.2 = [(m : Int)] ∧ Ws m s.1 ∧ s.1.length ≤ st.length + 1 ∧ (m + s.1.length : Int) ≤ room + 1) ?_ fun s ⟨m, h1, h2, h3, h4⟩ => AM (by rw [h1]; exact hp _ _ h2 h3 h4)
 have keep : ∃ m : Nat, (st, [(n : Int)]).2 = [(m : Int)] ∧ Ws m (st, [(n : Int)]).1 ∧ (st, [(n : Int)]).1.length ≤ st.length + 1 ∧ (m + (st, [(n : Int)]).1.length : Int) ≤ room + 1 := ⟨n, rfl, hg, by dsimp only; omega, hr⟩
 refine BA (fun h => BA (fun h2 => ?_) fun _ => AM keep) fun _ => ?_
 ·simp only [Bool.and_eq_true, decide_eq_true_iff] at h h2
  obtain ⟨m', d, st', x, p, rfl, rfl, hw, hpl⟩ := hg.last (by omega)
  rw [Em]
  simp only [AF]
  refine AW (GM (Int.emod_nonneg _ (by decide)) (by show cell % 16 < 6; omega) fun w hw6 => ?_)
  obtain ⟨q, pq⟩ := pr_one hpl (List.mem_of_getElem? hw6)
  rw [List.length_append, List.length_singleton] at *
  refine AW (E4 (by omega) (AM ⟨m' + d + 1, rfl, ?_, ?_, ?_⟩))
  ·exact Ws.snoc (d := d + 1) hw pq
  ·dsimp only
   rw [List.length_append, List.length_singleton]
   omega
  ·dsimp only
   rw [List.length_append, List.length_singleton]
   omega
 ·refine GJ (P := fun b => b = true → 5 < cell % 16 ∧ cell % 16 < 11) ?_ fun b0 hb0 => ?_
  ·refine BA (fun h => AM fun h2 => ?_) fun _ => AM fun h => by cases h
   simp only [decide_eq_true_iff] at h h2
   exact ⟨h, h2⟩
  refine GJ (P := fun b => b = true → (5 < cell % 16 ∧ cell % 16 < 11) ∧ 1 < st.length) ?_ fun b hb => BA (fun h => ?_) fun _ => BA (fun h2 => ?_) fun _ => AM keep
  ·refine BA (fun h => AM fun h2 => ⟨hb0 h, ?_⟩) fun _ => AM fun h => by cases h
   have := of_decide_eq_true h2
   omega
  ·obtain ⟨⟨h1, h2⟩, h3⟩ := hb h
   obtain ⟨m1, d1, st1, x1, p1, rfl, rfl, hw1, hp1⟩ := hg.last (by omega)
   rw [List.length_append, List.length_singleton] at h3
   obtain ⟨m2, d2, st2, x2, p2, rfl, rfl, hw2, hp2⟩ := hw1.last (by omega)
   rw [Em]
   simp only [AF]
   rw [Em]
   simp only [AF]
   refine AW (GM (by omega) (by show cell % 16 - 6 < 5; omega) fun w hw6 => ?_)
   obtain ⟨q, pq⟩ := pr_two hp2 hp1 (List.mem_of_getElem? hw6)
   simp only [List.length_append, List.length_singleton] at hl hr
   refine AW (E4 (by omega) (AM ⟨m2 + (d2 + d1 + 1), ?_, Ws.snoc hw2 pq, ?_, ?_⟩))
   ·dsimp only
    congr 1
    omega
   ·simp only [List.length_append, List.length_singleton]
    omega
   ·simp only [List.length_append, List.length_singleton]
    omega
  ·have h2 := of_decide_eq_true h2
   refine AW (leaf_ok _ _ hz hz2 fun s p hpl => AW (E4 (by omega) (AM ⟨n + 1, rfl, Ws.snoc hg hpl, ?_, ?_⟩)))
   ·simp only [List.length_append, List.length_singleton]
    omega
   ·simp only [List.length_append, List.length_singleton]
    omega
theorem built_ok (cells : List Int) (room : Int) (z : Str) (hz : 0 < z.length) (hz2 : ∀ c ∈ z.cps.toList, c ∈ abcN) (hc : cells.length ≤ 300) (hr : 1 ≤ room) {P : Nt → Prop} (hp : ∀ s p d, Pr d s p → (d : Int) ≤ room → P s) : OK (DJ cells room z) P := by
 have hs : sizeLine = 16777216 := sizeLine_eq
 unfold DJ
 simp only [Option.bind_assoc, AF, AK]
 refine AW (Ep (fun i (s : List Nt × List Int) => ∃ m : Nat, s.2 = [(m : Int)] ∧ Ws m s.1 ∧ s.1.length ≤ i ∧ (m + s.1.length : Int) ≤ room + 1) ⟨0, rfl, .nil, Nat.le_refl _, by dsimp only [List.length_nil]; omega⟩ (fun i a s ha ⟨m, h1, h2, h3, h4⟩ => ?_) fun s ⟨m, h1, h2, h3, h4⟩ => ?_)
 ·have hi := (List.getElem?_eq_some_iff.mp ha).1
  rw [h1]
  refine AW (put_ok _ _ _ _ _ hz hz2 h2 (by omega) h4 fun st' n' g1 g2 g3 => AM ⟨_, rfl, n', rfl, g1, ?_, g3⟩)
  dsimp only
  omega
 ·refine GJ (P := fun z : List Nt => ∃ m : Nat, Ws m z ∧ 1 ≤ z.length ∧ z.length ≤ 300 ∧ (m + z.length : Int) ≤ room + 1) (BA (fun h => ?_) fun h => AM ⟨m, h2, ?_, by omega, h4⟩) fun z ⟨m1, z1, z2, z3, z4⟩ => ?_
  ·have h := of_decide_eq_true h
   have e : s.1 = [] := List.length_eq_zero_iff.mp (by omega)
   rw [e] at h2 ⊢
   refine AW (leaf_ok _ _ hz hz2 fun s p hpl => E4 (by rw [List.length_nil]; omega) ⟨1, ?_, ?_, ?_, ?_⟩)
   ·exact Ws.snoc (m := 0) .nil hpl
   ·simp
   ·simp
   ·simp only [List.nil_append, List.length_singleton]
    omega
  ·have h := of_decide_eq_false h
   omega
  ·refine AW (ok_while (fun l : List Nt => ∃ m : Nat, Ws m l ∧ 1 ≤ l.length ∧ l.length ≤ 300 ∧ (m + l.length : Int) ≤ room + 1) (fun _ => False) (fun _ => False) (fun l => l.length) ⟨m1, z1, z2, z3, z4⟩ ?_ (fun l ⟨m, r1, r2, r3, r4⟩ => ?_) (fun _ h => h.elim) fun _ h => h.elim)
   ·omega
   ·refine AM ?_
    by_cases hlt : (1 : Int) < (l.length : Int)
    ·rw [decide_eq_true hlt, if_pos rfl]
     obtain ⟨m1, d1, st1, x1, p1, rfl, rfl, hw1, hp1⟩ := r1.last (by omega)
     simp only [List.length_append, List.length_singleton] at hlt r3 r4
     obtain ⟨m2, d2, st2, x2, p2, rfl, rfl, hw2, hp2⟩ := hw1.last (by omega)
     simp only [List.length_append, List.length_singleton] at hlt r3 r4
     rw [Em]
     simp only [AF]
     rw [Em]
     simp only [AF]
     refine AW (GM (Int.emod_nonneg _ (by decide)) (Int.emod_lt_of_pos _ (b := 5) (by decide)) fun w hw6 => ?_)
     have hm : w ∈ ([.txt "and", .txt "until", .txt "or", .txt "then", .txt "frees"] : List Nt) := by
      have hm := List.mem_of_getElem? hw6
      simp only [List.mem_cons, List.not_mem_nil, or_false] at hm ⊢
      rcases hm with e | e | e | e | e <;> simp [e]
     obtain ⟨q, pq⟩ := pr_two hp2 hp1 hm
     refine AW (E4 (by omega) (AM ⟨⟨m2 + (d2 + d1 + 1), Ws.snoc hw2 pq, ?_, ?_, ?_⟩, ?_⟩))
     all_goals simp only [List.length_append, List.length_singleton]
     all_goals omega
    ·rw [decide_eq_false hlt, if_neg Bool.false_ne_true]
     obtain ⟨m1, d1, st1, x1, p1, rfl, rfl, hw1, hp1⟩ := r1.last (by omega)
     simp only [List.length_append, List.length_singleton] at hlt r3 r4
     have e : st1 = [] := List.length_eq_zero_iff.mp (by omega)
     subst e
     show OK (atI ([] ++ [x1]) 0) P
     exact ⟨x1, rfl, hp x1 p1 d1 hp1 (by simp only [List.length_nil] at r4; omega)⟩
theorem slice_len : ∀ a : Fin 23, ∀ b : Fin 4, (Txt.slice ("abcdefghijklmnopqrstuvwxyz" : Str) (some (a.val : Int)) (some ((a.val : Int) + 1 + (b.val : Int)))).length = b.val + 1 := by decide +kernel
theorem slice_mem : ∀ a : Fin 23, ∀ b : Fin 4, ∀ c ∈ (Txt.slice ("abcdefghijklmnopqrstuvwxyz" : Str) (some (a.val : Int)) (some ((a.val : Int) + 1 + (b.val : Int)))).cps.toList, c ∈ abcN := by decide +kernel
theorem letters_ok (c : Int) {P : Str → Prop} (hp : ∀ z : Str, 1 ≤ z.length → z.length ≤ 4 → (∀ c ∈ z.cps.toList, c ∈ abcN) → P z) : OK (CU c) P := by
 have hs : sizeLine = 16777216 := sizeLine_eq
 unfold CU
 simp only [Option.bind_assoc, AF, AK]
 have h0 := Int.emod_nonneg c (b := 23) (by decide)
 have h1 := Int.emod_lt_of_pos c (b := 23) (by decide)
 have h2 := Int.emod_nonneg (c / 23) (b := 4) (by decide)
 have h3 := Int.emod_lt_of_pos (c / 23) (b := 4) (by decide)
 obtain ⟨a, ha⟩ := Int.eq_ofNat_of_zero_le h0
 obtain ⟨b, hb⟩ := Int.eq_ofNat_of_zero_le h2
 rw [ha, hb]
 rw [ha] at h1
 rw [hb] at h3
 have sl := slice_len ⟨a, by omega⟩ ⟨b, by omega⟩
 dsimp only at sl
 have sm := slice_mem ⟨a, by omega⟩ ⟨b, by omega⟩
 dsimp only at sm
 have one : ∀ d, (⟨#[d]⟩ : Str).length = 1 := fun d => rfl
 refine BA (fun _ => ?_) fun _ => AM (hp _ (by omega) (by omega) sm)
 refine AW (GM (by decide) (by rw [Array.length_toList]; show (0 : Int) < ((Txt.slice _ _ _).length : Int); omega) fun d hd => ?_)
 refine AW (ok_mod (by omega) ?_)
 have m0 := Int.emod_nonneg (c / 184) (b := 23 - (a : Int)) (by omega)
 have m1 := Int.emod_lt_of_pos (c / 184) (b := 23 - (a : Int)) (by omega)
 refine AW (GM (by omega) (by rw [abc_size]; omega) fun e he => ?_)
 refine ok_catS (by rw [one, one]; omega) (hp _ ?_ ?_ fun x hx => ?_)
 ·rw [len_app, one, one]
  omega
 ·rw [len_app, one, one]
  omega
 ·rw [cps_app] at hx
  rcases List.mem_append.mp hx with hx | hx
  ·rw [show x = d from by simpa using hx]
   exact sm d (List.mem_of_getElem? hd)
  ·rw [show x = e from by simpa using hx, ← abc_cps]
   exact List.mem_of_getElem? he
theorem ones_sum : ∀ ys : List Str, (∀ y ∈ ys, y.length = 1) → (ys.map (·.length)).sum = ys.length
 | [], _ => rfl
 | y :: ys, h => by
  rw [List.map_cons, List.sum_cons, ones_sum ys fun x hx => h x (List.mem_cons_of_mem _ hx), h y List.mem_cons_self, List.length_cons]
  omega
theorem lit_ok (c : Int) (many : Nat) (hm : many ≤ 20) (z : Str) (hz : z.length ≤ 4) {P : List Str → Prop} (hp : ∀ l : List Str, l.length = many → P l) : OK (EI c (many : Int) z) P := by
 have hs : sizeLine = 16777216 := sizeLine_eq
 unfold EI
 simp only [Option.bind_assoc, AF, AK]
 refine AW (GM (Int.emod_nonneg _ (by decide)) (Int.emod_lt_of_pos _ (b := 2) (by decide)) fun y hy => ?_)
 have hy1 : y.length ≤ 1 := by
  have := List.mem_of_getElem? hy
  simp only [List.mem_cons, List.not_mem_nil, or_false] at this
  rcases this with rfl | rfl <;> decide
 refine AW (ok_catS (by omega) ?_)
 generalize hw : z ++ y = w
 have hw5 : w.length ≤ 5 := by rw [← hw, len_app]; omega
 have sl : (Dg w).length = w.length := by unfold Dg; rw [List.length_map]; rfl
 refine AW (stream_ok _ _ (by omega) fun l hl => ?_)
 refine AW (Ep (fun i (s : List Str) => s.length = i) rfl (fun i a s ha hI => ?_) fun s hI => AM (hp _ (by omega)))
 have hi := (List.getElem?_eq_some_iff.mp ha).1
 have five : ∀ j : Nat, j < 5 → ∃ t : Int, atI [(1 : Int), 3, 9, 27, 81] (j : Int) = some t ∧ 0 < t ∧ t < 1073741824 := fun j hj => by
  rcases j with _ | _ | _ | _ | _ | j
  ·exact ⟨1, rfl, by decide, by decide⟩
  ·exact ⟨3, rfl, by decide, by decide⟩
  ·exact ⟨9, rfl, by decide, by decide⟩
  ·exact ⟨27, rfl, by decide, by decide⟩
  ·exact ⟨81, rfl, by decide, by decide⟩
  ·omega
 refine AW (ok_comp (c := fun p : Int × Str => decide (a / ((atI [(1 : Int), 3, 9, 27, 81] p.1).getD 1) % 3 = 1)) (g := fun p => p.2) (fun p hpm => ?_) (fun _ _ _ => rfl) ?_)
 ·obtain ⟨j, hj⟩ := List.mem_iff_getElem?.mp hpm
  rw [FT] at hj
  obtain ⟨x, hx, rfl⟩ := Option.map_eq_some_iff.mp hj
  have hjl := (List.getElem?_eq_some_iff.mp hx).1
  obtain ⟨t, e, t1, t2⟩ := five (0 + j) (by omega)
  simp only [e, AF, Option.getD_some]
  refine OK.eq (AW (ok_div ⟨t1, t2⟩ (AM rfl)))
 ·refine Fd _ (if_pos ?_) (AW (E4 (by omega) (AM ⟨_, rfl, by rw [List.length_append, hI]; rfl⟩)))
  have e : ("" : Str).length = 0 := by decide
  rw [e, Nat.mul_zero]
  have ge : ∀ q ∈ Du 0 (Dg w), q.2.length = 1 := fun q hq => by
   obtain ⟨j, hj⟩ := List.mem_iff_getElem?.mp hq
   rw [FT] at hj
   obtain ⟨x, hx, rfl⟩ := Option.map_eq_some_iff.mp hj
   have := List.mem_of_getElem? hx
   unfold Dg at this
   obtain ⟨d, _, rfl⟩ := List.mem_map.mp this
   rfl
  rw [ones_sum _ fun y hy => by
   obtain ⟨q, hq, rfl⟩ := List.mem_map.mp hy
   exact ge q (List.mem_filter.mp hq).1]
  rw [List.length_map]
  have := List.length_filter_le (fun p : Int × Str => decide (a / ((atI [(1 : Int), 3, 9, 27, 81] p.1).getD 1) % 3 = 1)) (Du 0 (Dg w))
  rw [Eo] at this
  omega
theorem cells_ok (s : Scr) (start : Int) (h0 : 0 ≤ start) (hl : s.l.length ≤ 63) {P : List Int → Prop} (hp : ∀ l : List Int, l.length ≤ 300 → P l) : OK (DO s start) P := by
 have hs : sizeLine = 16777216 := sizeLine_eq
 unfold DO
 simp only [Option.bind_assoc, AF, AK]
 refine AW (DX _ _ h0 fun c => ?_)
 have k0 := Int.emod_nonneg (c / 2) (b := 24) (by decide)
 have k1 := Int.emod_lt_of_pos (c / 2) (b := 24) (by decide)
 refine BA (fun _ => ⟨_, if_pos (by omega), hp _ ?_⟩) fun _ => AW (DX _ _ (by omega) fun d => stream_ok _ _ (by omega) fun l h => hp l (by omega))
 unfold Cf
 rw [List.length_take, List.length_drop]
 omega
noncomputable def Good (l : List Nt) : Prop := ∀ S ∈ l, ∃ n f, Sent S n f ∧ n ≤ 12
theorem Sent.form {S : Nt} {n : Nat} {f : Fm} (h : Sent S n f) : ∃ w l, S = .tup (.txt w :: l) ∧ (w ≠ "lamp" → 1 < (Nt.txt w :: l).length → ∃ x m g, atI (Nt.txt w :: l) (-1) = some x ∧ Sent x m g ∧ m ≤ n) := by
 cases h with
 | yes => exact ⟨_, _, rfl, fun _ h => absurd h (by decide)⟩
 | no => exact ⟨_, _, rfl, fun _ h => absurd h (by decide)⟩
 | lamp hc => exact ⟨_, _, rfl, fun h => absurd rfl h⟩
 | @one w a n f hw ha => exact ⟨_, _, rfl, fun _ _ => ⟨a, n, f, rfl, ha, by omega⟩⟩
 | @two w a b n m f g hw ha hb => exact ⟨_, _, rfl, fun _ _ => ⟨b, m, g, rfl, hb, by omega⟩⟩
theorem set_last {l : List Nt} (h : 1 ≤ l.length) (x : Nt) : setO l (-1) x = some (l.set (l.length - 1) x) := by
 unfold setO
 have e : ixN l.length (-1) = some (l.length - 1) := by
  unfold ixN
  rw [if_neg (by decide), if_pos (by omega)]
  congr 1
  omega
 rw [e]
 rfl
theorem Good.set {l : List Nt} (h : Good l) {k : Nat} {x : Nt} (hx : ∃ n f, Sent x n f ∧ n ≤ 12) : Good (l.set k x) := fun S hS => by
 rcases List.mem_or_eq_of_mem_set hS with h1 | h1
 ·exact h S h1
 ·rw [h1]; exact hx
theorem some_ok (s : Scr) (hl : s.l.length ≤ 63) (z : Str) (hz : 1 ≤ z.length) (hz2 : ∀ c ∈ z.cps.toList, c ∈ abcN) : OK (Di s z) fun l => Good l ∧ l.length ≤ 3 := by
 have hs : sizeLine = 16777216 := sizeLine_eq
 obtain ⟨c0, hc0, _⟩ := DX s 0 (by decide) (P := fun _ => True) fun _ => trivial
 have k0 := Int.emod_nonneg c0 (b := 3) (by decide)
 have k1 := Int.emod_lt_of_pos c0 (b := 3) (by decide)
 obtain ⟨t, ht⟩ := Int.eq_ofNat_of_zero_le k0
 unfold Di
 simp only [Option.bind_assoc, AF, AK, hc0]
 refine AW (Fg (n := t + 1) (by omega) (by omega) (by omega) ?_)
 refine AW (Ep (fun i (l : List Nt) => Good l ∧ l.length = i) ⟨fun S h => (nomatch h), rfl⟩ (fun i a l ha hI => ?_) fun l hI => ?_)
 ·obtain ⟨hi, rfl⟩ := rng_at ha
  refine GJ (DX s _ (by omega) (P := fun _ => True) fun _ => trivial) fun c _ => ?_
  have r0 := Int.emod_nonneg c (b := 12) (by decide)
  have r1 := Int.emod_lt_of_pos c (b := 12) (by decide)
  refine AW (cells_ok s _ (by omega) hl fun cs hcs => AW (built_ok cs _ z (by omega) hz2 hcs (by omega) fun S p d hp hd => AW (E4 (by omega) (AM ⟨_, rfl, ?_, by rw [List.length_append, hI.2]; rfl⟩))))
  intro X hX
  rcases List.mem_append.mp hX with hX | hX
  ·exact hI.1 X hX
  ·rw [List.mem_singleton.mp hX]
   obtain ⟨f, hf, _⟩ := hp
   exact ⟨d, f, hf, by omega⟩
 ·obtain ⟨hG, hlen⟩ := hI
  rw [rng_len] at hlen
  dsimp only
  refine GJ (P := fun b => b = true → 1 < l.length) (BA (fun h => AM fun _ => by have := of_decide_eq_true h; omega) fun _ => AM fun h => nomatch h) fun b hb => ?_
  refine BA (fun h => ?_) fun _ => AM ⟨hG, by omega⟩
  have h1 := hb h
  have hne : l[0]? = some l[0] := List.getElem?_eq_getElem (by omega)
  have hat : atI l (0 : Int) = some l[0] := BX (j := 0) hne
  obtain ⟨n, f, hf, hn⟩ := hG l[0] (List.getElem_mem _)
  have hG2 := hG.set (k := l.length - 1) ⟨n, f, hf, hn⟩
  have hat2 : atI (l.set (l.length - 1) l[0]) (0 : Int) = some l[0] := BX (j := 0) (by rw [List.getElem?_set_ne (by omega)]; exact hne)
  obtain ⟨w, r, e, hlast⟩ := hf.form
  rw [hat, AF, set_last (by omega), AF, hat2]
  simp only [AF]
  rw [e]
  simp only [BF, at0, Bz, AF]
  refine GJ (P := fun b => b = true → w ≠ "lamp" ∧ 1 < (Nt.txt w :: r).length) ?_ fun b hb => BA (fun h => ?_) fun _ => AM ⟨by rw [← e]; exact hG2, by rw [List.length_set]; omega⟩
  ·refine BA (fun h => BA (fun h2 => AM fun _ => ⟨?_, ?_⟩) fun _ => AM fun h => nomatch h) fun _ => AM fun h => nomatch h
   ·have h : (!decide (w = "lamp")) = true := h
    rw [Bool.not_eq_true'] at h
    exact of_decide_eq_false h
   ·have := of_decide_eq_true h2
    omega
  ·obtain ⟨h2, h3⟩ := hb h
   obtain ⟨x, m, g, q1, q2, q3⟩ := hlast h2 h3
   rw [q1, AF, set_last (by rw [List.length_set]; omega), ← e]
   exact AM ⟨hG2.set ⟨m, g, q2, by omega⟩, by rw [List.length_set, List.length_set]; omega⟩
theorem mapO_eq {α β : Type} {F : α → Option β} : ∀ {l : List α} {m : List β}, l.length = m.length → (∀ (i : Nat) a b, l[i]? = some a → m[i]? = some b → F a = some b) → EJ F l = some m
 | [], [], _, _ => rfl
 | [], _ :: _, h, _ => nomatch h
 | _ :: _, [], h, _ => nomatch h
 | a :: l, b :: m, h, hF => by
  show ((F a).bind fun y => (EJ F l).bind fun ys => some (y :: ys)) = _
  rw [hF 0 a b rfl rfl, AF, mapO_eq (Nat.succ.inj h) fun i x y hx hy => hF (i + 1) x y hx hy]
  rfl
theorem plains_of : ∀ {l : List Nt}, Good l → ∃ (gs : List Fm) (css : List (List Nat)), gs.length = l.length ∧ css.length = l.length ∧ ∀ (i : Nat) (S : Nt), l[i]? = some S → ∃ g cs n, gs[i]? = some g ∧ css[i]? = some cs ∧ Sent S n g ∧ n ≤ 12 ∧ Sn S n cs ∧ ∀ x : Str, Fm.lamp x ∈ g.sub ↔ ∃ c ∈ cs, x = one c
 | [], _ => ⟨[], [], rfl, rfl, fun i S h => by simp at h⟩
 | S :: l, h => by
  obtain ⟨gs, css, h1, h2, h3⟩ := plains_of fun X hX => h X (List.mem_cons_of_mem _ hX)
  obtain ⟨n, g, hg, hn⟩ := h S List.mem_cons_self
  obtain ⟨cs, hc, hcs⟩ := hg.sn
  refine ⟨g :: gs, cs :: css, by rw [List.length_cons, List.length_cons, h1], by rw [List.length_cons, List.length_cons, h2], fun i X hX => ?_⟩
  cases i with
  | zero =>
   cases hX
   exact ⟨g, cs, n, rfl, rfl, hg, hn, hc, hcs⟩
  | succ i => exact h3 i X hX
theorem lt_cps (cs : List Nat) : (lt cs).cps.toList = abcN.filter fun c => decide (c ∈ cs) := join_of _
theorem law_true (ns : List Int) (hl : ns.length ≤ 63) : m_law ⟨ns⟩ = some true := by
 have hz : sizeLine = 16777216 := sizeLine_eq
 obtain ⟨T, hT⟩ : ∃ T : Nat, T = 110 := ⟨_, rfl⟩
 obtain ⟨U, hU⟩ : ∃ U : Nat, U = 26 := ⟨_, rfl⟩
 refine OK.eq ?_
 unfold m_law
 rw [← hT, ← hU]
 simp only [Option.bind_assoc, AF, AK]
 refine AW (DX _ _ (by decide) fun c1 => AW (letters_ok _ fun z z1 z4 zm => ?_))
 refine GJ (some_ok ⟨ns⟩ hl z z1 zm) fun l ⟨hG, hl3⟩ => ?_
 refine AW (DX _ _ (by decide) fun c3 => ?_)
 have s0 := Int.emod_nonneg c3 (b := 5) (by decide)
 have s1 := Int.emod_lt_of_pos c3 (b := 5) (by decide)
 have t0 := Int.emod_nonneg (c3 / 5) (b := 4) (by decide)
 have t1 := Int.emod_lt_of_pos (c3 / 5) (b := 4) (by decide)
 obtain ⟨s, es⟩ := Int.eq_ofNat_of_zero_le s0
 obtain ⟨t, et⟩ := Int.eq_ofNat_of_zero_le t0
 rw [es, et]
 have em : (s : Int) + 1 + (t : Int) = ((s + 1 + t : Nat) : Int) := by omega
 rw [em]
 refine AW (lit_ok _ _ (by omega) _ z4 fun lit hlit => ?_)
 have hsl : s < lit.length := by omega
 have hM : lit.length ≤ 20 := by omega
 obtain ⟨gs, css, hgl, hcl, hgs⟩ := plains_of hG
 have hplain : EJ (fun one_ => E7 U one_) l = some (gs.map Fm.nt) := mapO_eq (by rw [List.length_map, hgl]) fun i S b hS hb => by
  obtain ⟨g, cs, n, e1, _, hg, hn, _⟩ := hgs i S hS
  rw [List.getElem?_map, e1] at hb
  cases hb
  exact plain_ok hg U (by omega)
 refine Fd _ hplain ?_
 have hgd : ∀ g ∈ gs, g.dep ≤ 160 ∧ g.size ≤ 1000 := fun g hg => by
  obtain ⟨i, hi⟩ := List.getElem?_of_mem hg
  have hil : i < l.length := by rw [← hgl]; exact Dz hi
  obtain ⟨g', cs, n, e1, _, hg', hn, _⟩ := hgs i l[i] (List.getElem?_eq_getElem hil)
  rw [hi] at e1
  cases e1
  have := hg'.dep
  have := hg'.size
  omega
 obtain ⟨L, fs, ks, b1, b2, b3, b4, b5, b6, b7⟩ := books_all gs [] [] hgd Bk.nil Dif.nil (by simp; omega)
 rw [List.nil_append] at b1 b2
 rw [List.nil_append] at b2 b3
 simp only [List.nil_append] at b5
 have hbook : FZ (gs.map Fm.nt) = some (L.map Rk.of, ks.map fun (k : Nat) => (k : Int)) := by
  unfold FZ booksR
  rw [b1]
  rfl
 refine Fd _ hbook ?_
 dsimp only
 have hL3 : L.length ≤ 3000 := by omega
 have hrt : Be (L.map Rk.of) lit (s : Int) = some (some (fs.map fun f => ls lit.length (tv lit s f))) := rows_told_ok hsl hM b2 (by omega)
 rw [hrt, AF]
 rw [show Option.isNone (some (fs.map fun f => ls lit.length (tv lit s f))) = false from rfl, List.length_map, b4, hgl, decide_eq_true rfl, show (false || !true) = false from rfl, cond_false]
 refine AW (Fg (n := l.length) (by omega) (by omega) (by omega) ?_)
 refine AW (Ep (fun _ (_ : Unit) => True) trivial (fun i a u ha _ => ?_) fun u _ => ?_)
 ·obtain ⟨hi, rfl⟩ := rng_at ha
  have hS : l[i]? = some l[i] := List.getElem?_eq_getElem hi
  obtain ⟨g, cs, n, e1, _, hg, hn, _⟩ := hgs i l[i] hS
  obtain ⟨k, k1, k2⟩ := b5 i g e1
  have atk : atI (ks.map fun (k : Nat) => (k : Int)) (i : Int) = some (k : Int) := BX (by rw [List.getElem?_map, k1]; rfl)
  have att : atI (fs.map fun f => ls lit.length (tv lit s f)) (k : Int) = some (ls lit.length (tv lit s g)) := BX (by rw [List.getElem?_map, k2]; rfl)
  have atS : atI l (i : Int) = some l[i] := BX hS
  have htr : B7 T l[i] lit (s : Int) = some (ls lit.length (tv lit s g)) := hg.tp hsl hM T (by omega)
  rw [atk]
  simp only [AF]
  rw [att, AF, atS, AF, htr, AF, decide_eq_true rfl]
  rw [show (!true) = false from rfl, cond_false]
  refine AW (Fg (n := i) (by omega) (by omega) (by omega) ?_)
  refine AW (Ep (fun _ (_ : Unit) => True) trivial (fun j a u ha _ => ?_) fun u _ => AM ⟨_, rfl, trivial⟩)
  obtain ⟨hj, rfl⟩ := rng_at ha
  have hjl : j < l.length := by omega
  obtain ⟨g', cs', n', f1, _, hg', hn', _⟩ := hgs j l[j] (List.getElem?_eq_getElem hjl)
  obtain ⟨k', p1, p2⟩ := b5 j g' f1
  have atj : atI (ks.map fun (k : Nat) => (k : Int)) (j : Int) = some (k' : Int) := BX (by rw [List.getElem?_map, p1]; rfl)
  have fk : atI (gs.map Fm.nt) (i : Int) = some g.nt := BX (by rw [List.getElem?_map, e1]; rfl)
  have fj : atI (gs.map Fm.nt) (j : Int) = some g'.nt := BX (by rw [List.getElem?_map, f1]; rfl)
  have d1 := hg.dep
  have d2 := hg'.dep
  have eqn : eqNO g.nt g'.nt = some (decide (g.nt = g'.nt)) := if_pos ⟨by rw [FO]; omega, by rw [FO]; omega⟩
  have same : decide ((k : Int) = (k' : Int)) = decide (g.nt = g'.nt) := decide_eq_decide.mpr ⟨fun e => by
   have e' : k = k' := by omega
   rw [e', p2] at k2
   rw [Option.some.inj k2], fun e => by
   have := nt_inj e
   subst this
   rw [b3 k k' g k2 p2]⟩
  rw [atj, AF, fk, AF, fj, AF, eqn, AF, same, decide_eq_true rfl, show (!true) = false from rfl, cond_false]
  exact AM ⟨_, rfl, trivial⟩
 ·dsimp only
  have hlamps : EJ (fun one_ => Ck one_) l = some (css.map lt) := mapO_eq (by rw [List.length_map, hcl]) fun i S b hS hb => by
   obtain ⟨g, cs, n, _, e1, _, hn, hc, _⟩ := hgs i S hS
   rw [List.getElem?_map, e1] at hb
   cases hb
   exact lamps_eq hc (by omega)
  have l26 : ∀ cs, (lt cs).length ≤ 26 := fun cs => by
   rw [len_cps, lt_cps]
   exact List.length_filter_le _ abcN
  have hsum : ∀ xs : List (List Nat), ((xs.map lt).map (·.length)).sum ≤ 26 * xs.length := fun xs => by
   induction xs with
   | nil => exact Nat.le_refl _
   | cons x xs ih =>
    rw [List.map_cons, List.map_cons, List.sum_cons, List.length_cons]
    have := l26 x
    omega
  refine Fd _ hlamps ?_
  have hjoin : GL "" (css.map lt) = some (Txt.join "" (css.map lt)) := by
   refine if_pos ?_
   have e : ("" : Str).length = 0 := by decide
   rw [e, Nat.mul_zero]
   have := hsum css
   omega
  refine Fd _ hjoin ?_
  have memj : ∀ c, c ∈ (Txt.join "" (css.map lt)).cps.toList ↔ c ∈ abcN ∧ ∃ cs ∈ css, c ∈ cs := fun c => by
   rw [join_cps, List.mem_flatten]
   constructor
   ·rintro ⟨y, hy, hc⟩
    obtain ⟨x, hx, rfl⟩ := List.mem_map.mp hy
    obtain ⟨cs, hcs, rfl⟩ := List.mem_map.mp hx
    rw [lt_cps, List.mem_filter] at hc
    exact ⟨hc.1, cs, hcs, of_decide_eq_true hc.2⟩
   ·rintro ⟨h1, cs, hcs, hc⟩
    exact ⟨_, List.mem_map.mpr ⟨_, List.mem_map.mpr ⟨cs, hcs, rfl⟩, rfl⟩, by rw [lt_cps, List.mem_filter]; exact ⟨h1, decide_eq_true hc⟩⟩
  generalize Txt.join "" (css.map lt) = J at memj
  have pw : (abcN.filter fun c => decide (c ∈ J.cps.toList)).Pairwise (· < ·) := abc_pw.sublist List.filter_sublist
  have p26 : (abcN.filter fun c => decide (c ∈ J.cps.toList)).length ≤ 26 := List.length_filter_le _ abcN
  have hin : DF (L.map Rk.of) = some (Txt.join "" ((abcN.filter fun c => decide (c ∈ J.cps.toList)).map one)) := lamps_in_ok b2 (by omega) pw p26 fun x => by
   constructor
   ·intro hx
    obtain ⟨g, hg, hs⟩ := b6 _ hx
    obtain ⟨i, hi⟩ := List.getElem?_of_mem hg
    have hil : i < l.length := by rw [← hgl]; exact Dz hi
    obtain ⟨g', cs, n, q1, q2, _, _, hsn, hq⟩ := hgs i l[i] (List.getElem?_eq_getElem hil)
    rw [hi] at q1
    cases q1
    obtain ⟨c, hc, e⟩ := (hq x).mp hs
    have ha := hsn.sub c hc
    exact ⟨c, List.mem_filter.mpr ⟨ha, decide_eq_true ((memj c).mpr ⟨ha, cs, List.mem_of_getElem? q2, hc⟩)⟩, e⟩
   ·rintro ⟨c, hc, rfl⟩
    obtain ⟨_, hc2⟩ := List.mem_filter.mp hc
    obtain ⟨_, cs, hcs, hc3⟩ := (memj c).mp (of_decide_eq_true hc2)
    obtain ⟨i, hi⟩ := List.getElem?_of_mem hcs
    have hil : i < l.length := by rw [← hcl]; exact Dz hi
    obtain ⟨g', cs', n, q1, q2, _, _, hsn, hq⟩ := hgs i l[i] (List.getElem?_eq_getElem hil)
    rw [hi] at q2
    cases q2
    obtain ⟨k, k1, k2⟩ := b5 i g' q1
    obtain ⟨m, _, hm⟩ := b2.subs k2 ((hq (one c)).mpr ⟨c, hc3, rfl⟩)
    exact List.mem_of_getElem? hm
  refine Fd _ hin ?_
  rw [abc_signs]
  refine AW (ok_comp (c := fun y : Str => inS y J) (g := fun y => y) (fun _ _ => rfl) (fun _ _ _ => rfl) ?_)
  rw [List.map_id', filter_one]
  have e : (fun c => inS (one c) J) = fun c => decide (c ∈ J.cps.toList) := funext fun c => inS_one c J
  rw [e]
  refine Fd _ (join_mom _ (by omega)) (AM (decide_eq_true rfl))
theorem law_imp {K : PySem.W.Frag} {vs : List V} {H : Hp} {Q : VK} {E : XK} (h : sp_law K vs H Q E) : spM K mm_law vs H Q E := by
 obtain ⟨a, ns, rfl, hS, hl, q⟩ := h
 exact ⟨H, (⟨ns⟩, ()), true, Same.refl H, ⟨.ref a, [], rfl, ⟨a, rfl, hS⟩, rfl⟩, law_true ns hl, fun v G2 H2 x r => by cases r; exact q H2⟩
theorem _root_.L2.Fun.bn1 {K : PySem.W.Frag} {x qual : Str} {st : Stmt} {f : Addr} {fd : FuncData} {p0 : Str} (F : Fun K x qual st f fd) (h : ∀ (kV doc pm : Value) (an : Option Addr) (cdv ct : Value) (a0 : Value), bindArgs (PySem.W.fnOf x qual (Al st) (Aj st) (AC st) .none kV doc pm an cdv ct) ⟨[a0], []⟩ = pure (List.zip [p0] [a0])) : Binds K fd [p0] [] := F.binds fun kV doc pm an cdv ct us hl => match us, hl with | [a0], _ => h kV doc pm an cdv ct a0
theorem _root_.L2.Fun.bn2 {K : PySem.W.Frag} {x qual : Str} {st : Stmt} {f : Addr} {fd : FuncData} {p0 p1 : Str} (F : Fun K x qual st f fd) (h : ∀ (kV doc pm : Value) (an : Option Addr) (cdv ct : Value) (a0 a1 : Value), bindArgs (PySem.W.fnOf x qual (Al st) (Aj st) (AC st) .none kV doc pm an cdv ct) ⟨[a0, a1], []⟩ = pure (List.zip [p0, p1] [a0, a1])) : Binds K fd [p0, p1] [] := F.binds fun kV doc pm an cdv ct us hl => match us, hl with | [a0, a1], _ => h kV doc pm an cdv ct a0 a1
theorem _root_.L2.Fun.bn3 {K : PySem.W.Frag} {x qual : Str} {st : Stmt} {f : Addr} {fd : FuncData} {p0 p1 p2 : Str} (F : Fun K x qual st f fd) (h : ∀ (kV doc pm : Value) (an : Option Addr) (cdv ct : Value) (a0 a1 a2 : Value), bindArgs (PySem.W.fnOf x qual (Al st) (Aj st) (AC st) .none kV doc pm an cdv ct) ⟨[a0, a1, a2], []⟩ = pure (List.zip [p0, p1, p2] [a0, a1, a2])) : Binds K fd [p0, p1, p2] [] := F.binds fun kV doc pm an cdv ct us hl => match us, hl with | [a0, a1, a2], _ => h kV doc pm an cdv ct a0 a1 a2
theorem _root_.L2.Fun.bn4 {K : PySem.W.Frag} {x qual : Str} {st : Stmt} {f : Addr} {fd : FuncData} {p0 p1 p2 p3 : Str} (F : Fun K x qual st f fd) (h : ∀ (kV doc pm : Value) (an : Option Addr) (cdv ct : Value) (a0 a1 a2 a3 : Value), bindArgs (PySem.W.fnOf x qual (Al st) (Aj st) (AC st) .none kV doc pm an cdv ct) ⟨[a0, a1, a2, a3], []⟩ = pure (List.zip [p0, p1, p2, p3] [a0, a1, a2, a3])) : Binds K fd [p0, p1, p2, p3] [] := F.binds fun kV doc pm an cdv ct us hl => match us, hl with | [a0, a1, a2, a3], _ => h kV doc pm an cdv ct a0 a1 a2 a3
theorem _root_.L2.Fun.bn5 {K : PySem.W.Frag} {x qual : Str} {st : Stmt} {f : Addr} {fd : FuncData} {p0 p1 p2 p3 p4 : Str} (F : Fun K x qual st f fd) (h : ∀ (kV doc pm : Value) (an : Option Addr) (cdv ct : Value) (a0 a1 a2 a3 a4 : Value), bindArgs (PySem.W.fnOf x qual (Al st) (Aj st) (AC st) .none kV doc pm an cdv ct) ⟨[a0, a1, a2, a3, a4], []⟩ = pure (List.zip [p0, p1, p2, p3, p4] [a0, a1, a2, a3, a4])) : Binds K fd [p0, p1, p2, p3, p4] [] := F.binds fun kV doc pm an cdv ct us hl => match us, hl with | [a0, a1, a2, a3, a4], _ => h kV doc pm an cdv ct a0 a1 a2 a3 a4
set_option maxHeartbeats 1000000 in
theorem all_mk {l : PySem.W.OpenLaw} {w : World} {K : PySem.W.Frag} {h : Heap} {mg : Str → Option Value} {fa : Addr} (X : K.In h) (G : h.Ns mainGlobals mg) (hfa : mg "law" = some (.ref fa))
  {f0 f1 f2 f3 f4 f5 f6 f7 f8 f9 f10 f11 f12 f13 f14 f15 f16 f17 f18 f19 f20 f21 f22 f23 f24 f25 f26 f27 f28 f29 : Addr} {od0 an0 od1 an1 od2 an2 od3 an3 od4 an4 od5 an5 od6 an6 od7 an7 od8 an8 od9 an9 od10 an10 od11 an11 od12 an12 od13 an13 od14 an14 od15 an15 od16 an16 od17 an17 od18 an18 od19 an19 od20 an20 od21 an21 od22 an22 od23 an23 od24 an24 od25 an25 od26 an26 od27 an27 od28 an28 od29 an29 : Option Addr} {sl0 sl1 sl2 sl3 sl4 sl5 sl6 sl7 sl8 sl9 sl10 sl11 sl12 sl13 sl14 sl15 sl16 sl17 sl18 sl19 sl20 sl21 sl22 sl23 sl24 sl25 sl26 sl27 sl28 sl29 : Array (Option Value)} {oc0 kV0 dc0 pm0 cd0 ct0 oc1 kV1 dc1 pm1 cd1 ct1 oc2 kV2 dc2 pm2 cd2 ct2 oc3 kV3 dc3 pm3 cd3 ct3 oc4 kV4 dc4 pm4 cd4 ct4 oc5 kV5 dc5 pm5 cd5 ct5 oc6 kV6 dc6 pm6 cd6 ct6 oc7 kV7 dc7 pm7 cd7 ct7 oc8 kV8 dc8 pm8 cd8 ct8 oc9 kV9 dc9 pm9 cd9 ct9 oc10 kV10 dc10 pm10 cd10 ct10 oc11 kV11 dc11 pm11 cd11 ct11 oc12 kV12 dc12 pm12 cd12 ct12 oc13 kV13 dc13 pm13 cd13 ct13 oc14 kV14 dc14 pm14 cd14 ct14 oc15 kV15 dc15 pm15 cd15 ct15 oc16 kV16 dc16 pm16 cd16 ct16 oc17 kV17 dc17 pm17 cd17 ct17 oc18 kV18 dc18 pm18 cd18 ct18 oc19 kV19 dc19 pm19 cd19 ct19 oc20 kV20 dc20 pm20 cd20 ct20 oc21 kV21 dc21 pm21 cd21 ct21 oc22 kV22 dc22 pm22 cd22 ct22 oc23 kV23 dc23 pm23 cd23 ct23 oc24 kV24 dc24 pm24 cd24 ct24 oc25 kV25 dc25 pm25 cd25 ct25 oc26 kV26 dc26 pm26 cd26 ct26 oc27 kV27 dc27 pm27 cd27 ct27 oc28 kV28 dc28 pm28 cd28 ct28 oc29 kV29 dc29 pm29 cd29 ct29 : Value}
  {tk0 : Tok}
  {ga0 : Addr} {god0 : Option Addr} {gn0 : Nat} {gsl0 : Array (Option Value)}
  (a0 : PySem.W.nsIn K mainGlobals "parts_of" = some (some (.ref f0))) (l0 : K.lookup f0 = some ⟨oc0, od0, .func (PySem.W.fnOf "parts_of" "parts_of" (Al Dd) (Aj Dd) (AC Dd) .none kV0 dc0 pm0 an0 cd0 ct0), sl0⟩) (c0 : PySem.W.codeIn K cd0 "parts_of" = true) (k0 : PySem.W.keepIn K (.ref f0) = true)
  (a1 : PySem.W.nsIn K mainGlobals "all_within" = some (some (.ref f1))) (l1 : K.lookup f1 = some ⟨oc1, od1, .func (PySem.W.fnOf "all_within" "all_within" (Al Cq) (Aj Cq) (AC Cq) .none kV1 dc1 pm1 an1 cd1 ct1), sl1⟩) (c1 : PySem.W.codeIn K cd1 "all_within" = true) (k1 : PySem.W.keepIn K (.ref f1) = true)
  (a2 : PySem.W.nsIn K mainGlobals "lamps_of" = some (some (.ref f2))) (l2 : K.lookup f2 = some ⟨oc2, od2, .func (PySem.W.fnOf "lamps_of" "lamps_of" (Al De) (Aj De) (AC De) .none kV2 dc2 pm2 an2 cd2 ct2), sl2⟩) (c2 : PySem.W.codeIn K cd2 "lamps_of" = true) (k2 : PySem.W.keepIn K (.ref f2) = true)
  (a3 : PySem.W.nsIn K mainGlobals "row_number" = some (some (.ref f3))) (l3 : K.lookup f3 = some ⟨oc3, od3, .func (PySem.W.fnOf "row_number" "row_number" (Al Cr) (Aj Cr) (AC Cr) .none kV3 dc3 pm3 an3 cd3 ct3), sl3⟩) (c3 : PySem.W.codeIn K cd3 "row_number" = true) (k3 : PySem.W.keepIn K (.ref f3) = true)
  (a4 : PySem.W.nsIn K mainGlobals "lay" = some (some (.ref f4))) (l4 : K.lookup f4 = some ⟨oc4, od4, .func (PySem.W.fnOf "lay" "lay" (Al s_lay) (Aj s_lay) (AC s_lay) .none kV4 dc4 pm4 an4 cd4 ct4), sl4⟩) (c4 : PySem.W.codeIn K cd4 "lay" = true) (k4 : PySem.W.keepIn K (.ref f4) = true)
  (a5 : PySem.W.nsIn K mainGlobals "book_of" = some (some (.ref f5))) (l5 : K.lookup f5 = some ⟨oc5, od5, .func (PySem.W.fnOf "book_of" "book_of" (Al EF) (Aj EF) (AC EF) .none kV5 dc5 pm5 an5 cd5 ct5), sl5⟩) (c5 : PySem.W.codeIn K cd5 "book_of" = true) (k5 : PySem.W.keepIn K (.ref f5) = true)
  (a6 : PySem.W.nsIn K mainGlobals "lamps_in" = some (some (.ref f6))) (l6 : K.lookup f6 = some ⟨oc6, od6, .func (PySem.W.fnOf "lamps_in" "lamps_in" (Al Df) (Aj Df) (AC Df) .none kV6 dc6 pm6 an6 cd6 ct6), sl6⟩) (c6 : PySem.W.codeIn K cd6 "lamps_in" = true) (k6 : PySem.W.keepIn K (.ref f6) = true)
  (a7 : PySem.W.nsIn K mainGlobals "denied" = some (some (.ref f7))) (l7 : K.lookup f7 = some ⟨oc7, od7, .func (PySem.W.fnOf "denied" "denied" (Al Ei) (Aj Ei) (AC Ei) .none kV7 dc7 pm7 an7 cd7 ct7), sl7⟩) (c7 : PySem.W.codeIn K cd7 "denied" = true) (k7 : PySem.W.keepIn K (.ref f7) = true)
  (a8 : PySem.W.nsIn K mainGlobals "plain_with_one" = some (some (.ref f8))) (l8 : K.lookup f8 = some ⟨oc8, od8, .func (PySem.W.fnOf "plain_with_one" "plain_with_one" (Al Bt) (Aj Bt) (AC Bt) .none kV8 dc8 pm8 an8 cd8 ct8), sl8⟩) (c8 : PySem.W.codeIn K cd8 "plain_with_one" = true) (k8 : PySem.W.keepIn K (.ref f8) = true)
  (a9 : PySem.W.nsIn K mainGlobals "plain_with_two" = some (some (.ref f9))) (l9 : K.lookup f9 = some ⟨oc9, od9, .func (PySem.W.fnOf "plain_with_two" "plain_with_two" (Al Bp) (Aj Bp) (AC Bp) .none kV9 dc9 pm9 an9 cd9 ct9), sl9⟩) (c9 : PySem.W.codeIn K cd9 "plain_with_two" = true) (k9 : PySem.W.keepIn K (.ref f9) = true)
  (a10 : PySem.W.nsIn K mainGlobals "plain" = some (some (.ref f10))) (l10 : K.lookup f10 = some ⟨oc10, od10, .func (PySem.W.fnOf "plain" "plain" (Al Ew) (Aj Ew) (AC Ew) .none kV10 dc10 pm10 an10 cd10 ct10), sl10⟩) (c10 : PySem.W.codeIn K cd10 "plain" = true) (k10 : PySem.W.keepIn K (.ref f10) = true)
  (a11 : PySem.W.nsIn K mainGlobals "_law_cell_at" = some (some (.ref f11))) (l11 : K.lookup f11 = some ⟨oc11, od11, .func (PySem.W.fnOf "_law_cell_at" "_law_cell_at" (Al CW) (Aj CW) (AC CW) .none kV11 dc11 pm11 an11 cd11 ct11), sl11⟩) (c11 : PySem.W.codeIn K cd11 "_law_cell_at" = true) (k11 : PySem.W.keepIn K (.ref f11) = true)
  (a12 : PySem.W.nsIn K mainGlobals "_law_stream" = some (some (.ref f12))) (l12 : K.lookup f12 = some ⟨oc12, od12, .func (PySem.W.fnOf "_law_stream" "_law_stream" (Al Ct) (Aj Ct) (AC Ct) .none kV12 dc12 pm12 an12 cd12 ct12), sl12⟩) (c12 : PySem.W.codeIn K cd12 "_law_stream" = true) (k12 : PySem.W.keepIn K (.ref f12) = true)
  (a13 : PySem.W.nsIn K mainGlobals "_law_leaf" = some (some (.ref f13))) (l13 : K.lookup f13 = some ⟨oc13, od13, .func (PySem.W.fnOf "_law_leaf" "_law_leaf" (Al Dh) (Aj Dh) (AC Dh) .none kV13 dc13 pm13 an13 cd13 ct13), sl13⟩) (c13 : PySem.W.codeIn K cd13 "_law_leaf" = true) (k13 : PySem.W.keepIn K (.ref f13) = true)
  (a14 : PySem.W.nsIn K mainGlobals "_law_put" = some (some (.ref f14))) (l14 : K.lookup f14 = some ⟨oc14, od14, .func (PySem.W.fnOf "_law_put" "_law_put" (Al EG) (Aj EG) (AC EG) .none kV14 dc14 pm14 an14 cd14 ct14), sl14⟩) (c14 : PySem.W.codeIn K cd14 "_law_put" = true) (k14 : PySem.W.keepIn K (.ref f14) = true)
  (a15 : PySem.W.nsIn K mainGlobals "_law_built" = some (some (.ref f15))) (l15 : K.lookup f15 = some ⟨oc15, od15, .func (PySem.W.fnOf "_law_built" "_law_built" (Al DK) (Aj DK) (AC DK) .none kV15 dc15 pm15 an15 cd15 ct15), sl15⟩) (c15 : PySem.W.codeIn K cd15 "_law_built" = true) (k15 : PySem.W.keepIn K (.ref f15) = true)
  (a16 : PySem.W.nsIn K mainGlobals "_law_onward" = some (some (.ref f16))) (l16 : K.lookup f16 = some ⟨oc16, od16, .func (PySem.W.fnOf "_law_onward" "_law_onward" (Al Cv) (Aj Cv) (AC Cv) .none kV16 dc16 pm16 an16 cd16 ct16), sl16⟩) (c16 : PySem.W.codeIn K cd16 "_law_onward" = true) (k16 : PySem.W.keepIn K (.ref f16) = true)
  (a17 : PySem.W.nsIn K mainGlobals "_law_held_until" = some (some (.ref f17))) (l17 : K.lookup f17 = some ⟨oc17, od17, .func (PySem.W.fnOf "_law_held_until" "_law_held_until" (Al Bs) (Aj Bs) (AC Bs) .none kV17 dc17 pm17 an17 cd17 ct17), sl17⟩) (c17 : PySem.W.codeIn K cd17 "_law_held_until" = true) (k17 : PySem.W.keepIn K (.ref f17) = true)
  (a18 : PySem.W.nsIn K mainGlobals "_law_freed" = some (some (.ref f18))) (l18 : K.lookup f18 = some ⟨oc18, od18, .func (PySem.W.fnOf "_law_freed" "_law_freed" (Al DL) (Aj DL) (AC DL) .none kV18 dc18 pm18 an18 cd18 ct18), sl18⟩) (c18 : PySem.W.codeIn K cd18 "_law_freed" = true) (k18 : PySem.W.keepIn K (.ref f18) = true)
  (a19 : PySem.W.nsIn K mainGlobals "_law_truths_of_one" = some (some (.ref f19))) (l19 : K.lookup f19 = some ⟨oc19, od19, .func (PySem.W.fnOf "_law_truths_of_one" "_law_truths_of_one" (Al BO) (Aj BO) (AC BO) .none kV19 dc19 pm19 an19 cd19 ct19), sl19⟩) (c19 : PySem.W.codeIn K cd19 "_law_truths_of_one" = true) (k19 : PySem.W.keepIn K (.ref f19) = true)
  (a20 : PySem.W.nsIn K mainGlobals "_law_truths_of_two" = some (some (.ref f20))) (l20 : K.lookup f20 = some ⟨oc20, od20, .func (PySem.W.fnOf "_law_truths_of_two" "_law_truths_of_two" (Al BP) (Aj BP) (AC BP) .none kV20 dc20 pm20 an20 cd20 ct20), sl20⟩) (c20 : PySem.W.codeIn K cd20 "_law_truths_of_two" = true) (k20 : PySem.W.keepIn K (.ref f20) = true)
  (a21 : PySem.W.nsIn K mainGlobals "_law_truths" = some (some (.ref f21))) (l21 : K.lookup f21 = some ⟨oc21, od21, .func (PySem.W.fnOf "_law_truths" "_law_truths" (Al CQ) (Aj CQ) (AC CQ) .none kV21 dc21 pm21 an21 cd21 ct21), sl21⟩) (c21 : PySem.W.codeIn K cd21 "_law_truths" = true) (k21 : PySem.W.keepIn K (.ref f21) = true)
  (a22 : PySem.W.nsIn K mainGlobals "_law_cells" = some (some (.ref f22))) (l22 : K.lookup f22 = some ⟨oc22, od22, .func (PySem.W.fnOf "_law_cells" "_law_cells" (Al DN) (Aj DN) (AC DN) .none kV22 dc22 pm22 an22 cd22 ct22), sl22⟩) (c22 : PySem.W.codeIn K cd22 "_law_cells" = true) (k22 : PySem.W.keepIn K (.ref f22) = true)
  (a23 : PySem.W.nsIn K mainGlobals "_law_some" = some (some (.ref f23))) (l23 : K.lookup f23 = some ⟨oc23, od23, .func (PySem.W.fnOf "_law_some" "_law_some" (Al DW) (Aj DW) (AC DW) .none kV23 dc23 pm23 an23 cd23 ct23), sl23⟩) (c23 : PySem.W.codeIn K cd23 "_law_some" = true) (k23 : PySem.W.keepIn K (.ref f23) = true)
  (a24 : PySem.W.nsIn K mainGlobals "_law_letters" = some (some (.ref f24))) (l24 : K.lookup f24 = some ⟨oc24, od24, .func (PySem.W.fnOf "_law_letters" "_law_letters" (Al CV) (Aj CV) (AC CV) .none kV24 dc24 pm24 an24 cd24 ct24), sl24⟩) (c24 : PySem.W.codeIn K cd24 "_law_letters" = true) (k24 : PySem.W.keepIn K (.ref f24) = true)
  (a25 : PySem.W.nsIn K mainGlobals "_law_lit" = some (some (.ref f25))) (l25 : K.lookup f25 = some ⟨oc25, od25, .func (PySem.W.fnOf "_law_lit" "_law_lit" (Al EE) (Aj EE) (AC EE) .none kV25 dc25 pm25 an25 cd25 ct25), sl25⟩) (c25 : PySem.W.codeIn K cd25 "_law_lit" = true) (k25 : PySem.W.keepIn K (.ref f25) = true)
  (a26 : PySem.W.nsIn K mainGlobals "_law_row_told" = some (some (.ref f26))) (l26 : K.lookup f26 = some ⟨oc26, od26, .func (PySem.W.fnOf "_law_row_told" "_law_row_told" (Al CH) (Aj CH) (AC CH) .none kV26 dc26 pm26 an26 cd26 ct26), sl26⟩) (c26 : PySem.W.codeIn K cd26 "_law_row_told" = true) (k26 : PySem.W.keepIn K (.ref f26) = true)
  (a27 : PySem.W.nsIn K mainGlobals "_law_row_fits" = some (some (.ref f27))) (l27 : K.lookup f27 = some ⟨oc27, od27, .func (PySem.W.fnOf "_law_row_fits" "_law_row_fits" (Al CF) (Aj CF) (AC CF) .none kV27 dc27 pm27 an27 cd27 ct27), sl27⟩) (c27 : PySem.W.codeIn K cd27 "_law_row_fits" = true) (k27 : PySem.W.keepIn K (.ref f27) = true)
  (a28 : PySem.W.nsIn K mainGlobals "_law_rows_told" = some (some (.ref f28))) (l28 : K.lookup f28 = some ⟨oc28, od28, .func (PySem.W.fnOf "_law_rows_told" "_law_rows_told" (Al C2) (Aj C2) (AC C2) .none kV28 dc28 pm28 an28 cd28 ct28), sl28⟩) (c28 : PySem.W.codeIn K cd28 "_law_rows_told" = true) (k28 : PySem.W.keepIn K (.ref f28) = true)
  (a29 : PySem.W.nsIn K mainGlobals "law" = some (some (.ref f29))) (l29 : K.lookup f29 = some ⟨oc29, od29, .func (PySem.W.fnOf "law" "law" (Al Fz) (Aj Fz) (AC Fz) .none kV29 dc29 pm29 an29 cd29 ct29), sl29⟩) (c29 : PySem.W.codeIn K cd29 "law" = true) (k29 : PySem.W.keepIn K (.ref f29) = true)
  (gv0 : PySem.W.nsIn K mainGlobals "YES" = some (some (.ref ga0))) (gl0 : K.lookup ga0 = some ⟨.type "tuple", god0, .seq #[.str "yes" tk0] gn0, gsl0⟩)
  (z0 : PySem.W.nsIn K mainGlobals "all" = some none)
  (z1 : PySem.W.nsIn K mainGlobals "any" = some none)
  (z2 : PySem.W.nsIn K mainGlobals "enumerate" = some none)
  (z3 : PySem.W.nsIn K mainGlobals "int" = some none)
  (z4 : PySem.W.nsIn K mainGlobals "isinstance" = some none)
  (z5 : PySem.W.nsIn K mainGlobals "len" = some none)
  (z6 : PySem.W.nsIn K mainGlobals "list" = some none)
  (z7 : PySem.W.nsIn K mainGlobals "range" = some none)
  (z8 : PySem.W.nsIn K mainGlobals "set" = some none)
  (z9 : PySem.W.nsIn K mainGlobals "sorted" = some none)
  (z10 : PySem.W.nsIn K mainGlobals "tuple" = some none) :
  ∃ fd : FuncData, (∀ (s : Shared) (v : Value), BindsTo s fd ⟨[v], []⟩ [("_law_script", v)]) ∧ ∀ base : Heap, K.In base → base.Ns mainGlobals mg → FnOk l.prog w K mg base CX0 164 fa fd ["_law_script"] (sp_law K) := by
 have e := hfa.symm.trans (PySem.W.mg_of X G a29)
 cases e
 have T : Txt K mg := ⟨PySem.W.mg_none_of X G z0, PySem.W.mg_none_of X G z1, PySem.W.mg_none_of X G z2, PySem.W.mg_none_of X G z3, PySem.W.mg_none_of X G z4, PySem.W.mg_none_of X G z5, PySem.W.mg_none_of X G z6, PySem.W.mg_none_of X G z7, PySem.W.mg_none_of X G z8, PySem.W.mg_none_of X G z9, PySem.W.mg_none_of X G z10, ⟨_, PySem.W.mg_of X G gv0, fun G_ => rel_tup1 gl0 (by decide) G_⟩⟩
 have F0 := BJ (st := Dd) l0 c0 k0
 have b0 := F0.bn1 (p0 := "sentence") fun _ _ _ _ _ _ _ => rfl
 have F1 := BJ (st := Cq) l1 c1 k1
 have b1 := F1.bn1 (p0 := "sentence") fun _ _ _ _ _ _ _ => rfl
 have F2 := BJ (st := De) l2 c2 k2
 have b2 := F2.bn1 (p0 := "sentence") fun _ _ _ _ _ _ _ => rfl
 have F3 := BJ (st := Cr) l3 c3 k3
 have b3 := F3.bn3 (p0 := "rows") (p1 := "numbers") (p2 := "row") fun _ _ _ _ _ _ _ _ _ => rfl
 have F4 := BJ (st := s_lay) l4 c4 k4
 have b4 := F4.bn3 (p0 := "rows") (p1 := "numbers") (p2 := "sentence") fun _ _ _ _ _ _ _ _ _ => rfl
 have F5 := BJ (st := EF) l5 c5 k5
 have b5 := F5.bn1 (p0 := "some") fun _ _ _ _ _ _ _ => rfl
 have F6 := BJ (st := Df) l6 c6 k6
 have b6 := F6.bn1 (p0 := "rows") fun _ _ _ _ _ _ _ => rfl
 have F7 := BJ (st := Ei) l7 c7 k7
 have b7 := F7.bn1 (p0 := "plain") fun _ _ _ _ _ _ _ => rfl
 have F8 := BJ (st := Bt) l8 c8 k8
 have b8 := F8.bn2 (p0 := "word") (p1 := "inner") fun _ _ _ _ _ _ _ _ => rfl
 have F9 := BJ (st := Bp) l9 c9 k9
 have b9 := F9.bn3 (p0 := "word") (p1 := "left") (p2 := "right") fun _ _ _ _ _ _ _ _ _ => rfl
 have F10 := BJ (st := Ew) l10 c10 k10
 have b10 := F10.bn1 (p0 := "sentence") fun _ _ _ _ _ _ _ => rfl
 have F11 := BJ (st := CW) l11 c11 k11
 have b11 := F11.bn2 (p0 := "_law_script") (p1 := "_law_k") fun _ _ _ _ _ _ _ _ => rfl
 have F12 := BJ (st := Ct) l12 c12 k12
 have b12 := F12.bn2 (p0 := "_law_cell") (p1 := "_law_many") fun _ _ _ _ _ _ _ _ => rfl
 have F13 := BJ (st := Dh) l13 c13 k13
 have b13 := F13.bn2 (p0 := "_law_number") (p1 := "_law_letters_here") fun _ _ _ _ _ _ _ _ => rfl
 have F14 := BJ (st := EG) l14 c14 k14
 have b14 := F14.bn5 (p0 := "_law_stack") (p1 := "_law_spent") (p2 := "_law_cell") (p3 := "_law_room") (p4 := "_law_letters_here") fun _ _ _ _ _ _ _ _ _ _ _ => rfl
 have F15 := BJ (st := DK) l15 c15 k15
 have b15 := F15.bn3 (p0 := "_law_cells_here") (p1 := "_law_room") (p2 := "_law_letters_here") fun _ _ _ _ _ _ _ _ _ => rfl
 have F16 := BJ (st := Cv) l16 c16 k16
 have b16 := F16.bn3 (p0 := "_law_place") (p1 := "_law_stem") (p2 := "_law_many") fun _ _ _ _ _ _ _ _ _ => rfl
 have F17 := BJ (st := Bs) l17 c17 k17
 have b17 := F17.bn3 (p0 := "_law_one") (p1 := "_law_other") (p2 := "_law_onward_here") fun _ _ _ _ _ _ _ _ _ => rfl
 have F18 := BJ (st := DL) l18 c18 k18
 have b18 := F18.bn3 (p0 := "_law_one") (p1 := "_law_other") (p2 := "_law_onward_here") fun _ _ _ _ _ _ _ _ _ => rfl
 have F19 := BJ (st := BO) l19 c19 k19
 have b19 := F19.bn3 (p0 := "_law_word") (p1 := "_law_one") (p2 := "_law_stem") fun _ _ _ _ _ _ _ _ _ => rfl
 have F20 := BJ (st := BP) l20 c20 k20
 have b20 := F20.bn4 (p0 := "_law_word") (p1 := "_law_one") (p2 := "_law_other") (p3 := "_law_stem") fun _ _ _ _ _ _ _ _ _ _ => rfl
 have F21 := BJ (st := CQ) l21 c21 k21
 have b21 := F21.bn3 (p0 := "_law_told") (p1 := "_law_lit_here") (p2 := "_law_stem") fun _ _ _ _ _ _ _ _ _ => rfl
 have F22 := BJ (st := DN) l22 c22 k22
 have b22 := F22.bn2 (p0 := "_law_script") (p1 := "_law_start") fun _ _ _ _ _ _ _ _ => rfl
 have F23 := BJ (st := DW) l23 c23 k23
 have b23 := F23.bn2 (p0 := "_law_script") (p1 := "_law_letters_here") fun _ _ _ _ _ _ _ _ => rfl
 have F24 := BJ (st := CV) l24 c24 k24
 have b24 := F24.bn1 (p0 := "_law_cell") fun _ _ _ _ _ _ _ => rfl
 have F25 := BJ (st := EE) l25 c25 k25
 have b25 := F25.bn3 (p0 := "_law_cell") (p1 := "_law_many") (p2 := "_law_letters_here") fun _ _ _ _ _ _ _ _ _ => rfl
 have F26 := BJ (st := CH) l26 c26 k26
 have b26 := F26.bn4 (p0 := "_law_row") (p1 := "_law_ahead_of") (p2 := "_law_lit_here") (p3 := "_law_stem") fun _ _ _ _ _ _ _ _ _ _ => rfl
 have F27 := BJ (st := CF) l27 c27 k27
 have b27 := F27.bn2 (p0 := "_law_row") (p1 := "_law_k") fun _ _ _ _ _ _ _ _ => rfl
 have F28 := BJ (st := C2) l28 c28 k28
 have b28 := F28.bn3 (p0 := "_law_rows") (p1 := "_law_lit_here") (p2 := "_law_stem") fun _ _ _ _ _ _ _ _ _ => rfl
 have F29 := BJ (st := Fz) l29 c29 k29
 refine ⟨PySem.W.fnOf "law" "law" (Al Fz) (Aj Fz) (AC Fz) .none kV29 dc29 pm29 an29 cd29 ct29, fun s v => .of_eq rfl, fun base _ _ => ?_⟩
 have D_law_letters : DefOk l.prog w K mg base "_law_letters" 1 ["_law_cell"] (spM K DT) := BB F24 (PySem.W.mg_of X G a24) b24 (ok_law_letters F24 T)
 have D_law_leaf : DefOk l.prog w K mg base "_law_leaf" 1 ["_law_number", "_law_letters_here"] (spM K DI) := BB F13 (PySem.W.mg_of X G a13) b13 (ok_law_leaf F13 T)
 have D_law_put : DefOk l.prog w K mg base "_law_put" 2 ["_law_stack", "_law_spent", "_law_cell", "_law_room", "_law_letters_here"] (spW2 K En) := BB F14 (PySem.W.mg_of X G a14) b14 (ok_law_put F14 T D_law_leaf)
 have D_law_built : DefOk l.prog w K mg base "_law_built" 3 ["_law_cells_here", "_law_room", "_law_letters_here"] (spM K EC) := BB F15 (PySem.W.mg_of X G a15) b15 (ok_law_built F15 T D_law_put D_law_leaf)
 have D_law_cell_at : DefOk l.prog w K mg base "_law_cell_at" 1 ["_law_script", "_law_k"] (spM K Au) := BB F11 (PySem.W.mg_of X G a11) b11 (ok_law_cell_at F11 T)
 have D_law_stream : DefOk l.prog w K mg base "_law_stream" 1 ["_law_cell", "_law_many"] (spM K CY) := BB F12 (PySem.W.mg_of X G a12) b12 (ok_law_stream F12 T)
 have D_law_cells : DefOk l.prog w K mg base "_law_cells" 2 ["_law_script", "_law_start"] (spM K E5) := BB F22 (PySem.W.mg_of X G a22) b22 (ok_law_cells F22 T D_law_cell_at D_law_stream)
 have D_law_some : DefOk l.prog w K mg base "_law_some" 4 ["_law_script", "_law_letters_here"] (spM K EZ) := BB F23 (PySem.W.mg_of X G a23) b23 (ok_law_some F23 T D_law_built D_law_cell_at D_law_cells)
 have D_law_lit : DefOk l.prog w K mg base "_law_lit" 2 ["_law_cell", "_law_many", "_law_letters_here"] (spM K Ex) := BB F25 (PySem.W.mg_of X G a25) b25 (ok_law_lit F25 T D_law_stream)
 have D_parts_of : DefOk l.prog w K mg base "parts_of" 1 ["sentence"] (spM K DM) := BB F0 (PySem.W.mg_of X G a0) b0 (ok_parts_of F0 T)
 have D_row_number : DefOk l.prog w K mg base "row_number" 1 ["rows", "numbers", "row"] (spB K DH) := BB F3 (PySem.W.mg_of X G a3) b3 (ok_row_number F3 T)
 have D_lay : ∀ n : Nat, DefOk l.prog w K mg base "lay" (2 + n) ["rows", "numbers", "sentence"] (spB K (EM AZ n)) := fun n => by
  induction n with
  | zero => exact BB F4 (PySem.W.mg_of X G a4) b4 (ok0_lay F4)
  | succ n ih => exact BB F4 (PySem.W.mg_of X G a4) b4 (ok_lay F4 T D_parts_of D_row_number n ih)
 have D_lay : DefOk l.prog w K mg base "lay" 162 ["rows", "numbers", "sentence"] (spB K (EM AZ 160)) := D_lay 160
 have D_book_of : DefOk l.prog w K mg base "book_of" 163 ["some"] (spN K Eu) := BB F5 (PySem.W.mg_of X G a5) b5 (ok_book_of F5 T D_lay)
 have D_law_row_fits : DefOk l.prog w K mg base "_law_row_fits" 1 ["_law_row", "_law_k"] (spM K DA) := BB F27 (PySem.W.mg_of X G a27) b27 (ok_law_row_fits F27 T)
 have D_law_truths_of_one : DefOk l.prog w K mg base "_law_truths_of_one" 1 ["_law_word", "_law_one", "_law_stem"] (spL K BH) := BB F19 (PySem.W.mg_of X G a19) b19 (ok_law_truths_of_one F19 T)
 have D_law_freed : DefOk l.prog w K mg base "_law_freed" 1 ["_law_one", "_law_other", "_law_onward_here"] (spM K EB) := BB F18 (PySem.W.mg_of X G a18) b18 (ok_law_freed F18 T)
 have D_law_held_until : DefOk l.prog w K mg base "_law_held_until" 1 ["_law_one", "_law_other", "_law_onward_here"] (spM K CZ) := BB F17 (PySem.W.mg_of X G a17) b17 (ok_law_held_until F17 T)
 have D_law_onward : DefOk l.prog w K mg base "_law_onward" 1 ["_law_place", "_law_stem", "_law_many"] (spM K D7) := BB F16 (PySem.W.mg_of X G a16) b16 (ok_law_onward F16 T)
 have D_law_truths_of_two : DefOk l.prog w K mg base "_law_truths_of_two" 2 ["_law_word", "_law_one", "_law_other", "_law_stem"] (spL K BG) := BB F20 (PySem.W.mg_of X G a20) b20 (ok_law_truths_of_two F20 T D_law_freed D_law_held_until D_law_onward)
 have D_law_truths : ∀ n : Nat, DefOk l.prog w K mg base "_law_truths" (3 + n) ["_law_told", "_law_lit_here", "_law_stem"] (spL K (BC n)) := fun n => by
  induction n with
  | zero => exact BB F21 (PySem.W.mg_of X G a21) b21 (ok0_law_truths F21)
  | succ n ih => exact BB F21 (PySem.W.mg_of X G a21) b21 (ok_law_truths F21 T D_law_truths_of_two D_law_truths_of_one n ih)
 have D_law_truths : DefOk l.prog w K mg base "_law_truths" 113 ["_law_told", "_law_lit_here", "_law_stem"] (spL K (BC 110)) := D_law_truths 110
 have D_law_row_told : DefOk l.prog w K mg base "_law_row_told" 114 ["_law_row", "_law_ahead_of", "_law_lit_here", "_law_stem"] (spL K DB) := BB F26 (PySem.W.mg_of X G a26) b26 (ok_law_row_told F26 T D_law_truths_of_one D_law_truths D_law_truths_of_two)
 have D_law_rows_told : DefOk l.prog w K mg base "_law_rows_told" 115 ["_law_rows", "_law_lit_here", "_law_stem"] (spM K D0) := BB F28 (PySem.W.mg_of X G a28) b28 (ok_law_rows_told F28 T D_law_row_fits D_law_row_told)
 have D_denied : DefOk l.prog w K mg base "denied" 1 ["plain"] (spM K C1) := BB F7 (PySem.W.mg_of X G a7) b7 (ok_denied F7 T)
 have D_plain_with_two : DefOk l.prog w K mg base "plain_with_two" 2 ["word", "left", "right"] (spM K Ca) := BB F9 (PySem.W.mg_of X G a9) b9 (ok_plain_with_two F9 T D_denied)
 have D_plain_with_one : DefOk l.prog w K mg base "plain_with_one" 2 ["word", "inner"] (spM K Ce) := BB F8 (PySem.W.mg_of X G a8) b8 (ok_plain_with_one F8 T D_denied)
 have D_plain : ∀ n : Nat, DefOk l.prog w K mg base "plain" (3 + n) ["sentence"] (spM K (D5 n)) := fun n => by
  induction n with
  | zero => exact BB F10 (PySem.W.mg_of X G a10) b10 (ok0_plain F10)
  | succ n ih => exact BB F10 (PySem.W.mg_of X G a10) b10 (ok_plain F10 T D_plain_with_two D_plain_with_one n ih)
 have D_plain : DefOk l.prog w K mg base "plain" 29 ["sentence"] (spM K (D5 26)) := D_plain 26
 have D_lamps_in : DefOk l.prog w K mg base "lamps_in" 1 ["rows"] (spM K ET) := BB F6 (PySem.W.mg_of X G a6) b6 (ok_lamps_in F6 T)
 have D_all_within : DefOk l.prog w K mg base "all_within" 2 ["sentence"] (spM K Dp) := BB F1 (PySem.W.mg_of X G a1) b1 (ok_all_within F1 T D_parts_of)
 have D_lamps_of : DefOk l.prog w K mg base "lamps_of" 3 ["sentence"] (spM K EX) := BB F2 (PySem.W.mg_of X G a2) b2 (ok_lamps_of F2 T D_all_within)
 exact (ok_law F29 T D_law_letters D_law_some D_law_cell_at D_law_lit D_book_of D_law_rows_told D_plain D_lamps_in D_law_truths D_lamps_of).imp fun _ _ _ _ h => law_imp h
theorem walk {l : PySem.W.OpenLaw} {q : Program} {loose : List Str} {XP : (Str → Option Value) → Heap → Prop} {YP : World → Heap → Prop} {d : DefRec} {K : Params → PySem.W.Frag} (hn : l.most = some 63) (hdf : d.params.defaults = [])
  (hY : ∀ (w : World) (h : Heap), YP w h → (K w.params).In h)
  (F : ∀ (w : World) (mg : Str → Option Value) (fa : Addr) (h : Heap), (K w.params).In h → h.Ns mainGlobals mg → mg d.name = some (.ref fa) →
   ∃ fd : FuncData, (∀ (s : Shared) (u : Value), BindsTo s fd ⟨[u], []⟩ [("_law_script", u)]) ∧ ∀ base : Heap, (K w.params).In base → base.Ns mainGlobals mg → FnOk l.prog w (K w.params) mg base CX0 164 fa fd ["_law_script"] (sp_law (K w.params))) :
  PySem.W.WalkO q loose XP YP l.row.toRowW d [] (fun f vs => PySem.call f vs) :=
 L2.walk_of (n := 63) (k := 164) (x := "_law_script") (CX := fun _ => CX0) (sp := fun w => sp_law (K w.params)) hn (by decide) hdf ⟨rfl, by decide, by decide⟩ hY F (fun _ _ a ns hl _ hS => ⟨a, ns, rfl, hS, hl, fun _ => rfl⟩) fun _ _ _ _ _ z => z
end My
open PySem PySem.W PyProof.Rows
theorem PySem.W.Fast.te11883002178618745409 : True := trivial
set_option maxRecDepth 100000 in
set_option maxHeartbeats 0 in
theorem PySem.Challenge.cw_lassoscribe_k19_whole_rows_say_the_same_holds : PySem.Challenge.rw_lassoscribe_k19_whole_rows_say_the_same.Holds := by
 w_on; o_law; k_head; (case hw => w_witness2)
 k_fill
 refine My.walk (l := PySem.Challenge.rw_lassoscribe_k19_whole_rows_say_the_same) rfl rfl (fun w h Y => PySem.W.kIn_of Y) ?F
 case F =>
  intro w mg fa h KX G hmg
  refine' My.all_mk KX G hmg ?a0 ?l0 ?c0 ?k0 ?a1 ?l1 ?c1 ?k1 ?a2 ?l2 ?c2 ?k2 ?a3 ?l3 ?c3 ?k3 ?a4 ?l4 ?c4 ?k4 ?a5 ?l5 ?c5 ?k5 ?a6 ?l6 ?c6 ?k6 ?a7 ?l7 ?c7 ?k7 ?a8 ?l8 ?c8 ?k8 ?a9 ?l9 ?c9 ?k9 ?a10 ?l10 ?c10 ?k10 ?a11 ?l11 ?c11 ?k11 ?a12 ?l12 ?c12 ?k12 ?a13 ?l13 ?c13 ?k13 ?a14 ?l14 ?c14 ?k14 ?a15 ?l15 ?c15 ?k15 ?a16 ?l16 ?c16 ?k16 ?a17 ?l17 ?c17 ?k17 ?a18 ?l18 ?c18 ?k18 ?a19 ?l19 ?c19 ?k19 ?a20 ?l20 ?c20 ?k20 ?a21 ?l21 ?c21 ?k21 ?a22 ?l22 ?c22 ?k22 ?a23 ?l23 ?c23 ?k23 ?a24 ?l24 ?c24 ?k24 ?a25 ?l25 ?c25 ?k25 ?a26 ?l26 ?c26 ?k26 ?a27 ?l27 ?c27 ?k27 ?a28 ?l28 ?c28 ?k28 ?a29 ?l29 ?c29 ?k29 ?gv0 ?gl0 ?z0 ?z1 ?z2 ?z3 ?z4 ?z5 ?z6 ?z7 ?z8 ?z9 ?z10
  (case a0 => k_is)
  (case l0 => k_is)
  (case c0 => k_is)
  (case k0 => k_is)
  (case a1 => k_is)
  (case l1 => k_is)
  (case c1 => k_is)
  (case k1 => k_is)
  (case a2 => k_is)
  (case l2 => k_is)
  (case c2 => k_is)
  (case k2 => k_is)
  (case a3 => k_is)
  (case l3 => k_is)
  (case c3 => k_is)
  (case k3 => k_is)
  (case a4 => k_is)
  (case l4 => k_is)
  (case c4 => k_is)
  (case k4 => k_is)
  (case a5 => k_is)
  (case l5 => k_is)
  (case c5 => k_is)
  (case k5 => k_is)
  (case a6 => k_is)
  (case l6 => k_is)
  (case c6 => k_is)
  (case k6 => k_is)
  (case a7 => k_is)
  (case l7 => k_is)
  (case c7 => k_is)
  (case k7 => k_is)
  (case a8 => k_is)
  (case l8 => k_is)
  (case c8 => k_is)
  (case k8 => k_is)
  (case a9 => k_is)
  (case l9 => k_is)
  (case c9 => k_is)
  (case k9 => k_is)
  (case a10 => k_is)
  (case l10 => k_is)
  (case c10 => k_is)
  (case k10 => k_is)
  (case a11 => k_is)
  (case l11 => k_is)
  (case c11 => k_is)
  (case k11 => k_is)
  (case a12 => k_is)
  (case l12 => k_is)
  (case c12 => k_is)
  (case k12 => k_is)
  (case a13 => k_is)
  (case l13 => k_is)
  (case c13 => k_is)
  (case k13 => k_is)
  (case a14 => k_is)
  (case l14 => k_is)
  (case c14 => k_is)
  (case k14 => k_is)
  (case a15 => k_is)
  (case l15 => k_is)
  (case c15 => k_is)
  (case k15 => k_is)
  (case a16 => k_is)
  (case l16 => k_is)
  (case c16 => k_is)
  (case k16 => k_is)
  (case a17 => k_is)
  (case l17 => k_is)
  (case c17 => k_is)
  (case k17 => k_is)
  (case a18 => k_is)
  (case l18 => k_is)
  (case c18 => k_is)
  (case k18 => k_is)
  (case a19 => k_is)
  (case l19 => k_is)
  (case c19 => k_is)
  (case k19 => k_is)
  (case a20 => k_is)
  (case l20 => k_is)
  (case c20 => k_is)
  (case k20 => k_is)
  (case a21 => k_is)
  (case l21 => k_is)
  (case c21 => k_is)
  (case k21 => k_is)
  (case a22 => k_is)
  (case l22 => k_is)
  (case c22 => k_is)
  (case k22 => k_is)
  (case a23 => k_is)
  (case l23 => k_is)
  (case c23 => k_is)
  (case k23 => k_is)
  (case a24 => k_is)
  (case l24 => k_is)
  (case c24 => k_is)
  (case k24 => k_is)
  (case a25 => k_is)
  (case l25 => k_is)
  (case c25 => k_is)
  (case k25 => k_is)
  (case a26 => k_is)
  (case l26 => k_is)
  (case c26 => k_is)
  (case k26 => k_is)
  (case a27 => k_is)
  (case l27 => k_is)
  (case c27 => k_is)
  (case k27 => k_is)
  (case a28 => k_is)
  (case l28 => k_is)
  (case c28 => k_is)
  (case k28 => k_is)
  (case a29 => k_is)
  (case l29 => k_is)
  (case c29 => k_is)
  (case k29 => k_is)
  (case gv0 => k_is)
  (case gl0 => k_is)
  (case z0 => k_is)
  (case z1 => k_is)
  (case z2 => k_is)
  (case z3 => k_is)
  (case z4 => k_is)
  (case z5 => k_is)
  (case z6 => k_is)
  (case z7 => k_is)
  (case z8 => k_is)
  (case z9 => k_is)
  (case z10 => k_is)