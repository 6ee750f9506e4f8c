import PyProof.Rows.All
import Wide.All
import OpenK.AllK
import Wide.FinOn
import Lean
import PyProof.EqAt
import PyProof.EqKinds
import PyProof.TupleCall
import PyProof.NeKinds
import PyProof.EnumFor
import PyProof.EnumMake
import PyProof.Rows.EnumRows
import PyProof.Rows.Range3
import PyProof.NoPylong
import PyProof.ListRange
import PyProof.TupleOfSeq
import PyProof.TupleOfStr
import PyProof.Draws
import PyProof.ZipIter
import PyProof.Rows.ZipGen
import PyProof.Rows.SortStr
import PyProof.Rows.TupAdd
import PyProof.SetRoads
import PyProof.Rows.SetFrom
import PyProof.StrWalks
import PyProof.CollectWalk
import KE.KDictList
import PyProof.Tail
import PyProof.TupleIter
import PyProof.AttrMiss
import KE.KDictOf
import OpenK.KTop
import PyProof.Rows.SortRev
import PyProof.Rows.CallKwBuiltin
import PyProof.Rows.CallKw2
import KE.KRevIter
import PyProof.SumWalkG
import PySem.Challenge.RW_lassoscribe_k16_books_laid
theorem bE {α β : Type} {o : Option α} {f : α → Option β} {b : β} {C : Prop} (h : o.bind f = some b) (k : ∀ a, o = some a → f a = some b → C) : C := by
  obtain ⟨a, h1, h2⟩ := Option.bind_eq_some_iff.mp h
  exact k a h1 h2
set_option Elab.async false
set_option linter.all false
set_option maxRecDepth 100000
namespace L2
open PySem PySem.Spec PyProof.Rows
noncomputable abbrev Key := Sum Int Str
noncomputable def keyIs : Key → Value → Bool
  | .inl k, v => Value.isInt k v
  | .inr x, v => Value.isStrOf x v
noncomputable def keyH (w : World) : Key → Int
  | .inl k => hashInt k
  | .inr x => hashStr w x
theorem keyIs_shape : ∀ {k : Key} {v : Value}, keyIs k v = true → (∃ i t, k = Sum.inl i ∧ v = Value.int i t) ∨ (∃ x t, k = Sum.inr x ∧ v = Value.str x t)
  | .inl i, v, h => by
    obtain ⟨t, e⟩ := Value.isInt_shape (k := i) (v := v) h
    exact .inl ⟨i, t, rfl, e⟩
  | .inr x, v, h => by
    obtain ⟨t, e⟩ := Value.isStrOf_shape (x := x) (v := v) h
    exact .inr ⟨x, t, rfl, e⟩
theorem keyIs_int (i : Int) (t : Tok) : keyIs (.inl i) (.int i t) = true := by simp [keyIs, Value.isInt]
theorem keyIs_str (x : Str) (t : Tok) : keyIs (.inr x) (.str x t) = true := by simp [keyIs, Value.isStrOf]
theorem key_ll (a b : Int) : decide ((Sum.inl a : Key) = Sum.inl b) = (a == b) := by
  by_cases e : a = b
  · subst e; simp
  · have h : ¬ (Sum.inl a : Key) = Sum.inl b := fun q => e (Sum.inl.inj q)
    rw [decide_eq_false h]
    exact (beq_eq_false_iff_ne.mpr e).symm
theorem key_rr (a b : Str) : decide ((Sum.inr a : Key) = Sum.inr b) = decide (a = b) := by
  by_cases e : a = b
  · subst e; simp
  · have h : ¬ (Sum.inr a : Key) = Sum.inr b := fun q => e (Sum.inr.inj q)
    rw [decide_eq_false h, decide_eq_false e]
theorem key_lr (a : Int) (b : Str) : decide ((Sum.inl a : Key) = Sum.inr b) = false := decide_eq_false (fun q => nomatch q)
theorem key_rl (a : Str) (b : Int) : decide ((Sum.inr a : Key) = Sum.inl b) = false := decide_eq_false (fun q => nomatch q)
noncomputable def mixKind (prog : Program) (w : World) : PySem.KeyKind prog w Key where
  is := keyIs
  hash := keyH w
  inj := fun v a b ha hb => by
    rcases keyIs_shape ha with ⟨i, t, rfl, rfl⟩ | ⟨x, t, rfl, rfl⟩
    · rcases keyIs_shape hb with ⟨j, u, rfl, e⟩ | ⟨y, u, rfl, e⟩
      · injection e with e1 _; rw [e1]
      · exact nomatch e
    · rcases keyIs_shape hb with ⟨j, u, rfl, e⟩ | ⟨y, u, rfl, e⟩
      · exact nomatch e
      · injection e with e1 _; rw [e1]
  byValue := fun k v h => by
    rcases keyIs_shape h with ⟨i, t, rfl, rfl⟩ | ⟨x, t, rfl, rfl⟩ <;> rfl
  pyHash := fun hv h => by
    rcases keyIs_shape hv with ⟨i, t, rfl, rfl⟩ | ⟨x, t, rfl, rfl⟩
    · exact wpAny_pyHash_int h
    · exact wpAny_pyHash_str h
  eqBool := fun hu hv h => by
    rcases keyIs_shape hu with ⟨i, t, rfl, rfl⟩ | ⟨x, t, rfl, rfl⟩
    · rcases keyIs_shape hv with ⟨j, u, rfl, rfl⟩ | ⟨y, u, rfl, rfl⟩
      · rw [key_ll] at h; exact wpAny_eqBool_int h
      · rw [key_lr] at h; exact SeqAt.EqAt.int_str i t y u _ _ _ _ h
    · rcases keyIs_shape hv with ⟨j, u, rfl, rfl⟩ | ⟨y, u, rfl, rfl⟩
      · rw [key_rl] at h; exact SeqAt.EqAt.str_int x t j u _ _ _ _ h
      · rw [key_rr] at h; exact wpAny_eqBool_str h
  «strs» := fun k x t v h => by
    rcases keyIs_shape h with ⟨i, u, rfl, e⟩ | ⟨y, u, rfl, e⟩
    · exact nomatch e
    · injection e with e1 _
      subst e1
      cases v <;> rfl
theorem mixKind_int (prog : Program) (w : World) (i : Int) (t : Tok) : (mixKind prog w).is (.inl i) (.int i t) = true := keyIs_int i t
theorem mixKind_str (prog : Program) (w : World) (x : Str) (t : Tok) : (mixKind prog w).is (.inr x) (.str x t) = true := keyIs_str x t
end L2
namespace L2
open PySem PySem.Spec PyProof.Rows
inductive V where
  | non | bl (b : Bool) | int (i : Int) | str (x : Str) | byt (b : Array UInt8) | flt (b : UInt64) | ref (a : Addr) | ty (n : String)
  deriving DecidableEq
noncomputable def RelV : V → Value → Prop
  | .non, u => u = Value.none
  | .bl b, u => u = Value.bool b
  | .int i, u => ∃ t, u = Value.int i t
  | .str x, u => ∃ t, u = Value.str x t
  | .byt b, u => ∃ t, u = Value.bytes b t
  | .flt b, u => ∃ t, u = Value.float b t
  | .ref a, u => u = Value.ref a
  | .ty n, u => u = Value.type n
noncomputable abbrev Vals : List V → List Value → Prop := Paired RelV
theorem Vals.length {xs : List V} {us : List Value} (r : Vals xs us) : xs.length = us.length := Paired.length r
theorem Vals.get : ∀ {xs : List V} {us : List Value} {i : Nat} {x : V}, Vals xs us → xs[i]? = some x → ∃ u, us[i]? = some u ∧ RelV x u
  | _, _, _, _, .nil, e => by simp at e
  | _, _, 0, _, .cons r _, e => by simp at e; subst e; exact ⟨_, rfl, r⟩
  | _, _, i + 1, x, .cons _ t, e => by
    obtain ⟨u, h1, h2⟩ := Vals.get (i := i) (x := x) t (by simpa using e)
    exact ⟨u, by simpa using h1, h2⟩
theorem Vals.set {x : V} {u : Value} (r : RelV x u) : ∀ {xs : List V} {us : List Value} (i : Nat), Vals xs us → Vals (xs.set i x) (us.set i u)
  | _, _, _, .nil => .nil
  | _, _, 0, .cons _ t => .cons r t
  | _, _, i + 1, .cons q t => .cons q (Vals.set r i t)
theorem Vals.append : ∀ {xs ys : List V} {us ws : List Value}, Vals xs us → Vals ys ws → Vals (xs ++ ys) (us ++ ws)
  | _, _, _, _, .nil, s => s
  | _, _, _, _, .cons r t, s => .cons r (Vals.append t s)
theorem Vals.take : ∀ {xs : List V} {us : List Value} (n : Nat), Vals xs us → Vals (xs.take n) (us.take n)
  | _, _, 0, _ => .nil
  | _, _, _ + 1, .nil => .nil
  | _, _, n + 1, .cons r t => .cons r (Vals.take n t)
theorem Vals.drop : ∀ {xs : List V} {us : List Value} (n : Nat), Vals xs us → Vals (xs.drop n) (us.drop n)
  | _, _, 0, r => r
  | _, _, _ + 1, .nil => .nil
  | _, _, n + 1, .cons _ t => Vals.drop n t
noncomputable def RelO : Option V → Option Value → Prop
  | some v, some u => RelV v u
  | none, none => True
  | _, _ => False
noncomputable def KV {κ : Type} : List (κ × V) → List (κ × Value) → Prop := Paired fun (p : κ × V) (q : κ × Value) => p.1 = q.1 ∧ RelV p.2 q.2
noncomputable def kV : Key → V
  | .inl i => .int i
  | .inr x => .str x
inductive HO where
  | lst (xs : List V)
  | tup (xs : List V)
  | dK (kvs : List (Key × V)) | dT (kvs : List (List Key × V))
  | set (S : Int → Bool) (n : Nat)
  | ins (C dx : Addr) (fs : List (Str × V))
  | own (x : Addr)
  | xd (fs : List (Str × V))
  | met (f x : Addr)
  | rng (lo hi : Int)
  | frz (o : Obj) (u : HO)
  | tbl (ps : Array Value)
  | ext (φ : Heap → Prop)
noncomputable abbrev Hp := Addr → Option HO
noncomputable def upd (H : Hp) (a : Addr) (o : HO) : Hp := fun b => if b = a then some o else H b
theorem upd_same {H : Hp} {a : Addr} {o : HO} : upd H a o a = some o := by unfold upd; rw [if_pos rfl]
theorem upd_ne {H : Hp} {a b : Addr} {o : HO} (h : b ≠ a) : upd H a o b = H b := by unfold upd; rw [if_neg h]
theorem ne_of {H : Hp} {a b : Addr} {o u : HO} (h : H a = some o) (h' : H b = some u) (d : o ≠ u) : a ≠ b := by
  intro e; subst e; rw [h] at h'; exact d (Option.some.inj h')
theorem ne_of_none {H : Hp} {a b : Addr} {o : HO} (h : H a = some o) (h' : H b = none) : a ≠ b := by
  intro e; subst e; rw [h] at h'; cases h'
section
variable (P : Program) (w : World)
noncomputable def ObjOk (H : Hp) (h : Heap) (a : Addr) : HO → Prop
  | .lst xs => xs.length ≤ sizeLine ∧ ∃ (its : List Value) (n : Nat), Vals xs its ∧ h.get? a = some { cls := .type "list", data := .seq its.toArray n }
  | .tup xs => xs.length ≤ sizeLine ∧ ∃ its : List Value, Vals xs its ∧ IsTup h a its.toArray
  | .dK kvs => kvs.length ≤ sizeLine ∧ (a == sysModules) = false ∧ ∃ vs, KV kvs vs ∧ h.DictOf (mixKind P w) a vs
  | .dT kvs => kvs.length ≤ sizeLine ∧ (a == sysModules) = false ∧ ∃ xs : List (List Key × Addr × Value),
      Paired (fun (p : List Key × V) (q : List Key × Addr × Value) => p.1 = q.1 ∧ H q.2.1 = some (.tup (p.1.map kV)) ∧ RelV p.2 q.2.2) kvs xs ∧
      ∃ o es ep, h.get? a = some o ∧ o.ExactDict ∧ o.data = .dict es ep ∧ es.toList = xs.map (entryOfKey (tupleKind (mixKind P w))) ∧ (xs.map (·.1)).Nodup
  | .set S n => h.SetOf (intKind P w) a S n
  | .ins C dx fs => H dx = some (.own a) ∧ fs.length ≤ 1000 ∧ dx ≠ a ∧ h.get? a = some (PySem.W.instObj C dx) ∧
      ∃ mA, h.Ns1 dx mA ∧ (∀ f, RelO (fs.lookup f) (mA f)) ∧ PySem.Within mA (fs.map (·.1))
  | .own _ => ∃ o, h.get? a = some o
  | .xd fs => ∃ mA, h.Ns1 a mA ∧ ∀ f, RelO (fs.lookup f) (mA f)
  | .rng lo hi => ∃ t u v, h.get? a = some { cls := .type "range", data := .fields #[.int lo t, .int hi u, .int 1 v] }
  | .frz o u => h.get? a = some o ∧ ObjOk H h a u
  | .tbl ps => h.get? a = some { cls := .none, data := .fields ps }
  | .met f x => h.get? a = some (PySem.W.methodObj (.ref f) (.ref x))
  | .ext φ => φ h ∧ (∃ o, h.get? a = some o) ∧ ∀ h1 h2 : Heap, φ h1 → (∀ o, h1.get? a = some o → h2.get? a = some o) → φ h2
noncomputable def HOk (H : Hp) (h : Heap) : Prop := ∀ a o, H a = some o → ObjOk P w H h a o
end
section
variable {P : Program} {w : World} {H H' : Hp} {h h' : Heap} {a : Addr} {o : HO}
theorem ObjOk.lt (x : ObjOk P w H h a o) : a < h.objs.size := by
  cases o with
  | lst xs => obtain ⟨_, _, _, _, e⟩ := x; exact Heap.lt_size e
  | tup xs => obtain ⟨_, _, _, p⟩ := x; exact p.lt
  | dK kvs => obtain ⟨_, _, _, _, o, _, _, e, _⟩ := x; exact Heap.lt_size e
  | dT kvs => obtain ⟨_, _, _, _, o, _, _, e, _⟩ := x; exact Heap.lt_size e
  | set S n => obtain ⟨o, _, _, _, e, _⟩ := x; exact Heap.lt_size e
  | ins C dx fs => obtain ⟨_, _, _, e, _⟩ := x; exact Heap.lt_size e
  | own y => obtain ⟨_, e⟩ := x; exact Heap.lt_size e
  | xd fs => obtain ⟨_, ⟨_, _, _, e, _⟩, _⟩ := x; exact Heap.lt_size e
  | rng lo hi => obtain ⟨_, _, _, e⟩ := x; exact Heap.lt_size e
  | frz ob u => obtain ⟨e, _⟩ := x; exact Heap.lt_size e
  | tbl ps => exact Heap.lt_size (show h.get? a = some _ from x)
  | met f y => exact Heap.lt_size (show h.get? a = some _ from x)
  | ext φ => obtain ⟨_, ⟨_, e⟩, _⟩ := x; exact Heap.lt_size e
theorem Paired.mapP {α β : Type} {F G : α → β → Prop} : ∀ {l₁ : List α} {l₂ : List β}, Paired F l₁ l₂ → (∀ a b, F a b → G a b) → Paired G l₁ l₂
  | _, _, .nil, _ => .nil
  | _, _, .cons r t, f => .cons (f _ _ r) (Paired.mapP t f)
theorem Paired.imp' {α β : Type} {F G : α → β → Prop} (f : ∀ a b, F a b → G a b) {l₁ : List α} {l₂ : List β} (r : Paired F l₁ l₂) : Paired G l₁ l₂ := Paired.mapP r f
theorem ObjOk.stay (x : ObjOk P w H h a o) (k : ∀ b u, (b = a ∨ H b = some (.own a)) → h.get? b = some u → h'.get? b = some u)
    (ho : ∀ b, H b = some (.own a) → H' b = some (.own a)) (ht : ∀ b xs, H b = some (.tup xs) → H' b = some (.tup xs)) : ObjOk P w H' h' a o := by
  induction o with
  | lst xs => obtain ⟨z, its, n, r, e⟩ := x; exact ⟨z, its, n, r, k _ _ (.inl rfl) e⟩
  | tup xs => obtain ⟨z, its, r, ob, e, c⟩ := x; exact ⟨z, its, r, ob, k _ _ (.inl rfl) e, c⟩
  | dK kvs => obtain ⟨z, y, vs, r, ob, es, ep, e, c⟩ := x; exact ⟨z, y, vs, r, ob, es, ep, k _ _ (.inl rfl) e, c⟩
  | dT kvs =>
    obtain ⟨z, y, xs, r, ob, es, ep, e, c⟩ := x
    exact ⟨z, y, xs, Paired.mapP r fun p q z => ⟨z.1, ht _ _ z.2.1, z.2.2⟩, ob, es, ep, k _ _ (.inl rfl) e, c⟩
  | set S n => obtain ⟨ob, es, ep, t, e, c⟩ := x; exact ⟨ob, es, ep, t, k _ _ (.inl rfl) e, c⟩
  | ins C dx fs =>
    obtain ⟨d, z, ne, e, mA, ⟨od, es, ep, e2, c⟩, r⟩ := x
    exact ⟨ho _ d, z, ne, k _ _ (.inl rfl) e, mA, ⟨od, es, ep, k _ _ (.inr d) e2, c⟩, r⟩
  | own y => obtain ⟨ob, e⟩ := x; exact ⟨ob, k _ _ (.inl rfl) e⟩
  | xd fs => obtain ⟨mA, ⟨od, es, ep, e, c⟩, r⟩ := x; exact ⟨mA, ⟨od, es, ep, k _ _ (.inl rfl) e, c⟩, r⟩
  | rng lo hi => obtain ⟨t, u, v, e⟩ := x; exact ⟨t, u, v, k _ _ (.inl rfl) e⟩
  | frz ob u ih => obtain ⟨e, q⟩ := x; exact ⟨k _ _ (.inl rfl) e, ih q⟩
  | tbl ps =>
    have e : h.get? a = some { cls := .none, data := .fields ps } := x
    show h'.get? a = some { cls := .none, data := .fields ps }
    exact k a _ (.inl rfl) e
  | met f y =>
    have e : h.get? a = some (PySem.W.methodObj (.ref f) (.ref y)) := x
    show h'.get? a = some (PySem.W.methodObj (.ref f) (.ref y))
    exact k a _ (.inl rfl) e
  | ext φ => obtain ⟨p, ⟨o, e⟩, st⟩ := x; exact ⟨st _ _ p fun o q => k _ _ (.inl rfl) q, ⟨o, k _ _ (.inl rfl) e⟩, st⟩
theorem HOk.lt (x : HOk P w H h) (e : H a = some o) : a < h.objs.size := (x a o e).lt
theorem HOk.fresh (x : HOk P w H h) (e : h.objs.size ≤ a) : H a = none := by
  cases q : H a with
  | none => rfl
  | some u => exact absurd (Nat.lt_of_lt_of_le (x.lt q) e) (Nat.lt_irrefl _)
theorem HOk.kept (x : HOk P w H h) (k : ∀ b u, h.get? b = some u → h'.get? b = some u) : HOk P w H h' := fun a o e =>
  (x a o e).stay (fun b u _ q => k b u q) (fun _ q => q) fun _ _ q => q
theorem HOk.laid (x : HOk P w H h) (k : ∀ b u, h.get? b = some u → h'.get? b = some u) (hp : h.objs.size ≤ a) (new : ObjOk P w (upd H a o) h' a o) : HOk P w (upd H a o) h' := fun b u e => by
  have hn := x.fresh hp
  by_cases hb : b = a
  · subst hb; rw [upd_same] at e; cases e; exact new
  · rw [upd_ne hb] at e
    exact (x b u e).stay (fun c v _ q => k c v q) (fun c q => by rw [upd_ne (ne_of_none q hn)]; exact q) fun c xs q => by rw [upd_ne (ne_of_none q hn)]; exact q
end
noncomputable def Rd (H : Hp) (a : Addr) (u : HO) : Prop := H a = some u ∨ ∃ o, H a = some (.frz o u)
theorem Rd.of {H : Hp} {a : Addr} {u : HO} (h : H a = some u) : Rd H a u := .inl h
theorem Rd.ok {P : Program} {w : World} {H : Hp} {h : Heap} {a : Addr} {u : HO} (r : Rd H a u) (x : HOk P w H h) : ObjOk P w H h a u := by
  rcases r with r | ⟨o, r⟩
  · exact x a u r
  · obtain ⟨_, q⟩ := x a _ r
    exact q
noncomputable def Mut : Option HO → Prop
  | some (.lst _) => True
  | some (.dK _) => True
  | some (.dT _) => True
  | some (.set _ _) => True
  | some (.ins _ _ _) => True
  | some (.ext _) => True
  | _ => False
section
variable {P : Program} {w : World} {H : Hp} {h h' : Heap} {x e : Addr} {o' : HO}
theorem HOk.write (ok : HOk P w H h) (mu : Mut (H x)) (he : e = x ∨ H e = some (.own x)) (k : ∀ b u, b ≠ e → h.get? b = some u → h'.get? b = some u) (heo : ∃ u, h'.get? e = some u)
    (new : ObjOk P w (upd H x o') h' x o') : HOk P w (upd H x o') h' := fun b u q => by
  have nown : ∀ c y, H c = some (.own y) → c ≠ x := fun c y r z => by subst z; rw [r] at mu; exact mu
  have ntup : ∀ c xs, H c = some (.tup xs) → c ≠ x := fun c xs r z => by subst z; rw [r] at mu; exact mu
  by_cases hb : b = x
  · subst hb; rw [upd_same] at q; cases q; exact new
  · rw [upd_ne hb] at q
    by_cases hbe : b = e
    · have q' : H b = some (.own x) := by
        rcases he with z | z
        · exact absurd (hbe.trans z) hb
        · rw [hbe]; exact z
      rw [q] at q'; cases q'
      obtain ⟨v, hv⟩ := heo
      exact ⟨v, by rw [hbe]; exact hv⟩
    · refine (ok b u q).stay (fun c v hc r => k c v ?_ r) (fun c r => by rw [upd_ne (nown c b r)]; exact r) fun c xs r => by rw [upd_ne (ntup c xs r)]; exact r
      rcases hc with rfl | hc
      · exact hbe
      · rintro rfl
        rcases he with z | z
        · exact nown c b hc z
        · rw [hc] at z; cases z; exact hb rfl
end
structure Un (fs ex : List Addr) (H H' : Hp) (h h' : Heap) : Prop where
  keep : ∀ b o, h.get? b = some o → H b = none → b ∉ fs → b ∉ ex → h'.get? b = some o
  slot : ∀ b o, h.get? b = some o → H b = none → b ∈ fs → b ∉ ex → ∃ sl, h'.get? b = some { o with slots := sl }
  free : ∀ b o, h.get? b = some o → H b = none → b ∉ ex → H' b = none
  there : ∀ b o, h.get? b = some o → b ∉ ex → ∃ o', h'.get? b = some o'
  tups : ∀ b xs, H b = some (.tup xs) → H' b = some (.tup xs)
  frzs : ∀ b o u, H b = some (.frz o u) → H' b = some (.frz o u)
  tbls : ∀ b ps, H b = some (.tbl ps) → ∃ more, H' b = some (.tbl (ps ++ more))
section
variable {fs fs' ex ex' : List Addr} {H H1 H2 : Hp} {h h1 h2 h' : Heap} {a x e : Addr} {o : HO}
theorem Un.any (u : Un fs ex H H1 h h1) {b : Addr} {ob : Obj} (q : h.get? b = some ob) (n : H b = none) (hx : b ∉ ex) : ∃ sl, h1.get? b = some { ob with slots := sl } := by
  by_cases hb : b ∈ fs
  · exact u.slot b ob q n hb hx
  · exact ⟨ob.slots, u.keep b ob q n hb hx⟩
theorem Un.trans (a : Un fs ex H H1 h h1) (b : Un fs ex H1 H2 h1 h2) : Un fs ex H H2 h h2 where
  keep := fun c ob q n hc hx => b.keep c ob (a.keep c ob q n hc hx) (a.free c ob q n hx) hc hx
  slot := fun c ob q n hc hx => by
    obtain ⟨sl, e1⟩ := a.slot c ob q n hc hx
    obtain ⟨sl', e2⟩ := b.slot c _ e1 (a.free c ob q n hx) hc hx
    exact ⟨sl', e2⟩
  free := fun c ob q n hx => by
    obtain ⟨o', e1⟩ := a.there c ob q hx
    exact b.free c o' e1 (a.free c ob q n hx) hx
  there := fun c ob q hx => by
    obtain ⟨o', e1⟩ := a.there c ob q hx
    exact b.there c o' e1 hx
  tups := fun c xs q => b.tups c xs (a.tups c xs q)
  frzs := fun c ob xs q => b.frzs c ob xs (a.frzs c ob xs q)
  tbls := fun c ps q => by
    obtain ⟨m1, e1⟩ := a.tbls c ps q
    obtain ⟨m2, e2⟩ := b.tbls c _ e1
    exact ⟨m1 ++ m2, by rw [e2, Array.append_assoc]⟩
theorem Un.kept (k : ∀ b u, h.get? b = some u → h'.get? b = some u) : Un fs ex H H h h' :=
  ⟨fun b ob q _ _ _ => k b ob q, fun b ob q _ _ _ => ⟨ob.slots, k b ob q⟩, fun _ _ _ n _ => n, fun b ob q _ => ⟨ob, k b ob q⟩, fun _ _ q => q, fun _ _ _ q => q, fun _ ps q => ⟨#[], by rw [q]; simp⟩⟩
theorem Un.refl : Un fs ex H H h h := Un.kept fun _ _ q => q
theorem Un.laid (k : ∀ b u, h.get? b = some u → h'.get? b = some u) (hp : h.objs.size ≤ a) (hn : H a = none) : Un fs ex H (upd H a o) h h' where
  keep := fun b u q _ _ _ => k b u q
  slot := fun b u q _ _ _ => ⟨u.slots, k b u q⟩
  free := fun b u q n _ => by rw [upd_ne (Nat.ne_of_lt (Nat.lt_of_lt_of_le (Heap.lt_size q) hp))]; exact n
  there := fun b u q _ => ⟨u, k b u q⟩
  tups := fun b xs q => by rw [upd_ne (ne_of_none q hn)]; exact q
  frzs := fun b u xs q => by rw [upd_ne (ne_of_none q hn)]; exact q
  tbls := fun b ps q => ⟨#[], by rw [upd_ne (ne_of_none q hn), q]; simp⟩
theorem Un.write (mu : Mut (H x)) (he : e = x ∨ H e = some (.own x)) (k : ∀ b u, b ≠ e → h.get? b = some u → h'.get? b = some u) (heo : ∃ u, h'.get? e = some u) : Un fs ex H (upd H x o) h h' := by
  have hx : ∀ b, H b = none → b ≠ x := fun b n z => by subst z; rw [n] at mu; exact mu
  have hb : ∀ b, H b = none → b ≠ e := fun b n z => by
    subst z
    rcases he with r | r
    · exact hx b n r
    · rw [n] at r; cases r
  have hm : ∀ b u, H b = some u → ¬ Mut (some u) → b ≠ x := fun b u q nm z => by subst z; rw [q] at mu; exact nm mu
  refine ⟨fun b u q n _ _ => k b u (hb b n) q, fun b u q n _ _ => ⟨u.slots, k b u (hb b n) q⟩, fun b u q n _ => by rw [upd_ne (hx b n)]; exact n, fun b u q _ => ?_,
    fun b xs q => by rw [upd_ne (hm b _ q fun z => z)]; exact q, fun b u xs q => by rw [upd_ne (hm b _ q fun z => z)]; exact q, fun b ps q => ⟨#[], by rw [upd_ne (hm b _ q fun z => z), q]; simp⟩⟩
  by_cases hbe : b = e
  · subst hbe; exact heo
  · exact ⟨u, k b u hbe q⟩
theorem Un.mono (u : Un fs ex H H1 h h1) (hs : ∀ b ∈ fs, b ∈ fs') (hx : ∀ b ∈ ex, b ∈ ex') : Un fs' ex' H H1 h h1 :=
  ⟨fun b ob q n hb he => u.keep b ob q n (fun z => hb (hs b z)) fun z => he (hx b z), fun _ _ q n _ he => u.any q n fun z => he (hx _ z), fun b ob q n he => u.free b ob q n fun z => he (hx b z), fun b ob q he => u.there b ob q fun z => he (hx b z), u.tups, u.frzs, u.tbls⟩
end
noncomputable def trk (h : Heap) (H : Hp) : List Addr := (List.range h.objs.size).filter fun a => (H a).isSome
noncomputable def hidT (h : Heap) (H : Hp) : Heap := PySem.W.hideAll h (trk h H)
theorem hidT_size (h : Heap) (H : Hp) : (hidT h H).objs.size = h.objs.size := PySem.W.hideAll_size _ _
theorem hidT_get {h : Heap} {H : Hp} {b : Addr} {o : Obj} (e : h.get? b = some o) (n : H b = none) : (hidT h H).get? b = some o :=
  PySem.W.hideAll_get _ e fun hm => by
    have q : (H b).isSome = true := (List.mem_filter.mp hm).2
    rw [n] at q; simp at q
theorem of_hidT {h : Heap} {H : Hp} {b : Addr} {o : Obj} (e : (hidT h H).get? b = some o) : h.get? b = some o ∧ H b = none := by
  have e' : h.get? b = some o := PySem.W.of_hideAll (trk h H) e
  refine ⟨e', ?_⟩
  cases q : H b with
  | none => rfl
  | some x =>
    have hm : b ∈ trk h H := List.mem_filter.mpr ⟨List.mem_range.mpr (Heap.lt_size e'), by simp [q]⟩
    have z : (hidT h H).get? b = none := PySem.W.hideAll_none (trk h H) hm
    rw [z] at e; cases e
noncomputable def allNews (g h : Heap) (L : Addr) : List (Addr × Obj) := (List.range h.objs.size).filterMap fun a => if a = L ∨ (g.get? a).isSome = true then none else (h.get? a).map fun o => (a, o)
noncomputable def rest (g h : Heap) (L d : Addr) : List (Addr × Obj) := (allNews g h L).filter fun p => decide (p.1 ≠ d)
end L2
namespace L2
open PySem PySem.Spec PyProof.Rows
structure Mod (K : PySem.W.Frag) (mg : Str → Option Value) (base : Heap) : Prop where
  kin : K.In base
  glob : base.Ns mainGlobals mg
  blt : ∃ mb, base.Ns builtinsNs mb ∧ ∀ x : Str, x ≠ "__name__" → mb x = bootBuiltins x
  nolimit : base.NoLimit
structure Cx where
  prog : Program
  w : World
  K : PySem.W.Frag
  mg : Str → Option Value
  base : Heap
  A : Around
  N : List Str
  s₀ : Shared
  H₀ : Hp
  env : Env
  outer : List Env
  stack : List Env
  ex : List Addr
  fn : Str → Bool
  calm : Bool
  pn : List (Addr × Obj)
  xe : Value → Shared → Prop
noncomputable def frs (l : List Env) : List Addr := l.filterMap (·.frame)
noncomputable abbrev Cx.fs (X : Cx) : List Addr := frs X.outer
noncomputable def Vis (sc : Scope) (x : Str) : Prop := sc.names.lookup x = some .local ∨ sc.names.lookup x = some .cell ∨ sc.names.lookup x = some .free
noncomputable def Loc (sc : Scope) (x : Str) : Prop := sc.names.lookup x = some .local ∨ sc.names.lookup x = some .cell
noncomputable def Look (env : Env) (h : Heap) (m : Str → Option Value) (x : Str) (u : Value) : Prop :=
  (env.kindOf x = some .local ∧ m x = some u) ∨ ((env.kindOf x = some .cell ∨ env.kindOf x = some .free) ∧ ∃ c, env.cells.lookup x = some c ∧ h.IsCell c (some u))
structure Cx.Ok (X : Cx) : Prop where
  mod : Mod X.K X.mg X.base
  kind : X.env.scope.kind = .function
  glob : X.env.globals = mainGlobals
  blt : X.env.builtins = builtinsNs
  above : X.s₀.heap.objs.size ≤ X.env.locals
  inj : ∀ x y c, X.env.cells.lookup x = some c → X.env.cells.lookup y = some c → x = y
  has : ∀ x, (X.env.kindOf x = some .cell ∨ X.env.kindOf x = some .free) → ∃ c, X.env.cells.lookup x = some c
  cab : ∀ x c, X.fn x = true → X.env.cells.lookup x = some c → X.s₀.heap.objs.size ≤ c
  hd : X.calm = true → X.A.handled = none
  frames : X.A.frames = some X.stack
  stk : X.stack = X.outer ∨ (X.stack = X.env :: X.outer ∧ X.env.frame = some X.env.locals)
  exf : ∀ b ∈ X.ex, b ≠ X.env.locals ∧ ∀ x c, X.env.cells.lookup x = some c → c ≠ b
  bs : ∀ b o, X.base.get? b = some o → X.s₀.heap.get? b = some o ∧ X.H₀ b = none
  bsz : X.base.objs.size ≤ X.s₀.heap.objs.size
  noex : ∀ b o, X.base.get? b = some o → b ∉ X.ex
  exfs : ∀ b ∈ X.ex, b ∉ X.fs
  funs : X.s₀.heap.FunFrames X.base X.outer
  frf : ∀ b ∈ X.fs, X.H₀ b = none
structure Inv (X : Cx) (pins : List (Addr × Obj)) (σ : List (Option V)) (H : Hp) (s : Shared) : Prop where
  ok : X.Ok
  os : s.os = X.s₀.os
  bare : AllBare s.gens
  base : Un X.fs X.ex X.H₀ H X.s₀.heap s.heap
  loc : ∃ m, s.heap.Ns X.env.locals m ∧ ∀ (i : Nat) (x : Str) (v : V), X.N[i]? = some x → σ[i]? = some (some v) → Vis X.env.scope x → ∃ u, RelV v u ∧ Look X.env s.heap m x u
  cell : ∀ x c, X.env.cells.lookup x = some c → ∃ v, s.heap.IsCell c v
  free : H X.env.locals = none
  freeC : ∀ x c, X.env.cells.lookup x = some c → H c = none
  pin : ∀ p ∈ X.pn ++ pins, s.heap.get? p.1 = some p.2 ∧ H p.1 = none ∧ p.1 ≠ X.env.locals ∧ p.1 ∉ X.fs ∧ ∀ v, p.2.data ≠ .cell v
  hok : HOk X.prog X.w H s.heap
  len : σ.length = X.N.length
section
variable {X : Cx} {pins : List (Addr × Obj)} {σ : List (Option V)} {H H' : Hp} {s : Shared} {h' : Heap}
theorem Cx.Ok.nofr (ok : X.Ok) {b : Addr} {o : Obj} (e : X.base.get? b = some o) : b ∉ X.fs := fun hb => by
  have := (ok.funs.mem hb).1
  rw [e] at this; cases this
theorem Inv.bs (I : Inv X pins σ H s) : ∀ b o, X.base.get? b = some o → s.heap.get? b = some o ∧ H b = none := fun b o e =>
  ⟨I.base.keep b o (I.ok.bs b o e).1 (I.ok.bs b o e).2 (I.ok.nofr e) (I.ok.noex b o e), I.base.free b o (I.ok.bs b o e).1 (I.ok.bs b o e).2 (I.ok.noex b o e)⟩
theorem Inv.bk (I : Inv X pins σ H s) : ∀ b o, X.base.get? b = some o → s.heap.get? b = some o := fun b o e => (I.bs b o e).1
theorem Inv.mod (I : Inv X pins σ H s) : Mod X.K X.mg X.base := I.ok.mod
theorem Inv.kIn (I : Inv X pins σ H s) : X.K.In s.heap := I.ok.mod.kin.keeps I.bk
theorem Inv.nolimit (I : Inv X pins σ H s) : s.heap.NoLimit := I.ok.mod.nolimit.keeps I.bk
theorem Inv.lt (I : Inv X pins σ H s) : X.env.locals < s.heap.objs.size := let ⟨_, hn, _⟩ := I.loc; hn.lt
theorem Inv.sz (I : Inv X pins σ H s) : X.s₀.heap.objs.size ≤ s.heap.objs.size := Nat.le_trans I.ok.above (Nat.le_of_lt I.lt)
theorem Inv.nofs (I : Inv X pins σ H s) {a : Addr} (h : s.heap.objs.size ≤ a) : a ∉ X.fs := fun hb => by
  obtain ⟨_, o, ho, _⟩ := I.ok.funs.mem hb
  exact absurd (Nat.lt_of_lt_of_le (Heap.lt_size ho) (Nat.le_trans I.sz h)) (Nat.lt_irrefl _)
theorem Inv.cne (I : Inv X pins σ H s) : ∀ x c, X.env.cells.lookup x = some c → c ≠ X.env.locals := fun x c e z => by
  obtain ⟨v, o, ho, hd⟩ := I.cell x c e
  obtain ⟨m, ⟨o', es, ep, ho', hd', _⟩, _⟩ := I.loc
  rw [z, ho'] at ho; cases ho; rw [hd'] at hd; cases hd
theorem Inv.funs (I : Inv X pins σ H s) : s.heap.FunFrames X.base X.outer := by
  have all : ∀ (l : List Env), (∀ b ∈ frs l, b ∈ X.fs) → X.s₀.heap.FunFrames X.base l → s.heap.FunFrames X.base l := by
    intro l
    induction l with
    | nil => intro _ _; trivial
    | cons env r ih =>
      intro hs hl
      obtain ⟨hk, ⟨L, o, hf, hn, ho, hd⟩, hr⟩ := hl
      have hL : L ∈ X.fs := hs L (by unfold frs; rw [List.filterMap_cons, hf]; exact List.mem_cons_self)
      obtain ⟨sl, e⟩ := I.base.slot L o ho (I.ok.frf L hL) hL fun z => I.ok.exfs L z hL
      exact ⟨hk, ⟨L, _, hf, hn, e, hd⟩, ih (fun b hb => hs b (by unfold frs; rw [List.filterMap_cons, hf]; exact List.mem_cons_of_mem _ hb)) hr⟩
  exact all X.outer (fun _ hb => hb) I.ok.funs
theorem Inv.stack (I : Inv X pins σ H s) : s.heap.FunFrames X.base X.stack := by
  rcases I.ok.stk with e | ⟨e, hf⟩
  · rw [e]; exact I.funs
  · rw [e]
    obtain ⟨m, hn, _⟩ := I.loc
    refine .cons (by rw [I.ok.kind]; decide) hf hn ?_ I.funs
    exact Heap.get?_none_of_le (Nat.le_trans I.ok.bsz I.ok.above)
theorem Inv.stkSub (I : Inv X pins σ H s) : ∀ b ∈ frs X.stack, b ∈ X.env.locals :: X.fs := fun b hb => by
  rcases I.ok.stk with e | ⟨e, hf⟩
  · rw [e] at hb; exact List.mem_cons_of_mem _ hb
  · rw [e] at hb
    unfold frs at hb
    rw [List.filterMap_cons, hf] at hb
    exact hb
theorem Inv.stkFree (I : Inv X pins σ H s) : ∀ b ∈ frs X.stack, H b = none := fun b hb => by
  rcases List.mem_cons.mp (I.stkSub b hb) with e | hb
  · rw [e]; exact I.free
  · obtain ⟨_, o, ho, _⟩ := I.ok.funs.mem hb
    exact I.base.free b o ho (I.ok.frf b hb) fun z => I.ok.exfs b z hb
theorem Inv.step {g' : Array GenState} {t' : Nat} {d' : Drawn} {ch : List Addr} (I : Inv X pins σ H s)
    (hch : ∀ b ∈ ch, (b ∈ X.ex ∨ X.s₀.heap.objs.size ≤ b) ∧ b ≠ X.env.locals ∧ (∀ x c, X.env.cells.lookup x = some c → c ≠ b) ∧ ∀ p ∈ X.pn ++ pins, p.1 ≠ b)
    (keep : ∀ b o, b ≠ X.env.locals → b ∉ X.fs → b ∉ ch → s.heap.get? b = some o → H b = none → h'.get? b = some o)
    (slot : ∀ b o, b ≠ X.env.locals → b ∈ X.fs → b ∉ ch → s.heap.get? b = some o → H b = none → ∃ sl, h'.get? b = some { o with slots := sl }) (free : ∀ b o, b ∉ ch → s.heap.get? b = some o → H b = none → H' b = none)
    (there : ∀ b o, b ∉ ch → s.heap.get? b = some o → ∃ o', h'.get? b = some o')
    (tups : ∀ b xs, H b = some (.tup xs) → H' b = some (.tup xs)) (frzs : ∀ b o u, H b = some (.frz o u) → H' b = some (.frz o u)) (tbls : ∀ b ps, H b = some (.tbl ps) → ∃ more, H' b = some (.tbl (ps ++ more)))
    (ns : ∀ m, s.heap.Ns X.env.locals m → h'.Ns X.env.locals m) (hok : HOk X.prog X.w H' h') (hg : AllBare g') :
    Inv X pins σ H' { s with heap := h', gens := g', drawn := d', toks := t' } := by
  have neL : ∀ b o, X.s₀.heap.get? b = some o → b ≠ X.env.locals := fun b o e => Nat.ne_of_lt (Nat.lt_of_lt_of_le (Heap.lt_size e) I.ok.above)
  have neC : ∀ b o, X.s₀.heap.get? b = some o → b ∉ X.ex → b ∉ ch := fun b o e hx hb => by
    rcases (hch b hb).1 with z | z
    · exact hx z
    · exact absurd (Nat.lt_of_lt_of_le (Heap.lt_size e) z) (Nat.lt_irrefl _)
  have cellK : ∀ x c, X.env.cells.lookup x = some c → ∀ v, s.heap.IsCell c v → h'.IsCell c v := fun x c e v ⟨o, ho, hd⟩ => by
    have nch : c ∉ ch := fun z => (hch c z).2.2.1 x c e rfl
    by_cases hc : c ∈ X.fs
    · obtain ⟨sl, q⟩ := slot c o (I.cne x c e) hc nch ho (I.freeC x c e)
      exact ⟨_, q, hd⟩
    · exact ⟨o, keep c o (I.cne x c e) hc nch ho (I.freeC x c e), hd⟩
  refine ⟨I.ok, I.os, hg, ⟨fun b o e n hb hx => ?_, fun b o e n hb hx => ?_, fun b o e n hx => ?_, fun b o e hx => ?_, fun b xs e => tups b xs (I.base.tups b xs e), fun b o xs e => frzs b o xs (I.base.frzs b o xs e), fun b ps e => ?_⟩, ?_, fun x c e => ?_, ?_, fun x c e => ?_, fun p hp => ?_, hok, I.len⟩
  · exact keep b o (neL b o e) hb (neC b o e hx) (I.base.keep b o e n hb hx) (I.base.free b o e n hx)
  · obtain ⟨sl, e1⟩ := I.base.slot b o e n hb hx
    obtain ⟨sl', e2⟩ := slot b _ (neL b o e) hb (neC b o e hx) e1 (I.base.free b o e n hx)
    exact ⟨sl', e2⟩
  · obtain ⟨o', e1⟩ := I.base.there b o e hx
    exact free b o' (neC b o e hx) e1 (I.base.free b o e n hx)
  · obtain ⟨o', e1⟩ := I.base.there b o e hx
    exact there b o' (neC b o e hx) e1
  · obtain ⟨m1, e1⟩ := I.base.tbls b ps e
    obtain ⟨m2, e2⟩ := tbls b _ e1
    exact ⟨m1 ++ m2, by rw [e2, Array.append_assoc]⟩
  · obtain ⟨m, hn, hl⟩ := I.loc
    refine ⟨m, ns m hn, fun i x v e1 e2 e3 => ?_⟩
    obtain ⟨u, r, l⟩ := hl i x v e1 e2 e3
    refine ⟨u, r, ?_⟩
    rcases l with l | ⟨k, c, e, z⟩
    · exact .inl l
    · exact .inr ⟨k, c, e, cellK x c e _ z⟩
  · obtain ⟨v, z⟩ := I.cell x c e
    exact ⟨v, cellK x c e v z⟩
  · obtain ⟨m, ⟨o, _, _, ho, _⟩, _⟩ := I.loc
    exact free _ o (fun z => (hch _ z).2.1 rfl) ho I.free
  · obtain ⟨v, o, ho, hd⟩ := I.cell x c e
    exact free c o (fun z => (hch c z).2.2.1 x c e rfl) ho (I.freeC x c e)
  · obtain ⟨e, n, ne, nf, d⟩ := I.pin p hp
    have nch : p.1 ∉ ch := fun z => (hch p.1 z).2.2.2 p hp rfl
    exact ⟨keep p.1 p.2 ne nf nch e n, free p.1 p.2 nch e n, ne, nf, d⟩
theorem Inv.un {t' : Nat} (I : Inv X pins σ H s) (u : Un X.fs [] H H' s.heap h') (hok : HOk X.prog X.w H' h') : Inv X pins σ H' { s with heap := h', toks := t' } := by
  obtain ⟨m, ⟨o, es, ep, ho, r⟩, _⟩ := id I.loc
  obtain ⟨sl, hL⟩ := u.any ho I.free (by simp)
  exact I.step (g' := s.gens) (d' := s.drawn) (ch := []) (fun _ z => nomatch z) (fun b o _ hb _ e n => u.keep b o e n hb (by simp)) (fun b o _ hb _ e n => u.slot b o e n hb (by simp)) (fun b o _ e n => u.free b o e n (by simp)) (fun b o _ e => u.there b o e (by simp)) u.tups u.frzs u.tbls (fun m' hm => by
    obtain ⟨o', es', ep', ho', r'⟩ := hm
    rw [ho] at ho'; cases ho'
    exact ⟨_, es', ep', hL, r'⟩) hok I.bare
theorem Inv.call {g' : Array GenState} {t' : Nat} {d' : Drawn} {ch : List Addr} (I : Inv X pins σ H s) (u : Un (frs X.stack) ch H H' s.heap h') (hok : HOk X.prog X.w H' h') (hg : AllBare g')
    (hch : ∀ b ∈ ch, (b ∈ X.ex ∨ X.s₀.heap.objs.size ≤ b) ∧ b ≠ X.env.locals ∧ (∀ x c, X.env.cells.lookup x = some c → c ≠ b) ∧ ∀ p ∈ X.pn ++ pins, p.1 ≠ b) :
    Inv X pins σ H' { s with heap := h', gens := g', drawn := d', toks := t' } := by
  obtain ⟨m, ⟨o, es, ep, ho, r⟩, _⟩ := id I.loc
  obtain ⟨sl, hL⟩ := u.any ho I.free fun z => (hch _ z).2.1 rfl
  exact I.step (ch := ch) hch (fun b o hL hb hc e n => u.keep b o e n (fun z => (List.mem_cons.mp (I.stkSub b z)).elim hL hb) hc) (fun b o _ _ hc e n => u.any e n hc) (fun b o hc e n => u.free b o e n hc) (fun b o hc e => u.there b o e hc) u.tups u.frzs u.tbls (fun m' hm => by
    obtain ⟨o', es', ep', ho', r'⟩ := hm
    rw [ho] at ho'; cases ho'
    exact ⟨_, es', ep', hL, r'⟩) hok hg
theorem Inv.turned {t' : Nat} {it : Addr} (I : Inv X pins σ H s) (k : ∀ b o, b ≠ it → s.heap.get? b = some o → h'.get? b = some o) (hn : H it = none) (hL : it ≠ X.env.locals)
    (h1 : it ∈ X.ex ∨ X.s₀.heap.objs.size ≤ it) (h2 : ∀ x c, X.env.cells.lookup x = some c → c ≠ it) (h3 : ∀ p ∈ X.pn ++ pins, p.1 ≠ it) : Inv X pins σ H { s with heap := h', toks := t' } := by
  have nit : ∀ b u, H b = some u → b ≠ it := fun b u e z => by rw [z, hn] at e; cases e
  refine I.step (g' := s.gens) (d' := s.drawn) (ch := [it]) (fun b hb => ?_) (fun b o _ _ hc e _ => k b o (fun z => hc (by simp [z])) e) (fun b o _ _ hc e _ => ⟨o.slots, k b o (fun z => hc (by simp [z])) e⟩) (fun _ _ _ _ n => n)
    (fun b o hc e => ⟨o, k b o (fun z => hc (by simp [z])) e⟩) (fun _ _ e => e) (fun _ _ _ e => e) (fun b ps e => ⟨#[], by rw [e]; simp⟩) (fun m hm => ?_) (fun b u e => ?_) I.bare
  · have e : b = it := by simpa using hb
    subst e
    exact ⟨h1, hL, h2, h3⟩
  · obtain ⟨o, es, ep, ho, r⟩ := hm
    exact ⟨o, es, ep, k _ o (Ne.symm hL) ho, r⟩
  · refine (I.hok b u e).stay (fun c v hc q => k c v ?_ q) (fun _ q => q) fun _ _ q => q
    rcases hc with z | z
    · rw [z]; exact nit b u e
    · exact nit c _ z
theorem Inv.tok (I : Inv X pins σ H s) (t : Nat) : Inv X pins σ H { s with toks := t } := I.un (h' := s.heap) (t' := t) Un.refl I.hok
theorem Inv.kept {t' : Nat} (I : Inv X pins σ H s) (k : ∀ b u, s.heap.get? b = some u → h'.get? b = some u) : Inv X pins σ H { s with heap := h', toks := t' } := I.un (Un.kept k) (I.hok.kept k)
theorem Inv.laid {a : Addr} {o : HO} {t' : Nat} (I : Inv X pins σ H s) (k : ∀ b u, s.heap.get? b = some u → h'.get? b = some u) (hp : s.heap.objs.size ≤ a) (new : ObjOk X.prog X.w (upd H a o) h' a o) :
    Inv X pins σ (upd H a o) { s with heap := h', toks := t' } := I.un (Un.laid k hp (I.hok.fresh hp)) (I.hok.laid k hp new)
theorem Inv.write {x e : Addr} {o : HO} {t' : Nat} (I : Inv X pins σ H s) (mu : Mut (H x)) (he : e = x ∨ H e = some (.own x)) (k : ∀ b u, b ≠ e → s.heap.get? b = some u → h'.get? b = some u) (heo : ∃ u, h'.get? e = some u)
    (new : ObjOk X.prog X.w (upd H x o) h' x o) : Inv X pins σ (upd H x o) { s with heap := h', toks := t' } := I.un (Un.write mu he k heo) (I.hok.write mu he k heo new)
theorem Inv.weak {σ' : List (Option V)} (I : Inv X pins σ H s) (hl : σ'.length = σ.length) (w : ∀ (i : Nat) v, σ'[i]? = some (some v) → σ[i]? = some (some v)) : Inv X pins σ' H s :=
  ⟨I.ok, I.os, I.bare, I.base, let ⟨m, hn, hl'⟩ := I.loc; ⟨m, hn, fun i x v e1 e2 e3 => hl' i x v e1 (w i v e2) e3⟩, I.cell, I.free, I.freeC, I.pin, I.hok, hl.trans I.len⟩
theorem Inv.pins_of {pins' : List (Addr × Obj)} (I : Inv X pins σ H s) (h : ∀ p ∈ pins', s.heap.get? p.1 = some p.2 ∧ H p.1 = none ∧ p.1 ≠ X.env.locals ∧ p.1 ∉ X.fs ∧ ∀ v, p.2.data ≠ .cell v) : Inv X pins' σ H s :=
  ⟨I.ok, I.os, I.bare, I.base, I.loc, I.cell, I.free, I.freeC, fun p hp => (List.mem_append.mp hp).elim (fun z => I.pin p (List.mem_append_left _ z)) (h p), I.hok, I.len⟩
theorem nodup_ix {N : List Str} (hN : N.Nodup) {i j : Nat} {x : Str} (a : N[i]? = some x) (b : N[j]? = some x) : i = j := by
  obtain ⟨h1, e1⟩ := List.getElem?_eq_some_iff.mp a
  obtain ⟨h2, e2⟩ := List.getElem?_eq_some_iff.mp b
  exact (List.getElem_inj hN).mp (e1.trans e2.symm)
theorem store_ok2 {M : Model} {A : Around} {E : Value → Shared → Prop} {i : Nat} {x : Str} {v : V} {u : Value} {Q : Unit → Shared → Prop} (I : Inv X pins σ H s) (hN : X.N.Nodup) (hi : X.N[i]? = some x) (hx : Loc X.env.scope x) (r : RelV v u)
    (h : ∀ s', Inv X pins (σ.set i (some v)) H s' → (∃ a, Heap.SameBut a s.heap s'.heap ∧ (a = X.env.locals ∨ X.env.cells.lookup x = some a)) → Q () s') (hf : X.fn x = true ∨ X.env.scope.names.lookup x = some .local := by first | exact .inl rfl | exact .inr rfl | assumption) : wpAny M A (storeName X.env x u) Q E s := by
  obtain ⟨m, hn, hl⟩ := id I.loc
  have hcls : (X.env.scope.kind == .class || (X.env.scope.kind == .module && X.env.locals != X.env.globals)) = false := by rw [I.ok.kind]; rfl
  have hiσ : i < σ.length := by rw [I.len]; exact (List.getElem?_eq_some_iff.mp hi).1
  have cne := I.cne
  have tracked : ∀ {a : Addr} {h' : Heap}, (∃ o, s.heap.get? a = some o ∧ H a = none) → Heap.SameBut a s.heap h' → HOk X.prog X.w H h' := fun {a h'} ha hs b ob e => by
    obtain ⟨_, _, hfree⟩ := ha
    refine (I.hok b ob e).stay (fun c w' hc q => (hs.2 c ?_).trans q) (fun _ q => q) fun _ _ q => q
    rintro rfl
    rcases hc with rfl | hc
    · rw [hfree] at e; cases e
    · rw [hfree] at hc; cases hc
  rcases hx with hk | hk
  · refine wpAny_storeName_local hk hn (fun h' hn' hs => ?_) hcls
    obtain ⟨oL, _, _, hoL, _⟩ := id hn
    refine h _ ⟨I.ok, I.os, I.bare, ⟨fun b o e n hb hx => ?_, fun b o e n hb hx => ?_, I.base.free, fun b o e hx => ?_, I.base.tups, I.base.frzs, I.base.tbls⟩, ⟨_, hn', fun j y v' e1 e2 e3 => ?_⟩, fun y c e => ?_, I.free, I.freeC, fun p hp => ?_, tracked ⟨oL, hoL, I.free⟩ hs, by simpa using I.len⟩ ⟨_, hs, .inl rfl⟩
    · exact (hs.2 b (Nat.ne_of_lt (Nat.lt_of_lt_of_le (Heap.lt_size e) I.ok.above))).trans (I.base.keep b o e n hb hx)
    · obtain ⟨sl, e1⟩ := I.base.slot b o e n hb hx
      exact ⟨sl, (hs.2 b (Nat.ne_of_lt (Nat.lt_of_lt_of_le (Heap.lt_size e) I.ok.above))).trans e1⟩
    · obtain ⟨o', e1⟩ := I.base.there b o e hx
      exact ⟨o', (hs.2 b (Nat.ne_of_lt (Nat.lt_of_lt_of_le (Heap.lt_size e) I.ok.above))).trans e1⟩
    · by_cases hj : j = i
      · subst hj
        rw [hi] at e1; cases e1
        rw [List.getElem?_set_self hiσ] at e2
        cases e2
        exact ⟨u, r, .inl ⟨hk, by simp⟩⟩
      · rw [List.getElem?_set_ne (Ne.symm hj)] at e2
        obtain ⟨u', r', q⟩ := hl j y v' e1 e2 e3
        refine ⟨u', r', ?_⟩
        rcases q with ⟨k, e⟩ | ⟨k, c, e, z⟩
        · refine .inl ⟨k, ?_⟩
          have : y ≠ x := fun e => hj (nodup_ix hN e1 (e ▸ hi))
          simp [this, e]
        · exact .inr ⟨k, c, e, z.sameBut hs (cne y c e)⟩
    · obtain ⟨w', z⟩ := I.cell y c e
      exact ⟨w', z.sameBut hs (cne y c e)⟩
    · obtain ⟨e, n, ne, nf, d⟩ := I.pin p hp
      exact ⟨(hs.2 p.1 ne).trans e, n, ne, nf, d⟩
  · have hfn : X.fn x = true := by
      rcases hf with z | z
      · exact z
      · rw [z] at hk; cases hk
    obtain ⟨c, hc⟩ := I.ok.has x (.inl hk)
    obtain ⟨w', z⟩ := I.cell x c hc
    refine wpAny_storeName_cell I.ok.kind hk hc z (fun h' hc' hs => ?_)
    obtain ⟨oc, hoc, hocd⟩ := id z
    refine h { s with heap := h' } ⟨I.ok, I.os, I.bare, ⟨fun b o e n hb hx => ?_, fun b o e n hb hx => ?_, I.base.free, fun b o e hx => ?_, I.base.tups, I.base.frzs, I.base.tbls⟩, ⟨m, hn.sameBut hs (Ne.symm (cne x c hc)), fun j y v' e1 e2 e3 => ?_⟩, fun y c' e => ?_, I.free, I.freeC, fun p hp => ?_, tracked ⟨oc, hoc, I.freeC x c hc⟩ hs, by simpa using I.len⟩ ⟨c, hs, .inr hc⟩
    · exact (hs.2 b (Nat.ne_of_lt (Nat.lt_of_lt_of_le (Heap.lt_size e) (I.ok.cab x c hfn hc)))).trans (I.base.keep b o e n hb hx)
    · obtain ⟨sl, e1⟩ := I.base.slot b o e n hb hx
      exact ⟨sl, (hs.2 b (Nat.ne_of_lt (Nat.lt_of_lt_of_le (Heap.lt_size e) (I.ok.cab x c hfn hc)))).trans e1⟩
    · obtain ⟨o', e1⟩ := I.base.there b o e hx
      exact ⟨o', (hs.2 b (Nat.ne_of_lt (Nat.lt_of_lt_of_le (Heap.lt_size e) (I.ok.cab x c hfn hc)))).trans e1⟩
    · by_cases hj : j = i
      · subst hj
        rw [hi] at e1; cases e1
        rw [List.getElem?_set_self hiσ] at e2
        cases e2
        exact ⟨u, r, .inr ⟨.inl hk, c, hc, hc'⟩⟩
      · rw [List.getElem?_set_ne (Ne.symm hj)] at e2
        obtain ⟨u', r', q⟩ := hl j y v' e1 e2 e3
        refine ⟨u', r', ?_⟩
        rcases q with q | ⟨k, c', e, z'⟩
        · exact .inl q
        · refine .inr ⟨k, c', e, z'.sameBut hs ?_⟩
          rintro rfl
          exact hj (nodup_ix hN e1 (I.ok.inj _ _ _ e hc ▸ hi))
    · by_cases hcc : c' = c
      · subst hcc; exact ⟨_, hc'⟩
      · obtain ⟨w2, z2⟩ := I.cell y c' e
        exact ⟨w2, z2.sameBut hs hcc⟩
    · obtain ⟨e, n, ne, nf, d⟩ := I.pin p hp
      refine ⟨(hs.2 p.1 ?_).trans e, n, ne, nf, d⟩
      intro q
      rw [q, hoc] at e
      have q' : oc = p.2 := Option.some.inj e
      exact d w' (by rw [← q']; exact hocd)
theorem store_ok {M : Model} {A : Around} {E : Value → Shared → Prop} {i : Nat} {x : Str} {v : V} {u : Value} {Q : Unit → Shared → Prop} (I : Inv X pins σ H s) (hN : X.N.Nodup) (hi : X.N[i]? = some x) (hx : Loc X.env.scope x) (r : RelV v u)
    (h : ∀ s', Inv X pins (σ.set i (some v)) H s' → Q () s') (hf : X.fn x = true ∨ X.env.scope.names.lookup x = some .local := by first | exact .inl rfl | exact .inr rfl | assumption) : wpAny M A (storeName X.env x u) Q E s :=
  store_ok2 I hN hi hx r (fun s' I' _ => h s' I') hf
theorem Inv.call' {s' : Shared} {ch : List Addr} (I : Inv X pins σ H s) (ho : s'.os = s.os) (u : Un (frs X.stack) ch H H' s.heap s'.heap) (hok : HOk X.prog X.w H' s'.heap) (hg : AllBare s'.gens)
    (hch : ∀ b ∈ ch, (b ∈ X.ex ∨ X.s₀.heap.objs.size ≤ b) ∧ b ≠ X.env.locals ∧ (∀ x c, X.env.cells.lookup x = some c → c ≠ b) ∧ ∀ p ∈ X.pn ++ pins, p.1 ≠ b) : Inv X pins σ H' s' := by
  obtain ⟨h', g', d', t', o'⟩ := s'
  have e : o' = s.os := ho
  subst e
  exact I.call (g' := g') (t' := t') (d' := d') u hok hg hch
end
noncomputable abbrev XK := Value → Option Addr → Hp → Prop
noncomputable abbrev St := List (Option V)
noncomputable abbrev VK := V → Hp → Prop
noncomputable abbrev TE := St → Hp → VK → Prop
noncomputable abbrev TT := St → Hp → (Bool → Hp → Prop) → Prop
noncomputable abbrev TA := St → Hp → (List V → Hp → Prop) → Prop
structure Ends where
  nx : St → Hp → Prop
  rt : VK
  bk : St → Hp → Prop := fun _ _ => False
  ct : St → Hp → Prop := fun _ _ => False
noncomputable abbrev TS := Ends → St → Hp → Prop
noncomputable def EP (X : Cx) (pins : List (Addr × Obj)) (σ : St) (Q : VK) (u : Value) (s' : Shared) : Prop := ∃ v H', Inv X pins σ H' s' ∧ RelV v u ∧ Q v H'
noncomputable def TP (X : Cx) (pins : List (Addr × Obj)) (σ : St) (Q : Bool → Hp → Prop) (b : Bool) (s' : Shared) : Prop := ∃ H', Inv X pins σ H' s' ∧ Q b H'
noncomputable def AP (X : Cx) (pins : List (Addr × Obj)) (σ : St) (Q : List V → Hp → Prop) (us : List Value) (s' : Shared) : Prop := ∃ vs H', Inv X pins σ H' s' ∧ Vals vs us ∧ Q vs H'
noncomputable def SP (X : Cx) (pins : List (Addr × Obj)) (D : Ends) (f : Flow) (s' : Shared) : Prop :=
  match f with
  | .next => ∃ σ' H', Inv X pins σ' H' s' ∧ D.nx σ' H'
  | .brk => ∃ σ' H', Inv X pins σ' H' s' ∧ D.bk σ' H'
  | .cont => ∃ σ' H', Inv X pins σ' H' s' ∧ D.ct σ' H'
  | .ret u => ∃ v σ' H', Inv X pins σ' H' s' ∧ RelV v u ∧ D.rt v H'
noncomputable def PE (X : Cx) (e : Expr) (t : TE) : Prop :=
  ∀ (pins : List (Addr × Obj)) (s : Shared) (σ : St) (H : Hp) (Q : VK), Inv X pins σ H s → t σ H Q → wpAny (model X.prog X.w) X.A (eval e X.env) (EP X pins σ Q) X.xe s
noncomputable def PT (X : Cx) (e : Expr) (t : TT) : Prop :=
  ∀ (pins : List (Addr × Obj)) (s : Shared) (σ : St) (H : Hp) (Q : Bool → Hp → Prop), Inv X pins σ H s → t σ H Q → wpAny (model X.prog X.w) X.A (isTrue e X.env (eval e X.env)) (TP X pins σ Q) X.xe s
noncomputable def PW (X : Cx) (e : Expr) (t : TT) : Prop :=
  ∀ (whole : Sem Value) (pins : List (Addr × Obj)) (s : Shared) (σ : St) (H : Hp) (Q : Bool → Hp → Prop), Inv X pins σ H s → t σ H Q → wpAny (model X.prog X.w) X.A (isTrue e X.env whole) (TP X pins σ Q) X.xe s
theorem PW.pt {X : Cx} {e : Expr} {t : TT} (h : PW X e t) : PT X e t := h _
noncomputable def PA (X : Cx) (es : List Expr) (t : TA) : Prop :=
  ∀ (pos : Pos) (pins : List (Addr × Obj)) (s : Shared) (σ : St) (H : Hp) (Q : List V → Hp → Prop), Inv X pins σ H s → t σ H Q → wpAny (model X.prog X.w) X.A (spliced (backTo pos (starEach es X.env))) (AP X pins σ Q) X.xe s
noncomputable def PS (X : Cx) (st : Stmt) (t : TS) : Prop :=
  ∀ (pins : List (Addr × Obj)) (s : Shared) (σ : St) (H : Hp) (D : Ends), Inv X pins σ H s → t D σ H → wpAny (model X.prog X.w) X.A (exec st X.env) (SP X pins D) X.xe s
noncomputable def PSs (X : Cx) (st : List Stmt) (t : TS) : Prop :=
  ∀ (pins : List (Addr × Obj)) (s : Shared) (σ : St) (H : Hp) (D : Ends), Inv X pins σ H s → t D σ H → wpAny (model X.prog X.w) X.A (execs st X.env) (SP X pins D) X.xe s
theorem thn {α : Type} {t : Sem α} {Q Q' : α → Shared → Prop} {M : Model} {A : Around} {E : Value → Shared → Prop} {s : Shared} (h : wpAny M A t Q E s) (hQ : ∀ a s, Q a s → Q' a s) : wpAny M A t Q' E s := wpAny_mono h hQ fun _ _ x => x
end L2
namespace L2
open PySem PySem.Spec PyProof.Rows
section
variable {X : Cx}
noncomputable abbrev tVar (i : Nat) : TE := fun σ H Q => ∃ v, σ[i]? = some (some v) ∧ Q v H
noncomputable abbrev tC (v : V) : TE := fun _ H Q => Q v H
theorem pe_var {i : Nat} {x : Str} {pos : Pos} (hN : X.N[i]? = some x) (hv : Vis X.env.scope x) (hd : (x == ("__debug__" : Str)) = false := by decide) (hcd : (x == ("__classdict__" : Str)) = false := by decide) : PE X (.Name x pos) (tVar i) := by
  intro pins s σ H Q I h
  obtain ⟨v, e, h⟩ := h
  obtain ⟨m, hn, hl⟩ := I.loc
  obtain ⟨u, r, l⟩ := hl i x v hN e hv
  have fin : EP X pins σ Q u s := ⟨v, H, I, r, h⟩
  rcases l with ⟨hk, hm⟩ | ⟨hk, c, hc, hcell⟩
  · exact wpAny_Name (wpAny_loadName_local I.ok.kind hk hn hm fin) hd
  · rcases hk with hk | hk
    · exact wpAny_Name (wpAny_loadName_cell I.ok.kind hk hc hcell fin) hd
    · exact wpAny_Name (wpAny_loadName_free I.ok.kind hk hc hcell fin hcd) hd
theorem pe_int {i j pos} : PE X (.Constant (.int i) j pos) (tC (.int i)) := fun _ _ _ H _ I h => wpAny_Constant_int ⟨.int i, H, I.tok _, ⟨_, rfl⟩, h⟩
theorem pe_bl {b j pos} : PE X (.Constant (.bool b) j pos) (tC (.bl b)) := fun _ _ _ H _ I h => Constant_bool ⟨.bl b, H, I, rfl, h⟩
theorem pe_non {j pos} : PE X (.Constant .none j pos) (tC .non) := fun _ _ _ H _ I h => Constant_none ⟨.non, H, I, rfl, h⟩
theorem pe_str {x j pos} : PE X (.Constant (.str x) j pos) (tC (.str x)) := fun _ _ _ H _ I h => Calls.Constant_str ⟨.str x, H, I.tok _, ⟨_, rfl⟩, h⟩
noncomputable def Gl (X : Cx) (x : Str) : Prop := X.env.kindOf x = some .globalImplicit
theorem ld_glob {E : Value → Shared → Prop} {pins : List (Addr × Obj)} {s : Shared} {σ : St} {H : Hp} {x : Str} {u : Value} {pos : Pos} {Q : Value → Shared → Prop} (I : Inv X pins σ H s) (hg : Gl X x) (hm : X.mg x = some u) (h : Q u s)
    (hd : (x == ("__debug__" : Str)) = false := by decide) : wpAny (model X.prog X.w) X.A (eval (.Name x pos) X.env) Q E s :=
  Calls.Name_function_global I.ok.kind hg (Calls.loadGlobal_global (by rw [I.ok.glob]; exact I.mod.glob.keeps I.bk) hm h) hd
theorem ld_blt {E : Value → Shared → Prop} {pins : List (Addr × Obj)} {s : Shared} {σ : St} {H : Hp} {x : Str} {u : Value} {pos : Pos} {Q : Value → Shared → Prop} (I : Inv X pins σ H s) (hg : Gl X x) (hm : X.mg x = none) (hv : bootBuiltins x = some u) (h : Q u s)
    (hn : x ≠ "__name__" := by decide) (hd : (x == ("__debug__" : Str)) = false := by decide) : wpAny (model X.prog X.w) X.A (eval (.Name x pos) X.env) Q E s := by
  obtain ⟨mb, h1, h2⟩ := I.mod.blt
  exact Calls.Name_function_global I.ok.kind hg (Calls.loadGlobal_builtin (by rw [I.ok.glob]; exact I.mod.glob.keeps I.bk) hm (by rw [I.ok.blt]; exact h1.keeps I.bk) ((h2 x hn).trans hv) h) hd
theorem pe_bltn {x : Str} {v : V} {u : Value} {pos : Pos} (hg : Gl X x) (hm : X.mg x = none) (hv : bootBuiltins x = some u) (r : RelV v u) (hn : x ≠ "__name__" := by decide) (hd : (x == ("__debug__" : Str)) = false := by decide) : PE X (.Name x pos) (tC v) :=
  fun _ _ _ H _ I h => ld_blt I hg hm hv ⟨v, H, I, r, h⟩ hn hd
variable {a b : Expr} {ta tb : TE} {pos : Pos}
noncomputable def PC (X : Cx) (op : CmpOp) (a b : Expr) (t : TE) : Prop :=
  ∀ (pins : List (Addr × Obj)) (s : Shared) (σ : St) (H : Hp) (Q : VK), Inv X pins σ H s → t σ H Q →
    wpAny (model X.prog X.w) X.A (eval a X.env) (fun v s₁ => wpAny (model X.prog X.w) X.A (eval b X.env) (fun u s₂ => wpAny (model X.prog X.w) X.A (compareOp op v u) (EP X pins σ Q) X.xe s₂) X.xe s₁) X.xe s
theorem nobehind (b : Expr) {op : CmpOp} (h : op ≠ .In) (h2 : op ≠ .NotIn) : behindInMarks op b = false := by
  have e1 : (op == CmpOp.In) = false := by cases op <;> first | rfl | exact absurd rfl h
  have e2 : (op == CmpOp.NotIn) = false := by cases op <;> first | rfl | exact absurd rfl h2
  cases b <;> simp [behindInMarks, e1, e2]
noncomputable def tB (t : TE) : TT := fun σ H Q => t σ H fun x H1 => ∃ c, x = .bl c ∧ Q c H1
theorem pt_cmp {op : CmpOp} {t : TE} (h : PC X op a b t) (h1 : behindInMarks op b = false := by first | exact nobehind _ (by decide) (by decide) | rfl) : PT X (.Compare a [op] [b] pos) (tB t) := by
  intro pins s σ H Q I hw
  refine wpAny_isTrue_Compare1 (thn (h pins s σ H _ I hw) fun v s1 h1 => thn h1 fun u s2 h2 => thn h2 fun c s3 ⟨x, H1, I1, r1, q1⟩ => ?_) h1
  obtain ⟨d, rfl, q⟩ := q1
  cases r1
  exact wpAny_truthy_bool ⟨H1, I1, q⟩
variable {tA tB' : TT} {rest : List Expr}
noncomputable abbrev tAnd (t u : TT) : TT := fun σ H Q => t σ H fun c H1 => if c = true then u σ H1 Q else Q false H1
noncomputable abbrev tOr (t u : TT) : TT := fun σ H Q => t σ H fun c H1 => if c = true then Q true H1 else u σ H1 Q
noncomputable abbrev tNot (t : TT) : TT := fun σ H Q => t σ H fun c H1 => Q (!c) H1
theorem pw_and1 (ha : PT X a tA) : PW X (.BoolOp .And [a] pos) tA := by
  intro wh pins s σ H Q I h
  refine isTrue_and (thn (ha pins s σ H Q I h) fun c s1 e => ?_)
  cases c with
  | true => exact isTrue_and_nil e
  | false => exact e
theorem pw_or1 (ha : PT X a tA) : PW X (.BoolOp .Or [a] pos) tA := by
  intro wh pins s σ H Q I h
  refine isTrue_or (thn (ha pins s σ H Q I h) fun c s1 e => ?_)
  cases c with
  | false => exact isTrue_or_nil e
  | true => exact e
theorem pw_and (ha : PT X a tA) (hb : PW X (.BoolOp .And (b :: rest) pos) tB') : PW X (.BoolOp .And (a :: b :: rest) pos) (tAnd tA tB') := by
  intro wh pins s σ H Q I h
  refine isTrue_and (thn (ha pins s σ H _ I h) fun c s1 ⟨H1, I1, q1⟩ => ?_)
  cases c with
  | true => exact hb wh pins s1 σ H1 Q I1 q1
  | false => exact ⟨H1, I1, q1⟩
theorem pw_or (ha : PT X a tA) (hb : PW X (.BoolOp .Or (b :: rest) pos) tB') : PW X (.BoolOp .Or (a :: b :: rest) pos) (tOr tA tB') := by
  intro wh pins s σ H Q I h
  refine isTrue_or (thn (ha pins s σ H _ I h) fun c s1 ⟨H1, I1, q1⟩ => ?_)
  cases c with
  | true => exact ⟨H1, I1, q1⟩
  | false => exact hb wh pins s1 σ H1 Q I1 q1
theorem pt_not (ha : PT X a tA) : PT X (.UnaryOp .Not a pos) (tNot tA) := by
  intro pins s σ H Q I h
  exact isTrue_not (ha pins s σ H (fun c H1 => Q (!c) H1) I h)
noncomputable abbrev tAndV (ta tb : TE) : TE := fun σ H Q => ta σ H fun x H1 => ∃ c, x = .bl c ∧ if c = true then tb σ H1 Q else Q (.bl false) H1
noncomputable abbrev tNotV (ta : TE) : TE := fun σ H Q => ta σ H fun x H1 => ∃ c, x = .bl c ∧ Q (.bl (!c)) H1
theorem pe_one {op} {t : TE} (h : PE X a t) : PE X (.BoolOp op [a] pos) t := fun pins s σ H Q I hw => BoolOp_one (h pins s σ H Q I hw)
theorem pe_and (ha : PE X a ta) (hb : PE X (.BoolOp .And (b :: rest) pos) tb) : PE X (.BoolOp .And (a :: b :: rest) pos) (tAndV ta tb) := by
  intro pins s σ H Q I h
  refine BoolOp_and (thn (ha pins s σ H _ I h) fun v s1 ⟨x, H1, I1, r1, q1⟩ => ?_)
  obtain ⟨c, rfl, q1⟩ := q1
  cases r1
  refine wpAny_truthy_bool ?_
  cases c with
  | true => exact hb pins s1 σ H1 Q I1 q1
  | false => exact ⟨.bl false, H1, I1, rfl, q1⟩
theorem pe_not (ha : PE X a ta) : PE X (.UnaryOp .Not a pos) (tNotV ta) := by
  intro pins s σ H Q I h
  refine UnaryOp_ (thn (ha pins s σ H _ I h) fun v s1 ⟨x, H1, I1, r1, q1⟩ => ?_)
  obtain ⟨c, rfl, q1⟩ := q1
  cases r1
  exact not_of (wpAny_truthy_bool ⟨.bl (!c), H1, I1, rfl, q1⟩)
noncomputable def tIf (t : TT) (ta tb : TE) : TE := fun σ H Q => t σ H fun c H1 => if c = true then ta σ H1 Q else tb σ H1 Q
theorem pe_ifExp {c : Expr} (hc : PT X c tA) (ha : PE X a ta) (hb : PE X b tb) : PE X (.IfExp c a b pos) (tIf tA ta tb) := by
  intro pins s σ H Q I h
  refine wpAny_IfExp (thn (hc pins s σ H _ I h) fun d s1 ⟨H1, I1, q1⟩ => ?_)
  cases d with
  | true => exact ha pins s1 σ H1 Q I1 q1
  | false => exact hb pins s1 σ H1 Q I1 q1
end
end L2
namespace L2
open PySem PySem.Spec PyProof.Rows
noncomputable def SqL (K : PySem.W.Frag) (H : Hp) (a : Addr) (xs : List V) : Prop :=
  Rd H a (.lst xs) ∨
    ∃ (o : Obj) (its : Array Value) (n : Nat), K.lookup a = some o ∧ o.cls = .type "list" ∧ o.dict = none ∧ o.data = .seq its n ∧ its.size ≤ sizeLine ∧ Vals xs its.toList
noncomputable def SqT (K : PySem.W.Frag) (H : Hp) (a : Addr) (xs : List V) : Prop :=
  Rd H a (.tup xs) ∨
    ∃ (o : Obj) (its : Array Value) (n : Nat), K.lookup a = some o ∧ o.cls = .type "tuple" ∧ o.data = .seq its n ∧ its.size ≤ sizeLine ∧ Vals xs its.toList
noncomputable def absV : Value → Option V
  | .none => some .non
  | .bool b => some (.bl b)
  | .int i _ => some (.int i)
  | .str x _ => some (.str x)
  | .bytes b _ => some (.byt b)
  | .float b _ => some (.flt b)
  | .ref a => some (.ref a)
  | .type n => some (.ty n)
  | _ => none
theorem RelV.abs {x : V} {u : Value} (r : RelV x u) : absV u = some x := by
  cases x with
  | non => cases r; rfl
  | bl _ => cases r; rfl
  | int _ => obtain ⟨t, rfl⟩ := r; rfl
  | str _ => obtain ⟨t, rfl⟩ := r; rfl
  | byt _ => obtain ⟨t, rfl⟩ := r; rfl
  | flt _ => obtain ⟨t, rfl⟩ := r; rfl
  | ref _ => cases r; rfl
  | ty _ => cases r; rfl
theorem RelV.inj {x y : V} {u : Value} (r : RelV x u) (q : RelV y u) : x = y := Option.some.inj (r.abs.symm.trans q.abs)
theorem Vals.inj : ∀ {xs ys : List V} {us : List Value}, Vals xs us → Vals ys us → xs = ys
  | _, _, _, .nil, .nil => rfl
  | _, _, _, .cons r t, .cons r' t' => by rw [r.inj r', Vals.inj t t']
section
variable {X : Cx} {pins : List (Addr × Obj)} {σ : St} {H : Hp} {s : Shared} {a : Addr} {xs ys : List V}
theorem SqL.of {K : PySem.W.Frag} (h : H a = some (.lst xs)) : SqL K H a xs := .inl (.inl h)
theorem SqT.of {K : PySem.W.Frag} (h : H a = some (.tup xs)) : SqT K H a xs := .inl (.inl h)
theorem Inv.list (I : Inv X pins σ H s) (h : SqL X.K H a xs) : ∃ its : List Value, Vals xs its ∧ PlainL s.heap a its.toArray ∧ xs.length ≤ sizeLine := by
  rcases h with h | ⟨o, its, n, hk, hc, hd, hs, hz, r⟩
  · obtain ⟨z, its, n, r, e⟩ := h.ok I.hok
    exact ⟨its, r, ⟨_, n, e, rfl, rfl, rfl⟩, z⟩
  · refine ⟨its.toList, r, ⟨o, n, I.kIn a o hk, hc, hd, by simpa using hs⟩, ?_⟩
    have e := r.length
    simp only [Array.length_toList] at e
    omega
theorem Inv.tuple (I : Inv X pins σ H s) (h : SqT X.K H a xs) : ∃ its : List Value, Vals xs its ∧ IsTup s.heap a its.toArray ∧ xs.length ≤ sizeLine := by
  rcases h with h | ⟨o, its, n, hk, hc, hs, hz, r⟩
  · obtain ⟨z, its, r, p⟩ := h.ok I.hok
    exact ⟨its, r, p, z⟩
  · refine ⟨its.toList, r, ⟨o, I.kIn a o hk, hc, n, by simpa using hs⟩, ?_⟩
    have e := r.length
    simp only [Array.length_toList] at e
    omega
theorem Inv.list_inj (I : Inv X pins σ H s) (h : SqL X.K H a xs) (h' : SqL X.K H a ys) : xs = ys := by
  obtain ⟨its, r, ⟨o, n, e, _, _, d⟩, _⟩ := I.list h
  obtain ⟨its', r', ⟨o', n', e', _, _, d'⟩, _⟩ := I.list h'
  rw [e] at e'; cases e'
  rw [d] at d'
  injection d' with d1 _
  have : its = its' := by simpa using congrArg Array.toList d1
  subst this
  exact r.inj r'
theorem Inv.tuple_inj (I : Inv X pins σ H s) (h : SqT X.K H a xs) (h' : SqT X.K H a ys) : xs = ys := by
  obtain ⟨its, r, ⟨o, e, _, n, d⟩, _⟩ := I.tuple h
  obtain ⟨its', r', ⟨o', e', _, n', d'⟩, _⟩ := I.tuple h'
  rw [e] at e'; cases e'
  rw [d] at d'
  injection d' with d1 _
  have : its = its' := by simpa using congrArg Array.toList d1
  subst this
  exact r.inj r'
end
noncomputable abbrev Cx.wish (X : Cx) (E : Value → Shared → Prop) : Cx := { X with xe := E }
noncomputable abbrev Cx.nox (X : Cx) : Cx := X.wish fun _ _ => False
theorem Cx.Ok.wish {X : Cx} (ok : X.Ok) (E : Value → Shared → Prop) : (X.wish E).Ok :=
  ⟨ok.mod, ok.kind, ok.glob, ok.blt, ok.above, ok.inj, ok.has, ok.cab, ok.hd, ok.frames, ok.stk, ok.exf, ok.bs, ok.bsz, ok.noex, ok.exfs, ok.funs, ok.frf⟩
theorem Cx.Ok.unwish {X : Cx} {E : Value → Shared → Prop} (ok : (X.wish E).Ok) : X.Ok :=
  ⟨ok.mod, ok.kind, ok.glob, ok.blt, ok.above, ok.inj, ok.has, ok.cab, ok.hd, ok.frames, ok.stk, ok.exf, ok.bs, ok.bsz, ok.noex, ok.exfs, ok.funs, ok.frf⟩
section
variable {X : Cx} {pins : List (Addr × Obj)} {σ : St} {H : Hp} {s : Shared} {E : Value → Shared → Prop}
theorem Inv.wish (I : Inv X pins σ H s) (E : Value → Shared → Prop) : Inv (X.wish E) pins σ H s := ⟨I.ok.wish E, I.os, I.bare, I.base, I.loc, I.cell, I.free, I.freeC, I.pin, I.hok, I.len⟩
theorem Inv.unwish (I : Inv (X.wish E) pins σ H s) : Inv X pins σ H s := ⟨I.ok.unwish, I.os, I.bare, I.base, I.loc, I.cell, I.free, I.freeC, I.pin, I.hok, I.len⟩
theorem SP.unwish {D : Ends} {f : Flow} {s' : Shared} (h : SP (X.wish E) pins D f s') : SP X pins D f s' := by
  cases f with
  | next => obtain ⟨σ', H', I, q⟩ := h; exact ⟨σ', H', I.unwish, q⟩
  | brk => obtain ⟨σ', H', I, q⟩ := h; exact ⟨σ', H', I.unwish, q⟩
  | cont => obtain ⟨σ', H', I, q⟩ := h; exact ⟨σ', H', I.unwish, q⟩
  | ret u => obtain ⟨v, σ', H', I, r, q⟩ := h; exact ⟨v, σ', H', I.unwish, r, q⟩
theorem PE.nox {e : Expr} {t : TE} (h : PE X.nox e t) : PE X e t := fun pins s σ H Q I hw =>
  wpAny_mono (h pins s σ H Q (I.wish _) hw) (fun _ _ ⟨v, H', I', r, q⟩ => ⟨v, H', I'.unwish, r, q⟩) fun _ _ z => False.elim z
theorem PT.nox {e : Expr} {t : TT} (h : PT X.nox e t) : PT X e t := fun pins s σ H Q I hw =>
  wpAny_mono (h pins s σ H Q (I.wish _) hw) (fun _ _ ⟨H', I', q⟩ => ⟨H', I'.unwish, q⟩) fun _ _ z => False.elim z
theorem PSs.nox {st : List Stmt} {t : TS} (h : PSs X.nox st t) : PSs X st t := fun pins s σ H D I hw =>
  wpAny_mono (h pins s σ H D (I.wish _) hw) (fun _ _ q => q.unwish) fun _ _ z => False.elim z
end
section
variable {X : Cx} {st : Stmt} {rest : List Stmt} {t u : TS} {e : Expr} {te : TE} {pos : Pos}
noncomputable abbrev tNext : TS := fun D σ H => D.nx σ H
noncomputable abbrev tSeq (t u : TS) : TS := fun D σ H => t { D with nx := u D } σ H
theorem pss_nil : PSs X [] tNext := fun _ _ σ H _ I h => wpAny_execs_nil ⟨σ, H, I, h⟩
theorem pss_cons (h1 : PS X st t) (h2 : PSs X rest u) : PSs X (st :: rest) (tSeq t u) := by
  intro pins s σ H D I h
  refine wpAny_execs_cons (thn (h1 pins s σ H { D with nx := u D } I h) fun f s1 q => ?_)
  cases f with
  | next =>
    obtain ⟨σ', H', I', q⟩ := q
    exact h2 pins s1 σ' H' D I' q
  | ret v => exact q
  | brk => exact q
  | cont => exact q
theorem Inv.quiet {pins : List (Addr × Obj)} {σ : St} {H : Hp} {s : Shared} (I : Inv X pins σ H s) : interactive X.env = false := by simp [interactive, I.ok.kind]
noncomputable abbrev tDrop (te : TE) : TS := fun D σ H => te σ H fun _ H1 => D.nx σ H1
theorem ps_expr (he : PE X e te) (hs : swapsWith e none pos.line X.env = pure false := by rfl) : PS X (.Expr e pos) (tDrop te) := by
  intro pins s σ H D I h
  exact wpAny_Expr_any (thn (he pins s σ H _ I h) fun v s1 ⟨x, H1, I1, r1, q1⟩ => ⟨σ, H1, I1, q1⟩) I.quiet hs
noncomputable abbrev tRet (te : TE) : TS := fun D σ H => te σ H D.rt
theorem ps_ret (he : PE X e te) : PS X (.Return (some e) pos) (tRet te) := by
  intro pins s σ H D I h
  exact wpAny_Return_some (thn (he pins s σ H _ I h) fun v s1 ⟨x, H1, I1, r1, q1⟩ => ⟨x, σ, H1, I1, r1, q1⟩)
noncomputable abbrev tIfS (c : TT) (t u : TS) : TS := fun D σ H => c σ H fun b H1 => if b = true then t D σ H1 else u D σ H1
theorem ps_if {c : Expr} {a b : List Stmt} {tc : TT} (hc : PT X c tc) (ha : PSs X a t) (hb : PSs X b u) : PS X (.If c a b pos) (tIfS tc t u) := by
  intro pins s σ H D I h
  refine wpAny_If (thn (hc pins s σ H _ I h) fun d s1 ⟨H1, I1, q1⟩ => ?_)
  cases d with
  | true => exact ha pins s1 σ H1 D I1 q1
  | false => exact hb pins s1 σ H1 D I1 q1
end
noncomputable abbrev TG := V → St → Hp → (St → Hp → Prop) → Prop
noncomputable abbrev TGs := List V → St → Hp → (St → Hp → Prop) → Prop
noncomputable def PG (X : Cx) (target : Expr) (t : TG) : Prop :=
  ∀ (pins : List (Addr × Obj)) (s : Shared) (σ : St) (H : Hp) (v : V) (u : Value) (Q : St → Hp → Prop), Inv X pins σ H s → RelV v u → t v σ H Q →
    wpAny (model X.prog X.w) X.A (assign target X.env u) (fun _ s' => ∃ σ' H', Inv X pins σ' H' s' ∧ Q σ' H') X.xe s
noncomputable def PGs (X : Cx) (ts : List Expr) (t : TGs) : Prop :=
  ∀ (pins : List (Addr × Obj)) (s : Shared) (σ : St) (H : Hp) (vs : List V) (us : List Value) (Q : St → Hp → Prop), Inv X pins σ H s → Vals vs us → t vs σ H Q →
    wpAny (model X.prog X.w) X.A (assignInOrder ((assignEach ts X.env).map (·.2)) us) (fun _ s' => ∃ σ' H', Inv X pins σ' H' s' ∧ Q σ' H') X.xe s
noncomputable abbrev TSet := V → V → V → Hp → (Hp → Prop) → Prop
noncomputable def PSet (X : Cx) (t : TSet) : Prop :=
  ∀ (pins : List (Addr × Obj)) (s : Shared) (σ : St) (H : Hp) (o i v : V) (ov iv u : Value) (Q : Hp → Prop), Inv X pins σ H s → RelV o ov → RelV i iv → RelV v u → t o i v H Q →
    wpAny (model X.prog X.w) X.A (setItem ov iv u) (fun _ s' => ∃ H', Inv X pins σ H' s' ∧ Q H') X.xe s
section
variable {X : Cx} {pos : Pos}
noncomputable abbrev gName (i : Nat) : TG := fun v σ H Q => Q (σ.set i (some v)) H
theorem pg_name {i : Nat} {x : Str} (hN : X.N.Nodup) (hi : X.N[i]? = some x) (hx : Loc X.env.scope x) (hf : X.fn x = true ∨ X.env.scope.names.lookup x = some .local := by first | exact .inl rfl | exact .inr rfl | assumption) : PG X (.Name x pos) (gName i) := by
  intro pins s σ H v u Q I r h
  exact wpAny_assign_Name (store_ok I hN hi hx r (fun s' I' => ⟨_, H, I', h⟩) hf)
noncomputable def gNil : TGs := fun vs σ H Q => vs = [] ∧ Q σ H
noncomputable def gCons (t : TG) (u : TGs) : TGs := fun vs σ H Q => ∃ v r, vs = v :: r ∧ t v σ H fun σ' H' => u r σ' H' Q
theorem pgs_nil : PGs X [] gNil := by
  intro pins s σ H vs us Q I r h
  obtain ⟨e, h⟩ := h
  subst e
  cases r
  exact assignInOrder_nil ⟨σ, H, I, h⟩
theorem pgs_cons {e : Expr} {es : List Expr} {t : TG} {u : TGs} (h1 : PG X e t) (h2 : PGs X es u)
    (hs : (assignEach (e :: es) X.env).map (·.2) = assign e X.env :: (assignEach es X.env).map (·.2) := by rfl) : PGs X (e :: es) (gCons t u) := by
  intro pins s σ H vs us Q I r h
  obtain ⟨v, vr, e1, h⟩ := h
  subst e1
  cases r with
  | cons r rr =>
    rw [hs]
    refine assignInOrder_cons (thn (h1 pins s σ H _ _ _ I r h) fun _ s1 ⟨σ1, H1, I1, q1⟩ => ?_)
    exact h2 pins s1 σ1 H1 _ _ Q I1 rr q1
noncomputable def gTup (K : PySem.W.Frag) (n : Nat) (t : TGs) : TG := fun v σ H Q => ∃ a xs, v = .ref a ∧ SqT K H a xs ∧ xs.length = n ∧ t xs σ H Q
theorem pg_tup {es : List Expr} {k : Nat} {t : TGs} {n : Nat} (hc : X.calm = true) (h : PGs X es t)
    (hn : (assignEach es X.env).length = n := by rfl) (hst : (assignEach es X.env).findIdx? (·.1) = none := by rfl) : PG X (.Tuple es k pos) (gTup X.K n t) := by
  intro pins s σ H v u Q I r hw
  obtain ⟨a, xs, e1, hq, hl, hw⟩ := hw
  subst e1
  cases r
  obtain ⟨its, rv, ht, hz⟩ := I.tuple hq
  refine assign_Tuple_tuple (I.ok.hd hc) ht (by simp [hn, ← hl, rv.length]) hst fun h' hx => ?_
  have I1 : Inv X pins σ H { s with heap := h' } := I.kept (t' := s.toks) fun b o e => hx b o (Nat.ne_of_lt (Heap.lt_size e)) e
  exact h pins _ σ H xs _ Q I1 (by simpa using rv) hw
noncomputable def gSub (to ti : TE) (t : TSet) : TG := fun v σ H Q => to σ H fun o H1 => ti σ H1 fun i H2 => t o i v H2 fun H3 => Q σ H3
theorem pg_sub {o i : Expr} {to ti : TE} {t : TSet} (ho : PE X o to) (hi : PE X i ti) (hs : PSet X t)
    (ha : ∀ v, assign (.Subscript o i pos) X.env v = (do
      let ov ← holding [v] (eval o X.env)
      let iv ← holding [v, ov] (eval i X.env)
      standAt pos
      holding [v, ov, iv] (setItem ov iv v)
      release [v, ov, iv] []) := by intro _; rfl) : PG X (.Subscript o i pos) (gSub to ti t) := by
  intro pins s σ H v u Q I r h
  rw [ha]
  refine wpAny_bind (wpAny_holding (thn (ho pins s σ H _ I h) fun ov s1 ⟨x, H1, I1, r1, q1⟩ => ?_))
  refine wpAny_bind (wpAny_holding (thn (hi pins s1 σ H1 _ I1 q1) fun iv s2 ⟨y, H2, I2, r2, q2⟩ => ?_))
  refine wpAny_bind (wpAny_standAt (wpAny_bind (wpAny_holding (thn (hs pins s2 σ H2 x y v ov iv u _ I2 r1 r2 r q2) fun _ s3 ⟨H3, I3, q3⟩ => ?_))))
  exact wpAny_release ⟨σ, H3, I3, q3⟩
noncomputable abbrev tAsg (te : TE) (g : TG) : TS := fun D σ H => te σ H fun x H1 => g x σ H1 D.nx
theorem ps_asg {tg e : Expr} {te : TE} {g : TG} (he : PE X e te) (hg : PG X tg g) (hs : swapsWithSole [tg] e pos.line X.env = pure false := by rfl) (hw : swappedStores [tg] e X.env = pure none := by rfl)
    (h1 : (assignEach [tg] X.env).map (·.2) = [assign tg X.env] := by rfl) : PS X (.Assign [tg] e pos) (tAsg te g) := by
  intro pins s σ H D I h
  refine wpAny_Assign_stores (thn (he pins s σ H _ I h) fun v s1 ⟨x, H1, I1, r1, q1⟩ => ?_) hs hw
  rw [h1]
  exact thn (hg pins s1 σ H1 x v _ I1 r1 q1) fun _ s2 q => q
theorem ps_set {i : Nat} {x : Str} {e : Expr} {te : TE} {pos' : Pos} (hN : X.N.Nodup) (hi : X.N[i]? = some x) (hx : Loc X.env.scope x) (he : PE X e te) (hs : swapsWith e (some (.Name x pos')) pos.line X.env = pure false := by rfl) (hf : X.fn x = true ∨ X.env.scope.names.lookup x = some .local := by first | exact .inl rfl | exact .inr rfl | assumption) :
    PS X (.Assign [.Name x pos'] e pos) (tAsg te (gName i)) := by
  intro pins s σ H D I h
  refine wpAny_Assign_Name (thn (he pins s σ H _ I h) fun v s1 ⟨y, H1, I1, r1, q1⟩ => ?_) hs
  exact store_ok I1 hN hi hx r1 (fun s2 I2 => ⟨_, H1, I2, q1⟩) hf
end
section
variable {X : Cx} {pos : Pos}
noncomputable def tWhile (c : TT) (tb : TS) : TS := fun D σ H => ∃ W : Nat → St → Hp → Prop, (∃ m, W m σ H) ∧ ∀ m σ H, W m σ H →
  c σ H fun b H1 => if b = true then ∃ N : St → Hp → Prop, (∀ σ' H', N σ' H' → ∃ m', m' < m ∧ W m' σ' H') ∧ tb { D with nx := N, ct := N, bk := D.nx } σ H1 else D.nx σ H1
theorem ps_while {c : Expr} {body : List Stmt} {tc : TT} {tb : TS} (hp : PassesOwn (model X.prog X.w) X.A X.env X.xe) (hc : PT X c tc) (hb : PSs X body tb) : PS X (.While c body [] pos) (tWhile tc tb) := by
  intro pins s σ H D I h
  obtain ⟨W, ⟨m0, w0⟩, turn⟩ := h
  refine wpAny_While (codeAny_whileLoop (fun n s' => ∃ σ' H', Inv X pins σ' H' s' ∧ W n σ' H') ?_ m0 ⟨σ, H, I, w0⟩)
  rintro n s1 ⟨σ1, H1, I1, w1⟩
  refine wpAny_passesOwn hp (thn (hc pins s1 σ1 H1 _ I1 (turn n σ1 H1 w1)) fun b s2 ⟨H2, I2, q2⟩ => ?_)
  cases b with
  | true =>
    obtain ⟨N, hN, q2⟩ := q2
    rw [if_pos rfl]
    refine wpAny_passesOwn hp (thn (hb pins s2 σ1 H2 _ I2 q2) fun f s3 q3 => ?_)
    cases f with
    | next =>
      obtain ⟨σ3, H3, I3, n3⟩ := q3
      obtain ⟨m', hm, w3⟩ := hN σ3 H3 n3
      exact ⟨m', hm, σ3, H3, I3, w3⟩
    | cont =>
      obtain ⟨σ3, H3, I3, n3⟩ := q3
      obtain ⟨m', hm, w3⟩ := hN σ3 H3 n3
      exact ⟨m', hm, σ3, H3, I3, w3⟩
    | brk => exact q3
    | ret v => exact q3
  | false =>
    rw [if_neg Bool.false_ne_true]
    exact wpAny_execs_nil ⟨σ1, H2, I2, q2⟩
end
structure It where
  go : Nat → Hp → Prop
  yld : Nat → Hp → V → Hp → Prop
  stop : Nat → Hp → Prop
noncomputable def FpOk (X : Cx) (pins : List (Addr × Obj)) (H : Hp) (b : Addr) : Prop :=
  H b = none ∧ b ≠ X.env.locals ∧ b ∉ X.fs ∧ (b ∈ X.ex ∨ X.s₀.heap.objs.size ≤ b) ∧ (∀ x c, X.env.cells.lookup x = some c → c ≠ b) ∧ ∀ p ∈ X.pn ++ pins, p.1 ≠ b
theorem Inv.fpOk {X : Cx} {pins : List (Addr × Obj)} {σ : St} {H H' : Hp} {s : Shared} {b : Addr} (I : Inv X pins σ H s) (hb : s.heap.objs.size ≤ b) (hn : H' b = none) : FpOk X pins H' b := by
  refine ⟨hn, Nat.ne_of_gt (Nat.lt_of_lt_of_le I.lt hb), I.nofs hb, .inr (Nat.le_trans I.sz hb), fun x c e z => ?_, fun p hp z => ?_⟩
  · obtain ⟨v, q⟩ := I.cell x c e
    exact absurd (Nat.lt_of_lt_of_le q.lt (by rw [z]; exact hb)) (Nat.lt_irrefl _)
  · exact absurd (Nat.lt_of_lt_of_le (Heap.lt_size (I.pin p hp).1) (by rw [z]; exact hb)) (Nat.lt_irrefl _)
structure Turn (P : Program) (w : World) (K : PySem.W.Frag) (tg : Expr) (J : It) (fp : List Addr) (it : Addr) (tn : Nat → Heap → Prop) : Prop where
  mem : it ∈ fp
  obj : ∀ i h, tn i h → ∀ b ∈ fp, ∃ o, h.get? b = some o ∧ ∀ v, o.data ≠ .cell v
  keep : ∀ i h h', tn i h → (∀ b ∈ fp, ∀ o, h.get? b = some o → h'.get? b = some o) → tn i h'
  item : ∀ (X : Cx), X.prog = P → X.w = w → X.K = K → X.calm = true → ∀ (i : Nat) (pins : List (Addr × Obj)) (s : Shared) (σ : St) (H : Hp) (E : Value → Shared → Prop), Inv X pins σ H s → (∀ b ∈ fp, FpOk X pins H b) → tn i s.heap → J.go i H →
    wpAny (model P w) X.A (pyNext (.ref it)) (fun r s1 => ∃ u, r = some u ∧
      wpAny (model P w) X.A (letOwnedTupleGo tg (.ref it) u) (fun _ s2 => ∃ x H', Inv X pins σ H' s2 ∧ RelV x u ∧ J.yld i H x H' ∧ tn (i + 1) s2.heap ∧ ∀ b ∈ fp, H' b = none) E s1) E s
  done : ∀ (X : Cx), X.prog = P → X.w = w → X.K = K → X.calm = true → ∀ (i : Nat) (pins : List (Addr × Obj)) (s : Shared) (σ : St) (H : Hp) (E : Value → Shared → Prop), Inv X pins σ H s → (∀ b ∈ fp, FpOk X pins H b) → tn i s.heap → J.stop i H →
    wpAny (model P w) X.A (pyNext (.ref it)) (fun r s1 => r = none ∧ Inv X pins σ H s1) E s
  self : ∀ (A : Around) (i : Nat) (s : Shared) (Q : Value → Shared → Prop) (E : Value → Shared → Prop), tn i s.heap → Q (.ref it) s → wpAny (model P w) A (pyIter (.ref it)) Q E s
noncomputable abbrev TI := St → Hp → (It → Hp → Prop) → Prop
noncomputable def PIE (X : Cx) (pins : List (Addr × Obj)) (σ : St) (tg : Expr) (R : It → Hp → Prop) (itv : Value) (s2 : Shared) : Prop :=
  ∃ (it : Addr) (fp : List Addr) (tn : Nat → Heap → Prop) (J : It) (H' : Hp), itv = .ref it ∧ Inv X pins σ H' s2 ∧ Turn X.prog X.w X.K tg J fp it tn ∧ tn 0 s2.heap ∧ (∀ b ∈ fp, FpOk X pins H' b) ∧ R J H'
noncomputable def PI (X : Cx) (tg iter : Expr) (wi : TI) : Prop :=
  ∀ (pins : List (Addr × Obj)) (s : Shared) (σ : St) (H : Hp) (R : It → Hp → Prop), Inv X pins σ H s → wi σ H R →
    wpAny (model X.prog X.w) X.A (eval iter X.env) (fun v s1 => wpAny (model X.prog X.w) X.A (pyIter v) (PIE X pins σ tg R) X.xe s1) X.xe s
theorem go_of {M : Model} {A : Around} {E : Value → Shared → Prop} {s : Shared} {tg : Expr} {it : Addr} {u : Value} {o : Obj} {n : String} {vs : Array Value} {Q : Unit → Shared → Prop} (ho : s.heap.get? it = some o) (hc : o.cls = .type n) (hd : o.data = .fields vs)
    (hn : ["enumerate", "zip", "dict_itemiterator", "dict_reverseitemiterator", "odict_iterator", "itertools.zip_longest", "itertools.pairwise"].contains n = false) (hQ : Q () s) : wpAny M A (letOwnedTupleGo tg (.ref it) u) Q E s := by
  unfold letOwnedTupleGo
  cases tg <;> first
    | exact wpAny_pure hQ
    | (cases u <;> first
        | exact wpAny_pure hQ
        | (refine wpAny_bind (wpAny_load ho ?_)
           rw [hc, hd]
           show wpAny M A (if (["enumerate", "zip", "dict_itemiterator", "dict_reverseitemiterator", "odict_iterator", "itertools.zip_longest", "itertools.pairwise"].contains n && vs[0]? == some (rawInt _)) = true then _ else _) Q E s
           rw [if_neg (by intro h; rw [hn, Bool.false_and] at h; cases h)]
           exact wpAny_pure hQ))
noncomputable def Itl (K : PySem.W.Frag) (a : Addr) : It :=
  ⟨fun i H => ∃ xs x, SqL K H a xs ∧ xs[i]? = some x, fun i H x H' => H' = H ∧ ∀ xs, SqL K H a xs → xs[i]? = some x, fun i H => ∃ xs, SqL K H a xs ∧ xs.length ≤ i⟩
noncomputable def Itt (K : PySem.W.Frag) (a : Addr) : It :=
  ⟨fun i H => ∃ xs x, SqT K H a xs ∧ xs[i]? = some x, fun i H x H' => H' = H ∧ ∀ xs, SqT K H a xs → xs[i]? = some x, fun i H => ∃ xs, SqT K H a xs ∧ xs.length ≤ i⟩
noncomputable def Itr (lo : Int) (n : Nat) : It := ⟨fun i _ => i < n, fun i H x H' => H' = H ∧ x = .int (lo + i), fun i _ => n ≤ i⟩
theorem turn_list {P : Program} {w : World} {K : PySem.W.Frag} {tg : Expr} (a it : Addr) : Turn P w K tg (Itl K a) [it] it (fun i h => h.IsListIter it a i) where
  mem := by simp
  obj := fun i h st b hb => by
    have e : b = it := by simpa using hb
    subst e
    obtain ⟨o, e, c, d⟩ := st
    exact ⟨o, e, fun v z => by rw [d] at z; cases z⟩
  keep := fun i h h' st k => st.at fun o e => k it (by simp) o e
  item := by
    intro X hP hw hK hc i pins s σ H E I hf st hg
    subst hP hw hK
    obtain ⟨xs, x, hq, hx⟩ := hg
    obtain ⟨its, rv, p, hz⟩ := I.list hq
    obtain ⟨u, hu, ru⟩ := rv.get hx
    obtain ⟨f0, f1, f2, f3, f4, f5⟩ := hf it (by simp)
    refine wpAny_pyNext_list_item st p.isList (x := u) (by simpa using hu) fun h' st' sb => ?_
    have I1 : Inv X pins σ H { s with heap := h' } := I.turned (t' := s.toks) (fun b o hb e => (sb.2 b hb).trans e) f0 f1 f3 f4 f5
    obtain ⟨o, e, c, d⟩ := id st'
    exact ⟨u, rfl, go_of (s := { s with heap := h' }) e c d (by decide) ⟨x, H, I1, ru, ⟨rfl, fun ys hy => by rw [I.list_inj hy hq]; exact hx⟩, st', fun b hb => (hf b hb).1⟩⟩
  done := by
    intro X hP hw hK hc i pins s σ H E I hf st hg
    subst hP hw hK
    obtain ⟨xs, hq, hx⟩ := hg
    obtain ⟨its, rv, p, hz⟩ := I.list hq
    obtain ⟨f0, f1, f2, f3, f4, f5⟩ := hf it (by simp)
    have hl := rv.length
    exact wpAny_pyNext_list_end (I.ok.hd hc) st p.isList (by simp; omega) fun h' eb => ⟨rfl, I.turned (t' := s.toks) (fun b o hb e => eb b o hb e) f0 f1 f3 f4 f5⟩
  self := fun _ _ _ _ _ st h => wpAny_pyIter_listiter st h
theorem turn_tuple {P : Program} {w : World} {K : PySem.W.Frag} {tg : Expr} (a it : Addr) : Turn P w K tg (Itt K a) [it] it (fun i h => h.IsTupleIter it a i) where
  mem := by simp
  obj := fun i h st b hb => by
    have e : b = it := by simpa using hb
    subst e
    obtain ⟨o, e, c, d⟩ := st
    exact ⟨o, e, fun v z => by rw [d] at z; cases z⟩
  keep := fun i h h' st k => st.at fun o e => k it (by simp) o e
  item := by
    intro X hP hw hK hc i pins s σ H E I hf st hg
    subst hP hw hK
    obtain ⟨xs, x, hq, hx⟩ := hg
    obtain ⟨its, rv, p, hz⟩ := I.tuple hq
    obtain ⟨u, hu, ru⟩ := rv.get hx
    obtain ⟨f0, f1, f2, f3, f4, f5⟩ := hf it (by simp)
    refine wpAny_pyNext_tuple_item st (show s.heap.IsTuple a its.toArray from p) (x := u) (by simpa using hu) fun h' st' sb => ?_
    have I1 : Inv X pins σ H { s with heap := h' } := I.turned (t' := s.toks) (fun b o hb e => (sb.2 b hb).trans e) f0 f1 f3 f4 f5
    obtain ⟨o, e, c, d⟩ := id st'
    exact ⟨u, rfl, go_of (s := { s with heap := h' }) e c d (by decide) ⟨x, H, I1, ru, ⟨rfl, fun ys hy => by rw [I.tuple_inj hy hq]; exact hx⟩, st', fun b hb => (hf b hb).1⟩⟩
  done := by
    intro X hP hw hK hc i pins s σ H E I hf st hg
    subst hP hw hK
    obtain ⟨xs, hq, hx⟩ := hg
    obtain ⟨its, rv, p, hz⟩ := I.tuple hq
    obtain ⟨f0, f1, f2, f3, f4, f5⟩ := hf it (by simp)
    have hl := rv.length
    exact wpAny_pyNext_tuple_end (I.ok.hd hc) st (show s.heap.IsTuple a its.toArray from p) (by simp; omega) fun h' eb => ⟨rfl, I.turned (t' := s.toks) (fun b o hb e => eb b o hb e) f0 f1 f3 f4 f5⟩
  self := fun _ _ _ _ _ st h => wpAny_pyIter_tupleiter st h
theorem turn_range {P : Program} {w : World} {K : PySem.W.Frag} {tg : Expr} (it : Addr) (lo : Int) (n : Nat) : Turn P w K tg (Itr lo n) [it] it (fun i h => IsRangeIter h it (lo + (i : Nat) * 1) ((n : Int) - (i : Nat)) 1) where
  mem := by simp
  obj := fun i h st b hb => by
    have e : b = it := by simpa using hb
    subst e
    exact ⟨_, st, fun v z => by
      have z' : Data.fields _ = Data.cell v := z
      cases z'⟩
  keep := fun i h h' st k => k it (by simp) _ st
  item := by
    intro X hP hw hK hc i pins s σ H E I hf st hg
    subst hP hw hK
    obtain ⟨f0, f1, f2, f3, f4, f5⟩ := hf it (by simp)
    have W := Walks.range (prog := X.prog) (w := X.w) (I.ok.hd hc) it lo 1 n
    refine W.item i s _ _ hg st fun v h' tk hv st' kk => ?_
    obtain ⟨t, rfl⟩ := hv
    have I1 : Inv X pins σ H { s with heap := h', toks := tk } := I.turned (fun b o hb e => kk b o (by simpa using hb) e) f0 f1 f3 f4 f5
    refine ⟨_, rfl, go_of (s := { s with heap := h', toks := tk }) (n := "range_iterator") st' rfl rfl (by decide) ⟨.int (lo + i), H, I1, ⟨t, ?_⟩, ⟨rfl, rfl⟩, st', fun b hb => (hf b hb).1⟩⟩
    rw [Int.mul_one]
  done := by
    intro X hP hw hK hc i pins s σ H E I hf st hg
    subst hP hw hK
    obtain ⟨f0, f1, f2, f3, f4, f5⟩ := hf it (by simp)
    exact wpAny_pyNext_range_end (I.ok.hd hc) st (by have : n ≤ i := hg; omega) fun h' eb => ⟨rfl, I.turned (t' := s.toks) (fun b o hb e => eb b o hb e) f0 f1 f3 f4 f5⟩
  self := fun _ _ _ _ _ st h => wpAny_pyIter_rangeiter st h
end L2
namespace L2
open PySem PySem.Spec PyProof.Rows
section
variable {X : Cx} {tg : Expr}
theorem range_it {pins : List (Addr × Obj)} {σ : St} {H : Hp} {s : Shared} {R : It → Hp → Prop} {E : Value → Shared → Prop} {lo hi : Int} {t u v : Tok} {tk : Nat} (I : Inv X pins σ H s) (h1 : -(2 ^ 62) ≤ lo) (h2 : lo < 2 ^ 62) (h3 : -(2 ^ 62) ≤ hi) (h4 : hi < 2 ^ 62)
    (q : R (Itr lo (hi - lo).toNat) H) : wpAny (model X.prog X.w) X.A (pyIter (.ref s.heap.objs.size)) (PIE X pins σ tg R) E { s with heap := s.heap.push { cls := .type "range", data := .fields #[.int lo t, .int hi u, .int 1 v] }, toks := tk } := by
  refine wpAny_pyIter_range (IsRange.new ..) (small_one h1 h2 h3 h4) ?_
  have I1 : Inv X pins σ H { s with heap := s.heap.push { cls := .type "range", data := .fields #[.int lo t, .int hi u, .int 1 v] }, toks := tk } := I.kept fun b o e => Heap.get?_push_of_some _ e
  refine ⟨(s.heap.push { cls := .type "range", data := .fields #[.int lo t, .int hi u, .int 1 v] }).objs.size, [(s.heap.push { cls := .type "range", data := .fields #[.int lo t, .int hi u, .int 1 v] }).objs.size], _, _, H, rfl,
    I1.kept (t' := tk) fun b o e => Heap.get?_push_of_some _ e, turn_range _ lo (hi - lo).toNat, ?_, fun b hb => ?_, q⟩
  · have e1 : lo + ((0 : Nat) : Int) * 1 = lo := by simp
    have e2 : (((hi - lo).toNat : Nat) : Int) - ((0 : Nat) : Int) = Builtin.Range.rangeSize lo hi 1 := by rw [rangeSize_one]; split <;> omega
    show IsRangeIter _ _ (lo + ((0 : Nat) : Int) * 1) ((((hi - lo).toNat : Nat) : Int) - ((0 : Nat) : Int)) 1
    rw [e1, e2]
    exact Heap.get?_push_size _ rfl
  · have e : b = (s.heap.push { cls := .type "range", data := .fields #[.int lo t, .int hi u, .int 1 v] }).objs.size := by simpa using hb
    subst e
    exact I1.fpOk (Nat.le_refl _) (I1.hok.fresh (Nat.le_refl _))
noncomputable def iRng1 (ta : TA) : TI := fun σ H R => ta σ H fun vs H1 => ∃ j : Int, vs = [.int j] ∧ -(2 ^ 62) ≤ j ∧ j < 2 ^ 62 ∧ R (Itr 0 j.toNat) H1
theorem pi_range1 {a : Expr} {ta : TA} {p pos : Pos} (hg : Gl X "range") (hm : X.mg "range" = none) (ha : PA X [a] ta) (hs : starEach [a] X.env = [(false, eval a X.env)] := by rfl) : PI X tg (.Call (.Name "range" p) [a] [] pos) (iRng1 ta) := by
  intro pins s σ H R I h
  refine Call_ (ld_blt I hg hm boot_range (PyProof.Rows.callWith_type1 (thn (ha pos pins s σ H _ I h) fun us s1 ⟨vs, H1, I1, r1, q1⟩ => ?_) hs rfl))
  obtain ⟨j, e, q1, q2, q⟩ := q1
  subst e
  cases r1 with
  | cons r rr =>
    cases rr
    obtain ⟨t, rfl⟩ := r
    exact call_range_1 (range_it I1 (by omega) (by omega) q1 q2 (by simpa using q))
noncomputable def tFor (wi : TI) (g : TG) (tb : TS) : TS := fun D σ H => wi σ H fun J H1 => ∃ W : Nat → Nat → St → Hp → Prop, (∃ m, W 0 m σ H1) ∧ ∀ i m σ H, W i m σ H →
  (J.stop i H ∧ D.nx σ H) ∨ (J.go i H ∧ ∃ N : St → Hp → Prop, (∀ σ' H', N σ' H' → ∃ m', m' < m ∧ W (i + 1) m' σ' H') ∧ ∀ x H', J.yld i H x H' → g x σ H' fun σ2 H2 => tb { D with nx := N, ct := N, bk := D.nx } σ2 H2)
noncomputable def pinsAt (fp : List Addr) (h : Heap) : List (Addr × Obj) := fp.filterMap fun b => (h.get? b).map fun o => (b, o)
theorem mem_pinsAt {fp : List Addr} {h : Heap} {b : Addr} {o : Obj} (hb : b ∈ fp) (e : h.get? b = some o) : (b, o) ∈ pinsAt fp h := List.mem_filterMap.mpr ⟨b, hb, by rw [e]; rfl⟩
theorem of_pinsAt {fp : List Addr} {h : Heap} {p : Addr × Obj} (hp : p ∈ pinsAt fp h) : p.1 ∈ fp ∧ h.get? p.1 = some p.2 := by
  obtain ⟨b, hb, e⟩ := List.mem_filterMap.mp hp
  cases q : h.get? b with
  | none => rw [q] at e; cases e
  | some o =>
    rw [q] at e
    have e' : (b, o) = p := Option.some.inj e
    subst e'
    exact ⟨hb, q⟩
theorem Inv.pinned {pins : List (Addr × Obj)} {σ : St} {H : Hp} {s : Shared} {fp : List Addr} (I : Inv X pins σ H s) (hf : ∀ b ∈ fp, FpOk X pins H b) (ho : ∀ b ∈ fp, ∃ o, s.heap.get? b = some o ∧ ∀ v, o.data ≠ .cell v) : Inv X (pins ++ pinsAt fp s.heap) σ H s :=
  I.pins_of fun p hp => (List.mem_append.mp hp).elim (fun z => I.pin p (List.mem_append_right _ z)) fun z => by
    obtain ⟨hb, e⟩ := of_pinsAt z
    obtain ⟨f0, f1, f2, _⟩ := hf p.1 hb
    obtain ⟨o, e', d⟩ := ho p.1 hb
    rw [e] at e'; cases e'
    exact ⟨e, f0, f1, f2, d⟩
theorem Inv.unpinned {pins pl : List (Addr × Obj)} {σ : St} {H : Hp} {s : Shared} (I : Inv X (pins ++ pl) σ H s) : Inv X pins σ H s := I.pins_of fun p hp => I.pin p (List.mem_append_right _ (List.mem_append_left _ hp))
theorem ps_for {iter : Expr} {body : List Stmt} {wi : TI} {g : TG} {tb : TS} {pos : Pos} (hp : PassesOwn (model X.prog X.w) X.A X.env X.xe) (hc : X.calm = true) (hi : PI X tg iter wi) (hg : PG X tg g) (hb : PSs X body tb)
    (hs : ∀ x, foldedSetIterable iter X.env x = pure x := by intro _; rfl) : PS X (.For tg iter body [] pos) (tFor wi g tb) := by
  intro pins s σ H D I h
  refine wpAny_For (thn (hi pins s σ H _ I h) fun v s1 h1 => thn h1 fun itv s2 h2 => ?_) hs
  obtain ⟨it, fp, tn, J, H2, e, I2, T, st2, f2, W, ⟨m0, w0⟩, turn⟩ := h2
  subst e
  have stat : ∀ {H' : Hp}, (∀ b ∈ fp, H' b = none) → ∀ b ∈ fp, FpOk X pins H' b := fun hn b hb => ⟨hn b hb, (f2 b hb).2⟩
  refine codeAny_forLoop_any (fun n s' => ∃ i σ' H', Inv X pins σ' H' s' ∧ tn i s'.heap ∧ (∀ b ∈ fp, H' b = none) ∧ W i n σ' H') ?_ m0 ⟨0, σ, H2, I2, st2, fun b hb => (f2 b hb).1, w0⟩
  rintro n s3 ⟨i, σ3, H3, I3, st3, fr3, w3⟩
  rcases turn i n σ3 H3 w3 with ⟨stop, qn⟩ | ⟨go, N, hN, step⟩
  · refine wpAny_passesOwn hp (thn (T.done X rfl rfl rfl hc i pins s3 σ3 H3 X.xe I3 (stat fr3) st3 stop) fun r s4 ⟨hr, I4⟩ => ?_)
    subst hr
    exact wpAny_execs_nil ⟨σ3, H3, I4, qn⟩
  · refine wpAny_passesOwn hp (thn (T.item X rfl rfl rfl hc i pins s3 σ3 H3 X.xe I3 (stat fr3) st3 go) fun r s4 ⟨u, hr, h4⟩ => ?_)
    subst hr
    refine wpAny_passesOwn hp (thn h4 fun _ s5 ⟨x, H5, I5, r5, y5, st5, fr5⟩ => ?_)
    have I5' := I5.pinned (stat fr5) (T.obj _ _ st5)
    refine wpAny_passesOwn hp (thn (hg _ s5 σ3 H5 x u _ I5' r5 (step x H5 y5)) fun _ s6 ⟨σ6, H6, I6, q6⟩ => ?_)
    refine wpAny_passesOwn hp (thn (hb _ s6 σ6 H6 _ I6 q6) fun f s7 q7 => ?_)
    have again : ∀ {σ7 : St} {H7 : Hp}, Inv X (pins ++ pinsAt fp s5.heap) σ7 H7 s7 → N σ7 H7 → ∃ m, m < n ∧ ∃ i σ' H', Inv X pins σ' H' s7 ∧ tn i s7.heap ∧ (∀ b ∈ fp, H' b = none) ∧ W i m σ' H' := fun {σ7 H7} I7 n7 => by
      obtain ⟨m', hm, w7⟩ := hN σ7 H7 n7
      refine ⟨m', hm, i + 1, σ7, H7, I7.unpinned, T.keep _ _ _ st5 fun b hb o e => (I7.pin (b, o) (List.mem_append_right _ (List.mem_append_right _ (mem_pinsAt hb e)))).1, fun b hb => ?_, w7⟩
      obtain ⟨o, e, d⟩ := T.obj _ _ st5 b hb
      exact (I7.pin (b, o) (List.mem_append_right _ (List.mem_append_right _ (mem_pinsAt hb e)))).2.1
    cases f with
    | next => obtain ⟨σ7, H7, I7, n7⟩ := q7; exact again I7 n7
    | cont => obtain ⟨σ7, H7, I7, n7⟩ := q7; exact again I7 n7
    | brk => obtain ⟨σ7, H7, I7, q7⟩ := q7; exact ⟨σ7, H7, I7.unpinned, q7⟩
    | ret v => obtain ⟨x7, σ7, H7, I7, r7, q7⟩ := q7; exact ⟨x7, σ7, H7, I7.unpinned, r7, q7⟩
end
end L2
namespace L2
open PySem PySem.Spec PyProof.Rows
noncomputable abbrev R2 := V → V → Hp → VK → Prop
noncomputable def OpR (X : Cx) (f : Value → Value → Sem Value) (r : R2) : Prop :=
  ∀ (pins : List (Addr × Obj)) (s : Shared) (σ : St) (H : Hp) (x y : V) (v u : Value) (Q : VK), Inv X pins σ H s → RelV x v → RelV y u → r x y H Q →
    wpAny (model X.prog X.w) X.A (f v u) (EP X pins σ Q) X.xe s
noncomputable def UnR (X : Cx) (f : Value → Sem Value) (r : V → Hp → VK → Prop) : Prop :=
  ∀ (pins : List (Addr × Obj)) (s : Shared) (σ : St) (H : Hp) (x : V) (v : Value) (Q : VK), Inv X pins σ H s → RelV x v → r x H Q →
    wpAny (model X.prog X.w) X.A (f v) (EP X pins σ Q) X.xe s
noncomputable def CallR (X : Cx) (f : Value) (r : List V → Hp → VK → Prop) : Prop :=
  ∀ (pins : List (Addr × Obj)) (s : Shared) (σ : St) (H : Hp) (xs : List V) (us : List Value) (Q : VK), Inv X pins σ H s → Vals xs us → r xs H Q →
    wpAny (model X.prog X.w) X.A (call f us) (EP X pins σ Q) X.xe s
noncomputable def TruR (X : Cx) (r : V → Hp → (Bool → Hp → Prop) → Prop) : Prop :=
  ∀ (pins : List (Addr × Obj)) (s : Shared) (σ : St) (H : Hp) (x : V) (v : Value) (Q : Bool → Hp → Prop), Inv X pins σ H s → RelV x v → r x H Q →
    wpAny (model X.prog X.w) X.A (truthy v) (TP X pins σ Q) X.xe s
noncomputable abbrev tOp (r : R2) (ta tb : TE) : TE := fun σ H Q => ta σ H fun x H1 => tb σ H1 fun y H2 => r x y H2 Q
noncomputable abbrev tUn (r : V → Hp → VK → Prop) (ta : TE) : TE := fun σ H Q => ta σ H fun x H1 => r x H1 Q
noncomputable def rI (C : Int → Int → Prop) (g : Int → Int → V) : R2 := fun x y H Q => ∃ i j, x = .int i ∧ y = .int j ∧ C i j ∧ Q (g i j) H
noncomputable def rI0 (g : Int → Int → V) : R2 := fun x y H Q => ∃ i j, x = .int i ∧ y = .int j ∧ Q (g i j) H
noncomputable def rU (g : Int → V) : V → Hp → VK → Prop := fun x H Q => ∃ i, x = .int i ∧ Q (g i) H
section
variable {X : Cx} {a b c : Expr} {ta tb tc : TE} {pos : Pos}
theorem binT (ha : PE X a ta) (hb : PE X b tb) {pins : List (Addr × Obj)} {s : Shared} {σ : St} {H : Hp} {R : V → V → Hp → Prop} (I : Inv X pins σ H s)
    (h : ta σ H fun x H1 => tb σ H1 fun y H2 => R x y H2) {Q : Value → Shared → Prop} {f : Value → Value → Sem Value}
    (hf : ∀ v u s2 x y H2, Inv X pins σ H2 s2 → RelV x v → RelV y u → R x y H2 → wpAny (model X.prog X.w) X.A (f v u) Q X.xe s2) :
    wpAny (model X.prog X.w) X.A (eval a X.env) (fun v s₁ => wpAny (model X.prog X.w) X.A (eval b X.env) (fun u s₂ => wpAny (model X.prog X.w) X.A (f v u) Q X.xe s₂) X.xe s₁) X.xe s := by
  refine thn (ha pins s σ H _ I h) fun v s1 ⟨x, H1, I1, r1, q1⟩ => ?_
  refine thn (hb pins s1 σ H1 _ I1 q1) fun u s2 ⟨y, H2, I2, r2, q2⟩ => ?_
  exact hf v u s2 x y H2 I2 r1 r2 q2
theorem pe_op {op : Operator} {r : R2} (ho : OpR X (binaryOp op) r) (ha : PE X a ta) (hb : PE X b tb) : PE X (.BinOp a op b pos) (tOp r ta tb) := by
  intro pins s σ H Q I h
  exact wpAny_BinOp (binT ha hb I h fun v u s2 x y H2 I2 rx ry q => ho pins s2 σ H2 x y v u Q I2 rx ry q)
theorem pe_un {op : UnaryOp} {r : V → Hp → VK → Prop} (ho : UnR X (unaryOp op) r) (ha : PE X a ta) : PE X (.UnaryOp op a pos) (tUn r ta) := by
  intro pins s σ H Q I h
  exact UnaryOp_ (thn (ha pins s σ H _ I h) fun v s1 ⟨x, H1, I1, r1, q1⟩ => ho pins s1 σ H1 x v Q I1 r1 q1)
theorem opI {f : Value → Value → Sem Value} {C : Int → Int → Prop} {g : Int → Int → Int}
    (rule : ∀ (i j : Int) (t u : Tok) (s : Shared) (Q : Value → Shared → Prop) (E : Value → Shared → Prop), C i j → Q (.int (g i j) s.toks) { s with toks := s.toks + 1 } → wpAny (model X.prog X.w) X.A (f (.int i t) (.int j u)) Q E s) :
    OpR X f (rI C fun i j => .int (g i j)) := by
  intro pins s σ H x y v u Q I rx ry h
  obtain ⟨i, j, rfl, rfl, hc, q⟩ := h
  obtain ⟨t, rfl⟩ := rx
  obtain ⟨t', rfl⟩ := ry
  exact rule i j t t' s _ _ hc ⟨.int (g i j), H, I.tok _, ⟨_, rfl⟩, q⟩
theorem opI0 {f : Value → Value → Sem Value} {g : Int → Int → Int}
    (rule : ∀ (i j : Int) (t u : Tok) (s : Shared) (Q : Value → Shared → Prop) (E : Value → Shared → Prop), Q (.int (g i j) s.toks) { s with toks := s.toks + 1 } → wpAny (model X.prog X.w) X.A (f (.int i t) (.int j u)) Q E s) :
    OpR X f (rI0 fun i j => .int (g i j)) := by
  intro pins s σ H x y v u Q I rx ry h
  obtain ⟨i, j, rfl, rfl, q⟩ := h
  obtain ⟨t, rfl⟩ := rx
  obtain ⟨t', rfl⟩ := ry
  exact rule i j t t' s _ _ ⟨.int (g i j), H, I.tok _, ⟨_, rfl⟩, q⟩
theorem opB0 {f : Value → Value → Sem Value} {g : Int → Int → Bool}
    (rule : ∀ (i j : Int) (t u : Tok) (s : Shared) (Q : Value → Shared → Prop) (E : Value → Shared → Prop), Q (.bool (g i j)) s → wpAny (model X.prog X.w) X.A (f (.int i t) (.int j u)) Q E s) :
    OpR X f (rI0 fun i j => .bl (g i j)) := by
  intro pins s σ H x y v u Q I rx ry h
  obtain ⟨i, j, rfl, rfl, q⟩ := h
  obtain ⟨t, rfl⟩ := rx
  obtain ⟨t', rfl⟩ := ry
  exact rule i j t t' s _ _ ⟨.bl (g i j), H, I, rfl, q⟩
noncomputable def CDiv (i j : Int) : Prop := 0 < j ∧ j < 1073741824
noncomputable def CPow (i j : Int) : Prop := 0 ≤ j ∧ j ≤ 1000000 ∧ i.natAbs < 2 ^ 64
noncomputable def CMul (i j : Int) : Prop := (-(2 ^ 64) < i ∧ i < 2 ^ 64) ∨ (-(2 ^ 64) < j ∧ j < 2 ^ 64)
theorem CMul.ok {i j : Int} (h : CMul i j) : IntMulOk i j := by
  rcases h with ⟨h1, h2⟩ | ⟨h1, h2⟩
  · exact .of_left (intBits_le_64 h1 h2)
  · exact .of_right (intBits_le_64 h1 h2)
theorem op_add : OpR X (binaryOp .Add) (rI0 fun i j => .int (i + j)) := opI0 fun _ _ _ _ _ _ _ q => add_int q
theorem op_sub : OpR X (binaryOp .Sub) (rI0 fun i j => .int (i - j)) := opI0 fun _ _ _ _ _ _ _ q => sub_int q
theorem op_mul : OpR X (binaryOp .Mult) (rI CMul fun i j => .int (i * j)) := opI fun _ _ _ _ _ _ _ hc q => mul_int q hc.ok
theorem op_fdiv : OpR X (binaryOp .FloorDiv) (rI CDiv fun i j => .int (i / j)) := opI fun i j _ _ _ _ _ hc q => by
  have h1 : (0 : Int) < j := hc.1
  have h2 : j < 1073741824 := hc.2
  exact floordiv_int (by omega) (by rw [Int.fdiv_eq_ediv_of_nonneg i (by omega)]; exact q) (.inl (PyProof.noPylong_small (by omega)))
theorem op_mod : OpR X (binaryOp .Mod) (rI (fun _ j => 0 < j) fun i j => .int (i % j)) := opI fun i j _ _ _ _ _ hc q => by
  have h1 : (0 : Int) < j := hc
  exact mod_int' (by omega) (by rw [Int.fmod_eq_emod_of_nonneg i (by omega)]; exact q)
theorem unI {f : Value → Sem Value} {g : Int → Int}
    (rule : ∀ (i : Int) (t : Tok) (s : Shared) (Q : Value → Shared → Prop) (E : Value → Shared → Prop), Q (.int (g i) s.toks) { s with toks := s.toks + 1 } → wpAny (model X.prog X.w) X.A (f (.int i t)) Q E s) :
    UnR X f (rU fun i => .int (g i)) := by
  intro pins s σ H x v Q I rx h
  obtain ⟨i, rfl, q⟩ := h
  obtain ⟨t, rfl⟩ := rx
  exact rule i t s _ _ ⟨.int (g i), H, I.tok _, ⟨_, rfl⟩, q⟩
theorem un_neg : UnR X (unaryOp .USub) (rU fun i => .int (-i)) := unI fun _ _ _ _ _ q => neg_int q
end
noncomputable def scal : V → V → Bool
  | .non, .non => true | .non, .int _ => true | .int _, .non => true | .non, .bl _ => true | .bl _, .non => true | .non, .str _ => true | .str _, .non => true
  | .int _, .int _ => true | .bl _, .bl _ => true | .str _, .str _ => true | .byt _, .byt _ => true
  | .int _, .str _ => true | .str _, .int _ => true | .bl _, .str _ => true | .str _, .bl _ => true
  | _, _ => false
noncomputable def rEq : R2 := fun x y H Q => scal x y = true ∧ Q (.bl (decide (x = y))) H
noncomputable def rNe : R2 := fun x y H Q => scal x y = true ∧ Q (.bl (!decide (x = y))) H
theorem dec_int {i j : Int} : decide (V.int i = V.int j) = (i == j) := by
  rw [Bool.eq_iff_iff]
  simp
theorem dec_bl {i j : Bool} : decide (V.bl i = V.bl j) = (i == j) := by
  rw [Bool.eq_iff_iff]
  simp
theorem dec_str {i j : Str} : decide (V.str i = V.str j) = (i == j) := by
  rw [Bool.eq_iff_iff]
  simp
theorem dec_byt {i j : Array UInt8} : decide (V.byt i = V.byt j) = (i.toList == j.toList) := by
  rw [Bool.eq_iff_iff]
  cases i
  cases j
  simp
section
variable {X : Cx} {a b c : Expr} {ta tb tc : TE} {pos : Pos}
theorem fin_bl {pins : List (Addr × Obj)} {σ : St} {H : Hp} {s : Shared} {Q : VK} {k k' : Bool} (I : Inv X pins σ H s) (q : Q (.bl k) H) (e : k = k') : EP X pins σ Q (.bool k') s := by
  subst e
  exact ⟨.bl k, H, I, rfl, q⟩
theorem op_eq : OpR X (compareOp .Eq) rEq := by
  intro pins s σ H x y v u Q I rx ry h
  obtain ⟨hs, q⟩ := h
  cases x with
  | non =>
    cases rx
    cases y with
    | non => cases ry; exact PySem.EqNone.eq_none_none (fin_bl I q (by simp))
    | bl j => cases ry; exact PySem.EqNone.eq_none_bool (fin_bl I q (by simp))
    | int j => obtain ⟨t', rfl⟩ := ry; exact PySem.EqNone.eq_none_int (fin_bl I q (by simp))
    | str j => obtain ⟨t', rfl⟩ := ry; exact PySem.EqNone.eq_none_str (fin_bl I q (by simp))
    | _ => exact absurd (show false = true from hs) Bool.false_ne_true
  | bl i =>
    cases rx
    cases y with
    | non => cases ry; exact PySem.EqNone.eq_bool_none (fin_bl I q (by simp))
    | bl j => cases ry; exact eq_bool (fin_bl I q dec_bl)
    | str j => obtain ⟨t', rfl⟩ := ry; exact PySem.EqMixed.eq_bool_str (fin_bl I q (by simp))
    | _ => exact absurd (show false = true from hs) Bool.false_ne_true
  | int i =>
    obtain ⟨t, rfl⟩ := rx
    cases y with
    | non => cases ry; exact PySem.EqNone.eq_int_none (fin_bl I q (by simp))
    | int j => obtain ⟨t', rfl⟩ := ry; exact eq_int (fin_bl I q dec_int)
    | str j => obtain ⟨t', rfl⟩ := ry; exact PySem.EqMixed.eq_int_str (fin_bl I q (by simp))
    | _ => exact absurd (show false = true from hs) Bool.false_ne_true
  | str i =>
    obtain ⟨t, rfl⟩ := rx
    cases y with
    | non => cases ry; exact PySem.EqNone.eq_str_none (fin_bl I q (by simp))
    | bl j => cases ry; exact PySem.EqMixed.eq_str_bool (fin_bl I q (by simp))
    | int j => obtain ⟨t', rfl⟩ := ry; exact PySem.EqMixed.eq_str_int (fin_bl I q (by simp))
    | str j => obtain ⟨t', rfl⟩ := ry; exact eq_str (fin_bl I q dec_str)
    | _ => exact absurd (show false = true from hs) Bool.false_ne_true
  | byt i =>
    obtain ⟨t, rfl⟩ := rx
    cases y with
    | byt j => obtain ⟨t', rfl⟩ := ry; exact PySem.W.eq_bytes (fin_bl I q dec_byt)
    | _ => exact absurd (show false = true from hs) Bool.false_ne_true
  | _ => cases y <;> exact absurd (show false = true from hs) Bool.false_ne_true
theorem op_ne : OpR X (compareOp .NotEq) rNe := by
  intro pins s σ H x y v u Q I rx ry h
  obtain ⟨hs, q⟩ := h
  cases x with
  | non =>
    cases rx
    cases y with
    | non => cases ry; exact PySem.EqNone.ne_none_none (fin_bl I q (by simp))
    | bl j => cases ry; exact PySem.EqNone.ne_none_bool (fin_bl I q (by simp))
    | int j => obtain ⟨t', rfl⟩ := ry; exact PySem.EqNone.ne_none_int (fin_bl I q (by simp))
    | str j => obtain ⟨t', rfl⟩ := ry; exact PySem.EqNone.ne_none_str (fin_bl I q (by simp))
    | _ => exact absurd (show false = true from hs) Bool.false_ne_true
  | bl i =>
    cases rx
    cases y with
    | non => cases ry; exact PySem.EqNone.ne_bool_none (fin_bl I q (by simp))
    | bl j => cases ry; exact ne_bool (fin_bl I q (congrArg not dec_bl))
    | str j => obtain ⟨t', rfl⟩ := ry; exact PySem.EqMixed.ne_bool_str (fin_bl I q (by simp))
    | _ => exact absurd (show false = true from hs) Bool.false_ne_true
  | int i =>
    obtain ⟨t, rfl⟩ := rx
    cases y with
    | non => cases ry; exact PySem.EqNone.ne_int_none (fin_bl I q (by simp))
    | int j => obtain ⟨t', rfl⟩ := ry; exact ne_int (fin_bl I q (congrArg not dec_int))
    | str j => obtain ⟨t', rfl⟩ := ry; exact PySem.EqMixed.ne_int_str (fin_bl I q (by simp))
    | _ => exact absurd (show false = true from hs) Bool.false_ne_true
  | str i =>
    obtain ⟨t, rfl⟩ := rx
    cases y with
    | non => cases ry; exact PySem.EqNone.ne_str_none (fin_bl I q (by simp))
    | bl j => cases ry; exact PySem.EqMixed.ne_str_bool (fin_bl I q (by simp))
    | int j => obtain ⟨t', rfl⟩ := ry; exact PySem.EqMixed.ne_str_int (fin_bl I q (by simp))
    | str j => obtain ⟨t', rfl⟩ := ry; exact ne_str (fin_bl I q (congrArg not dec_str))
    | _ => exact absurd (show false = true from hs) Bool.false_ne_true
  | byt i =>
    obtain ⟨t, rfl⟩ := rx
    cases y with
    | byt j => obtain ⟨t', rfl⟩ := ry; exact PySem.W.ne_bytes (fin_bl I q (congrArg not dec_byt))
    | _ => exact absurd (show false = true from hs) Bool.false_ne_true
  | _ => cases y <;> exact absurd (show false = true from hs) Bool.false_ne_true
theorem op_lt : OpR X (compareOp .Lt) (rI0 fun i j => .bl (decide (i < j))) := opB0 fun _ _ _ _ _ _ _ q => lt_int q
theorem op_le : OpR X (compareOp .LtE) (rI0 fun i j => .bl (decide (i ≤ j))) := opB0 fun _ _ _ _ _ _ _ q => le_int q
theorem op_gt : OpR X (compareOp .Gt) (rI0 fun i j => .bl (decide (j < i))) := opB0 fun _ _ _ _ _ _ _ q => gt_int q
theorem op_isN : OpR X (compareOp .Is) (fun x y H Q => y = .non ∧ Q (.bl (decide (x = .non))) H) := by
  intro pins s σ H x y v u Q I rx ry h
  obtain ⟨rfl, q⟩ := h
  cases ry
  refine is_none_gen (fin_bl I q ?_)
  cases x <;> first
    | (cases rx; rfl)
    | (obtain ⟨t, rfl⟩ := rx; rfl)
theorem nomark (b : Expr) {op : CmpOp} (h : op ≠ .In := by decide) (h2 : op ≠ .NotIn := by decide) : behindInMarks op b = false := by
  have e1 : (op == CmpOp.In) = false := by cases op <;> first | rfl | exact absurd rfl h
  have e2 : (op == CmpOp.NotIn) = false := by cases op <;> first | rfl | exact absurd rfl h2
  cases b <;> simp [behindInMarks, e1, e2]
theorem pe_cmpR {op : CmpOp} {r : R2} (ho : OpR X (compareOp op) r) (ha : PE X a ta) (hb : PE X b tb) (hm : behindInMarks op b = false) : PE X (.Compare a [op] [b] pos) (tOp r ta tb) := by
  intro pins s σ H Q I h
  exact wpAny_Compare1 (binT ha hb I h fun v u s2 x y H2 I2 rx ry q => ho pins s2 σ H2 x y v u Q I2 rx ry q) hm
noncomputable abbrev tTest (t : TE) : TT := fun σ H Q => t σ H fun x H' => ∃ k, x = .bl k ∧ Q k H'
theorem pt_cmpR {op : CmpOp} {r : R2} (ho : OpR X (compareOp op) r) (ha : PE X a ta) (hb : PE X b tb) (hm : behindInMarks op b = false) : PT X (.Compare a [op] [b] pos) (tTest (tOp r ta tb)) := by
  intro pins s σ H Q I h
  refine wpAny_isTrue_Compare1 (thn (ha pins s σ H _ I h) fun v s1 ⟨x, H1, I1, r1, q1⟩ => thn (hb pins s1 σ H1 _ I1 q1) fun u s2 ⟨y, H2, I2, r2, q2⟩ =>
    thn (ho pins s2 σ H2 x y v u _ I2 r1 r2 q2) fun c s3 ⟨z, H3, I3, r3, k, e, q3⟩ => ?_) hm
  subst e
  cases r3
  exact wpAny_truthy_bool ⟨H3, I3, q3⟩
noncomputable def tChain (r r' : R2) (ta tb tc : TE) : TE := fun σ H Q => ta σ H fun x H1 => tb σ H1 fun y H2 => r x y H2 fun z H3 => ∃ k, z = .bl k ∧
  (if k = true then tc σ H3 fun w' H4 => r' y w' H4 Q else Q (.bl false) H3)
theorem pt_chain {op op' : CmpOp} {r r' : R2} (ho : OpR X (compareOp op) r) (ho' : OpR X (compareOp op') r') (ha : PE X a ta) (hb : PE X b tb) (hc : PE X c tc)
    (hm : lastMarks [op, op'] [b, c] = false := by with_unfolding_all rfl) : PT X (.Compare a [op, op'] [b, c] pos) (tTest (tChain r r' ta tb tc)) := by
  intro pins s σ H Q I h
  refine isTrue_chain (thn (ha pins s σ H _ I h) fun v s1 ⟨x, H1, I1, r1, q1⟩ => test_link (thn (hb pins s1 σ H1 _ I1 q1) fun u s2 ⟨y, H2, I2, r2, q2⟩ =>
    thn (ho pins s2 σ H2 x y v u _ I2 r1 r2 q2) fun d s3 ⟨z, H3, I3, r3, k, e, q3⟩ => ?_)) hm
  subst e
  cases r3
  refine wpAny_truthy_bool ?_
  cases k with
  | false =>
    obtain ⟨k', e', q'⟩ := q3
    cases e'
    exact ite_ff ⟨H3, I3, q'⟩
  | true =>
    refine ite_tt (test_last (thn (hc pins s3 σ H3 _ I3 q3) fun w' s4 ⟨z', H4, I4, r4, q4⟩ => thn (ho' pins s4 σ H4 y z' u w' _ I4 r2 r4 q4) fun d' s5 ⟨z2, H5, I5, r5, k2, e2, q5⟩ => ?_))
    subst e2
    cases r5
    exact wpAny_truthy_bool ⟨H5, I5, q5⟩
noncomputable def TruV (K : PySem.W.Frag) (x : V) (H : Hp) (k : Bool) : Prop :=
  match x with
  | .non => k = false
  | .bl b => k = b
  | .int i => k = (i != 0)
  | .str y => y.length ≤ sizeLine ∧ k = ((y.length : Int) != 0)
  | .byt y => y.size ≤ sizeLine ∧ k = ((y.size : Int) != 0)
  | .ref p => (∃ xs, SqL K H p xs ∧ k = !xs.isEmpty) ∨ (∃ xs, SqT K H p xs ∧ k = !xs.isEmpty) ∨ ∃ kvs, H p = some (.dK kvs) ∧ k = !kvs.isEmpty
  | _ => False
theorem isEmpty_kv {κ : Type} {kvs : List (κ × V)} {vs : List (κ × Value)} (r : KV kvs vs) : (!vs.isEmpty) = !kvs.isEmpty := by
  cases r <;> rfl
theorem isEmpty_of {xs : List V} {its : List Value} (r : Vals xs its) : (!its.toArray.isEmpty) = !xs.isEmpty := by
  cases r <;> simp
theorem line63 : (sizeLine : Nat) < 2 ^ 63 := by rw [sizeLine_eq]; decide
theorem tru_ok : TruR X (fun x H Q => ∃ k, TruV X.K x H k ∧ Q k H) := by
  intro pins s σ H x v Q I rx h
  obtain ⟨k, e, q⟩ := h
  have hl := line63
  have hs : sizeLine = 16777216 := sizeLine_eq
  cases x with
  | non =>
    cases rx
    have e' : k = false := e
    subst e'
    exact truthy_none ⟨H, I, q⟩
  | bl b =>
    cases rx
    have e' : k = b := e
    subst e'
    exact wpAny_truthy_bool ⟨H, I, q⟩
  | int i =>
    obtain ⟨t, rfl⟩ := rx
    have e' : k = (i != 0) := e
    subst e'
    exact PySem.P.truthy_int ⟨H, I, q⟩
  | str y =>
    obtain ⟨t, rfl⟩ := rx
    obtain ⟨hy, e'⟩ : y.length ≤ sizeLine ∧ k = ((y.length : Int) != 0) := e
    subst e'
    exact PySem.P.truthy_str (by omega) ⟨H, I.tok _, q⟩
  | byt y =>
    obtain ⟨t, rfl⟩ := rx
    obtain ⟨hy, e'⟩ : y.size ≤ sizeLine ∧ k = ((y.size : Int) != 0) := e
    subst e'
    exact PySem.W.truthy_bytes (by omega) ⟨H, I.tok _, q⟩
  | ref p =>
    cases rx
    have e' : (∃ xs, SqL X.K H p xs ∧ k = !xs.isEmpty) ∨ (∃ xs, SqT X.K H p xs ∧ k = !xs.isEmpty) ∨ ∃ kvs, H p = some (.dK kvs) ∧ k = !kvs.isEmpty := e
    rcases e' with ⟨xs, hx, e'⟩ | ⟨xs, hx, e'⟩ | ⟨kvs, hx, e'⟩
    · subst e'
      obtain ⟨its, r, pl, hz⟩ := I.list hx
      have hlen := r.length
      exact wpAny_truthy_list pl.isList (by simp only [List.size_toArray]; omega) ⟨H, I.tok _, by rw [isEmpty_of r]; exact q⟩
    · subst e'
      obtain ⟨its, r, pl, hz⟩ := I.tuple hx
      have hlen := r.length
      exact truthy_tuple pl (by simp only [List.size_toArray]; omega) ⟨H, I.tok _, by rw [isEmpty_of r]; exact q⟩
    · subst e'
      obtain ⟨hz, hS, vs, r, m⟩ : kvs.length ≤ sizeLine ∧ (p == sysModules) = false ∧ ∃ vs, KV kvs vs ∧ s.heap.DictOf (mixKind X.prog X.w) p vs := I.hok p _ hx
      have hlen : kvs.length = vs.length := Paired.length r
      exact wpAny_truthy_dict hS m (by omega) ⟨H, I.tok _, by rw [isEmpty_kv r]; exact q⟩
  | _ => exact (show False from e).elim
theorem pt_truth (ha : PE X a ta) (he : ∀ whole, isTrue a X.env whole = (do let v ← whole; standAt a.pos; holding [v] (truthy v))) :
    PT X a (fun σ H Q => ta σ H fun x H' => ∃ k, TruV X.K x H' k ∧ Q k H') := by
  intro pins s σ H Q I h
  exact isTrue_plain (thn (ha pins s σ H _ I h) fun v s1 ⟨x, H1, I1, r1, q1⟩ => tru_ok pins s1 σ H1 x v Q I1 r1 q1) (he _)
theorem op_add_str : OpR X (binaryOp .Add) (fun x y H Q => ∃ i j, x = .str i ∧ y = .str j ∧ i.length + j.length ≤ sizeLine ∧ Q (.str (i ++ j)) H) := by
  intro pins s σ H x y v u Q I rx ry h
  obtain ⟨i, j, rfl, rfl, hz, q⟩ := h
  obtain ⟨t, rfl⟩ := rx
  obtain ⟨t', rfl⟩ := ry
  exact add_str (fun t' tk => ⟨.str (i ++ j), H, I.tok _, ⟨_, rfl⟩, q⟩) hz
theorem vals1 {x : V} {us : List Value} (r : Vals [x] us) : ∃ u, us = [u] ∧ RelV x u := by
  cases r with
  | cons r1 r2 => cases r2; exact ⟨_, rfl, r1⟩
theorem vals2 {x y : V} {us : List Value} (r : Vals [x, y] us) : ∃ u w', us = [u, w'] ∧ RelV x u ∧ RelV y w' := by
  cases r with
  | cons r1 r2 =>
    cases r2 with
    | cons r3 r4 => cases r4; exact ⟨_, _, rfl, r1, r3⟩
theorem call_max2 (hc : X.calm = true) : CallR X (.builtin "max") (fun xs H Q => ∃ i j, xs = [.int i, .int j] ∧ Q (.int (if j > i then j else i)) H) := by
  intro pins s σ H xs us Q I r h
  obtain ⟨i, j, rfl, q⟩ := h
  obtain ⟨u, w', rfl, ⟨t, rfl⟩, ⟨t', rfl⟩⟩ := vals2 r
  refine max_two_ints (I.ok.hd hc) fun h' tk k => ⟨_, H, I.kept k, ?_, q⟩
  by_cases hj : j > i
  · rw [if_pos hj, if_pos hj]; exact ⟨_, rfl⟩
  · rw [if_neg hj, if_neg hj]; exact ⟨_, rfl⟩
end
end L2
namespace L2
open PySem PySem.Spec PyProof.Rows
section
variable {prog : Program} {w : World} {A : Around} {E : Value → Shared → Prop} {s : Shared} {K : PySem.W.Frag} {x dx C f : Addr} {mA : Str → Option Value} {name : Str} {v : Value}
end
theorem RelO.some_of {v : V} {o : Option Value} (r : RelO (some v) o) : ∃ u, o = some u ∧ RelV v u := by
  cases o with
  | none => exact (show False from r).elim
  | some u => exact ⟨u, rfl, r⟩
section
variable {P : Program} {w : World} {H H' : Hp} {h h' : Heap} {a C dx : Addr} {fs fs' : List (Str × V)}
end
section
variable {X : Cx} {pins : List (Addr × Obj)} {σ : St} {H : Hp} {s : Shared} {a C dx : Addr} {fs : List (Str × V)} {f : Str} {v : V} {A : Around} {E : Value → Shared → Prop}
end
section
variable {X : Cx} {o e value : Expr} {f : Str} {pos pos' tpos : Pos} {ta tv : TE}
end
section
variable {X : Cx} {pins : List (Addr × Obj)} {σ : St} {H : Hp} {s : Shared} {A : Around} {E : Value → Shared → Prop} {Q : Value → Shared → Prop} {c : Value} {b : Bool}
end
end L2
namespace L2
open PySem PySem.Spec PyProof.Rows
structure Room (k : Nat) (A : Around) : Prop where
  hd : A.handled = none
  dp : A.depth + 3 * k + 5 < recursionLimit
  un : A.units + 16 * k + 200 < cLine
theorem Room.mono {j k : Nat} {A : Around} (r : Room k A) (h : j ≤ k) : Room j A := ⟨r.hd, by have := r.dp; omega, by have := r.un; omega⟩
theorem Room.deeper {k : Nat} {A : Around} (r : Room (k + 1) A) (env : Env) : Room k (A.deeper env) :=
  ⟨r.hd, by have := r.dp; show A.depth + 1 + 3 * k + 5 < _; omega, by have := r.un; show A.units + 3 + 16 * k + 200 < _; omega⟩
theorem Room.in1 {k : Nat} {A : Around} (r : Room (k + 1) A) : Room k A.in1 :=
  ⟨r.hd, by have := r.dp; show A.depth + 3 * k + 5 < _; omega, by have := r.un; show A.units + 1 + 16 * k + 200 < _; omega⟩
theorem Room.depth {k : Nat} {A : Around} (r : Room k A) : A.depth < recursionLimit := by have := r.dp; omega
theorem Room.units {k : Nat} {A : Around} (r : Room k A) : A.units + 64 < cLine := by have := r.un; omega
noncomputable abbrev tNil : TA := fun _ H Q => Q [] H
noncomputable abbrev tCons (ta : TE) (tr : TA) : TA := fun σ H Q => ta σ H fun x H1 => tr σ H1 fun xs H2 => Q (x :: xs) H2
section
variable {X : Cx} {e : Expr} {es : List Expr} {te : TE} {t : TA} {pos : Pos}
theorem pa_nil : PA X [] tNil := fun _ _ _ _ H Q I h => Calls.spliced_nil ⟨[], H, I, .nil, h⟩
theorem pa_cons (ha : PE X e te) (hr : PA X es t) (hs : starEach (e :: es) X.env = (false, eval e X.env) :: starEach es X.env := by rfl) : PA X (e :: es) (tCons te t) := by
  intro pos pins s σ H Q I h
  rw [hs]
  show wpAny _ _ (spliced ((false, eval e X.env) :: backTo pos (starEach es X.env))) _ _ s
  refine Calls.spliced_cons (thn (ha pins s σ H _ I h) fun u s1 ⟨x, H1, I1, r1, q1⟩ => ?_)
  exact thn (hr pos pins s1 σ H1 _ I1 q1) fun us s2 ⟨xs, H2, I2, r2, q2⟩ => ⟨x :: xs, H2, I2, .cons r1 r2, q2⟩
noncomputable abbrev tTup (t : TA) : TE := fun σ H Q => t σ H fun xs H1 => xs.length ≤ sizeLine ∧ ∀ p, H1 p = none → Q (.ref p) (upd H1 p (.tup xs))
noncomputable abbrev tLst (t : TA) : TE := fun σ H Q => t σ H fun xs H1 => xs.length ≤ sizeLine ∧ ∀ p, H1 p = none → Q (.ref p) (upd H1 p (.lst xs))
theorem pe_tup {x1} (h : PA X es t) : PE X (.Tuple es x1 pos) (tTup t) := by
  intro pins s σ H Q I hq
  refine wpAny_Tuple_spliced (thn (h pos pins s σ H _ I hq) fun us s1 ⟨xs, H1, I1, r, z, q⟩ => ⟨by rw [← r.length]; exact z, ?_⟩)
  have hf : H1 s1.heap.objs.size = none := I1.hok.fresh (Nat.le_refl _)
  refine ⟨.ref s1.heap.objs.size, upd H1 s1.heap.objs.size (.tup xs), I1.laid (t' := s1.toks) (fun b u e => Heap.get?_push_of_some _ e) (Nat.le_refl _) ?_, rfl, q _ hf⟩
  exact ⟨z, us, r, ⟨_, Heap.get?_push_size _ rfl, rfl, _, rfl⟩⟩
theorem pe_lst (h : PA X es t) : PE X (.List es pos) (tLst t) := by
  intro pins s σ H Q I hq
  refine wpAny_List_spliced (thn (h pos pins s σ H _ I hq) fun us s1 ⟨xs, H1, I1, r, z, q⟩ => ⟨by rw [← r.length]; exact z, ?_⟩)
  have hf : H1 s1.heap.objs.size = none := I1.hok.fresh (Nat.le_refl _)
  refine ⟨.ref s1.heap.objs.size, upd H1 s1.heap.objs.size (.lst xs), I1.laid (t' := s1.toks) (fun b u e => Heap.get?_push_of_some _ e) (Nat.le_refl _) ?_, rfl, q _ hf⟩
  exact ⟨z, us, 0, r, Heap.get?_push_size _ rfl⟩
end
noncomputable abbrev Sp := List V → Hp → VK → XK → Prop
noncomputable abbrev CXT := List Env → Hp → Shared → XK → Value → Shared → Prop
structure Env0 (P : Program) (w : World) (K : PySem.W.Frag) (mg : Str → Option Value) (base : Heap) (A : Around) (outer : List Env) (s : Shared) (H : Hp) : Prop where
  frames : A.frames = some outer
  mod : Mod K mg base
  bs : ∀ b o, base.get? b = some o → s.heap.get? b = some o ∧ H b = none
  bsz : base.objs.size ≤ s.heap.objs.size
  funs : s.heap.FunFrames base outer
  frf : ∀ b ∈ frs outer, H b = none
  hok : HOk P w H s.heap
  bare : AllBare s.gens
noncomputable def CE (outer : List Env) (P : Program) (w : World) (H : Hp) (s : Shared) (Q : VK) (u : Value) (s' : Shared) : Prop :=
  ∃ v H', s'.os = s.os ∧ AllBare s'.gens ∧ Un (frs outer) [] H H' s.heap s'.heap ∧ HOk P w H' s'.heap ∧ RelV v u ∧ Q v H'
noncomputable def CR (CX : CXT) (outer : List Env) (P : Program) (w : World) (H : Hp) (s : Shared) (Q : VK) (E : XK) (r : Result) (s' : Shared) : Prop :=
  match r with
  | .ok (.ret u) => CE outer P w H s Q u s'
  | .ok _ => False
  | .error e => CX outer H s E e s'
structure FnOk (P : Program) (w : World) (K : PySem.W.Frag) (mg : Str → Option Value) (base : Heap) (CX : CXT) (k : Nat) (f : Addr) (fd : FuncData) (ps : List Str) (sp : Sp) : Prop where
  len : ∀ vs H Q E, sp vs H Q E → vs.length = ps.length
  run : ∀ (A : Around) (outer : List Env) (s : Shared) (H : Hp) (args : Args) (us : List Value) (vs : List V) (Q : VK) (E : XK), Room k A → Env0 P w K mg base A outer s H → BindsTo s fd args (ps.zip us) → Vals vs us → sp vs H Q E →
    codeAny (model P w) A (.call (.ref f) args) (CR CX outer P w H s Q E) s
theorem FnOk.mono {P : Program} {w : World} {K : PySem.W.Frag} {mg : Str → Option Value} {base : Heap} {CX : CXT} {j k : Nat} {f : Addr} {fd : FuncData} {ps : List Str} {sp : Sp} (F : FnOk P w K mg base CX j f fd ps sp) (h : j ≤ k) :
    FnOk P w K mg base CX k f fd ps sp := ⟨F.len, fun A outer s H args us vs Q E hr => F.run A outer s H args us vs Q E (hr.mono h)⟩
theorem FnOk.imp {P : Program} {w : World} {K : PySem.W.Frag} {mg : Str → Option Value} {base : Heap} {CX : CXT} {k : Nat} {f : Addr} {fd : FuncData} {ps : List Str} {sp sp' : Sp} (F : FnOk P w K mg base CX k f fd ps sp)
    (h : ∀ vs H Q E, sp' vs H Q E → sp vs H Q E) : FnOk P w K mg base CX k f fd ps sp' :=
  ⟨fun vs H Q E q => F.len vs H Q E (h _ _ _ _ q), fun A outer s H args us vs Q E hr he hb hv hs => F.run A outer s H args us vs Q E hr he hb hv (h _ _ _ _ hs)⟩
theorem Env0.in1 {P : Program} {w : World} {K : PySem.W.Frag} {mg : Str → Option Value} {base : Heap} {A : Around} {outer : List Env} {s : Shared} {H : Hp} (e : Env0 P w K mg base A outer s H) :
    Env0 P w K mg base A.in1 outer s H := ⟨e.frames, e.mod, e.bs, e.bsz, e.funs, e.frf, e.hok, e.bare⟩
section
variable {X : Cx} {pins : List (Addr × Obj)} {σ : St} {H : Hp} {s s' : Shared}
theorem Inv.env0 (I : Inv X pins σ H s) : Env0 X.prog X.w X.K X.mg X.base X.A X.stack s H :=
  ⟨I.ok.frames, I.ok.mod, I.bs, Nat.le_trans I.ok.bsz I.sz, I.stack, I.stkFree, I.hok, I.bare⟩
theorem Inv.after {Q : VK} {u : Value} (I : Inv X pins σ H s) (h : CE X.stack X.prog X.w H s Q u s') : EP X pins σ Q u s' := by
  obtain ⟨v, H', os, bare, un, hok, r, q⟩ := h
  obtain ⟨hh, g, d, t, os'⟩ := s'
  obtain rfl : os' = s.os := os
  exact ⟨v, H', I.call (h' := hh) (g' := g) (d' := d) (t' := t) (ch := []) un hok bare (fun b z => absurd z (by simp)), r, q⟩
end
noncomputable abbrev tCall (sp : Sp) (dvs : List V) (E : XK) (t : TA) : TE := fun σ H Q => t σ H fun vs H1 => sp (vs ++ dvs) H1 Q E
noncomputable def Binds (K : PySem.W.Frag) (fd : FuncData) (ps : List Str) (ds : List Value) : Prop :=
  ∀ (s : Shared) (us : List Value), K.In s.heap → (us ++ ds).length = ps.length → BindsTo s fd ⟨us, []⟩ (ps.zip (us ++ ds))
theorem Binds.all {K : PySem.W.Frag} {fd : FuncData} {ps : List Str} (h : ∀ us : List Value, us.length = ps.length → bindArgs fd ⟨us, []⟩ = pure (ps.zip us)) : Binds K fd ps [] := fun s us _ hl => by
  rw [List.append_nil] at hl ⊢
  exact .of_eq (h us hl)
noncomputable def Passes (CX : CXT) (X : Cx) (E : XK) : Prop := ∀ (pins : List (Addr × Obj)) (σ : St) (H : Hp) (s : Shared) (e : Value) (s' : Shared), Inv X pins σ H s → CX X.stack H s E e s' → X.xe e s'
section
variable {X : Cx} {CX : CXT} {k : Nat} {f C : Addr} {fd : FuncData} {ps : List Str} {sp : Sp} {dvs : List V} {ds : List Value} {E : XK} {x m : Str} {p pos apos : Pos} {e o : Expr} {es : List Expr} {ta : TE} {t : TA}
theorem run_fn {pins : List (Addr × Obj)} {σ : St} {H : Hp} {s : Shared} {Q : VK} {us : List Value} {vs : List V} (F : FnOk X.prog X.w X.K X.mg X.base CX k f fd ps sp) (hr : Room k X.A) (hb : Binds X.K fd ps ds) (hd : Vals dvs ds) (hx : Passes CX X E)
    (I : Inv X pins σ H s) (r : Vals vs us) (h : sp (vs ++ dvs) H Q E) : wpAny (model X.prog X.w) X.A (call (.ref f) us) (EP X pins σ Q) X.xe s := by
  have r2 : Vals (vs ++ dvs) (us ++ ds) := r.append hd
  have hl : (us ++ ds).length = ps.length := by rw [← r2.length]; exact F.len _ _ _ _ h
  refine wpAny_call (codeAny_mono (F.run X.A X.stack s H ⟨us, []⟩ (us ++ ds) (vs ++ dvs) Q E hr I.env0 (hb s us I.kIn hl) r2 h) fun r s' hq => ?_)
  cases r with
  | error e => exact hx pins σ H s e s' I hq
  | ok fl =>
    cases fl with
    | ret u => exact I.after hq
    | next => exact False.elim hq
    | brk => exact False.elim hq
    | cont => exact False.elim hq
theorem pe_call (F : FnOk X.prog X.w X.K X.mg X.base CX k f fd ps sp) (hr : Room k X.A) (hg : Gl X x) (hm : X.mg x = some (.ref f)) (hk : PySem.W.keepIn X.K (.ref f) = true) (hb : Binds X.K fd ps ds) (hd : Vals dvs ds) (hx : Passes CX X E)
    (ha : PA X (e :: es) t) (hdb : (x == ("__debug__" : Str)) = false := by decide) (he : starEach (e :: es) X.env = (false, eval e X.env) :: starEach es X.env := by rfl) (hpl : (backTo pos (starEach es X.env)).any (·.1) = false := by rfl) :
    PE X (.Call (.Name x p) (e :: es) [] pos) (tCall sp dvs E t) := by
  intro pins s σ H Q I h
  refine wpAny_Call_Name_kw (ld_glob I hg hm ?_ hdb)
  refine PySem.W.callWith_K (h₀ := X.base) I.ok.mod.kin hk (thn (ha pos pins s σ H _ I h) fun us s1 ⟨vs, H1, I1, r, q⟩ => ⟨I1.kIn, ?_⟩) he hpl
  exact run_fn F hr hb hd hx I1 r q
end
section
variable {X : Cx} {CX : CXT} {k : Nat} {f C : Addr} {fd : FuncData} {ps ks : List Str} {sp : Sp} {E : XK} {x m : Str} {p pos apos kpos : Pos} {e o : Expr} {es : List Expr} {kws : List Keyword} {te ta : TE} {t tk : TA} {nm : Option Str}
variable {g : List Value → List Value → List Value} {gV : List V → List V → List V}
end
structure FnScope (N P : List Str) (sc : Scope) : Prop where
  kind : sc.kind = .function
  co : sc.isCoroutine = false
  gen : sc.isGenerator = false
  nd : N.Nodup
  pre : N.take P.length = P
  par : ∀ x ∈ P, sc.names.lookup x = some .local ∨ sc.names.lookup x = some .cell
  nofree : ∀ y ∈ sc.names, y.2 ≠ .free
theorem bindL_out {kindOf : Str → Option NameKind} {x : Str} : ∀ {binds : List (Str × Value)} {m : Str → Option Value}, (∀ v, (x, v) ∉ binds) → bindL kindOf binds m x = m x
  | [], _, _ => rfl
  | (n, v) :: r, m, h => by
    unfold bindL
    rw [bindL_out fun w hw => h w (List.mem_cons_of_mem _ hw)]
    split
    · have : x ≠ n := by rintro rfl; exact h v List.mem_cons_self
      simp [this]
    · rfl
theorem bindC_out {kindOf : Str → Option NameKind} {x : Str} : ∀ {binds : List (Str × Value)} {m : Str → Option Value}, (∀ v, (x, v) ∉ binds) → bindC kindOf binds m x = m x
  | [], _, _ => rfl
  | (n, v) :: r, m, h => by
    unfold bindC
    rw [bindC_out fun w hw => h w (List.mem_cons_of_mem _ hw)]
    split
    · rfl
    · have : x ≠ n := by rintro rfl; exact h v List.mem_cons_self
      simp [this]
theorem bindL_get {kindOf : Str → Option NameKind} {x : Str} {v : Value} : ∀ {P : List Str} {vs : List Value} {i : Nat} {m : Str → Option Value}, P.Nodup → P[i]? = some x → vs[i]? = some v → kindOf x = some .local →
    bindL kindOf (P.zip vs) m x = some v
  | [], _, _, _, _, h, _, _ => by simp at h
  | _ :: _, [], _, _, _, _, h, _ => by simp at h
  | p :: P, w :: vs, 0, m, nd, h1, h2, hk => by
    simp at h1 h2; subst h1; subst h2
    show bindL kindOf ((p, w) :: P.zip vs) m p = _
    unfold bindL
    rw [bindL_out fun v hv => (List.nodup_cons.mp nd).1 (List.of_mem_zip hv).1, if_pos hk]
    simp
  | p :: P, w :: vs, i + 1, m, nd, h1, h2, hk => by
    show bindL kindOf ((p, w) :: P.zip vs) m x = _
    unfold bindL
    exact bindL_get (i := i) (List.nodup_cons.mp nd).2 (by simpa using h1) (by simpa using h2) hk
theorem bindC_get {kindOf : Str → Option NameKind} {x : Str} {v : Value} : ∀ {P : List Str} {vs : List Value} {i : Nat} {m : Str → Option Value}, P.Nodup → P[i]? = some x → vs[i]? = some v → kindOf x ≠ some .local →
    bindC kindOf (P.zip vs) m x = some v
  | [], _, _, _, _, h, _, _ => by simp at h
  | _ :: _, [], _, _, _, _, h, _ => by simp at h
  | p :: P, w :: vs, 0, m, nd, h1, h2, hk => by
    simp at h1 h2; subst h1; subst h2
    show bindC kindOf ((p, w) :: P.zip vs) m p = _
    unfold bindC
    rw [bindC_out fun v hv => (List.nodup_cons.mp nd).1 (List.of_mem_zip hv).1, if_neg hk]
    simp
  | p :: P, w :: vs, i + 1, m, nd, h1, h2, hk => by
    show bindC kindOf ((p, w) :: P.zip vs) m x = _
    unfold bindC
    exact bindC_get (i := i) (List.nodup_cons.mp nd).2 (by simpa using h1) (by simpa using h2) hk
noncomputable def start (N : List Str) (vs : List V) : St := vs.map some ++ List.replicate (N.length - vs.length) none
noncomputable def cxOf (CX : CXT) (P : Program) (w : World) (K : PySem.W.Frag) (mg : Str → Option Value) (base : Heap) (N : List Str) (qual : Str) (scope : Scope) (f : Addr) (cd : Value) (A : Around) (outer : List Env) (s : Shared) (H : Hp) (E : XK) : Cx where
  prog := P
  w := w
  K := K
  mg := mg
  base := base
  A := A.deeper (envOfC qual scope s.heap.objs.size f cd)
  N := N
  s₀ := s
  H₀ := H
  env := envOfC qual scope s.heap.objs.size f cd
  outer := outer
  stack := envOfC qual scope s.heap.objs.size f cd :: outer
  ex := []
  calm := true
  fn := fun _ => true
  pn := []
  xe := fun e s' => wpAny (model P w) (A.deeper (envOfC qual scope s.heap.objs.size f cd)) (leaving (envOfC qual scope s.heap.objs.size f cd) e) (fun _ s'' => CX outer H s E e s'') (fun e' s'' => CX outer H s E e' s'') s'
theorem cell_has {sc : Scope} {n : Nat} {x : Str} (h : sc.names.lookup x = some .cell) : ∃ c, (cellsFrom n sc.names []).lookup x = some c := by
  have q := PySem.W.cellsFrom_some sc.names n [] (.inl h)
  exact Option.isSome_iff_exists.mp q
theorem inv_start {CX : CXT} {P : Program} {w : World} {K : PySem.W.Frag} {mg : Str → Option Value} {base : Heap} {N ps : List Str} {qual : Str} {scope : Scope} {f : Addr} {cd : Value} {A : Around} {outer : List Env} {s s1 : Shared} {H : Hp} {E : XK} {us : List Value} {vs : List V}
    (S : FnScope N ps scope) (hd : A.handled = none) (e0 : Env0 P w K mg base A outer s H) (hl : vs.length = ps.length) (r : Vals vs us)
    (x : InCallC s s.heap.objs.size (bindL (envOfC qual scope s.heap.objs.size f cd).kindOf (ps.zip us) fun _ => none) (cellsFrom (s.heap.objs.size + 1) scope.names []) (bindC (envOfC qual scope s.heap.objs.size f cd).kindOf (ps.zip us) fun _ => none) s1) :
    Inv (cxOf CX P w K mg base N qual scope f cd A outer s H E) [] (start N vs) H s1 := by
  have hpl : ps.length ≤ N.length := by have := congrArg List.length S.pre; rw [List.length_take] at this; omega
  obtain ⟨h1, tk, rfl, hk⟩ := x.done
  have noA : ∀ b : Addr, b ∉ (cxOf CX P w K mg base N qual scope f cd A outer s H E).ex := fun b z => absurd (show b ∈ ([] : List Addr) from z) (by simp)
  refine ⟨⟨e0.mod, S.kind, rfl, rfl, Nat.le_refl _, fun y z c h1 h2 => ?_, fun y hy => ?_, fun y c _ h => ?_, fun _ => hd, Around.frames_deeper e0.frames, .inr ⟨rfl, rfl⟩, fun b z => absurd z (noA b), e0.bs, e0.bsz, fun b _ _ => noA b, fun b z => absurd z (noA b), e0.funs, e0.frf⟩,
    rfl, e0.bare, Un.kept hk, ⟨_, x.toInCall.ns, fun i y v h1 h2 h3 => ?_⟩, fun y c h => ⟨_, x.cell y c h⟩, e0.hok.fresh (Nat.le_refl _), fun y c h => ?_, fun p hp => absurd (show p ∈ ([] : List (Addr × Obj)) from hp) (by simp), e0.hok.kept hk, ?_⟩
  · exact name_of_addr x.apart (PySem.mem_of_lookup h1) (PySem.mem_of_lookup h2)
  · have hy : scope.names.lookup y = some .cell ∨ scope.names.lookup y = some .free := hy
    rcases hy with hy | hy
    · exact cell_has hy
    · exact absurd rfl (S.nofree _ (PySem.mem_of_lookup hy))
  · exact Nat.le_of_lt (x.above y c (PySem.mem_of_lookup h))
  · have hi : i < vs.length := by
      unfold start at h2
      by_cases hi : i < vs.length
      · exact hi
      · rw [List.getElem?_append_right (by simpa using hi)] at h2
        rw [List.getElem?_replicate] at h2
        split at h2 <;> cases h2
    have ha : vs[i]? = some v := by
      unfold start at h2
      rw [List.getElem?_append_left (by simpa using hi), List.getElem?_map] at h2
      cases e : vs[i]? with
      | none => rw [e] at h2; cases h2
      | some a => rw [e] at h2; cases h2; rfl
    obtain ⟨u, hu, rv⟩ := r.get ha
    have hp : ps[i]? = some y := by
      rw [← S.pre, List.getElem?_take_of_lt (by omega)]; exact h1
    have ndP : ps.Nodup := by rw [← S.pre]; exact S.nd.sublist (List.take_sublist _ _)
    refine ⟨u, rv, ?_⟩
    rcases S.par y (List.mem_of_getElem? hp) with k | k
    · exact .inl ⟨k, bindL_get ndP hp hu k⟩
    · obtain ⟨c, e⟩ := cell_has (n := s.heap.objs.size + 1) k
      refine .inr ⟨.inl k, c, e, ?_⟩
      have q := x.cell y c e
      rw [bindC_get ndP hp hu (by show scope.names.lookup y ≠ _; rw [k]; decide)] at q
      exact q
  · exact e0.hok.fresh (Nat.le_of_lt (x.above y c (PySem.mem_of_lookup h)))
  · unfold start
    show _ = N.length
    rw [List.length_append, List.length_map, List.length_replicate]
    omega
theorem fn_of {CX : CXT} {P : Program} {w : World} {K : PySem.W.Frag} {mg : Str → Option Value} {base : Heap} {k : Nat} {f : Addr} {name qual : Str} {params : Arguments} {body : List Stmt} {scope : Scope} {dV kV doc pm cdv ct oc : Value} {an od : Option Addr}
    {osl : Array (Option Value)} {N ps : List Str} {sp : Sp} (lk : K.lookup f = some ⟨oc, od, .func (PySem.W.fnOf name qual params body scope dV kV doc pm an cdv ct), osl⟩) (hcd : PySem.W.codeIn K cdv qual = true) (S : FnScope N ps scope)
    (len : ∀ vs H Q E, sp vs H Q E → vs.length = ps.length)
    (hbody : ∀ (A : Around) (outer : List Env) (s : Shared) (H : Hp) (vs : List V) (Q : VK) (E : XK), Room k (A.deeper (envOfC qual scope s.heap.objs.size f cdv)) → sp vs H Q E →
      ∃ t, PSs (cxOf CX P w K mg base N qual scope f cdv A outer s H E) body t ∧ t { nx := fun _ H' => Q .non H', rt := Q } (start N vs) H) :
    FnOk P w K mg base CX (k + 1) f (PySem.W.fnOf name qual params body scope dV kV doc pm an cdv ct) ps sp := by
  refine ⟨len, fun A outer s H args us vs Q E hr e0 hb r hsp => ?_⟩
  have hl := len _ _ _ _ hsp
  have KX : K.In s.heap := e0.mod.kin.keeps fun b o e => (e0.bs b o e).1
  have lim : s.heap.NoLimit := e0.mod.nolimit.keeps fun b o e => (e0.bs b o e).1
  have hkind : ∀ y ∈ ps.zip us, scope.names.lookup y.1 = some .local ∨ (scope.names.lookup y.1 = some .cell ∧ ((cellsFrom (s.heap.objs.size + 1) scope.names []).lookup y.1).isSome = true) := fun ⟨n, v⟩ hy => by
    rcases S.par n (List.of_mem_zip hy).1 with q | q
    · exact .inl q
    · exact .inr ⟨q, PySem.W.cellsFrom_some _ _ _ (.inl q)⟩
  refine codeAny_call_function hr.depth (KX _ _ lk) rfl S.co S.gen rfl (PySem.W.codeRec_of KX hcd) (hb _ _ _ _ ?_)
  refine wpAny_newFunctionEnv_cells S.kind hkind fun env he s1 x => ?_
  subst he
  refine ⟨lim.keeps x.toInCall.keep, codeAny_func ?_⟩
  obtain ⟨t, ht, hq⟩ := hbody A outer s H vs Q E (hr.deeper _) hsp
  have I : Inv (cxOf CX P w K mg base N qual scope f cdv A outer s H E) [] (start N vs) H s1 := inv_start S hr.hd e0 hl r x
  refine wpAny_mono (ht [] s1 (start N vs) H _ I hq) (fun fl s' hs => ?_) fun e s' hs => hs
  have fin : ∀ {σ' : St} {H' : Hp} {v : V} {u : Value}, Inv (cxOf CX P w K mg base N qual scope f cdv A outer s H E) [] σ' H' s' → RelV v u → Q v H' → CE outer P w H s Q u s' :=
    fun {σ' H' v u} J rv q => ⟨v, H', J.os, J.bare, J.base, J.hok, rv, q⟩
  cases fl with
  | ret u =>
    obtain ⟨v, σ', H', J, rv, q⟩ := hs
    exact fin J rv q
  | next =>
    obtain ⟨σ', H', J, q⟩ := hs
    exact fin (v := V.non) (u := Value.none) J rfl q
  | brk =>
    obtain ⟨_, _, _, q⟩ := hs
    exact False.elim q
  | cont =>
    obtain ⟨_, _, _, q⟩ := hs
    exact False.elim q
end L2
namespace L2
open PySem PySem.Spec PyProof.Rows
section
variable {X : Cx} {x : Str} {p pos : Pos} {e : Expr} {es : List Expr} {t : TA} {id T : String} {r : List V → Hp → VK → Prop}
noncomputable abbrev tCB (r : List V → Hp → VK → Prop) (t : TA) : TE := fun σ H Q => t σ H fun vs H1 => r vs H1 Q
theorem pe_callB (hc : CallR X (.builtin id) r) (hg : Gl X x) (hm : X.mg x = none) (hv : bootBuiltins x = some (.builtin id)) (ha : PA X (e :: es) t) (hn : x ≠ "__name__" := by decide) (hdb : (x == ("__debug__" : Str)) = false := by decide)
    (he : starEach (e :: es) X.env = (false, eval e X.env) :: starEach es X.env := by rfl) (hpl : (backTo pos (starEach es X.env)).any (·.1) = false := by rfl) : PE X (.Call (.Name x p) (e :: es) [] pos) (tCB r t) := by
  intro pins s σ H Q I h
  refine wpAny_Call_Name_kw (ld_blt I hg hm hv ?_ hn hdb)
  exact PyProof.Rows.callWith_builtin1 (thn (ha pos pins s σ H _ I h) fun us s1 ⟨vs, H1, I1, r1, q1⟩ => hc pins s1 σ H1 vs us Q I1 r1 q1) he hpl
theorem pe_callTy (hc : CallR X (.type T) r) (hg : Gl X x) (hm : X.mg x = none) (hv : bootBuiltins x = some (.type T)) (ha : PA X (e :: es) t) (hn : x ≠ "__name__" := by decide) (hdb : (x == ("__debug__" : Str)) = false := by decide)
    (he : starEach (e :: es) X.env = (false, eval e X.env) :: starEach es X.env := by rfl) (hpl : (backTo pos (starEach es X.env)).any (·.1) = false := by rfl) : PE X (.Call (.Name x p) (e :: es) [] pos) (tCB r t) := by
  intro pins s σ H Q I h
  refine wpAny_Call_Name_kw (ld_blt I hg hm hv ?_ hn hdb)
  exact PyProof.Rows.callWith_type1 (thn (ha pos pins s σ H _ I h) fun us s1 ⟨vs, H1, I1, r1, q1⟩ => hc pins s1 σ H1 vs us Q I1 r1 q1) he hpl
end
end L2
namespace HT
open PySem PyProof.Rows
section
open PySem.SeqAt
open PySem.AutoSeq1 (wpAny_loadPart')
open PySem.MeetsSeq PySem.MeetsSeq2 PySem.MeetsSeq3
end
section
variable {prog : Program} {w : World} {A : Around} {E : Value → Shared → Prop} {s : Shared}
noncomputable def sIx (n d : Nat) : Option Int → Nat
  | none => d
  | some v => if v < 0 then (v + (n : Int)).toNat else min v.toNat n
theorem sIx_none (n d : Nat) : sIx n d none = d := rfl
theorem sIx_nat (n d k : Nat) : sIx n d (some (k : Int)) = min k n := by
  show (if (k : Int) < 0 then ((k : Int) + (n : Int)).toNat else min (k : Int).toNat n) = min k n
  rw [if_neg (by omega), Int.toNat_natCast]
theorem sIx_le (n d : Nat) (hd : d ≤ n) (o : Option Int) : sIx n d o ≤ n := by
  cases o with
  | none => exact hd
  | some v =>
    show (if v < 0 then (v + (n : Int)).toNat else min v.toNat n) ≤ n
    by_cases hv : v < 0
    · rw [if_pos hv]; omega
    · rw [if_neg hv]; exact Nat.min_le_right _ _
theorem clip_eq (v : Int) (n d : Nat) : (if v < 0 then max (v + (n : Int)) 0 else min v (n : Int)) = ((sIx n d (some v) : Nat) : Int) := by
  show (if v < 0 then max (v + (n : Int)) 0 else min v (n : Int)) = (((if v < 0 then (v + (n : Int)).toNat else min v.toNat n) : Nat) : Int)
  by_cases hv : v < 0
  · simp only [if_pos hv]; omega
  · simp only [if_neg hv]; omega
theorem adjust_gen (lo hi : Option Int) (n : Nat) : Builtin.Slice.sliceAdjust lo hi 1 (n : Int) = (((sIx n 0 lo : Nat) : Int), ((sIx n n hi : Nat) : Int)) := by
  have h1 : ¬ ((1 : Int) < 0) := by omega
  unfold Builtin.Slice.sliceAdjust
  simp only [h1, if_false]
  refine Prod.ext ?_ ?_
  · cases lo with
    | none => rfl
    | some v => exact clip_eq v n 0
  · cases hi with
    | none => rfl
    | some v => exact clip_eq v n n
theorem places_gen (i j : Nat) : Builtin.Slice.slicePlaces (i : Int) (j : Int) 1 = j - i := by
  unfold Builtin.Slice.slicePlaces
  have h1 : (1 : Int) > 0 := by omega
  simp only [h1, if_true, Int.ediv_one]
  split <;> omega
theorem slicePart_ {v : Value} {o : Option Int} {Q : Option Int → Shared → Prop} (p : IsPart v o) (h : Q o s) : wpAny (model prog w) A (Builtin.Slice.slicePartIndex v) Q E s := by
  cases p with
  | none => exact slicePart_none h
  | int i t => exact slicePart_int h
theorem sliceApplied_gen {sl : Addr} {vl vu : Value} {lo hi : Option Int} {n : Nat} {Q : Int × Int × Nat → Shared → Prop} (hs : s.heap.IsSliceOf sl vl vu .none) (pl : IsPart vl lo) (pu : IsPart vu hi)
    (h : Q (((sIx n 0 lo : Nat) : Int), 1, sIx n n hi - sIx n 0 lo) s) : wpAny (model prog w) A (Builtin.Slice.sliceApplied (.ref sl) (pure (n : Int))) Q E s := by
  obtain ⟨os, hos, hcs, hds⟩ := id hs
  unfold Builtin.Slice.sliceApplied Builtin.Slice.sliceFields
  refine wpAny_bind (wpAny_bind (wpAny_field hos hds (x := vl) rfl (wpAny_bind (wpAny_field hos hds (x := vu) rfl (wpAny_bind (wpAny_field hos hds (x := .none) rfl (wpAny_pure ?_)))))))
  refine wpAny_bind (slicePart_none ?_)
  show wpAny _ _ (if ((1 : Int) == 0) = true then _ else _) _ _ s
  rw [if_neg (by decide)]
  refine wpAny_bind (slicePart_ pl (wpAny_bind (slicePart_ pu (wpAny_bind (wpAny_pure ?_)))))
  show wpAny _ _ (match Builtin.Slice.sliceAdjust lo hi 1 (n : Int) with | (lo, hi) => pure (lo, (1 : Int), Builtin.Slice.slicePlaces lo hi 1)) _ _ s
  rw [adjust_gen lo hi n]
  show wpAny _ _ (pure (((sIx n 0 lo : Nat) : Int), (1 : Int), Builtin.Slice.slicePlaces ((sIx n 0 lo : Nat) : Int) ((sIx n n hi : Nat) : Int) 1)) _ _ s
  rw [places_gen]
  exact wpAny_pure h
theorem pick_gen (xs : Array Value) (i k : Nat) : ((List.range k).filterMap fun (m : Nat) => xs[((i : Int) + (m : Int) * 1).toNat]?).toArray = ((xs.toList.drop i).take k).toArray := by
  have e : (fun (m : Nat) => xs[((i : Int) + (m : Int) * 1).toNat]?) = fun m => xs[i + m]? := by
    funext m
    have : ((i : Int) + (m : Int) * 1).toNat = i + m := by omega
    rw [this]
  rw [e]
  have := pick_run xs i k
  rw [List.filterMap_map] at this
  have e2 : ((fun x => xs[x]?) ∘ fun x => i + x) = fun m => xs[i + m]? := rfl
  rw [e2] at this
  rw [this]
theorem getItem_tuple_cut {t sl : Addr} {items : Array Value} {vl vu : Value} {lo hi : Option Int} {Q : Value → Shared → Prop} (ht : IsTup s.heap t items) (hs : s.heap.IsSliceOf sl vl vu .none) (pl : IsPart vl lo) (pu : IsPart vu hi)
    (hw : ¬ (sIx items.size 0 lo = 0 ∧ sIx items.size items.size hi = items.size))
    (h : Q (.ref s.heap.objs.size) { s with heap := s.heap.push { cls := .type "tuple", data := .seq ((items.toList.drop (sIx items.size 0 lo)).take (sIx items.size items.size hi - sIx items.size 0 lo)).toArray } })
    (hsz : items.size ≤ sizeLine) : wpAny (model prog w) A (getItem (.ref t) (.ref sl)) Q E s := by
  have htake : sizeOk (.seq ((items.toList.drop (sIx items.size 0 lo)).take (sIx items.size items.size hi - sIx items.size 0 lo)).toArray) := by
    show ((items.toList.drop (sIx items.size 0 lo)).take (sIx items.size items.size hi - sIx items.size 0 lo)).toArray.size ≤ sizeLine
    rw [List.size_toArray, List.length_take, List.length_drop, Array.length_toList]
    omega
  have hj : sIx items.size items.size hi ≤ items.size := sIx_le _ _ (Nat.le_refl _) hi
  obtain ⟨os, hos, hcs, hds⟩ := id hs
  have hTs : s.TypeIs (.ref sl) "slice" := ⟨os, hos, hcs⟩
  unfold getItem
  try with_reducible refine wpAny_holding ?_
  first | refine wpAny_bind (wpAny_pure ?_) | skip
  refine wpAny_bind (wpAny_sequenceKey ht.typeIs (by decide) ?_)
  refine wpAny_bind (wpAny_callSpecial?_slot (name := Str.ofString "__getitem__") ht.typeIs PyProof.Rows.slot_tuple_getitem
    (wpAny_call_entry PyProof.Rows.slot_tuple_getitem ht.typeIs entry_tuple_getitem ?_ (args_tuple_getitem _ _)))
  show wpAny _ _ (Builtin.Tuple.tupleItemsOf (.ref t) >>= _) _ _ s
  refine wpAny_bind (tupleItemsOf_ ht ?_)
  refine wpAny_bind (wpAny_typeOf hTs ?_)
  rw [if_pos (by decide)]
  refine wpAny_bind (sliceApplied_gen hs pl pu ?_)
  have hno : ¬ ((((sIx items.size 0 lo : Nat) : Int) == 0 && (1 : Int) == 1 && (sIx items.size items.size hi - sIx items.size 0 lo) == items.size) = true) := by
    intro q
    rw [Bool.and_eq_true, Bool.and_eq_true] at q
    have q1 : ((sIx items.size 0 lo : Nat) : Int) = 0 := eq_of_beq q.1.1
    have q2 : sIx items.size items.size hi - sIx items.size 0 lo = items.size := eq_of_beq q.2
    exact hw ⟨by omega, by omega⟩
  show wpAny _ _ (if (((sIx items.size 0 lo : Nat) : Int) == 0 && (1 : Int) == 1 && (sIx items.size items.size hi - sIx items.size 0 lo) == items.size) = true then _ else _) _ _ s
  rw [if_neg hno, pick_gen]
  first
    | exact wpAny_bind (m := Builtin.Tuple.tupleExact _) (wpAny_newObj_type (wpAny_pure ⟨_, rfl, wpAny_pure h⟩) htake)
    | exact wpAny_bind (m := Builtin.Tuple.tupleExact _) (wpAny_newObj_type (wpAny_bind (wpAny_pure (wpAny_pure ⟨_, rfl, wpAny_pure h⟩))) htake)
    | exact wpAny_bind (wpAny_bind (m := Builtin.Tuple.tupleExact _) (wpAny_newObj_type (wpAny_pure (wpAny_pure ⟨_, rfl, wpAny_pure h⟩)) htake))
    | exact wpAny_bind (wpAny_bind (m := Builtin.Tuple.tupleExact _) (wpAny_newObj_type (wpAny_pure ⟨_, rfl, wpAny_pure h⟩) htake))
end
end HT
namespace L2
open PySem PySem.Spec PyProof.Rows
noncomputable abbrev TO := St → Hp → (Option Int → Hp → Prop) → Prop
noncomputable def PO (X : Cx) (e : Option Expr) (t : TO) : Prop :=
  ∀ (pins : List (Addr × Obj)) (s : Shared) (σ : St) (H : Hp) (Q : Option Int → Hp → Prop), Inv X pins σ H s → t σ H Q →
    wpAny (model X.prog X.w) X.A (evalPart e X.env) (fun u s' => ∃ o H', Inv X pins σ H' s' ∧ IsPart u o ∧ Q o H') X.xe s
noncomputable abbrev tNoPart : TO := fun _ H Q => Q none H
noncomputable abbrev tPart (t : TE) : TO := fun σ H Q => t σ H fun x H1 => ∃ i, x = .int i ∧ Q (some i) H1
section
variable {X : Cx} {e : Expr} {te : TE} {lo hi : Option Expr} {tl th : TO} {pos p2 : Pos}
theorem po_none : PO X none tNoPart := by
  intro pins s σ H Q I h
  rw [evalPart_none]
  exact wpAny_pure ⟨none, H, I, .none, h⟩
theorem po_some (h : PE X e te) : PO X (some e) (tPart te) := by
  intro pins s σ H Q I hw
  rw [evalPart_some]
  refine thn (h pins s σ H _ I hw) fun u s1 ⟨x, H1, I1, r1, q1⟩ => ?_
  obtain ⟨i, rfl, q⟩ := q1
  obtain ⟨t, rfl⟩ := r1
  exact ⟨some i, H1, I1, .int i t, q⟩
noncomputable def SlR (X : Cx) (r : V → Option Int → Option Int → Hp → VK → Prop) : Prop :=
  ∀ (pins : List (Addr × Obj)) (s : Shared) (σ : St) (H : Hp) (x : V) (v vl vu : Value) (lo hi : Option Int) (sl : Addr) (Q : VK), Inv X pins σ H s → RelV x v → s.heap.IsSliceOf sl vl vu .none → IsPart vl lo → IsPart vu hi → r x lo hi H Q →
    ∃ T id, typeLookup (.type T) "__getitem__" = pure (some (.builtin id)) ∧ s.TypeIs v T ∧ wpAny (model X.prog X.w) X.A (getItem v (.ref sl)) (EP X pins σ Q) X.xe s
noncomputable abbrev tSl (r : V → Option Int → Option Int → Hp → VK → Prop) (te : TE) (tl th : TO) : TE := fun σ H Q => te σ H fun x H1 => tl σ H1 fun l H2 => th σ H2 fun u H3 => r x l u H3 Q
theorem pe_slice {r : V → Option Int → Option Int → Hp → VK → Prop} (hr : SlR X r) (he : PE X e te) (hl : PO X lo tl) (hu : PO X hi th) : PE X (.Subscript e (.Slice lo hi none p2) pos) (tSl r te tl th) := by
  intro pins s σ H Q I h
  refine Subscript_ (thn (he pins s σ H _ I h) fun v s1 ⟨x, H1, I1, r1, q1⟩ => ?_)
  refine wpAny_Slice (thn (hl pins s1 σ H1 _ I1 q1) fun vl s2 ⟨l, H2, I2, pl, q2⟩ => thn (hu pins s2 σ H2 _ I2 q2) fun vu s3 ⟨u, H3, I3, pu, q3⟩ => ?_)
  rw [evalPart_none]
  refine wpAny_pure ?_
  have I4 : Inv X pins σ H3 { s3 with heap := s3.heap.push { cls := .type "slice", data := .fields #[vl, vu, .none] } } := I3.kept (t' := s3.toks) fun b ob q => Heap.get?_push_of_some _ q
  obtain ⟨T, id, hT, ht, hg⟩ := hr pins { s3 with heap := s3.heap.push { cls := .type "slice", data := .fields #[vl, vu, .none] } } σ H3 x v vl vu l u s3.heap.objs.size Q I4 r1 (Heap.IsSliceOf.new ..) pl pu q3
  show wpAny (model X.prog X.w) X.A (subscriptTail e (.Slice lo hi none p2) v (.ref s3.heap.objs.size)) (EP X pins σ Q) X.xe { s3 with heap := s3.heap.push { cls := .type "slice", data := .fields #[vl, vu, .none] } }
  exact tail_any (ops := [.ref s3.heap.objs.size, v]) ht hT hg (by with_unfolding_all rfl)
noncomputable def cutV (xs : List V) (lo hi : Option Int) : List V := (xs.drop (HT.sIx xs.length 0 lo)).take (HT.sIx xs.length xs.length hi - HT.sIx xs.length 0 lo)
theorem cutV_length (xs : List V) (lo hi : Option Int) : (cutV xs lo hi).length ≤ xs.length := by
  unfold cutV
  rw [List.length_take, List.length_drop]
  omega
noncomputable def rSlT (K : PySem.W.Frag) : V → Option Int → Option Int → Hp → VK → Prop := fun x lo hi H Q => ∃ a xs, x = .ref a ∧ SqT K H a xs ∧
  ¬ (HT.sIx xs.length 0 lo = 0 ∧ HT.sIx xs.length xs.length hi = xs.length) ∧ ∀ p, H p = none → Q (.ref p) (upd H p (.tup (cutV xs lo hi)))
theorem sl_tup : SlR X (rSlT X.K) := by
  intro pins s σ H x v vl vu lo hi sl Q I rx hs pl pu h
  obtain ⟨a, xs, rfl, hx, hw, q⟩ := h
  cases rx
  obtain ⟨its, r, ht, hz⟩ := I.tuple hx
  have hlen : its.toArray.size = xs.length := by rw [List.size_toArray]; exact r.length.symm
  refine ⟨"tuple", _, PyProof.Rows.slot_tuple_getitem.lookup, ht.typeIs, ?_⟩
  refine HT.getItem_tuple_cut ht hs pl pu (by rw [hlen]; exact hw) ?_ (by rw [hlen]; exact hz)
  rw [hlen]
  refine ⟨.ref s.heap.objs.size, _, I.laid (t' := s.toks) (o := .tup (cutV xs lo hi)) (fun b ob q => Heap.get?_push_of_some _ q) (Nat.le_refl _) ?_, rfl, q _ (I.hok.fresh (Nat.le_refl _))⟩
  exact ⟨Nat.le_trans (cutV_length xs lo hi) hz, _, (r.drop (HT.sIx xs.length 0 lo)).take (HT.sIx xs.length xs.length hi - HT.sIx xs.length 0 lo), IsTup.new _ _⟩
end
end L2
namespace L2
open PySem PySem.Spec PyProof.Rows
noncomputable def ixN (n : Nat) (i : Int) : Option Nat := if 0 ≤ i then (if i < n then some i.toNat else none) else if -(n : Int) ≤ i then some (i + n).toNat else none
noncomputable def atI {α : Type} (xs : List α) (i : Int) : Option α := (ixN xs.length i).bind fun j => xs[j]?
theorem ixN_seq {n : Nat} {i : Int} {j : Nat} (h : ixN n i = some j) : seqIndex? i n = some j ∧ j < n ∧ -(n : Int) ≤ i ∧ i < n := by
  unfold ixN at h
  by_cases h0 : 0 ≤ i
  · rw [if_pos h0] at h
    by_cases h1 : i < n
    · rw [if_pos h1] at h
      have e : i.toNat = j := Option.some.inj h
      exact ⟨by rw [seqIndex_of h0 h1, e], by omega, by omega, h1⟩
    · rw [if_neg h1] at h; cases h
  · rw [if_neg h0] at h
    by_cases h1 : -(n : Int) ≤ i
    · rw [if_pos h1] at h
      have e : (i + n).toNat = j := Option.some.inj h
      exact ⟨by rw [seqIndex_neg (by omega) h1, e], by omega, h1, by omega⟩
    · rw [if_neg h1] at h; cases h
theorem atI_get {α : Type} {xs : List α} {i : Int} {v : α} (h : atI xs i = some v) : ∃ j, seqIndex? i xs.length = some j ∧ xs[j]? = some v ∧ j < xs.length ∧ -(xs.length : Int) ≤ i ∧ i < xs.length := by
  unfold atI at h
  cases e : ixN xs.length i with
  | none => rw [e] at h; cases h
  | some j =>
    rw [e] at h
    obtain ⟨h1, h2, h3, h4⟩ := ixN_seq e
    exact ⟨j, h1, h, h2, h3, h4⟩
theorem atI_nat {α : Type} {xs : List α} {j : Nat} {v : α} (h : xs[j]? = some v) : atI xs (j : Int) = some v := by
  have hj : j < xs.length := (List.getElem?_eq_some_iff.mp h).1
  have e : ixN xs.length (j : Int) = some j := by
    unfold ixN
    rw [if_pos (by omega), if_pos (by omega)]; simp
  unfold atI; rw [e]; exact h
theorem atI_last {α : Type} (xs : List α) (v : α) : atI (xs ++ [v]) (-1) = some v := by
  have hl : (xs ++ [v]).length = xs.length + 1 := by simp
  have e : ixN (xs ++ [v]).length (-1) = some xs.length := by
    unfold ixN
    rw [hl, if_neg (by decide), if_pos (by omega)]
    congr 1
    omega
  unfold atI
  rw [e]
  show (xs ++ [v])[xs.length]? = some v
  simp
noncomputable def PlainIx (b : Expr) : Prop := ∀ o i, subscripted b false o i = operate [o, i] (getItem o i)
noncomputable def IxR (X : Cx) (r : R2) : Prop :=
  ∀ (value slice : Expr) (pins : List (Addr × Obj)) (s : Shared) (σ : St) (H : Hp) (x y : V) (v u : Value) (Q : VK), Inv X pins σ H s → RelV x v → RelV y u → r x y H Q →
    subscripted slice false v u = operate [v, u] (getItem v u) → wpAny (model X.prog X.w) X.A (subscriptTail value slice v u) (EP X pins σ Q) X.xe s
noncomputable def MtR (X : Cx) (id : String) (r : V → List V → Hp → VK → Prop) : Prop :=
  ∀ (pins : List (Addr × Obj)) (s : Shared) (σ : St) (H : Hp) (x : V) (xs : List V) (v : Value) (us : List Value) (Q : VK), Inv X pins σ H s → RelV x v → Vals xs us → r x xs H Q →
    wpAny (model X.prog X.w) X.A (call (.builtin id) (v :: us)) (EP X pins σ Q) X.xe s
section
variable {X : Cx} {a b : Expr} {ta tb : TE} {pos : Pos}
theorem pe_ix {r : R2} (hr : IxR X r) (ha : PE X a ta) (hb : PE X b tb) (hs : PlainIx b) : PE X (.Subscript a b pos) (tOp r ta tb) := by
  intro pins s σ H Q I h
  exact Subscript_ (binT ha hb I h fun v u s2 x y H2 I2 rx ry q => hr a b pins s2 σ H2 x y v u Q I2 rx ry q (hs _ _))
noncomputable def rIxL (K : PySem.W.Frag) : R2 := fun x y H Q => ∃ p xs i v, x = .ref p ∧ y = .int i ∧ SqL K H p xs ∧ atI xs i = some v ∧ Q v H
noncomputable def rIxT (K : PySem.W.Frag) : R2 := fun x y H Q => ∃ p xs i v, x = .ref p ∧ y = .int i ∧ SqT K H p xs ∧ atI xs i = some v ∧ Q v H
noncomputable def rIxS : R2 := fun x y H Q => ∃ z i c, x = .str z ∧ y = .int i ∧ z.length ≤ sizeLine ∧ atI z.cps.toList i = some c ∧ Q (.str ⟨#[c]⟩) H
theorem ix_list : IxR X (rIxL X.K) := by
  intro value slice pins s σ H x y v u Q I rx ry h hs
  obtain ⟨p, xs, i, z, rfl, rfl, hq, he, q⟩ := h
  cases rx
  obtain ⟨t, rfl⟩ := ry
  obtain ⟨its, r, pl, hz⟩ := I.list hq
  obtain ⟨j, h1, h2, h3, h4, h5⟩ := atI_get he
  obtain ⟨w, ew, rw'⟩ := r.get h2
  have hl := r.length
  have hn := line63
  have fin : EP X pins σ Q w s := ⟨z, H, I, rw', q⟩
  by_cases h0 : 0 ≤ i
  · have hj : i.toNat = j := by
      rw [seqIndex_of h0 h5] at h1
      exact Option.some.inj h1
    exact item_listR pl.isList h0 (by omega) (by rw [hj]; simpa using ew) fin hs
  · have hj : (i + (its.toArray.size : Int)).toNat = j := by
      rw [seqIndex_neg (by omega) h4] at h1
      rw [List.size_toArray, ← hl]
      exact Option.some.inj h1
    exact subscriptTail_builtinR (x := w) pl.isList.typeIs slot_list_getitem.lookup
      (wpAny_getItem_list_neg (Q := fun r s' => r = w ∧ EP X pins σ Q r s') pl.isList (by omega) (by rw [List.size_toArray] <;> omega) (by omega) (by rw [hj]; simpa using ew) ⟨rfl, fin⟩) hs
theorem ix_tup : IxR X (rIxT X.K) := by
  intro value slice pins s σ H x y v u Q I rx ry h hs
  obtain ⟨p, xs, i, z, rfl, rfl, hq, he, q⟩ := h
  cases rx
  obtain ⟨t, rfl⟩ := ry
  obtain ⟨its, r, pl, hz⟩ := I.tuple hq
  obtain ⟨j, h1, h2, h3, h4, h5⟩ := atI_get he
  obtain ⟨w, ew, rw'⟩ := r.get h2
  have hl := r.length
  have hn := line63
  have fin : EP X pins σ Q w s := ⟨z, H, I, rw', q⟩
  exact subscriptTail_builtinR (x := w) pl.typeIs slot_tuple_getitem.lookup
    (getItem_tuple (j := j) (Q := fun r s' => r = w ∧ EP X pins σ Q r s') pl (by omega) (by omega) (by rw [List.size_toArray, ← hl]; exact h1) (by simpa using ew) ⟨rfl, fin⟩) hs
theorem ix_str : IxR X rIxS := by
  intro value slice pins s σ H x y v u Q I rx ry h hs
  obtain ⟨z, i, c, rfl, rfl, hz, he, q⟩ := h
  obtain ⟨t, rfl⟩ := rx
  obtain ⟨t', rfl⟩ := ry
  obtain ⟨j, h1, h2, h3, h4, h5⟩ := atI_get he
  have hl : z.cps.toList.length = z.length := by simp [Str.length]
  rw [hl] at h1 h4 h5
  have hn := line63
  exact tail_any (typeIs_str s z t) slot_str_getitem.lookup (getItem_str (c := c) (by
    have e1 : decide (i < -(2 ^ 63 : Int)) = false := decide_eq_false (by omega)
    have e2 : decide (i ≥ 2 ^ 63) = false := decide_eq_false (by omega)
    rw [e1, e2, Bool.or_false]) (by rw [h1]; simpa using h2) ⟨.str ⟨#[c]⟩, H, I.tok _, ⟨_, rfl⟩, q⟩) hs
theorem mapSeq_set (its : List Value) (n j : Nat) (u : Value) : Obj.mapSeq (·.setIfInBounds j u) { cls := .type "list", data := .seq its.toArray n } = { cls := .type "list", data := .seq (its.set j u).toArray n } := by
  simp [Obj.mapSeq]
theorem Inv.lst {pins : List (Addr × Obj)} {σ : St} {H : Hp} {s : Shared} {p : Addr} {xs : List V} (I : Inv X pins σ H s) (h : H p = some (.lst xs)) :
    ∃ (its : List Value) (n : Nat), Vals xs its ∧ s.heap.get? p = some { cls := .type "list", data := .seq its.toArray n } ∧ xs.length ≤ sizeLine := by
  obtain ⟨z, its, n, r, e⟩ := I.hok p _ h
  exact ⟨its, n, r, e, z⟩
theorem Inv.lstUpd {pins : List (Addr × Obj)} {σ : St} {H : Hp} {s : Shared} {p : Addr} {xs ys : List V} {its its' : List Value} {n n' : Nat} {f : Obj → Obj} (I : Inv X pins σ H s) (h : H p = some (.lst xs))
    (ho : s.heap.get? p = some { cls := .type "list", data := .seq its.toArray n }) (hf : f { cls := .type "list", data := .seq its.toArray n } = { cls := .type "list", data := .seq its'.toArray n' }) (r : Vals ys its') (hz : ys.length ≤ sizeLine) (t : Nat) :
    Inv X pins σ (upd H p (.lst ys)) { s with heap := s.heap.update p f, toks := t } := by
  have e : (s.heap.update p f).get? p = some { cls := .type "list", data := .seq its'.toArray n' } := by
    rw [Heap.get?_update_self f ho (by rw [hf] <;> rfl), hf]
  refine I.write (x := p) (e := p) (by rw [h]; trivial) (.inl rfl) (fun b u hb q => (Heap.get?_update_other _ _ (Ne.symm hb)).trans q) ⟨_, e⟩ ?_
  exact ⟨hz, its', n', r, e⟩
noncomputable def rSetL : V → V → V → Hp → (Hp → Prop) → Prop := fun o i v H Q => ∃ p xs k j, o = .ref p ∧ i = .int k ∧ H p = some (.lst xs) ∧ ixN xs.length k = some j ∧ Q (upd H p (.lst (xs.set j v)))
theorem set_list : PSet X rSetL := by
  intro pins s σ H o i v ov iv u Q I ro ri rv h
  obtain ⟨p, xs, k, j, rfl, rfl, hp, hj, q⟩ := h
  cases ro
  obtain ⟨t, rfl⟩ := ri
  obtain ⟨its, n, r, ho, hz⟩ := I.lst hp
  obtain ⟨h1, h2, h3, h4⟩ := ixN_seq hj
  have hl := r.length
  have hn := line63
  have I' : Inv X pins σ (upd H p (.lst (xs.set j v))) { s with heap := s.heap.update p (Obj.mapSeq (·.setIfInBounds j u)) } :=
    I.lstUpd hp ho (mapSeq_set its n j u) (r.set rv j) (by rw [List.length_set]; exact hz) s.toks
  by_cases h0 : 0 ≤ k
  · have hk : k.toNat = j := by
      rw [seqIndex_of h0 h4] at h1
      exact Option.some.inj h1
    exact PySem.W.ki_setAt ho h0 (by omega) (by rw [List.size_toArray, ← hl]; exact h4) (by rw [hk]; exact ⟨_, I', q⟩)
  · have hk : (k + (its.toArray.size : Int)).toNat = j := by
      rw [seqIndex_neg (by omega) h3] at h1
      rw [List.size_toArray, ← hl]
      exact Option.some.inj h1
    exact PySem.W.ki_setBack ho (by omega) (by rw [List.size_toArray, ← hl]; exact h3) (by omega) (by rw [hk]; exact ⟨_, I', q⟩)
theorem slice_bounds (lo hi : Option Int) (n : Nat) : (sliceBounds lo hi none n).1 = ((HT.sIx n 0 lo : Nat) : Int) ∧ (sliceBounds lo hi none n).2.1 = ((HT.sIx n n hi : Nat) : Int) ∧ (sliceBounds lo hi none n).2.2 = 1 := by
  refine ⟨?_, ?_, rfl⟩
  · cases lo with
    | none => simp [sliceBounds, HT.sIx]
    | some i =>
      simp only [sliceBounds, HT.sIx, Option.getD_none, show (1 : Int) > 0 by decide, if_true]
      by_cases h : i < 0
      · simp only [h, if_true] <;> omega
      · simp only [h, if_false] <;> omega
  · cases hi with
    | none => simp [sliceBounds, HT.sIx]
    | some i =>
      simp only [sliceBounds, HT.sIx, Option.getD_none, show (1 : Int) > 0 by decide, if_true]
      by_cases h : i < 0
      · simp only [h, if_true] <;> omega
      · simp only [h, if_false] <;> omega
theorem slicePick_cut (its : List Value) (lo hi : Option Int) : slicePick its.toArray lo hi none = ((its.drop (HT.sIx its.length 0 lo)).take (HT.sIx its.length its.length hi - HT.sIx its.length 0 lo)).toArray := by
  obtain ⟨h1, h2, h3⟩ := slice_bounds lo hi its.toArray.size
  unfold slicePick
  rw [h1, h2, h3]
  simp only [sliceRange_one, pick_run, List.size_toArray] <;> rfl
noncomputable def rSlL (K : PySem.W.Frag) : V → Option Int → Option Int → Hp → VK → Prop := fun x lo hi H Q => ∃ a xs, x = .ref a ∧ SqL K H a xs ∧ ∀ p, H p = none → Q (.ref p) (upd H p (.lst (cutV xs lo hi)))
theorem sl_list : SlR X (rSlL X.K) := by
  intro pins s σ H x v vl vu lo hi sl Q I rx hs pl pu h
  obtain ⟨a, xs, rfl, hx, q⟩ := h
  cases rx
  obtain ⟨its, r, ht, hz⟩ := I.list hx
  have hlen := r.length
  refine ⟨"list", _, slot_list_getitem.lookup, ht.isList.typeIs, ?_⟩
  refine wpAny_getItem_list_slice ht.isList hs pl pu .none (by simp) ?_ (by rw [List.size_toArray] <;> omega)
  rw [slicePick_cut, ← hlen]
  refine ⟨.ref s.heap.objs.size, _, I.laid (t' := s.toks) (o := .lst (cutV xs lo hi)) (fun b ob q => Heap.get?_push_of_some _ q) (Nat.le_refl _) ?_, rfl, q _ (I.hok.fresh (Nat.le_refl _))⟩
  exact ⟨Nat.le_trans (cutV_length xs lo hi) hz, _, 0, (r.drop (HT.sIx xs.length 0 lo)).take (HT.sIx xs.length xs.length hi - HT.sIx xs.length 0 lo), Heap.get?_push_size _ rfl⟩
noncomputable def flatV : V → Bool
  | .non => true
  | .bl _ => true
  | .int _ => true
  | .str _ => true
  | _ => false
noncomputable def eqV : V → V → Bool
  | .non, .non => true
  | .bl a, .bl b => a == b
  | .bl a, .int b => (if a then 1 else 0) == b
  | .int a, .bl b => a == (if b then 1 else 0)
  | .int a, .int b => a == b
  | .str a, .str b => a == b
  | _, _ => false
theorem call_len_seq : CallR X (.builtin "len") (fun xs H Q => ∃ p ys, xs = [.ref p] ∧ (SqL X.K H p ys ∨ SqT X.K H p ys) ∧ Q (.int ys.length) H) := by
  intro pins s σ H xs us Q I r h
  obtain ⟨p, ys, rfl, hq, q⟩ := h
  obtain ⟨u, rfl, rx⟩ := vals1 r
  cases rx
  have hn := line63
  rcases hq with hq | hq
  · obtain ⟨its, r', pl, hz⟩ := I.list hq
    have hlen := r'.length
    exact Calls.call_len_list pl.isList (by simp only [List.size_toArray] <;> omega) ⟨.int ys.length, H, I.tok _, ⟨s.toks + 1, by rw [List.size_toArray, hlen]⟩, q⟩
  · obtain ⟨its, r', pl, hz⟩ := I.tuple hq
    have hlen := r'.length
    exact len_tuple pl (by simp only [List.size_toArray] <;> omega) ⟨.int ys.length, H, I.tok _, ⟨s.toks + 1, by rw [List.size_toArray, hlen]⟩, q⟩
theorem call_len_str : CallR X (.builtin "len") (fun xs H Q => ∃ z, xs = [.str z] ∧ z.length ≤ sizeLine ∧ Q (.int z.length) H) := by
  intro pins s σ H xs us Q I r h
  obtain ⟨z, rfl, hz, q⟩ := h
  obtain ⟨u, rfl, t, rfl⟩ := vals1 r
  have hn := line63
  exact len_str (by omega) ⟨.int z.length, H, I.tok _, ⟨_, rfl⟩, q⟩
theorem call_list_of : CallR X (.type "list") (fun xs H Q => ∃ p ys, xs = [.ref p] ∧ (SqL X.K H p ys ∨ SqT X.K H p ys) ∧ ∀ l, H l = none → Q (.ref l) (upd H l (.lst ys))) := by
  intro pins s σ H xs us Q I r h
  obtain ⟨p, ys, rfl, hq, q⟩ := h
  obtain ⟨u, rfl, rx⟩ := vals1 r
  cases rx
  have fin : ∀ (its : List Value), Vals ys its → ys.length ≤ sizeLine → ∀ (h' : Heap) (c' : Nat), (∀ b o', s.heap.get? b = some o' → h'.get? b = some o') →
      h'.get? s.heap.objs.size = some { cls := .type "list", dict := none, data := .seq its.toArray c', slots := #[] } → EP X pins σ Q (.ref s.heap.objs.size) { s with heap := h' } := fun its r' hz h' c' kp e =>
    ⟨.ref s.heap.objs.size, _, I.laid (t' := s.toks) kp (Nat.le_refl _) (show ObjOk X.prog X.w _ h' _ (.lst ys) from ⟨hz, its, c', r', e⟩), rfl, q _ (I.hok.fresh (Nat.le_refl _))⟩
  rcases hq with hq | hq
  · obtain ⟨its, r', pl, hz⟩ := I.list hq
    have hlen := r'.length
    obtain ⟨o, ho, hc, n, hd⟩ := pl.isList
    exact call_list_seq p (.inl rfl) ho hc hd (fun h' c' kp e => fin its r' hz h' c' kp e) (by simp only [List.size_toArray] <;> omega)
  · obtain ⟨its, r', pl, hz⟩ := I.tuple hq
    have hlen := r'.length
    obtain ⟨o, ho, hc, n, hd⟩ := pl
    exact call_list_seq p (.inr rfl) ho hc hd (fun h' c' kp e => fin its r' hz h' c' kp e) (by simp only [List.size_toArray] <;> omega)
noncomputable def tyV (K : PySem.W.Frag) (T : String) (x : V) (H : Hp) : Prop := match x with
  | .str _ => T = "str"
  | .int _ => T = "int"
  | .ref p => (T = "list" ∧ ∃ xs, SqL K H p xs) ∨ (T = "tuple" ∧ ∃ o, K.lookup p = some o ∧ o.cls = .type "tuple" ∧ o.dict = none) ∨
      (T = "dict" ∧ ((∃ kvs, H p = some (.dK kvs)) ∨ ∃ kvs, H p = some (.dT kvs))) ∨ (T = "set" ∧ ∃ S n, H p = some (.set S n))
  | _ => False
theorem tyV_is {pins : List (Addr × Obj)} {σ : St} {H : Hp} {s : Shared} {T : String} {x : V} {v : Value} (I : Inv X pins σ H s) (r : RelV x v) (ty : tyV X.K T x H) :
    s.TypeIs v T ∧ ∀ a, v = .ref a → ∃ ob, s.heap.get? a = some ob ∧ ob.dict = none := by
  cases x with
  | str z =>
    obtain ⟨t, rfl⟩ := r
    cases (show T = "str" from ty)
    exact ⟨typeIs_str s z t, fun _ e => nomatch e⟩
  | int i =>
    obtain ⟨t, rfl⟩ := r
    cases (show T = "int" from ty)
    exact ⟨typeIs_int s i t, fun _ e => nomatch e⟩
  | ref p =>
    cases r
    rcases ty with ⟨rfl, xs, hq⟩ | ⟨rfl, o, hk, hc, hd⟩ | ⟨rfl, hk⟩ | ⟨rfl, S, n, hk⟩
    · obtain ⟨its, _, pl, _⟩ := I.list hq
      refine ⟨pl.isList.typeIs, fun a e => ?_⟩
      cases e
      obtain ⟨o, n, e, c, hd, _⟩ := pl
      exact ⟨o, e, hd⟩
    · refine ⟨⟨o, I.kIn p o hk, hc⟩, fun a e => ?_⟩
      cases e
      exact ⟨o, I.kIn _ o hk, hd⟩
    · have z : ∃ o, s.heap.get? p = some o ∧ o.ExactDict := by
        rcases hk with ⟨kvs, hk⟩ | ⟨kvs, hk⟩
        · obtain ⟨_, _, _, _, o, _, _, e, ex, _⟩ := I.hok p _ hk
          exact ⟨o, e, ex⟩
        · obtain ⟨_, _, _, _, o, _, _, e, ex, _⟩ := I.hok p _ hk
          exact ⟨o, e, ex⟩
      obtain ⟨o, e, ex⟩ := z
      refine ⟨⟨o, e, ex.1⟩, fun a e2 => ?_⟩
      cases e2
      exact ⟨o, e, ex.2.1⟩
    · obtain ⟨o, _, _, _, e, ex, _⟩ := I.hok p _ hk
      refine ⟨⟨o, e, ex.1⟩, fun a e2 => ?_⟩
      cases e2
      exact ⟨o, e, ex.2.1⟩
  | _ => exact False.elim ty
noncomputable abbrev tBM0 (K : PySem.W.Frag) (T : String) (r : V → List V → Hp → VK → Prop) (to : TE) : TE := fun σ H Q => to σ H fun x H1 => tyV K T x H1 ∧ r x [] H1 Q
noncomputable abbrev tBM (K : PySem.W.Frag) (T : String) (r : V → List V → Hp → VK → Prop) (to : TE) (t : TA) : TE := fun σ H Q => to σ H fun x H1 => tyV K T x H1 ∧ t σ H1 fun xs H2 => r x xs H2 Q
variable {o e : Expr} {es : List Expr} {to : TE} {t : TA} {name : Str} {apos cpos : Pos} {T id : String} {r : V → List V → Hp → VK → Prop}
theorem pe_bm0 (pa : PlainAttrs T) (slot : Slot T name id) (hty : typeOf (.builtin id) = pure (.type "method_descriptor")) (hm : MtR X id r) (ho : PE X o to)
    (hbase : attributeBase o name X.env (eval o X.env) = eval o X.env := by rfl) (hline : (apos.endLine == cpos.line) = true := by rfl) : PE X (.Call (.Attribute o name apos) [] [] cpos) (tBM0 X.K T r to) := by
  intro pins s σ H Q I h
  refine wpAny_Call_method0_late hbase hline (thn (ho pins s σ H _ I h) fun v s1 ⟨x, H1, I1, r1, ty, q1⟩ => ?_)
  obtain ⟨h1, h2⟩ := tyV_is I1 r1 ty
  exact ⟨T, id, pa, slot, hty, h1, h2, Calls.callWith_builtin rfl (PySem.evalArgs_none (hm pins s1 σ H1 x [] v [] Q I1 r1 .nil q1))⟩
theorem pe_bm (pa : PlainAttrs T) (slot : Slot T name id) (hty : typeOf (.builtin id) = pure (.type "method_descriptor")) (hm : MtR X id r) (ho : PE X o to) (ha : PA X (e :: es) t)
    (hbase : attributeBase o name X.env (eval o X.env) = eval o X.env := by rfl)
    (hfew : ((backTo cpos (starEach (e :: es) X.env)).all (fun x => !x.1) && (backToKw cpos (keywordEach [] X.env)).all (fun x => x.1.isSome)
      && decide ((e :: es).length + ([] : List Keyword).length + (if ([] : List Keyword).isEmpty then 0 else 1) < 30)) = true := by rfl)
    (hline : (apos.endLine == cpos.line) = true := by rfl) (hs : starEach (e :: es) X.env = (false, eval e X.env) :: starEach es X.env := by rfl) (hplain : (backTo cpos (starEach es X.env)).any (·.1) = false := by rfl) :
    PE X (.Call (.Attribute o name apos) (e :: es) [] cpos) (tBM X.K T r to t) := by
  intro pins s σ H Q I h
  refine wpAny_Call_method_late hbase hfew hline rfl (thn (ho pins s σ H _ I h) fun v s1 ⟨x, H1, I1, r1, ty, q1⟩ => ?_)
  obtain ⟨h1, h2⟩ := tyV_is I1 r1 ty
  refine ⟨T, id, pa, slot, hty, h1, h2, ?_⟩
  have hA := ha cpos pins s1 σ H1 _ I1 q1
  rw [hs] at hA ⊢
  refine Calls.callWith_builtin (by show (false || (backTo cpos (starEach es X.env)).any (·.1)) = false; rw [hplain] <;> rfl) (Calls.evalArgs_plain ?_)
  exact thn hA fun us s2 ⟨vs, H2, I2, r2, q2⟩ => hm pins s2 σ H2 x vs v us Q I2 r1 r2 q2
end
end L2
namespace L2
open PySem PySem.Spec PyProof.Rows
noncomputable def MtM (X : Cx) (id : String) (r : V → List V → Hp → VK → Prop) : Prop :=
  ∀ (pins : List (Addr × Obj)) (s : Shared) (σ : St) (H : Hp) (x : V) (xs : List V) (v : Value) (us : List Value) (Q : VK), Inv X pins σ H s → RelV x v → Vals xs us → r x xs H Q →
    wpAny (model X.prog X.w) X.A (call (.builtin id) (v :: us)) (EP X pins σ Q) X.xe s
theorem Vals.one : ∀ {x : V} {us : List Value}, Vals [x] us → ∃ u, us = [u] ∧ RelV x u
  | _, _, .cons r .nil => ⟨_, rfl, r⟩
theorem Vals.two : ∀ {x y : V} {us : List Value}, Vals [x, y] us → ∃ u v, us = [u, v] ∧ RelV x u ∧ RelV y v
  | _, _, _, .cons r (.cons q .nil) => ⟨_, _, rfl, r, q⟩
theorem Vals.zero : ∀ {us : List Value}, Vals [] us → us = []
  | _, .nil => rfl
theorem Vals.dropLast {xs : List V} {us : List Value} (h : Vals xs us) : Vals xs.dropLast us.dropLast := by
  induction h with
  | nil => exact .nil
  | cons r t ih =>
    cases t with
    | nil => exact .nil
    | cons q t' => exact .cons r ih
theorem Vals.eraseIdx : ∀ {xs : List V} {us : List Value} (i : Nat), Vals xs us → Vals (xs.eraseIdx i) (us.eraseIdx i)
  | _, _, _, .nil => .nil
  | _, _, 0, .cons _ t => t
  | _, _, i + 1, .cons r t => .cons r (Vals.eraseIdx i t)
theorem Vals.reverse {xs : List V} {us : List Value} (h : Vals xs us) : Vals xs.reverse us.reverse := by
  induction h with
  | nil => exact .nil
  | cons r t ih => rw [List.reverse_cons, List.reverse_cons]; exact Vals.append ih (.cons r .nil)
theorem Vals.rep {xs : List V} {us : List Value} (h : Vals xs us) : ∀ k : Nat, Vals (List.replicate k xs).flatten (List.replicate k us).flatten
  | 0 => .nil
  | k + 1 => by
    rw [List.replicate_succ, List.replicate_succ, List.flatten_cons, List.flatten_cons]
    exact Vals.append h (Vals.rep h k)
theorem erase_last {α : Type} (l : List α) : l.eraseIdx (l.length - 1) = l.dropLast := by
  induction l with
  | nil => rfl
  | cons a r ih =>
    cases r with
    | nil => rfl
    | cons b r =>
      have e : (a :: b :: r).length - 1 = ((b :: r).length - 1) + 1 := by
        have h1 : (a :: b :: r).length = r.length + 2 := rfl
        have h2 : (b :: r).length = r.length + 1 := rfl
        omega
      rw [e, List.eraseIdx_cons_succ, ih]
      all_goals rfl
theorem foldl_rep (its : List Value) : ∀ (k : Nat) (acc : List Value),
    List.foldl (fun x1 x2 => x1 ++ x2) acc.toArray (List.replicate k its.toArray) = (acc ++ (List.replicate k its).flatten).toArray
  | 0, acc => by simp
  | k + 1, acc => by
    have e : acc.toArray ++ its.toArray = (acc ++ its).toArray := by simp
    have e2 : (acc ++ its) ++ (List.replicate k its).flatten = acc ++ (List.replicate (k + 1) its).flatten := by
      rw [List.replicate_succ, List.flatten_cons, List.append_assoc]
    rw [← e2, ← foldl_rep its k (acc ++ its), ← e, List.replicate_succ, List.foldl_cons]
section
variable {X : Cx} {pins : List (Addr × Obj)} {σ : St} {H : Hp} {s : Shared} {l b : Addr} {xs ys zs : List V}
theorem Inv.lset {its its' : List Value} {n : Nat} {f : Array Value → Array Value} {t' : Nat} (I : Inv X pins σ H s) (hH : H l = some (.lst xs))
    (e : s.heap.get? l = some { cls := .type "list", data := .seq its.toArray n }) (hf : f its.toArray = its'.toArray) (hv : Vals ys its') (hz : ys.length ≤ sizeLine) :
    Inv X pins σ (upd H l (.lst ys)) { s with heap := s.heap.update l (Obj.mapSeq f), toks := t' } := by
  have q := PySem.IsL.update e f
  rw [hf] at q
  refine I.write (x := l) (e := l) (by rw [hH]; exact trivial) (.inl rfl) (fun b' u hb hu => (Heap.get?_update_other s.heap (Obj.mapSeq f) (Ne.symm hb)).trans hu) ⟨_, q⟩ ?_
  exact ⟨hz, its', _, hv, q⟩
theorem Inv.lnew {its : List Value} {t' : Nat} (I : Inv X pins σ H s) (hv : Vals ys its) (hz : ys.length ≤ sizeLine) :
    Inv X pins σ (upd H s.heap.objs.size (.lst ys)) { s with heap := s.heap.push { cls := .type "list", data := .seq its.toArray }, toks := t' } :=
  I.laid (fun _ _ q => Heap.get?_push_of_some _ q) (Nat.le_refl _) ⟨hz, its, 0, hv, Heap.get?_push_size _ rfl⟩
theorem Inv.fresh (I : Inv X pins σ H s) : H s.heap.objs.size = none := I.hok.fresh (Nat.le_refl _)
theorem Inv.lstM (I : Inv X pins σ H s) (hH : H l = some (.lst xs)) : xs.length ≤ sizeLine ∧ ∃ (its : List Value) (n : Nat), Vals xs its ∧ xs.length = its.length ∧ s.heap.get? l = some { cls := .type "list", data := .seq its.toArray n } := by
  obtain ⟨z, its, n, r, e⟩ := I.hok l _ hH
  exact ⟨z, its, n, r, r.length, e⟩
theorem notLongL {n : Nat} (h : n ≤ sizeLine) : Builtin.List.listTooLong n = false := by
  unfold Builtin.List.listTooLong
  exact decide_eq_false (by omega)
end
section
variable {X : Cx}
noncomputable def rAppend : V → List V → Hp → VK → Prop := fun x vs H Q => ∃ l xs y, x = .ref l ∧ vs = [y] ∧ H l = some (.lst xs) ∧ xs.length < sizeLine ∧ Q .non (upd H l (.lst (xs ++ [y])))
theorem mt_append : MtM X "list.append" rAppend := by
  intro pins s σ H x vs v us Q I rx rv h
  obtain ⟨l, xs, y, rfl, rfl, hH, hz, q⟩ := h
  cases rx
  obtain ⟨u, rfl, ru⟩ := rv.one
  obtain ⟨z, its, n, r, hl, e⟩ := I.lstM hH
  refine call_meets F.slot_list_append ⟨_, e, rfl⟩ F.entry_list_append (F.args_list_append_2 _ _) (PySem.list_append l its.toArray n u (by rw [List.size_toArray]; omega)) ⟨e, ?_⟩
  refine ⟨.non, _, I.lset (its' := its ++ [u]) hH e (by simp) (r.append (.cons ru .nil)) ?_, rfl, q⟩
  rw [List.length_append, List.length_singleton]
  omega
noncomputable def rPop : V → List V → Hp → VK → Prop := fun x vs H Q => ∃ l xs y, x = .ref l ∧ vs = [] ∧ H l = some (.lst xs) ∧ xs[xs.length - 1]? = some y ∧ Q y (upd H l (.lst xs.dropLast))
theorem mt_pop : MtM X "list.pop" rPop := by
  intro pins s σ H x vs v us Q I rx rv h
  obtain ⟨l, xs, y, rfl, rfl, hH, hy, q⟩ := h
  cases rx
  have hus := rv.zero
  subst hus
  obtain ⟨z, its, n, r, hl, e⟩ := I.lstM hH
  obtain ⟨u, hu, ru⟩ := r.get hy
  have hy' : its.toArray[its.toArray.size - 1]? = some u := by
    show its.toArray[its.length - 1]? = some u
    rw [← Array.getElem?_toList, ← hl]
    exact hu
  refine call_meets F.slot_list_pop ⟨_, e, rfl⟩ F.entry_list_pop (F.args_list_pop_1 _) (MeetsSeq.list_pop_last l its.toArray n u hy' (by rw [List.size_toArray]; omega)) ⟨e, ?_⟩
  refine ⟨y, _, I.lset (its' := its.dropLast) hH e ?_ r.dropLast ?_, ru, q⟩
  · show its.toArray.eraseIdxIfInBounds (its.toArray.size - 1) = its.dropLast.toArray
    rw [List.size_toArray, List.eraseIdxIfInBounds_toArray, erase_last]
  · rw [List.length_dropLast]
    omega
noncomputable def rRep : R2 := fun x y H Q => ∃ l k xs, x = .ref l ∧ y = .int k ∧ H l = some (.lst xs) ∧ -(2 ^ 63) ≤ k ∧ k < 2 ^ 63 ∧ xs.length * k.toNat ≤ sizeLine ∧
  ∀ p, H p = none → Q (.ref p) (upd H p (.lst (List.replicate k.toNat xs).flatten))
theorem len_rep {α : Type} (xs : List α) (k : Nat) : (List.replicate k xs).flatten.length = k * xs.length := by
  induction k with
  | zero => simp
  | succ k ih => rw [List.replicate_succ, List.flatten_cons, List.length_append, ih, Nat.succ_mul, Nat.add_comm]
theorem op_rep : OpR X (binaryOp .Mult) rRep := by
  intro pins s σ H x y v u Q I rx ry h
  obtain ⟨l, k, xs, rfl, rfl, hH, h1, h2, hz, q⟩ := h
  cases rx
  obtain ⟨t, rfl⟩ := ry
  obtain ⟨z, its, n, r, hl, e⟩ := I.lstM hH
  have hlen : its.toArray.size * k.toNat ≤ sizeLine := by rw [List.size_toArray, ← hl]; exact hz
  have hcap : ¬ its.toArray.size * k.toNat > (2 ^ 63 - 1) / 8 := by
    have : (sizeLine : Nat) ≤ (2 ^ 63 - 1) / 8 := by decide
    omega
  have hfit : ¬ (!Builtin.List.listFitsIndex k) = true := by
    rw [fitsIndex_both h1 h2]
    exact Bool.false_ne_true
  have hlong : ¬ Builtin.List.listTooLong (its.toArray.size * k.toNat) = true := by
    rw [notLongL hlen]
    exact Bool.false_ne_true
  have hnew : List.foldl (fun x1 x2 => x1 ++ x2) #[] (List.replicate (if its.toArray.isEmpty = true then 0 else k.toNat) its.toArray) = (List.replicate k.toNat its).flatten.toArray := by
    have f0 : ∀ m : Nat, List.foldl (fun x1 x2 => x1 ++ x2) #[] (List.replicate m its.toArray) = (List.replicate m its).flatten.toArray := fun m => by
      have := foldl_rep its m []
      rw [List.nil_append] at this
      exact this
    rw [f0]
    cases its with
    | nil => simp
    | cons a r' => rw [if_neg (by simp)]
  refine wpAny_binaryOp_repeat_ref (T := "list") (U := "int") (by decide) ⟨_, e, rfl⟩ (fun s' => typeIs_int s' k t) noFill_list_mul F.fills_int_mul F.slot_int_rmul repeat_list F.slot_int_index.lookup
    (call_meets F.slot_int_rmul (typeIs_int s k t) F.entry_int_rmul (F.args_int_rmul_2 _ _) (int___rmul___int_list k t l its.toArray n)
      ⟨e, rfl, ⟨_, e, rfl⟩, call_meets F.slot_list_mul ⟨_, e, rfl⟩ F.entry_list_mul (F.args_list_mul_2 _ _) (AutoListH.list___mul___list_int_3 l its.toArray n k t hfit hcap hlong) ⟨e, ?_⟩⟩)
  rw [hnew]
  exact ⟨.ref _, _, I.lnew (t' := s.toks) (r.rep k.toNat) (by rw [len_rep, Nat.mul_comm]; exact hz), rfl, q _ I.fresh⟩
end
section
variable {prog : Program} {w : World} {A : Around} {E : Value → Shared → Prop} {s : Shared}
end
section
variable {X : Cx}
end
end L2
namespace Att
open PySem PySem.W PySem.Calls PyProof.Rows
theorem ints_of_wellAll {P : Params} {h : Heap} : ∀ (ns : List Int) (vs : List Value), WellAll P h vs (ns.map WData.int) → IntsAre vs ns := by
  intro ns
  induction ns with
  | nil =>
    intro vs w
    rw [List.map_nil] at w
    cases w
    exact .nil
  | cons n ns ih =>
    intro vs w
    rw [List.map_cons] at w
    cases w with
    | cons a b =>
      cases a
      exact .cons _ _ (ih _ b)
theorem script_of {l : OpenLaw} {n : Nat} (hn : l.most = some n) {P : Params} {h : Heap} {args : List WData} {vals : List Value}
    (hpre : l.row.toRowW.claim.pre args = true) (hwl : WellAll P h vals args) :
    ∃ a vs ns, vals = [Value.ref a] ∧ args = [WData.list (ns.map WData.int)] ∧ h.get? a = some { cls := .type "list", data := .seq vs.toArray } ∧ IntsAre vs ns ∧ ns.length ≤ n := by
  have hsh : WShape.hasAll [] args [.list .int] = true := (pre_splitW hpre).1
  have hc : l.pre.holds [] { args := args } = true := (pre_splitW hpre).2
  obtain ⟨d, r, rfl, h1, h2⟩ := hasAllW_cons hsh
  obtain rfl := hasAllW_nil h2
  obtain ⟨xs, rfl, h3⟩ := hasW_list h1
  obtain ⟨ns, rfl⟩ := items_int h3
  have hlen : ns.length ≤ n := by
    unfold OpenLaw.pre at hc
    have h4 : (WTm.not (.lt (.lit (.int (n : Int))) (.len (.arg 0)))).holds [] { args := [.list (ns.map .int)] } = true := by
      have h4 := (holds_andW hc).1
      rw [hn] at h4
      exact h4
    have h5 := condW_of h4 (w_not (w_lt w_lit (w_len_list (w_arg rfl))))
    rw [List.length_map] at h5
    refine Nat.le_of_not_lt fun q => ?_
    have q' : (n : Int) < ((ns.length : Nat) : Int) := by omega
    first
      | (rw [decide_eq_true q'] at h5; exact absurd h5 (by decide))
      | (simp at h5; omega)
  cases hwl with
  | cons w1 w2 =>
    cases w2
    cases w1 with
    | list ho hall => exact ⟨_, _, ns, rfl, rfl, ho, ints_of_wellAll ns _ hall, hlen⟩
theorem post_true (l : OpenLaw) (args : List WData) : l.row.toRowW.claim.post args (.bool true) args = true :=
  postW_of (r := l.row.toRowW) (X := (true == true))
    (show WShape.has [] (.bool true) .bool = true by first | rfl | decide | simp [WShape.has, WShape.arms, WShape.armsAll])
    (show (WTm.eq .res (.lit (.bool true))).value [] { args := args, res := some (.bool true), after := args } = some (.bool (true == true)) from w_eq_bool (w_res rfl) w_lit) rfl
theorem attach_call {l : OpenLaw} {n : Nat} {q : Program} {loose : List Str} {XP : (Str → Option Value) → Heap → Prop} {YP : World → Heap → Prop} {d : DefRec}
    (hn : l.most = some n) (hdf : d.params.defaults = [])
    (call : ∀ (w : World) (s₀ s₁ : Shared) (mg mb : Str → Option Value) (fa : Addr) (o : Obj) (pm cd doc : Value) (a : Addr) (vs : List Value) (ns : List Int),
      Ground q loose [] XP w s₀ mg mb s₁.heap → YP w s₁.heap →
      s₁.heap.get? fa = some o → o.data = .func (docDef d.name d.params d.body d.scope pm cd doc) → s₁.heap.CodeRec cd d.name → mg d.name = some (.ref fa) →
      s₁.heap.get? a = some { cls := .type "list", data := .seq vs.toArray } → IntsAre vs ns → ns.length ≤ n → s₁.gens = #[] →
      codeAny (model l.prog w) callerA (.call (.ref fa) ⟨[.ref a], []⟩) (fun r s' => r = .ok (.ret (.bool true)) ∧ OldK s₁.heap s'.heap ∧ s'.os = s₁.os ∧ AllBare s'.gens) s₁) :
    WalkO q loose XP YP l.row.toRowW d [] (fun f vs => PySem.call f vs) := by
  intro w s₀ s₁ mg mb G Y fa o pm cd doc dV kV ho hd hcd hD hmg hg args vals as hpre hlay hrd hwl hlo
  obtain rfl : dV = .none := Dflts.none hD hdf
  obtain rfl : kV = .none := Dflts.noKw hD
  obtain ⟨a, vs, ns, rfl, rfl, hobj, hints, hlen⟩ := script_of hn hpre hwl
  refine enter_call (codeAny_mono (call w s₀ s₁ mg mb fa o pm cd doc a vs ns G Y ho (fd_plain hd) hcd hmg hobj hints hlen hg) fun r s' hq => ?_)
  obtain ⟨rfl, h2, h3, h4⟩ := hq
  exact ⟨.inl ⟨.bool true, .bool true, [], rfl, fun _ => rfl, .bool true, post_true l _, fun _ => ⟨List.Pairwise.nil, fun _ hm => (nomatch hm)⟩⟩, h2, h3, h4⟩
section
variable {prog : Program} {w : World} {A : Around} {E : Value → Shared → Prop} {s : Shared} {K : Frag}
end
end Att
namespace L2
open PySem PySem.Spec PyProof.Rows
theorem vals_ints : ∀ {vs : List Value} {ns : List Int}, IntsAre vs ns → Vals (ns.map V.int) vs
  | _, _, .nil => .nil
  | _, _, .cons n t h => .cons ⟨t, rfl⟩ (vals_ints h)
noncomputable def Only (H : Hp) : Prop := ∀ b, H b = none ∨ ∃ o xs, H b = some (.frz o (.lst xs))
theorem law_call {P : Program} {w : World} {K : PySem.W.Frag} {mg mb : Str → Option Value} {CX : CXT} {k : Nat} {fa a : Addr} {fd : FuncData} {x : Str} {sp : Sp} {s₁ : Shared} {vs : List Value} {ns : List Int}
    (KX : K.In s₁.heap) (hns : s₁.heap.Ns mainGlobals mg) (hb : s₁.heap.Ns builtinsNs mb) (hbb : ∀ x : Str, x ≠ "__name__" → mb x = bootBuiltins x) (hlim : s₁.heap.NoLimit) (hg : s₁.gens = #[])
    (ha : s₁.heap.get? a = some { cls := .type "list", data := .seq vs.toArray }) (hi : IntsAre vs ns) (hl : ns.length ≤ sizeLine) (hr : Room k callerA)
    (F : ∀ base : Heap, K.In base → base.Ns mainGlobals mg → FnOk P w K mg base CX k fa fd [x] sp) (hbind : ∀ (s : Shared) (u : Value), BindsTo s fd ⟨[u], []⟩ [(x, u)])
    (hsp : ∀ H : Hp, Only H → SqL K H a (ns.map V.int) → sp [.ref a] H (fun v _ => v = .bl true) fun _ _ _ => False)
    (hCX : ∀ H e s', CX [] H s₁ (fun _ _ _ => False) e s' → False) :
    codeAny (model P w) callerA (.call (.ref fa) ⟨[.ref a], []⟩) (fun r s' => r = .ok (.ret (.bool true)) ∧ OldK s₁.heap s'.heap ∧ s'.os = s₁.os ∧ AllBare s'.gens) s₁ := by
  have rv := vals_ints hi
  have lenV := hi.length
  have core : ∀ H : Hp, Only H → SqL K H a (ns.map V.int) → HOk P w H s₁.heap → (∀ b, H b ≠ none → b = a) → (H a ≠ none → K.lookup a = none) →
      codeAny (model P w) callerA (.call (.ref fa) ⟨[.ref a], []⟩) (fun r s' => r = .ok (.ret (.bool true)) ∧ OldK s₁.heap s'.heap ∧ s'.os = s₁.os ∧ AllBare s'.gens) s₁ := by
    intro H hO hS hok hA hK
    have base_of : ∀ {b : Addr} {o : Obj}, s₁.heap.get? b = some o → H b = none → (hidT s₁.heap H).get? b = some o := fun e n => hidT_get e n
    have noA : ∀ {b : Addr} {o : Obj} {es : Array DictEntry} {ep : Nat}, s₁.heap.get? b = some o → o.data = .dict es ep → H b = none := fun {b o es ep} e d => by
      cases q : H b with
      | none => rfl
      | some u =>
        have e' : b = a := hA b (by rw [q]; simp)
        subst e'
        rw [ha] at e; cases e
        have d' : Data.seq vs.toArray _ = Data.dict es ep := d
        cases d'
    have nsK : ∀ {b : Addr} {m : Str → Option Value}, s₁.heap.Ns b m → (hidT s₁.heap H).Ns b m := fun {b m} ⟨o, es, ep, e, d, r⟩ => ⟨o, es, ep, base_of e (noA e d), d, r⟩
    have hKb : K.In (hidT s₁.heap H) := fun b o e => base_of (KX b o e) (by
      cases q : H b with
      | none => rfl
      | some u =>
        have e' : b = a := hA b (by rw [q]; simp)
        subst e'
        rw [hK (by rw [q]; simp)] at e; cases e)
    have hM : Mod K mg (hidT s₁.heap H) := ⟨hKb, nsK hns, ⟨mb, nsK hb, hbb⟩, let ⟨mc, h1, h2⟩ := hlim; ⟨mc, nsK h1, h2⟩⟩
    have e0 : Env0 P w K mg (hidT s₁.heap H) callerA [] s₁ H := ⟨rfl, hM, fun b o e => of_hidT e, Nat.le_of_eq (hidT_size _ _), trivial, fun b hb => absurd (show b ∈ ([] : List Addr) from hb) (by simp), hok, .of_eq hg⟩
    refine codeAny_mono ((F _ hKb (nsK hns)).run callerA [] s₁ H ⟨[.ref a], []⟩ [.ref a] [.ref a] _ _ hr e0 (hbind s₁ (.ref a)) (.cons rfl .nil) (hsp H hO hS)) fun r s' h => ?_
    cases r with
    | error e => exact (hCX H e s' h).elim
    | ok fl =>
      cases fl with
      | next => exact False.elim h
      | brk => exact False.elim h
      | cont => exact False.elim h
      | ret u =>
        obtain ⟨v, H', os, bare, un, hok', r', q⟩ := h
        have q' : v = .bl true := q
        subst q'
        obtain rfl : u = Value.bool true := r'
        refine ⟨rfl, OldK.of_keep fun b o e => ?_, os, bare⟩
        cases q : H b with
        | none => exact un.keep b o e q (by intro z; exact absurd (show b ∈ ([] : List Addr) from z) (by simp)) (by simp)
        | some u =>
          rcases hO b with z | ⟨ob, xs, z⟩
          · rw [q] at z; cases z
          · have z2 := un.frzs b ob _ z
            obtain ⟨e1, _⟩ := hok b _ z
            obtain ⟨e2, _⟩ := hok' b _ z2
            rw [e] at e1; cases e1
            exact e2
  cases hk : K.lookup a with
  | some o =>
    have e := KX a o hk
    rw [ha] at e
    cases e
    refine core (fun _ => none) (fun _ => .inl rfl) (.inr ⟨_, vs.toArray, _, hk, rfl, rfl, rfl, by rw [List.size_toArray, lenV]; exact hl, by simpa using rv⟩) (fun b u z => by have z' : (none : Option HO) = some u := z; cases z') (fun b z => absurd rfl z) fun z => absurd rfl z
  | none =>
    refine core (fun b => if b = a then some (.frz { cls := .type "list", data := .seq vs.toArray } (.lst (ns.map V.int))) else none) (fun b => ?_) (.inl (.inr ⟨{ cls := .type "list", data := .seq vs.toArray }, if_pos rfl⟩)) (fun b u z => ?_) (fun b z => ?_) fun _ => hk
    · by_cases hb : b = a
      · exact .inr ⟨_, _, if_pos hb⟩
      · exact .inl (if_neg hb)
    · by_cases hb : b = a
      · have z' := (if_pos hb).symm.trans z
        cases z'
        subst hb
        exact ⟨ha, by rw [List.length_map]; exact hl, vs, _, rv, ha⟩
      · have z' := (if_neg hb).symm.trans z
        cases z'
    · by_cases hb : b = a
      · exact hb
      · exact absurd (if_neg hb) z
end L2
namespace L2
open PySem PySem.Spec PyProof.Rows
theorem walk_of {l : PySem.W.OpenLaw} {n k : Nat} {q : Program} {loose : List Str} {XP : (Str → Option Value) → Heap → Prop} {YP : World → Heap → Prop} {d : DefRec} {K : Params → PySem.W.Frag} {CX : World → CXT} {sp : World → Sp} {x : Str}
    (hn : l.most = some n) (hn2 : n ≤ sizeLine) (hdf : d.params.defaults = []) (hr : Room k callerA)
    (hY : ∀ (w : World) (h : Heap), YP w h → (K w.params).In h)
    (F : ∀ (w : World) (mg : Str → Option Value) (fa : Addr) (h : Heap), (K w.params).In h → h.Ns mainGlobals mg → mg d.name = some (.ref fa) →
      ∃ fd : FuncData, (∀ (s : Shared) (u : Value), BindsTo s fd ⟨[u], []⟩ [(x, u)]) ∧
        ∀ base : Heap, (K w.params).In base → base.Ns mainGlobals mg → FnOk l.prog w (K w.params) mg base (CX w) k fa fd [x] (sp w))
    (hsp : ∀ (w : World) (H : Hp) (a : Addr) (ns : List Int), ns.length ≤ n → Only H → SqL (K w.params) H a (ns.map V.int) → sp w [.ref a] H (fun v _ => v = .bl true) fun _ _ _ => False)
    (hCX : ∀ (w : World) (H : Hp) (s : Shared) (e : Value) (s' : Shared), CX w [] H s (fun _ _ _ => False) e s' → False) :
    PySem.W.WalkO q loose XP YP l.row.toRowW d [] (fun f vs => PySem.call f vs) := by
  refine Att.attach_call hn hdf fun w s₀ s₁ mg mb fa o pm cd doc a vs ns G Y ho hd hcd hmg hobj hints hlen hg => ?_
  have KX := hY w _ Y
  obtain ⟨fd, hb, hF⟩ := F w mg fa _ KX G.T.g hmg
  exact law_call KX G.T.g G.T.b G.T.builtins G.T.nolimit hg hobj hints (Nat.le_trans hlen hn2) hr hF hb (fun H hO hS => hsp w H a ns hlen hO hS) fun H e s' => hCX w H s₁ e s'
end L2
namespace L2
open PySem PySem.Spec PyProof.Rows
noncomputable def defArgs (s : Stmt) : Arguments := match s with
  | .FunctionDef _ a _ _ _ _ _ _ _ _ => a
  | _ => { posonlyargs := [], args := [], vararg := none, kwonlyargs := [], kw_defaults := [], kwarg := none, defaults := [] }
noncomputable def defBody (s : Stmt) : List Stmt := match s with
  | .FunctionDef _ _ b _ _ _ _ _ _ _ => b
  | _ => []
noncomputable def defScope (s : Stmt) : Scope := match s with
  | .FunctionDef _ _ _ _ _ _ sc _ _ _ => sc
  | _ => { kind := .function, names := [], isGenerator := false, isCoroutine := false }
noncomputable abbrev CX0 : CXT := fun _ _ _ _ _ _ => False
noncomputable abbrev E0 : XK := fun _ _ _ => False
theorem pass0 {X : Cx} : Passes CX0 X E0 := fun _ _ _ _ _ _ _ h => h.elim
structure Fun (K : PySem.W.Frag) (x qual : Str) (st : Stmt) (f : Addr) (fd : FuncData) : Prop where
  ex : ∃ (oc : Value) (od : Option Addr) (kV doc pm : Value) (an : Option Addr) (cdv ct : Value) (osl : Array (Option Value)),
    fd = PySem.W.fnOf x qual (defArgs st) (defBody st) (defScope st) .none kV doc pm an cdv ct ∧ K.lookup f = some ⟨oc, od, .func fd, osl⟩ ∧ PySem.W.codeIn K cdv qual = true
  kp : PySem.W.keepIn K (.ref f) = true
section
variable {P : Program} {w : World} {K : PySem.W.Frag} {mg : Str → Option Value} {base : Heap}
theorem Fun.ok {x qual : Str} {st : Stmt} {f : Addr} {fd : FuncData} {N ps : List Str} {k : Nat} {sp : Sp} (F : Fun K x qual st f fd) (S : FnScope N ps (defScope st)) (len : ∀ vs H Q E, sp vs H Q E → vs.length = ps.length)
    (hbody : ∀ (cdv : Value) (A : Around) (outer : List Env) (s : Shared) (H : Hp) (vs : List V) (Q : VK) (E : XK), Room k (A.deeper (envOfC qual (defScope st) s.heap.objs.size f cdv)) → sp vs H Q E →
      ∃ t, PSs (cxOf CX0 P w K mg base N qual (defScope st) f cdv A outer s H E).nox (defBody st) t ∧ t { nx := fun _ H' => Q .non H', rt := Q } (start N vs) H) : FnOk P w K mg base CX0 (k + 1) f fd ps sp := by
  obtain ⟨oc, od, kV, doc, pm, an, cdv, ct, osl, rfl, lk, hcd⟩ := F.ex
  refine fn_of lk hcd S len fun A outer s H vs Q E hr hsp => ?_
  obtain ⟨t, h, q⟩ := hbody cdv A outer s H vs Q E hr hsp
  exact ⟨t, h.nox, q⟩
theorem Fun.binds {x qual : Str} {st : Stmt} {f : Addr} {fd : FuncData} {ps : List Str} (F : Fun K x qual st f fd)
    (h : ∀ (kV doc pm : Value) (an : Option Addr) (cdv ct : Value) (us : List Value), us.length = ps.length → bindArgs (PySem.W.fnOf x qual (defArgs st) (defBody st) (defScope st) .none kV doc pm an cdv ct) ⟨us, []⟩ = pure (ps.zip us)) : Binds K fd ps [] := by
  obtain ⟨oc, od, kV, doc, pm, an, cdv, ct, osl, rfl, lk, hcd⟩ := F.ex
  exact .all (h kV doc pm an cdv ct)
theorem fun_mk {x qual : Str} {st : Stmt} {f : Addr} {oc : Value} {od an : Option Addr} {osl : Array (Option Value)} {kV doc pm cdv ct : Value} (l : K.lookup f = some ⟨oc, od, .func (PySem.W.fnOf x qual (defArgs st) (defBody st) (defScope st) .none kV doc pm an cdv ct), osl⟩)
    (c : PySem.W.codeIn K cdv qual = true) (k : PySem.W.keepIn K (.ref f) = true) : Fun K x qual st f (PySem.W.fnOf x qual (defArgs st) (defBody st) (defScope st) .none kV doc pm an cdv ct) := ⟨⟨oc, od, kV, doc, pm, an, cdv, ct, osl, rfl, l, c⟩, k⟩
end
section
variable {X : Cx}
theorem pv (i : Nat) {x : Str} {pos : Pos} (hN : X.N[i]? = some x := by rfl) (hv : Vis X.env.scope x := by first | exact Or.inl rfl | exact Or.inr (Or.inl rfl) | exact Or.inr (Or.inr rfl)) (hd : (x == ("__debug__" : Str)) = false := by decide)
    (hcd : (x == ("__classdict__" : Str)) = false := by decide) : PE X (.Name x pos) (tVar i) := pe_var hN hv hd hcd
end
theorem iteF {A B : Prop} (h : B) : if false = true then A else B := by
  rw [if_neg Bool.false_ne_true]
  exact h
theorem iteT {A B : Prop} (h : A) : if true = true then A else B := by
  rw [if_pos rfl]
  exact h
noncomputable def Same (H H' : Hp) : Prop := ∀ b o, H b = some o → H' b = some o
theorem Same.refl (H : Hp) : Same H H := fun _ _ h => h
theorem Same.trans {H H1 H2 : Hp} (a : Same H H1) (b : Same H1 H2) : Same H H2 := fun c o h => b c o (a c o h)
theorem Same.free {H H' : Hp} (e : Same H H') {l : Addr} (h : H' l = Option.none) : H l = Option.none := by
  cases q : H l with
  | none => rfl
  | some o =>
    rw [e l o q] at h
    cases h
theorem Same.seq {K : PySem.W.Frag} {H H' : Hp} {a : Addr} {xs : List V} (e : Same H H') (h : SqL K H a xs) : SqL K H' a xs := by
  rcases h with (h | ⟨o, h⟩) | h
  · exact .inl (.inl (e _ _ h))
  · exact .inl (.inr ⟨o, e _ _ h⟩)
  · exact .inr h
end L2
namespace L2
open PySem PySem.Spec PyProof.Rows
section
variable {κ : Type} [DecidableEq κ]
noncomputable def valV (kvs : List (κ × V)) (k : κ) : Option V := (kvs.find? fun kv => decide (kv.1 = k)).map (·.2)
noncomputable def putK (kvs : List (κ × V)) (k : κ) (v : V) : List (κ × V) :=
  if (kvs.any fun kv => decide (kv.1 = k)) = true then kvs.map (fun kv => if kv.1 = k then (kv.1, v) else kv) else kvs ++ [(k, v)]
noncomputable def dropK (kvs : List (κ × V)) (k : κ) : List (κ × V) := kvs.filter fun kv => decide (kv.1 ≠ k)
theorem valV_pos {p : κ × V} {r : List (κ × V)} {k : κ} (e : p.1 = k) : valV (p :: r) k = some p.2 := by simp [valV, List.find?_cons, e]
theorem valV_neg {p : κ × V} {r : List (κ × V)} {k : κ} (e : ¬ p.1 = k) : valV (p :: r) k = valV r k := by simp [valV, List.find?_cons, e]
theorem valV_any (k : κ) : ∀ kvs : List (κ × V), (kvs.any fun kv => decide (kv.1 = k)) = (valV kvs k).isSome
  | [] => rfl
  | p :: r => by
    rw [List.any_cons]
    by_cases e : p.1 = k
    · simp only [valV_pos e, decide_eq_true e, Bool.true_or, Option.isSome_some]
    · rw [valV_neg e, decide_eq_false e, Bool.false_or]; exact valV_any k r
theorem valV_snoc (k j : κ) (y : V) : ∀ kvs : List (κ × V), valV kvs k = none → valV (kvs ++ [(k, y)]) j = if j = k then some y else valV kvs j
  | [], _ => by
    by_cases e : k = j
    · rw [if_pos e.symm]; exact valV_pos (p := (k, y)) e
    · rw [if_neg (fun z => e z.symm)]; exact valV_neg (p := (k, y)) e
  | p :: r, hn => by
    rw [List.cons_append]
    have hk : ¬ p.1 = k := fun z => by rw [valV_pos z] at hn; cases hn
    rw [valV_neg hk] at hn
    have ih := valV_snoc k j y r hn
    by_cases e : p.1 = j
    · rw [valV_pos e, valV_pos e, if_neg (fun z => hk (e.trans z))]
    · rw [valV_neg e, valV_neg e, ih]
theorem length_putK (kvs : List (κ × V)) (k : κ) (v : V) : (putK kvs k v).length ≤ kvs.length + 1 := by
  unfold putK
  split
  · rw [List.length_map]; omega
  · rw [List.length_append, List.length_cons, List.length_nil]; omega
theorem putK_new {kvs : List (κ × V)} {k : κ} (v : V) (h : valV kvs k = none) : putK kvs k v = kvs ++ [(k, v)] := by
  unfold putK
  rw [valV_any, h]
  exact if_neg (by decide)
theorem RelO.isSome_eq {o : Option V} {u : Option Value} (r : RelO o u) : o.isSome = u.isSome := by
  cases o with
  | none => cases u with
    | none => rfl
    | some _ => exact (show False from r).elim
  | some _ => cases u with
    | none => exact (show False from r).elim
    | some _ => rfl
theorem RelO.getD {o : Option V} {u : Option Value} {d : V} {d' : Value} (r : RelO o u) (rd : RelV d d') : RelV (o.getD d) (u.getD d') := by
  cases o with
  | none => cases u with
    | none => exact rd
    | some _ => exact (show False from r).elim
  | some _ => cases u with
    | none => exact (show False from r).elim
    | some _ => exact r
theorem KV.val {kvs : List (κ × V)} {vs : List (κ × Value)} (r : KV kvs vs) (k : κ) : RelO (valV kvs k) (valueAt vs k) := by
  unfold KV at r
  induction r with
  | nil => exact True.intro
  | @cons p q ps qs h t ih =>
    obtain ⟨h1, h2⟩ := h
    by_cases e : p.1 = k
    · have e' : q.1 = k := h1.symm.trans e
      have b : valueAt (q :: qs) k = some q.2 := by simp [valueAt, List.find?_cons, e']
      rw [valV_pos e, b]; exact h2
    · have e' : ¬ q.1 = k := fun z => e (h1.trans z)
      have b : valueAt (q :: qs) k = valueAt qs k := by simp [valueAt, List.find?_cons, e']
      rw [valV_neg e, b]; exact ih
theorem KV.any {kvs : List (κ × V)} {vs : List (κ × Value)} (r : KV kvs vs) (k : κ) : (kvs.any fun kv => decide (kv.1 = k)) = vs.any fun kv => decide (kv.1 = k) := by
  unfold KV at r
  induction r with
  | nil => rfl
  | cons h t ih => rw [List.any_cons, List.any_cons, ih, h.1]
theorem KV.repl {kvs : List (κ × V)} {vs : List (κ × Value)} (r : KV kvs vs) (k : κ) {y : V} {u : Value} (ry : RelV y u) :
    KV (kvs.map fun kv => if kv.1 = k then (kv.1, y) else kv) (vs.map fun kv => if kv.1 = k then (kv.1, u) else kv) := by
  unfold KV at r ⊢
  induction r with
  | nil => exact .nil
  | @cons p q ps qs h t ih =>
    rw [List.map_cons, List.map_cons]
    refine .cons ?_ ih
    obtain ⟨h1, h2⟩ := h
    by_cases e : p.1 = k
    · rw [if_pos e, if_pos (h1.symm.trans e)]; exact ⟨h1, ry⟩
    · rw [if_neg e, if_neg (fun z => e (h1.trans z))]; exact ⟨h1, h2⟩
theorem KV.put {kvs : List (κ × V)} {vs : List (κ × Value)} (r : KV kvs vs) (k : κ) {y : V} {u : Value} (ry : RelV y u) : KV (putK kvs k y) (stored vs k u) := by
  unfold putK stored
  rw [r.any k]
  by_cases e : (vs.any fun kv => decide (kv.1 = k)) = true
  · rw [if_pos e, if_pos e]; exact r.repl k ry
  · rw [if_neg e, if_neg e]; exact Paired.snoc r ⟨rfl, ry⟩
theorem KV.drop {kvs : List (κ × V)} {vs : List (κ × Value)} (r : KV kvs vs) (k : κ) : KV (dropK kvs k) (without vs k) := by
  unfold KV at r ⊢
  unfold dropK without
  induction r with
  | nil => exact .nil
  | @cons p q ps qs h t ih =>
    obtain ⟨h1, h2⟩ := h
    rw [List.filter_cons, List.filter_cons]
    by_cases e : p.1 = k
    · have a : ¬ decide (p.1 ≠ k) = true := by simp [e]
      have b : ¬ decide (q.1 ≠ k) = true := by simp [h1.symm.trans e]
      rw [if_neg a, if_neg b]; exact ih
    · have e' : ¬ q.1 = k := fun z => e (h1.trans z)
      have a : decide (p.1 ≠ k) = true := by simp [e]
      have b : decide (q.1 ≠ k) = true := by simp [e']
      rw [if_pos a, if_pos b]; exact .cons ⟨h1, h2⟩ ih
theorem KV.length {kvs : List (κ × V)} {vs : List (κ × Value)} (r : KV kvs vs) : kvs.length = vs.length := Paired.length r
end
theorem kV_is {P : Program} {w : World} {k : Key} {u : Value} (r : RelV (kV k) u) : (mixKind P w).is k u = true := by
  cases k with
  | inl i => obtain ⟨t, e⟩ := (show ∃ t, u = Value.int i t from r); subst e; exact mixKind_int P w i t
  | inr x => obtain ⟨t, e⟩ := (show ∃ t, u = Value.str x t from r); subst e; exact mixKind_str P w x t
theorem items_are {P : Program} {w : World} : ∀ {ks : List Key} {us : List Value}, Vals (ks.map kV) us → ItemsAre (mixKind P w) ks us
  | [], _, r => by rw [List.map_nil] at r; cases r; exact .nil
  | k :: ks, _, r => by
    rw [List.map_cons] at r
    cases r with
    | cons h t => exact .cons (kV_is h) (items_are t)
noncomputable abbrev KT (H : Hp) : List (List Key × V) → List (List Key × Addr × Value) → Prop := Paired fun p q => p.1 = q.1 ∧ H q.2.1 = some (.tup (p.1.map kV)) ∧ RelV p.2 q.2.2
theorem KT.val {H : Hp} {kvs : List (List Key × V)} {xs : List (List Key × Addr × Value)} (r : KT H kvs xs) (k : List Key) : RelO (valV kvs k) ((atKey xs k).map (·.2)) := by
  induction r with
  | nil => exact True.intro
  | @cons p q ps qs h t ih =>
    obtain ⟨h1, _, h2⟩ := h
    by_cases e : p.1 = k
    · have e' : q.1 = k := h1.symm.trans e
      have b : atKey (q :: qs) k = some q.2 := by simp [atKey, List.find?_cons, e']
      rw [valV_pos e, b]; exact h2
    · have e' : ¬ q.1 = k := fun z => e (h1.trans z)
      have b : atKey (q :: qs) k = atKey qs k := by simp [atKey, List.find?_cons, e']
      rw [valV_neg e, b]; exact ih
theorem KT.repl {H : Hp} {kvs : List (List Key × V)} {xs : List (List Key × Addr × Value)} (r : KT H kvs xs) (k : List Key) {y : V} {u : Value} (ry : RelV y u) :
    KT H (kvs.map fun kv => if kv.1 = k then (kv.1, y) else kv) (xs.map (putAt k u)) := by
  induction r with
  | nil => exact .nil
  | @cons p q ps qs h t ih =>
    rw [List.map_cons, List.map_cons]
    refine .cons ?_ ih
    obtain ⟨h1, h2, h3⟩ := h
    unfold putAt
    by_cases e : p.1 = k
    · rw [if_pos e, if_pos (h1.symm.trans e)]; exact ⟨h1, h2, ry⟩
    · rw [if_neg e, if_neg (fun z => e (h1.trans z))]; exact ⟨h1, h2, h3⟩
theorem KT.put {H : Hp} {kvs : List (List Key × V)} {xs : List (List Key × Addr × Value)} (r : KT H kvs xs) (k : List Key) {b : Addr} {y : V} {u : Value} (hb : H b = some (.tup (k.map kV))) (ry : RelV y u) :
    KT H (putK kvs k y) (storedH xs k b u) := by
  have e : (kvs.any fun kv => decide (kv.1 = k)) = (atKey xs k).isSome := by
    rw [valV_any, (r.val k).isSome_eq, Option.isSome_map]
  unfold putK storedH
  rw [e]
  by_cases q : (atKey xs k).isSome = true
  · rw [if_pos q, if_pos q]; exact r.repl k ry
  · rw [if_neg q, if_neg q]; exact Paired.snoc r ⟨rfl, hb, ry⟩
theorem KT.keeps {H H' : Hp} {kvs : List (List Key × V)} {xs : List (List Key × Addr × Value)} (r : KT H kvs xs) (ht : ∀ b ys, H b = some (.tup ys) → H' b = some (.tup ys)) : KT H' kvs xs :=
  Paired.mapP r fun _ _ z => ⟨z.1, ht _ _ z.2.1, z.2.2⟩
section
variable {P : Program} {w : World} {H : Hp} {h : Heap} {a : Addr}
theorem rd_of {u : HO} (ok : HOk P w H h) (e : Rd H a u) : ObjOk P w H h a u := e.ok ok
theorem dk_rd {kvs : List (Key × V)} (ok : HOk P w H h) (e : Rd H a (.dK kvs)) : kvs.length ≤ sizeLine ∧ (a == sysModules) = false ∧ ∃ vs, KV kvs vs ∧ h.DictOf (mixKind P w) a vs :=
  show ObjOk P w H h a (.dK kvs) from rd_of ok e
theorem dk_of {kvs : List (Key × V)} (ok : HOk P w H h) (e : H a = some (.dK kvs)) : kvs.length ≤ sizeLine ∧ (a == sysModules) = false ∧ ∃ vs, KV kvs vs ∧ h.DictOf (mixKind P w) a vs := dk_rd ok (.inl e)
theorem key_of {ks : List Key} (ok : HOk P w H h) (e : H a = some (.tup (ks.map kV))) : (tupleKind (mixKind P w)).is h ks a := by
  obtain ⟨_, its, r, o, h1, h2, n, h3⟩ := (show ObjOk P w H h a (.tup (ks.map kV)) from ok a _ e)
  exact ⟨o, its.toArray, n, h1, h2, h3, by simpa using items_are r⟩
theorem dt_rd {kvs : List (List Key × V)} (ok : HOk P w H h) (e : Rd H a (.dT kvs)) : kvs.length ≤ sizeLine ∧ (a == sysModules) = false ∧
    ∃ xs, KT H kvs xs ∧ h.DictOfH (tupleKind (mixKind P w)) a xs := by
  obtain ⟨z, y, xs, r, o, es, ep, h1, h2, h3, h4, h5⟩ := (show ObjOk P w H h a (.dT kvs) from rd_of ok e)
  refine ⟨z, y, xs, r, o, es, ep, h1, h2, h3, h4, fun x hx => ?_, h5⟩
  have all : ∀ {l : List (List Key × V)} {m : List (List Key × Addr × Value)}, KT H l m → ∀ x ∈ m, (tupleKind (mixKind P w)).is h x.1 x.2.1 := by
    intro l m q
    induction q with
    | nil => intro x hx; exact nomatch hx
    | @cons p q ps qs hq t ih =>
      intro x hx
      rcases List.mem_cons.mp hx with e | hx
      · subst e
        exact key_of ok (by rw [← hq.1]; exact hq.2.1)
      · exact ih x hx
  exact all r x hx
theorem dt_of {kvs : List (List Key × V)} (ok : HOk P w H h) (e : H a = some (.dT kvs)) : kvs.length ≤ sizeLine ∧ (a == sysModules) = false ∧
    ∃ xs, KT H kvs xs ∧ h.DictOfH (tupleKind (mixKind P w)) a xs := dt_rd ok (.inl e)
end
noncomputable def DGet (H : Hp) (a : Addr) (y : V) (r : Option V) : Prop :=
  (∃ kvs k, Rd H a (.dK kvs) ∧ y = kV k ∧ r = valV kvs k) ∨ ∃ kvs k b, Rd H a (.dT kvs) ∧ y = .ref b ∧ H b = some (.tup (k.map kV)) ∧ r = valV kvs k
noncomputable def DPut (H : Hp) (a : Addr) (y v : V) (H' : Hp) : Prop :=
  (∃ kvs k, H a = some (.dK kvs) ∧ y = kV k ∧ kvs.length < sizeLine ∧ H' = upd H a (.dK (putK kvs k v))) ∨
  ∃ kvs k b, H a = some (.dT kvs) ∧ y = .ref b ∧ H b = some (.tup (k.map kV)) ∧ kvs.length < sizeLine ∧ H' = upd H a (.dT (putK kvs k v))
theorem DGet.k {H : Hp} {a : Addr} {kvs : List (Key × V)} {k : Key} (e : H a = some (.dK kvs)) : DGet H a (kV k) (valV kvs k) := .inl ⟨kvs, k, .inl e, rfl, rfl⟩
theorem DGet.t {H : Hp} {a b : Addr} {kvs : List (List Key × V)} {k : List Key} (e : H a = some (.dT kvs)) (eb : H b = some (.tup (k.map kV))) : DGet H a (.ref b) (valV kvs k) := .inr ⟨kvs, k, b, .inl e, rfl, eb, rfl⟩
theorem DPut.k {H : Hp} {a : Addr} {kvs : List (Key × V)} {k : Key} {v : V} (e : H a = some (.dK kvs)) (hl : kvs.length < sizeLine) : DPut H a (kV k) v (upd H a (.dK (putK kvs k v))) := .inl ⟨kvs, k, e, rfl, hl, rfl⟩
theorem DPut.t {H : Hp} {a b : Addr} {kvs : List (List Key × V)} {k : List Key} {v : V} (e : H a = some (.dT kvs)) (eb : H b = some (.tup (k.map kV))) (hl : kvs.length < sizeLine) :
    DPut H a (.ref b) v (upd H a (.dT (putK kvs k v))) := .inr ⟨kvs, k, b, e, rfl, eb, hl, rfl⟩
section
variable {X : Cx} {pins : List (Addr × Obj)} {σ : St} {H : Hp} {s : Shared} {a : Addr} {y v : V} {u r : Value} {o : Option V} {A : Around} {E : Value → Shared → Prop}
theorem Inv.big (I : Inv X pins σ H s) : sysModules < s.heap.objs.size := by
  have h : mainGlobals < s.heap.objs.size := (I.mod.glob.keeps I.bk).lt
  exact Nat.lt_trans (by decide) h
theorem d_getItem {Q : Value → Shared → Prop} (hu : A.units + 1 < cLine) (I : Inv X pins σ H s) (g : DGet H a y (some v)) (ry : RelV y u) (h : ∀ w' s', Inv X pins σ H s' → RelV v w' → Q w' s') :
    wpAny (model X.prog X.w) A (getItem (.ref a) u) Q E s := by
  rcases g with ⟨kvs, k, e, ey, l⟩ | ⟨kvs, k, b, e, ey, eb, l⟩
  · subst ey
    obtain ⟨z, hd, vs, rel, dd⟩ := dk_rd I.hok e
    obtain ⟨w', hw, rw'⟩ := RelO.some_of (v := v) (o := valueAt vs k) (by rw [l]; exact rel.val k)
    exact wpAny_getItem_of (kV_is ry) dd.mapOf hw (h w' _ (I.tok _) rw')
  · subst ey
    cases (show u = Value.ref b from ry)
    obtain ⟨z, hd, xs, rel, dd⟩ := dt_rd I.hok e
    obtain ⟨w', hw, rw'⟩ := RelO.some_of (v := v) (o := (atKey xs k).map (·.2)) (by rw [l]; exact rel.val k)
    obtain ⟨p, hp, hp2⟩ := Option.map_eq_some_iff.mp hw
    refine wpAny_getItem_heap (tupleKind_room_in1 hu) (key_of I.hok eb) dd hp ?_
    rw [hp2]
    exact h w' _ (I.tok _) rw'
theorem d_notIn {Q : Value → Shared → Prop} (hu : A.units + 1 < cLine) (I : Inv X pins σ H s) (g : DGet H a y o) (ry : RelV y u) (h : ∀ s', Inv X pins σ H s' → Q (.bool (!o.isSome)) s') :
    wpAny (model X.prog X.w) A (compareOp .NotIn u (.ref a)) Q E s := by
  rcases g with ⟨kvs, k, e, ey, l⟩ | ⟨kvs, k, b, e, ey, eb, l⟩
  · subst ey
    obtain ⟨z, hd, vs, rel, dd⟩ := dk_rd I.hok e
    refine wpAny_notIn_of (kV_is ry) hd dd.mapOf ?_
    rw [← (rel.val k).isSome_eq, ← l]
    exact h _ (I.tok _)
  · subst ey
    cases (show u = Value.ref b from ry)
    obtain ⟨z, hd, xs, rel, dd⟩ := dt_rd I.hok e
    refine wpAny_notIn_heap (tupleKind_room_in1 hu) (key_of I.hok eb) hd dd ?_
    have q := (rel.val k).isSome_eq
    rw [Option.isSome_map] at q
    rw [← q, ← l]
    exact h _ (I.tok _)
theorem d_write {h' : Heap} {t' : Nat} {ob : HO} (I : Inv X pins σ H s) (mu : Mut (H a)) (hs : Heap.SameBut a s.heap h') (he : ∃ q, h'.get? a = some q) (new : ObjOk X.prog X.w (upd H a ob) h' a ob) :
    Inv X pins σ (upd H a ob) { s with heap := h', toks := t' } :=
  I.write (x := a) (e := a) mu (.inl rfl) (fun b q hb z => (hs.2 b hb).trans z) he new
theorem dk_new {P : Program} {w : World} {H' : Hp} {h' : Heap} {kvs : List (Key × V)} {vs : List (Key × Value)} (z : kvs.length ≤ sizeLine) (hd : (a == sysModules) = false) (rel : KV kvs vs) (dd : h'.DictOf (mixKind P w) a vs) :
    ObjOk P w H' h' a (.dK kvs) := ⟨z, hd, vs, rel, dd⟩
theorem d_setItem {H' : Hp} {Q : Unit → Shared → Prop} (hu : A.units + 1 < cLine) (I : Inv X pins σ H s) (g : DPut H a y v H') (ry : RelV y u) (rv : RelV v r) (h : ∀ s', Inv X pins σ H' s' → Q () s') :
    wpAny (model X.prog X.w) A (setItem (.ref a) u r) Q E s := by
  rcases g with ⟨kvs, k, e, ey, l, eH⟩ | ⟨kvs, k, b, e, ey, eb, l, eH⟩
  · subst ey eH
    obtain ⟨z, hd, vs, rel, dd⟩ := dk_of I.hok e
    have hz : vs.length ≤ sizeLine := by rw [← rel.length]; exact z
    have hl : (putK kvs k v).length ≤ sizeLine := by have := length_putK kvs k v; omega
    refine wpAny_setItem_pairs (hsz := hz) (kV_is ry) dd fun h' dd' hs => h _ ?_
    have he : ∃ q, h'.get? a = some q := let ⟨q, _, _, hq, _⟩ := dd'; ⟨q, hq⟩
    exact d_write I (by rw [e]; exact True.intro) hs he (dk_new hl hd (rel.put k rv) dd')
  · subst ey eH
    cases (show u = Value.ref b from ry)
    obtain ⟨z, hd, xs, rel, dd⟩ := dt_of I.hok e
    have hz : xs.length ≤ sizeLine := by rw [← Paired.length rel]; exact z
    have hl : (putK kvs k v).length ≤ sizeLine := by have := length_putK kvs k v; omega
    refine wpAny_setItem_heap (hsz := hz) (tupleKind_room_in1 hu) (key_of I.hok eb) dd fun h' dd' hs => h _ ?_
    obtain ⟨q, es, ep, hq, h2, h3, h4, _, h5⟩ := dd'
    refine d_write I (by rw [e]; exact True.intro) hs ⟨q, hq⟩ ⟨hl, hd, _, (rel.put k eb rv).keeps fun c ys ec => ?_, q, es, ep, hq, h2, h3, h4, h5⟩
    rw [upd_ne (ne_of ec e (fun z => nomatch z))]
    exact ec
end
section
variable {X : Cx} {pins : List (Addr × Obj)} {σ : St} {H : Hp} {s : Shared} {a : Addr} {kvs : List (Key × V)} {k : Key} {u : Value} {A : Around} {E : Value → Shared → Prop}
end
noncomputable def NoSl (i : Expr) : Prop := ∀ ov iv, subscripted i false ov iv = operate [ov, iv] (getItem ov iv)
theorem subD_of {prog : Program} {w : World} {A : Around} {E : Value → Shared → Prop} {s : Shared} {env : Env} {value slice : Expr} {pos : Pos} {T id : String} {Q : Value → Shared → Prop}
    (hl : typeLookup (.type T) "__getitem__" = pure (some (.builtin id))) (hs : NoSl slice)
    (h : wpAny (model prog w) A (eval value env) (fun o s₁ => wpAny (model prog w) A (eval slice env) (fun i s₂ => s₂.TypeIs o T ∧ wpAny (model prog w) A (getItem o i) Q E s₂) E s₁) E s) :
    wpAny (model prog w) A (eval (.Subscript value slice pos) env) Q E s := by
  refine Subscript_ (wpAny_mono h (fun o s₁ h₁ => wpAny_mono h₁ (fun i s₂ h₂ => ?_) fun _ _ x => x) fun _ _ x => x)
  obtain ⟨hT, h₂⟩ := h₂
  unfold subscriptTail
  refine wpAny_bind ?_
  rw [getitemInPython_of_ne hT.not_modules]
  refine wpAny_bind (wpAny_specialOf hT hl ?_)
  have fin : wpAny (model prog w) A (subscripted slice false o i) (fun r s₃ => wpAny (model prog w) A (letTemporaryGo value o r >>= fun _ => pure r) Q E s₃) E s₂ := by
    rw [hs o i]
    exact wpAny_operating (wpAny_mono h₂ (fun r s₃ h₃ => wpAny_bind (wpAny_letTemporaryGo (wpAny_pure h₃))) fun _ _ x => x)
  first
    | exact wpAny_pure (wpAny_bind fin)
    | exact wpAny_bind (wpAny_pure (wpAny_bind fin))
    | exact wpAny_bind fin
theorem dict_typeIs {X : Cx} {pins : List (Addr × Obj)} {σ : St} {H : Hp} {s : Shared} {a : Addr} {y : V} {o : Option V} (I : Inv X pins σ H s) (g : DGet H a y o) : s.TypeIs (.ref a) "dict" := by
  rcases g with ⟨kvs, k, e, _, _⟩ | ⟨kvs, k, b, e, _, _, _⟩
  · obtain ⟨_, _, vs, _, dd⟩ := dk_rd I.hok e
    exact dd.typeIs
  · obtain ⟨_, _, xs, _, dd⟩ := dt_rd I.hok e
    exact dd.typeIs
noncomputable def tDGet (td ty : TE) : TE := fun σ H Q => td σ H fun x H1 => ty σ H1 fun y H2 => ∃ a v, x = .ref a ∧ DGet H2 a y (some v) ∧ Q v H2
noncomputable def tDNotIn (ty td : TE) : TE := fun σ H Q => ty σ H fun y H1 => td σ H1 fun x H2 => ∃ a o, x = .ref a ∧ DGet H2 a y o ∧ Q (.bl (!o.isSome)) H2
noncomputable def sDPut (td ty tv : TE) : TS := fun D σ H => tv σ H fun v H1 => td σ H1 fun x H2 => ty σ H2 fun y H3 => ∃ a H4, x = .ref a ∧ DPut H3 a y v H4 ∧ D.nx σ H4
section
variable {X : Cx} {o i e value : Expr} {pos pos' tpos : Pos} {td ty tv : TE}
theorem pe_dget (hu : X.A.units + 1 < cLine) (ho : PE X o td) (hi : PE X i ty) (hs : NoSl i) : PE X (.Subscript o i pos) (tDGet td ty) := by
  intro pins s σ H Q I h
  refine subD_of PySem.F.slot_dict_getitem.lookup hs (thn (ho pins s σ H _ I h) fun u s1 ⟨x, H1, I1, rx, q1⟩ => thn (hi pins s1 σ H1 _ I1 q1) fun iv s2 ⟨y, H2, I2, ry, a, v, ex, g, q2⟩ => ?_)
  subst ex
  obtain rfl : u = Value.ref a := rx
  exact ⟨dict_typeIs I2 g, d_getItem hu I2 g ry fun w' s3 I3 rw' => ⟨v, H2, I3, rw', q2⟩⟩
theorem pc_dnotin (hu : X.A.units + 1 < cLine) (hi : PE X i ty) (ho : PE X o td) : PC X .NotIn i o (tDNotIn ty td) := by
  intro pins s σ H Q I h
  refine thn (hi pins s σ H _ I h) fun iv s1 ⟨y, H1, I1, ry, q1⟩ => thn (ho pins s1 σ H1 _ I1 q1) fun u s2 ⟨x, H2, I2, rx, a, ov, ex, g, q2⟩ => ?_
  subst ex
  obtain rfl : u = Value.ref a := rx
  exact d_notIn hu I2 g ry fun s3 I3 => ⟨.bl (!ov.isSome), H2, I3, rfl, q2⟩
theorem ps_dput (hu : X.A.units + 1 < cLine) (ho : PE X o td) (hi : PE X i ty) (hv : PE X value tv) (hs : swapsWith value (some (.Subscript o i pos')) pos.line X.env = pure false) :
    PS X (.Assign [.Subscript o i pos'] value pos) (sDPut td ty tv) := by
  intro pins s σ H D I h
  refine wpAny_Assign_Subscript (thn (hv pins s σ H _ I h) fun r s1 ⟨v, H1, I1, rv, q1⟩ => thn (ho pins s1 σ H1 _ I1 q1) fun u s2 ⟨x, H2, I2, rx, q2⟩ => thn (hi pins s2 σ H2 _ I2 q2) fun iv s3 ⟨y, H3, I3, ry, a, H4, ex, g, q3⟩ => ?_) hs
  subst ex
  obtain rfl : u = Value.ref a := rx
  exact d_setItem hu I3 g ry rv fun s4 I4 => ⟨σ, H4, I4, q3⟩
end
theorem dt_empty {P : Program} {w : World} {H : Hp} (h : Heap) (hb : sysModules < h.objs.size) : ObjOk P w H (h.push { cls := .type "dict", data := .dict #[] }) h.objs.size (.dT []) :=
  ⟨Nat.zero_le _, beq_eq_false_iff_ne.mpr (Ne.symm (Nat.ne_of_lt hb)), [], .nil, _, #[], 0, Heap.get?_push_size _ rfl, ⟨rfl, rfl, rfl⟩, rfl, rfl, List.nodup_nil⟩
noncomputable def tDNewT : TE := fun _ H Q => ∀ p, H p = none → Q (.ref p) (upd H p (.dT []))
section
variable {X : Cx} {pos : Pos}
theorem pe_dnewT : PE X (.Dict [] [] pos) tDNewT := fun pins s σ H Q I h =>
  wpAny_Dict_empty ⟨.ref s.heap.objs.size, _, I.laid (a := s.heap.objs.size) (o := .dT []) (t' := s.toks) (fun _ _ q => Heap.get?_push_of_some _ q) (Nat.le_refl _) (dt_empty s.heap I.big), rfl, h _ (I.hok.fresh (Nat.le_refl _))⟩
end
section
variable {X : Cx} {pins : List (Addr × Obj)} {σ : St} {H : Hp} {s : Shared} {a : Addr} {y d : V} {u r : Value} {o : Option V} {A : Around} {E : Value → Shared → Prop}
end
section
variable {X : Cx} {o e f : Expr} {apos cpos : Pos} {td ty tx : TE}
end
section
variable {X : Cx} {pins : List (Addr × Obj)} {σ : St} {H : Hp} {s : Shared} {a : Addr} {kvs : List (Key × V)} {A : Around} {E : Value → Shared → Prop}
end
section
variable {X : Cx} {pins : List (Addr × Obj)} {σ : St} {H : Hp} {s : Shared} {a : Addr} {y : V} {u : Value} {A : Around} {E : Value → Shared → Prop}
end
end L2
set_option Elab.async false
set_option maxRecDepth 100000
namespace L2
open PySem PySem.Spec PyProof.Rows
end L2
set_option Elab.async false
set_option maxRecDepth 100000
namespace L2
open PySem PySem.Spec PyProof.Rows
noncomputable def clOf (scope : Scope) (env : Env) : List (Str × Addr) :=
  (scope.names.filterMap fun p => if p.2 == NameKind.free then (env.cells.lookup p.1).map fun c => (p.1, c) else none).reverse
theorem closure_loop {env : Env} : ∀ (names : List (Str × NameKind)) (acc : List (Str × Addr)), (∀ y ∈ names, y.2 = .free → ∃ c, env.cells.lookup y.1 = some c) →
    (forIn names acc fun (x : Str × NameKind) (cs : List (Str × Addr)) => (match x with
      | (name, kind) => if (kind == NameKind.free) = true then do
          let c ← cellOf env name
          pure (ForInStep.yield ((name, c) :: cs))
        else pure (ForInStep.yield cs) : Sem (ForInStep (List (Str × Addr))))) =
      pure ((names.filterMap fun p => if p.2 == NameKind.free then (env.cells.lookup p.1).map fun c => (p.1, c) else none).reverse ++ acc)
  | [], acc, _ => rfl
  | (n, k) :: r, acc, h => by
    rw [List.forIn_cons]
    by_cases hk : k = .free
    · subst hk
      obtain ⟨c, hc⟩ := h (n, .free) List.mem_cons_self rfl
      have e1 : cellOf env n = pure c := by unfold cellOf; rw [hc]
      have ih := closure_loop r ((n, c) :: acc) fun y hy => h y (List.mem_cons_of_mem _ hy)
      simp only [beq_self_eq_true, if_true, e1, pure_bind, List.filterMap_cons, hc, Option.map_some, List.reverse_cons, List.append_assoc, List.singleton_append]
      exact ih
    · have hb : (k == NameKind.free) = false := by simpa using hk
      have ih := closure_loop r acc fun y hy => h y (List.mem_cons_of_mem _ hy)
      simp only [hb, Bool.false_eq_true, if_false, pure_bind, List.filterMap_cons]
      exact ih
theorem closureFor_eq {scope : Scope} {env : Env} (h : ∀ y ∈ scope.names, y.2 = .free → ∃ c, env.cells.lookup y.1 = some c) : closureFor scope env = pure (clOf scope env) := by
  have e := closure_loop (env := env) scope.names [] h
  unfold closureFor
  rw [List.append_nil] at e
  exact (congrArg (· >>= pure) e).trans (by rfl)
theorem clOf_mem {scope : Scope} {env : Env} {y : Str} {c : Addr} (h : (y, c) ∈ clOf scope env) : (y, NameKind.free) ∈ scope.names ∧ env.cells.lookup y = some c := by
  unfold clOf at h
  obtain ⟨⟨n, k⟩, hp, e⟩ := List.mem_filterMap.mp (List.mem_reverse.mp h)
  by_cases hk : k = .free
  · subst hk
    simp only [beq_self_eq_true, if_true] at e
    cases hc : env.cells.lookup n with
    | none => rw [hc] at e; cases e
    | some c' =>
      rw [hc] at e
      have e' : (n, c') = (y, c) := Option.some.inj e
      cases e'
      exact ⟨hp, hc⟩
  · have hb : (k == NameKind.free) = false := by simpa using hk
    simp only [hb, Bool.false_eq_true, if_false] at e
    cases e
theorem clOf_sub {scope : Scope} {env : Env} {y : Str} {c : Addr} (h : (clOf scope env).lookup y = some c) : env.cells.lookup y = some c := (clOf_mem (PySem.mem_of_lookup h)).2
theorem lookup_of_mem {α : Type} {y : Str} : ∀ {l : List (Str × α)} {c : α}, (y, c) ∈ l → ∃ c', l.lookup y = some c'
  | (n, a) :: r, c, h => by
    by_cases e : y = n
    · subst e; exact ⟨a, by simp [List.lookup_cons]⟩
    · have hb : (y == n) = false := by simpa using e
      rcases List.mem_cons.mp h with h | h
      · cases h; exact absurd rfl e
      · obtain ⟨c', h'⟩ := lookup_of_mem h
        exact ⟨c', by simp [List.lookup_cons, hb, h']⟩
theorem clOf_has {scope : Scope} {env : Env} {y : Str} {c : Addr} (h1 : (y, NameKind.free) ∈ scope.names) (h2 : env.cells.lookup y = some c) : (clOf scope env).lookup y = some c := by
  have m : (y, c) ∈ clOf scope env := by
    unfold clOf
    exact List.mem_reverse.mpr (List.mem_filterMap.mpr ⟨(y, .free), h1, by simp [h2]⟩)
  obtain ⟨c', h'⟩ := lookup_of_mem m
  have := clOf_sub h'
  rw [h2] at this
  cases this
  exact h'
theorem relabel_free {scope : Scope} {env : Env} (hcell : ∀ y ∈ scope.names, y.2 ≠ .cell) {y : Str} (h : (relabel scope env).names.lookup y = some .cell ∨ (relabel scope env).names.lookup y = some .free) : (y, NameKind.free) ∈ scope.names := by
  have m : ∃ k, (k = .cell ∨ k = .free) ∧ (y, k) ∈ (relabel scope env).names := by
    rcases h with h | h
    · exact ⟨_, .inl rfl, PySem.mem_of_lookup h⟩
    · exact ⟨_, .inr rfl, PySem.mem_of_lookup h⟩
  obtain ⟨k, hk, hm⟩ := m
  unfold relabel at hm
  obtain ⟨⟨n, k'⟩, hp, e⟩ := List.mem_map.mp hm
  dsimp only at e
  by_cases hf : k' = .free
  · subst hf
    split at e <;> (cases e; exact hp)
  · have hb : (k' == NameKind.free) = false := by simpa using hf
    rw [hb, Bool.false_and, Bool.false_and, if_neg (by decide)] at e
    cases e
    rcases hk with hk | hk
    · exact absurd hk (hcell _ hp)
    · exact absurd hk hf
noncomputable def cxComp (X : Cx) (N : List Str) (scope : Scope) (C : Addr) (s : Shared) (H : Hp) (fp : List Addr) : Cx where
  prog := X.prog
  w := X.w
  K := X.K
  mg := X.mg
  base := X.base
  A := X.A
  N := N
  s₀ := s
  H₀ := H
  env := compEnvC scope (clOf scope X.env) C X.env
  outer := X.stack
  stack := X.stack
  ex := fp
  fn := fun _ => false
  calm := true
  pn := []
  xe := fun _ _ => False
noncomputable def Caps (X : Cx) (scope : Scope) : List Str → List Nat → Prop
  | [], [] => True
  | x :: xs, i :: is => (X.N[i]? = some x ∧ (X.env.scope.names.lookup x = some .cell ∨ X.env.scope.names.lookup x = some .free) ∧ scope.names.lookup x = some .free) ∧ Caps X scope xs is
  | _, _ => False
theorem Caps.len {X : Cx} {scope : Scope} : ∀ {xs : List Str} {is : List Nat}, Caps X scope xs is → is.length = xs.length
  | [], [], _ => rfl
  | _ :: _, _ :: _, h => congrArg (· + 1) (Caps.len h.2)
  | [], _ :: _, h => h.elim
  | _ :: _, [], h => h.elim
theorem Caps.at {X : Cx} {scope : Scope} : ∀ {xs : List Str} {is : List Nat} {j : Nat} {x : Str}, Caps X scope xs is → xs[j]? = some x → ∃ i, is[j]? = some i ∧ X.N[i]? = some x ∧ (X.env.scope.names.lookup x = some .cell ∨ X.env.scope.names.lookup x = some .free) ∧ scope.names.lookup x = some .free
  | [], [], _, _, _, e => by simp at e
  | y :: _, i :: _, 0, x, h, e => by
    simp at e; subst e
    exact ⟨i, rfl, h.1⟩
  | _ :: xs, _ :: is, j + 1, x, h, e => by
    obtain ⟨i, h1, h2⟩ := Caps.at (j := j) h.2 (by simpa using e)
    exact ⟨i, by simpa using h1, h2⟩
  | [], _ :: _, _, _, h, _ => h.elim
  | _ :: _, [], _, _, h, _ => h.elim
noncomputable def inner (cap : List Nat) (σ : St) : St := none :: cap.map fun i => (σ[i]?).join
noncomputable def PTs (X : Cx) (ifs : List Expr) (t : TT) : Prop :=
  ∀ (pins : List (Addr × Obj)) (s : Shared) (σ : St) (H : Hp) (Q : Bool → Hp → Prop), Inv X pins σ H s → t σ H Q →
    wpAny (model X.prog X.w) X.A (forIn ifs true fun c r => if r = true then do let ok ← isTrue c X.env (eval c X.env); pure (ForInStep.yield ok) else pure (ForInStep.yield r)) (TP X pins σ Q) X.xe s
noncomputable def tYes : TT := fun _ H Q => Q true H
theorem pts_nil {X : Cx} : PTs X [] tYes := fun _ _ _ H _ I h => wpAny_tests_nil ⟨H, I, h⟩
theorem pts_one {X : Cx} {c : Expr} {t : TT} (h : PT X c t) : PTs X [c] t := fun pins s σ H Q I q => wpAny_tests_one (h pins s σ H Q I q)
theorem compLoop_any {prog : Program} {w : World} {A : Around} {R : Result → Shared → Prop} {s : Shared} {elt target iter : Expr} {ifs : List Expr} {scope : Scope} {pos : Pos} {it acc : Value} {env : Env} (I : Nat → Shared → Prop)
    (turn : ∀ n s, I n s → wpAny (model prog w) A (pyNext it) (fun r s₁ => match r with
      | none => R (.ok .next) s₁
      | some v => wpAny (model prog w) A (letOwnedTupleGo target it v) (fun _ s₁' => wpAny (model prog w) A (assign target env v) (fun _ s₂ =>
          wpAny (model prog w) A (forIn ifs true fun c r => if r = true then do let ok ← isTrue c env (eval c env); pure (ForInStep.yield ok) else pure (ForInStep.yield r)) (fun ok s₃ =>
            if ok = true then wpAny (model prog w) A (eval elt env) (fun x s₄ =>
              wpAny (model prog w) A (call (.builtin "list.append") [acc, x]) (fun _ s₅ => ∃ m, m < n ∧ I m s₅) (fun _ _ => False) s₄) (fun _ _ => False) s₃
            else ∃ m, m < n ∧ I m s₃) (fun _ _ => False) s₂) (fun _ _ => False) s₁') (fun _ _ => False) s₁) (fun _ _ => False) s)
    (n : Nat) (h : I n s) :
    codeAny (model prog w) A (.compLoop (.ListComp elt [⟨target, iter, ifs, 0⟩] scope pos) 0 it acc env) R s := by
  refine codeAny_loop rfl I (fun n s hI => ?_) n h
  show wpAny _ A ((compTurn (.ListComp elt [⟨target, iter, ifs, 0⟩] scope pos) 0 it acc env).onRaise (fun x => do noteFrame x env; theTreesLotGoes x)) _ _ s
  refine wpAny_noted ?_
  rw [compTurn_list]
  refine wpAny_bind (wpAny_standAt (wpAny_bind (wpAny_mono (turn n s hI) (fun r s₁ h₁ => ?_) fun _ _ h' => h'.elim)))
  cases r with
  | none => exact wpAny_pure h₁
  | some v =>
    refine wpAny_bind (wpAny_mono h₁ (fun _ s₁' h₁' => ?_) fun _ _ h' => h'.elim)
    refine wpAny_bind (wpAny_mono h₁' (fun _ s₂ h₂ => wpAny_bind (wpAny_mono h₂ (fun ok s₃ h₃ => ?_) fun _ _ h' => h'.elim)) fun _ _ h' => h'.elim)
    cases ok with
    | false => exact wpAny_pure ⟨rfl, h₃⟩
    | true =>
      exact wpAny_bind (wpAny_bind (wpAny_mono h₃ (fun x s₄ h₄ => wpAny_bind (wpAny_mono h₄ (fun _ s₅ h₅ => wpAny_pure (wpAny_pure ⟨rfl, h₅⟩)) fun _ _ h' => h'.elim)) fun _ _ h' => h'.elim))
noncomputable def tComp (cap : List Nat) (wi : TI) (tc : TT) (te : TE) : TE := fun σ H Q => wi σ H fun J H1 => ∀ p, H1 p = none →
  ∃ W : Nat → Nat → List V → Hp → Prop, (∃ m, W 0 m [] (upd H1 p (.lst []))) ∧ ∀ i m xs H2, W i m xs H2 →
    (J.stop i H2 ∧ Q (.ref p) H2) ∨ (J.go i H2 ∧ ∃ N : List V → Hp → Prop, (∀ xs' H', N xs' H' → ∃ m', m' < m ∧ W (i + 1) m' xs' H') ∧
      ∀ x H3, J.yld i H2 x H3 → tc ((inner cap σ).set 0 (some x)) H3 fun b H5 => if b = true then te ((inner cap σ).set 0 (some x)) H5 fun v H6 => H6 p = some (.lst xs) ∧ xs.length < sizeLine ∧ N (xs ++ [v]) (upd H6 p (.lst (xs ++ [v]))) else N xs H5)
section
variable {X : Cx} {pins : List (Addr × Obj)} {σ : St}
structure CompScope (X : Cx) (scope : Scope) : Prop where
  cell : ∀ y ∈ scope.names, y.2 ≠ .cell
  kind : scope.kind = .function
  names : ∀ y ∈ scope.names, y.2 = .local → scope.names.lookup y.1 = some .local
  free : ∀ y ∈ scope.names, y.2 = .free → X.env.scope.names.lookup y.1 = some .cell ∨ X.env.scope.names.lookup y.1 = some .free
theorem CompScope.clos {scope : Scope} {H : Hp} {s : Shared} (S : CompScope X scope) (I : Inv X pins σ H s) : closureFor scope X.env = pure (clOf scope X.env) :=
  closureFor_eq fun y hy hf => I.ok.has y.1 (S.free y hy hf)
theorem comp_out {scope : Scope} {N : List Str} {C : Addr} {s3 s' : Shared} {H2 H3 Hf : Hp} {fp : List Addr} {pins' : List (Addr × Obj)} {σ' : St} (I : Inv X pins σ H3 s3) (J : Inv (cxComp X N scope C s3 H3 fp) pins' σ' Hf s') (f2 : ∀ b ∈ fp, FpOk X pins H2 b) : Inv X pins σ Hf s' :=
  I.call' (ch := fp) J.os J.base J.hok J.bare fun b hb => ⟨(f2 b hb).2.2.2.1, (f2 b hb).2.1, (f2 b hb).2.2.2.2.1, (f2 b hb).2.2.2.2.2⟩
end
noncomputable def innerN (n : Nat) (cap : List Nat) (σ : St) : St := List.replicate n none ++ cap.map fun i => (σ[i]?).join
noncomputable def GAt (n : Nat) (g : TG) : Prop := ∀ v σ H Q, g v σ H Q → g v σ H fun σ2 H2 => (σ2.length = σ.length ∧ ∀ j, n ≤ j → σ2[j]? = σ[j]?) ∧ Q σ2 H2
noncomputable def tCompN (g : TG) (n : Nat) (cap : List Nat) (wi : TI) (tc : TT) (te : TE) : TE := fun σ H Q => wi σ H fun J H1 => ∀ p, H1 p = none →
  ∃ W : Nat → Nat → List V → Hp → Prop, (∃ m, W 0 m [] (upd H1 p (.lst []))) ∧ ∀ i m xs H2, W i m xs H2 →
    (J.stop i H2 ∧ Q (.ref p) H2) ∨ (J.go i H2 ∧ ∃ N : List V → Hp → Prop, (∀ xs' H', N xs' H' → ∃ m', m' < m ∧ W (i + 1) m' xs' H') ∧
      ∀ x H3, J.yld i H2 x H3 → g x (innerN n cap σ) H3 fun σ2 H4 => tc σ2 H4 fun b H5 => if b = true then te σ2 H5 fun v H6 => H6 p = some (.lst xs) ∧ xs.length < sizeLine ∧ N (xs ++ [v]) (upd H6 p (.lst (xs ++ [v]))) else N xs H5)
section
variable {X : Cx} {pins : List (Addr × Obj)} {σ : St}
theorem comp_startN {scope : Scope} {xn : List Str} {cn : List Str} {cap : List Nat} {s3 : Shared} {H3 : Hp} {fp : List Addr} {h₁ : Heap} {tk : Nat} {H2 : Hp} (S : CompScope X scope) (I : Inv X pins σ H3 s3) (hc : X.calm = true) (hcap : Caps X scope cn cap)
    (f2 : ∀ b ∈ fp, FpOk X pins H2 b) (lt : ∀ b ∈ fp, b < s3.heap.objs.size) (keep : ∀ b o, s3.heap.get? b = some o → h₁.get? b = some o) (hns : h₁.Ns s3.heap.objs.size fun _ => none) :
    Inv (cxComp X (xn ++ cn) scope s3.heap.objs.size s3 H3 fp) [] (innerN xn.length cap σ) H3 { s3 with heap := h₁, toks := tk } := by
  have noS : ∀ b o, X.base.get? b = some o → b < X.s₀.heap.objs.size := fun b o e => Nat.lt_of_lt_of_le (Heap.lt_size e) I.ok.bsz
  refine ⟨⟨I.ok.mod, S.kind, I.ok.glob, I.ok.blt, Nat.le_refl _, fun y z c h1 h2 => I.ok.inj y z c (clOf_sub h1) (clOf_sub h2), fun y hy => ?_, fun y c h => ?_, fun _ => I.ok.hd hc, I.ok.frames, .inl rfl, fun b hb => ⟨Nat.ne_of_lt (lt b hb), fun y c h => (f2 b hb).2.2.2.2.1 y c (clOf_sub h)⟩,
    I.bs, Nat.le_trans I.ok.bsz I.sz, fun b o e hb => ?_, fun b hb z => ?_, I.stack, I.stkFree⟩, rfl, I.bare, Un.kept keep, ⟨_, hns, fun i y v e1 e2 e3 => ?_⟩, fun y c e => ?_, I.hok.fresh (Nat.le_refl _), fun y c e => I.freeC y c (clOf_sub e), fun p hp => absurd (show p ∈ ([] : List (Addr × Obj)) from hp) (by simp), I.hok.kept keep, ?_⟩
  · have m := relabel_free S.cell hy
    obtain ⟨c, hc'⟩ := I.ok.has y (S.free _ m rfl)
    exact ⟨c, clOf_has m hc'⟩
  · cases h
  · rcases (f2 b hb).2.2.2.1 with z | z
    · exact I.ok.noex b o e z
    · exact absurd (Nat.lt_of_lt_of_le (noS b o e) z) (Nat.lt_irrefl _)
  · rcases List.mem_cons.mp (I.stkSub b z) with e | e
    · exact (f2 b hb).2.1 e
    · exact (f2 b hb).2.2.1 e
  · by_cases hi : i < xn.length
    · exfalso
      unfold innerN at e2
      rw [List.getElem?_append_left (by rw [List.length_replicate]; exact hi), List.getElem?_replicate, if_pos hi] at e2
      cases e2
    · obtain ⟨j, rfl⟩ : ∃ j, i = xn.length + j := ⟨i - xn.length, by omega⟩
      have e1 : (xn ++ cn)[xn.length + j]? = some y := e1
      rw [List.getElem?_append_right (by omega), Nat.add_sub_cancel_left] at e1
      have e2 : (innerN xn.length cap σ)[xn.length + j]? = some (some v) := e2
      unfold innerN at e2
      rw [List.getElem?_append_right (by rw [List.length_replicate]; omega), List.length_replicate, Nat.add_sub_cancel_left] at e2
      have e1 : cn[j]? = some y := e1
      obtain ⟨k, hk, hN, hkind, hfr⟩ := hcap.at e1
      have e2 : (cap.map fun i => (σ[i]?).join)[j]? = some (some v) := e2
      rw [List.getElem?_map, hk] at e2
      have e2 : (σ[k]?).join = some v := Option.some.inj e2
      have e2 : σ[k]? = some (some v) := by
        cases q : σ[k]? with
        | none => rw [q] at e2; cases e2
        | some o => rw [q] at e2; cases o with
          | none => cases e2
          | some v' => have e2 : some v' = some v := e2; rw [e2]
      obtain ⟨m, hn, hl⟩ := I.loc
      obtain ⟨u, r, l⟩ := hl k y v hN e2 (.inr hkind)
      refine ⟨u, r, ?_⟩
      rcases l with ⟨kl, _⟩ | ⟨_, c, hc', o, ho, hd⟩
      · have kl : X.env.scope.names.lookup y = some .local := kl
        rw [kl] at hkind
        rcases hkind with z | z <;> cases z
      · refine .inr ⟨?_, c, clOf_has (PySem.mem_of_lookup hfr) hc', o, keep c o ho, hd⟩
        rcases e3 with z | z
        ·
          exfalso
          have z : (relabel scope X.env).names.lookup y = some .local := z
          have hm := PySem.mem_of_lookup z
          unfold relabel at hm
          obtain ⟨⟨n, k'⟩, hp, e⟩ := List.mem_map.mp hm
          dsimp only at e
          have hl2 : (y, NameKind.local) ∈ scope.names := by
            split at e
            · cases e
            · cases e; exact hp
          have := S.names _ hl2 rfl
          rw [hfr] at this
          cases this
        · exact z
  · obtain ⟨v, o, ho, hd⟩ := I.cell y c (clOf_sub e)
    exact ⟨v, o, keep c o ho, hd⟩
  · show (innerN xn.length cap σ).length = (xn ++ cn).length
    unfold innerN
    rw [List.length_append, List.length_append, List.length_replicate, List.length_map, hcap.len]
theorem comp_coreN {scope : Scope} {xn : List Str} {pos : Pos} {tg : Expr} {g : TG} {elt iter : Expr} {ifs : List Expr} {cn : List Str} {cap : List Nat} {s2 : Shared} {H2 : Hp} {it : Addr} {fp : List Addr} {tn : Nat → Heap → Prop} {J : It} {tc : TT} {te : TE} {Q : VK} {RR : Value → Addr → Result → Shared → Prop} {E : Value → Shared → Prop}
    (S : CompScope X scope) (I2 : Inv X pins σ H2 s2) (hc : X.calm = true) (hcap : Caps X scope cn cap) (gat : GAt xn.length g) (hg : ∀ (C : Addr) (s : Shared) (H : Hp) (fp : List Addr), PG (cxComp X (xn ++ cn) scope C s H fp) tg g) (hnd : (xn ++ cn).Nodup)
    (T : Turn X.prog X.w X.K tg J fp it tn) (st2 : tn 0 s2.heap) (f2 : ∀ b ∈ fp, FpOk X pins H2 b)
    (body : ∀ (C : Addr) (s : Shared) (H : Hp) (fp : List Addr), PTs (cxComp X (xn ++ cn) scope C s H fp) ifs tc ∧ PE (cxComp X (xn ++ cn) scope C s H fp) elt te)
    (q : ∀ p, H2 p = none → ∃ W : Nat → Nat → List V → Hp → Prop, (∃ m, W 0 m [] (upd H2 p (.lst []))) ∧ ∀ i m xs H3, W i m xs H3 →
      (J.stop i H3 ∧ Q (.ref p) H3) ∨ (J.go i H3 ∧ ∃ N : List V → Hp → Prop, (∀ xs' H', N xs' H' → ∃ m', m' < m ∧ W (i + 1) m' xs' H') ∧
        ∀ v H4, J.yld i H3 v H4 → g v (innerN xn.length cap σ) H4 fun σ2 H4 => tc σ2 H4 fun b H5 => if b = true then te σ2 H5 fun v H6 => H6 p = some (.lst xs) ∧ xs.length < sizeLine ∧ N (xs ++ [v]) (upd H6 p (.lst (xs ++ [v]))) else N xs H5))
    (hRR : ∀ (p C : Addr) (s3 s' : Shared) (H3 Hf : Hp) (σ' : St), Inv X pins σ H3 s3 → s3.heap.objs.size = C → Inv (cxComp X (xn ++ cn) scope C s3 H3 fp) [] σ' Hf s' → Q (.ref p) Hf → RR (.ref p) C (.ok .next) s') :
    wpAny (model X.prog X.w) X.A (newList []) (fun acc s₃ => wpAny (model X.prog X.w) X.A (newFunctionEnv scope X.env.globals (clOf scope X.env) [] X.env.qual none .none (some X.env)) (fun cenv s₄ =>
      codeAny (model X.prog X.w) X.A (.compStart (.ListComp elt [⟨tg, iter, ifs, 0⟩] scope pos) 0 (.ref it) acc { cenv with scope := relabel scope X.env }) (RR acc cenv.locals) s₄) E s₃) E s2 := by
  refine wpAny_newObj_type (wpAny_newFunctionEnv S.cell (by intro y hy; simp at hy) (fun h₁ hns₁ hsb₁ => ?_) S.kind)
  dsimp only at hns₁ hsb₁ ⊢
  have hfr : H2 s2.heap.objs.size = none := I2.hok.fresh (Nat.le_refl _)
  obtain ⟨W, ⟨m0, w0⟩, turn⟩ := q _ hfr
  have I3 : Inv X pins σ (upd H2 s2.heap.objs.size (.lst [])) { s2 with heap := s2.heap.push { cls := .type "list", data := .seq ([] : List Value).toArray } } :=
    I2.lnew (its := []) (t' := s2.toks) .nil (Nat.zero_le _)
  generalize hs3 : ({ s2 with heap := s2.heap.push { cls := .type "list", data := .seq ([] : List Value).toArray } } : Shared) = s3 at I3
  have hs3h : s3.heap = s2.heap.push { cls := .type "list", data := .seq ([] : List Value).toArray } := by rw [← hs3]
  have hst3 : tn 0 s3.heap := T.keep _ _ _ st2 fun b hb o e => by rw [hs3h]; exact Heap.get?_push_of_some _ e
  have ltf : ∀ b ∈ fp, b < s3.heap.objs.size := fun b hb => by
    obtain ⟨o, e, _⟩ := T.obj _ _ hst3 b hb
    exact Heap.lt_size e
  have hC : (s2.heap.push { cls := .type "list", dict := none, data := .seq ([] : List Value).toArray }).objs.size = s3.heap.objs.size := by rw [hs3h]
  rw [hC] at hns₁ hsb₁ ⊢
  have keep : ∀ b o, s3.heap.get? b = some o → h₁.get? b = some o := fun b o e => by
    refine hsb₁.extBut b o (Nat.ne_of_lt (Heap.lt_size e)) (Heap.get?_push_of_some _ ?_)
    rw [hs3h] at e
    exact e
  have J4 : Inv (cxComp X (xn ++ cn) scope s3.heap.objs.size s3 (upd H2 s2.heap.objs.size (.lst [])) fp) [] (innerN xn.length cap σ) (upd H2 s2.heap.objs.size (.lst [])) { s3 with heap := h₁, toks := s2.toks + ([] : List (Str × Value)).length } :=
    comp_startN S I3 hc hcap f2 ltf keep hns₁
  have st4 : tn 0 h₁ := T.keep _ _ _ hst3 fun b hb o e => keep b o e
  have fr4 : ∀ b ∈ fp, (upd H2 s2.heap.objs.size (.lst [])) b = none := fun b hb => by
    obtain ⟨o, e, _⟩ := T.obj _ _ st2 b hb
    rw [upd_ne (Nat.ne_of_lt (Heap.lt_size e))]
    exact (f2 b hb).1
  have hst : ({ s2 with heap := h₁, toks := s2.toks + ([] : List (Str × Value)).length } : Shared) = { s3 with heap := h₁, toks := s2.toks + ([] : List (Str × Value)).length } := by rw [← hs3]
  have loop : codeAny (model X.prog X.w) X.A (.compLoop (.ListComp elt [⟨tg, iter, ifs, 0⟩] scope pos) 0 (.ref it) (.ref s2.heap.objs.size) (compEnvC scope (clOf scope X.env) s3.heap.objs.size X.env))
      (RR (.ref s2.heap.objs.size) s3.heap.objs.size) { s2 with heap := h₁, toks := s2.toks + ([] : List (Str × Value)).length } := by
    rw [hst]
    generalize hX' : cxComp X (xn ++ cn) scope s3.heap.objs.size s3 (upd H2 s2.heap.objs.size (.lst [])) fp = X' at J4
    have hfpk : ∀ {Hc : Hp}, (∀ b ∈ fp, Hc b = none) → ∀ b ∈ fp, FpOk X' [] Hc b := fun {Hc} hn b hb => by
      subst hX'
      refine ⟨hn b hb, (J4.ok.exf b hb).1, J4.ok.exfs b hb, .inl hb, (J4.ok.exf b hb).2, fun p hp => absurd (show p ∈ ([] : List (Addr × Obj)) from hp) (by simp)⟩
    refine compLoop_any (fun n s' => ∃ i xs Hc, Inv X' [] (innerN xn.length cap σ) Hc s' ∧ tn i s'.heap ∧ (∀ b ∈ fp, Hc b = none) ∧ W i n xs Hc) ?_ m0 ⟨0, [], _, J4, st4, fr4, w0⟩
    rintro n s5 ⟨i, xs, Hc, I5, st5, fr5, w5⟩
    have B := body s3.heap.objs.size s3 (upd H2 s2.heap.objs.size (.lst [])) fp
    rcases turn i n xs Hc w5 with ⟨stop, qn⟩ | ⟨go, N, hN, step⟩
    · subst hX'
      refine thn (T.done (cxComp X (xn ++ cn) scope s3.heap.objs.size s3 (upd H2 s2.heap.objs.size (.lst [])) fp) rfl rfl rfl rfl i [] s5 (innerN xn.length cap σ) Hc (fun _ _ => False) I5 (hfpk fr5) st5 stop) fun r s6 ⟨hr, I6⟩ => ?_
      subst hr
      exact hRR _ _ s3 s6 _ Hc _ I3 rfl I6 qn
    · subst hX'
      refine thn (T.item (cxComp X (xn ++ cn) scope s3.heap.objs.size s3 (upd H2 s2.heap.objs.size (.lst [])) fp) rfl rfl rfl rfl i [] s5 (innerN xn.length cap σ) Hc (fun _ _ => False) I5 (hfpk fr5) st5 go) fun r s6 ⟨u, hr, h6⟩ => ?_
      subst hr
      refine thn h6 fun _ s7 ⟨v, H7, I7, r7, y7, st7, fr7⟩ => ?_
      have I7' := I7.pinned (hfpk fr7) (T.obj _ _ st7)
      have hg := hg s3.heap.objs.size s3 (upd H2 s2.heap.objs.size (.lst [])) fp
      refine thn (hg _ s7 _ H7 v u _ I7' r7 (gat v (innerN xn.length cap σ) H7 _ (step v H7 y7))) fun _ s8 ⟨σ8, H8, I8, e8, q8⟩ => ?_
      have again : ∀ {s9 : Shared} {H9 : Hp} {ys : List V}, Inv (cxComp X (xn ++ cn) scope s3.heap.objs.size s3 (upd H2 s2.heap.objs.size (.lst [])) fp) ([] ++ pinsAt fp s7.heap) σ8 H9 s9 → N ys H9 →
          ∃ m, m < n ∧ ∃ i xs Hc, Inv (cxComp X (xn ++ cn) scope s3.heap.objs.size s3 (upd H2 s2.heap.objs.size (.lst [])) fp) [] (innerN xn.length cap σ) Hc s9 ∧ tn i s9.heap ∧ (∀ b ∈ fp, Hc b = none) ∧ W i m xs Hc := fun {s9 H9 ys} I9 n9 => by
        obtain ⟨m', hm, w9⟩ := hN ys H9 n9
        refine ⟨m', hm, i + 1, ys, H9, (I9.unpinned (pins := [])).weak e8.1.symm (fun j w e => ?_), T.keep _ _ _ st7 fun b hb o e => (I9.pin (b, o) (List.mem_append_right _ (List.mem_append_right _ (mem_pinsAt hb e)))).1, fun b hb => ?_, w9⟩
        · by_cases hj : j < xn.length
          · exfalso
            unfold innerN at e
            rw [List.getElem?_append_left (by rw [List.length_replicate]; exact hj), List.getElem?_replicate, if_pos hj] at e
            cases e
          · rw [e8.2 j (by omega)]
            exact e
        · obtain ⟨o, e, _⟩ := T.obj _ _ st7 b hb
          exact (I9.pin (b, o) (List.mem_append_right _ (List.mem_append_right _ (mem_pinsAt hb e)))).2.1
      refine thn (B.1 _ s8 _ H8 _ I8 q8) fun ok s9 ⟨H9, I9, q9⟩ => ?_
      cases ok with
      | false =>
        rw [if_neg Bool.false_ne_true] at q9 ⊢
        exact again I9 q9
      | true =>
        rw [if_pos rfl] at q9 ⊢
        refine thn (B.2 _ s9 _ H9 _ I9 q9) fun uy s10 ⟨y, H10, I10, r10, hp, hl, n10⟩ => ?_
        refine thn (mt_append _ s10 _ H10 (.ref s2.heap.objs.size) [y] (.ref s2.heap.objs.size) [uy] (fun _ H11 => N (xs ++ [y]) H11) I10 rfl (.cons r10 .nil) ⟨_, xs, y, rfl, rfl, hp, hl, n10⟩) fun _ s11 ⟨_, H11, I11, _, n11⟩ => ?_
        exact again I11 n11
  exact codeAny_compStart_list loop (T.self _ _ _ _ _ st4 loop)
theorem pe_compN {scope : Scope} {xn : List Str} {pos : Pos} {tg : Expr} {g : TG} {elt iter : Expr} {ifs : List Expr} {cn : List Str} {cap : List Nat} {wi : TI} {tc : TT} {te : TE}
    (hc : X.calm = true) (S : CompScope X scope) (gat : GAt xn.length g) (hg : ∀ (C : Addr) (s : Shared) (H : Hp) (fp : List Addr), PG (cxComp X (xn ++ cn) scope C s H fp) tg g) (hnd : (xn ++ cn).Nodup) (hcap : Caps X scope cn cap) (hi : PI X tg iter wi)
    (body : ∀ (C : Addr) (s : Shared) (H : Hp) (fp : List Addr), PTs (cxComp X (xn ++ cn) scope C s H fp) ifs tc ∧ PE (cxComp X (xn ++ cn) scope C s H fp) elt te)
    (hs : ∀ x, foldedSetIterable iter X.env x = pure x := by intro _; rfl) : PE X (.ListComp elt [⟨tg, iter, ifs, 0⟩] scope pos) (tCompN g xn.length cap wi tc te) := by
  intro pins s σ H Q I h
  rw [eval_ListComp]
  refine wpAny_comprehension_free (use := none) rfl hs (S.clos I) S.kind S.names (thn (hi pins s σ H _ I h) fun xv s1 h1 => thn h1 fun itv s2 h2 => ?_)
  obtain ⟨it, fp, tn, J, H2, e, I2, T, st2, f2, q⟩ := h2
  subst e
  refine comp_coreN (RR := fun acc C => compPost (model X.prog X.w) X.A X.xe none (EP X pins σ Q) acc C) S I2 hc hcap gat hg hnd T st2 f2 body q ?_
  intro p C s3 s' H3 Hf σ' I3 hC J' qf
  subst hC
  have I4 := comp_out I3 J' f2
  obtain ⟨m, hn, _⟩ := J'.loc
  refine ⟨m, hn, fun h' hs' => ?_⟩
  refine ⟨.ref p, Hf, ?_, rfl, qf⟩
  have f := I3.fpOk (H' := Hf) (Nat.le_refl _) J'.free
  exact I4.turned (t' := s'.toks) (it := s3.heap.objs.size) (fun b o hb e => (hs'.2 b hb).trans e) f.1 f.2.1 f.2.2.2.1 f.2.2.2.2.1 f.2.2.2.2.2
theorem ps_setcompN {scope : Scope} {xn : List Str} {y : Str} {py pos spos : Pos} {tg : Expr} {g : TG} {elt iter : Expr} {ifs : List Expr} {cn : List Str} {cap : List Nat} {wi : TI} {tc : TT} {te : TE} {i : Nat}
    (hN : X.N.Nodup) (hi : X.N[i]? = some y) (hy : Loc X.env.scope y) (hc : X.calm = true) (S : CompScope X scope) (gat : GAt xn.length g) (hg : ∀ (C : Addr) (s : Shared) (H : Hp) (fp : List Addr), PG (cxComp X (xn ++ cn) scope C s H fp) tg g) (hnd : (xn ++ cn).Nodup) (hcap : Caps X scope cn cap) (hit : PI X tg iter wi)
    (body : ∀ (C : Addr) (s : Shared) (H : Hp) (fp : List Addr), PTs (cxComp X (xn ++ cn) scope C s H fp) ifs tc ∧ PE (cxComp X (xn ++ cn) scope C s H fp) elt te)
    (hsw : swapsWith (.ListComp elt [⟨tg, iter, ifs, 0⟩] scope pos) (some (.Name y py)) spos.line X.env = pure true := by rfl)
    (hf : X.fn y = true ∨ X.env.scope.names.lookup y = some .local := by first | exact .inl rfl | exact .inr rfl | assumption)
    (hs : ∀ x, foldedSetIterable iter X.env x = pure x := by intro _; rfl) : PS X (.Assign [.Name y py] (.ListComp elt [⟨tg, iter, ifs, 0⟩] scope pos) spos) (tAsg (tCompN g xn.length cap wi tc te) (gName i)) := by
  intro pins s σ H D I h
  rw [exec_Assign_Name_used _ _ _ _ hsw]
  refine wpAny_bind (wpAny_standAt (wpAny_bind ?_))
  show wpAny _ X.A (do let _ ← comprehension (.ListComp elt [⟨tg, iter, ifs, 0⟩] scope pos) scope X.env _ (newList []) false (eval iter X.env) (some (assign (.Name y py) X.env))) _ _ s
  refine wpAny_bind (wpAny_mono (wpAny_comprehension_free (use := some (assign (.Name y py) X.env)) (Q := fun _ s' => SP X pins D .next s') rfl hs (S.clos I) S.kind S.names
    (thn (hit pins s σ H _ I h) fun xv s1 h1 => thn h1 fun itv s2 h2 => ?_)) (fun _ s' hq => wpAny_pure (wpAny_pure hq)) fun _ _ e => e)
  obtain ⟨it, fp, tn, J, H2, e, I2, T, st2, f2, q⟩ := h2
  subst e
  refine comp_coreN (Q := fun v H1 => gName i v σ H1 D.nx) (RR := fun acc C => compPost (model X.prog X.w) X.A X.xe (some (assign (.Name y py) X.env)) (fun _ s' => SP X pins D .next s') acc C) S I2 hc hcap gat hg hnd T st2 f2 body q ?_
  intro p C s3 s' H3 Hf σ' I3 hC J' qf
  subst hC
  have I4 := comp_out I3 J' f2
  obtain ⟨m, hn, _⟩ := J'.loc
  have f := I3.fpOk (H' := Hf) (Nat.le_refl _) J'.free
  show wpAny _ X.A (assign (.Name y py) X.env (.ref p)) _ _ _
  refine wpAny_assign_Name (store_ok2 (v := V.ref p) I4 hN hi hy rfl (fun s'' I5 ch => ?_) hf)
  obtain ⟨a, hsb, ha⟩ := ch
  have hCa : s3.heap.objs.size ≠ a := by
    rcases ha with rfl | ha
    · exact f.2.1
    · exact fun z => f.2.2.2.2.1 y a ha z.symm
  refine ⟨m, hn.sameBut hsb hCa, fun h' hs' => ?_⟩
  exact ⟨_, Hf, I5.turned (t' := s''.toks) (it := s3.heap.objs.size) (fun b o hb e => (hs'.2 b hb).trans e) f.1 f.2.1 f.2.2.2.1 f.2.2.2.2.1 f.2.2.2.2.2, qf⟩
end
section
variable {X : Cx} {pins : List (Addr × Obj)} {σ : St}
theorem gat1 : GAt 1 (gName 0) := fun v σ H Q h => ⟨⟨List.length_set, fun j hj => List.getElem?_set_ne (by omega)⟩, h⟩
theorem pe_comp {scope : Scope} {x : Str} {px pos : Pos} {elt iter : Expr} {ifs : List Expr} {cn : List Str} {cap : List Nat} {wi : TI} {tc : TT} {te : TE}
    (hc : X.calm = true) (S : CompScope X scope) (hx : scope.names.lookup x = some .local) (hnd : (x :: cn).Nodup) (hcap : Caps X scope cn cap) (hi : PI X (.Name x px) iter wi)
    (body : ∀ (C : Addr) (s : Shared) (H : Hp) (fp : List Addr), PTs (cxComp X (x :: cn) scope C s H fp) ifs tc ∧ PE (cxComp X (x :: cn) scope C s H fp) elt te)
    (hs : ∀ x, foldedSetIterable iter X.env x = pure x := by intro _; rfl) : PE X (.ListComp elt [⟨.Name x px, iter, ifs, 0⟩] scope pos) (tComp cap wi tc te) := by
  have h := pe_compN (xn := [x]) (tg := .Name x px) (g := gName 0) (pos := pos) (elt := elt) hc S gat1 (fun C s H fp => pg_name (i := 0) hnd rfl (.inl (lookup_relabel_local hx)) (.inr (lookup_relabel_local hx))) hnd hcap hi body hs
  exact h
theorem ps_setcomp {scope : Scope} {x y : Str} {px py pos spos : Pos} {elt iter : Expr} {ifs : List Expr} {cn : List Str} {cap : List Nat} {wi : TI} {tc : TT} {te : TE} {i : Nat}
    (hN : X.N.Nodup) (hi : X.N[i]? = some y) (hy : Loc X.env.scope y) (hc : X.calm = true) (S : CompScope X scope) (hx : scope.names.lookup x = some .local) (hnd : (x :: cn).Nodup) (hcap : Caps X scope cn cap) (hit : PI X (.Name x px) iter wi)
    (body : ∀ (C : Addr) (s : Shared) (H : Hp) (fp : List Addr), PTs (cxComp X (x :: cn) scope C s H fp) ifs tc ∧ PE (cxComp X (x :: cn) scope C s H fp) elt te)
    (hsw : swapsWith (.ListComp elt [⟨.Name x px, iter, ifs, 0⟩] scope pos) (some (.Name y py)) spos.line X.env = pure true := by rfl)
    (hf : X.fn y = true ∨ X.env.scope.names.lookup y = some .local := by first | exact .inl rfl | exact .inr rfl | assumption)
    (hs : ∀ x, foldedSetIterable iter X.env x = pure x := by intro _; rfl) : PS X (.Assign [.Name y py] (.ListComp elt [⟨.Name x px, iter, ifs, 0⟩] scope pos) spos) (tAsg (tComp cap wi tc te) (gName i)) := by
  have h := ps_setcompN (xn := [x]) (tg := .Name x px) (g := gName 0) (pos := pos) (spos := spos) (py := py) (elt := elt) hN hi hy hc S gat1 (fun C s H fp => pg_name (i := 0) hnd rfl (.inl (lookup_relabel_local hx)) (.inr (lookup_relabel_local hx))) hnd hcap hit body hsw hf hs
  exact h
end
end L2
set_option Elab.async false
set_option maxRecDepth 100000
namespace L2
open PySem PySem.Spec PyProof.Rows
theorem bt_len : bootBuiltins "len" = some (.builtin "len") := by decide +kernel
theorem bt_isinstance : bootBuiltins "isinstance" = some (.builtin "isinstance") := by decide +kernel
theorem bt_max : bootBuiltins "max" = some (.builtin "max") := by decide +kernel
theorem bt_list : bootBuiltins "list" = some (.type "list") := by decide +kernel
theorem bt_tuple : bootBuiltins "tuple" = some (.type "tuple") := by decide +kernel
theorem bt_int : bootBuiltins "int" = some (.type "int") := by decide +kernel
theorem bt_str : bootBuiltins "str" = some (.type "str") := by decide +kernel
theorem bt_bool : bootBuiltins "bool" = some (.type "bool") := by decide +kernel
noncomputable def kitC (T c : String) : Option Bool := if (T == c) = true then some true else if PySem.W.kitMeta c = true then (fastBuiltinMro T).map (·.contains (.type c)) else none
theorem kit_of {K : PySem.W.Frag} {T c : String} {b : Bool} (h : kitC T c = some b) : PySem.W.kitOne K (.type T) (.type c) = some b := by
  unfold kitC at h
  unfold PySem.W.kitOne
  by_cases e : T = c
  · subst e
    rw [if_pos (by simp)] at h
    rw [if_pos (by simp)]
    exact h
  · rw [if_neg (by simpa using e)] at h
    rw [if_neg (by intro z; exact e (by simpa using z))]
    exact h
structure DefOk (P : Program) (w : World) (K : PySem.W.Frag) (mg : Str → Option Value) (base : Heap) (x : Str) (k : Nat) (ps : List Str) (sp : Sp) : Prop where
  ex : ∃ f fd, FnOk P w K mg base CX0 k f fd ps sp ∧ mg x = some (.ref f) ∧ PySem.W.keepIn K (.ref f) = true ∧ Binds K fd ps []
section
variable {X : Cx} {x : Str} {k j : Nat} {ps : List Str} {sp : Sp} {e : Expr} {es : List Expr} {t : TA} {p pos : Pos}
theorem pe_def (F : DefOk X.prog X.w X.K X.mg X.base x k ps sp) (hr : Room j X.A) (hj : k ≤ j) (hg : Gl X x) (ha : PA X (e :: es) t) (hdb : (x == ("__debug__" : Str)) = false := by decide)
    (he : starEach (e :: es) X.env = (false, eval e X.env) :: starEach es X.env := by rfl) (hpl : (backTo pos (starEach es X.env)).any (·.1) = false := by rfl) :
    PE X (.Call (.Name x p) (e :: es) [] pos) (tCall sp [] E0 t) := by
  obtain ⟨f, fd, G, m, kp, b⟩ := F.ex
  exact pe_call G (hr.mono hj) hg m kp b .nil pass0 ha hdb he hpl
end
theorem def_of {P : Program} {w : World} {K : PySem.W.Frag} {mg : Str → Option Value} {base : Heap} {x : Str} {st : Stmt} {f : Addr} {fd : FuncData} {k : Nat} {ps : List Str} {sp : Sp} (F : Fun K x x st f fd) (m : mg x = some (.ref f)) (b : Binds K fd ps []) (G : FnOk P w K mg base CX0 k f fd ps sp) : DefOk P w K mg base x k ps sp :=
  ⟨f, fd, G, m, F.kp, b⟩
theorem free_of {X : Cx} {scope : Scope} (h : (scope.names.all fun p => p.2 != .free || X.env.scope.names.lookup p.1 == some .cell || X.env.scope.names.lookup p.1 == some .free) = true) :
    ∀ y ∈ scope.names, y.2 = .free → X.env.scope.names.lookup y.1 = some .cell ∨ X.env.scope.names.lookup y.1 = some .free := fun y hy hf => by
  have := List.all_eq_true.mp h y hy
  rw [hf] at this
  simpa using this
theorem Same.new {H : Hp} {p : Addr} {o : HO} (h : H p = none) : Same H (upd H p o) := fun b u e => by rw [upd_ne (ne_of_none e h)]; exact e
theorem Same.put {H H' : Hp} {p : Addr} {o : HO} (s : Same H H') (h : H p = none) : Same H (upd H' p o) := fun b u e => by rw [upd_ne (ne_of_none e h)]; exact s b u e
noncomputable def Its (x : Str) : It := ⟨fun i _ => i < x.cps.size, fun i H v H' => H' = H ∧ ∃ c, x.cps[i]? = some c ∧ v = .str ⟨#[c]⟩, fun i _ => i = x.cps.size⟩
noncomputable def StrIt (it : Addr) (x : Str) (t : Tok) (i : Nat) (h : Heap) : Prop := h.IsStrIter it "str_ascii_iterator" x t i ∨ h.IsStrIter it "str_iterator" x t i
theorem turn_str {P : Program} {w : World} {K : PySem.W.Frag} {tg : Expr} (x : Str) (t : Tok) (it : Addr) : Turn P w K tg (Its x) [it] it (StrIt it x t) where
  mem := by simp
  obj := fun i h st b hb => by
    have e : b = it := by simpa using hb
    subst e
    rcases st with ⟨o, e, c, d⟩ | ⟨o, e, c, d⟩ <;> exact ⟨o, e, fun v z => by rw [d] at z; cases z⟩
  keep := fun i h h' st k => by
    rcases st with ⟨o, e, r⟩ | ⟨o, e, r⟩
    · exact .inl ⟨o, k it (by simp) o e, r⟩
    · exact .inr ⟨o, k it (by simp) o e, r⟩
  item := by
    intro X hP hw hK hc i pins s σ H E I hf st hg
    subst hP hw hK
    obtain ⟨f0, f1, f2, f3, f4, f5⟩ := hf it (by simp)
    rcases st with st | st
    · refine (Walks.strAscii (prog := X.prog) (w := X.w) (I.ok.hd hc) it x t).item i s _ _ hg st fun v h' tk hv st' kk => ?_
      obtain ⟨c, u, hcx, rfl⟩ := hv
      have I1 := I.turned (h' := h') (t' := tk) (fun b o hb e => kk b o (by simpa using hb) e) f0 f1 f3 f4 f5
      obtain ⟨o, e, hc', d⟩ := id st'
      exact ⟨_, rfl, go_of (s := { s with heap := h', toks := tk }) e hc' d (by decide) ⟨.str ⟨#[c]⟩, H, I1, ⟨u, rfl⟩, ⟨rfl, c, hcx, rfl⟩, .inl st', fun b hb => (hf b hb).1⟩⟩
    · refine (Walks.strWide (prog := X.prog) (w := X.w) (I.ok.hd hc) it x t).item i s _ _ hg st fun v h' tk hv st' kk => ?_
      obtain ⟨c, u, hcx, rfl⟩ := hv
      have I1 := I.turned (h' := h') (t' := tk) (fun b o hb e => kk b o (by simpa using hb) e) f0 f1 f3 f4 f5
      obtain ⟨o, e, hc', d⟩ := id st'
      exact ⟨_, rfl, go_of (s := { s with heap := h', toks := tk }) e hc' d (by decide) ⟨.str ⟨#[c]⟩, H, I1, ⟨u, rfl⟩, ⟨rfl, c, hcx, rfl⟩, .inr st', fun b hb => (hf b hb).1⟩⟩
  done := by
    intro X hP hw hK hc i pins s σ H E I hf st hg
    subst hP hw hK
    obtain ⟨f0, f1, f2, f3, f4, f5⟩ := hf it (by simp)
    have hg : i = x.cps.size := hg
    subst hg
    rcases st with st | st
    · exact (Walks.strAscii (prog := X.prog) (w := X.w) (I.ok.hd hc) it x t).done s _ _ st fun h' tk kk => ⟨rfl, I.turned (fun b o hb e => kk b o (by simpa using hb) e) f0 f1 f3 f4 f5⟩
    · exact (Walks.strWide (prog := X.prog) (w := X.w) (I.ok.hd hc) it x t).done s _ _ st fun h' tk kk => ⟨rfl, I.turned (fun b o hb e => kk b o (by simpa using hb) e) f0 f1 f3 f4 f5⟩
  self := fun _ _ _ _ _ st h => by
    rcases st with st | st
    · exact wpAny_pyIter_striter_ascii st h
    · exact wpAny_pyIter_striter_wide st h
section
variable {X : Cx} {tg : Expr}
noncomputable def iAny (K : PySem.W.Frag) (tl : TE) : TI := fun σ H R => tl σ H fun v H1 => match v with
  | .str x => R (Its x) H1
  | .ref a => ((∃ xs, SqL K H1 a xs) ∧ R (Itl K a) H1) ∨ ((∃ xs, SqT K H1 a xs) ∧ R (Itt K a) H1)
  | _ => False
theorem pi_any {l : Expr} {tl : TE} (hl : PE X l tl) : PI X tg l (iAny X.K tl) := by
  intro pins s σ H R I h
  refine thn (hl pins s σ H _ I h) fun v s1 ⟨x, H1, I1, r1, q1⟩ => ?_
  have one : ∀ b ∈ [s1.heap.objs.size], FpOk X pins H1 b := fun b hb => by
    have e : b = s1.heap.objs.size := by simpa using hb
    subst e
    exact I1.fpOk (Nat.le_refl _) (I1.hok.fresh (Nat.le_refl _))
  cases x with
  | str z =>
    obtain ⟨t, rfl⟩ := r1
    have q1 : R (Its z) H1 := q1
    cases ha : z.cps.all (· < 128)
    · exact wpAny_pyIter_wide ha ⟨s1.heap.objs.size, [s1.heap.objs.size], _, _, H1, rfl, I1.kept (t' := s1.toks) fun b o e => Heap.get?_push_of_some _ e, turn_str z t _, .inr ⟨_, Heap.get?_push_size _ rfl, rfl, rfl⟩, one, q1⟩
    · exact wpAny_pyIter_ascii ha ⟨s1.heap.objs.size, [s1.heap.objs.size], _, _, H1, rfl, I1.kept (t' := s1.toks) fun b o e => Heap.get?_push_of_some _ e, turn_str z t _, .inl ⟨_, Heap.get?_push_size _ rfl, rfl, rfl⟩, one, q1⟩
  | ref a =>
    cases r1
    have q1 : ((∃ xs, SqL X.K H1 a xs) ∧ R (Itl X.K a) H1) ∨ ((∃ xs, SqT X.K H1 a xs) ∧ R (Itt X.K a) H1) := q1
    rcases q1 with ⟨⟨xs, hq⟩, q⟩ | ⟨⟨xs, hq⟩, q⟩
    · obtain ⟨its, rv, p, hz⟩ := I1.list hq
      exact wpAny_pyIter_list p.isList ⟨s1.heap.objs.size, [s1.heap.objs.size], _, _, H1, rfl, I1.kept (t' := s1.toks) fun b o e => Heap.get?_push_of_some _ e, turn_list a _, ⟨_, Heap.get?_push_size _ rfl, rfl, rfl⟩, one, q⟩
    · obtain ⟨its, rv, p, hz⟩ := I1.tuple hq
      exact wpAny_pyIter_tuple (show s1.heap.IsTuple a its.toArray from p) ⟨s1.heap.objs.size, [s1.heap.objs.size], _, _, H1, rfl, I1.kept (t' := s1.toks) fun b o e => Heap.get?_push_of_some _ e, turn_tuple a _, ⟨_, Heap.get?_push_size _ rfl, rfl, rfl⟩, one, q⟩
  | _ => exact (show False from q1).elim
end
structure Yields (J : It) (H : Hp) (xs : List V) : Prop where
  go : ∀ i H', Same H H' → i < xs.length → J.go i H'
  stop : ∀ H', Same H H' → J.stop xs.length H'
  yld : ∀ i H' x H'', Same H H' → i < xs.length → J.yld i H' x H'' → H'' = H' ∧ xs[i]? = some x
theorem yields_range (lo : Int) (n : Nat) (H : Hp) : Yields (Itr lo n) H ((List.range n).map fun (i : Nat) => V.int (lo + (i : Int))) where
  go := fun i H' _ hi => by
    show i < n
    simpa using hi
  stop := fun H' _ => by
    show n ≤ ((List.range n).map fun (i : Nat) => V.int (lo + (i : Int))).length
    simp
  yld := fun i H' v H'' _ hi y => by
    obtain ⟨rfl, rfl⟩ := y
    rw [List.length_map, List.length_range] at hi
    refine ⟨rfl, ?_⟩
    simp [hi]
theorem yields_list {K : PySem.W.Frag} {a : Addr} {xs : List V} {H : Hp} (h : SqL K H a xs) : Yields (Itl K a) H xs where
  go := fun i H' s hi => ⟨xs, xs[i], s.seq h, by simp [hi]⟩
  stop := fun H' s => ⟨xs, s.seq h, Nat.le_refl _⟩
  yld := fun i H' v H'' s _ y => ⟨y.1, y.2 xs (s.seq h)⟩
section
variable {X : Cx}
noncomputable def rPlus (K : PySem.W.Frag) : R2 := fun x y H Q => match x, y with
  | .int i, .int j => Q (.int (i + j)) H
  | .str a, .str b => a.length + b.length ≤ sizeLine ∧ Q (.str (a ++ b)) H
  | .ref a, .ref b => ∃ xs ys, Rd H a (.lst xs) ∧ Rd H b (.lst ys) ∧ xs.length + ys.length ≤ sizeLine ∧ ∀ p, H p = none → Q (.ref p) (upd H p (.lst (xs ++ ys)))
  | _, _ => False
theorem op_catS : OpR X (binaryOp .Add) (fun x y H Q => ∃ a b xs ys, x = .ref a ∧ y = .ref b ∧ Rd H a (.lst xs) ∧ Rd H b (.lst ys) ∧ xs.length + ys.length ≤ sizeLine ∧ ∀ p, H p = none → Q (.ref p) (upd H p (.lst (xs ++ ys)))) := by
  intro pins s σ H x y v u Q I rx ry h
  obtain ⟨l, b, xs, zs, rfl, rfl, hH, hB, hz, q⟩ := h
  cases rx
  cases ry
  obtain ⟨z, its, n, r, e⟩ := hH.ok I.hok
  obtain ⟨z2, its2, n2, r2, e2⟩ := hB.ok I.hok
  have hl := r.length
  have hl2 := r2.length
  refine PySem.P.add_list e e2 ?_ (by rw [List.size_toArray, List.size_toArray]; omega)
  have ea : its.toArray ++ its2.toArray = (its ++ its2).toArray := by simp
  rw [ea]
  exact ⟨.ref _, _, I.lnew (t' := s.toks) (r.append r2) (by rw [List.length_append]; omega), rfl, q _ I.fresh⟩
theorem op_plus : OpR X (binaryOp .Add) (rPlus X.K) := by
  intro pins s σ H x y v u Q I rx ry h
  cases x with
  | int i => cases y with
    | int j => exact op_add pins s σ H _ _ v u Q I rx ry ⟨i, j, rfl, rfl, h⟩
    | _ => exact (show False from h).elim
  | str a => cases y with
    | str b => exact op_add_str pins s σ H _ _ v u Q I rx ry ⟨a, b, rfl, rfl, h.1, h.2⟩
    | _ => exact (show False from h).elim
  | ref a => cases y with
    | ref b =>
      obtain ⟨xs, ys, h1, h2, h3, h4⟩ := h
      exact op_catS pins s σ H _ _ v u Q I rx ry ⟨a, b, xs, ys, rfl, rfl, h1, h2, h3, h4⟩
    | _ => exact (show False from h).elim
  | _ => exact (show False from h).elim
noncomputable def rOrd (fi : Int → Int → Bool) (fs : List Nat → List Nat → Bool) : R2 := fun x y H Q => match x, y with
  | .int i, .int j => Q (.bl (fi i j)) H
  | .str a, .str b => Q (.bl (fs a.cps.toList b.cps.toList)) H
  | _, _ => False
theorem ord_of {f : Value → Value → Sem Value} {fi : Int → Int → Bool} {fs : List Nat → List Nat → Bool} (hi : OpR X f (rI0 fun i j => .bl (fi i j)))
    (hs : ∀ (s : Shared) (a b : Str) (t u : Tok) (Q : Value → Shared → Prop), Q (.bool (fs a.cps.toList b.cps.toList)) s → wpAny (model X.prog X.w) X.A (f (.str a t) (.str b u)) Q X.xe s) : OpR X f (rOrd fi fs) := by
  intro pins s σ H x y v u Q I rx ry h
  cases x with
  | int i => cases y with
    | int j => exact hi pins s σ H _ _ v u Q I rx ry ⟨i, j, rfl, rfl, h⟩
    | _ => exact (show False from h).elim
  | str a => cases y with
    | str b =>
      obtain ⟨t, rfl⟩ := rx
      obtain ⟨t', rfl⟩ := ry
      exact hs s a b t t' _ ⟨.bl _, H, I, rfl, h⟩
    | _ => exact (show False from h).elim
  | _ => exact (show False from h).elim
theorem op_ltU : OpR X (compareOp .Lt) (rOrd (fun i j => decide (i < j)) fun a b => decide (a < b)) := ord_of op_lt fun _ _ _ _ _ _ h => lt_str h
theorem op_leU : OpR X (compareOp .LtE) (rOrd (fun i j => decide (i ≤ j)) fun a b => !decide (b < a)) := ord_of op_le fun _ _ _ _ _ _ h => PySem.P.le_str h
theorem op_gtU : OpR X (compareOp .Gt) (rOrd (fun i j => decide (j < i)) fun a b => decide (b < a)) := ord_of op_gt fun _ _ _ _ _ _ h => PySem.P.gt_str h
noncomputable def rMul (K : PySem.W.Frag) : R2 := fun x y H Q => match x, y with
  | .int i, .int j => CMul i j ∧ Q (.int (i * j)) H
  | .ref l, .int k => ∃ xs, H l = some (.lst xs) ∧ -(2 ^ 63) ≤ k ∧ k < 2 ^ 63 ∧ xs.length * k.toNat ≤ sizeLine ∧ ∀ p, H p = none → Q (.ref p) (upd H p (.lst (List.replicate k.toNat xs).flatten))
  | _, _ => False
theorem op_mulU : OpR X (binaryOp .Mult) (rMul X.K) := by
  intro pins s σ H x y v u Q I rx ry h
  cases x with
  | int i => cases y with
    | int j => exact op_mul pins s σ H _ _ v u Q I rx ry ⟨i, j, rfl, rfl, h.1, h.2⟩
    | _ => exact (show False from h).elim
  | ref l => cases y with
    | int k =>
      obtain ⟨xs, h1, h2, h3, h4, h5⟩ := h
      exact op_rep pins s σ H _ _ v u Q I rx ry ⟨l, k, xs, rfl, rfl, h1, h2, h3, h4, h5⟩
    | _ => exact (show False from h).elim
  | _ => exact (show False from h).elim
noncomputable def rSl (K : PySem.W.Frag) : V → Option Int → Option Int → Hp → VK → Prop := fun x lo hi H Q => match x with
  | .str z => z.length ≤ sizeLine ∧ Q (.str (Txt.slice z lo hi)) H
  | .ref a => (∃ xs, SqL K H a xs ∧ ∀ p, H p = none → Q (.ref p) (upd H p (.lst (cutV xs lo hi))))
  | _ => False
theorem sl_str : SlR X (fun x lo hi H Q => ∃ z, x = .str z ∧ z.length ≤ sizeLine ∧ Q (.str (Txt.slice z lo hi)) H) := by
  intro pins s σ H x v vl vu lo hi sl Q I rx hs pl pu h
  obtain ⟨z, rfl, hz, q⟩ := h
  obtain ⟨t, rfl⟩ := rx
  refine ⟨"str", _, F.slot_str_getitem.lookup, typeIs_str _ _ _, ?_⟩
  have fin : ∀ (t' : Tok) (k : Nat), EP X pins σ Q (.str (Txt.slice z lo hi) t') { s with toks := k } := fun t' k => ⟨.str _, H, I.tok k, ⟨t', rfl⟩, q⟩
  cases pl with
  | none => cases pu with
    | none => exact wpAny_getItem_str_slice (l := none) (u := none) (st := none) hs rfl (post_val_or_str ⟨Nat.le_trans (Txt.slice_le z _ _) hz, fin⟩)
    | int j uj => exact wpAny_getItem_str_slice (l := none) (u := some (j, uj)) (st := none) hs rfl (post_val_or_str ⟨Nat.le_trans (Txt.slice_le z _ _) hz, fin⟩)
  | int i ui => cases pu with
    | none => exact wpAny_getItem_str_slice (l := some (i, ui)) (u := none) (st := none) hs rfl (post_val_or_str ⟨Nat.le_trans (Txt.slice_le z _ _) hz, fin⟩)
    | int j uj => exact wpAny_getItem_str_slice (l := some (i, ui)) (u := some (j, uj)) (st := none) hs rfl (post_val_or_str ⟨Nat.le_trans (Txt.slice_le z _ _) hz, fin⟩)
theorem sl_any : SlR X (rSl X.K) := by
  intro pins s σ H x v vl vu lo hi sl Q I rx hs pl pu h
  cases x with
  | str z => exact sl_str pins s σ H _ v vl vu lo hi sl Q I rx hs pl pu ⟨z, rfl, h.1, h.2⟩
  | ref a =>
    obtain ⟨xs, h1, h2⟩ := h
    exact sl_list pins s σ H _ v vl vu lo hi sl Q I rx hs pl pu ⟨a, xs, rfl, h1, h2⟩
  | _ => exact (show False from h).elim
noncomputable def rAt (K : PySem.W.Frag) : R2 := fun x y H Q => match x, y with
  | .str z, .int i => z.length ≤ sizeLine ∧ ∃ c, atI z.cps.toList i = some c ∧ Q (.str ⟨#[c]⟩) H
  | .ref p, .int i => (∃ xs v, SqL K H p xs ∧ atI xs i = some v ∧ Q v H) ∨ (∃ xs v, SqT K H p xs ∧ atI xs i = some v ∧ Q v H)
  | _, _ => False
theorem ix_any : IxR X (rAt X.K) := by
  intro value slice pins s σ H x y v u Q I rx ry q hs
  cases x with
  | str z => cases y with
    | int i =>
      obtain ⟨hz, c, hc, q⟩ := q
      exact ix_str value slice pins s σ H _ _ v u Q I rx ry ⟨z, i, c, rfl, rfl, hz, hc, q⟩ hs
    | _ => exact (show False from q).elim
  | ref p => cases y with
    | int i =>
      rcases q with ⟨xs, w', h1, h2, h3⟩ | ⟨xs, w', h1, h2, h3⟩
      · exact ix_list value slice pins s σ H _ _ v u Q I rx ry ⟨p, xs, i, w', rfl, rfl, h1, h2, h3⟩ hs
      · exact ix_tup value slice pins s σ H _ _ v u Q I rx ry ⟨p, xs, i, w', rfl, rfl, h1, h2, h3⟩ hs
    | _ => exact (show False from q).elim
  | _ => exact (show False from q).elim
noncomputable def rLen (K : PySem.W.Frag) : List V → Hp → VK → Prop := fun vs H Q => match vs with
  | [.str z] => z.length ≤ sizeLine ∧ Q (.int z.length) H
  | [.ref p] => ∃ ys, (SqL K H p ys ∨ SqT K H p ys) ∧ Q (.int ys.length) H
  | _ => False
theorem call_lenU : CallR X (.builtin "len") (rLen X.K) := by
  intro pins s σ H vs us Q I r h
  match vs, h with
  | [.str z], h => exact call_len_str pins s σ H _ us Q I r ⟨z, rfl, h.1, h.2⟩
  | [.ref p], h =>
    obtain ⟨ys, h1, h2⟩ := h
    exact call_len_seq pins s σ H _ us Q I r ⟨p, ys, rfl, h1, h2⟩
end
end L2
set_option Elab.async false
set_option maxRecDepth 100000
namespace L2
open PySem PySem.Spec PyProof.Rows
structure EqTy (K : PySem.W.Frag) (k : Nat) {α : Type} [DecidableEq α] (R : Hp → V → α → Prop) : Prop where
  fn : ∀ {X : Cx} {pins : List (Addr × Obj)} {σ : St} {H : Hp} {s : Shared} {x : V} {a b : α}, X.K = K → Inv X pins σ H s → R H x a → R H x b → a = b
  eq : ∀ {X : Cx} {pins : List (Addr × Obj)} {σ : St} {H : Hp} {s : Shared} {x y : V} {u v : Value} {a b : α} (A : Around), X.K = K → Inv X pins σ H s → A.units + k < cLine → RelV x u → RelV y v → R H x a → R H y b → SeqAt.EqAt A s u v (decide (a = b))
  rc : ∀ {X : Cx} {pins : List (Addr × Obj)} {σ : St} {H : Hp} {s : Shared} {x y : V} {u v : Value} {a b : α} (A : Around), X.K = K → Inv X pins σ H s → A.units + k < cLine → RelV x u → RelV y v → R H x a → R H y b → SeqAt.RcAt A s u v (decide (a = b)) ∧ SeqAt.RcNeAt A s u v (!decide (a = b))
noncomputable def isStr : Hp → V → Str → Prop := fun _ x a => x = .str a
noncomputable def isInt : Hp → V → Int → Prop := fun _ x a => x = .int a
noncomputable def isBl : Hp → V → Bool → Prop := fun _ x a => x = .bl a
theorem dec_beq {α : Type} [DecidableEq α] [BEq α] [LawfulBEq α] (a b : α) : (a == b) = decide (a = b) := by
  by_cases h : a = b
  · subst h; simp
  · rw [decide_eq_false h]; simpa using h
theorem eqStr {K : PySem.W.Frag} : EqTy K 0 isStr where
  fn := fun _ _ h1 h2 => by cases h1; cases h2; rfl
  eq := fun A _ _ _ r1 r2 h1 h2 => by
    cases h1; cases h2
    obtain ⟨t, rfl⟩ := r1
    obtain ⟨t', rfl⟩ := r2
    rw [← dec_beq]
    exact SeqAt.EqAt.str_str _ _ _ _
  rc := fun A _ _ _ r1 r2 h1 h2 => by
    cases h1; cases h2
    obtain ⟨t, rfl⟩ := r1
    obtain ⟨t', rfl⟩ := r2
    rw [← dec_beq]
    exact ⟨SeqAt.RcAt.str_str _ _ _ _, SeqAt.RcNeAt.str_str _ _ _ _⟩
theorem eqInt {K : PySem.W.Frag} : EqTy K 0 isInt where
  fn := fun _ _ h1 h2 => by cases h1; cases h2; rfl
  eq := fun A _ _ _ r1 r2 h1 h2 => by
    cases h1; cases h2
    obtain ⟨t, rfl⟩ := r1
    obtain ⟨t', rfl⟩ := r2
    rw [← dec_beq]
    exact SeqAt.EqAt.int_int _ _ _ _
  rc := fun A _ _ _ r1 r2 h1 h2 => by
    cases h1; cases h2
    obtain ⟨t, rfl⟩ := r1
    obtain ⟨t', rfl⟩ := r2
    rw [← dec_beq]
    exact ⟨SeqAt.RcAt.int_int _ _ _ _, SeqAt.RcNeAt.int_int _ _ _ _⟩
theorem eqBl {K : PySem.W.Frag} : EqTy K 0 isBl where
  fn := fun _ _ h1 h2 => by cases h1; cases h2; rfl
  eq := fun A _ _ _ r1 r2 h1 h2 => by
    cases h1; cases h2
    cases r1; cases r2
    rw [← dec_beq]
    exact SeqAt.EqAt.bool_bool _ _
  rc := fun A _ _ _ r1 r2 h1 h2 => by
    cases h1; cases h2
    cases r1; cases r2
    rw [← dec_beq]
    exact ⟨SeqAt.RcAt.bool_bool _ _, SeqAt.RcNeAt.bool_bool _ _⟩
theorem Paired.at' {α β : Type} {F : α → β → Prop} : ∀ {l₁ : List α} {l₂ : List β} {i : Nat} {a : α} {b : β}, Paired F l₁ l₂ → l₁[i]? = some a → l₂[i]? = some b → F a b
  | _, _, _, _, _, .nil, e, _ => by simp at e
  | _, _, 0, _, _, .cons h _, e1, e2 => by simp at e1 e2; subst e1; subst e2; exact h
  | _, _, i + 1, _, _, .cons _ t, e1, e2 => Paired.at' (i := i) t (by simpa using e1) (by simpa using e2)
theorem paired_fn {α β : Type} {F : α → β → Prop} (hf : ∀ a b c, F a b → F a c → b = c) : ∀ {xs : List α} {as bs : List β}, Paired F xs as → Paired F xs bs → as = bs
  | _, _, _, .nil, .nil => rfl
  | _, _, _, .cons h t, .cons h' t' => by rw [hf _ _ _ h h', paired_fn hf t t']
theorem all_dec {α : Type} [DecidableEq α] : ∀ (as bs : List α) (hl : as.length = bs.length), ((List.range as.length).all fun j => decide (as[j]? = bs[j]?)) = decide (as = bs) := by
  intro as bs hl
  apply Bool.eq_iff_iff.mpr
  rw [decide_eq_true_iff, List.all_eq_true]
  constructor
  · intro h
    apply List.ext_getElem?
    intro i
    by_cases hi : i < as.length
    · exact of_decide_eq_true (h i (List.mem_range.mpr hi))
    · rw [List.getElem?_eq_none (by omega), List.getElem?_eq_none (by omega)]
  · rintro rfl i _
    simp
noncomputable def isLst (K : PySem.W.Frag) {α : Type} (R : Hp → V → α → Prop) : Hp → V → List α → Prop := fun H x as => ∃ l xs, x = .ref l ∧ SqL K H l xs ∧ Paired (R H) xs as
theorem items_eqAt {K : PySem.W.Frag} {k : Nat} {α : Type} [DecidableEq α] {R : Hp → V → α → Prop} (E : EqTy K k R) {X : Cx} {pins : List (Addr × Obj)} {σ : St} {H : Hp} {s : Shared} {A : Around} (hK : X.K = K) (I : Inv X pins σ H s) (hu : A.units + (k + 1) < cLine)
    {xs ys : List V} {us vs : List Value} {as bs : List α} (rx : Vals xs us) (ry : Vals ys vs) (px : Paired (R H) xs as) (py : Paired (R H) ys bs) :
    ∀ j (h1 : j < us.toArray.size) (h2 : j < vs.toArray.size), SeqAt.EqAt A.in1 s us.toArray[j] vs.toArray[j] (decide (as[j]? = bs[j]?)) := by
  intro j h1 h2
  have h1' : j < us.length := by simpa using h1
  have h2' : j < vs.length := by simpa using h2
  have lx := rx.length
  have ly := ry.length
  have lpx := Paired.length px
  have lpy := Paired.length py
  have ex : xs[j]? = some xs[j] := List.getElem?_eq_getElem (by omega)
  have ey : ys[j]? = some ys[j] := List.getElem?_eq_getElem (by omega)
  have ea : as[j]? = some as[j] := List.getElem?_eq_getElem (by omega)
  have eb : bs[j]? = some bs[j] := List.getElem?_eq_getElem (by omega)
  obtain ⟨u, hu', ru⟩ := rx.get ex
  obtain ⟨v, hv', rv⟩ := ry.get ey
  have e1 : us.toArray[j] = u := by
    rw [List.getElem?_eq_getElem h1'] at hu'
    simpa using hu'
  have e2 : vs.toArray[j] = v := by
    rw [List.getElem?_eq_getElem h2'] at hv'
    simpa using hv'
  rw [e1, e2, ea, eb]
  have := E.eq A.in1 hK I (show A.units + 1 + k < cLine by omega) ru rv (Paired.at' px ex ea) (Paired.at' py ey eb)
  have e3 : decide (some as[j] = some bs[j]) = decide (as[j] = bs[j]) := by simp
  rw [e3]
  exact this
theorem eqLst {K : PySem.W.Frag} {k : Nat} {α : Type} [DecidableEq α] {R : Hp → V → α → Prop} (E : EqTy K k R) : EqTy K (k + 1) (isLst K R) := by
  have fn : ∀ {X : Cx} {pins : List (Addr × Obj)} {σ : St} {H : Hp} {s : Shared} {x : V} {a b : List α}, X.K = K → Inv X pins σ H s → isLst K R H x a → isLst K R H x b → a = b := by
    intro X pins σ H s x a b hK I ha hb
    obtain ⟨l, xs, rfl, h1, p1⟩ := ha
    obtain ⟨l', ys, e, h2, p2⟩ := hb
    cases e
    subst hK
    have := I.list_inj h1 h2
    subst this
    exact paired_fn (F := R H) (fun _ _ _ p q => E.fn rfl I p q) p1 p2
  have rc : ∀ {X : Cx} {pins : List (Addr × Obj)} {σ : St} {H : Hp} {s : Shared} {x y : V} {u v : Value} {a b : List α} (A : Around), X.K = K → Inv X pins σ H s → A.units + (k + 1) < cLine → RelV x u → RelV y v → isLst K R H x a → isLst K R H y b →
      SeqAt.RcAt A s u v (decide (a = b)) ∧ SeqAt.RcNeAt A s u v (!decide (a = b)) := by
    intro X pins σ H s x y u v a b A hK I hu r1 r2 ha hb
    obtain ⟨l, xs, rfl, h1, p1⟩ := ha
    obtain ⟨l', ys, rfl, h2, p2⟩ := hb
    cases r1; cases r2
    subst hK
    obtain ⟨us, rx, plx, _⟩ := I.list h1
    obtain ⟨vs, ry, ply, _⟩ := I.list h2
    have lx := rx.length
    have ly := ry.length
    have lpx := Paired.length p1
    have lpy := Paired.length p2
    by_cases hl : a.length = b.length
    · have hsz : us.toArray.size = vs.toArray.size := by simp; omega
      have it := items_eqAt E rfl I hu rx ry p1 p2
      have ed : ((List.range us.toArray.size).all fun j => decide (a[j]? = b[j]?)) = decide (a = b) := by
        rw [← all_dec a b hl, List.size_toArray, ← lx, lpx]
      rw [← ed]
      exact ⟨SeqAt.RcAt.lists plx.isList ply.isList hsz (by omega) it, SeqAt.RcNeAt.lists plx.isList ply.isList hsz (by omega) it⟩
    · have hsz : (us.toArray.size != vs.toArray.size) = true := by simp; omega
      have ne : a ≠ b := fun e => hl (by rw [e])
      rw [decide_eq_false ne]
      exact ⟨SeqAt.RcAt.lists_lengths plx.isList ply.isList hsz (by omega), SeqAt.RcNeAt.lists_lengths plx.isList ply.isList hsz (by omega)⟩
  refine ⟨fn, ?_, rc⟩
  intro X pins σ H s x y u v a b A hK I hu r1 r2 ha hb
  have h := (rc A hK I hu r1 r2 ha hb).1
  obtain ⟨l, xs, rfl, h1, p1⟩ := id ha
  obtain ⟨l', ys, rfl, h2, p2⟩ := id hb
  cases r1; cases r2
  by_cases e : l = l'
  · subst e
    have : a = b := fn hK I ha hb
    rw [decide_eq_true this]
    exact SeqAt.EqAt.same _
  · exact SeqAt.EqAt.of_refs e h
noncomputable def isPair (K : PySem.W.Frag) {α β : Type} (R : Hp → V → α → Prop) (S : Hp → V → β → Prop) : Hp → V → α × β → Prop := fun H x p => ∃ t a b, x = .ref t ∧ SqT K H t [a, b] ∧ R H a p.1 ∧ S H b p.2
theorem eqPair {K : PySem.W.Frag} {k : Nat} {α β : Type} [DecidableEq α] [DecidableEq β] {R : Hp → V → α → Prop} {S : Hp → V → β → Prop} (E : EqTy K k R) (G : EqTy K k S) : EqTy K (k + 1) (isPair K R S) := by
  have fn : ∀ {X : Cx} {pins : List (Addr × Obj)} {σ : St} {H : Hp} {s : Shared} {x : V} {a b : α × β}, X.K = K → Inv X pins σ H s → isPair K R S H x a → isPair K R S H x b → a = b := by
    intro X pins σ H s x a b hK I ha hb
    obtain ⟨l, x1, x2, rfl, h1, p1, p2⟩ := ha
    obtain ⟨l', y1, y2, e, h2, q1, q2⟩ := hb
    cases e
    subst hK
    have := I.tuple_inj h1 h2
    cases this
    exact Prod.ext (E.fn rfl I p1 q1) (G.fn rfl I p2 q2)
  have rc : ∀ {X : Cx} {pins : List (Addr × Obj)} {σ : St} {H : Hp} {s : Shared} {x y : V} {u v : Value} {a b : α × β} (A : Around), X.K = K → Inv X pins σ H s → A.units + (k + 1) < cLine → RelV x u → RelV y v → isPair K R S H x a → isPair K R S H y b →
      SeqAt.RcAt A s u v (decide (a = b)) ∧ SeqAt.RcNeAt A s u v (!decide (a = b)) := by
    intro X pins σ H s x y u v a b A hK I hu r1 r2 ha hb
    obtain ⟨l, x1, x2, rfl, h1, p1, p2⟩ := ha
    obtain ⟨l', y1, y2, rfl, h2, q1, q2⟩ := hb
    cases r1; cases r2
    subst hK
    obtain ⟨us, rx, plx, _⟩ := I.tuple h1
    obtain ⟨vs, ry, ply, _⟩ := I.tuple h2
    obtain ⟨u1, u2, rfl, ru1, ru2⟩ := vals2 rx
    obtain ⟨v1, v2, rfl, rv1, rv2⟩ := vals2 ry
    have e1 := E.eq A.in1 rfl I (show A.units + 1 + k < cLine by omega) ru1 rv1 p1 q1
    have e2 := G.eq A.in1 rfl I (show A.units + 1 + k < cLine by omega) ru2 rv2 p2 q2
    have it : ∀ j (h1 : j < [u1, u2].toArray.size) (h2 : j < [v1, v2].toArray.size), SeqAt.EqAt A.in1 s [u1, u2].toArray[j] [v1, v2].toArray[j] ((fun j => if j = 0 then decide (a.1 = b.1) else decide (a.2 = b.2)) j) := by
      intro j h1 h2
      match j, h1 with
      | 0, _ => exact e1
      | 1, _ => exact e2
      | j + 2, h => exact absurd h (by simp)
    have ed : ((List.range (min [u1, u2].toArray.size [v1, v2].toArray.size)).all (fun j => if j = 0 then decide (a.1 = b.1) else decide (a.2 = b.2)) && [u1, u2].toArray.size == [v1, v2].toArray.size) = decide (a = b) := by
      apply Bool.eq_iff_iff.mpr
      rw [decide_eq_true_iff]
      constructor
      · intro h
        have h : (decide (a.1 = b.1) && (decide (a.2 = b.2) && true) && true) = true := h
        simp only [Bool.and_true, Bool.and_eq_true, decide_eq_true_iff] at h
        exact Prod.ext h.1 h.2
      · rintro rfl
        show (decide (a.1 = a.1) && (decide (a.2 = a.2) && true) && true) = true
        simp
    rw [← ed]
    exact ⟨SeqAt.RcAt.tuples plx ply (by omega) it, SeqAt.RcNeAt.tuples plx ply (by omega) it⟩
  refine ⟨fn, ?_, rc⟩
  intro X pins σ H s x y u v a b A hK I hu r1 r2 ha hb
  have h := (rc A hK I hu r1 r2 ha hb).1
  obtain ⟨l, x1, x2, rfl, h1, p1, p2⟩ := id ha
  obtain ⟨l', y1, y2, rfl, h2, q1, q2⟩ := id hb
  cases r1; cases r2
  by_cases e : l = l'
  · subst e
    have : a = b := fn hK I ha hb
    rw [decide_eq_true this]
    exact SeqAt.EqAt.same _
  · exact SeqAt.EqAt.of_refs e h
section
variable {X : Cx}
theorem op_eqD {k j : Nat} {α : Type} [DecidableEq α] {R : Hp → V → α → Prop} (E : EqTy X.K k R) (hr : Room j X.A) (hk : k ≤ 10) : OpR X (compareOp .Eq) (fun x y H Q => ∃ a b, R H x a ∧ R H y b ∧ Q (.bl (decide (a = b))) H) := by
  intro pins s σ H x y v u Q I rx ry h
  obtain ⟨a, b, h1, h2, q⟩ := h
  exact (E.rc X.A rfl I (by have := hr.un; omega) rx ry h1 h2).1 _ _ _ _ ⟨.bl _, H, I, rfl, q⟩
end
end L2
set_option Elab.async false
set_option linter.all false
set_option maxRecDepth 100000
set_option maxHeartbeats 4000000
namespace L2
open PySem PySem.Spec PyProof.Rows
class Rp (α : Type) where
  rel : PySem.W.Frag → Hp → V → α → Prop
  mono : ∀ {K : PySem.W.Frag} {H H' : Hp} {v : V} {a : α}, Same H H' → rel K H v a → rel K H' v a
theorem Same.rd {H H' : Hp} {a : Addr} {u : HO} (s : Same H H') (h : Rd H a u) : Rd H' a u := by
  rcases h with h | ⟨o, h⟩
  · exact .inl (s _ _ h)
  · exact .inr ⟨o, s _ _ h⟩
theorem Same.tup {K : PySem.W.Frag} {H H' : Hp} {a : Addr} {xs : List V} (e : Same H H') (h : SqT K H a xs) : SqT K H' a xs := by
  rcases h with h | h
  · exact .inl (e.rd h)
  · exact .inr h
noncomputable instance rpInt : Rp Int := ⟨fun _ _ v a => v = .int a, fun _ h => h⟩
noncomputable instance rpBool : Rp Bool := ⟨fun _ _ v a => v = .bl a, fun _ h => h⟩
noncomputable instance rpStr : Rp Str := ⟨fun _ _ v a => v = .str a ∧ a.length ≤ sizeLine, fun _ h => h⟩
noncomputable instance rpUnit : Rp Unit := ⟨fun _ _ v _ => v = .non, fun _ h => h⟩
noncomputable instance rpList {α : Type} [Rp α] : Rp (List α) :=
  ⟨fun K H v as => ∃ l xs, v = .ref l ∧ Rd H l (.lst xs) ∧ xs.length ≤ sizeLine ∧ Paired (Rp.rel K H) xs as,
   fun s ⟨l, xs, e, h, z, p⟩ => ⟨l, xs, e, s.rd h, z, Paired.imp' (fun _ _ r => Rp.mono s r) p⟩⟩
noncomputable instance rpPair {α β : Type} [Rp α] [Rp β] : Rp (α × β) :=
  ⟨fun K H v p => ∃ t a b, v = .ref t ∧ SqT K H t [a, b] ∧ Rp.rel K H a p.1 ∧ Rp.rel K H b p.2,
   fun s ⟨t, a, b, e, h, r1, r2⟩ => ⟨t, a, b, e, s.tup h, Rp.mono s r1, Rp.mono s r2⟩⟩
structure T3 (α β γ : Type) where
  a : α
  b : β
  c : γ
  deriving DecidableEq
structure Tp (α : Type) where
  l : List α
  deriving DecidableEq
noncomputable instance rpT3 {α β γ : Type} [Rp α] [Rp β] [Rp γ] : Rp (T3 α β γ) :=
  ⟨fun K H v p => ∃ t a b c, v = .ref t ∧ SqT K H t [a, b, c] ∧ Rp.rel K H a p.a ∧ Rp.rel K H b p.b ∧ Rp.rel K H c p.c,
   fun s ⟨t, a, b, c, e, h, r1, r2, r3⟩ => ⟨t, a, b, c, e, s.tup h, Rp.mono s r1, Rp.mono s r2, Rp.mono s r3⟩⟩
noncomputable instance rpTp {α : Type} [Rp α] : Rp (Tp α) :=
  ⟨fun K H v as => ∃ t xs, v = .ref t ∧ SqT K H t xs ∧ xs.length ≤ sizeLine ∧ Paired (Rp.rel K H) xs as.l,
   fun s ⟨l, xs, e, h, z, p⟩ => ⟨l, xs, e, s.tup h, z, Paired.imp' (fun _ _ r => Rp.mono s r) p⟩⟩
noncomputable instance rpOpt {α : Type} [Rp α] : Rp (Option α) :=
  ⟨fun K H v o => match o with | none => v = .non | some a => Rp.rel K H v a,
   fun {K H H' v o} s h => by cases o with | none => exact h | some a => exact Rp.mono (α := α) s h⟩
class RpA (α : Type) where
  n : Nat
  rel : PySem.W.Frag → Hp → List V → α → Prop
  mono : ∀ {K : PySem.W.Frag} {H H' : Hp} {v : List V} {a : α}, Same H H' → rel K H v a → rel K H' v a
  len : ∀ {K : PySem.W.Frag} {H : Hp} {v : List V} {a : α}, rel K H v a → v.length = n
noncomputable instance raNil : RpA Unit := ⟨0, fun _ _ vs _ => vs = [], fun _ h => h, fun h => by rw [h]; rfl⟩
noncomputable instance raCons {α β : Type} [Rp α] [RpA β] : RpA (α × β) :=
  ⟨RpA.n β + 1, fun K H vs p => ∃ v r, vs = v :: r ∧ Rp.rel K H v p.1 ∧ RpA.rel K H r p.2,
   fun s ⟨v, r, e, h1, h2⟩ => ⟨v, r, e, Rp.mono s h1, RpA.mono s h2⟩, fun ⟨v, r, e, h1, h2⟩ => by rw [e, List.length_cons, RpA.len h2]⟩
structure Ext (G H G' H' : Hp) : Prop where
  gg : Same G G'
  gh : Same G' H'
  hh : Same H H'
  no : ∀ b, G b = none → H b ≠ none → G' b = none
section
variable {G H G1 H1 G2 H2 G0 H0 : Hp} {p : Addr} {o : HO}
theorem Ext.refl (s : Same G H) : Ext G H G H := ⟨.refl _, s, .refl _, fun _ h _ => h⟩
theorem Ext.trans (x : Ext G H G1 H1) (y : Ext G1 H1 G2 H2) : Ext G H G2 H2 :=
  ⟨x.gg.trans y.gg, y.gh, x.hh.trans y.hh, fun b h1 h2 => y.no b (x.no b h1 h2) fun z => h2 (x.hh.free z)⟩
theorem Same.both (s : Same G H) : Same (upd G p o) (upd H p o) := fun b u e => by
  by_cases hb : b = p
  · subst hb
    rw [upd_same] at e ⊢
    exact e
  · rw [upd_ne hb] at e ⊢
    exact s b u e
theorem Ext.new (s : Same G H) (h : H p = none) : Ext G H (upd G p o) (upd H p o) :=
  ⟨Same.new (s.free h), s.both, Same.new h, fun b h1 h2 => by
    have hb : b ≠ p := fun z => h2 (by rw [z]; exact h)
    rw [upd_ne hb]
    exact h1⟩
theorem Ext.own (s : Same G H) (h : H p = none) : Ext G H G (upd H p o) := ⟨.refl _, s.trans (Same.new h), Same.new h, fun _ h _ => h⟩
theorem Ext.put (x : Ext G0 H0 G H) (h0 : H0 p = none) (hg : G p = none) : Ext G0 H0 G (upd H p o) := ⟨x.gg, x.gh.put hg, x.hh.put h0, x.no⟩
theorem Ext.frz (x : Ext G0 H0 G H) (h0 : H0 p = none) (hg : G p = none) (hh : H p = some o) : Ext G0 H0 (upd G p o) H :=
  ⟨x.gg.trans (Same.new hg), fun b u e => by
    by_cases hb : b = p
    · subst hb
      rw [upd_same] at e
      rw [hh]
      exact e
    · rw [upd_ne hb] at e
      exact x.gh b u e, x.hh, fun b h1 h2 => by
    have hb : b ≠ p := fun z => h2 (by rw [z]; exact h0)
    rw [upd_ne hb]
    exact x.no b h1 h2⟩
end
section
variable {K : PySem.W.Frag} {σ : St} {G : Hp}
noncomputable def EV (K : PySem.W.Frag) {α : Type} [Rp α] (te : TE) (σ : St) (G : Hp) (m : Option α) : Prop :=
  ∀ G1, Same G G1 → ∀ a, m = some a → ∀ H, Same G1 H → ∀ Q : VK, (∀ v G2 H2, Ext G1 H G2 H2 → Rp.rel K G2 v a → Q v H2) → te σ H Q
noncomputable def TV (t : TT) (σ : St) (G : Hp) (m : Option Bool) : Prop :=
  ∀ G1, Same G G1 → ∀ a, m = some a → ∀ H, Same G1 H → ∀ Q : Bool → Hp → Prop, (∀ G2 H2, Ext G1 H G2 H2 → Q a H2) → t σ H Q
noncomputable def AV (K : PySem.W.Frag) {α : Type} [RpA α] (t : TA) (σ : St) (G : Hp) (m : Option α) : Prop :=
  ∀ G1, Same G G1 → ∀ a, m = some a → ∀ H, Same G1 H → ∀ Q : List V → Hp → Prop, (∀ vs G2 H2, Ext G1 H G2 H2 → RpA.rel K G2 vs a → Q vs H2) → t σ H Q
noncomputable def LV (K : PySem.W.Frag) {α : Type} [Rp α] (t : TA) (σ : St) (G : Hp) (n : Nat) (m : Option (List α)) : Prop :=
  ∀ G1, Same G G1 → ∀ a, m = some a → ∀ H, Same G1 H → ∀ Q : List V → Hp → Prop, (∀ vs G2 H2, Ext G1 H G2 H2 → vs.length = n → Paired (Rp.rel K G2) vs a → Q vs H2) → t σ H Q
noncomputable def OV (t : TO) (σ : St) (G : Hp) (m : Option (Option Int)) : Prop :=
  ∀ G1, Same G G1 → ∀ a, m = some a → ∀ H, Same G1 H → ∀ Q : Option Int → Hp → Prop, (∀ G2 H2, Ext G1 H G2 H2 → Q a H2) → t σ H Q
noncomputable def FV (K : PySem.W.Frag) {α : Type} [Rp α] (te : TE) (σ : St) (G : Hp) (m : Option (List α)) : Prop :=
  ∀ G1, Same G G1 → ∀ a, m = some a → ∀ H, Same G1 H → ∀ Q : VK, (∀ p vs G2 H2, Ext G1 H G2 H2 → H p = none → G2 p = none → H2 p = some (.lst vs) → vs.length ≤ sizeLine → Paired (Rp.rel K G2) vs a → Q (.ref p) H2) → te σ H Q
section
variable {α β γ δ : Type} [Rp α] [Rp β] [Rp γ] [Rp δ] {ta tb tc td : TE} {ma : Option α} {mb : Option β} {mc : Option γ}
theorem EV.run {te : TE} {H : Hp} {a : α} {Q : VK} {m : Option α} (e : EV K te σ G m) (hm : m = some a) (s : Same G H) (k : ∀ v G2 H2, Ext G H G2 H2 → Rp.rel K G2 v a → Q v H2) : te σ H Q := e G (.refl G) a hm H s Q k
theorem TV.run {t : TT} {H : Hp} {a : Bool} {Q : Bool → Hp → Prop} {m : Option Bool} (e : TV t σ G m) (hm : m = some a) (s : Same G H) (k : ∀ G2 H2, Ext G H G2 H2 → Q a H2) : t σ H Q := e G (.refl G) a hm H s Q k
theorem EV.of {te : TE} {m m' : Option α} (e : EV K te σ G m) (h : m = m') : EV K te σ G m' := h ▸ e
theorem FV.ev {te : TE} {m : Option (List α)} (e : FV K te σ G m) : EV K te σ G m := by
  intro G1 s1 a ha H sH Q k
  refine e G1 s1 a ha H sH Q fun p vs G2 H2 x h0 hg hh hz hp => ?_
  exact k _ _ _ (x.frz h0 hg hh) ⟨p, vs, rfl, .inl upd_same, hz, Paired.imp' (fun _ _ r => Rp.mono (Same.new hg) r) hp⟩
theorem ev_var {i : Nat} {v : V} {a : α} (h : σ[i]? = some (some v)) (r : Rp.rel K G v a) : EV K (tVar i) σ G (some a) := fun G1 s a' e H sH Q k => by
  cases e
  exact ⟨v, h, k v G1 H (.refl sH) (Rp.mono s r)⟩
theorem ev_c {v : V} {a : α} (h : ∀ G, Rp.rel K G v a) : EV K (tC v) σ G (some a) := fun G1 s a' e H sH Q k => by
  cases e
  exact k v G1 H (.refl sH) (h _)
theorem ev_i {i : Int} : EV K (tC (.int i)) σ G (some i) := ev_c fun _ => rfl
theorem ev_b {b : Bool} : EV K (tC (.bl b)) σ G (some b) := ev_c fun _ => rfl
theorem ev_s {x : Str} (h : x.length ≤ sizeLine := by decide +kernel) : EV K (tC (.str x)) σ G (some x) := ev_c fun _ => ⟨rfl, h⟩
theorem ev_none : EV K (tC .non) σ G (some (none : Option α)) := ev_c fun _ => rfl
theorem ev_some {te : TE} {m : Option α} (e : EV K te σ G m) : EV K te σ G (m.bind fun a => some (some a)) := by
  intro G1 s1 c hc H sH Q k
  obtain ⟨a, ha, hc⟩ := Option.bind_eq_some_iff.mp hc
  cases hc
  exact e G1 s1 a ha H sH Q k
theorem ev_bin {r : R2} {f : α → β → Option γ}
    (h : ∀ {G H : Hp} {v u : V} {a : α} {b : β} {c : γ}, Same G H → Rp.rel K G v a → Rp.rel K G u b → f a b = some c → ∀ {Q : VK}, (∀ w G2 H2, Ext G H G2 H2 → Rp.rel K G2 w c → Q w H2) → r v u H Q)
    (ea : EV K ta σ G ma) (eb : EV K tb σ G mb) : EV K (tOp r ta tb) σ G (ma.bind fun a => mb.bind fun b => f a b) := by
  intro G1 s1 c hc H sH Q k
  obtain ⟨a, ha, hc⟩ := Option.bind_eq_some_iff.mp hc
  obtain ⟨b, hb, hc⟩ := Option.bind_eq_some_iff.mp hc
  refine ea G1 s1 a ha H sH _ fun v G2 H2 x2 r2 => ?_
  refine eb G2 (s1.trans x2.gg) b hb H2 x2.gh _ fun u G3 H3 x3 r3 => ?_
  exact h x3.gh (Rp.mono x3.gg r2) r3 hc fun w G4 H4 x4 r4 => k w G4 H4 ((x2.trans x3).trans x4) r4
theorem ev_un {r : V → Hp → VK → Prop} {f : α → Option γ}
    (h : ∀ {G H : Hp} {v : V} {a : α} {c : γ}, Same G H → Rp.rel K G v a → f a = some c → ∀ {Q : VK}, (∀ w G2 H2, Ext G H G2 H2 → Rp.rel K G2 w c → Q w H2) → r v H Q)
    (ea : EV K ta σ G ma) : EV K (tUn r ta) σ G (ma.bind fun a => f a) := by
  intro G1 s1 c hc H sH Q k
  obtain ⟨a, ha, hc⟩ := Option.bind_eq_some_iff.mp hc
  refine ea G1 s1 a ha H sH _ fun v G2 H2 x2 r2 => ?_
  exact h x2.gh r2 hc fun w G4 H4 x4 r4 => k w G4 H4 (x2.trans x4) r4
noncomputable instance decMul (i j : Int) : Decidable (CMul i j) := by unfold CMul; infer_instance
noncomputable instance decDiv (i j : Int) : Decidable (CDiv i j) := by unfold CDiv; infer_instance
noncomputable instance decPow (i j : Int) : Decidable (CPow i j) := by unfold CPow; infer_instance
noncomputable def mulO (a b : Int) : Option Int := if CMul a b then some (a * b) else none
noncomputable def divO (a b : Int) : Option Int := if CDiv a b then some (a / b) else none
noncomputable def modO (a b : Int) : Option Int := if 0 < b then some (a % b) else none
theorem ite_some {p : Prop} [Decidable p] {α : Type} {a c : α} (h : (if p then some a else none) = some c) : p ∧ a = c := by
  by_cases hp : p
  · rw [if_pos hp] at h
    exact ⟨hp, Option.some.inj h⟩
  · rw [if_neg hp] at h
    cases h
section
variable {ia ib : Option Int}
theorem ev_add (ea : EV K ta σ G ia) (eb : EV K tb σ G ib) : EV K (tOp (rPlus K) ta tb) σ G (ia.bind fun a => ib.bind fun b => some (a + b)) :=
  ev_bin (fun s ra rb e Q k => by cases ra; cases rb; cases e; exact k _ _ _ (.refl s) rfl) ea eb
theorem ev_sub (ea : EV K ta σ G ia) (eb : EV K tb σ G ib) : EV K (tOp (rI0 fun i j => .int (i - j)) ta tb) σ G (ia.bind fun a => ib.bind fun b => some (a - b)) :=
  ev_bin (fun s ra rb e Q k => by cases ra; cases rb; cases e; exact ⟨_, _, rfl, rfl, k _ _ _ (.refl s) rfl⟩) ea eb
theorem ev_mul (ea : EV K ta σ G ia) (eb : EV K tb σ G ib) : EV K (tOp (rMul K) ta tb) σ G (ia.bind fun a => ib.bind fun b => mulO a b) :=
  ev_bin (fun s ra rb e Q k => by cases ra; cases rb; obtain ⟨h, rfl⟩ := ite_some e; exact ⟨h, k _ _ _ (.refl s) rfl⟩) ea eb
theorem ev_mod (ea : EV K ta σ G ia) (eb : EV K tb σ G ib) : EV K (tOp (rI (fun _ j => 0 < j) fun i j => .int (i % j)) ta tb) σ G (ia.bind fun a => ib.bind fun b => modO a b) :=
  ev_bin (fun s ra rb e Q k => by cases ra; cases rb; obtain ⟨h, rfl⟩ := ite_some e; exact ⟨_, _, rfl, rfl, h, k _ _ _ (.refl s) rfl⟩) ea eb
theorem ev_div (ea : EV K ta σ G ia) (eb : EV K tb σ G ib) : EV K (tOp (rI CDiv fun i j => .int (i / j)) ta tb) σ G (ia.bind fun a => ib.bind fun b => divO a b) :=
  ev_bin (fun s ra rb e Q k => by cases ra; cases rb; obtain ⟨h, rfl⟩ := ite_some e; exact ⟨_, _, rfl, rfl, h, k _ _ _ (.refl s) rfl⟩) ea eb
theorem ev_neg (ea : EV K ta σ G ia) : EV K (tUn (rU fun i => .int (-i)) ta) σ G (ia.bind fun a => some (-a)) :=
  ev_un (fun s ra e Q k => by cases ra; cases e; exact ⟨_, rfl, k _ _ _ (.refl s) rfl⟩) ea
theorem ev_ord {p : Int → Int → Bool} {q : List Nat → List Nat → Bool} (ea : EV K ta σ G ia) (eb : EV K tb σ G ib) : EV K (tOp (rOrd p q) ta tb) σ G (ia.bind fun a => ib.bind fun b => some (p a b)) :=
  ev_bin (fun s ra rb e Q k => by cases ra; cases rb; cases e; exact k _ _ _ (.refl s) rfl) ea eb
theorem ev_eqI (ea : EV K ta σ G ia) (eb : EV K tb σ G ib) : EV K (tOp rEq ta tb) σ G (ia.bind fun a => ib.bind fun b => some (decide (a = b))) :=
  ev_bin (fun s ra rb e Q k => by cases ra; cases rb; cases e; exact ⟨rfl, k _ _ _ (.refl s) (by show V.bl _ = V.bl _; congr 1; simp)⟩) ea eb
theorem ev_neI (ea : EV K ta σ G ia) (eb : EV K tb σ G ib) : EV K (tOp rNe ta tb) σ G (ia.bind fun a => ib.bind fun b => some (!decide (a = b))) :=
  ev_bin (fun s ra rb e Q k => by cases ra; cases rb; cases e; exact ⟨rfl, k _ _ _ (.refl s) (by show V.bl _ = V.bl _; congr 1; simp)⟩) ea eb
end
section
variable {ba bb : Option Bool}
theorem ev_not (ea : EV K ta σ G ba) : EV K (tNotV ta) σ G (ba.bind fun a => some (!a)) := by
  intro G1 s1 c hc H sH Q k
  obtain ⟨a, ha, hc⟩ := Option.bind_eq_some_iff.mp hc
  cases hc
  refine ea G1 s1 a ha H sH _ fun v G2 H2 x2 r2 => ?_
  cases r2
  exact ⟨_, rfl, k _ _ _ x2 rfl⟩
theorem ev_and (ea : EV K ta σ G ba) (eb : EV K tb σ G bb) : EV K (tAndV ta tb) σ G (ba.bind fun a => cond a bb (some false)) := by
  intro G1 s1 c hc H sH Q k
  obtain ⟨a, ha, hc⟩ := Option.bind_eq_some_iff.mp hc
  refine ea G1 s1 a ha H sH _ fun v G2 H2 x2 r2 => ?_
  cases r2
  refine ⟨_, rfl, ?_⟩
  cases a with
  | false => cases hc; exact iteF (k _ _ _ x2 rfl)
  | true => exact iteT (eb G2 (s1.trans x2.gg) c hc H2 x2.gh _ fun u G3 H3 x3 r3 => k _ _ _ (x2.trans x3) r3)
theorem ev_ifx {tt : TT} {m1 m2 : Option α} (et : TV tt σ G ba) (ea : EV K ta σ G m1) (eb : EV K tb σ G m2) : EV K (tIf tt ta tb) σ G (ba.bind fun a => cond a m1 m2) := by
  intro G1 s1 c hc H sH Q k
  obtain ⟨a, ha, hc⟩ := Option.bind_eq_some_iff.mp hc
  refine et G1 s1 a ha H sH _ fun G2 H2 x2 => ?_
  cases a with
  | true => exact iteT (ea G2 (s1.trans x2.gg) c hc H2 x2.gh _ fun u G3 H3 x3 r3 => k _ _ _ (x2.trans x3) r3)
  | false => exact iteF (eb G2 (s1.trans x2.gg) c hc H2 x2.gh _ fun u G3 H3 x3 r3 => k _ _ _ (x2.trans x3) r3)
theorem tv_test (ea : EV K ta σ G ba) : TV (tTest ta) σ G ba := by
  intro G1 s1 c hc H sH Q k
  refine ea G1 s1 c hc H sH _ fun v G2 H2 x2 r2 => ?_
  cases r2
  exact ⟨_, rfl, k _ _ x2⟩
theorem tv_not {t : TT} (ea : TV t σ G ba) : TV (tNot t) σ G (ba.bind fun a => some (!a)) := by
  intro G1 s1 c hc H sH Q k
  obtain ⟨a, ha, hc⟩ := Option.bind_eq_some_iff.mp hc
  cases hc
  exact ea G1 s1 a ha H sH _ fun G2 H2 x2 => k _ _ x2
theorem tv_and {t u : TT} (ea : TV t σ G ba) (eb : TV u σ G bb) : TV (tAnd t u) σ G (ba.bind fun a => cond a bb (some false)) := by
  intro G1 s1 c hc H sH Q k
  obtain ⟨a, ha, hc⟩ := Option.bind_eq_some_iff.mp hc
  refine ea G1 s1 a ha H sH _ fun G2 H2 x2 => ?_
  cases a with
  | false => cases hc; exact iteF (k _ _ x2)
  | true => exact iteT (eb G2 (s1.trans x2.gg) c hc H2 x2.gh _ fun G3 H3 x3 => k _ _ (x2.trans x3))
theorem tv_or {t u : TT} (ea : TV t σ G ba) (eb : TV u σ G bb) : TV (tOr t u) σ G (ba.bind fun a => cond a (some true) bb) := by
  intro G1 s1 c hc H sH Q k
  obtain ⟨a, ha, hc⟩ := Option.bind_eq_some_iff.mp hc
  refine ea G1 s1 a ha H sH _ fun G2 H2 x2 => ?_
  cases a with
  | true => cases hc; exact iteT (k _ _ x2)
  | false => exact iteF (eb G2 (s1.trans x2.gg) c hc H2 x2.gh _ fun G3 H3 x3 => k _ _ (x2.trans x3))
theorem tv_tru {f : α → Bool} (h : ∀ {G : Hp} {v : V} {a : α}, Rp.rel K G v a → TruV K v G (f a)) (mn : ∀ {G H : Hp} {v : V} {k : Bool}, Same G H → TruV K v G k → TruV K v H k) (ea : EV K ta σ G ma) :
    TV (fun σ H Q => ta σ H fun x H' => ∃ k, TruV K x H' k ∧ Q k H') σ G (ma.bind fun a => some (f a)) := by
  intro G1 s1 c hc H sH Q k
  obtain ⟨a, ha, hc⟩ := Option.bind_eq_some_iff.mp hc
  cases hc
  refine ea G1 s1 a ha H sH _ fun v G2 H2 x2 r2 => ?_
  exact ⟨_, mn x2.gh (h r2), k _ _ x2⟩
end
end
end
end L2
set_option Elab.async false
set_option linter.all false
set_option maxRecDepth 100000
set_option maxHeartbeats 4000000
namespace L2
open PySem PySem.Spec PyProof.Rows
section
variable {K : PySem.W.Frag} {σ : St} {G : Hp} {α β γ δ : Type} [Rp α] [Rp β] [Rp γ] [Rp δ] {ta tb tc td : TE} {ma : Option α} {mb : Option β} {mc : Option γ} {md : Option δ}
section
variable {sa sb : Option Str} {ia ib : Option Int}
theorem ev_eqS (ea : EV K ta σ G sa) (eb : EV K tb σ G sb) : EV K (tOp rEq ta tb) σ G (sa.bind fun a => sb.bind fun b => some (decide (a = b))) :=
  ev_bin (fun s ra rb e Q k => by obtain ⟨rfl, z1⟩ := ra; obtain ⟨rfl, z2⟩ := rb; cases e; exact ⟨rfl, k _ _ _ (.refl s) (by show V.bl _ = V.bl _; congr 1; simp)⟩) ea eb
theorem ev_neS (ea : EV K ta σ G sa) (eb : EV K tb σ G sb) : EV K (tOp rNe ta tb) σ G (sa.bind fun a => sb.bind fun b => some (!decide (a = b))) :=
  ev_bin (fun s ra rb e Q k => by obtain ⟨rfl, z1⟩ := ra; obtain ⟨rfl, z2⟩ := rb; cases e; exact ⟨rfl, k _ _ _ (.refl s) (by show V.bl _ = V.bl _; congr 1; simp)⟩) ea eb
theorem ev_atS (ea : EV K ta σ G sa) (eb : EV K tb σ G ib) : EV K (tOp (rAt K) ta tb) σ G (sa.bind fun a => ib.bind fun i => (atI a.cps.toList i).bind fun c => some (⟨#[c]⟩ : Str)) :=
  ev_bin (fun s ra rb e Q k => by
    obtain ⟨rfl, z1⟩ := ra; cases rb
    obtain ⟨c, hc, e⟩ := Option.bind_eq_some_iff.mp e
    cases e
    exact ⟨z1, c, hc, k _ _ _ (.refl s) ⟨rfl, by show 1 ≤ sizeLine; decide⟩⟩) ea eb
end
theorem paired_atI {R : V → α → Prop} {xs : List V} {as : List α} {i : Int} {a : α} (p : Paired R xs as) (h : atI as i = some a) : ∃ v, atI xs i = some v ∧ R v a := by
  have hl := Paired.length p
  unfold atI at h ⊢
  obtain ⟨j, hj, h⟩ := Option.bind_eq_some_iff.mp h
  rw [hl, hj]
  have hlt : j < xs.length := by
    have := (List.getElem?_eq_some_iff.mp h).1
    omega
  exact ⟨xs[j], List.getElem?_eq_getElem hlt, Paired.at' p (List.getElem?_eq_getElem hlt) h⟩
theorem Paired.app {α β : Type} {F : α → β → Prop} : ∀ {l1 l2 : List α} {m1 m2 : List β}, Paired F l1 m1 → Paired F l2 m2 → Paired F (l1 ++ l2) (m1 ++ m2)
  | _, _, _, _, .nil, h => h
  | _, _, _, _, .cons r t, h => .cons r (Paired.app t h)
theorem Paired.tk {α β : Type} {F : α → β → Prop} : ∀ (n : Nat) {l : List α} {m : List β}, Paired F l m → Paired F (l.take n) (m.take n)
  | 0, _, _, _ => by simpa using .nil
  | n + 1, _, _, .nil => by simpa using .nil
  | n + 1, _, _, .cons r t => .cons r (Paired.tk n t)
theorem Paired.dp {α β : Type} {F : α → β → Prop} : ∀ (n : Nat) {l : List α} {m : List β}, Paired F l m → Paired F (l.drop n) (m.drop n)
  | 0, _, _, h => h
  | n + 1, _, _, .nil => by simpa using .nil
  | n + 1, _, _, .cons r t => Paired.dp n t
theorem Paired.rep {α β : Type} {F : α → β → Prop} {l : List α} {m : List β} (h : Paired F l m) : ∀ n : Nat, Paired F (List.replicate n l).flatten (List.replicate n m).flatten
  | 0 => .nil
  | n + 1 => by
    rw [List.replicate_succ, List.replicate_succ, List.flatten_cons, List.flatten_cons]
    exact Paired.app h (Paired.rep h n)
theorem Paired.st {α β : Type} {F : α → β → Prop} {a : α} {b : β} (r : F a b) : ∀ {l : List α} {m : List β} (j : Nat), Paired F l m → Paired F (l.set j a) (m.set j b)
  | _, _, _, .nil => .nil
  | _, _, 0, .cons _ t => .cons r t
  | _, _, j + 1, .cons q t => .cons q (Paired.st r j t)
section
variable {la lb : Option (List α)} {ia ib : Option Int}
theorem ev_at (ea : EV K ta σ G la) (eb : EV K tb σ G ib) : EV K (tOp (rAt K) ta tb) σ G (la.bind fun a => ib.bind fun i => atI a i) :=
  ev_bin (fun s ra rb e Q k => by
    obtain ⟨l, xs, rfl, h, z, p⟩ := ra; cases rb
    obtain ⟨v, hv, r⟩ := paired_atI p e
    exact .inl ⟨xs, v, .inl (s.rd h), hv, k _ _ _ (.refl s) r⟩) ea eb
theorem ev_atT {pa : Option (Tp α)} (ea : EV K ta σ G pa) (eb : EV K tb σ G ib) : EV K (tOp (rAt K) ta tb) σ G (pa.bind fun a => ib.bind fun i => atI a.l i) :=
  ev_bin (fun s ra rb e Q k => by
    obtain ⟨l, xs, rfl, h, z, p⟩ := ra; cases rb
    obtain ⟨v, hv, r⟩ := paired_atI p e
    exact .inr ⟨xs, v, s.tup h, hv, k _ _ _ (.refl s) r⟩) ea eb
theorem ev_part {τ : Type} [Rp τ] {mt : Option τ} {i : Int} {f : τ → α} (h : ∀ {G : Hp} {v : V} {p : τ}, Rp.rel K G v p → ∃ t xs w, v = .ref t ∧ SqT K G t xs ∧ atI xs i = some w ∧ Rp.rel K G w (f p)) (ea : EV K ta σ G mt) :
    EV K (tOp (rAt K) ta (tC (.int i))) σ G (mt.bind fun p => some (f p)) := by
  intro G1 s1 c hc H sH Q k
  obtain ⟨a, ha, hc⟩ := Option.bind_eq_some_iff.mp hc
  cases hc
  refine ea G1 s1 a ha H sH _ fun v G2 H2 x2 r2 => ?_
  obtain ⟨t, xs, w, rfl, ht, hw, r⟩ := h r2
  exact .inr ⟨xs, w, x2.gh.tup ht, hw, k _ _ _ x2 r⟩
theorem ev_fst {mt : Option (α × β)} (ea : EV K ta σ G mt) : EV K (tOp (rAt K) ta (tC (.int 0))) σ G (mt.bind fun p => some p.1) :=
  ev_part (τ := α × β) (fun ⟨t, a, b, e, h, r1, r2⟩ => ⟨t, _, a, e, h, rfl, r1⟩) ea
theorem ev_snd {mt : Option (α × β)} (ea : EV K ta σ G mt) : EV K (tOp (rAt K) ta (tC (.int 1))) σ G (mt.bind fun p => some p.2) :=
  ev_part (τ := α × β) (fun ⟨t, a, b, e, h, r1, r2⟩ => ⟨t, _, b, e, h, rfl, r2⟩) ea
theorem fv_of {H : Hp} {Q : VK} {as : List α} {G1 : Hp} (s : Same G1 H) {vs : List V} (hz : vs.length ≤ sizeLine) (hp : Paired (Rp.rel K G1) vs as)
    (k : ∀ p vs G2 H2, Ext G1 H G2 H2 → H p = none → G2 p = none → H2 p = some (.lst vs) → vs.length ≤ sizeLine → Paired (Rp.rel K G2) vs as → Q (.ref p) H2) : ∀ p, H p = none → Q (.ref p) (upd H p (.lst vs)) :=
  fun p h => k p vs G1 _ (.own s h) h (s.free h) upd_same hz hp
theorem FV.mono {H H' G1 G2 : Hp} {as : List α} {Q : VK} (x : Ext G1 H G2 H')
    (k : ∀ p vs G3 H3, Ext G1 H G3 H3 → H p = none → G3 p = none → H3 p = some (.lst vs) → vs.length ≤ sizeLine → Paired (Rp.rel K G3) vs as → Q (.ref p) H3) :
    ∀ p vs G3 H3, Ext G2 H' G3 H3 → H' p = none → G3 p = none → H3 p = some (.lst vs) → vs.length ≤ sizeLine → Paired (Rp.rel K G3) vs as → Q (.ref p) H3 :=
  fun p vs G3 H3 y h0 => k p vs G3 H3 (x.trans y) (x.hh.free h0)
noncomputable def cutA {α : Type} (xs : List α) (lo hi : Option Int) : List α := (xs.drop (HT.sIx xs.length 0 lo)).take (HT.sIx xs.length xs.length hi - HT.sIx xs.length 0 lo)
theorem Paired.cut {α : Type} {R : V → α → Prop} {xs : List V} {as : List α} (p : Paired R xs as) (lo hi : Option Int) : Paired R (cutV xs lo hi) (cutA as lo hi) := by
  unfold cutV cutA
  rw [Paired.length p]
  exact Paired.tk _ (Paired.dp _ p)
section
variable {t1 t2 : TO} {m1 m2 : Option (Option Int)}
theorem ov_none : OV tNoPart σ G (some none) := fun G1 s1 a ha H sH Q k => by
  cases ha
  exact k _ _ (.refl sH)
theorem ov_some (ea : EV K ta σ G ia) : OV (tPart ta) σ G (ia.bind fun i => some (some i)) := by
  intro G1 s1 c hc H sH Q k
  obtain ⟨a, ha, hc⟩ := Option.bind_eq_some_iff.mp hc
  cases hc
  refine ea G1 s1 a ha H sH _ fun v G2 H2 x2 r2 => ?_
  cases r2
  exact ⟨_, rfl, k _ _ x2⟩
theorem fv_slice (ea : EV K ta σ G la) (e1 : OV t1 σ G m1) (e2 : OV t2 σ G m2) : FV K (tSl (rSl K) ta t1 t2) σ G (la.bind fun a => m1.bind fun lo => m2.bind fun hi => some (cutA a lo hi)) := by
  intro G1 s1 c hc H sH Q k
  obtain ⟨a, ha, hc⟩ := Option.bind_eq_some_iff.mp hc
  obtain ⟨lo, hlo, hc⟩ := Option.bind_eq_some_iff.mp hc
  obtain ⟨hi, hhi, hc⟩ := Option.bind_eq_some_iff.mp hc
  cases hc
  refine ea G1 s1 a ha H sH _ fun v G2 H2 x2 r2 => ?_
  refine e1 G2 (s1.trans x2.gg) lo hlo H2 x2.gh _ fun G3 H3 x3 => ?_
  refine e2 G3 (s1.trans (x2.trans x3).gg) hi hhi H3 x3.gh _ fun G4 H4 x4 => ?_
  obtain ⟨l, xs, rfl, h, z, p⟩ := Rp.mono (x3.trans x4).gg r2
  exact ⟨xs, .inl (x4.gh.rd h), fv_of x4.gh (Nat.le_trans (cutV_length _ _ _) z) (Paired.cut p lo hi) (FV.mono ((x2.trans x3).trans x4) k)⟩
end
end
section
variable {t : TA} {n : Nat} {ml : Option (List α)}
theorem lv_nil : LV K tNil σ G 0 (some ([] : List α)) := fun G1 s1 a ha H sH Q k => by
  cases ha
  exact k _ _ _ (.refl sH) rfl .nil
theorem lv_cons (ea : EV K ta σ G ma) (er : LV K t σ G n ml) : LV K (tCons ta t) σ G (n + 1) (ma.bind fun a => ml.bind fun r => some (a :: r)) := by
  intro G1 s1 c hc H sH Q k
  obtain ⟨a, ha, hc⟩ := Option.bind_eq_some_iff.mp hc
  obtain ⟨r, hr, hc⟩ := Option.bind_eq_some_iff.mp hc
  cases hc
  refine ea G1 s1 a ha H sH _ fun v G2 H2 x2 r2 => ?_
  refine er G2 (s1.trans x2.gg) r hr H2 x2.gh _ fun vs G3 H3 x3 hl hp => ?_
  exact k _ _ _ (x2.trans x3) (by rw [List.length_cons, hl]) (.cons (Rp.mono x3.gg r2) hp)
theorem fv_lst (e : LV K t σ G n ml) (hn : n ≤ sizeLine := by decide) : FV K (tLst t) σ G ml := by
  intro G1 s1 c hc H sH Q k
  refine e G1 s1 c hc H sH _ fun vs G2 H2 x2 hl hp => ?_
  exact ⟨by omega, fv_of x2.gh (by omega) hp (FV.mono x2 k)⟩
theorem ev_tupL (e : LV K t σ G n ml) (hn : n ≤ sizeLine := by decide) : EV K (tTup t) σ G (ml.bind fun l => some (Tp.mk l)) := by
  intro G1 s1 c hc H sH Q k
  obtain ⟨l, hl, hc⟩ := Option.bind_eq_some_iff.mp hc
  cases hc
  refine e G1 s1 l hl H sH _ fun vs G2 H2 x2 hl hp => ⟨by omega, fun p h => ?_⟩
  exact k _ _ _ (x2.trans (.new x2.gh h)) ⟨p, vs, rfl, SqT.of upd_same, by omega, Paired.imp' (fun _ _ r => Rp.mono (Same.new (x2.gh.free h)) r) hp⟩
theorem ev_tup2 (ea : EV K ta σ G ma) (eb : EV K tb σ G mb) : EV K (tTup (tCons ta (tCons tb tNil))) σ G (ma.bind fun a => mb.bind fun b => some (a, b)) := by
  intro G1 s1 c hc H sH Q k
  obtain ⟨a, ha, hc⟩ := Option.bind_eq_some_iff.mp hc
  obtain ⟨b, hb, hc⟩ := Option.bind_eq_some_iff.mp hc
  cases hc
  refine ea G1 s1 a ha H sH _ fun v G2 H2 x2 r2 => ?_
  refine eb G2 (s1.trans x2.gg) b hb H2 x2.gh _ fun u G3 H3 x3 r3 => ⟨by show 2 ≤ sizeLine; decide, fun p h => ?_⟩
  have s := Same.new (o := .tup [v, u]) (x3.gh.free h)
  exact k _ _ _ ((x2.trans x3).trans (.new x3.gh h)) ⟨p, v, u, rfl, SqT.of upd_same, Rp.mono (x3.gg.trans s) r2, Rp.mono s r3⟩
end
section
variable {t : TA} {A B : Type} [RpA A] [RpA B] {mA : Option A}
theorem av_nil : AV K tNil σ G (some ()) := fun G1 s1 a ha H sH Q k => by
  cases ha
  exact k _ _ _ (.refl sH) rfl
theorem av_cons (ea : EV K ta σ G ma) (er : AV K t σ G mA) : AV K (tCons ta t) σ G (ma.bind fun a => mA.bind fun r => some (a, r)) := by
  intro G1 s1 c hc H sH Q k
  obtain ⟨a, ha, hc⟩ := Option.bind_eq_some_iff.mp hc
  obtain ⟨r, hr, hc⟩ := Option.bind_eq_some_iff.mp hc
  cases hc
  refine ea G1 s1 a ha H sH _ fun v G2 H2 x2 r2 => ?_
  refine er G2 (s1.trans x2.gg) r hr H2 x2.gh _ fun vs G3 H3 x3 hp => ?_
  exact k _ _ _ (x2.trans x3) ⟨v, vs, rfl, Rp.mono x3.gg r2, hp⟩
noncomputable def spM (K : PySem.W.Frag) {A : Type} {ρ : Type} [RpA A] [Rp ρ] (m : A → Option ρ) : Sp := fun vs H Q _ =>
  ∃ G a r, Same G H ∧ RpA.rel K G vs a ∧ m a = some r ∧ ∀ v G2 H2, Ext G H G2 H2 → Rp.rel K G2 v r → Q v H2
theorem spM_len {A : Type} {ρ : Type} [RpA A] [Rp ρ] {m : A → Option ρ} {vs : List V} {H : Hp} {Q : VK} {E : XK} (h : spM K m vs H Q E) : vs.length = RpA.n A := by
  obtain ⟨G, a, r, _, h, _⟩ := h
  exact RpA.len h
theorem ev_def {m : A → Option α} (ea : AV K t σ G mA) : EV K (tCall (spM K m) [] E0 t) σ G (mA.bind fun a => m a) := by
  intro G1 s1 c hc H sH Q k
  obtain ⟨a, ha, hc⟩ := Option.bind_eq_some_iff.mp hc
  refine ea G1 s1 a ha H sH _ fun vs G2 H2 x2 hp => ?_
  show spM K m (vs ++ []) H2 Q E0
  rw [List.append_nil]
  exact ⟨G2, a, c, x2.gh, hp, hc, fun v G3 H3 x3 r3 => k v G3 H3 (x2.trans x3) r3⟩
theorem ev_len {la : Option (List α)} (ea : EV K ta σ G la) : EV K (tCB (rLen K) (tCons ta tNil)) σ G (la.bind fun a => some (a.length : Int)) := by
  intro G1 s1 c hc H sH Q k
  obtain ⟨a, ha, hc⟩ := Option.bind_eq_some_iff.mp hc
  cases hc
  refine ea G1 s1 a ha H sH _ fun v G2 H2 x2 r2 => ?_
  obtain ⟨l, xs, rfl, h, z, p⟩ := r2
  exact ⟨xs, .inl (.inl (x2.gh.rd h)), by rw [Paired.length p]; exact k _ _ _ x2 rfl⟩
theorem ev_lenT {la : Option (Tp α)} (ea : EV K ta σ G la) : EV K (tCB (rLen K) (tCons ta tNil)) σ G (la.bind fun a => some (a.l.length : Int)) := by
  intro G1 s1 c hc H sH Q k
  obtain ⟨a, ha, hc⟩ := Option.bind_eq_some_iff.mp hc
  cases hc
  refine ea G1 s1 a ha H sH _ fun v G2 H2 x2 r2 => ?_
  obtain ⟨l, xs, rfl, h, z, p⟩ := r2
  exact ⟨xs, .inr (x2.gh.tup h), by rw [Paired.length p]; exact k _ _ _ x2 rfl⟩
theorem ev_len2 {la : Option (α × β)} (ea : EV K ta σ G la) : EV K (tCB (rLen K) (tCons ta tNil)) σ G (la.bind fun _ => some (2 : Int)) := by
  intro G1 s1 c hc H sH Q k
  obtain ⟨a, ha, hc⟩ := Option.bind_eq_some_iff.mp hc
  cases hc
  refine ea G1 s1 a ha H sH _ fun v G2 H2 x2 r2 => ?_
  obtain ⟨t, x, y, rfl, h, _⟩ := r2
  exact ⟨_, .inr (x2.gh.tup h), k _ _ _ x2 rfl⟩
theorem ev_max {ia ib : Option Int} (ea : EV K ta σ G ia) (eb : EV K tb σ G ib) : EV K (tCB (fun xs H Q => ∃ i j, xs = [.int i, .int j] ∧ Q (.int (if j > i then j else i)) H) (tCons ta (tCons tb tNil))) σ G (ia.bind fun a => ib.bind fun b => some (if b > a then b else a)) := by
  intro G1 s1 c hc H sH Q k
  obtain ⟨a, ha, hc⟩ := Option.bind_eq_some_iff.mp hc
  obtain ⟨b, hb, hc⟩ := Option.bind_eq_some_iff.mp hc
  cases hc
  refine ea G1 s1 a ha H sH _ fun v G2 H2 x2 r2 => ?_
  refine eb G2 (s1.trans x2.gg) b hb H2 x2.gh _ fun u G3 H3 x3 r3 => ?_
  cases r2; cases r3
  exact ⟨_, _, rfl, k _ _ _ (x2.trans x3) rfl⟩
theorem fv_list {la : Option (List α)} (ea : EV K ta σ G la) : FV K (tCB (fun xs H Q => ∃ p ys, xs = [.ref p] ∧ (SqL K H p ys ∨ SqT K H p ys) ∧ ∀ l, H l = none → Q (.ref l) (upd H l (.lst ys))) (tCons ta tNil)) σ G la := by
  intro G1 s1 a ha H sH Q k
  refine ea G1 s1 a ha H sH _ fun v G2 H2 x2 r2 => ?_
  obtain ⟨l, xs, rfl, h, z, p⟩ := r2
  exact ⟨l, xs, rfl, .inl (.inl (x2.gh.rd h)), fv_of x2.gh z p (FV.mono x2 k)⟩
end
inductive TyS (K : PySem.W.Frag) (H : Hp) : V → String → Prop where
  | non : TyS K H .non "NoneType"
  | bl (x : Bool) : TyS K H (.bl x) "bool"
  | int (i : Int) : TyS K H (.int i) "int"
  | str (x : Str) : TyS K H (.str x) "str"
  | lst {a : Addr} {xs : List V} (e : SqL K H a xs) : TyS K H (.ref a) "list"
  | tup {a : Addr} {xs : List V} (e : SqT K H a xs) : TyS K H (.ref a) "tuple"
  | dK {a : Addr} {kvs : List (Key × V)} (e : Rd H a (.dK kvs)) : TyS K H (.ref a) "dict"
  | dT {a : Addr} {kvs : List (List Key × V)} (e : Rd H a (.dT kvs)) : TyS K H (.ref a) "dict"
noncomputable def rInst (K : PySem.W.Frag) : List V → Hp → VK → Prop := fun vs H Q => ∃ x t T b, vs = [x, .ty T] ∧ TyS K H x t ∧ kitC t T = some b ∧ Q (.bl b) H
theorem call_inst {X : Cx} : CallR X (.builtin "isinstance") (rInst X.K) := by
  intro pins s σ H vs us Q I r h
  obtain ⟨x, t, T, b, rfl, ty, e, q⟩ := h
  obtain ⟨u, w', rfl, rx, r2⟩ := vals2 r
  obtain rfl : w' = Value.type T := r2
  have e := kit_of (K := X.K) e
  have fin : ∀ tk, EP X pins σ Q (.bool b) { s with toks := tk } := fun tk => ⟨.bl b, H, I.tok tk, rfl, q⟩
  cases ty with
  | non => cases (show u = Value.none from rx); exact PySem.W.kia_one PySem.W.kitx_none I.kIn True.intro e (fun z => nomatch z) fin
  | bl y => cases (show u = Value.bool y from rx); exact PySem.W.kia_one PySem.W.kitx_bool I.kIn True.intro e (fun z => nomatch z) fin
  | int i => obtain ⟨t, q'⟩ := (show ∃ t, u = Value.int i t from rx); cases q'; exact PySem.W.kia_one PySem.W.kitx_int I.kIn True.intro e (fun z => nomatch z) fin
  | str y => obtain ⟨t, q'⟩ := (show ∃ t, u = Value.str y t from rx); cases q'; exact PySem.W.kia_one PySem.W.kitx_str I.kIn True.intro e (fun z => nomatch z) fin
  | @lst a xs ea =>
    cases (show u = Value.ref a from rx)
    obtain ⟨its, _, pl, _⟩ := I.list ea
    obtain ⟨o, n, h1, h2, _⟩ := pl
    exact PySem.W.kia_one PySem.W.kitx_list I.kIn ⟨o, h1, h2⟩ e (fun z => nomatch z) fin
  | @tup a xs ea =>
    cases (show u = Value.ref a from rx)
    obtain ⟨its, _, pl, _⟩ := I.tuple ea
    obtain ⟨o, h1, h2, _⟩ := pl
    exact PySem.W.kia_one PySem.W.kitx_tuple I.kIn ⟨o, h1, h2⟩ e (fun z => nomatch z) fin
  | @dK a kvs ea =>
    cases (show u = Value.ref a from rx)
    obtain ⟨_, _, vs, _, p⟩ := ea.ok I.hok
    obtain ⟨o, es, ep, h1, h2, _⟩ := p
    exact PySem.W.kia_one PySem.W.kitx_dict I.kIn ⟨o, h1, h2.1⟩ e (fun z => nomatch z) fin
  | @dT a kvs ea =>
    cases (show u = Value.ref a from rx)
    obtain ⟨_, _, xs, _, o, es, ep, h1, h2, _⟩ := ea.ok I.hok
    exact PySem.W.kia_one PySem.W.kitx_dict I.kIn ⟨o, h1, h2.1⟩ e (fun z => nomatch z) fin
class RpT (α : Type) [Rp α] where
  tn : String
  ty : ∀ {K : PySem.W.Frag} {H : Hp} {v : V} {a : α}, Rp.rel K H v a → TyS K H v tn
noncomputable instance rtInt : RpT Int := ⟨"int", fun h => by cases h; exact .int _⟩
noncomputable instance rtBool : RpT Bool := ⟨"bool", fun h => by cases h; exact .bl _⟩
noncomputable instance rtStr : RpT Str := ⟨"str", fun h => by obtain ⟨rfl, _⟩ := h; exact .str _⟩
noncomputable instance rtUnit : RpT Unit := ⟨"NoneType", fun h => by cases h; exact .non⟩
noncomputable instance rtList : RpT (List α) := ⟨"list", fun h => by obtain ⟨l, xs, rfl, h, _⟩ := h; exact .lst (.inl h)⟩
noncomputable instance rtPair : RpT (α × β) := ⟨"tuple", fun h => by obtain ⟨l, x, y, rfl, h, _⟩ := h; exact .tup h⟩
noncomputable instance rtT3 : RpT (T3 α β γ) := ⟨"tuple", fun h => by obtain ⟨l, x, y, z, rfl, h, _⟩ := h; exact .tup h⟩
noncomputable instance rtTp : RpT (Tp α) := ⟨"tuple", fun h => by obtain ⟨l, xs, rfl, h, _⟩ := h; exact .tup h⟩
theorem TyS.mono {H H' : Hp} {v : V} {t : String} (s : Same H H') (h : TyS K H v t) : TyS K H' v t := by
  cases h with
  | non => exact .non
  | bl => exact .bl _
  | int => exact .int _
  | str => exact .str _
  | lst e => exact .lst (s.seq e)
  | tup e => exact .tup (s.tup e)
  | dK e => exact .dK (s.rd e)
  | dT e => exact .dT (s.rd e)
theorem ev_inst [RpT α] {T : String} {b : Bool} (h : kitC (RpT.tn α) T = some b) (ea : EV K ta σ G ma) : EV K (tCB (rInst K) (tCons ta (tCons (tC (.ty T)) tNil))) σ G (ma.bind fun _ => some b) := by
  intro G1 s1 c hc H sH Q k
  obtain ⟨a, ha, hc⟩ := Option.bind_eq_some_iff.mp hc
  cases hc
  refine ea G1 s1 a ha H sH _ fun v G2 H2 x2 r2 => ?_
  exact ⟨_, _, _, _, rfl, (RpT.ty r2).mono x2.gh, h, k _ _ _ x2 rfl⟩
theorem EqTy.imp {k : Nat} {α : Type} [DecidableEq α] {R R' : Hp → V → α → Prop} (E : EqTy K k R) (h : ∀ H v a, R' H v a → R H v a) : EqTy K k R' :=
  ⟨fun hK I a b => E.fn hK I (h _ _ _ a) (h _ _ _ b), fun A hK I hu r1 r2 a b => E.eq A hK I hu r1 r2 (h _ _ _ a) (h _ _ _ b), fun A hK I hu r1 r2 a b => E.rc A hK I hu r1 r2 (h _ _ _ a) (h _ _ _ b)⟩
class RpE (α : Type) [Rp α] [DecidableEq α] where
  k : Nat
  ty : ∀ K : PySem.W.Frag, EqTy K k (Rp.rel (α := α) K)
noncomputable instance reInt : RpE Int := ⟨0, fun _ => eqInt⟩
noncomputable instance reBool : RpE Bool := ⟨0, fun _ => eqBl⟩
noncomputable instance reStr : RpE Str := ⟨0, fun _ => eqStr.imp fun _ _ _ h => h.1⟩
noncomputable instance reList {α : Type} [Rp α] [DecidableEq α] [RpE α] : RpE (List α) := ⟨RpE.k α + 1, fun K => (eqLst (RpE.ty K)).imp fun _ _ _ ⟨l, xs, e, h, _, p⟩ => ⟨l, xs, e, .inl h, p⟩⟩
theorem EqTy.up {k j : Nat} {α : Type} [DecidableEq α] {R : Hp → V → α → Prop} (E : EqTy K k R) (h : k ≤ j) : EqTy K j R :=
  ⟨fun hK I a b => E.fn hK I a b, fun A hK I hu r1 r2 a b => E.eq A hK I (by omega) r1 r2 a b, fun A hK I hu r1 r2 a b => E.rc A hK I (by omega) r1 r2 a b⟩
noncomputable instance rePair {α β : Type} [Rp α] [DecidableEq α] [RpE α] [Rp β] [DecidableEq β] [RpE β] : RpE (α × β) :=
  ⟨max (RpE.k α) (RpE.k β) + 1, fun K => (eqPair ((RpE.ty (α := α) K).up (Nat.le_max_left _ _)) ((RpE.ty (α := β) K).up (Nat.le_max_right _ _)))⟩
section
variable {α : Type} [Rp α] [DecidableEq α] {m1 m2 : Option α}
noncomputable def rEqD (K : PySem.W.Frag) (α : Type) [Rp α] [DecidableEq α] : R2 := fun x y H Q => ∃ a b : α, Rp.rel K H x a ∧ Rp.rel K H y b ∧ Q (.bl (decide (a = b))) H
theorem op_eqM {X : Cx} {j : Nat} (α : Type) [Rp α] [DecidableEq α] [RpE α] (hr : Room j X.A) (hk : RpE.k α ≤ 10) : OpR X (compareOp .Eq) (rEqD X.K α) := op_eqD (RpE.ty X.K) hr hk
theorem ev_eq (ea : EV K ta σ G m1) (eb : EV K tb σ G m2) : EV K (tOp (rEqD K α) ta tb) σ G (m1.bind fun a => m2.bind fun b => some (decide (a = b))) :=
  ev_bin (fun s ra rb e Q k => by cases e; exact ⟨_, _, Rp.mono s ra, Rp.mono s rb, k _ _ _ (.refl s) rfl⟩) ea eb
end
end
end L2
set_option Elab.async false
set_option linter.all false
set_option maxRecDepth 100000
set_option maxHeartbeats 4000000
namespace L2
open PySem PySem.Spec PyProof.Rows
inductive Fl (S ρ : Type) where
  | nx (s : S)
  | bk (s : S)
  | rt (r : ρ)
noncomputable def forO {α S ρ : Type} (f : α → S → Option (Fl S ρ)) : List α → S → Option (Fl S ρ)
  | [], s => some (.nx s)
  | a :: as, s => (f a s).bind fun fl => match fl with
    | .nx s' => forO f as s'
    | .bk s' => some (.nx s')
    | .rt r => some (.rt r)
noncomputable def whileN {S ρ : Type} (c : S → Option Bool) (f : S → Option (Fl S ρ)) : Nat → S → Option (Fl S ρ)
  | 0, _ => none
  | n + 1, s => (c s).bind fun b => cond b ((f s).bind fun fl => match fl with
    | .nx s' => whileN c f n s'
    | .bk s' => some (.nx s')
    | .rt r => some (.rt r)) (some (.nx s))
noncomputable def fuelW : Nat := 16777216
noncomputable def compO {α β : Type} (fc : α → Option Bool) (fe : α → Option β) : List α → Option (List β)
  | [] => some []
  | a :: r => (fc a).bind fun b => cond b ((fe a).bind fun y => (compO fc fe r).bind fun ys => some (y :: ys)) (compO fc fe r)
noncomputable def mapO {α β : Type} (fe : α → Option β) : List α → Option (List β)
  | [] => some []
  | a :: r => (fe a).bind fun y => (mapO fe r).bind fun ys => some (y :: ys)
theorem compO_true {α β : Type} (fe : α → Option β) : ∀ as, compO (fun _ => some true) fe as = mapO fe as
  | [] => rfl
  | a :: r => by
    show ((fe a).bind fun y => (compO (fun _ => some true) fe r).bind fun ys => some (y :: ys)) = _
    rw [compO_true fe r]
    rfl
noncomputable def rngO (lo hi : Int) : Option (List Int) := if (-(2 ^ 62) ≤ lo ∧ lo < 2 ^ 62 ∧ -(2 ^ 62) ≤ hi ∧ hi < 2 ^ 62) ∧ (hi - lo).toNat ≤ sizeLine then some ((List.range (hi - lo).toNat).map fun (i : Nat) => lo + (i : Int)) else none
section
variable {K : PySem.W.Frag} {σ : St} {G : Hp} {α β γ δ : Type} [Rp α] [Rp β] [Rp γ] [Rp δ] {ta tb tc td : TE} {ma : Option α} {mb : Option β} {mc : Option γ} {md : Option δ}
noncomputable def IW (K : PySem.W.Frag) {α : Type} [Rp α] (wi : TI) (σ : St) (G : Hp) (m : Option (List α)) : Prop :=
  ∀ G1, Same G G1 → ∀ a, m = some a → ∀ H, Same G1 H → ∀ R : It → Hp → Prop, (∀ J vs G2 H2, Ext G1 H G2 H2 → Yields J G2 vs → vs.length ≤ sizeLine → Paired (Rp.rel K G2) vs a → R J H2) → wi σ H R
theorem yields_tup {a : Addr} {xs : List V} {H : Hp} (h : SqT K H a xs) : Yields (Itt K a) H xs where
  go := fun i H' s hi => ⟨xs, xs[i], s.tup h, by simp [hi]⟩
  stop := fun H' s => ⟨xs, s.tup h, Nat.le_refl _⟩
  yld := fun i H' v H'' s _ y => ⟨y.1, y.2 xs (s.tup h)⟩
theorem iw_list {la : Option (List α)} (ea : EV K ta σ G la) : IW K (iAny K ta) σ G la := by
  intro G1 s1 a ha H sH R k
  refine ea G1 s1 a ha H sH _ fun v G2 H2 x2 r2 => ?_
  obtain ⟨l, xs, rfl, h, z, p⟩ := r2
  exact .inl ⟨⟨xs, .inl (x2.gh.rd h)⟩, k _ xs G2 H2 x2 (yields_list (.inl h)) z p⟩
theorem iw_tup {la : Option (Tp α)} (ea : EV K ta σ G la) : IW K (iAny K ta) σ G (la.bind fun a => some a.l) := by
  intro G1 s1 a ha H sH R k
  obtain ⟨b, hb, ha⟩ := Option.bind_eq_some_iff.mp ha
  cases ha
  refine ea G1 s1 b hb H sH _ fun v G2 H2 x2 r2 => ?_
  obtain ⟨l, xs, rfl, h, z, p⟩ := r2
  exact .inr ⟨⟨xs, x2.gh.tup h⟩, k _ xs G2 H2 x2 (yields_tup h) z p⟩
theorem paired_ints (H : Hp) (f : Nat → Int) : ∀ l : List Nat, Paired (Rp.rel K H) (l.map fun i => V.int (f i)) (l.map fun i => f i)
  | [] => .nil
  | a :: r => .cons rfl (paired_ints H f r)
theorem iw_rng1 {ia : Option Int} (ea : EV K ta σ G ia) : IW K (iRng1 (tCons ta tNil)) σ G (ia.bind fun j => rngO 0 j) := by
  intro G1 s1 a ha H sH R k
  obtain ⟨j, hj, ha⟩ := Option.bind_eq_some_iff.mp ha
  obtain ⟨⟨hb, hz⟩, rfl⟩ := ite_some ha
  refine ea G1 s1 j hj H sH _ fun v G2 H2 x2 r2 => ?_
  cases r2
  refine ⟨j, rfl, hb.2.2.1, hb.2.2.2, ?_⟩
  have e : (j - 0).toNat = j.toNat := by omega
  rw [e] at hz k
  exact k (Itr 0 j.toNat) _ G2 H2 x2 (yields_range 0 j.toNat G2) (by rw [List.length_map, List.length_range]; exact hz) (paired_ints G2 (fun i => (0 : Int) + (i : Int)) _)
theorem tv_yes : TV tYes σ G (some true) := fun G1 s1 a ha H sH Q k => by
  cases ha
  exact k _ _ (.refl sH)
theorem Paired.getR {F : V → α → Prop} : ∀ {xs : List V} {as : List α} {i : Nat} {v : V}, Paired F xs as → xs[i]? = some v → ∃ a, as[i]? = some a ∧ F v a
  | _, _, _, _, .nil, e => by simp at e
  | _, _, 0, _, .cons r _, e => by simp at e; subst e; exact ⟨_, rfl, r⟩
  | _, _, i + 1, _, .cons _ t, e => Paired.getR (i := i) t (by simpa using e)
theorem fv_comp {cap : List Nat} {wi : TI} {tt : TT} {te : TE} {mi : Option (List α)} {fc : α → Option Bool} {fe : α → Option β} (ei : IW K wi σ G mi)
    (hb : ∀ (x : V) (a : α) (G1 : Hp), Same G G1 → Rp.rel K G1 x a → TV tt ((inner cap σ).set 0 (some x)) G1 (fc a) ∧ EV K te ((inner cap σ).set 0 (some x)) G1 (fe a)) :
    FV K (tComp cap wi tt te) σ G (mi.bind fun as => compO fc fe as) := by
  intro G1 s1 c hc H sH Q k
  obtain ⟨as, has, hc⟩ := Option.bind_eq_some_iff.mp hc
  refine ei G1 s1 as has H sH _ fun J vs Ga Ha xa Y hz pr p hp => ?_
  have hla := Paired.length pr
  refine ⟨fun i m ys H2 => m = vs.length - i ∧ i ≤ vs.length ∧ ∃ G2 bs cs, Ext Ga Ha G2 H2 ∧ G2 p = none ∧ H2 p = some (.lst ys) ∧ ys.length ≤ i ∧ Paired (Rp.rel K G2) ys bs ∧ compO fc fe (as.drop i) = some cs ∧ c = bs ++ cs,
    ⟨vs.length, by simp, Nat.zero_le _, Ga, [], c, .own xa.gh hp, xa.gh.free hp, upd_same, Nat.le_refl _, .nil, hc, rfl⟩, ?_⟩
  rintro i m ys H2 ⟨rfl, hi, G2, bs, cs, x2, hg, hh, hy, hpr, hcs, rfl⟩
  by_cases hlt : i < vs.length
  · refine .inr ⟨Y.go i _ (x2.gg.trans x2.gh) hlt, fun ys' H' => ∃ G2 bs' cs', Ext Ga Ha G2 H' ∧ G2 p = none ∧ H' p = some (.lst ys') ∧ ys'.length ≤ i + 1 ∧ Paired (Rp.rel K G2) ys' bs' ∧ compO fc fe (as.drop (i + 1)) = some cs' ∧ bs ++ cs = bs' ++ cs',
      fun ys' H' ⟨G3, bs', cs', h⟩ => ⟨vs.length - (i + 1), by omega, rfl, hlt, G3, bs', cs', h⟩, fun x H3 y => ?_⟩
    obtain ⟨rfl, hx⟩ := Y.yld i _ x H3 (x2.gg.trans x2.gh) hlt y
    obtain ⟨a, hai, ra⟩ := Paired.getR pr hx
    have hd : as.drop i = a :: as.drop (i + 1) := by
      obtain ⟨h1, h2⟩ := List.getElem?_eq_some_iff.mp hai
      rw [List.drop_eq_getElem_cons h1, h2]
    rw [hd] at hcs
    obtain ⟨b, hbb, hcs⟩ := Option.bind_eq_some_iff.mp hcs
    have B := hb x a G2 (s1.trans (xa.gg.trans x2.gg)) (Rp.mono x2.gg ra)
    refine B.1 G2 (.refl _) b hbb _ x2.gh _ fun G5 H5 x5 => ?_
    have hp5 : H5 p = some (.lst ys) := x5.hh _ _ hh
    have hg5 : G5 p = none := x5.no p hg (by rw [hh]; exact fun z => nomatch z)
    cases b with
    | false =>
      rw [if_neg Bool.false_ne_true]
      exact ⟨G5, bs, cs, x2.trans x5, hg5, hp5, by omega, Paired.imp' (fun _ _ r => Rp.mono x5.gg r) hpr, hcs, rfl⟩
    | true =>
      rw [if_pos rfl]
      obtain ⟨z, hze, hcs⟩ := Option.bind_eq_some_iff.mp hcs
      obtain ⟨cs', hcs', hcs⟩ := Option.bind_eq_some_iff.mp hcs
      cases hcs
      refine B.2 G5 x5.gg z hze H5 x5.gh _ fun v G6 H6 x6 r6 => ?_
      have hp6 : H6 p = some (.lst ys) := x6.hh _ _ hp5
      have hg6 : G6 p = none := x6.no p hg5 (by rw [hp5]; exact fun z => nomatch z)
      refine ⟨hp6, by omega, G6, bs ++ [z], cs', ((x2.trans x5).trans x6).put hp hg6, hg6, upd_same, ?_, Paired.app (Paired.imp' (fun _ _ r => Rp.mono (x5.trans x6).gg r) hpr) (.cons r6 .nil), hcs', by simp⟩
      rw [List.length_append, List.length_singleton]
      omega
  · have e : i = vs.length := by omega
    subst e
    have hd : as.drop vs.length = [] := List.drop_eq_nil_of_le (by omega)
    rw [hd] at hcs
    cases hcs
    refine .inl ⟨Y.stop _ (x2.gg.trans x2.gh), ?_⟩
    rw [List.append_nil] at k
    exact k p ys G2 H2 (xa.trans x2) (xa.hh.free hp) hg hh (by omega) hpr
theorem fv_map {cap : List Nat} {wi : TI} {te : TE} {mi : Option (List α)} {fe : α → Option β} (ei : IW K wi σ G mi)
    (hb : ∀ (x : V) (a : α) (G1 : Hp), Same G G1 → Rp.rel K G1 x a → EV K te ((inner cap σ).set 0 (some x)) G1 (fe a)) :
    FV K (tComp cap wi tYes te) σ G (mi.bind fun as => mapO fe as) := by
  have h := fv_comp (tt := tYes) (fc := fun _ => some true) ei fun x a G1 s r => ⟨tv_yes, hb x a G1 s r⟩
  have e : (fun as => compO (fun _ => some true) fe as) = fun as => mapO fe as := funext (compO_true fe)
  rw [e] at h
  exact h
theorem ev_isN {mo : Option (Option α)} (hn : ∀ {G : Hp} {v : V} {a : α}, Rp.rel K G v a → v ≠ .non) (ea : EV K ta σ G mo) :
    EV K (tOp (fun x y H Q => y = .non ∧ Q (.bl (decide (x = .non))) H) ta (tC .non)) σ G (mo.bind fun o => some o.isNone) := by
  intro G1 s1 c hc H sH Q k
  obtain ⟨a, ha, hc⟩ := Option.bind_eq_some_iff.mp hc
  cases hc
  refine ea G1 s1 a ha H sH _ fun v G2 H2 x2 r2 => ⟨rfl, ?_⟩
  refine k _ _ _ x2 ?_
  show V.bl _ = V.bl _
  congr 1
  cases a with
  | none => exact decide_eq_true r2
  | some a => exact decide_eq_false (hn r2)
theorem nn_int {G : Hp} {v : V} {a : Int} (h : Rp.rel K G v a) : v ≠ .non := by cases h; exact fun z => nomatch z
end
section
variable {K : PySem.W.Frag} {σ : St} {G H : Hp} {α β : Type} [Rp α] [Rp β] {te : TE} {tt : TT} {t u rest : TS} {D : Ends} {i : Nat} {a : α} {m : Option α}
theorem sv_set (e : EV K te σ G m) (hm : m = some a) (s : Same G H) (k : ∀ v G2 H2, Ext G H G2 H2 → Rp.rel K G2 v a → rest D (σ.set i (some v)) H2) : tSeq (tAsg te (gName i)) rest D σ H := e.run hm s k
theorem sv_ret (e : EV K te σ G m) (hm : m = some a) (s : Same G H) (k : ∀ v G2 H2, Ext G H G2 H2 → Rp.rel K G2 v a → D.rt v H2) : tSeq (tRet te) rest D σ H := e.run hm s k
theorem sv_if {b : Bool} {m : Option Bool} (e : TV tt σ G m) (hm : m = some b) (s : Same G H) (k : ∀ G2 H2, Ext G H G2 H2 → if b = true then t { D with nx := rest D } σ H2 else u { D with nx := rest D } σ H2) :
    tSeq (tIfS tt t u) rest D σ H := e.run hm s k
theorem sv_join (Pv : St → Hp → Prop) (h : ∀ nx : St → Hp → Prop, (∀ σ' H', Pv σ' H' → nx σ' H') → tSeq t tNext { D with nx := nx } σ H) (key : ∀ σ' H', Pv σ' H' → rest D σ' H') : tSeq t rest D σ H := h (rest D) key
structure LoopOb (K : PySem.W.Frag) {α S ρ : Type} [Rp α] (RR : ρ → V → Hp → Hp → Prop) (f : α → S → Option (Fl S ρ)) (g : TG) (tb : TS) (D : Ends) (σ : St) (G2 H2 : Hp) (as : List α) (s0 : S) (res : Fl S ρ) (RS : S → St → Hp → Hp → Prop) : Prop where
  start : RS s0 σ G2 H2
  keep : ∀ s σ' G' H', RS s σ' G' H' → Same G2 G' ∧ Same G' H'
  step : ∀ (x : V) (a : α) (s : S) (σ1 : St) (G1 H1 : Hp) (fl : Fl S ρ), a ∈ as → RS s σ1 G1 H1 → Rp.rel K G1 x a → f a s = some fl → ∀ D' : Ends, (∀ s' σ' G' H', fl = .nx s' → RS s' σ' G' H' → D'.nx σ' H') → (∀ s' σ' G' H', fl = .nx s' → RS s' σ' G' H' → D'.ct σ' H') →
    (∀ s' σ' G' H', fl = .bk s' → RS s' σ' G' H' → D'.bk σ' H') → (∀ r v G' H', fl = .rt r → RR r v G' H' → D'.rt v H') → g x σ1 H1 fun σ2 H2 => tb D' σ2 H2
  nxt : ∀ s σ' G' H', res = .nx s → RS s σ' G' H' → D.nx σ' H'
  rtn : ∀ r v G' H', res = .rt r → RR r v G' H' → D.rt v H'
theorem sv_for {S ρ : Type} {RR : ρ → V → Hp → Hp → Prop} {f : α → S → Option (Fl S ρ)} {wi : TI} {g : TG} {tb : TS} {mi : Option (List α)} {as : List α} {s0 : S} {res : Fl S ρ} (ei : IW K wi σ G mi) (hm : mi = some as) (hf : forO f as s0 = some res) (sg : Same G H)
    (k : ∀ G2 H2, Ext G H G2 H2 → ∃ RS, LoopOb K RR f g tb { D with nx := rest D } σ G2 H2 as s0 res RS) : tSeq (tFor wi g tb) rest D σ H := by
  refine ei G (.refl G) as hm H sg _ fun J vs G2 H2 x2 Y hz pr => ?_
  obtain ⟨RS, L⟩ := k G2 H2 x2
  have hla := Paired.length pr
  refine ⟨fun i m σ' H' => m = vs.length - i ∧ i ≤ vs.length ∧ ∃ s G', RS s σ' G' H' ∧ forO f (as.drop i) s = some res, ⟨vs.length, by simp, Nat.zero_le _, s0, G2, L.start, hf⟩, ?_⟩
  rintro i m σ' H' ⟨rfl, hi, s, G', rs, hfo⟩
  obtain ⟨k1, k2⟩ := L.keep _ _ _ _ rs
  by_cases hlt : i < vs.length
  · refine .inr ⟨Y.go i _ (k1.trans k2) hlt, fun σ'' H'' => ∃ s' G'', RS s' σ'' G'' H'' ∧ forO f (as.drop (i + 1)) s' = some res, fun σ'' H'' ⟨s', G'', h⟩ => ⟨vs.length - (i + 1), by omega, rfl, hlt, s', G'', h⟩, fun x H3 y => ?_⟩
    obtain ⟨rfl, hx⟩ := Y.yld i _ x H3 (k1.trans k2) hlt y
    obtain ⟨a, hai, ra⟩ := Paired.getR pr hx
    have hd : as.drop i = a :: as.drop (i + 1) := by
      obtain ⟨h1, h2⟩ := List.getElem?_eq_some_iff.mp hai
      rw [List.drop_eq_getElem_cons h1, h2]
    rw [hd] at hfo
    obtain ⟨fl, hfl, hfo⟩ := Option.bind_eq_some_iff.mp hfo
    refine L.step x a s σ' G' _ fl (List.mem_of_getElem? hai) rs (Rp.mono k1 ra) hfl _ ?_ ?_ ?_ ?_
    · intro s' σ'' G'' H'' e r
      subst e
      exact ⟨s', G'', r, hfo⟩
    · intro s' σ'' G'' H'' e r
      subst e
      exact ⟨s', G'', r, hfo⟩
    · intro s' σ'' G'' H'' e r
      subst e
      exact L.nxt s' σ'' G'' H'' (Option.some.inj hfo).symm r
    · intro r v G'' H'' e rl
      subst e
      exact L.rtn r v G'' H'' (Option.some.inj hfo).symm rl
  · have e : i = vs.length := by omega
    subst e
    have hd : as.drop vs.length = [] := List.drop_eq_nil_of_le (by omega)
    rw [hd] at hfo
    exact .inl ⟨Y.stop _ (k1.trans k2), L.nxt s σ' G' H' (Option.some.inj hfo).symm rs⟩
structure WhileOb (K : PySem.W.Frag) {S ρ : Type} (RR : ρ → V → Hp → Hp → Prop) (c : S → Option Bool) (f : S → Option (Fl S ρ)) (tt : TT) (tb : TS) (D : Ends) (σ : St) (G2 H2 : Hp) (s0 : S) (res : Fl S ρ) (RS : S → St → Hp → Hp → Prop) : Prop where
  start : RS s0 σ G2 H2
  keep : ∀ s σ' G' H', RS s σ' G' H' → Same G' H'
  test : ∀ s σ' G' H' b, RS s σ' G' H' → c s = some b → ∀ Q : Bool → Hp → Prop, (∀ G'' H'', RS s σ' G'' H'' → Q b H'') → tt σ' H' Q
  step : ∀ (s : S) (σ1 : St) (G1 H1 : Hp) (fl : Fl S ρ), RS s σ1 G1 H1 → f s = some fl → c s = some true → ∀ D' : Ends, (∀ s' σ' G' H', fl = .nx s' → RS s' σ' G' H' → D'.nx σ' H') → (∀ s' σ' G' H', fl = .nx s' → RS s' σ' G' H' → D'.ct σ' H') →
    (∀ s' σ' G' H', fl = .bk s' → RS s' σ' G' H' → D'.bk σ' H') → (∀ r v G' H', fl = .rt r → RR r v G' H' → D'.rt v H') → tb D' σ1 H1
  nxt : ∀ s σ' G' H', res = .nx s → RS s σ' G' H' → D.nx σ' H'
  rtn : ∀ r v G' H', res = .rt r → RR r v G' H' → D.rt v H'
theorem sv_while {S ρ : Type} {RR : ρ → V → Hp → Hp → Prop} {c : S → Option Bool} {f : S → Option (Fl S ρ)} {tb : TS} {n : Nat} {s0 : S} {res : Fl S ρ} (hf : whileN c f n s0 = some res) (RS : S → St → Hp → Hp → Prop)
    (L : WhileOb K RR c f tt tb { D with nx := rest D } σ G H s0 res RS) : tSeq (tWhile tt tb) rest D σ H := by
  refine ⟨fun m σ' H' => ∃ s G', RS s σ' G' H' ∧ whileN c f m s = some res, ⟨n, s0, G, L.start, hf⟩, ?_⟩
  rintro m σ' H' ⟨s, G', rs, hw⟩
  cases m with
  | zero => cases hw
  | succ m =>
    obtain ⟨b, hb, hw⟩ := Option.bind_eq_some_iff.mp hw
    refine L.test s σ' G' H' b rs hb _ fun G'' H'' rs' => ?_
    cases b with
    | false => exact iteF (L.nxt s σ' G'' H'' (Option.some.inj hw).symm rs')
    | true =>
      obtain ⟨fl, hfl, hw⟩ := Option.bind_eq_some_iff.mp hw
      refine iteT ⟨fun σ2 H2 => ∃ s' G2, RS s' σ2 G2 H2 ∧ whileN c f m s' = some res, fun σ2 H2 h => ⟨m, Nat.lt_succ_self m, h⟩, ?_⟩
      refine L.step s σ' G'' H'' fl rs' hfl hb _ ?_ ?_ ?_ ?_
      · intro s' σ2 G2 H2 e r
        subst e
        exact ⟨s', G2, r, hw⟩
      · intro s' σ2 G2 H2 e r
        subst e
        exact ⟨s', G2, r, hw⟩
      · intro s' σ2 G2 H2 e r
        subst e
        exact L.nxt s' σ2 G2 H2 (Option.some.inj hw).symm r
      · intro r v G2 H2 e rl
        subst e
        exact L.rtn r v G2 H2 (Option.some.inj hw).symm rl
end
structure Own (K : PySem.W.Frag) {α : Type} [Rp α] (G H : Hp) (v : V) (p : Addr) (vs : List V) (as : List α) : Prop where
  v : v = .ref p
  g : G p = none
  h : H p = some (.lst vs)
  z : vs.length ≤ sizeLine
  p : Paired (Rp.rel K G) vs as
section
variable {K : PySem.W.Frag} {σ : St} {G H G1 H1 G0 H0 : Hp} {α β : Type} [Rp α] [Rp β] {te ti : TE} {tt : TT} {t u rest : TS} {D : Ends} {i : Nat} {a : α} {m : Option α} {as : List α} {v : V} {p q : Addr} {vs : List V}
theorem Own.ext (o : Own K G H v p vs as) (x : Ext G H G1 H1) : Own K G1 H1 v p vs as :=
  ⟨o.v, x.no p o.g (by rw [o.h]; exact fun z => nomatch z), x.hh _ _ o.h, o.z, Paired.imp' (fun _ _ r => Rp.mono x.gg r) o.p⟩
theorem Own.put {ho : HO} (o : Own K G H v p vs as) (h : p ≠ q) : Own K G (upd H q ho) v p vs as := ⟨o.v, o.g, by rw [upd_ne h]; exact o.h, o.z, o.p⟩
theorem Own.tell (o : Own K G H v p vs as) : Rp.rel K (upd G p (.lst vs)) v as := ⟨p, vs, o.v, .inl upd_same, o.z, Paired.imp' (fun _ _ r => Rp.mono (Same.new o.g) r) o.p⟩
theorem Own.same (o : Own K G H v p vs as) (s : Same G H) : Same (upd G p (.lst vs)) H := fun b x e => by
  by_cases hb : b = p
  · subst hb
    rw [upd_same] at e
    rw [o.h]
    exact e
  · rw [upd_ne hb] at e
    exact s b x e
theorem sv_own {m : Option (List α)} {as : List α} (e : FV K te σ G m) (hm : m = some as) (s : Same G H) (k : ∀ p vs G2 H2, Ext G H G2 H2 → H p = none → Own K G2 H2 (.ref p) p vs as → rest D (σ.set i (some (.ref p))) H2) : tSeq (tAsg te (gName i)) rest D σ H :=
  e G (.refl G) as hm H s _ fun p vs G2 H2 x h0 hg hh hz hp => k p vs G2 H2 x h0 ⟨rfl, hg, hh, hz, hp⟩
noncomputable def pushO {α : Type} (as : List α) (a : α) : Option (List α) := if as.length < sizeLine then some (as ++ [a]) else none
theorem sv_append {as' : List α} (hσ : σ[i]? = some (some v)) (o : Own K G H v p vs as) (e : EV K te σ G m) (hm : m = some a) (hp : pushO as a = some as') (s : Same G H)
    (k : ∀ G2 H2 w, Ext G H G2 H2 → Own K G2 (upd H2 p (.lst (vs ++ [w]))) v p (vs ++ [w]) as' → rest D σ (upd H2 p (.lst (vs ++ [w])))) : tSeq (tDrop (tBM K "list" rAppend (tVar i) (tCons te tNil))) rest D σ H := by
  obtain ⟨hl, rfl⟩ := ite_some hp
  have hlen := Paired.length o.p
  obtain ⟨rfl, og, oh, oz, op⟩ := o
  refine ⟨_, hσ, .inl ⟨rfl, _, SqL.of oh⟩, ?_⟩
  refine e.run hm s fun w G2 H2 x r => ?_
  refine ⟨p, vs, w, rfl, rfl, x.hh _ _ oh, by omega, ?_⟩
  refine k G2 H2 w x ⟨rfl, x.no p og (by rw [oh]; exact fun z => nomatch z), upd_same, ?_, Paired.app (Paired.imp' (fun _ _ r => Rp.mono x.gg r) op) (.cons r .nil)⟩
  rw [List.length_append, List.length_singleton]
  omega
structure TupK (H H' : Hp) : Prop where
  rd : ∀ b xs, Rd H b (.tup xs) → Rd H' b (.tup xs)
  eq : ∀ b xs, H b = some (.tup xs) → H' b = some (.tup xs)
class Imm (α : Type) [Rp α] : Prop where
  im : ∀ {K : PySem.W.Frag} {H H' : Hp} {v : V} {a : α}, TupK H H' → Rp.rel K H v a → Rp.rel K H' v a
noncomputable instance imInt : Imm Int := ⟨fun _ h => h⟩
noncomputable instance imBool : Imm Bool := ⟨fun _ h => h⟩
noncomputable instance imStr : Imm Str := ⟨fun _ h => h⟩
noncomputable instance imUnit : Imm Unit := ⟨fun _ h => h⟩
theorem SqT.im {H H' : Hp} {t : Addr} {xs : List V} (f : TupK H H') (h : SqT K H t xs) : SqT K H' t xs := by
  rcases h with h | h
  · exact .inl (f.rd _ _ h)
  · exact .inr h
noncomputable instance imPair {α β : Type} [Rp α] [Rp β] [Imm α] [Imm β] : Imm (α × β) := ⟨fun f ⟨t, a, b, e, h, r1, r2⟩ => ⟨t, a, b, e, h.im f, Imm.im f r1, Imm.im f r2⟩⟩
noncomputable instance imT3 {α β γ : Type} [Rp α] [Rp β] [Rp γ] [Imm α] [Imm β] [Imm γ] : Imm (T3 α β γ) := ⟨fun f ⟨t, a, b, c, e, h, r1, r2, r3⟩ => ⟨t, a, b, c, e, h.im f, Imm.im f r1, Imm.im f r2, Imm.im f r3⟩⟩
noncomputable instance imTp {α : Type} [Rp α] [Imm α] : Imm (Tp α) := ⟨fun f ⟨t, xs, e, h, z, p⟩ => ⟨t, xs, e, h.im f, z, Paired.imp' (fun _ _ r => Imm.im f r) p⟩⟩
noncomputable instance imOpt {α : Type} [Rp α] [Imm α] : Imm (Option α) := ⟨fun {K H H' v a} f h => by cases a with | none => exact h | some a => exact Imm.im (α := α) f h⟩
noncomputable def del (G : Hp) (p : Addr) : Hp := fun b => if b = p then none else G b
theorem del_ne {G : Hp} {p b : Addr} (h : b ≠ p) : del G p b = G b := by unfold del; rw [if_neg h]
theorem del_same {G : Hp} {p : Addr} : del G p p = none := by unfold del; rw [if_pos rfl]
theorem Ext.del {ho : HO} {G2 H2 : Hp} (hg : G p = none) (x : Ext (upd G p ho) H G2 H2) : Ext G H (L2.del G2 p) H2 :=
  ⟨fun b o e => by
    have hb : b ≠ p := ne_of_none e hg
    rw [del_ne hb]
    exact x.gg b o (by rw [upd_ne hb]; exact e), fun b o e => by
    by_cases hb : b = p
    · subst hb
      rw [del_same] at e
      cases e
    · rw [del_ne hb] at e
      exact x.gh b o e, x.hh, fun b h1 h2 => by
    by_cases hb : b = p
    · subst hb
      exact del_same
    · rw [del_ne hb]
      exact x.no b (by rw [upd_ne hb]; exact h1) h2⟩
theorem Imm.del {β : Type} [Rp β] [Imm β] {G2 : Hp} {w : V} {c : β} {ys : List V} (h : G2 p = some (.lst ys)) (r : Rp.rel K G2 w c) : Rp.rel K (L2.del G2 p) w c :=
  Imm.im ⟨fun b xs e => by
    have hb : b ≠ p := fun z => by
      subst z
      rcases e with e | ⟨o, e⟩ <;> (rw [h] at e; cases e)
    rcases e with e | ⟨o, e⟩
    · exact .inl (by rw [del_ne hb]; exact e)
    · exact .inr ⟨o, by rw [del_ne hb]; exact e⟩, fun b xs e => by
    have hb : b ≠ p := fun z => by
      subst z
      rw [h] at e
      cases e
    rw [del_ne hb]
    exact e⟩ r
theorem EV.runB {β : Type} [Rp β] [Imm β] {mb : Option β} {b : β} {Q : VK} (o : Own K G H v p vs as) (e : EV K te σ (upd G p (.lst vs)) mb) (hm : mb = some b) (s : Same G H) (k : ∀ w G2 H2, Ext G H G2 H2 → Rp.rel K G2 w b → Q w H2) : te σ H Q :=
  e.run hm (o.same s) fun w G2 H2 x r => k w (del G2 p) H2 (x.del o.g) (Imm.del (x.gg _ _ upd_same) r)
theorem TV.runB {mb : Option Bool} {b : Bool} {Q : Bool → Hp → Prop} (o : Own K G H v p vs as) (e : TV tt σ (upd G p (.lst vs)) mb) (hm : mb = some b) (s : Same G H) (k : ∀ G2 H2, Ext G H G2 H2 → Q b H2) : tt σ H Q :=
  e.run hm (o.same s) fun G2 H2 x => k (del G2 p) H2 (x.del o.g)
end
end L2
set_option Elab.async false
set_option linter.all false
set_option maxRecDepth 100000
set_option maxHeartbeats 4000000
namespace L2
open PySem PySem.Spec PyProof.Rows
section
variable {K : PySem.W.Frag} {σ : St} {G : Hp}
theorem ev_def1 {ρ A0 : Type} [Rp ρ] [Rp A0] {t0 : TE} {m0 : Option A0} {m : A0 × Unit → Option ρ} (e0 : EV K t0 σ G m0) : EV K (tCall (spM K m) [] E0 (tCons t0 tNil)) σ G (m0.bind fun a0 => m (a0, ())) := by
  intro G1 s1 c hc H sH Q k
  obtain ⟨a0, ha0, hc⟩ := Option.bind_eq_some_iff.mp hc
  refine e0 G1 s1 a0 ha0 H sH _ fun v0 G2 H2 x0 r0 => ?_
  have y0 := x0
  exact ⟨G2, _, c, y0.gh, ⟨v0, _, rfl, r0, rfl⟩, hc, fun v G9 H9 x9 r9 => k v G9 H9 (y0.trans x9) r9⟩
theorem ev_def2 {ρ A0 A1 : Type} [Rp ρ] [Rp A0] [Rp A1] {t0 t1 : TE} {m0 : Option A0} {m1 : Option A1} {m : A0 × A1 × Unit → Option ρ} (e0 : EV K t0 σ G m0) (e1 : EV K t1 σ G m1) : EV K (tCall (spM K m) [] E0 (tCons t0 (tCons t1 tNil))) σ G (m0.bind fun a0 => m1.bind fun a1 => m (a0, a1, ())) := by
  intro G1 s1 c hc H sH Q k
  obtain ⟨a0, ha0, hc⟩ := Option.bind_eq_some_iff.mp hc
  obtain ⟨a1, ha1, hc⟩ := Option.bind_eq_some_iff.mp hc
  refine e0 G1 s1 a0 ha0 H sH _ fun v0 G2 H2 x0 r0 => ?_
  have y0 := x0
  refine e1 G2 (s1.trans y0.gg) a1 ha1 H2 y0.gh _ fun v1 G3 H3 x1 r1 => ?_
  have y1 := y0.trans x1
  exact ⟨G3, _, c, y1.gh, ⟨v0, _, rfl, (Rp.mono x1.gg r0), ⟨v1, _, rfl, r1, rfl⟩⟩, hc, fun v G9 H9 x9 r9 => k v G9 H9 (y1.trans x9) r9⟩
theorem ev_def3 {ρ A0 A1 A2 : Type} [Rp ρ] [Rp A0] [Rp A1] [Rp A2] {t0 t1 t2 : TE} {m0 : Option A0} {m1 : Option A1} {m2 : Option A2} {m : A0 × A1 × A2 × Unit → Option ρ} (e0 : EV K t0 σ G m0) (e1 : EV K t1 σ G m1) (e2 : EV K t2 σ G m2) : EV K (tCall (spM K m) [] E0 (tCons t0 (tCons t1 (tCons t2 tNil)))) σ G (m0.bind fun a0 => m1.bind fun a1 => m2.bind fun a2 => m (a0, a1, a2, ())) := by
  intro G1 s1 c hc H sH Q k
  obtain ⟨a0, ha0, hc⟩ := Option.bind_eq_some_iff.mp hc
  obtain ⟨a1, ha1, hc⟩ := Option.bind_eq_some_iff.mp hc
  obtain ⟨a2, ha2, hc⟩ := Option.bind_eq_some_iff.mp hc
  refine e0 G1 s1 a0 ha0 H sH _ fun v0 G2 H2 x0 r0 => ?_
  have y0 := x0
  refine e1 G2 (s1.trans y0.gg) a1 ha1 H2 y0.gh _ fun v1 G3 H3 x1 r1 => ?_
  have y1 := y0.trans x1
  refine e2 G3 (s1.trans y1.gg) a2 ha2 H3 y1.gh _ fun v2 G4 H4 x2 r2 => ?_
  have y2 := y1.trans x2
  exact ⟨G4, _, c, y2.gh, ⟨v0, _, rfl, (Rp.mono x2.gg (Rp.mono x1.gg r0)), ⟨v1, _, rfl, (Rp.mono x2.gg r1), ⟨v2, _, rfl, r2, rfl⟩⟩⟩, hc, fun v G9 H9 x9 r9 => k v G9 H9 (y2.trans x9) r9⟩
section
variable {ta tb : TE} {a b : Bool} {tt tu : TT} {mb : Option Bool}
theorem ev_andP (ea : EV K ta σ G (some a)) (eb : EV K tb σ G (some b)) : EV K (tAndV ta tb) σ G (some (a && b)) := (ev_and ea eb).of (by cases a <;> rfl)
theorem TV.of {m m' : Option Bool} (e : TV tt σ G m) (h : m = m') : TV tt σ G m' := h ▸ e
theorem tv_andP (ea : TV tt σ G (some a)) (eb : TV tu σ G (some b)) : TV (tAnd tt tu) σ G (some (a && b)) := (tv_and ea eb).of (by cases a <;> rfl)
theorem tv_orP (ea : TV tt σ G (some a)) (eb : TV tu σ G (some b)) : TV (tOr tt tu) σ G (some (a || b)) := (tv_or ea eb).of (by cases a <;> rfl)
theorem ev_get {α : Type} [Rp α] {te : TE} {mo : Option (Option α)} (e : EV K te σ G mo) : EV K te σ G (mo.bind fun o => o) := by
  intro G1 s1 c hc H sH Q k
  obtain ⟨o, ho, hc⟩ := Option.bind_eq_some_iff.mp hc
  subst hc
  exact e G1 s1 _ ho H sH Q k
theorem TruV.mono {G H : Hp} {v : V} {k : Bool} (s : Same G H) (h : TruV K v G k) : TruV K v H k := by
  cases v with
  | ref p =>
    rcases h with ⟨xs, hx, e⟩ | ⟨xs, hx, e⟩ | ⟨kvs, hx, e⟩
    · exact .inl ⟨xs, s.seq hx, e⟩
    · exact .inr (.inl ⟨xs, s.tup hx, e⟩)
    · exact .inr (.inr ⟨kvs, s _ _ hx, e⟩)
  | _ => exact h
theorem tv_b {mb : Option Bool} (ea : EV K ta σ G mb) : TV (fun σ H Q => ta σ H fun x H' => ∃ k, TruV K x H' k ∧ Q k H') σ G mb := by
  have h := tv_tru (K := K) (f := fun (a : Bool) => a) (fun {G v a} (r : Rp.rel K G v a) => by cases r; exact rfl) (fun s => TruV.mono s) ea
  refine h.of ?_
  cases mb <;> rfl
end
theorem cT {α : Type} {A B : Option α} {r : Option α} (h : cond true A B = r) : A = r := h
theorem cF {α : Type} {A B : Option α} {r : Option α} (h : cond false A B = r) : B = r := h
theorem sv_turn {i : Nat} {x : V} {σ : St} {H : Hp} {tb : TS} {D : Ends} (h : tb D (σ.set i (some x)) H) : gName i x σ H fun σ2 H2 => tb D σ2 H2 := h
end
end L2
set_option Elab.async false
set_option linter.all false
set_option maxRecDepth 100000
set_option maxHeartbeats 4000000
namespace L2
open PySem PySem.Spec PyProof.Rows
section
variable {K : PySem.W.Frag} {σ : St} {G H : Hp} {α β γ : Type} [Rp α] [Rp β] [Rp γ] {ta tb te : TE} {ia ib : Option Int} {c : Int} {rest t u : TS} {D : Ends} {i j : Nat} {tt : TT}
theorem ev_mulL (eb : EV K tb σ G ib) (hc : -(2 ^ 64) < c ∧ c < 2 ^ 64 := by decide) : EV K (tOp (rMul K) (tC (.int c)) tb) σ G (ib.bind fun b => some (c * b)) := by
  have h := ev_mul (ev_i (K := K) (σ := σ) (G := G) (i := c)) eb
  have e : ((some c).bind fun a => ib.bind fun b => mulO a b) = ib.bind fun b => some (c * b) := by
    show (ib.bind fun b => mulO c b) = _
    congr 1; funext b
    unfold mulO
    rw [if_pos (.inl hc)]
  exact h.of e
theorem ev_modR (ea : EV K ta σ G ia) (hc : 0 < c := by decide) : EV K (tOp (rI (fun _ j => 0 < j) fun i j => .int (i % j)) ta (tC (.int c))) σ G (ia.bind fun a => some (a % c)) := by
  have h := ev_mod ea (ev_i (K := K) (σ := σ) (G := G) (i := c))
  have e : (ia.bind fun a => (some c).bind fun b => modO a b) = ia.bind fun a => some (a % c) := by
    congr 1; funext a
    show modO a c = _
    unfold modO
    rw [if_pos hc]
  exact h.of e
theorem ev_divR (ea : EV K ta σ G ia) (hc : 0 < c ∧ c < 1073741824 := by decide) : EV K (tOp (rI CDiv fun i j => .int (i / j)) ta (tC (.int c))) σ G (ia.bind fun a => some (a / c)) := by
  have h := ev_div ea (ev_i (K := K) (σ := σ) (G := G) (i := c))
  have e : (ia.bind fun a => (some c).bind fun b => divO a b) = ia.bind fun a => some (a / c) := by
    congr 1; funext a
    show divO a c = _
    unfold divO
    rw [if_pos (show CDiv a c from hc)]
  exact h.of e
structure Scr where
  l : List Int
noncomputable instance rpScr : Rp Scr := ⟨fun K H v a => ∃ l, v = .ref l ∧ SqL K H l (a.l.map V.int), fun s ⟨l, e, h⟩ => ⟨l, e, s.seq h⟩⟩
theorem ev_lenX {ma : Option Scr} (ea : EV K ta σ G ma) : EV K (tCB (rLen K) (tCons ta tNil)) σ G (ma.bind fun a => some (a.l.length : Int)) := by
  intro G1 s1 c hc H sH Q k
  obtain ⟨a, ha, hc⟩ := Option.bind_eq_some_iff.mp hc
  cases hc
  refine ea G1 s1 a ha H sH _ fun v G2 H2 x2 r2 => ?_
  obtain ⟨l, rfl, h⟩ := r2
  exact ⟨_, .inl (x2.gh.seq h), by rw [List.length_map]; exact k _ _ _ x2 rfl⟩
theorem pairedI {H : Hp} : ∀ ns : List Int, Paired (Rp.rel K H) (ns.map V.int) ns
  | [] => .nil
  | _ :: r => .cons rfl (pairedI r)
theorem ev_atX {ma : Option Scr} (ea : EV K ta σ G ma) (eb : EV K tb σ G ib) : EV K (tOp (rAt K) ta tb) σ G (ma.bind fun a => ib.bind fun i => atI a.l i) :=
  ev_bin (fun s ra rb e Q k => by
    obtain ⟨l, rfl, h⟩ := ra; cases rb
    obtain ⟨v, hv, r⟩ := paired_atI (pairedI (K := K) _) e
    exact .inl ⟨_, v, s.seq h, hv, k _ _ _ (.refl s) r⟩) ea eb
theorem decOI {G : Hp} {v u : V} {a b : Option Int} (ra : Rp.rel K G v a) (rb : Rp.rel K G u b) : scal v u = true ∧ decide (v = u) = decide (a = b) := by
  cases a with
  | none =>
    cases (show v = V.non from ra)
    cases b with
    | none => cases (show u = V.non from rb); exact ⟨rfl, rfl⟩
    | some j => cases (show u = V.int j from rb); exact ⟨rfl, by simp⟩
  | some i =>
    cases (show v = V.int i from ra)
    cases b with
    | none => cases (show u = V.non from rb); exact ⟨rfl, by simp⟩
    | some j => cases (show u = V.int j from rb); exact ⟨rfl, by simp⟩
theorem sv_setB {a : α} {m : Option α} [Imm α] {v : V} {p : Addr} {vs : List V} {as : List β} (o : Own K G H v p vs as) (e : EV K te σ (upd G p (.lst vs)) m) (hm : m = some a) (s : Same G H) (k : ∀ v G2 H2, Ext G H G2 H2 → Rp.rel K G2 v a → rest D (σ.set i (some v)) H2) :
    tSeq (tAsg te (gName i)) rest D σ H := EV.runB o e hm s k
theorem sv_ifB {b : Bool} {m : Option Bool} {v : V} {p : Addr} {vs : List V} {as : List β} (o : Own K G H v p vs as) (e : TV tt σ (upd G p (.lst vs)) m) (hm : m = some b) (s : Same G H) (k : ∀ G2 H2, Ext G H G2 H2 → if b = true then t { D with nx := rest D } σ H2 else u { D with nx := rest D } σ H2) :
    tSeq (tIfS tt t u) rest D σ H := TV.runB o e hm s k
noncomputable def setO {α : Type} (as : List α) (k : Int) (a : α) : Option (List α) := (ixN as.length k).bind fun j => some (as.set j a)
theorem sv_turn2 {a : α × β} {x : V} {tb : TS} (r : Rp.rel K G x a) (s : Same G H) (k : ∀ v1 v2, Rp.rel K G v1 a.1 → Rp.rel K G v2 a.2 → tb D ((σ.set i (some v1)).set j (some v2)) H) :
    gTup K 2 (gCons (gName i) (gCons (gName j) gNil)) x σ H fun σ2 H2 => tb D σ2 H2 := by
  obtain ⟨t, x1, x2, rfl, ht, r1, r2⟩ := r
  exact ⟨t, _, rfl, s.tup ht, rfl, x1, _, rfl, x2, _, rfl, rfl, k _ _ r1 r2⟩
end
end L2
set_option Elab.async false
set_option linter.all false
set_option maxRecDepth 100000
set_option maxHeartbeats 4000000
namespace L2
open PySem PySem.Spec PyProof.Rows
structure Own2 (K : PySem.W.Frag) {α β : Type} [Rp α] [Rp β] (G H : Hp) (v : V) (p q : Addr) (vs ws : List V) (a : List α × List β) : Prop where
  t : ∃ t, v = .ref t ∧ G t = some (.tup [.ref p, .ref q])
  o1 : Own K G H (.ref p) p vs a.1
  o2 : Own K G H (.ref q) q ws a.2
  ne : p ≠ q
section
variable {K : PySem.W.Frag} {σ : St} {G H G1 H1 G0 H0 : Hp} {α β γ : Type} [Rp α] [Rp β] [Rp γ] {ta tb te ti : TE} {tt : TT} {t u rest : TS} {D : Ends} {i j : Nat} {v : V} {p q r : Addr} {vs ws : List V} {a : List α × List β}
theorem Own2.ext (o : Own2 K G H v p q vs ws a) (x : Ext G H G1 H1) : Own2 K G1 H1 v p q vs ws a :=
  ⟨let ⟨t, e, h⟩ := o.t; ⟨t, e, x.gg _ _ h⟩, o.o1.ext x, o.o2.ext x, o.ne⟩
theorem Own2.put {ho : HO} (o : Own2 K G H v p q vs ws a) (h1 : p ≠ r) (h2 : q ≠ r) : Own2 K G (upd H r ho) v p q vs ws a := ⟨o.t, o.o1.put h1, o.o2.put h2, o.ne⟩
noncomputable def two (G : Hp) (p q : Addr) (vs ws : List V) : Hp := upd (upd G p (.lst vs)) q (.lst ws)
theorem Own2.g2 (o : Own2 K G H v p q vs ws a) : (upd G p (.lst vs)) q = none := by rw [upd_ne (Ne.symm o.ne)]; exact o.o2.g
theorem Own2.up (o : Own2 K G H v p q vs ws a) : Same G (two G p q vs ws) := (Same.new o.o1.g).trans (Same.new o.g2)
theorem Own2.same (o : Own2 K G H v p q vs ws a) (s : Same G H) : Same (two G p q vs ws) H := fun b x e => by
  unfold two at e
  by_cases hb : b = q
  · subst hb
    rw [upd_same] at e
    rw [o.o2.h]
    exact e
  · rw [upd_ne hb] at e
    exact o.o1.same s b x e
theorem Own2.tell (o : Own2 K G H v p q vs ws a) : Rp.rel K (two G p q vs ws) v a := by
  obtain ⟨t, rfl, ht⟩ := o.t
  refine ⟨t, .ref p, .ref q, rfl, SqT.of (o.up _ _ ht), ⟨p, vs, rfl, .inl ?_, o.o1.z, Paired.imp' (fun _ _ r => Rp.mono o.up r) o.o1.p⟩, ⟨q, ws, rfl, .inl upd_same, o.o2.z, Paired.imp' (fun _ _ r => Rp.mono o.up r) o.o2.p⟩⟩
  unfold two
  rw [upd_ne o.ne]
  exact upd_same
theorem Own2.frz (o : Own2 K G H v p q vs ws a) (x : Ext G0 H0 G H) (h1 : H0 p = none) (h2 : H0 q = none) : Ext G0 H0 (two G p q vs ws) H :=
  (x.frz h1 o.o1.g o.o1.h).frz h2 o.g2 o.o2.h
noncomputable def NV (K : PySem.W.Frag) {α β : Type} [Rp α] [Rp β] (te : TE) (σ : St) (G : Hp) (m : Option (List α × List β)) : Prop :=
  ∀ G1, Same G G1 → ∀ a, m = some a → ∀ H, Same G1 H → ∀ Q : VK, (∀ v p q vs ws G2 H2, Ext G1 H G2 H2 → H p = none → H q = none → Own2 K G2 H2 v p q vs ws a → Q v H2) → te σ H Q
theorem NV.ev {m : Option (List α × List β)} (e : NV K te σ G m) : EV K te σ G m := by
  intro G1 s1 a ha H sH Q k
  refine e G1 s1 a ha H sH Q fun v p q vs ws G2 H2 x h1 h2 o => ?_
  exact k v _ H2 (o.frz x h1 h2) o.tell
theorem nv_tup2 {la : Option (List α)} {lb : Option (List β)} (ea : FV K ta σ G la) (eb : FV K tb σ G lb) : NV K (tTup (tCons ta (tCons tb tNil))) σ G (la.bind fun a => lb.bind fun b => some (a, b)) := by
  intro G1 s1 c hc H sH Q k
  obtain ⟨a, ha, hc⟩ := Option.bind_eq_some_iff.mp hc
  obtain ⟨b, hb, hc⟩ := Option.bind_eq_some_iff.mp hc
  cases hc
  refine ea G1 s1 a ha H sH _ fun p vs G2 H2 x2 hp g2 hh2 z2 pr2 => ?_
  refine eb G2 (s1.trans x2.gg) b hb H2 x2.gh _ fun q ws G3 H3 x3 hq g3 hh3 z3 pr3 => ⟨by show 2 ≤ sizeLine; decide, fun t ht => ?_⟩
  have o1 : Own K G2 H2 (.ref p) p vs a := ⟨rfl, g2, hh2, z2, pr2⟩
  have o2 : Own K G3 H3 (.ref q) q ws b := ⟨rfl, g3, hh3, z3, pr3⟩
  have x4 : Ext G3 H3 (upd G3 t (.tup [.ref p, .ref q])) (upd H3 t (.tup [.ref p, .ref q])) := .new x3.gh ht
  exact k (.ref t) p q vs ws _ _ ((x2.trans x3).trans x4) hp (x2.hh.free hq) ⟨⟨t, rfl, upd_same⟩, (o1.ext x3).ext x4, o2.ext x4, ne_of_none hh2 hq⟩
noncomputable def spN (K : PySem.W.Frag) {A : Type} [RpA A] {α β : Type} [Rp α] [Rp β] (m : A → Option (List α × List β)) : Sp := fun vs H Q _ =>
  ∃ G a r, Same G H ∧ RpA.rel K G vs a ∧ m a = some r ∧ ∀ v p q vs ws G2 H2, Ext G H G2 H2 → H p = none → H q = none → Own2 K G2 H2 v p q vs ws r → Q v H2
theorem spN_len {A : Type} [RpA A] {m : A → Option (List α × List β)} {vs : List V} {H : Hp} {Q : VK} {E : XK} (h : spN K m vs H Q E) : vs.length = RpA.n A := by
  obtain ⟨G, a, r, _, h, _⟩ := h
  exact RpA.len h
theorem nv_def1 {A0 : Type} [Rp A0] {t0 : TE} {m0 : Option A0} {m : A0 × Unit → Option (List α × List β)} (e0 : EV K t0 σ G m0) : NV K (tCall (spN K m) [] E0 (tCons t0 tNil)) σ G (m0.bind fun a0 => m (a0, ())) := by
  intro G1 s1 c hc H sH Q k
  obtain ⟨a0, ha0, hc⟩ := Option.bind_eq_some_iff.mp hc
  refine e0 G1 s1 a0 ha0 H sH _ fun v0 G2 H2 x0 r0 => ?_
  have y0 := x0
  exact ⟨G2, _, c, y0.gh, ⟨v0, _, rfl, r0, rfl⟩, hc, fun v p q vs ws G9 H9 x9 h1 h2 o => k v p q vs ws G9 H9 (y0.trans x9) (y0.hh.free h1) (y0.hh.free h2) o⟩
theorem sv_retO2 {v1 v2 : V} {as : List α} {bs : List β} (h1 : σ[i]? = some (some v1)) (h2 : σ[j]? = some (some v2)) (o1 : Own K G H v1 p vs as) (o2 : Own K G H v2 q ws bs) (ne : p ≠ q) (s : Same G H)
    (k : ∀ v G2 H2, Ext G H G2 H2 → Own2 K G2 H2 v p q vs ws (as, bs) → D.rt v H2) : tSeq (tRet (tTup (tCons (tVar i) (tCons (tVar j) tNil)))) rest D σ H := by
  obtain ⟨rfl, g1, hh1, z1, p1⟩ := o1
  obtain ⟨rfl, g2, hh2, z2, p2⟩ := o2
  refine ⟨_, h1, _, h2, by show 2 ≤ sizeLine; decide, fun t ht => ?_⟩
  have x4 : Ext G H (upd G t (.tup [.ref p, .ref q])) (upd H t (.tup [.ref p, .ref q])) := .new s ht
  exact k (.ref t) _ _ x4 ⟨⟨t, rfl, upd_same⟩, Own.ext ⟨rfl, g1, hh1, z1, p1⟩ x4, Own.ext ⟨rfl, g2, hh2, z2, p2⟩ x4, ne⟩
theorem Ext.del2 {G2 H2 : Hp} (o : Own2 K G H v p q vs ws a) (x : Ext (two G p q vs ws) H G2 H2) : Ext G H (L2.del (L2.del G2 q) p) H2 := (x.del o.g2).del o.o1.g
noncomputable def consO {α : Type} (a : α) (as : List α) : Option (List α) := if as.length < sizeLine then some (a :: as) else none
noncomputable def rInsert0 : V → List V → Hp → VK → Prop := fun x vs H Q => ∃ l xs y, x = .ref l ∧ vs = [.int 0, y] ∧ H l = some (.lst xs) ∧ xs.length < sizeLine ∧ Q .non (upd H l (.lst (y :: xs)))
theorem mt_insert0 {X : Cx} : MtR X "list.insert" rInsert0 := by
  intro pins s σ H x vs v us Q I rx rv h
  obtain ⟨l, xs, y, rfl, rfl, hH, hz, q⟩ := h
  cases rx
  obtain ⟨u0, u, rfl, r0, ru⟩ := vals2 rv
  obtain ⟨t0, rfl⟩ := r0
  obtain ⟨z, its, n, r, hl, e⟩ := I.lstM hH
  refine call_meets F.slot_list_insert ⟨_, e, rfl⟩ F.entry_list_insert (F.args_list_insert_3 _ _ _) (AutoSeq1.list_insert_list_int_val_1 l its.toArray n 0 t0 u (by decide) (by rw [List.size_toArray]; omega)) ⟨e, ?_⟩
  refine ⟨.non, _, I.lset (its' := u :: its) hH e (by simp) (.cons ru r) ?_, rfl, q⟩
  rw [List.length_cons]
  omega
theorem sv_setNB2 {δ ε : Type} [Rp δ] [Imm δ] [Rp ε] [Imm ε] {m : Option (List δ × List ε)} {b : List δ × List ε} (o : Own2 K G H v p q vs ws a) (e : NV K te σ (two G p q vs ws) m) (hm : m = some b) (s : Same G H)
    (k : ∀ w G2 H2, Ext G H G2 H2 → Rp.rel K G2 w b → rest D (σ.set i (some w)) H2) : tSeq (tAsg te (gName i)) rest D σ H :=
  e _ (.refl _) b hm H (o.same s) _ fun w p' q' vs' ws' G2 H2 x h1 h2 o' => by
    have gp : G2 p = some (.lst vs) := x.gg _ _ (by unfold two; rw [upd_ne o.ne]; exact upd_same)
    have gq : G2 q = some (.lst ws) := x.gg _ _ upd_same
    have x' := x.del2 o
    have np : ∀ b, G2 b = none → L2.del (L2.del G2 q) p b = none := fun b hb => by
      unfold L2.del
      split
      · rfl
      · split
        · rfl
        · exact hb
    have dp : L2.del G2 q p = some (.lst vs) := by rw [del_ne o.ne]; exact gp
    have o2 : Own2 K (L2.del (L2.del G2 q) p) H2 w p' q' vs' ws' b := by
      obtain ⟨t, e1, ht⟩ := o'.t
      refine ⟨⟨t, e1, ?_⟩, ⟨rfl, np _ o'.o1.g, o'.o1.h, o'.o1.z, Paired.imp' (fun _ _ r => Imm.del dp (Imm.del gq r)) o'.o1.p⟩, ⟨rfl, np _ o'.o2.g, o'.o2.h, o'.o2.z, Paired.imp' (fun _ _ r => Imm.del dp (Imm.del gq r)) o'.o2.p⟩, o'.ne⟩
      have n1 : t ≠ p := fun z => by rw [z, gp] at ht; cases ht
      have n2 : t ≠ q := fun z => by rw [z, gq] at ht; cases ht
      rw [del_ne n1, del_ne n2]
      exact ht
    exact k w _ H2 (o2.frz x' h1 h2) o2.tell
end
end L2
set_option Elab.async false
set_option linter.all false
set_option maxRecDepth 100000
set_option maxHeartbeats 4000000
namespace L2
open PySem PySem.Spec PyProof.Rows
section
variable {X : Cx} {K : PySem.W.Frag}
theorem op_plusK (h : X.K = K) : OpR X (binaryOp .Add) (rPlus K) := h ▸ op_plus
theorem op_mulK (h : X.K = K) : OpR X (binaryOp .Mult) (rMul K) := h ▸ op_mulU
theorem sl_anyK (h : X.K = K) : SlR X (rSl K) := h ▸ sl_any
theorem ix_anyK (h : X.K = K) : IxR X (rAt K) := h ▸ ix_any
theorem call_lenK (h : X.K = K) : CallR X (.builtin "len") (rLen K) := h ▸ call_lenU
theorem call_instK (h : X.K = K) : CallR X (.builtin "isinstance") (rInst K) := h ▸ call_inst
theorem op_eqK {j : Nat} (h : X.K = K) (α : Type) [Rp α] [DecidableEq α] [RpE α] (hr : Room j X.A) (hk : RpE.k α ≤ 10) : OpR X (compareOp .Eq) (rEqD K α) := h ▸ op_eqM α hr hk
theorem call_listK (h : X.K = K) : CallR X (.type "list") (fun xs H Q => ∃ p ys, xs = [.ref p] ∧ (SqL K H p ys ∨ SqT K H p ys) ∧ ∀ l, H l = none → Q (.ref l) (upd H l (.lst ys))) := h ▸ call_list_of
theorem pi_anyK {tg l : Expr} {tl : TE} (h : X.K = K) (hl : PE X l tl) : PI X tg l (iAny K tl) := h ▸ pi_any hl
theorem pt_truthK {a : Expr} {ta : TE} (h : X.K = K) (ha : PE X a ta) (he : ∀ whole, isTrue a X.env whole = (do let v ← whole; standAt a.pos; holding [v] (truthy v))) :
    PT X a (fun σ H Q => ta σ H fun x H' => ∃ k, TruV K x H' k ∧ Q k H') := h ▸ pt_truth ha he
section
variable {o e : Expr} {es : List Expr} {to : TE} {t : TA} {name : Str} {apos cpos : Pos} {T id : String} {r : V → List V → Hp → VK → Prop}
theorem pe_bmK (h : X.K = K) (pa : PlainAttrs T) (slot : Slot T name id) (hty : typeOf (.builtin id) = pure (.type "method_descriptor")) (hm : MtR X id r) (ho : PE X o to) (ha : PA X (e :: es) t)
    (hbase : attributeBase o name X.env (eval o X.env) = eval o X.env := by rfl)
    (hfew : ((backTo cpos (starEach (e :: es) X.env)).all (fun x => !x.1) && (backToKw cpos (keywordEach [] X.env)).all (fun x => x.1.isSome)
      && decide ((e :: es).length + ([] : List Keyword).length + (if ([] : List Keyword).isEmpty then 0 else 1) < 30)) = true := by rfl)
    (hline : (apos.endLine == cpos.line) = true := by rfl) (hs : starEach (e :: es) X.env = (false, eval e X.env) :: starEach es X.env := by rfl) (hplain : (backTo cpos (starEach es X.env)).any (·.1) = false := by rfl) :
    PE X (.Call (.Attribute o name apos) (e :: es) [] cpos) (tBM K T r to t) := h ▸ pe_bm pa slot hty hm ho ha hbase hfew hline hs hplain
end
end
theorem sv_nx {f : St → Hp → Prop} {rt : VK} {bk ct : St → Hp → Prop} {σ : St} {H : Hp} (h : f σ H) : ({ nx := f, rt := rt, bk := bk, ct := ct } : Ends).nx σ H := h
end L2
set_option Elab.async false
set_option linter.all false
set_option maxRecDepth 100000
set_option maxHeartbeats 4000000
namespace L2
open PySem PySem.Spec PyProof.Rows
section
variable {K : PySem.W.Frag} {σ : St} {G H : Hp} {α β γ : Type} [Rp α] [Rp β] [Rp γ] {ta tb te : TE} {rest t u : TS} {D : Ends} {i j : Nat}
end
end L2
set_option Elab.async false
set_option linter.all false
set_option maxRecDepth 100000
set_option maxHeartbeats 4000000
namespace L2
open PySem PySem.Spec PyProof.Rows
inductive D where
  | non
  | bl (b : Bool)
  | int (i : Int)
  | str (x : Str)
  | lst (l : List D)
  | tup (l : List D)
  | dic
mutual
inductive RelD (K : PySem.W.Frag) (H : Hp) : V → D → Prop where
  | non : RelD K H .non .non
  | bl (b : Bool) : RelD K H (.bl b) (.bl b)
  | int (i : Int) : RelD K H (.int i) (.int i)
  | str (x : Str) (z : x.length ≤ sizeLine) : RelD K H (.str x) (.str x)
  | lst {a : Addr} {xs : List V} {ds : List D} (h : Rd H a (.lst xs)) (z : xs.length ≤ sizeLine) (r : RelDs K H xs ds) : RelD K H (.ref a) (.lst ds)
  | tup {a : Addr} {xs : List V} {ds : List D} (h : SqT K H a xs) (z : xs.length ≤ sizeLine) (r : RelDs K H xs ds) : RelD K H (.ref a) (.tup ds)
  | dK {a : Addr} {kvs : List (Key × V)} (h : Rd H a (.dK kvs)) : RelD K H (.ref a) .dic
inductive RelDs (K : PySem.W.Frag) (H : Hp) : List V → List D → Prop where
  | nil : RelDs K H [] []
  | cons {x : V} {d : D} {xs : List V} {ds : List D} (h : RelD K H x d) (t : RelDs K H xs ds) : RelDs K H (x :: xs) (d :: ds)
end
mutual
theorem RelD.mono {K : PySem.W.Frag} {H H' : Hp} (s : Same H H') : ∀ {v : V} {d : D}, RelD K H v d → RelD K H' v d
  | _, _, .non => .non
  | _, _, .bl b => .bl b
  | _, _, .int i => .int i
  | _, _, .str x z => .str x z
  | _, _, .lst h z r => .lst (s.rd h) z (RelDs.mono s r)
  | _, _, .tup h z r => .tup (s.tup h) z (RelDs.mono s r)
  | _, _, .dK h => .dK (s.rd h)
theorem RelDs.mono {K : PySem.W.Frag} {H H' : Hp} (s : Same H H') : ∀ {v : List V} {d : List D}, RelDs K H v d → RelDs K H' v d
  | _, _, .nil => .nil
  | _, _, .cons h t => .cons (RelD.mono s h) (RelDs.mono s t)
end
noncomputable instance rpD : Rp D := ⟨RelD, fun s h => RelD.mono s h⟩
theorem relDs_of {K : PySem.W.Frag} {H : Hp} : ∀ {xs : List V} {ds : List D}, Paired (Rp.rel K H) xs ds → RelDs K H xs ds
  | _, _, .nil => .nil
  | _, _, .cons h t => .cons h (relDs_of t)
theorem of_relDs {K : PySem.W.Frag} {H : Hp} : ∀ {xs : List V} {ds : List D}, RelDs K H xs ds → Paired (Rp.rel K H) xs ds
  | _, _, .nil => .nil
  | _, _, .cons h t => .cons h (of_relDs t)
class ToD (α : Type) [Rp α] where
  to : α → D
  rel : ∀ {K : PySem.W.Frag} {H : Hp} {v : V} {a : α}, Rp.rel K H v a → RelD K H v (to a)
theorem toDs {K : PySem.W.Frag} {H : Hp} {α : Type} [Rp α] [ToD α] : ∀ {xs : List V} {as : List α}, Paired (Rp.rel K H) xs as → Paired (Rp.rel (α := D) K H) xs (as.map ToD.to)
  | _, _, .nil => .nil
  | _, _, .cons h t => .cons (ToD.rel h) (toDs t)
noncomputable instance tdD : ToD D := ⟨id, fun h => h⟩
noncomputable instance tdInt : ToD Int := ⟨.int, fun h => by cases h; exact .int _⟩
noncomputable instance tdBool : ToD Bool := ⟨.bl, fun h => by cases h; exact .bl _⟩
noncomputable instance tdStr : ToD Str := ⟨.str, fun h => by obtain ⟨rfl, z⟩ := h; exact .str _ z⟩
noncomputable instance tdUnit : ToD Unit := ⟨fun _ => .non, fun h => by cases h; exact .non⟩
noncomputable instance tdList {α : Type} [Rp α] [ToD α] : ToD (List α) := ⟨fun l => .lst (l.map ToD.to), fun ⟨l, xs, e, h, z, p⟩ => by subst e; exact .lst h z (relDs_of (toDs p))⟩
noncomputable instance tdTp {α : Type} [Rp α] [ToD α] : ToD (Tp α) := ⟨fun l => .tup (l.l.map ToD.to), fun ⟨l, xs, e, h, z, p⟩ => by subst e; exact .tup h z (relDs_of (toDs p))⟩
noncomputable instance tdPair {α β : Type} [Rp α] [ToD α] [Rp β] [ToD β] : ToD (α × β) := ⟨fun p => .tup [ToD.to p.1, ToD.to p.2], fun ⟨t, x, y, e, h, r1, r2⟩ => by subst e; exact .tup h (by show 2 ≤ sizeLine; decide) (.cons (ToD.rel r1) (.cons (ToD.rel r2) .nil))⟩
noncomputable def dk : D → String
  | .non => "NoneType"
  | .bl _ => "bool"
  | .int _ => "int"
  | .str _ => "str"
  | .lst _ => "list"
  | .tup _ => "tuple"
  | .dic => "dict"
noncomputable def isK (T : String) (d : D) : Bool := dk d == T || (T == "int" && dk d == "bool")
section
variable {K : PySem.W.Frag} {σ : St} {G : Hp} {α β : Type} [Rp α] [Rp β] {ta tb te : TE} {md : Option D}
theorem ev_toD [ToD α] {m : Option α} (e : EV K te σ G m) : EV K te σ G (m.bind fun a => some (ToD.to a)) := by
  intro G1 s1 c hc H sH Q k
  obtain ⟨a, ha, hc⟩ := Option.bind_eq_some_iff.mp hc
  cases hc
  exact e G1 s1 a ha H sH Q fun v G2 H2 x r => k v G2 H2 x (ToD.rel r)
theorem RelD.ty {H : Hp} {v : V} {d : D} (r : RelD K H v d) : TyS K H v (dk d) := by
  cases r with
  | non => exact .non
  | bl => exact .bl _
  | int => exact .int _
  | str => exact .str _
  | lst h => exact .lst (.inl h)
  | tup h => exact .tup h
  | dK h => exact .dK h
theorem kit_all : ∀ n ∈ ["NoneType", "bool", "int", "str", "list", "tuple", "dict"], ∀ T ∈ ["str", "list", "tuple", "bool", "int", "dict"], kitC n T = some (n == T || (T == "int" && n == "bool")) := by decide +kernel
theorem isK_ok {T : String} (hT : T ∈ ["str", "list", "tuple", "bool", "int", "dict"]) (d : D) : kitC (dk d) T = some (isK T d) := by
  unfold isK
  exact kit_all (dk d) (by cases d <;> simp [dk]) T hT
theorem ev_instD {T : String} (hT : T ∈ ["str", "list", "tuple", "bool", "int", "dict"]) (ea : EV K ta σ G md) : EV K (tCB (rInst K) (tCons ta (tCons (tC (.ty T)) tNil))) σ G (md.bind fun d => some (isK T d)) := by
  intro G1 s1 c hc H sH Q k
  obtain ⟨a, ha, hc⟩ := Option.bind_eq_some_iff.mp hc
  cases hc
  refine ea G1 s1 a ha H sH _ fun v G2 H2 x2 r2 => ?_
  exact ⟨_, _, _, _, rfl, (RelD.ty r2).mono x2.gh, isK_ok hT a, k _ _ _ x2 rfl⟩
theorem RelDs.len {H : Hp} {xs : List V} {ds : List D} (r : RelDs K H xs ds) : xs.length = ds.length := Paired.length (of_relDs r)
end
end L2
set_option Elab.async false
set_option linter.all false
set_option maxRecDepth 100000
set_option maxHeartbeats 4000000
namespace L2
open PySem PySem.Spec PyProof.Rows
section
variable {K : PySem.W.Frag} {σ : St} {G : Hp} {ta : TE}
end
end L2
set_option Elab.async false
set_option linter.all false
set_option maxRecDepth 100000
set_option maxHeartbeats 4000000
namespace L2
open PySem PySem.Spec PyProof.Rows
noncomputable def OK {α : Type} (m : Option α) (P : α → Prop) : Prop := ∃ a, m = some a ∧ P a
section
variable {α β S ρ : Type} {m : Option α} {P Q : α → Prop} {R : β → Prop}
theorem OK.mono (h : OK m P) (k : ∀ a, P a → Q a) : OK m Q := let ⟨a, e, p⟩ := h; ⟨a, e, k a p⟩
theorem ok_some {a : α} (h : P a) : OK (some a) P := ⟨a, rfl, h⟩
theorem ok_bind {f : α → Option β} (h : OK m fun a => OK (f a) R) : OK (m.bind f) R := by
  obtain ⟨a, rfl, h⟩ := h
  exact h
theorem ok_by {f : α → Option β} (h : OK m P) (k : ∀ a, P a → OK (f a) R) : OK (m.bind f) R := ok_bind (h.mono k)
theorem ok_cond {b : Bool} {x y : Option α} (h1 : b = true → OK x P) (h2 : b = false → OK y P) : OK (cond b x y) P := by
  cases b with
  | true => exact h1 rfl
  | false => exact h2 rfl
theorem OK.eq {a : α} (h : OK m fun b => b = a) : m = some a := by obtain ⟨b, e, rfl⟩ := h; exact e
theorem OK.of {a : α} (e : m = some a) (h : P a) : OK m P := ⟨a, e, h⟩
theorem bindS {α β : Type} (a : α) (f : α → Option β) : (some a).bind f = f a := by rw [Option.bind_some]
theorem bind_self {α : Type} (m : Option α) : (m.bind fun x => some x) = m := by cases m <;> rfl
theorem ok_mod {a b : Int} {P : Int → Prop} (hb : 0 < b) (h : P (a % b)) : OK (modO a b) P := ⟨_, if_pos hb, h⟩
theorem ok_mul {a b : Int} {P : Int → Prop} (hb : CMul a b) (h : P (a * b)) : OK (mulO a b) P := ⟨_, if_pos hb, h⟩
theorem ok_div {a b : Int} {P : Int → Prop} (hb : 0 < b ∧ b < 1073741824) (h : P (a / b)) : OK (divO a b) P := ⟨_, if_pos hb, h⟩
theorem ok_push {a : List α} {b : α} {P : List α → Prop} (hb : a.length < sizeLine) (h : P (a ++ [b])) : OK (pushO a b) P := ⟨_, if_pos hb, h⟩
theorem ok_rng {lo hi : Int} {n : Nat} {P : List Int → Prop} (hn : hi - lo = n) (h0 : -1000000000 ≤ lo ∧ lo ≤ 1000000000) (h1 : n ≤ sizeLine) (h : P ((List.range n).map fun (i : Nat) => lo + (i : Int))) : OK (rngO lo hi) P := by
  have hs : sizeLine = 16777216 := sizeLine_eq
  have e : (hi - lo).toNat = n := by omega
  refine ⟨_, if_pos ⟨⟨by omega, by omega, by omega, by omega⟩, by omega⟩, ?_⟩
  rw [e]
  exact h
theorem ok_at {a : List α} {i : Int} (h0 : 0 ≤ i) (h1 : i < a.length) (h : ∀ x, a[i.toNat]? = some x → P x) : OK (atI a i) P := by
  obtain ⟨k, rfl⟩ := Int.eq_ofNat_of_zero_le h0
  have hk : k < a.length := by omega
  refine ⟨a[k], atI_nat (by simp [hk]), h _ ?_⟩
  rw [Int.toNat_natCast]
  simp [hk]
theorem ok_last {a : List α} (h : a ≠ []) (k : P (a.getLast h)) : OK (atI a (-1)) P := by
  refine ⟨_, ?_, k⟩
  have := atI_last a.dropLast (a.getLast h)
  rwa [List.dropLast_concat_getLast] at this
theorem ok_for {f : α → S → Option (Fl S ρ)} {as : List α} {s0 : S} (I : Nat → S → Prop) (J : S → Prop) (R : ρ → Prop) {P : Fl S ρ → Prop} (h0 : I 0 s0)
    (hs : ∀ (i : Nat) a s, as[i]? = some a → I i s → OK (f a s) fun fl => match fl with | .nx s' => I (i + 1) s' | .bk s' => J s' | .rt r => R r)
    (hn : ∀ s, I as.length s → P (.nx s)) (hj : ∀ s, J s → P (.nx s)) (hr : ∀ r, R r → P (.rt r)) : OK (forO f as s0) P := by
  have key : ∀ (n i : Nat) (s : S), n = as.length - i → i ≤ as.length → I i s → OK (forO f (as.drop i) s) P := by
    intro n
    induction n with
    | zero =>
      intro i s hn0 hi hI
      have e : i = as.length := by omega
      subst e
      rw [List.drop_length]
      exact ok_some (hn s hI)
    | succ n ih =>
      intro i s hn0 hi hI
      have hlt : i < as.length := by omega
      rw [List.drop_eq_getElem_cons hlt]
      obtain ⟨fl, e, h⟩ := hs i as[i] s (by simp [hlt]) hI
      show OK ((f as[i] s).bind _) P
      rw [e]
      cases fl with
      | nx s' => exact ih (i + 1) s' (by omega) hlt h
      | bk s' => exact ok_some (hj s' h)
      | rt r => exact ok_some (hr r h)
  exact key as.length 0 s0 (by omega) (Nat.zero_le _) h0
theorem ok_for' {f : α → S → Option (Fl S ρ)} {as : List α} {s0 : S} (I : Nat → S → Prop) {P : Fl S ρ → Prop} (h0 : I 0 s0)
    (hs : ∀ (i : Nat) a s, as[i]? = some a → I i s → OK (f a s) fun fl => ∃ s', fl = .nx s' ∧ I (i + 1) s') (hn : ∀ s, I as.length s → P (.nx s)) : OK (forO f as s0) P :=
  ok_for I (fun _ => False) (fun _ => False) h0 (fun i a s ha hI => (hs i a s ha hI).mono fun fl ⟨s', e, h⟩ => by subst e; exact h) hn (fun _ h => h.elim) fun _ h => h.elim
theorem ok_while {c : S → Option Bool} {f : S → Option (Fl S ρ)} {s0 : S} (I : S → Prop) (J : S → Prop) (R : ρ → Prop) (μ : S → Nat) {P : Fl S ρ → Prop} (h0 : I s0) (hμ : μ s0 < 1000000)
    (hs : ∀ s, I s → OK (c s) fun b => if b = true then OK (f s) fun fl => match fl with | .nx s' => I s' ∧ μ s' < μ s | .bk s' => J s' | .rt r => R r else P (.nx s))
    (hj : ∀ s, J s → P (.nx s)) (hr : ∀ r, R r → P (.rt r)) : OK (whileN c f fuelW s0) P := by
  have key : ∀ (n : Nat) (s : S), μ s < n → I s → OK (whileN c f n s) P := by
    intro n
    induction n with
    | zero => intro s h; exact absurd h (Nat.not_lt_zero _)
    | succ n ih =>
      intro s hlt hI
      obtain ⟨b, e, h⟩ := hs s hI
      show OK ((c s).bind _) P
      rw [e]
      cases b with
      | false =>
        rw [if_neg Bool.false_ne_true] at h
        exact ok_some h
      | true =>
        rw [if_pos rfl] at h
        obtain ⟨fl, e2, h⟩ := h
        show OK ((f s).bind _) P
        rw [e2]
        cases fl with
        | nx s' => exact ih s' (by have := h.2; omega) h.1
        | bk s' => exact ok_some (hj s' h)
        | rt r => exact ok_some (hr r h)
  exact key fuelW s0 (by unfold fuelW; omega) h0
theorem ok_map {f : α → Option β} {g : α → β} {P : List β → Prop} : ∀ {as : List α}, (∀ a ∈ as, f a = some (g a)) → P (as.map g) → OK (mapO f as) P := by
  intro as
  have key : ∀ as : List α, (∀ a ∈ as, f a = some (g a)) → mapO f as = some (as.map g) := by
    intro as
    induction as with
    | nil => intro _; rfl
    | cons a r ih =>
      intro h
      show ((f a).bind fun y => (mapO f r).bind fun ys => some (y :: ys)) = _
      rw [h a List.mem_cons_self, ih fun x hx => h x (List.mem_cons_of_mem _ hx)]
      rfl
  exact fun h p => ⟨_, key as h, p⟩
theorem ok_mapR {f : α → Option β} {R : α → β → Prop} {P : List β → Prop} : ∀ {as : List α}, (∀ a ∈ as, OK (f a) (R a)) → (∀ bs : List β, bs.length = as.length → (∀ b ∈ bs, ∃ a ∈ as, R a b) → (∀ (i : Nat) a b, as[i]? = some a → bs[i]? = some b → R a b) → P bs) → OK (mapO f as) P := by
  intro as
  have key : ∀ as : List α, (∀ a ∈ as, OK (f a) (R a)) → OK (mapO f as) fun bs => bs.length = as.length ∧ (∀ b ∈ bs, ∃ a ∈ as, R a b) ∧ ∀ (i : Nat) a b, as[i]? = some a → bs[i]? = some b → R a b := by
    intro as
    induction as with
    | nil => intro _; exact ok_some ⟨rfl, fun b h => by simp at h, fun i a b h => by simp at h⟩
    | cons a r ih =>
      intro h
      refine ok_by (h a List.mem_cons_self) fun y hy => ok_by (ih fun x hx => h x (List.mem_cons_of_mem _ hx)) fun ys ⟨h1, h2, h3⟩ => ok_some ⟨by simp [h1], ?_, ?_⟩
      · intro b hb
        rcases List.mem_cons.mp hb with e | e
        · subst e
          exact ⟨a, List.mem_cons_self, hy⟩
        · obtain ⟨x, hx, hr⟩ := h2 b e
          exact ⟨x, List.mem_cons_of_mem _ hx, hr⟩
      · intro i x b hx hb
        cases i with
        | zero => simp at hx hb; subst hx; subst hb; exact hy
        | succ i => exact h3 i x b (by simpa using hx) (by simpa using hb)
  exact fun h p => (key as h).mono fun bs ⟨h1, h2, h3⟩ => p bs h1 h2 h3
theorem ok_comp {fc : α → Option Bool} {fe : α → Option β} {c : α → Bool} {g : α → β} {P : List β → Prop} {as : List α} (hc : ∀ a ∈ as, fc a = some (c a)) (he : ∀ a ∈ as, c a = true → fe a = some (g a)) (p : P ((as.filter c).map g)) : OK (compO fc fe as) P := by
  have key : ∀ as : List α, (∀ a ∈ as, fc a = some (c a)) → (∀ a ∈ as, c a = true → fe a = some (g a)) → compO fc fe as = some ((as.filter c).map g) := by
    intro as
    induction as with
    | nil => intro _ _; rfl
    | cons a r ih =>
      intro h1 h2
      have i := ih (fun x hx => h1 x (List.mem_cons_of_mem _ hx)) fun x hx => h2 x (List.mem_cons_of_mem _ hx)
      show ((fc a).bind fun b => cond b ((fe a).bind fun y => (compO fc fe r).bind fun ys => some (y :: ys)) (compO fc fe r)) = _
      rw [h1 a List.mem_cons_self, i]
      cases hb : c a with
      | true =>
        show ((fe a).bind fun y => _) = _
        rw [h2 a List.mem_cons_self hb]
        simp [hb]
      | false => simp [hb]
  exact ⟨_, key as hc he, p⟩
end
end L2
set_option Elab.async false
set_option linter.all false
set_option maxRecDepth 100000
namespace Lasso
variable {α β : Type}
end Lasso
set_option Elab.async false
set_option linter.all false
set_option maxRecDepth 100000
namespace Lasso
variable {α : Type} [DecidableEq α]
end Lasso
set_option Elab.async false
set_option linter.all false
set_option maxRecDepth 100000
set_option maxHeartbeats 4000000
namespace L2
open PySem PySem.Spec PyProof.Rows
section
variable {K : PySem.W.Frag} {σ : St} {G H G0 H0 Gx G1 H1 G2 H2 : Hp} {α β : Type} [Rp α] [Rp β] {ta tb tc te : TE} {tt : TT} {t u rest : TS} {D : Ends} {i j : Nat} {v : V}
end
end L2
set_option Elab.async false
set_option linter.all false
set_option maxRecDepth 100000
set_option maxHeartbeats 4000000
namespace L2
open PySem PySem.Spec PyProof.Rows
noncomputable def popO {α : Type} : List α → Option (α × List α)
  | [] => none
  | [a] => some (a, [])
  | a :: b :: r => (popO (b :: r)).bind fun p => some (p.1, a :: p.2)
theorem popO_eq {α : Type} : ∀ {as : List α} (h : as ≠ []), popO as = some (as.getLast h, as.dropLast)
  | [], h => absurd rfl h
  | [a], _ => rfl
  | a :: b :: r, _ => by
    show ((popO (b :: r)).bind fun p => some (p.1, a :: p.2)) = _
    rw [popO_eq (by simp)]
    rfl
theorem Paired.last {α β : Type} {R : α → β → Prop} : ∀ {vs : List α} {as : List β} {a : β} {as' : List β}, Paired R vs as → popO as = some (a, as') → ∃ w, vs[vs.length - 1]? = some w ∧ R w a ∧ Paired R vs.dropLast as'
  | _, _, _, _, .nil, hp => by cases hp
  | _, _, _, _, .cons h .nil, hp => by
    cases hp
    exact ⟨_, rfl, h, .nil⟩
  | _, _, _, _, .cons h (.cons h2 t), hp => by
    obtain ⟨q, hq, e⟩ := Option.bind_eq_some_iff.mp hp
    cases e
    obtain ⟨w, hw, r, pr⟩ := Paired.last (.cons h2 t) hq
    exact ⟨w, by simpa using hw, r, .cons h pr⟩
section
variable {X : Cx} {K : PySem.W.Frag} {o : Expr} {to : TE} {name : Str} {apos cpos : Pos} {T id : String} {r : V → List V → Hp → VK → Prop}
theorem pe_bm0K (h : X.K = K) (pa : PlainAttrs T) (slot : Slot T name id) (hty : typeOf (.builtin id) = pure (.type "method_descriptor")) (hm : MtR X id r) (ho : PE X o to)
    (hbase : attributeBase o name X.env (eval o X.env) = eval o X.env := by rfl) (hline : (apos.endLine == cpos.line) = true := by rfl) : PE X (.Call (.Attribute o name apos) [] [] cpos) (tBM0 K T r to) := h ▸ pe_bm0 pa slot hty hm ho hbase hline
end
section
variable {K : PySem.W.Frag} {σ : St} {G H G1 H1 G0 H0 : Hp} {α β : Type} [Rp α] [Rp β] {te ti : TE} {tt : TT} {t u rest : TS} {D : Ends} {i j : Nat} {a : α} {m : Option α} {as : List α} {v : V} {p q : Addr} {vs : List V}
theorem sv_pop {as' : List α} (hσ : σ[i]? = some (some v)) (o : Own K G H v p vs as) (hp : popO as = some (a, as'))
    (k : ∀ w, Rp.rel K G w a → Own K G (upd H p (.lst vs.dropLast)) v p vs.dropLast as' → rest D (σ.set j (some w)) (upd H p (.lst vs.dropLast))) : tSeq (tAsg (tBM0 K "list" rPop (tVar i)) (gName j)) rest D σ H := by
  obtain ⟨rfl, og, oh, oz, op⟩ := o
  obtain ⟨w, hw, r, pr⟩ := Paired.last op hp
  refine ⟨_, hσ, .inl ⟨rfl, _, SqL.of oh⟩, p, vs, w, rfl, rfl, oh, hw, ?_⟩
  refine k w r ⟨rfl, og, upd_same, ?_, pr⟩
  rw [List.length_dropLast]
  omega
noncomputable def era (H : Hp) (C : List Addr) : Hp := fun a => if a ∈ C then none else H a
theorem era_in {C : List Addr} {b : Addr} (h : b ∈ C) : era H C b = none := if_pos h
theorem era_out {C : List Addr} {b : Addr} (h : b ∉ C) : era H C b = H b := if_neg h
theorem era_same {C : List Addr} : Same (era H C) H := fun b o e => by
  by_cases h : b ∈ C
  · rw [era_in h] at e
    cases e
  · rw [era_out h] at e
    exact e
theorem Ext.begin {C : List Addr} (s : Same G H) : Ext G (era H C) G H := ⟨.refl _, s, era_same, fun _ h _ => h⟩
theorem Ext.past {C : List Addr} (x : Ext G0 H0 G H) (h0 : ∀ b ∈ C, H0 b = none) (y : Ext G (era H C) G1 H1) : Ext G0 H0 G1 H1 := by
  refine ⟨x.gg.trans y.gg, y.gh, fun b o e => ?_, fun b g h => ?_⟩
  · have hb : b ∉ C := fun hc => by
      rw [h0 b hc] at e
      cases e
    exact y.hh b o (by rw [era_out hb]; exact x.hh b o e)
  · have hb : b ∉ C := fun hc => h (h0 b hc)
    refine y.no b (x.no b g h) ?_
    rw [era_out hb]
    cases e : H0 b with
    | none => exact absurd e h
    | some o =>
      rw [x.hh b o e]
      exact fun z => nomatch z
theorem Own.past {C : List Addr} (o : Own K G H v p vs as) (hp : p ∉ C) (y : Ext G (era H C) G1 H1) : Own K G1 H1 v p vs as :=
  ⟨o.v, y.no p o.g (by rw [era_out hp, o.h]; exact fun z => nomatch z), y.hh _ _ (by rw [era_out hp]; exact o.h), o.z, Paired.imp' (fun _ _ r => Rp.mono y.gg r) o.p⟩
noncomputable def spW2 (K : PySem.W.Frag) {A : Type} [RpA A] {α β : Type} [Rp α] [Rp β] (m : List α → List β → A → Option (List α × List β)) : Sp := fun vs H Q _ =>
  ∃ G p q xs ys us as bs a r, vs = .ref p :: .ref q :: us ∧ Same G H ∧ p ≠ q ∧ Own K G H (.ref p) p xs as ∧ Own K G H (.ref q) q ys bs ∧ RpA.rel K G us a ∧ m as bs a = some r ∧
    ∀ G2 H2 xs' ys', Ext G (era H [p, q]) G2 H2 → Own K G2 H2 (.ref p) p xs' r.1 → Own K G2 H2 (.ref q) q ys' r.2 → Q .non H2
theorem spW2_len {A : Type} [RpA A] {m : List α → List β → A → Option (List α × List β)} {vs : List V} {Q : VK} {E : XK} (h : spW2 K m vs H Q E) : vs.length = RpA.n A + 2 := by
  obtain ⟨G, p, q, xs, ys, us, as, bs, a, r, rfl, _, _, _, _, h, _⟩ := h
  rw [List.length_cons, List.length_cons, RpA.len h]
theorem sv_callW2 {A : Type} [RpA A] {bs : List β} {w : V} {ws : List V} {mA : Option A} {ta : TA} {c : A} {m : List α → List β → A → Option (List α × List β)} {r : List α × List β} (hσ : σ[i]? = some (some v)) (hτ : σ[j]? = some (some w)) (o : Own K G H v p vs as) (o2 : Own K G H w q ws bs) (ne : p ≠ q) (ea : AV K ta σ G mA) (ha : mA = some c) (hm : m as bs c = some r) (s : Same G H)
    (k : ∀ G1 H1 G2 H2 vs' ws', Ext G H G1 H1 → Ext G1 (era H1 [p, q]) G2 H2 → Own K G2 H2 v p vs' r.1 → Own K G2 H2 w q ws' r.2 → rest D σ H2) : tSeq (tDrop (tCall (spW2 K m) [] E0 (tCons (tVar i) (tCons (tVar j) ta)))) rest D σ H := by
  have ov := o.v
  have ow := o2.v
  subst ov
  subst ow
  refine ⟨_, hσ, _, hτ, ?_⟩
  refine ea G (.refl G) c ha H s _ fun us G1 H1 x h => ?_
  exact ⟨G1, p, q, vs, ws, us, as, bs, c, r, List.append_nil _, x.gh, ne, o.ext x, o2.ext x, h, hm, fun G2 H2 xs' ys' y o' o2' => k G1 H1 G2 H2 xs' ys' x y o' o2'⟩
end
end L2
set_option Elab.async false
set_option linter.all false
set_option maxRecDepth 100000
set_option maxHeartbeats 4000000
namespace L2
open PySem PySem.Spec PyProof.Rows
inductive Nt where
  | txt (x : Str)
  | tup (l : List Nt)
  | int (n : Int)
mutual
noncomputable def Nt.dec : (a b : Nt) → Decidable (a = b)
  | .txt x, .txt y => if h : x = y then .isTrue (by rw [h]) else .isFalse fun e => h (by cases e; rfl)
  | .txt _, .tup _ => .isFalse fun e => by cases e
  | .tup _, .txt _ => .isFalse fun e => by cases e
  | .int m, .int n => if h : m = n then .isTrue (by rw [h]) else .isFalse fun e => h (by cases e; rfl)
  | .int _, .txt _ => .isFalse fun e => by cases e
  | .int _, .tup _ => .isFalse fun e => by cases e
  | .txt _, .int _ => .isFalse fun e => by cases e
  | .tup _, .int _ => .isFalse fun e => by cases e
  | .tup l, .tup m => match Nt.decs l m with
    | .isTrue h => .isTrue (by rw [h])
    | .isFalse h => .isFalse fun e => h (by cases e; rfl)
noncomputable def Nt.decs : (l m : List Nt) → Decidable (l = m)
  | [], [] => .isTrue rfl
  | [], _ :: _ => .isFalse fun e => by cases e
  | _ :: _, [] => .isFalse fun e => by cases e
  | a :: l, b :: m => match Nt.dec a b with
    | .isFalse h => .isFalse fun e => h (by cases e; rfl)
    | .isTrue h => match Nt.decs l m with
      | .isTrue h2 => .isTrue (by rw [h, h2])
      | .isFalse h2 => .isFalse fun e => h2 (by cases e; rfl)
end
noncomputable instance ntDec : DecidableEq Nt := Nt.dec
mutual
noncomputable def Nt.dep : Nt → Nat
  | .txt _ => 0
  | .int _ => 0
  | .tup l => Nt.deps l + 1
noncomputable def Nt.deps : List Nt → Nat
  | [] => 0
  | a :: l => max (Nt.dep a) (Nt.deps l)
end
mutual
inductive RelN (K : PySem.W.Frag) (H : Hp) : V → Nt → Prop where
  | txt (x : Str) (z : x.length ≤ sizeLine) : RelN K H (.str x) (.txt x)
  | int (n : Int) : RelN K H (.int n) (.int n)
  | tup {a : Addr} {xs : List V} {ds : List Nt} (h : SqT K H a xs) (z : xs.length ≤ sizeLine) (r : RelNs K H xs ds) (l : ds[0]? = some (.txt "lamp") → H a = some (.tup xs)) : RelN K H (.ref a) (.tup ds)
inductive RelNs (K : PySem.W.Frag) (H : Hp) : List V → List Nt → Prop where
  | nil : RelNs K H [] []
  | cons {x : V} {d : Nt} {xs : List V} {ds : List Nt} (h : RelN K H x d) (t : RelNs K H xs ds) : RelNs K H (x :: xs) (d :: ds)
end
mutual
theorem RelN.mono {K : PySem.W.Frag} {H H' : Hp} (s : Same H H') : ∀ {v : V} {d : Nt}, RelN K H v d → RelN K H' v d
  | _, _, .txt x z => .txt x z
  | _, _, .int n => .int n
  | _, _, .tup h z r l => .tup (s.tup h) z (RelNs.mono s r) fun e => s _ _ (l e)
theorem RelNs.mono {K : PySem.W.Frag} {H H' : Hp} (s : Same H H') : ∀ {v : List V} {d : List Nt}, RelNs K H v d → RelNs K H' v d
  | _, _, .nil => .nil
  | _, _, .cons h t => .cons (RelN.mono s h) (RelNs.mono s t)
end
noncomputable instance rpN : Rp Nt := ⟨RelN, fun s h => RelN.mono s h⟩
theorem relNs_of {K : PySem.W.Frag} {H : Hp} : ∀ {xs : List V} {ds : List Nt}, Paired (Rp.rel K H) xs ds → RelNs K H xs ds
  | _, _, .nil => .nil
  | _, _, .cons h t => .cons h (relNs_of t)
theorem of_relNs {K : PySem.W.Frag} {H : Hp} : ∀ {xs : List V} {ds : List Nt}, RelNs K H xs ds → Paired (Rp.rel K H) xs ds
  | _, _, .nil => .nil
  | _, _, .cons h t => .cons h (of_relNs t)
theorem SqT.keep {K : PySem.W.Frag} {H H' : Hp} {a : Addr} {xs : List V} (s : TupK H H') (h : SqT K H a xs) : SqT K H' a xs := by
  rcases h with h | h
  · exact .inl (s.rd _ _ h)
  · exact .inr h
mutual
theorem RelN.keep {K : PySem.W.Frag} {H H' : Hp} (s : TupK H H') : ∀ {v : V} {d : Nt}, RelN K H v d → RelN K H' v d
  | _, _, .txt x z => .txt x z
  | _, _, .int n => .int n
  | _, _, .tup h z r l => .tup (SqT.keep s h) z (RelNs.keep s r) fun e => s.eq _ _ (l e)
theorem RelNs.keep {K : PySem.W.Frag} {H H' : Hp} (s : TupK H H') : ∀ {v : List V} {d : List Nt}, RelNs K H v d → RelNs K H' v d
  | _, _, .nil => .nil
  | _, _, .cons h t => .cons (RelN.keep s h) (RelNs.keep s t)
end
noncomputable instance imN : Imm Nt := ⟨fun s h => RelN.keep s h⟩
noncomputable def isTxt : Hp → V → Nt → Prop := fun _ v a => (∃ x, v = .str x ∧ a = .txt x) ∨ ∃ n, v = .int n ∧ a = .int n
noncomputable def isU (K : PySem.W.Frag) (R : Hp → V → Nt → Prop) : Hp → V → Nt → Prop := fun H v a => isTxt H v a ∨ ∃ t xs l, v = .ref t ∧ SqT K H t xs ∧ a = .tup l ∧ Paired (R H) xs l
theorem txt_dec (x y : Str) : decide (Nt.txt x = Nt.txt y) = (x == y) := by
  rw [dec_beq]
  exact decide_eq_decide.mpr ⟨fun e => by cases e; rfl, fun e => by rw [e]⟩
theorem int_dec (m n : Int) : decide (Nt.int m = Nt.int n) = (m == n) := by
  rw [show (m == n) = decide (m = n) from rfl]
  exact decide_eq_decide.mpr ⟨fun e => by cases e; rfl, fun e => by rw [e]⟩
theorem eqTxt {K : PySem.W.Frag} : EqTy K 0 isTxt where
  fn := fun _ _ h h' => by
    rcases h with ⟨x, h1, e1⟩ | ⟨x, h1, e1⟩ <;> rcases h' with ⟨y, h2, e2⟩ | ⟨y, h2, e2⟩ <;> (subst h1; first | (cases h2; rw [e1, e2]; done) | cases h2)
  eq := fun A _ _ _ r1 r2 h h' => by
    rcases h with ⟨x, h1, e1⟩ | ⟨x, h1, e1⟩ <;> rcases h' with ⟨y, h2, e2⟩ | ⟨y, h2, e2⟩ <;> subst h1 <;> subst h2 <;> subst e1 <;> subst e2 <;> obtain ⟨t, rfl⟩ := r1 <;> obtain ⟨t', rfl⟩ := r2
    · rw [txt_dec]
      exact SeqAt.EqAt.str_str _ _ _ _
    · rw [decide_eq_false (fun e => by cases e)]
      exact SeqAt.EqAt.str_int _ _ _ _
    · rw [decide_eq_false (fun e => by cases e)]
      exact SeqAt.EqAt.int_str _ _ _ _
    · rw [int_dec]
      exact SeqAt.EqAt.int_int _ _ _ _
  rc := fun A _ _ _ r1 r2 h h' => by
    rcases h with ⟨x, h1, e1⟩ | ⟨x, h1, e1⟩ <;> rcases h' with ⟨y, h2, e2⟩ | ⟨y, h2, e2⟩ <;> subst h1 <;> subst h2 <;> subst e1 <;> subst e2 <;> obtain ⟨t, rfl⟩ := r1 <;> obtain ⟨t', rfl⟩ := r2
    · rw [txt_dec]
      exact ⟨SeqAt.RcAt.str_str _ _ _ _, SeqAt.RcNeAt.str_str _ _ _ _⟩
    · rw [decide_eq_false (fun e => by cases e)]
      exact ⟨SeqAt.RcAt.str_int _ _ _ _, SeqAt.RcNeAt.str_int _ _ _ _⟩
    · rw [decide_eq_false (fun e => by cases e)]
      exact ⟨SeqAt.RcAt.int_str _ _ _ _, SeqAt.RcNeAt.int_str _ _ _ _⟩
    · rw [int_dec]
      exact ⟨SeqAt.RcAt.int_int _ _ _ _, SeqAt.RcNeAt.int_int _ _ _ _⟩
theorem tups_dec {as bs : List Nt} {n m : Nat} (hn : n = as.length) (hm : m = bs.length) : ((List.range (min n m)).all (fun j => decide (as[j]? = bs[j]?)) && n == m) = decide (Nt.tup as = Nt.tup bs) := by
  subst hn
  subst hm
  by_cases hl : as.length = bs.length
  · rw [← hl, Nat.min_self, beq_self_eq_true, Bool.and_true, all_dec as bs hl]
    exact decide_eq_decide.mpr ⟨fun e => by rw [e], fun e => by cases e; rfl⟩
  · have h : (as.length == bs.length) = false := by simpa using hl
    have ne : Nt.tup as ≠ Nt.tup bs := fun e => by
      cases e
      exact hl rfl
    rw [h, Bool.and_false, decide_eq_false ne]
theorem eqNu {K : PySem.W.Frag} {k : Nat} {R : Hp → V → Nt → Prop} (E : EqTy K k R) : EqTy K (k + 1) (isU K R) := by
  have fn : ∀ {X : Cx} {pins : List (Addr × Obj)} {σ : St} {H : Hp} {s : Shared} {x : V} {a b : Nt}, X.K = K → Inv X pins σ H s → isU K R H x a → isU K R H x b → a = b := by
    intro X pins σ H s x a b hK I ha hb
    rcases ha with ha | ⟨t, xs, l, rfl, h1, rfl, p1⟩
    · rcases hb with hb | ⟨t, xs, l, e, _⟩
      · exact eqTxt.fn (K := K) hK I ha hb
      · subst e
        rcases ha with ⟨z, e, _⟩ | ⟨z, e, _⟩ <;> cases e
    · rcases hb with hb | ⟨t', ys, l', e, h2, rfl, p2⟩
      · rcases hb with ⟨z, e, _⟩ | ⟨z, e, _⟩ <;> cases e
      · cases e
        subst hK
        have := I.tuple_inj h1 h2
        subst this
        rw [paired_fn (F := R H) (fun _ _ _ p q => E.fn rfl I p q) p1 p2]
  have rc : ∀ {X : Cx} {pins : List (Addr × Obj)} {σ : St} {H : Hp} {s : Shared} {x y : V} {u v : Value} {a b : Nt} (A : Around), X.K = K → Inv X pins σ H s → A.units + (k + 1) < cLine → RelV x u → RelV y v → isU K R H x a → isU K R H y b →
      SeqAt.RcAt A s u v (decide (a = b)) ∧ SeqAt.RcNeAt A s u v (!decide (a = b)) := by
    intro X pins σ H s x y u v a b A hK I hu r1 r2 ha hb
    rcases ha with ha | ⟨t, xs, l, rfl, h1, rfl, p1⟩
    · rcases hb with hb | ⟨t', ys, l', rfl, h2, rfl, p2⟩
      · exact eqTxt.rc (K := K) A hK I (by omega) r1 r2 ha hb
      · subst hK
        obtain ⟨vs, ry, ply, _⟩ := I.tuple h2
        rcases ha with ⟨z, rfl, rfl⟩ | ⟨z, rfl, rfl⟩ <;> obtain ⟨tk, rfl⟩ := r1 <;> cases r2 <;> rw [decide_eq_false (fun e => by cases e)]
        · exact ⟨SeqAt.RcAt.str_tuple _ _ ply (by omega), SeqAt.RcNeAt.str_tuple _ _ ply (by omega)⟩
        · exact ⟨SeqAt.RcAt.int_tuple _ _ ply (by omega), SeqAt.RcNeAt.int_tuple _ _ ply (by omega)⟩
    · rcases hb with hb | ⟨t', ys, l', rfl, h2, rfl, p2⟩
      · subst hK
        obtain ⟨us, rx, plx, _⟩ := I.tuple h1
        rcases hb with ⟨z, rfl, rfl⟩ | ⟨z, rfl, rfl⟩ <;> obtain ⟨tk, rfl⟩ := r2 <;> cases r1 <;> rw [decide_eq_false (fun e => by cases e)]
        · exact ⟨SeqAt.RcAt.tuple_str _ _ plx (by omega), SeqAt.RcNeAt.tuple_str _ _ plx (by omega)⟩
        · exact ⟨SeqAt.RcAt.tuple_int _ _ plx (by omega), SeqAt.RcNeAt.tuple_int _ _ plx (by omega)⟩
      · cases r1; cases r2
        subst hK
        obtain ⟨us, rx, plx, _⟩ := I.tuple h1
        obtain ⟨vs, ry, ply, _⟩ := I.tuple h2
        have lx := rx.length
        have ly := ry.length
        have lpx := Paired.length p1
        have lpy := Paired.length p2
        have it := items_eqAt E rfl I hu rx ry p1 p2
        rw [← tups_dec (as := l) (bs := l') (n := us.toArray.size) (m := vs.toArray.size) (by simp; omega) (by simp; omega)]
        exact ⟨SeqAt.RcAt.tuples plx ply (by omega) it, SeqAt.RcNeAt.tuples plx ply (by omega) it⟩
  refine ⟨fn, ?_, rc⟩
  intro X pins σ H s x y u v a b A hK I hu r1 r2 ha hb
  have h := (rc A hK I hu r1 r2 ha hb).1
  rcases id ha with ha' | ⟨t, xs, l, rfl, h1, rfl, p1⟩
  · rcases id hb with hb' | ⟨t', ys, l', rfl, h2, rfl, p2⟩
    · exact eqTxt.eq (K := K) A hK I (by omega) r1 r2 ha' hb'
    · subst hK
      obtain ⟨vs, ry, ply, _⟩ := I.tuple h2
      rcases ha' with ⟨z, rfl, rfl⟩ | ⟨z, rfl, rfl⟩ <;> obtain ⟨tk, rfl⟩ := r1 <;> cases r2 <;> rw [decide_eq_false (fun e => by cases e)]
      · exact SeqAt.EqAt.str_tuple _ _ ply (by omega)
      · exact SeqAt.EqAt.int_tuple _ _ ply (by omega)
  · rcases id hb with hb' | ⟨t', ys, l', rfl, h2, rfl, p2⟩
    · subst hK
      obtain ⟨us, rx, plx, _⟩ := I.tuple h1
      rcases hb' with ⟨z, rfl, rfl⟩ | ⟨z, rfl, rfl⟩ <;> obtain ⟨tk, rfl⟩ := r2 <;> cases r1 <;> rw [decide_eq_false (fun e => by cases e)]
      · exact SeqAt.EqAt.tuple_str _ _ plx (by omega)
      · exact SeqAt.EqAt.tuple_int _ _ plx (by omega)
    · cases r1; cases r2
      by_cases e : t = t'
      · subst e
        have := fn hK I ha hb
        rw [decide_eq_true this]
        exact SeqAt.EqAt.same _
      · exact SeqAt.EqAt.of_refs e h
noncomputable def isN (K : PySem.W.Frag) (d : Nat) : Hp → V → Nt → Prop := fun H v a => RelN K H v a ∧ a.dep ≤ d
theorem isNs {K : PySem.W.Frag} {H : Hp} {d : Nat} : ∀ {xs : List V} {l : List Nt}, RelNs K H xs l → Nt.deps l ≤ d → Paired (isN K d H) xs l
  | _, _, .nil, _ => .nil
  | _, _, .cons h t, hd => by
    unfold Nt.deps at hd
    exact .cons ⟨h, by omega⟩ (isNs t (by omega))
theorem eqN {K : PySem.W.Frag} : ∀ d : Nat, EqTy K d (isN K d)
  | 0 => eqTxt.imp fun H v a ⟨h, hd⟩ => by
    cases h with
    | txt x z => exact .inl ⟨x, rfl, rfl⟩
    | int n => exact .inr ⟨n, rfl, rfl⟩
    | tup h z r l =>
      unfold Nt.dep at hd
      omega
  | d + 1 => (eqNu (eqN d)).imp fun H v a ⟨h, hd⟩ => by
    cases h with
    | txt x z => exact .inl (.inl ⟨x, rfl, rfl⟩)
    | int n => exact .inl (.inr ⟨n, rfl, rfl⟩)
    | tup h z r l =>
      unfold Nt.dep at hd
      exact .inr ⟨_, _, _, rfl, h, rfl, isNs r (by omega)⟩
noncomputable def rEqN (K : PySem.W.Frag) : R2 := fun x y H Q => ∃ a b : Nt, isN K 180 H x a ∧ isN K 180 H y b ∧ Q (.bl (decide (a = b))) H
theorem op_eqN {X : Cx} {K : PySem.W.Frag} {j : Nat} (hK : X.K = K) (hr : Room j X.A) : OpR X (compareOp .Eq) (rEqN K) := by
  intro pins s σ H x y v u Q I rx ry h
  obtain ⟨a, b, h1, h2, q⟩ := h
  exact ((eqN 180).rc X.A hK I (by have := hr.un; omega) rx ry h1 h2).1 _ _ _ _ ⟨.bl _, H, I, rfl, q⟩
noncomputable def eqNO (a b : Nt) : Option Bool := if a.dep ≤ 180 ∧ b.dep ≤ 180 then some (decide (a = b)) else none
section
variable {K : PySem.W.Frag} {σ : St} {G : Hp} {ta tb te : TE} {m1 m2 md : Option Nt}
theorem ev_eqN (ea : EV K ta σ G m1) (eb : EV K tb σ G m2) : EV K (tOp (rEqN K) ta tb) σ G (m1.bind fun a => m2.bind fun b => eqNO a b) :=
  ev_bin (fun s ra rb e Q k => by
    obtain ⟨⟨h1, h2⟩, rfl⟩ := ite_some e
    exact ⟨_, _, ⟨RelN.mono s ra, h1⟩, ⟨RelN.mono s rb, h2⟩, k _ _ _ (.refl s) rfl⟩) ea eb
theorem ev_txtN {m : Option Str} (e : EV K te σ G m) : EV K te σ G (m.bind fun x => some (Nt.txt x)) := by
  intro G1 s1 c hc H sH Q k
  obtain ⟨x, hx, hc⟩ := Option.bind_eq_some_iff.mp hc
  cases hc
  exact e G1 s1 x hx H sH Q fun v G2 H2 x2 ⟨e, z⟩ => k v G2 H2 x2 (by subst e; exact .txt _ z)
noncomputable def tupNO (t : Tp Nt) : Option Nt := if t.l[0]? = some (.txt "lamp") then none else some (.tup t.l)
theorem ev_tupN {m : Option (Tp Nt)} (e : EV K te σ G m) : EV K te σ G (m.bind fun t => tupNO t) := by
  intro G1 s1 c hc H sH Q k
  obtain ⟨t, ht, hc⟩ := Option.bind_eq_some_iff.mp hc
  unfold tupNO at hc
  by_cases hl : t.l[0]? = some (.txt "lamp")
  · rw [if_pos hl] at hc
    cases hc
  · rw [if_neg hl] at hc
    cases hc
    exact e G1 s1 t ht H sH Q fun v G2 H2 x2 ⟨a, xs, e, h, z, p⟩ => k v G2 H2 x2 (by subst e; exact .tup h z (relNs_of p) fun e => absurd e hl)
noncomputable def asTxt : Nt → Option Str
  | .txt x => some x
  | _ => none
noncomputable def asTup : Nt → Option (Tp Nt)
  | .tup l => some ⟨l⟩
  | _ => none
theorem ev_asTxt (e : EV K te σ G md) : EV K te σ G (md.bind fun d => asTxt d) := by
  intro G1 s1 c hc H sH Q k
  obtain ⟨d, hd, hc⟩ := Option.bind_eq_some_iff.mp hc
  refine e G1 s1 d hd H sH Q fun v G2 H2 x r => ?_
  cases r with
  | txt y z =>
    cases hc
    exact k _ _ _ x ⟨rfl, z⟩
  | int n => cases hc
  | tup h z r l => cases hc
theorem ev_intN {m : Option Int} (e : EV K te σ G m) : EV K te σ G (m.bind fun x => some (Nt.int x)) := by
  intro G1 s1 c hc H sH Q k
  obtain ⟨x, hx, hc⟩ := Option.bind_eq_some_iff.mp hc
  cases hc
  exact e G1 s1 x hx H sH Q fun v G2 H2 x2 e => k v G2 H2 x2 (by cases e; exact .int _)
theorem ev_asTup (e : EV K te σ G md) : EV K te σ G (md.bind fun d => asTup d) := by
  intro G1 s1 c hc H sH Q k
  obtain ⟨d, hd, hc⟩ := Option.bind_eq_some_iff.mp hc
  refine e G1 s1 d hd H sH Q fun v G2 H2 x r => ?_
  cases r with
  | txt y z => cases hc
  | int n => cases hc
  | tup h z r l =>
    cases hc
    exact k _ _ _ x ⟨_, _, rfl, h, z, of_relNs r⟩
end
end L2
set_option Elab.async false
set_option linter.all false
set_option maxRecDepth 100000
set_option maxHeartbeats 4000000
namespace L2
open PySem PySem.Spec PyProof.Rows
section
variable {X : Cx} {K : PySem.W.Frag}
theorem sl_tupK (h : X.K = K) : SlR X (rSlT K) := h ▸ sl_tup
end
section
variable {K : PySem.W.Frag} {σ : St} {G : Hp} {α : Type} [Rp α] {ta tb tc te : TE} {t1 t2 : TO} {ia ib ic : Option Int} {m1 m2 : Option (Option Int)}
theorem ev_chain {p p' : Int → Int → Bool} {q q' : List Nat → List Nat → Bool} (ea : EV K ta σ G ia) (eb : EV K tb σ G ib) (ec : EV K tc σ G ic) :
    EV K (tChain (rOrd p q) (rOrd p' q') ta tb tc) σ G (ia.bind fun a => ib.bind fun b => cond (p a b) (ic.bind fun c => some (p' b c)) (some false)) := by
  intro G1 s1 r hr H sH Q k
  obtain ⟨a, ha, hr⟩ := Option.bind_eq_some_iff.mp hr
  obtain ⟨b, hb, hr⟩ := Option.bind_eq_some_iff.mp hr
  refine ea G1 s1 a ha H sH _ fun v G2 H2 x2 r2 => ?_
  refine eb G2 (s1.trans x2.gg) b hb H2 x2.gh _ fun u G3 H3 x3 r3 => ?_
  cases r2
  cases r3
  refine ⟨p a b, rfl, ?_⟩
  cases hp : p a b with
  | false =>
    rw [hp] at hr
    cases hr
    rw [if_neg Bool.false_ne_true]
    exact k _ _ _ (x2.trans x3) rfl
  | true =>
    rw [hp] at hr
    obtain ⟨c, hc, hr⟩ := Option.bind_eq_some_iff.mp (cT hr)
    cases hr
    rw [if_pos rfl]
    refine ec G3 (s1.trans (x2.trans x3).gg) c hc H3 x3.gh _ fun w G4 H4 x4 r4 => ?_
    cases r4
    exact k _ _ _ ((x2.trans x3).trans x4) rfl
noncomputable def cutT? {α : Type} (l : List α) (lo hi : Option Int) : Option (Tp α) := if ¬ (HT.sIx l.length 0 lo = 0 ∧ HT.sIx l.length l.length hi = l.length) then some ⟨cutA l lo hi⟩ else none
theorem ev_sliceT {ma : Option (Tp α)} (ea : EV K ta σ G ma) (e1 : OV t1 σ G m1) (e2 : OV t2 σ G m2) : EV K (tSl (rSlT K) ta t1 t2) σ G (ma.bind fun a => m1.bind fun lo => m2.bind fun hi => cutT? a.l lo hi) := by
  intro G1 s1 c hc H sH Q k
  obtain ⟨a, ha, hc⟩ := Option.bind_eq_some_iff.mp hc
  obtain ⟨lo, hlo, hc⟩ := Option.bind_eq_some_iff.mp hc
  obtain ⟨hi, hhi, hc⟩ := Option.bind_eq_some_iff.mp hc
  obtain ⟨hw, rfl⟩ := ite_some hc
  refine ea G1 s1 a ha H sH _ fun v G2 H2 x2 r2 => ?_
  refine e1 G2 (s1.trans x2.gg) lo hlo H2 x2.gh _ fun G3 H3 x3 => ?_
  refine e2 G3 (s1.trans (x2.trans x3).gg) hi hhi H3 x3.gh _ fun G4 H4 x4 => ?_
  obtain ⟨l, xs, rfl, h, z, p⟩ := Rp.mono (x3.trans x4).gg r2
  have hl := Paired.length p
  refine ⟨l, xs, rfl, x4.gh.tup h, by rw [hl]; exact hw, fun q hq => ?_⟩
  have hg : G4 q = none := x4.gh.free hq
  refine k _ (upd G4 q (.tup (cutV xs lo hi))) _ (((x2.trans x3).trans x4).trans ⟨Same.new hg, fun b o e => ?_, Same.new hq, fun b h1 h2 => ?_⟩) ⟨q, _, rfl, .inl (.inl upd_same), Nat.le_trans (cutV_length _ _ _) z, Paired.imp' (fun _ _ r => Rp.mono (Same.new hg) r) (Paired.cut p lo hi)⟩
  · by_cases hb : b = q
    · subst hb
      rw [upd_same] at e ⊢
      exact e
    · rw [upd_ne hb] at e ⊢
      exact x4.gh b o e
  · have hb : b ≠ q := fun e => h2 (by rw [e]; exact hq)
    rw [upd_ne hb]
    exact h1
class Flat (α : Type) [Rp α] [DecidableEq α] : Prop where
  fl : ∀ {K : PySem.W.Frag} {H : Hp} {v : V} {a : α}, Rp.rel K H v a → flatV v = true
  eq : ∀ {K : PySem.W.Frag} {H H' : Hp} {v u : V} {a b : α}, Rp.rel K H v a → Rp.rel K H' u b → eqV v u = decide (a = b)
noncomputable instance flInt : Flat Int := ⟨fun h => by cases h; rfl, fun h h' => by cases h; cases h'; exact dec_beq _ _⟩
noncomputable instance flStr : Flat Str := ⟨fun h => by obtain ⟨rfl, _⟩ := h; rfl, fun h h' => by obtain ⟨rfl, _⟩ := h; obtain ⟨rfl, _⟩ := h'; exact dec_beq _ _⟩
noncomputable instance flBool : Flat Bool := ⟨fun h => by cases h; rfl, fun h h' => by cases h; cases h'; exact dec_beq _ _⟩
end
mutual
noncomputable def Nt.toD : Nt → D
  | .txt x => .str x
  | .int n => .int n
  | .tup l => .tup (Nt.toDs l)
noncomputable def Nt.toDs : List Nt → List D
  | [] => []
  | a :: l => Nt.toD a :: Nt.toDs l
end
mutual
theorem RelN.toD {K : PySem.W.Frag} {H : Hp} : ∀ {v : V} {a : Nt}, RelN K H v a → RelD K H v a.toD
  | _, _, .txt x z => by unfold Nt.toD; exact .str x z
  | _, _, .int n => by unfold Nt.toD; exact .int n
  | _, _, .tup h z r _ => by unfold Nt.toD; exact .tup h z (RelNs.toD r)
theorem RelNs.toD {K : PySem.W.Frag} {H : Hp} : ∀ {xs : List V} {l : List Nt}, RelNs K H xs l → RelDs K H xs (Nt.toDs l)
  | _, _, .nil => by unfold Nt.toDs; exact .nil
  | _, _, .cons h t => by unfold Nt.toDs; exact .cons (RelN.toD h) (RelNs.toD t)
end
noncomputable instance tdN : ToD Nt := ⟨Nt.toD, fun h => RelN.toD h⟩
end L2
set_option Elab.async false
set_option linter.all false
set_option maxRecDepth 100000
set_option maxHeartbeats 4000000
namespace L2
open PySem PySem.Spec PyProof.Rows
section
variable {K : PySem.W.Frag} {σ : St} {G H G1 H1 G0 H0 : Hp} {α β γ : Type} [Rp α] [Rp β] [Rp γ] {te ti : TE} {tt : TT} {t u rest : TS} {D : Ends} {i j : Nat} {as : List α} {bs : List β} {v w : V} {p q : Addr} {vs ws : List V}
theorem Own.over {o : HO} (h : Own K G H v p vs as) (ne : p ≠ q) (hq : G q = none) : Own K (upd G q o) H v p vs as :=
  ⟨h.v, by rw [upd_ne ne]; exact h.g, h.h, h.z, Paired.imp' (fun _ _ r => Rp.mono (Same.new hq) r) h.p⟩
theorem EV.runBB [Imm γ] {mb : Option γ} {b : γ} {Q : VK} (o1 : Own K G H v p vs as) (o2 : Own K G H w q ws bs) (ne : q ≠ p) (e : EV K te σ (upd (upd G p (.lst vs)) q (.lst ws)) mb) (hm : mb = some b) (s : Same G H)
    (k : ∀ w G2 H2, Ext G H G2 H2 → Rp.rel K G2 w b → Q w H2) : te σ H Q :=
  EV.runB (o2.over ne o1.g) e hm (o1.same s) fun w G2 H2 x r => k w (del G2 p) H2 (x.del o1.g) (Imm.del (x.gg _ _ upd_same) r)
theorem TV.runBB {mb : Option Bool} {b : Bool} {Q : Bool → Hp → Prop} (o1 : Own K G H v p vs as) (o2 : Own K G H w q ws bs) (ne : q ≠ p) (e : TV tt σ (upd (upd G p (.lst vs)) q (.lst ws)) mb) (hm : mb = some b) (s : Same G H)
    (k : ∀ G2 H2, Ext G H G2 H2 → Q b H2) : tt σ H Q :=
  TV.runB (o2.over ne o1.g) e hm (o1.same s) fun G2 H2 x => k (del G2 p) H2 (x.del o1.g)
theorem sv_ifBB {b : Bool} {m : Option Bool} (o1 : Own K G H v p vs as) (o2 : Own K G H w q ws bs) (ne : q ≠ p) (e : TV tt σ (upd (upd G p (.lst vs)) q (.lst ws)) m) (hm : m = some b) (s : Same G H)
    (k : ∀ G2 H2, Ext G H G2 H2 → if b = true then t { D with nx := rest D } σ H2 else u { D with nx := rest D } σ H2) : tSeq (tIfS tt t u) rest D σ H := TV.runBB o1 o2 ne e hm s k
theorem sv_setitemB [Imm α] {a : α} {m : Option α} {mi : Option Int} {k' : Int} {as' : List α} (hσ : σ[i]? = some (some v)) (o : Own K G H v p vs as) (e : EV K te σ (upd G p (.lst vs)) m) (hm : m = some a) (ei : EV K ti σ G mi) (hi : mi = some k') (hs : setO as k' a = some as') (s : Same G H)
    (k : ∀ G2 H2 w j, Ext G H G2 H2 → Own K G2 (upd H2 p (.lst (vs.set j w))) v p (vs.set j w) as' → rest D σ (upd H2 p (.lst (vs.set j w)))) : tSeq (tAsg te (gSub (tVar i) ti rSetL)) rest D σ H := by
  obtain ⟨j, hj, e'⟩ := Option.bind_eq_some_iff.mp hs
  cases e'
  have hlen := Paired.length o.p
  refine EV.runB o e hm s fun w G2 H2 x r => ?_
  have o2 := o.ext x
  refine ⟨v, hσ, ?_⟩
  refine ei G2 x.gg k' hi H2 x.gh _ fun u G3 H3 x3 r3 => ?_
  cases r3
  have o3 := o2.ext x3
  refine ⟨p, vs, k', j, o3.v, rfl, o3.h, by rw [hlen]; exact hj, ?_⟩
  exact k G3 H3 w j (x.trans x3) ⟨o3.v, o3.g, upd_same, by rw [List.length_set]; exact o3.z, Paired.st (Rp.mono x3.gg r) j o3.p⟩
end
end L2
set_option Elab.async false
set_option linter.all false
set_option maxRecDepth 100000
set_option maxHeartbeats 4000000
namespace L2
open PySem PySem.Spec PyProof.Rows
section
variable {K : PySem.W.Frag} {σ : St} {G H G1 H1 G2 H2 G0 H0 : Hp} {α β γ δ : Type} [Rp α] [Rp β] [Rp γ] [Rp δ] {te ta tb ti : TE} {t : TA} {tt : TT} {rest : TS} {D : Ends} {i j n : Nat} {as as' : List α} {v w : V} {p q : Addr} {vs ws : List V}
theorem Ext.era (x : Ext G H G2 H2) (g : G2 p = none) : Ext G (era H [p]) G2 (L2.era H2 [p]) := by
  refine ⟨x.gg, fun b o e => ?_, fun b o e => ?_, fun b h1 h2 => x.no b h1 fun z => h2 ?_⟩
  · have hb : b ≠ p := fun z => by
      rw [z, g] at e
      cases e
    rw [era_out (by simpa using hb)]
    exact x.gh b o e
  · by_cases hb : b = p
    · rw [era_in (by simpa using hb)] at e
      cases e
    · rw [era_out (by simpa using hb)] at e ⊢
      exact x.hh b o e
  · by_cases hb : b = p
    · exact era_in (by simpa using hb)
    · rw [era_out (by simpa using hb)]
      exact z
noncomputable def BV (K : PySem.W.Frag) (te : TE) (σ : St) (G : Hp) (v : V) (p : Addr) (vs : List V) (as : List α) (m : Option γ) : Prop :=
  ∀ G1, Same G G1 → ∀ c, m = some c → ∀ H, Same G1 H → Own K G1 H v p vs as → ∀ Q : VK, (∀ w G2 H2, Ext G1 H G2 H2 → Rp.rel K G2 w c → Q w H2) → te σ H Q
noncomputable def PV (K : PySem.W.Frag) (te : TE) (σ : St) (G : Hp) (v : V) (p : Addr) (vs : List V) (as as' : List α) (m : Option γ) : Prop :=
  ∀ G1, Same G G1 → ∀ c, m = some c → ∀ H, Same G1 H → Own K G1 H v p vs as → ∀ Q : VK, (∀ w G2 H2, Ext G1 (era H [p]) G2 H2 → Own K G2 H2 v p vs.dropLast as' → Rp.rel K G2 w c → Q w H2) → te σ H Q
noncomputable def PL (K : PySem.W.Frag) (t : TA) (σ : St) (G : Hp) (v : V) (p : Addr) (vs : List V) (as as' : List α) (n : Nat) (m : Option (List γ)) : Prop :=
  ∀ G1, Same G G1 → ∀ c, m = some c → ∀ H, Same G1 H → Own K G1 H v p vs as → ∀ Q : List V → Hp → Prop, (∀ ws G2 H2, Ext G1 (era H [p]) G2 H2 → Own K G2 H2 v p vs.dropLast as' → ws.length = n → Paired (Rp.rel K G2) ws c → Q ws H2) → t σ H Q
theorem bv_ev {m : Option γ} (e : EV K te σ G m) : BV K te σ G v p vs as m := fun G1 s1 c hc H sH _ Q k => e G1 s1 c hc H sH Q k
theorem pv_pop {a : α} (hσ : σ[i]? = some (some v)) (hp : popO as = some (a, as')) : PV K (tBM0 K "list" rPop (tVar i)) σ G v p vs as as' (some a) := by
  intro G1 s1 c hc H sH o Q k
  cases hc
  obtain ⟨rfl, og, oh, oz, op⟩ := o
  obtain ⟨w, hw, r, pr⟩ := Paired.last op hp
  refine ⟨_, hσ, .inl ⟨rfl, _, SqL.of oh⟩, p, vs, w, rfl, rfl, oh, hw, ?_⟩
  refine k w G1 _ ⟨.refl _, fun b u e => ?_, fun b u e => ?_, fun _ h _ => h⟩ ⟨rfl, og, upd_same, ?_, pr⟩ r
  · have hb : b ≠ p := fun z => by
      rw [z, og] at e
      cases e
    rw [upd_ne hb]
    exact sH b u e
  · by_cases hb : b = p
    · rw [era_in (by simpa using hb)] at e
      cases e
    · rw [era_out (by simpa using hb)] at e
      rw [upd_ne hb]
      exact e
  · rw [List.length_dropLast]
    omega
theorem pv_fst {m : Option (γ × δ)} (e : PV K te σ G v p vs as as' m) : PV K (tOp (rAt K) te (tC (.int 0))) σ G v p vs as as' (m.bind fun x => some x.1) := by
  intro G1 s1 c hc H sH o Q k
  obtain ⟨x, hx, hc⟩ := Option.bind_eq_some_iff.mp hc
  cases hc
  refine e G1 s1 x hx H sH o _ fun w G2 H2 x2 o2 r => ?_
  obtain ⟨t, a, b, rfl, ht, r1, r2⟩ := r
  exact .inr ⟨_, a, x2.gh.tup ht, rfl, k a G2 H2 x2 o2 r1⟩
theorem pl_here {m : Option γ} {ml : Option (List γ)} (e : PV K te σ G v p vs as as' m) (l : LV K t σ G n ml) : PL K (tCons te t) σ G v p vs as as' (n + 1) (m.bind fun a => ml.bind fun r => some (a :: r)) := by
  intro G1 s1 c hc H sH o Q k
  obtain ⟨a, ha, hc⟩ := Option.bind_eq_some_iff.mp hc
  obtain ⟨r, hr, hc⟩ := Option.bind_eq_some_iff.mp hc
  cases hc
  refine e G1 s1 a ha H sH o _ fun w G2 H2 x2 o2 r2 => ?_
  refine l G2 (s1.trans x2.gg) r hr H2 x2.gh _ fun ws G3 H3 x3 hl hp => ?_
  exact k _ G3 H3 (x2.trans x3) (o2.ext x3) (by rw [List.length_cons, hl]) (.cons (Rp.mono x3.gg r2) hp)
theorem pl_there {m : Option γ} {ml : Option (List γ)} (e : BV K te σ G v p vs as m) (l : PL K t σ G v p vs as as' n ml) : PL K (tCons te t) σ G v p vs as as' (n + 1) (m.bind fun a => ml.bind fun r => some (a :: r)) := by
  intro G1 s1 c hc H sH o Q k
  obtain ⟨a, ha, hc⟩ := Option.bind_eq_some_iff.mp hc
  obtain ⟨r, hr, hc⟩ := Option.bind_eq_some_iff.mp hc
  cases hc
  refine e G1 s1 a ha H sH o _ fun w G2 H2 x2 r2 => ?_
  have o2 := o.ext x2
  refine l G2 (s1.trans x2.gg) r hr H2 x2.gh o2 _ fun ws G3 H3 x3 o3 hl hp => ?_
  exact k _ G3 H3 ((x2.era o2.g).trans x3) o3 (by rw [List.length_cons, hl]) (.cons (Rp.mono x3.gg r2) hp)
theorem pv_tupN {ml : Option (List Nt)} (l : PL K t σ G v p vs as as' n ml) (hn : n ≤ sizeLine := by decide) : PV K (tTup t) σ G v p vs as as' (ml.bind fun l => some (Nt.tup l)) := by
  intro G1 s1 c hc H sH o Q k
  obtain ⟨l', hl', hc⟩ := Option.bind_eq_some_iff.mp hc
  cases hc
  refine l G1 s1 l' hl' H sH o _ fun ws G2 H2 x2 o2 hl hp => ⟨by omega, fun q h => ?_⟩
  have x3 : Ext G2 H2 (upd G2 q (.tup ws)) (upd H2 q (.tup ws)) := .new x2.gh h
  exact k _ _ _ (x2.trans x3) (o2.ext x3) (.tup (SqT.of upd_same) (by omega) (relNs_of (Paired.imp' (fun _ _ r => Rp.mono x3.gg r) hp)) fun _ => upd_same)
theorem pv_pair {m : Option γ} {m2 : Option δ} (e : PV K ta σ G v p vs as as' m) (e2 : EV K tb σ G m2) : PV K (tTup (tCons ta (tCons tb tNil))) σ G v p vs as as' (m.bind fun a => m2.bind fun b => some (a, b)) := by
  intro G1 s1 c hc H sH o Q k
  obtain ⟨a, ha, hc⟩ := Option.bind_eq_some_iff.mp hc
  obtain ⟨b, hb, hc⟩ := Option.bind_eq_some_iff.mp hc
  cases hc
  refine e G1 s1 a ha H sH o _ fun w G2 H2 x2 o2 r => ?_
  refine e2 G2 (s1.trans x2.gg) b hb H2 x2.gh _ fun u G3 H3 x3 r3 => ⟨by show 2 ≤ sizeLine; decide, fun q h => ?_⟩
  have x4 : Ext G3 H3 (upd G3 q (.tup [w, u])) (upd H3 q (.tup [w, u])) := .new x3.gh h
  exact k _ _ _ ((x2.trans x3).trans x4) ((o2.ext x3).ext x4) ⟨q, w, u, rfl, SqT.of upd_same, Rp.mono (x3.trans x4).gg r, Rp.mono x4.gg r3⟩
theorem sv_appendP {a : α} {m : Option α} {as'' : List α} (hσ : σ[i]? = some (some v)) (o : Own K G H v p vs as) (e : PV K te σ G v p vs as as' m) (hm : m = some a) (hp : pushO as' a = some as'') (s : Same G H)
    (k : ∀ G2 H2 w, Ext G (era H [p]) G2 H2 → Own K G2 (upd H2 p (.lst (vs.dropLast ++ [w]))) v p (vs.dropLast ++ [w]) as'' → rest D σ (upd H2 p (.lst (vs.dropLast ++ [w])))) : tSeq (tDrop (tBM K "list" rAppend (tVar i) (tCons te tNil))) rest D σ H := by
  obtain ⟨hl, rfl⟩ := ite_some hp
  have ov := o.v
  subst ov
  refine ⟨_, hσ, .inl ⟨rfl, _, SqL.of o.h⟩, ?_⟩
  refine e G (.refl G) a hm H s o _ fun w G2 H2 x o2 r => ?_
  have hlen := Paired.length o2.p
  refine ⟨p, _, w, rfl, rfl, o2.h, by omega, ?_⟩
  refine k G2 H2 w x ⟨rfl, o2.g, upd_same, ?_, Paired.app o2.p (.cons r .nil)⟩
  rw [List.length_append, List.length_singleton]
  omega
noncomputable def cutX (x : Scr) (lo hi : Option Int) : Option (List Int) := if x.l.length ≤ sizeLine then some (cutA x.l lo hi) else none
theorem paired_scr (H : Hp) : ∀ l : List Int, Paired (Rp.rel K H) (l.map V.int) l
  | [] => .nil
  | a :: r => .cons rfl (paired_scr H r)
theorem fv_sliceX {t1 t2 : TO} {m1 m2 : Option (Option Int)} {ma : Option Scr} (ea : EV K ta σ G ma) (e1 : OV t1 σ G m1) (e2 : OV t2 σ G m2) : FV K (tSl (rSl K) ta t1 t2) σ G (ma.bind fun a => m1.bind fun lo => m2.bind fun hi => cutX a lo hi) := by
  intro G1 s1 c hc H sH Q k
  obtain ⟨a, ha, hc⟩ := Option.bind_eq_some_iff.mp hc
  obtain ⟨lo, hlo, hc⟩ := Option.bind_eq_some_iff.mp hc
  obtain ⟨hi, hhi, hc⟩ := Option.bind_eq_some_iff.mp hc
  obtain ⟨z, rfl⟩ := ite_some hc
  refine ea G1 s1 a ha H sH _ fun v G2 H2 x2 r2 => ?_
  refine e1 G2 (s1.trans x2.gg) lo hlo H2 x2.gh _ fun G3 H3 x3 => ?_
  refine e2 G3 (s1.trans (x2.trans x3).gg) hi hhi H3 x3.gh _ fun G4 H4 x4 => ?_
  obtain ⟨l, rfl, h⟩ := Rp.mono (x3.trans x4).gg r2
  exact ⟨_, x4.gh.seq h, fv_of x4.gh (Nat.le_trans (cutV_length _ _ _) (by rw [List.length_map]; exact z)) (Paired.cut (paired_scr G4 a.l) lo hi) (FV.mono ((x2.trans x3).trans x4) k)⟩
end
end L2
set_option Elab.async false
set_option linter.all false
set_option maxRecDepth 100000
set_option maxHeartbeats 4000000
namespace L2
open PySem PySem.Spec PyProof.Rows
section
variable {K : PySem.W.Frag} {σ : St} {G : Hp} {ta : TE}
theorem ev_tupNL {t : TA} {n : Nat} {ml : Option (List Nt)} (e : LV K t σ G n ml) (z : n ≤ sizeLine := by decide) : EV K (tTup t) σ G (ml.bind fun l => some (Nt.tup l)) :=
  fun G1 s1 c hc H sH Q k => by
    obtain ⟨l, hl, hc⟩ := Option.bind_eq_some_iff.mp hc
    cases hc
    refine e G1 s1 l hl H sH _ fun vs G2 H2 x2 hl hp => ⟨by omega, fun p h => ?_⟩
    exact k _ _ _ (x2.trans (.new x2.gh h)) (.tup (SqT.of upd_same) (by omega) (relNs_of (Paired.imp' (fun _ _ r => Rp.mono (Same.new (x2.gh.free h)) r) hp)) fun _ => upd_same)
end
end L2
set_option Elab.async false
set_option linter.all false
set_option maxRecDepth 100000
set_option maxHeartbeats 4000000
namespace L2
open PySem PySem.Spec PyProof.Rows
section
variable {K : PySem.W.Frag} {σ : St} {G H : Hp} {α β γ : Type} [Rp α] [Rp β] [Rp γ] {ta tb te : TE} {rest : TS} {D : Ends} {i j : Nat}
end
end L2
set_option Elab.async false
set_option linter.all false
set_option maxRecDepth 100000
set_option maxHeartbeats 4000000
namespace L2
open PySem PySem.Spec PyProof.Rows
noncomputable def isTps (K : PySem.W.Frag) {α : Type} (R : Hp → V → α → Prop) : Hp → V → Tp α → Prop := fun H x a => ∃ t xs, x = .ref t ∧ SqT K H t xs ∧ Paired (R H) xs a.l
theorem tp_dec {α : Type} [DecidableEq α] {as bs : Tp α} {n m : Nat} (hn : n = as.l.length) (hm : m = bs.l.length) : ((List.range (min n m)).all (fun j => decide (as.l[j]? = bs.l[j]?)) && n == m) = decide (as = bs) := by
  obtain ⟨as⟩ := as
  obtain ⟨bs⟩ := bs
  subst hn
  subst hm
  by_cases hl : as.length = bs.length
  · show ((List.range (min as.length bs.length)).all (fun j => decide (as[j]? = bs[j]?)) && as.length == bs.length) = _
    rw [← hl, Nat.min_self, beq_self_eq_true, Bool.and_true, all_dec as bs hl]
    exact decide_eq_decide.mpr ⟨fun e => by rw [e], fun e => by cases e; rfl⟩
  · have h : (as.length == bs.length) = false := by simpa using hl
    have ne : Tp.mk as ≠ Tp.mk bs := fun e => by
      cases e
      exact hl rfl
    show (_ && as.length == bs.length) = _
    rw [h, Bool.and_false, decide_eq_false ne]
theorem eqTp {K : PySem.W.Frag} {k : Nat} {α : Type} [DecidableEq α] {R : Hp → V → α → Prop} (E : EqTy K k R) : EqTy K (k + 1) (isTps K R) := by
  have fn : ∀ {X : Cx} {pins : List (Addr × Obj)} {σ : St} {H : Hp} {s : Shared} {x : V} {a b : Tp α}, X.K = K → Inv X pins σ H s → isTps K R H x a → isTps K R H x b → a = b := by
    intro X pins σ H s x a b hK I ha hb
    obtain ⟨a⟩ := a
    obtain ⟨b⟩ := b
    obtain ⟨l, xs, rfl, h1, p1⟩ := ha
    obtain ⟨l', ys, e, h2, p2⟩ := hb
    cases e
    subst hK
    have := I.tuple_inj h1 h2
    subst this
    exact congrArg Tp.mk (paired_fn (F := R H) (fun _ _ _ p q => E.fn rfl I p q) p1 p2)
  have rc : ∀ {X : Cx} {pins : List (Addr × Obj)} {σ : St} {H : Hp} {s : Shared} {x y : V} {u v : Value} {a b : Tp α} (A : Around), X.K = K → Inv X pins σ H s → A.units + (k + 1) < cLine → RelV x u → RelV y v → isTps K R H x a → isTps K R H y b →
      SeqAt.RcAt A s u v (decide (a = b)) ∧ SeqAt.RcNeAt A s u v (!decide (a = b)) := by
    intro X pins σ H s x y u v a b A hK I hu r1 r2 ha hb
    obtain ⟨l, xs, rfl, h1, p1⟩ := ha
    obtain ⟨l', ys, rfl, h2, p2⟩ := hb
    cases r1; cases r2
    subst hK
    obtain ⟨us, rx, plx, _⟩ := I.tuple h1
    obtain ⟨vs, ry, ply, _⟩ := I.tuple h2
    have lx := rx.length
    have ly := ry.length
    have lpx := Paired.length p1
    have lpy := Paired.length p2
    have it := items_eqAt E rfl I hu rx ry p1 p2
    rw [← tp_dec (as := a) (bs := b) (n := us.toArray.size) (m := vs.toArray.size) (by simp; omega) (by simp; omega)]
    exact ⟨SeqAt.RcAt.tuples plx ply (by omega) it, SeqAt.RcNeAt.tuples plx ply (by omega) it⟩
  refine ⟨fn, ?_, rc⟩
  intro X pins σ H s x y u v a b A hK I hu r1 r2 ha hb
  have h := (rc A hK I hu r1 r2 ha hb).1
  obtain ⟨l, xs, rfl, h1, p1⟩ := id ha
  obtain ⟨l', ys, rfl, h2, p2⟩ := id hb
  cases r1; cases r2
  by_cases e : l = l'
  · subst e
    have : a = b := fn hK I ha hb
    rw [decide_eq_true this]
    exact SeqAt.EqAt.same _
  · exact SeqAt.EqAt.of_refs e h
theorem vals3' {x y z : V} {us : List Value} (h : Vals [x, y, z] us) : ∃ a b c, us = [a, b, c] ∧ RelV x a ∧ RelV y b ∧ RelV z c := by
  cases h with
  | cons r t => cases t with
    | cons r' t' => cases t' with
      | cons r'' t'' => cases t''; exact ⟨_, _, _, rfl, r, r', r''⟩
noncomputable def isT3 (K : PySem.W.Frag) {α β γ : Type} (R : Hp → V → α → Prop) (S : Hp → V → β → Prop) (T : Hp → V → γ → Prop) : Hp → V → T3 α β γ → Prop := fun H x p => ∃ t a b c, x = .ref t ∧ SqT K H t [a, b, c] ∧ R H a p.a ∧ S H b p.b ∧ T H c p.c
theorem eqT3 {K : PySem.W.Frag} {k : Nat} {α β γ : Type} [DecidableEq α] [DecidableEq β] [DecidableEq γ] {R : Hp → V → α → Prop} {S : Hp → V → β → Prop} {T : Hp → V → γ → Prop} (E : EqTy K k R) (G : EqTy K k S) (F : EqTy K k T) : EqTy K (k + 1) (isT3 K R S T) := by
  have fn : ∀ {X : Cx} {pins : List (Addr × Obj)} {σ : St} {H : Hp} {s : Shared} {x : V} {a b : T3 α β γ}, X.K = K → Inv X pins σ H s → isT3 K R S T H x a → isT3 K R S T H x b → a = b := by
    intro X pins σ H s x a b hK I ha hb
    obtain ⟨l, x1, x2, x3, rfl, h1, p1, p2, p3⟩ := ha
    obtain ⟨l', y1, y2, y3, e, h2, q1, q2, q3⟩ := hb
    cases e
    subst hK
    have := I.tuple_inj h1 h2
    cases this
    obtain ⟨a1, a2, a3⟩ := a
    obtain ⟨b1, b2, b3⟩ := b
    have e1 : a1 = b1 := E.fn rfl I p1 q1
    have e2 : a2 = b2 := G.fn rfl I p2 q2
    have e3 : a3 = b3 := F.fn rfl I p3 q3
    rw [e1, e2, e3]
  have rc : ∀ {X : Cx} {pins : List (Addr × Obj)} {σ : St} {H : Hp} {s : Shared} {x y : V} {u v : Value} {a b : T3 α β γ} (A : Around), X.K = K → Inv X pins σ H s → A.units + (k + 1) < cLine → RelV x u → RelV y v → isT3 K R S T H x a → isT3 K R S T H y b →
      SeqAt.RcAt A s u v (decide (a = b)) ∧ SeqAt.RcNeAt A s u v (!decide (a = b)) := by
    intro X pins σ H s x y u v a b A hK I hu r1 r2 ha hb
    obtain ⟨l, x1, x2, x3, rfl, h1, p1, p2, p3⟩ := ha
    obtain ⟨l', y1, y2, y3, rfl, h2, q1, q2, q3⟩ := hb
    cases r1; cases r2
    subst hK
    obtain ⟨us, rx, plx, _⟩ := I.tuple h1
    obtain ⟨vs, ry, ply, _⟩ := I.tuple h2
    obtain ⟨u1, u2, u3, rfl, ru1, ru2, ru3⟩ := vals3' rx
    obtain ⟨v1, v2, v3, rfl, rv1, rv2, rv3⟩ := vals3' ry
    have e1 := E.eq A.in1 rfl I (show A.units + 1 + k < cLine by omega) ru1 rv1 p1 q1
    have e2 := G.eq A.in1 rfl I (show A.units + 1 + k < cLine by omega) ru2 rv2 p2 q2
    have e3 := F.eq A.in1 rfl I (show A.units + 1 + k < cLine by omega) ru3 rv3 p3 q3
    have it : ∀ j (h1 : j < [u1, u2, u3].toArray.size) (h2 : j < [v1, v2, v3].toArray.size), SeqAt.EqAt A.in1 s [u1, u2, u3].toArray[j] [v1, v2, v3].toArray[j] ((fun j => if j = 0 then decide (a.a = b.a) else if j = 1 then decide (a.b = b.b) else decide (a.c = b.c)) j) := by
      intro j h1 h2
      match j, h1 with
      | 0, _ => exact e1
      | 1, _ => exact e2
      | 2, _ => exact e3
      | j + 3, h => exact absurd h (by simp)
    have ed : ((List.range (min [u1, u2, u3].toArray.size [v1, v2, v3].toArray.size)).all (fun j => if j = 0 then decide (a.a = b.a) else if j = 1 then decide (a.b = b.b) else decide (a.c = b.c)) && [u1, u2, u3].toArray.size == [v1, v2, v3].toArray.size) = decide (a = b) := by
      apply Bool.eq_iff_iff.mpr
      rw [decide_eq_true_iff]
      constructor
      · intro h
        have h : (decide (a.a = b.a) && (decide (a.b = b.b) && (decide (a.c = b.c) && true)) && true) = true := h
        simp only [Bool.and_true, Bool.and_eq_true, decide_eq_true_iff] at h
        obtain ⟨a1, a2, a3⟩ := a
        obtain ⟨b1, b2, b3⟩ := b
        obtain ⟨h1, h2, h3⟩ := h
        dsimp only at h1 h2 h3
        rw [h1, h2, h3]
      · rintro rfl
        show (decide (a.a = a.a) && (decide (a.b = a.b) && (decide (a.c = a.c) && true)) && true) = true
        simp
    rw [← ed]
    exact ⟨SeqAt.RcAt.tuples plx ply (by omega) it, SeqAt.RcNeAt.tuples plx ply (by omega) it⟩
  refine ⟨fn, ?_, rc⟩
  intro X pins σ H s x y u v a b A hK I hu r1 r2 ha hb
  have h := (rc A hK I hu r1 r2 ha hb).1
  obtain ⟨l, x1, x2, x3, rfl, h1, p1, p2, p3⟩ := id ha
  obtain ⟨l', y1, y2, y3, rfl, h2, q1, q2, q3⟩ := id hb
  cases r1; cases r2
  by_cases e : l = l'
  · subst e
    have : a = b := fn hK I ha hb
    rw [decide_eq_true this]
    exact SeqAt.EqAt.same _
  · exact SeqAt.EqAt.of_refs e h
class NoN (α : Type) [Rp α] : Prop where
  no_non : ∀ {K : PySem.W.Frag} {H : Hp} {x : V} {a : α}, Rp.rel K H x a → x ≠ .non
  ne : ∀ {K : PySem.W.Frag} {X : Cx} {pins : List (Addr × Obj)} {σ : St} {H : Hp} {s : Shared} {x : V} {u : Value} {a : α} (A : Around), X.K = K → Inv X pins σ H s → A.units < cLine → RelV x u → Rp.rel K H x a →
    (SeqAt.EqAt A s .none u false ∧ SeqAt.RcAt A s .none u false ∧ SeqAt.RcNeAt A s .none u true) ∧ SeqAt.EqAt A s u .none false ∧ SeqAt.RcAt A s u .none false ∧ SeqAt.RcNeAt A s u .none true
noncomputable instance nnInt : NoN Int := ⟨fun h => (by cases h; exact fun z => (nomatch z)), fun A hK I hu r h => by
  cases h
  obtain ⟨t, rfl⟩ := r
  exact ⟨⟨SeqAt.EqAt.none_int _ _, SeqAt.RcAt.none_int _ _, SeqAt.RcNeAt.none_int _ _⟩, SeqAt.EqAt.int_none _ _, SeqAt.RcAt.int_none _ _, SeqAt.RcNeAt.int_none _ _⟩⟩
noncomputable instance nnPair {α β : Type} [Rp α] [Rp β] : NoN (α × β) := ⟨fun h => (by obtain ⟨_, _, _, rfl, _⟩ := h; exact fun z => (nomatch z)), fun A hK I hu r h => by
  obtain ⟨t, x, y, rfl, h, _⟩ := h
  cases r
  subst hK
  obtain ⟨us, rx, pl, _⟩ := I.tuple h
  exact ⟨⟨SeqAt.EqAt.none_tuple pl hu, SeqAt.RcAt.none_tuple pl hu, SeqAt.RcNeAt.none_tuple pl hu⟩, SeqAt.EqAt.tuple_none pl hu, SeqAt.RcAt.tuple_none pl hu, SeqAt.RcNeAt.tuple_none pl hu⟩⟩
theorem eqOpt {K : PySem.W.Frag} {k : Nat} {α : Type} [Rp α] [DecidableEq α] [NoN α] (E : EqTy K k (Rp.rel (α := α) K)) : EqTy K k (Rp.rel (α := Option α) K) where
  fn := by
    intro X pins σ H s x a b hK I ha hb
    cases a with
    | none =>
      cases b with
      | none => rfl
      | some b =>
        have ha : x = .non := ha
        subst ha
        exact absurd rfl (NoN.no_non (α := α) hb)
    | some a =>
      cases b with
      | none =>
        have hb : x = .non := hb
        subst hb
        exact absurd rfl (NoN.no_non (α := α) ha)
      | some b => exact congrArg some (E.fn hK I ha hb)
  eq := by
    intro X pins σ H s x y u v a b A hK I hu r1 r2 ha hb
    cases a with
    | none =>
      have ha : x = .non := ha
      subst ha
      cases r1
      cases b with
      | none =>
        have hb : y = .non := hb
        subst hb
        cases r2
        exact SeqAt.EqAt.same _
      | some b => exact (NoN.ne (α := α) A hK I (by omega) r2 hb).1.1
    | some a =>
      cases b with
      | none =>
        have hb : y = .non := hb
        subst hb
        cases r2
        exact (NoN.ne (α := α) A hK I (by omega) r1 ha).2.1
      | some b =>
        have := E.eq A hK I hu r1 r2 ha hb
        have e3 : decide (some a = some b) = decide (a = b) := by simp
        rw [e3]
        exact this
  rc := by
    intro X pins σ H s x y u v a b A hK I hu r1 r2 ha hb
    cases a with
    | none =>
      have ha : x = .non := ha
      subst ha
      cases r1
      cases b with
      | none =>
        have hb : y = .non := hb
        subst hb
        cases r2
        exact ⟨SeqAt.RcAt.none_none, SeqAt.RcNeAt.none_none⟩
      | some b => exact (NoN.ne (α := α) A hK I (by omega) r2 hb).1.2
    | some a =>
      cases b with
      | none =>
        have hb : y = .non := hb
        subst hb
        cases r2
        exact (NoN.ne (α := α) A hK I (by omega) r1 ha).2.2
      | some b =>
        have := E.rc A hK I hu r1 r2 ha hb
        have e3 : decide (some a = some b) = decide (a = b) := by simp
        rw [e3]
        exact this
noncomputable instance reTp {α : Type} [Rp α] [DecidableEq α] [RpE α] : RpE (Tp α) := ⟨RpE.k α + 1, fun K => (eqTp (RpE.ty K)).imp fun _ _ _ ⟨l, xs, e, h, _, p⟩ => ⟨l, xs, e, h, p⟩⟩
noncomputable instance reT3 {α β γ : Type} [Rp α] [DecidableEq α] [RpE α] [Rp β] [DecidableEq β] [RpE β] [Rp γ] [DecidableEq γ] [RpE γ] : RpE (T3 α β γ) :=
  ⟨max (RpE.k α) (max (RpE.k β) (RpE.k γ)) + 1, fun K => eqT3 ((RpE.ty (α := α) K).up (Nat.le_max_left _ _)) ((RpE.ty (α := β) K).up (Nat.le_trans (Nat.le_max_left _ _) (Nat.le_max_right _ _))) ((RpE.ty (α := γ) K).up (Nat.le_trans (Nat.le_max_right _ _) (Nat.le_max_right _ _)))⟩
noncomputable instance reOpt {α : Type} [Rp α] [DecidableEq α] [RpE α] [NoN α] : RpE (Option α) := ⟨RpE.k α, fun K => eqOpt (RpE.ty K)⟩
class Fix (α : Type) [Rp α] : Prop where
  fx : ∀ {K : PySem.W.Frag} {G G' : Hp} {v : V} {a : α}, Rp.rel K G v a → Rp.rel K G' v a
noncomputable instance fxInt : Fix Int := ⟨fun h => h⟩
noncomputable instance fxBool : Fix Bool := ⟨fun h => h⟩
noncomputable instance fxStr : Fix Str := ⟨fun h => h⟩
section
variable {K : PySem.W.Frag} {σ : St} {G Gx H G1 H1 G0 H0 : Hp} {α β γ : Type} [Rp α] [Rp β] [Rp γ] {te ta tb tc ti : TE} {tt : TT} {t u rest : TS} {D : Ends} {i j : Nat} {as : List α} {bs : List β} {v w : V} {p q : Addr} {vs ws : List V}
theorem EV.runF [Fix γ] {mb : Option γ} {b : γ} {Q : VK} (sx : Same Gx H) (e : EV K te σ Gx mb) (hm : mb = some b) (s : Same G H) (k : ∀ w H2, Ext G H G H2 → Rp.rel K G w b → Q w H2) : te σ H Q :=
  e.run hm sx fun w G2 H2 x r => k w H2 ⟨.refl _, s.trans x.hh, x.hh, fun _ h _ => h⟩ (Fix.fx r)
theorem TV.runF {mb : Option Bool} {b : Bool} {Q : Bool → Hp → Prop} (sx : Same Gx H) (e : TV tt σ Gx mb) (hm : mb = some b) (s : Same G H) (k : ∀ H2, Ext G H G H2 → Q b H2) : tt σ H Q :=
  e.run hm sx fun G2 H2 x => k H2 ⟨.refl _, s.trans x.hh, x.hh, fun _ h _ => h⟩
theorem sv_ifF {b : Bool} {m : Option Bool} (sx : Same Gx H) (e : TV tt σ Gx m) (hm : m = some b) (s : Same G H) (k : ∀ H2, Ext G H G H2 → if b = true then t { D with nx := rest D } σ H2 else u { D with nx := rest D } σ H2) : tSeq (tIfS tt t u) rest D σ H := TV.runF sx e hm s k
variable {a : T3 α (List β) γ}
end
end L2
set_option Elab.async false
set_option linter.all false
set_option maxRecDepth 100000
set_option maxHeartbeats 4000000
namespace L2
open PySem PySem.Spec PyProof.Rows
section
variable {K : PySem.W.Frag} {σ : St} {G : Hp} {ta tb : TE}
end
end L2
set_option Elab.async false
set_option linter.all false
set_option maxRecDepth 100000
set_option maxHeartbeats 4000000
namespace L3
open PySem
section
variable {prog : Program} {w : World} {A : Around} {E : Value → Shared → Prop} {s : Shared}
end
section
variable {prog : Program} {w : World} {A : Around} {E : Value → Shared → Prop} {s : Shared}
end
end L3
set_option Elab.async false
set_option linter.all false
set_option maxRecDepth 100000
set_option maxHeartbeats 4000000
namespace L2
open PySem PySem.Spec PyProof.Rows
section
variable {K : PySem.W.Frag} {σ : St} {G : Hp} {ta tb : TE} {ia ib : Option Int}
end
end L2
set_option Elab.async false
set_option linter.all false
set_option maxRecDepth 100000
set_option maxHeartbeats 4000000
namespace L2
open PySem PySem.Spec PyProof.Rows
section
variable {X : Cx} {pins : List (Addr × Obj)} {σ : St}
end
end L2
set_option Elab.async false
set_option linter.all false
set_option maxRecDepth 100000
set_option maxHeartbeats 4000000
namespace L2
open PySem PySem.Spec PyProof.Rows
section
variable {K : PySem.W.Frag} {σ : St} {G : Hp} {α β : Type} [Rp α] [Rp β] {ta : TE}
end
end L2
set_option Elab.async false
set_option linter.all false
set_option maxRecDepth 100000
set_option maxHeartbeats 4000000
namespace L2
open PySem PySem.Spec PyProof.Rows
inductive SI where
  | s (x : Str)
  | i (n : Int)
  deriving DecidableEq
noncomputable def RelSI (v : V) : SI → Prop
  | .s x => v = .str x ∧ x.length ≤ sizeLine
  | .i n => v = .int n
noncomputable instance rpSI : Rp SI := ⟨fun _ _ v a => RelSI v a, fun _ h => h⟩
noncomputable instance imSI : Imm SI := ⟨fun _ h => h⟩
theorem eqSI {K : PySem.W.Frag} : EqTy K 0 (Rp.rel (α := SI) K) where
  fn := fun {X pins σ H s x a b} hK I h1 h2 => by
    cases a with
    | s y => cases b with
      | s z => obtain ⟨rfl, _⟩ := h1; obtain ⟨e, _⟩ := h2; cases e; rfl
      | i n => obtain ⟨rfl, _⟩ := h1; cases h2
    | i m => cases b with
      | s z => obtain ⟨rfl, _⟩ := h2; cases h1
      | i n =>
        have h1 : x = .int m := h1
        have h2 : x = .int n := h2
        subst h1
        cases h2
        rfl
  eq := fun {X pins σ H s x y u v a b} A hK I hu r1 r2 h1 h2 => by
    cases a with
    | s p => cases b with
      | s q =>
        obtain ⟨rfl, _⟩ := h1
        obtain ⟨rfl, _⟩ := h2
        have := eqStr.eq (K := K) (a := p) (b := q) A hK I hu r1 r2 rfl rfl
        rwa [show decide (SI.s p = SI.s q) = decide (p = q) from decide_eq_decide.mpr ⟨fun e => by cases e; rfl, fun e => by rw [e]⟩]
      | i n =>
        obtain ⟨rfl, _⟩ := h1
        have h2 : y = .int n := h2
        subst h2
        obtain ⟨t, rfl⟩ := r1
        obtain ⟨t', rfl⟩ := r2
        rw [decide_eq_false (fun e => by cases e)]
        exact SeqAt.EqAt.str_int _ _ _ _
    | i m => cases b with
      | s q =>
        obtain ⟨rfl, _⟩ := h2
        have h1 : x = .int m := h1
        subst h1
        obtain ⟨t, rfl⟩ := r1
        obtain ⟨t', rfl⟩ := r2
        rw [decide_eq_false (fun e => by cases e)]
        exact SeqAt.EqAt.int_str _ _ _ _
      | i n =>
        have := eqInt.eq (K := K) (a := m) (b := n) A hK I hu r1 r2 h1 h2
        rwa [show decide (SI.i m = SI.i n) = decide (m = n) from decide_eq_decide.mpr ⟨fun e => by cases e; rfl, fun e => by rw [e]⟩]
  rc := fun {X pins σ H s x y u v a b} A hK I hu r1 r2 h1 h2 => by
    cases a with
    | s p => cases b with
      | s q =>
        obtain ⟨rfl, _⟩ := h1
        obtain ⟨rfl, _⟩ := h2
        have := eqStr.rc (K := K) (a := p) (b := q) A hK I hu r1 r2 rfl rfl
        rwa [show decide (SI.s p = SI.s q) = decide (p = q) from decide_eq_decide.mpr ⟨fun e => by cases e; rfl, fun e => by rw [e]⟩]
      | i n =>
        obtain ⟨rfl, _⟩ := h1
        have h2 : y = .int n := h2
        subst h2
        obtain ⟨t, rfl⟩ := r1
        obtain ⟨t', rfl⟩ := r2
        rw [decide_eq_false (fun e => by cases e)]
        exact ⟨SeqAt.RcAt.str_int _ _ _ _, SeqAt.RcNeAt.str_int _ _ _ _⟩
    | i m => cases b with
      | s q =>
        obtain ⟨rfl, _⟩ := h2
        have h1 : x = .int m := h1
        subst h1
        obtain ⟨t, rfl⟩ := r1
        obtain ⟨t', rfl⟩ := r2
        rw [decide_eq_false (fun e => by cases e)]
        exact ⟨SeqAt.RcAt.int_str _ _ _ _, SeqAt.RcNeAt.int_str _ _ _ _⟩
      | i n =>
        have := eqInt.rc (K := K) (a := m) (b := n) A hK I hu r1 r2 h1 h2
        rwa [show decide (SI.i m = SI.i n) = decide (m = n) from decide_eq_decide.mpr ⟨fun e => by cases e; rfl, fun e => by rw [e]⟩]
noncomputable instance reSI : RpE SI := ⟨0, fun _ => eqSI⟩
theorem room_u {j : Nat} {A : Around} (hr : Room j A) : A.units + 1 < cLine := by
  have := hr.un
  omega
noncomputable def asS : SI → Option Str
  | .s x => some x
  | .i _ => none
noncomputable def asI : SI → Option Int
  | .s _ => none
  | .i n => some n
section
variable {K : PySem.W.Frag} {σ : St} {G H : Hp} {ta tb te td ti : TE} {α : Type} [Rp α] {md : Option SI} {rest : TS} {D : Ends} {i : Nat}
theorem ev_toS {m : Option Str} (e : EV K te σ G m) : EV K te σ G (m.bind fun x => some (SI.s x)) := by
  intro G1 s1 c hc H sH Q k
  obtain ⟨x, hx, hc⟩ := Option.bind_eq_some_iff.mp hc
  cases hc
  exact e G1 s1 x hx H sH Q fun v G2 H2 x2 r => k v G2 H2 x2 r
theorem ev_asS (e : EV K te σ G md) : EV K te σ G (md.bind fun d => asS d) := by
  intro G1 s1 c hc H sH Q k
  obtain ⟨d, hd, hc⟩ := Option.bind_eq_some_iff.mp hc
  refine e G1 s1 d hd H sH Q fun v G2 H2 x r => ?_
  cases d with
  | s y => cases hc; exact k _ _ _ x r
  | i n => cases hc
theorem ev_asI (e : EV K te σ G md) : EV K te σ G (md.bind fun d => asI d) := by
  intro G1 s1 c hc H sH Q k
  obtain ⟨d, hd, hc⟩ := Option.bind_eq_some_iff.mp hc
  refine e G1 s1 d hd H sH Q fun v G2 H2 x r => ?_
  cases d with
  | s y => cases hc
  | i n => cases hc; exact k _ _ _ x r
end
section
variable {K : PySem.W.Frag} {σ : St} {G H : Hp} {ta tb te td ti : TE} {α : Type} [Rp α]
end
section
variable {K : PySem.W.Frag} {σ : St} {G H : Hp} {ta tb te td ti : TE} {α : Type} [Rp α]
end
structure Mp (α : Type) where
  l : List (Int × α)
noncomputable def RelE (K : PySem.W.Frag) {α : Type} [Rp α] (H : Hp) (kv : Key × V) (q : Int × α) : Prop := kv.1 = .inl q.1 ∧ Rp.rel K H kv.2 q.2
noncomputable instance rpMp {α : Type} [Rp α] : Rp (Mp α) := ⟨fun K H v a => ∃ p kvs, v = .ref p ∧ H p = some (.dK kvs) ∧ Paired (RelE K H) kvs a.l,
  fun s ⟨p, kvs, e, h, pr⟩ => ⟨p, kvs, e, s _ _ h, Paired.imp' (fun _ _ r => ⟨r.1, Rp.mono s r.2⟩) pr⟩⟩
section
variable {K : PySem.W.Frag} {σ : St} {G H G1 H1 G0 H0 : Hp} {α β : Type} [Rp α] [Rp β] {td te ti : TE} {rest : TS} {D : Ends} {i : Nat} {a : Mp α} {v : V} {p q : Addr} {kvs : List (Key × V)}
end
section
variable {K : PySem.W.Frag} {σ : St} {G H : Hp} {α : Type} [Rp α] {te : TE} {rest : TS} {D : Ends} {i : Nat} {a : α} {m : Option α} {as : List α} {v : V} {p : Addr} {vs : List V}
end
end L2
set_option Elab.async false
set_option linter.all false
set_option maxRecDepth 100000
set_option maxHeartbeats 4000000
namespace L2
open PySem PySem.Spec PyProof.Rows
section
variable {X : Cx} {e : Expr} {te : TE} {lo hi : Option Expr} {se : Expr} {tl th ts : TO} {pos p2 : Pos}
end
section
variable {K : PySem.W.Frag} {σ : St} {G H : Hp} {ta t3 : TE} {t1 t2 : TO} {α : Type} [Rp α] {m1 m2 : Option (Option Int)} {c : Int}
end
end L2
set_option Elab.async false
set_option linter.all false
set_option maxRecDepth 100000
set_option maxHeartbeats 4000000
namespace L2
open PySem PySem.Spec PyProof.Rows
theorem Inv.turnedL {X : Cx} {pins : List (Addr × Obj)} {σ : List (Option V)} {H : Hp} {s : Shared} {h' : Heap} {t' : Nat} (fs : List Addr) (I : Inv X pins σ H s) (k : ∀ b o, b ∉ fs → s.heap.get? b = some o → h'.get? b = some o) (ff : ∀ b ∈ fs, FpOk X pins H b) :
    Inv X pins σ H { s with heap := h', toks := t' } := by
  have nit : ∀ b u, H b = some u → b ∉ fs := fun b u q z => by rw [(ff b z).1] at q; cases q
  refine I.step (g' := s.gens) (d' := s.drawn) (ch := fs) (fun b hb => ?_) (fun b o _ _ hc q _ => k b o hc q) (fun b o _ _ hc q _ => ⟨o.slots, k b o hc q⟩) (fun _ _ _ _ n => n)
    (fun b o hc q => ⟨o, k b o hc q⟩) (fun _ _ q => q) (fun _ _ _ q => q) (fun b ps q => ⟨#[], by rw [q]; simp⟩) (fun m hm => ?_) (fun b u q => ?_) I.bare
  · have f := ff b hb
    exact ⟨f.2.2.2.1, f.2.1, f.2.2.2.2.1, f.2.2.2.2.2⟩
  · obtain ⟨o, es, ep, ho, r⟩ := hm
    exact ⟨o, es, ep, k _ o (fun z => (ff _ z).2.1 rfl) ho, r⟩
  · refine (I.hok b u q).stay (fun c v hc z => ?_) (fun _ z => z) fun _ _ z => z
    rcases hc with y | y
    · rw [y] at z ⊢
      exact k b v (nit b u q) z
    · exact k c v (nit c _ y) z
noncomputable def Itz (K : PySem.W.Frag) (a b : Addr) : It :=
  ⟨fun i H => ∃ xs ys x y, SqL K H a xs ∧ SqL K H b ys ∧ xs[i]? = some x ∧ ys[i]? = some y,
   fun i H z H' => ∃ t v w, z = .ref t ∧ H t = none ∧ H' = upd H t (.tup [v, w]) ∧ (∀ xs, SqL K H a xs → xs[i]? = some v) ∧ ∀ ys, SqL K H b ys → ys[i]? = some w,
   fun i H => ∃ xs ys, SqL K H a xs ∧ SqL K H b ys ∧ (xs.length ≤ i ∨ ys.length ≤ i)⟩
theorem turn_zip {P : Program} {w : World} {K : PySem.W.Frag} {elts : List Expr} {x1 : _} {pos : Pos} {z TI TO i1 i2 l1 l2 : Addr} (D : ZipApart z TI TO i1 i2 l1 l2) :
    Turn P w K (.Tuple elts x1 pos) (Itz K l1 l2) [z, TI, TO, i1, i2] z (fun i h => IsZip h z TI TO .none ∧ IsPair h TI (.ref i1) (.ref i2) ∧ (∃ a b, IsPair h TO a b) ∧ h.IsListIter i1 l1 i ∧ h.IsListIter i2 l2 i) where
  mem := by simp
  obj := fun i h st b hb => by
    obtain ⟨hz, hTI, ⟨a, c, hTO⟩, ⟨o1, q1, c1, d1⟩, ⟨o2, q2, c2, d2⟩⟩ := st
    simp only [List.mem_cons, List.not_mem_nil, or_false] at hb
    rcases hb with e | e | e | e | e
    · subst e
      exact ⟨_, hz, fun v z => by
        have z' : Data.fields _ = Data.cell v := z
        cases z'⟩
    · subst e
      exact ⟨_, hTI, fun v z => by
        have z' : Data.seq _ _ = Data.cell v := z
        cases z'⟩
    · subst e
      exact ⟨_, hTO, fun v z => by
        have z' : Data.seq _ _ = Data.cell v := z
        cases z'⟩
    · subst e
      exact ⟨o1, q1, fun v z => by rw [d1] at z; cases z⟩
    · subst e
      exact ⟨o2, q2, fun v z => by rw [d2] at z; cases z⟩
  keep := fun i h h' st k => by
    obtain ⟨hz, hTI, ⟨a, c, hTO⟩, h1, h2⟩ := st
    exact ⟨k z (by simp) _ hz, k TI (by simp) _ hTI, ⟨a, c, k TO (by simp) _ hTO⟩, h1.at fun o q => k i1 (by simp) o q, h2.at fun o q => k i2 (by simp) o q⟩
  item := by
    intro X hP hw hK hc i pins s σ H E I hf st hg
    subst hP hw hK
    obtain ⟨hz, hTI, ⟨a, c, hTO⟩, h1, h2⟩ := st
    obtain ⟨xs, ys, x, y, hq1, hq2, hx, hy⟩ := hg
    obtain ⟨its1, rv1, p1, _⟩ := I.list hq1
    obtain ⟨its2, rv2, p2, _⟩ := I.list hq2
    obtain ⟨u1, hu1, ru1⟩ := rv1.get hx
    obtain ⟨u2, hu2, ru2⟩ := rv2.get hy
    have lz : z < s.heap.objs.size := Heap.lt_size hz
    have lTI : TI < s.heap.objs.size := Heap.lt_size hTI
    have lTO : TO < s.heap.objs.size := Heap.lt_size hTO
    have l_1 : i1 < s.heap.objs.size := by obtain ⟨o, q, _⟩ := h1; exact Heap.lt_size q
    have l_2 : i2 < s.heap.objs.size := by obtain ⟨o, q, _⟩ := h2; exact Heap.lt_size q
    refine wpAny_pyNext_zip_item D hz hTI hTO h1 h2 p1.isList p2.isList (x := u1) (y := u2) (by simpa using hu1) (by simpa using hu2) fun h' a1 a2 a3 a4 a5 a6 hk => ?_
    refine ⟨_, rfl, wpAny_letOwnedTupleGo_zip a1 fun h2' hz2 hs2 => ?_⟩
    replace hs2 : Heap.SameBut z h' h2' := hs2
    have ht2 : h2'.get? s.heap.objs.size = some { cls := .type "tuple", data := .seq #[u1, u2] } := (hs2.2 _ (Nat.ne_of_gt lz)).trans a5
    have I1 : Inv X pins σ (upd H s.heap.objs.size (.tup [x, y])) { s with heap := s.heap.push { cls := .type "tuple", data := .seq #[u1, u2] }, toks := s.toks } :=
      I.laid (fun b ob q => Heap.get?_push_of_some _ q) (Nat.le_refl _) ⟨by show 2 ≤ sizeLine; decide, [u1, u2], .cons ru1 (.cons ru2 .nil), IsTup.new _ _⟩
    have fre : ∀ b, b ∈ [z, TI, TO, i1, i2] → b ≠ s.heap.objs.size := fun b hb => by
      simp only [List.mem_cons, List.not_mem_nil, or_false] at hb
      rcases hb with e | e | e | e | e <;> (rw [e]; exact Nat.ne_of_lt (by assumption))
    have fn : ∀ b ∈ [z, TI, TO, i1, i2], FpOk X pins (upd H s.heap.objs.size (.tup [x, y])) b := fun b hb => ⟨by rw [upd_ne (fre b hb)]; exact (hf b hb).1, (hf b hb).2⟩
    have I2 : Inv X pins σ (upd H s.heap.objs.size (.tup [x, y])) { s with heap := h2', toks := s.toks } := Inv.turnedL (s := { s with heap := s.heap.push { cls := .type "tuple", data := .seq #[u1, u2] }, toks := s.toks }) [z, TI, TO, i1, i2] (h' := h2') (t' := s.toks) I1 (fun b o hb q => by
      replace q : (s.heap.push { cls := .type "tuple", data := .seq #[u1, u2] }).get? b = some o := q
      simp only [List.mem_cons, List.not_mem_nil, or_false, not_or] at hb
      by_cases e : b = s.heap.objs.size
      · rw [e] at q ⊢
        rw [Heap.get?_push_size _ rfl] at q
        rw [ht2]
        exact q
      · have q' : s.heap.get? b = some o := by rw [← q]; exact (Heap.get?_push_ne _ _ _ e).symm
        exact (hs2.2 _ hb.1).trans (hk b o hb.1 hb.2.2.1 hb.2.2.2.1 hb.2.2.2.2 q')) fn
    refine ⟨.ref s.heap.objs.size, _, I2, rfl, ⟨_, x, y, rfl, I.hok.fresh (Nat.le_refl _), rfl, fun zs hy' => by rw [I.list_inj hy' hq1]; exact hx, fun zs hy' => by rw [I.list_inj hy' hq2]; exact hy⟩, ⟨hz2, ?_, ⟨u1, u2, ?_⟩, ?_, ?_⟩, fun b hb => (fn b hb).1⟩
    · exact (hs2.2 _ D.TIz).trans (hk _ _ D.TIz D.TITO D.TIi1 D.TIi2 hTI)
    · exact (hs2.2 _ D.TOz).trans a2
    · exact a3.extBut hs2.extBut D.i1z
    · exact a4.extBut hs2.extBut D.i2z
  done := by
    intro X hP hw hK hc i pins s σ H E I hf st hg
    subst hP hw hK
    obtain ⟨hz, hTI, ⟨a, c, hTO⟩, h1, h2⟩ := st
    obtain ⟨xs, ys, hq1, hq2, hx⟩ := hg
    obtain ⟨its1, rv1, p1, _⟩ := I.list hq1
    obtain ⟨its2, rv2, p2, _⟩ := I.list hq2
    have hl1 := rv1.length
    have hl2 := rv2.length
    refine wpAny_pyNext_zip_end (I.ok.hd hc) D hz hTI hTO h1 h2 p1.isList p2.isList (hx.imp (fun h => by simp; omega) fun h => by simp; omega) fun h' eb => ⟨rfl, Inv.turnedL [z, TI, TO, i1, i2] (t' := s.toks) I (fun b o hb q => ?_) hf⟩
    simp only [List.mem_cons, List.not_mem_nil, or_false, not_or] at hb
    exact eb b o hb.1 hb.2.2.1 hb.2.2.2.1 hb.2.2.2.2 q
  self := fun _ _ _ _ _ st h => wpAny_pyIter_zip st.1 h
noncomputable def iZip (K : PySem.W.Frag) (ta : TA) : TI := fun σ H R => ta σ H fun vs H1 => ∃ a b, vs = [.ref a, .ref b] ∧ (∃ xs, SqL K H1 a xs) ∧ (∃ ys, SqL K H1 b ys) ∧ R (Itz K a b) H1
theorem pi_zip {X : Cx} {K : PySem.W.Frag} {elts : List Expr} {x1 : _} {tp : Pos} {a b : Expr} {ta : TA} {p pos : Pos} (hK : X.K = K) (hg : Gl X "zip") (hm : X.mg "zip" = none) (ha : PA X [a, b] ta) (hs : starEach [a, b] X.env = [(false, eval a X.env), (false, eval b X.env)] := by rfl) (hs2 : starEach [b] X.env = [(false, eval b X.env)] := by rfl) :
    PI X (.Tuple elts x1 tp) (.Call (.Name "zip" p) [a, b] [] pos) (iZip K ta) := by
  subst hK
  intro pins s σ H R I h
  refine Call_ (ld_blt I hg hm boot_zip (PyProof.Rows.callWith_type1 (thn (ha pos pins s σ H _ I h) fun us s1 ⟨vs, H1, I1, r1, q1⟩ => ?_) (by rw [hs, hs2]) (by rw [hs2]; rfl)))
  obtain ⟨l1, l2, e, ⟨xs, hq1⟩, ⟨ys, hq2⟩, q⟩ := q1
  subst e
  obtain ⟨u1, u2, rfl, r1, r2⟩ := vals2 r1
  cases r1
  cases r2
  obtain ⟨its1, rv1, pl1, _⟩ := I1.list hq1
  obtain ⟨its2, rv2, pl2, _⟩ := I1.list hq2
  have lt1 : l1 < s1.heap.objs.size := by obtain ⟨_, e, _⟩ := pl1.isList; exact Heap.lt_size e
  have lt2 : l2 < s1.heap.objs.size := by obtain ⟨_, e, _⟩ := pl2.isList; exact Heap.lt_size e
  refine call_zip_2 pl1.isList pl2.isList fun h' hz hTI hTO hi1 hi2 _ hk => ?_
  refine wpAny_pyIter_zip (s := { s1 with heap := h' }) hz ?_
  have I2 : Inv X pins σ H1 { s1 with heap := h' } := I1.kept (t' := s1.toks) hk
  refine ⟨s1.heap.objs.size + 4, [s1.heap.objs.size + 4, s1.heap.objs.size + 2, s1.heap.objs.size + 3, s1.heap.objs.size, s1.heap.objs.size + 1], _, _, H1, rfl, I2, turn_zip (zipApart_new lt1 lt2), ⟨hz, hTI, ⟨_, _, hTO⟩, hi1, hi2⟩, fun b hb => ?_, q⟩
  simp only [List.mem_cons, List.not_mem_nil, or_false] at hb
  rcases hb with e | e | e | e | e <;> (subst e; exact I1.fpOk (by omega) (I1.hok.fresh (by omega)))
structure YieldsZ (J : It) (H : Hp) (xs ys : List V) : Prop where
  go : ∀ i H', Same H H' → i < min xs.length ys.length → J.go i H'
  stop : ∀ H', Same H H' → J.stop (min xs.length ys.length) H'
  yld : ∀ (i : Nat) (H' : Hp) (x : V) (H'' : Hp), Same H H' → i < min xs.length ys.length → J.yld i H' x H'' → ∃ t v w, x = .ref t ∧ H' t = none ∧ H'' = upd H' t (.tup [v, w]) ∧ xs[i]? = some v ∧ ys[i]? = some w
section
variable {K : PySem.W.Frag} {σ : St} {G : Hp} {α β γ : Type} [Rp α] [Rp β] [Rp γ] {ta tb : TE}
noncomputable def IZ (K : PySem.W.Frag) {α β : Type} [Rp α] [Rp β] (wi : TI) (σ : St) (G : Hp) (m : Option (List (α × β))) : Prop :=
  ∀ G1, Same G G1 → ∀ ps, m = some ps → ∀ H, Same G1 H → ∀ R : It → Hp → Prop, (∀ J vs ws as bs G2 H2, Ext G1 H G2 H2 → YieldsZ J G2 vs ws → vs.length ≤ sizeLine → Paired (Rp.rel K G2) vs as → Paired (Rp.rel K G2) ws bs → ps = as.zip bs → R J H2) → wi σ H R
theorem iz_lists {la : Option (List α)} {lb : Option (List β)} (ea : EV K ta σ G la) (eb : EV K tb σ G lb) : IZ K (iZip K (tCons ta (tCons tb tNil))) σ G (la.bind fun a => lb.bind fun b => some (a.zip b)) := by
  intro G1 s1 ps hps H sH R k
  obtain ⟨a, ha, hps⟩ := Option.bind_eq_some_iff.mp hps
  obtain ⟨b, hb, hps⟩ := Option.bind_eq_some_iff.mp hps
  cases hps
  refine ea G1 s1 a ha H sH _ fun v G2 H2 x2 r2 => ?_
  refine eb G2 (s1.trans x2.gg) b hb H2 x2.gh _ fun w G3 H3 x3 r3 => ?_
  obtain ⟨l, xs, rfl, h, z, p⟩ := Rp.mono x3.gg r2
  obtain ⟨l', ys, rfl, h', z', p'⟩ := r3
  refine ⟨l, l', rfl, ⟨xs, .inl (x3.gh.rd h)⟩, ⟨ys, .inl (x3.gh.rd h')⟩, k _ xs ys a b G3 H3 (x2.trans x3) ⟨fun i H' s hi => ?_, fun H' s => ⟨xs, ys, .inl (s.rd h), .inl (s.rd h'), by omega⟩, fun i H' y H'' s hi hy => ?_⟩ z p p' rfl⟩
  · exact ⟨xs, ys, xs[i]'(by omega), ys[i]'(by omega), .inl (s.rd h), .inl (s.rd h'), List.getElem?_eq_getElem (by omega), List.getElem?_eq_getElem (by omega)⟩
  · obtain ⟨t, v, w, e1, e2, e3, e4, e5⟩ := hy
    exact ⟨t, v, w, e1, e2, e3, e4 xs (.inl (s.rd h)), e5 ys (.inl (s.rd h'))⟩
end
end L2
namespace L2
open PySem PySem.Spec PyProof.Rows
section
variable {K : PySem.W.Frag} {σ : St} {G H : Hp} {ta tb te : TE} {rest : TS} {D : Ends} {i : Nat} {v : V} {p : Addr} {vs : List V}
end
end L2
set_option Elab.async false
set_option linter.all false
set_option maxRecDepth 100000
set_option maxHeartbeats 4000000
namespace L2
open PySem PySem.Spec PyProof.Rows
section
variable {K : PySem.W.Frag} {σ : St} {G : Hp} {ta : TE}
end
end L2
set_option Elab.async false
set_option linter.all false
set_option maxRecDepth 100000
set_option maxHeartbeats 4000000
namespace L2
open PySem PySem.Spec PyProof.Rows
noncomputable def rCatTp (K : PySem.W.Frag) : R2 := fun x y H Q => ∃ a b xs ys, x = .ref a ∧ y = .ref b ∧ SqT K H a xs ∧ SqT K H b ys ∧ xs.length + ys.length ≤ sizeLine ∧ (xs = [] → Q (.ref b) H) ∧ (ys = [] → Q (.ref a) H) ∧ ∀ p, H p = none → Q (.ref p) (upd H p (.tup (xs ++ ys)))
theorem op_catTp {X : Cx} {K : PySem.W.Frag} (h : X.K = K) : OpR X (binaryOp .Add) (rCatTp K) := by
  subst h
  intro pins s σ H x y v u Q I rx ry h
  obtain ⟨t, b, xs, ys, rfl, rfl, h1, h2, hz, q0, q1, q2⟩ := h
  cases rx
  cases ry
  obtain ⟨vs, rv, ht, _⟩ := I.tuple h1
  obtain ⟨ws, rw', hb, _⟩ := I.tuple h2
  have l1 := rv.length
  have l2 := rw'.length
  obtain ⟨⟨cls, dd, data, sl⟩, ho, hc, n, hd⟩ := id ht
  obtain ⟨⟨cls2, dd2, data2, sl2⟩, ho2, hc2, n2, hd2⟩ := id hb
  simp only at hc hd hc2 hd2
  subst hc hd hc2 hd2
  have e : vs.toArray ++ ws.toArray = (vs ++ ws).toArray := by simp
  by_cases hv : vs = []
  · have hx : xs = [] := List.length_eq_zero_iff.mp (by rw [l1, hv]; rfl)
    exact concat_meets ⟨_, ho, rfl⟩ ⟨_, ho2, rfl⟩ noFill_tuple_add seq_tuple_add PySem.F.slot_tuple_add PySem.F.entry_tuple_add (PySem.F.args_tuple_add_2 _ _)
      (tuple_addW0 t b vs.toArray ws.toArray n n2 dd dd2 sl sl2 (by simp [hv])) ⟨ho, ho2, ⟨.ref b, H, I.tok _, rfl, q0 hx⟩⟩
  · by_cases hw : ws = []
    · have hy : ys = [] := List.length_eq_zero_iff.mp (by rw [l2, hw]; rfl)
      exact concat_meets ⟨_, ho, rfl⟩ ⟨_, ho2, rfl⟩ noFill_tuple_add seq_tuple_add PySem.F.slot_tuple_add PySem.F.entry_tuple_add (PySem.F.args_tuple_add_2 _ _)
        (tuple_addW1 t b vs.toArray ws.toArray n n2 dd dd2 sl sl2 (by simpa using hv) (by simp [hw])) ⟨ho, ho2, ⟨.ref t, H, I.tok _, rfl, q1 hy⟩⟩
    · refine concat_meets ⟨_, ho, rfl⟩ ⟨_, ho2, rfl⟩ noFill_tuple_add seq_tuple_add PySem.F.slot_tuple_add PySem.F.entry_tuple_add (PySem.F.args_tuple_add_2 _ _)
        (tuple_addW2 t b vs.toArray ws.toArray n n2 dd dd2 sl sl2 (by simpa using hv) (by simpa using hw) (by rw [List.size_toArray, List.size_toArray]; omega)) ⟨ho, ho2, ?_⟩
      rw [e]
      exact ⟨.ref s.heap.objs.size, _, I.laid (t' := s.toks) (o := .tup (xs ++ ys)) (fun b ob q => Heap.get?_push_of_some _ q) (Nat.le_refl _) ⟨by rw [List.length_append]; exact hz, vs ++ ws, rv.append rw', IsTup.new _ _⟩, rfl, q2 _ (I.hok.fresh (Nat.le_refl _))⟩
noncomputable def catTO {α : Type} (a b : Tp α) : Option (Tp α) := if a.l.length + b.l.length ≤ sizeLine then some ⟨a.l ++ b.l⟩ else none
section
variable {K : PySem.W.Frag} {σ : St} {G : Hp} {α : Type} [Rp α] {ta tb : TE}
theorem ev_catTp {m1 m2 : Option (Tp α)} (ea : EV K ta σ G m1) (eb : EV K tb σ G m2) : EV K (tOp (rCatTp K) ta tb) σ G (m1.bind fun a => m2.bind fun b => catTO a b) :=
  ev_bin (fun {G' H' x y a b c} s ra rb e Q k => by
    obtain ⟨hz, rfl⟩ := ite_some e
    obtain ⟨l, xs, rfl, h, z, p⟩ := ra
    obtain ⟨l', ys, rfl, h', z', p'⟩ := rb
    have e1 := Paired.length p
    have e2 := Paired.length p'
    refine ⟨l, l', xs, ys, rfl, rfl, s.tup h, s.tup h', by omega, fun hx => ?_, fun hy => ?_, fun q hq => ?_⟩
    · have ea : a.l = [] := List.length_eq_zero_iff.mp (by rw [← e1, hx]; rfl)
      exact k _ _ _ (.refl s) ⟨l', ys, rfl, h', z', by show Paired _ ys (a.l ++ b.l); rw [ea]; exact p'⟩
    · have eb : b.l = [] := List.length_eq_zero_iff.mp (by rw [← e2, hy]; rfl)
      exact k _ _ _ (.refl s) ⟨l, xs, rfl, h, z, by show Paired _ xs (a.l ++ b.l); rw [eb, List.append_nil]; exact p⟩
    · have sn := Same.new (o := .tup (xs ++ ys)) (s.free hq)
      exact k _ _ _ (.new s hq) ⟨q, xs ++ ys, rfl, SqT.of upd_same, by rw [List.length_append]; omega, Paired.app (Paired.imp' (fun _ _ r => Rp.mono sn r) p) (Paired.imp' (fun _ _ r => Rp.mono sn r) p')⟩) ea eb
end
end L2
set_option Elab.async false
set_option linter.all false
set_option maxRecDepth 100000
namespace L2
open PySem PySem.Spec PyProof.Rows
section
variable {X : Cx} {pins : List (Addr × Obj)} {σ : St}
end
end L2
set_option Elab.async false
set_option linter.all false
set_option maxRecDepth 100000
set_option maxHeartbeats 4000000
namespace L2
open PySem PySem.Spec PyProof.Rows
end L2
set_option Elab.async false
set_option linter.all false
set_option maxRecDepth 100000
set_option maxHeartbeats 4000000
namespace L2
open PySem PySem.Spec PyProof.Rows
section
variable {prog : Program} {w : World} {A : Around} {E : Value → Shared → Prop} {s : Shared}
end
end L2
set_option Elab.async false
set_option linter.all false
set_option maxRecDepth 100000
set_option maxHeartbeats 4000000
namespace L2
open PySem PySem.Spec PyProof.Rows
section
variable {prog : Program} {w : World} {A : Around} {R : Result → Shared → Prop} {I : Addr} {fp wr : List Addr} {G : Array GenState → Array GenState → Prop} {n : Nat} {P : Nat → Value → Prop} {St : Nat → Shared → Prop}
end
section
variable {prog : Program} {w : World} {A : Around} {E : Value → Shared → Prop} {s : Shared}
end
end L2
set_option Elab.async false
set_option linter.all false
set_option maxRecDepth 100000
set_option maxHeartbeats 4000000
namespace L2
open PySem PySem.Spec PyProof.Rows
section
variable {prog : Program} {w : World} {A : Around} {E : Value → Shared → Prop} {s : Shared}
end
end L2
set_option Elab.async false
set_option linter.all false
set_option maxRecDepth 100000
set_option maxHeartbeats 4000000
namespace L2
open PySem PySem.Spec PyProof.Rows
section
variable {prog : Program} {w : World} {A : Around} {E : Value → Shared → Prop} {s : Shared}
end
end L2
set_option Elab.async false
set_option linter.all false
set_option maxRecDepth 100000
set_option maxHeartbeats 4000000
namespace L2
open PySem PySem.Spec PyProof.Rows
section
variable {prog : Program} {w : World} {A : Around} {E : Value → Shared → Prop} {s : Shared} {I a T : Addr} {es xs : Array (Int × Value)} {ep : Nat} {t : SetTable} {ks : List Key}
end
end L2
set_option Elab.async false
set_option linter.all false
set_option maxRecDepth 100000
set_option maxHeartbeats 4000000
namespace L2
open PySem PySem.Spec PyProof.Rows
section
variable {prog : Program} {w : World} {A : Around} {E : Value → Shared → Prop} {s : Shared} {a : Addr} {es : Array (Int × Value)} {ep : Nat} {t : SetTable} {ks : List Key}
end
end L2
set_option Elab.async false
set_option linter.all false
set_option maxRecDepth 100000
set_option maxHeartbeats 4000000
namespace L2
open PySem PySem.Spec PyProof.Rows
section
variable {X : Cx} {pins : List (Addr × Obj)} {σ : List (Option V)} {H : Hp} {s s' : Shared}
theorem Inv.same (I : Inv X pins σ H s) (e1 : s'.heap = s.heap) (e2 : s'.gens = s.gens) (e3 : s'.os = s.os) : Inv X pins σ H s' := by
  obtain ⟨h, g, d, t, o⟩ := s
  obtain ⟨h', g', d', t', o'⟩ := s'
  dsimp only at e1 e2 e3
  subst e1; subst e2; subst e3
  exact ⟨I.ok, I.os, I.bare, I.base, I.loc, I.cell, I.free, I.freeC, I.pin, I.hok, I.len⟩
end
section
variable {K : PySem.W.Frag} {σ : St} {G : Hp} {ta tb : TE} {w : World}
end
end L2
set_option Elab.async false
set_option linter.all false
set_option maxRecDepth 100000
set_option maxHeartbeats 4000000
namespace L2
open PySem PySem.Spec PyProof.Rows
end L2
set_option Elab.async false
set_option linter.all false
set_option maxRecDepth 100000
set_option maxHeartbeats 4000000
namespace L2
open PySem PySem.Spec PyProof.Rows
end L2
set_option Elab.async false
set_option linter.all false
set_option maxRecDepth 100000
set_option maxHeartbeats 4000000
namespace L2
open PySem PySem.Spec PyProof.Rows
section
variable {prog : Program} {w : World} {A : Around} {E : Value → Shared → Prop} {s : Shared}
end
end L2
set_option Elab.async false
set_option linter.all false
set_option maxRecDepth 100000
set_option maxHeartbeats 4000000
namespace L2
open PySem PySem.Spec PyProof.Rows
section
variable {prog : Program} {w : World} {A : Around} {E : Value → Shared → Prop} {s : Shared}
end
end L2
set_option Elab.async false
set_option linter.all false
set_option maxRecDepth 100000
set_option maxHeartbeats 4000000
namespace L2
open PySem PySem.Spec PyProof.Rows
section
variable {prog : Program} {w : World} {A : Around} {E : Value → Shared → Prop} {s : Shared}
end
end L2
set_option Elab.async false
set_option linter.all false
set_option maxRecDepth 100000
set_option maxHeartbeats 4000000
namespace L2
open PySem PySem.Spec PyProof.Rows
section
variable {prog : Program} {w : World} {A : Around} {E : Value → Shared → Prop} {s : Shared}
end
end L2
set_option Elab.async false
set_option linter.all false
set_option maxRecDepth 100000
set_option maxHeartbeats 4000000
namespace L2
open PySem PySem.Spec PyProof.Rows
section
variable {K : PySem.W.Frag} {σ : St} {G : Hp} {ta tb : TE} {w : World}
end
end L2
set_option Elab.async false
set_option linter.all false
set_option maxRecDepth 100000
set_option maxHeartbeats 4000000
namespace L2
open PySem PySem.Spec PyProof.Rows
section
variable {K : PySem.W.Frag} {σ : St} {G H G0 H0 : Hp} {α β : Type} [Rp α] [Rp β] {ta td ti : TE} {rest : TS} {D : Ends} {i : Nat} {a : Mp α} {v : V} {p : Addr} {kvs : List (Key × V)}
end
section
variable {K : PySem.W.Frag} {σ : St} {G : Hp} {α : Type} [Rp α] {ta : TE}
end
end L2
set_option Elab.async false
set_option linter.all false
set_option maxRecDepth 100000
set_option maxHeartbeats 4000000
namespace L2
open PySem PySem.Spec PyProof.Rows
section
variable {K : PySem.W.Frag} {σ : St} {G H : Hp} {α : Type} [Rp α] {rest : TS} {D : Ends} {i : Nat} {as as' : List α} {v : V} {p : Addr} {vs : List V}
end
end L2
set_option Elab.async false
set_option linter.all false
set_option maxRecDepth 100000
set_option maxHeartbeats 4000000
namespace L2
open PySem PySem.Spec PyProof.Rows
section
variable {K : PySem.W.Frag} {σ : St} {G H : Hp} {α : Type} [Rp α] {te : TE} {rest : TS} {D : Ends} {i : Nat} {m : Option (Tp α)} {b : Tp α} {as as' : List α} {v : V} {p : Addr} {vs : List V}
end
structure MpS (α : Type) where
  l : List (Str × α)
noncomputable def RelS (K : PySem.W.Frag) {α : Type} [Rp α] (H : Hp) (kv : Key × V) (q : Str × α) : Prop := kv.1 = .inr q.1 ∧ Rp.rel K H kv.2 q.2
noncomputable instance rpMpS {α : Type} [Rp α] : Rp (MpS α) := ⟨fun K H v a => ∃ p kvs, v = .ref p ∧ H p = some (.dK kvs) ∧ Paired (RelS K H) kvs a.l,
  fun s ⟨p, kvs, e, h, pr⟩ => ⟨p, kvs, e, s _ _ h, Paired.imp' (fun _ _ r => ⟨r.1, Rp.mono s r.2⟩) pr⟩⟩
section
variable {K : PySem.W.Frag} {σ : St} {G H G1 H1 G0 H0 : Hp} {α β : Type} [Rp α] [Rp β] {td te ti : TE} {rest : TS} {D : Ends} {i : Nat} {a : MpS α} {v : V} {p q : Addr} {kvs : List (Key × V)}
end
section
variable {X : Cx} {i o : Expr} {ty td : TE} {pos : Pos}
end
end L2
set_option Elab.async false
set_option linter.all false
set_option maxRecDepth 100000
set_option maxHeartbeats 4000000
namespace L2
open PySem PySem.Spec PyProof.Rows
section
variable {prog : Program} {w : World} {A : Around} {E : Value → Shared → Prop} {s : Shared}
end
end L2
set_option Elab.async false
set_option linter.all false
set_option maxRecDepth 100000
set_option maxHeartbeats 4000000
namespace L2
open PySem PySem.Spec PyProof.Rows
section
variable {prog : Program} {w : World} {A : Around} {E : Value → Shared → Prop} {s : Shared} {z TI TO : Addr} {f0 f1 : Value}
end
end L2
set_option Elab.async false
set_option linter.all false
set_option maxRecDepth 100000
set_option maxHeartbeats 4000000
namespace L2
open PySem PySem.Spec PyProof.Rows
section
variable {prog : Program} {w : World} {A : Around} {E : Value → Shared → Prop} {s : Shared}
end
end L2
set_option Elab.async false
set_option linter.all false
set_option maxRecDepth 100000
set_option maxHeartbeats 4000000
namespace L2
open PySem PySem.Spec PyProof.Rows
section
variable {prog : Program} {w : World} {A : Around} {E : Value → Shared → Prop} {s : Shared}
end
end L2
set_option Elab.async false
set_option linter.all false
set_option maxRecDepth 100000
set_option maxHeartbeats 4000000
namespace L2
open PySem PySem.Spec PyProof.Rows
section
variable {K : PySem.W.Frag} {σ : St} {G H G0 H0 : Hp} {α β : Type} [Rp α] [Rp β] {ta tb : TE}
end
end L2
set_option Elab.async false
set_option linter.all false
set_option maxRecDepth 100000
set_option maxHeartbeats 4000000
namespace L2
open PySem PySem.Spec PyProof.Rows
section
variable {X : Cx} {i o : Expr} {ty : TE} {pos : Pos} {a : Addr} {w : World} {K : PySem.W.Frag} {l : List (Str × Int)}
end
section
variable {K : PySem.W.Frag} {σ : St} {G : Hp} {ty : TE} {l : List (Str × Int)}
end
end L2
set_option Elab.async false
set_option linter.all false
set_option maxRecDepth 100000
set_option maxHeartbeats 4000000
namespace HT
open PySem PySem.Spec PyProof.Rows
section
variable {prog : Program} {w : World} {A : Around} {E : Value → Shared → Prop} {s : Shared}
theorem getItem_tuple_all {t sl : Addr} {items : Array Value} {vl vu : Value} {lo hi : Option Int} {Q : Value → Shared → Prop} (ht : IsTup s.heap t items) (hs : s.heap.IsSliceOf sl vl vu .none) (pl : IsPart vl lo) (pu : IsPart vu hi)
    (hw : sIx items.size 0 lo = 0 ∧ sIx items.size items.size hi = items.size) (h : Q (.ref t) s) : wpAny (model prog w) A (getItem (.ref t) (.ref sl)) Q E s := by
  obtain ⟨os, hos, hcs, hds⟩ := id hs
  have hTs : s.TypeIs (.ref sl) "slice" := ⟨os, hos, hcs⟩
  unfold getItem
  try with_reducible refine wpAny_holding ?_
  first | refine wpAny_bind (wpAny_pure ?_) | skip
  refine wpAny_bind (wpAny_sequenceKey ht.typeIs (by decide) ?_)
  refine wpAny_bind (wpAny_callSpecial?_slot (name := Str.ofString "__getitem__") ht.typeIs PyProof.Rows.slot_tuple_getitem (wpAny_call_entry PyProof.Rows.slot_tuple_getitem ht.typeIs entry_tuple_getitem ?_ (args_tuple_getitem _ _)))
  show wpAny _ _ (Builtin.Tuple.tupleItemsOf (.ref t) >>= _) _ _ s
  refine wpAny_bind (tupleItemsOf_ ht ?_)
  refine wpAny_bind (wpAny_typeOf hTs ?_)
  rw [if_pos (by decide)]
  refine wpAny_bind (sliceApplied_gen hs pl pu ?_)
  show wpAny _ _ (if (((sIx items.size 0 lo : Nat) : Int) == 0 && (1 : Int) == 1 && (sIx items.size items.size hi - sIx items.size 0 lo) == items.size) = true then _ else _) _ _ s
  rw [if_pos (by rw [hw.1, hw.2]; simp)]
  refine wpAny_bind ?_
  unfold Builtin.Tuple.tupleIsExact
  refine wpAny_bind (wpAny_typeOf ht.typeIs (wpAny_pure ?_))
  rw [if_pos (by decide)]
  refine wpAny_bind (wpAny_rule ?_)
  exact wpAny_pure ⟨_, rfl, wpAny_pure h⟩
end
end HT
namespace L2
open PySem PySem.Spec PyProof.Rows
noncomputable def rSlA (K : PySem.W.Frag) : V → Option Int → Option Int → Hp → VK → Prop := fun x lo hi H Q => ∃ a xs, x = .ref a ∧ SqT K H a xs ∧
  ((HT.sIx xs.length 0 lo = 0 ∧ HT.sIx xs.length xs.length hi = xs.length) → Q (.ref a) H) ∧
  (¬ (HT.sIx xs.length 0 lo = 0 ∧ HT.sIx xs.length xs.length hi = xs.length) → ∀ p, H p = none → Q (.ref p) (upd H p (.tup (cutV xs lo hi))))
theorem sl_tupA {X : Cx} {K : PySem.W.Frag} (h : X.K = K) : SlR X (rSlA K) := by
  subst h
  intro pins s σ H x v vl vu lo hi sl Q I rx hs pl pu h
  obtain ⟨a, xs, rfl, hx, q1, q2⟩ := h
  by_cases hw : HT.sIx xs.length 0 lo = 0 ∧ HT.sIx xs.length xs.length hi = xs.length
  · cases rx
    obtain ⟨its, r, ht, hz⟩ := I.tuple hx
    have hlen : its.toArray.size = xs.length := by rw [List.size_toArray]; exact r.length.symm
    exact ⟨"tuple", _, PyProof.Rows.slot_tuple_getitem.lookup, ht.typeIs, HT.getItem_tuple_all ht hs pl pu (by rw [hlen]; exact hw) ⟨.ref a, H, I, rfl, q1 hw⟩⟩
  · exact sl_tup pins s σ H _ v vl vu lo hi sl Q I rx hs pl pu ⟨a, xs, rfl, hx, hw, q2 hw⟩
section
variable {K : PySem.W.Frag} {σ : St} {G : Hp} {α : Type} [Rp α] {ta tb tc te : TE} {t1 t2 : TO} {sa sb sc : Option Str} {m1 m2 : Option (Option Int)}
theorem cutA_all {α : Type} {l : List α} {lo hi : Option Int} (h : HT.sIx l.length 0 lo = 0 ∧ HT.sIx l.length l.length hi = l.length) : cutA l lo hi = l := by
  unfold cutA
  rw [h.1, h.2]
  simp
theorem ev_sliceTA {ma : Option (Tp α)} (ea : EV K ta σ G ma) (e1 : OV t1 σ G m1) (e2 : OV t2 σ G m2) : EV K (tSl (rSlA K) ta t1 t2) σ G (ma.bind fun a => m1.bind fun lo => m2.bind fun hi => some (Tp.mk (cutA a.l lo hi))) := by
  intro G1 s1 c hc H sH Q k
  obtain ⟨a, ha, hc⟩ := Option.bind_eq_some_iff.mp hc
  obtain ⟨lo, hlo, hc⟩ := Option.bind_eq_some_iff.mp hc
  obtain ⟨hi, hhi, hc⟩ := Option.bind_eq_some_iff.mp hc
  cases hc
  refine ea G1 s1 a ha H sH _ fun v G2 H2 x2 r2 => ?_
  refine e1 G2 (s1.trans x2.gg) lo hlo H2 x2.gh _ fun G3 H3 x3 => ?_
  refine e2 G3 (s1.trans (x2.trans x3).gg) hi hhi H3 x3.gh _ fun G4 H4 x4 => ?_
  obtain ⟨l, xs, rfl, h, z, p⟩ := Rp.mono (x3.trans x4).gg r2
  have hl := Paired.length p
  refine ⟨l, xs, rfl, x4.gh.tup h, fun hw => ?_, fun hw q hq => ?_⟩
  · rw [hl] at hw
    rw [cutA_all hw] at k
    exact k _ G4 H4 ((x2.trans x3).trans x4) ⟨l, xs, rfl, h, z, p⟩
  · have hg : G4 q = none := x4.gh.free hq
    exact k _ (upd G4 q (.tup (cutV xs lo hi))) _ (((x2.trans x3).trans x4).trans (.new x4.gh hq)) ⟨q, _, rfl, .inl (.inl upd_same), Nat.le_trans (cutV_length _ _ _) z, Paired.imp' (fun _ _ r => Rp.mono (Same.new hg) r) (Paired.cut p lo hi)⟩
end
end L2
set_option Elab.async false
set_option linter.all false
set_option maxRecDepth 100000
set_option maxHeartbeats 4000000
namespace L2
open PySem PySem.Spec PyProof.Rows
section
variable {prog : Program} {w : World} {A : Around} {E : Value → Shared → Prop} {s : Shared}
end
end L2
set_option Elab.async false
set_option linter.all false
set_option maxRecDepth 100000
set_option maxHeartbeats 4000000
namespace L2
open PySem PySem.Spec PyProof.Rows
section
variable {prog : Program} {w : World} {A : Around} {E : Value → Shared → Prop} {s : Shared}
end
end L2
set_option Elab.async false
set_option linter.all false
set_option maxRecDepth 100000
set_option maxHeartbeats 4000000
namespace L2
open PySem PySem.Spec PyProof.Rows
section
variable {prog : Program} {w : World} {A : Around} {E : Value → Shared → Prop} {s : Shared}
end
end L2
set_option Elab.async false
set_option linter.all false
set_option maxRecDepth 100000
set_option maxHeartbeats 4000000
namespace L2
open PySem PySem.Spec PyProof.Rows
section
variable {K : PySem.W.Frag} {σ : St} {G H : Hp} {α β : Type} [Rp α] [Rp β] {ta tb : TE}
end
end L2
set_option Elab.async false
set_option linter.all false
set_option maxRecDepth 100000
set_option maxHeartbeats 4000000
namespace L2
open PySem PySem.Spec PyProof.Rows
section
variable {K : PySem.W.Frag} {σ : St} {G H : Hp} {ta tb te : TE} {rest : TS} {D : Ends} {i : Nat} {v : V} {p : Addr} {vs : List V} {β : Type} [Rp β]
end
end L2
set_option Elab.async false
set_option linter.all false
set_option maxRecDepth 100000
set_option maxHeartbeats 4000000
namespace L2
open PySem PySem.Spec PyProof.Rows
section
variable {K : PySem.W.Frag} {σ : St} {G : Hp} {α : Type} [Rp α] [DecidableEq α] {ta tb : TE} {ma : Option α} {ml : Option (List α)}
end
end L2
set_option Elab.async false
set_option linter.all false
set_option maxRecDepth 100000
set_option maxHeartbeats 4000000
namespace L2
open PySem PySem.Spec PyProof.Rows
section
variable {X : Cx} {es : List Expr} {t : TA} {te : TE} {p : Pos}
end
end L2
set_option Elab.async false
set_option linter.all false
set_option maxRecDepth 100000
set_option maxHeartbeats 4000000
namespace L2
open PySem PySem.Spec PyProof.Rows
noncomputable def siK : SI → Key
  | .s x => .inr x
  | .i n => .inl n
theorem siK_inj : ∀ {a b : SI}, siK a = siK b → a = b
  | .s x, .s y, e => by rw [Sum.inr.inj e]
  | .s _, .i _, e => nomatch e
  | .i _, .s _, e => nomatch e
  | .i m, .i n, e => by rw [Sum.inl.inj e]
theorem keys_inj : ∀ {l m : List SI}, l.map siK = m.map siK → l = m
  | [], [], _ => rfl
  | [], _ :: _, e => nomatch e
  | _ :: _, [], e => nomatch e
  | a :: l, b :: m, e => by
    rw [List.map_cons, List.map_cons] at e
    obtain ⟨h1, h2⟩ := List.cons.inj e
    rw [siK_inj h1, keys_inj h2]
noncomputable def rowK (r : Tp SI) : List Key := r.l.map siK
theorem rowK_inj {a b : Tp SI} (e : rowK a = rowK b) : a = b := by
  cases a
  cases b
  exact congrArg Tp.mk (keys_inj e)
noncomputable def encB : Nat → List (Tp SI) → List (List Key × V)
  | _, [] => []
  | i, r :: rs => (rowK r, .int (i : Int)) :: encB (i + 1) rs
noncomputable def idxB : Nat → List (Tp SI) → Tp SI → Option Int
  | _, [], _ => none
  | i, a :: rs, r => if a = r then some (i : Int) else idxB (i + 1) rs r
theorem val_enc (r : Tp SI) : ∀ (rows : List (Tp SI)) (i : Nat), valV (encB i rows) (rowK r) = (idxB i rows r).map V.int
  | [], _ => rfl
  | a :: rs, i => by
    unfold encB idxB
    by_cases h : a = r
    · rw [if_pos h, valV_pos (by rw [h])]
      rfl
    · rw [if_neg h, valV_neg (fun e => h (rowK_inj e))]
      exact val_enc r rs (i + 1)
theorem encB_len : ∀ (rows : List (Tp SI)) (i : Nat), (encB i rows).length = rows.length
  | [], _ => rfl
  | a :: rs, i => by
    unfold encB
    rw [List.length_cons, List.length_cons, encB_len rs]
theorem encB_app (r : Tp SI) : ∀ (rows : List (Tp SI)) (i : Nat), encB i (rows ++ [r]) = encB i rows ++ [(rowK r, .int ((i + rows.length : Nat) : Int))]
  | [], _ => rfl
  | a :: rs, i => by
    rw [List.cons_append]
    unfold encB
    rw [encB_app r rs (i + 1), List.cons_append, List.length_cons]
    congr 4
    congr 1
    omega
structure Rk where
  l : List SI
noncomputable instance rpRk : Rp Rk := ⟨fun K H v r => ∃ t xs, v = .ref t ∧ H t = some (.tup xs) ∧ xs.length ≤ sizeLine ∧ Paired (Rp.rel K H) xs r.l,
  fun s ⟨t, xs, e, h, z, p⟩ => ⟨t, xs, e, s _ _ h, z, Paired.imp' (fun _ _ r => Rp.mono s r) p⟩⟩
noncomputable def Rk.tp (r : Rk) : Tp SI := ⟨r.l⟩
noncomputable def Rk.of (r : Tp SI) : Rk := ⟨r.l⟩
theorem Rk.rel {K : PySem.W.Frag} {H : Hp} {v : V} {r : Rk} (h : Rp.rel K H v r) : Rp.rel K H v r.tp :=
  let ⟨t, xs, e, h, z, p⟩ := h
  ⟨t, xs, e, SqT.of h, z, p⟩
theorem sis_eq {K : PySem.W.Frag} {H : Hp} : ∀ {xs : List V} {l : List SI}, Paired (Rp.rel K H) xs l → xs = (l.map siK).map kV
  | _, _, .nil => rfl
  | _, _, .cons (b := .s x) h t => by
    rw [List.map_cons, List.map_cons, ← sis_eq t]
    exact congrArg (· :: _) h.1
  | _, _, .cons (b := .i n) h t => by
    rw [List.map_cons, List.map_cons, ← sis_eq t]
    exact congrArg (· :: _) (show _ = V.int n from h)
noncomputable def rownO (rows : List (Tp SI)) (r : Rk) : Option (List (Tp SI) × Int) := match idxB 0 rows r.tp with
  | some n => some (rows, n)
  | none => if rows.length < sizeLine then some (rows ++ [r.tp], (rows.length : Int)) else none
structure OwnB (K : PySem.W.Frag) (G H : Hp) (p q : Addr) (vs : List V) (rows : List (Tp SI)) : Prop where
  l : Own K G H (.ref p) p vs rows
  ne : p ≠ q
  g : G q = none
  h : H q = some (.dT (encB 0 rows))
  t : Paired (Rp.rel K G) vs (rows.map Rk.of)
noncomputable def spB (K : PySem.W.Frag) {α : Type} [Rp α] (m : List (Tp SI) → α → Option (List (Tp SI) × Int)) : Sp := fun vs H Q _ =>
  ∃ G p q v xs rows a r, vs = [.ref p, .ref q, v] ∧ Same G H ∧ OwnB K G H p q xs rows ∧ Rp.rel K G v a ∧ m rows a = some r ∧
    ∀ G2 H2 xs', Ext G (era H [p, q]) G2 H2 → OwnB K G2 H2 p q xs' r.1 → Q (.int r.2) H2
section
variable {K : PySem.W.Frag} {σ : St} {G H G1 H1 G0 H0 : Hp} {D : Ends} {p q l : Addr} {xs : List V} {rows : List (Tp SI)}
theorem spB_len {α : Type} [Rp α] {m : List (Tp SI) → α → Option (List (Tp SI) × Int)} {vs : List V} {Q : VK} {E : XK} (h : spB K m vs H Q E) : vs.length = 3 := by
  obtain ⟨G, p, q, v, xs, rows, a, r, rfl, _⟩ := h
  rfl
theorem OwnB.ext (o : OwnB K G H p q xs rows) (x : Ext G H G1 H1) : OwnB K G1 H1 p q xs rows :=
  ⟨o.l.ext x, o.ne, x.no q o.g (by rw [o.h]; exact fun z => nomatch z), x.hh _ _ o.h, Paired.imp' (fun _ _ r => Rp.mono x.gg r) o.t⟩
theorem OwnB.put {ho : HO} (o : OwnB K G H p q xs rows) (h1 : p ≠ l) (h2 : q ≠ l) : OwnB K G (upd H l ho) p q xs rows :=
  ⟨o.l.put h1, o.ne, o.g, by rw [upd_ne h2]; exact o.h, o.t⟩
theorem rown_body {v : V} {row : Rk} {r : List (Tp SI) × Int} (s : Same G H) (o : OwnB K G H p q xs rows) (rv : Rp.rel K G v row) (hm : rownO rows row = some r)
    (k : ∀ G2 H2 xs', Ext G (era H [p, q]) G2 H2 → OwnB K G2 H2 p q xs' r.1 → D.rt (.int r.2) H2) :
    tSeq (tIfS (tB (tDNotIn (tVar 2) (tVar 1)))
        (tSeq (sDPut (tVar 1) (tVar 2) (tCB (rLen K) (tCons (tVar 0) tNil))) (tSeq (tDrop (tBM K "list" rAppend (tVar 0) (tCons (tVar 2) tNil))) tNext)) tNext)
      (tSeq (tRet (tDGet (tVar 1) (tVar 2))) tNext) D [some (.ref p), some (.ref q), some v] H := by
  obtain ⟨t, ys, rfl, ht, hz, pr⟩ := id rv
  have e1 := sis_eq pr
  have ht' : H t = some (.tup ((rowK row.tp).map kV)) := by
    rw [s _ _ ht, e1]
    rfl
  have hv := val_enc row.tp rows 0
  have b0 := Ext.begin (C := [p, q]) s
  refine ⟨_, rfl, _, rfl, q, _, rfl, DGet.t o.h ht', _, rfl, ?_⟩
  unfold rownO at hm
  cases hi : idxB 0 rows row.tp with
  | some n =>
    rw [hi] at hm hv
    cases hm
    rw [hv]
    refine iteF ?_
    exact ⟨_, rfl, _, rfl, q, .int n, rfl, .inr ⟨_, _, t, .inl o.h, rfl, ht', hv.symm⟩, k G H xs b0 o⟩
  | none =>
    rw [hi] at hm hv
    obtain ⟨hl, e⟩ := ite_some hm
    cases e
    rw [hv]
    refine iteT ?_
    have oh := o.l.h
    have hlen := Paired.length o.l.p
    have npq : p ≠ q := o.ne
    refine ⟨_, rfl, xs, .inl (SqL.of oh), ?_⟩
    refine ⟨_, rfl, _, rfl, q, _, rfl, DPut.t o.h ht' (by rw [encB_len]; exact hl), ?_⟩
    have enc : putK (encB 0 rows) (rowK row.tp) (.int (xs.length : Int)) = encB 0 (rows ++ [row.tp]) := by
      rw [putK_new _ hv, encB_app, Nat.zero_add, hlen]
    rw [enc]
    have hp1 : upd H q (.dT (encB 0 (rows ++ [row.tp]))) p = some (.lst xs) := by
      rw [upd_ne npq]
      exact oh
    refine ⟨_, rfl, .inl ⟨rfl, _, SqL.of hp1⟩, _, rfl, p, xs, .ref t, rfl, rfl, hp1, by omega, ?_⟩
    have tp : t ≠ p := fun z => by
      rw [z, oh] at ht'
      cases ht'
    have tq : t ≠ q := fun z => by
      rw [z, o.h] at ht'
      cases ht'
    have hq2 : upd (upd H q (.dT (encB 0 (rows ++ [row.tp])))) p (.lst (xs ++ [.ref t])) q = some (.dT (encB 0 (rows ++ [row.tp]))) := by
      rw [upd_ne (Ne.symm npq)]
      exact upd_same
    have ht2 : upd (upd H q (.dT (encB 0 (rows ++ [row.tp])))) p (.lst (xs ++ [.ref t])) t = some (.tup ((rowK row.tp).map kV)) := by
      rw [upd_ne tp, upd_ne tq]
      exact ht'
    refine ⟨_, rfl, _, rfl, q, .int (rows.length : Int), rfl, .inr ⟨_, _, t, .inl hq2, rfl, ht2, ?_⟩, ?_⟩
    · rw [encB_app, valV_snoc _ _ _ _ hv, if_pos rfl, Nat.zero_add]
    · refine k G _ (xs ++ [.ref t]) ((b0.put (era_in (by simp)) o.g).put (era_in (by simp)) o.l.g) ⟨⟨rfl, o.l.g, upd_same, ?_, Paired.app o.l.p (.cons (Rk.rel rv) .nil)⟩, npq, o.g, hq2, by rw [List.map_append]; exact Paired.app o.t (.cons rv .nil)⟩
      rw [List.length_append, List.length_singleton]
      omega
noncomputable def sisO : List Nt → Option (List SI)
  | [] => some []
  | .txt x :: r => (sisO r).bind fun l => some (.s x :: l)
  | .tup _ :: _ => none
  | .int _ :: _ => none
theorem sis_rel : ∀ {xs : List V} {l : List Nt} {ks : List SI}, RelNs K G xs l → sisO l = some ks → Paired (Rp.rel K G) xs ks
  | _, _, _, .nil, e => by
    cases e
    exact .nil
  | _, _, _, .cons (.txt x z) t, e => by
    obtain ⟨l', h, e⟩ := Option.bind_eq_some_iff.mp e
    cases e
    exact .cons ⟨rfl, z⟩ (sis_rel t h)
  | _, _, _, .cons (.tup _ _ _ _) t, e => nomatch (show (none : Option (List SI)) = some _ from e)
  | _, _, _, .cons (.int _) t, e => nomatch (show (none : Option (List SI)) = some _ from e)
noncomputable def layF (lay : List (Tp SI) → Nt → Option (List (Tp SI) × Int)) (a : Nt) (s : List (Tp SI) × List SI) : Option (Fl (List (Tp SI) × List SI) Unit) :=
  (lay s.1 a).bind fun z => if s.2.length + 1 ≤ sizeLine then some (.nx (z.1, s.2 ++ [.i z.2])) else none
noncomputable def layE : Fl (List (Tp SI) × List SI) Unit → Option (List (Tp SI) × Int)
  | .nx z => rownO z.1 ⟨z.2⟩
  | _ => none
noncomputable def layO (pm : Nt → Option (Tp Nt)) : Nat → List (Tp SI) → Nt → Option (List (Tp SI) × Int)
  | 0 => fun _ _ => none
  | n + 1 => fun rows a => (asTup a).bind fun t => (atI t.l 0).bind fun b => (asTxt b).bind fun w =>
      cond (decide (w = "lamp")) ((sisO t.l).bind fun l => rownO rows ⟨l⟩)
      ((pm a).bind fun ps => (forO (layF (layO pm n)) ps.l (rows, [.s w])).bind fun z => layE z)
theorem lay_body {pm : Nt → Option (Tp Nt)} {mp : Nt × Unit → Option (Tp Nt)} (hpm : ∀ a, mp (a, ()) = pm a) {n : Nat} {v : V} {a : Nt} {r : List (Tp SI) × Int} (s : Same G H) (o : OwnB K G H p q xs rows) (rv : Rp.rel K G v a) (hm : layO pm (n + 1) rows a = some r)
    (k : ∀ G2 H2 xs', Ext G (era H [p, q]) G2 H2 → OwnB K G2 H2 p q xs' r.1 → D.rt (.int r.2) H2) :
    tSeq (tIfS (tTest (tOp rEq (tOp (rAt K) (tVar 2) (tC (.int 0))) (tC (.str "lamp"))))
        (tSeq (tRet (tCall (spB K rownO) [] E0 (tCons (tVar 0) (tCons (tVar 1) (tCons (tVar 2) tNil))))) tNext) tNext)
      (tSeq (tAsg (tTup (tCons (tOp (rAt K) (tVar 2) (tC (.int 0))) tNil)) (gName 3))
      (tSeq (tFor (iAny K (tCall (spM K mp) [] E0 (tCons (tVar 2) tNil))) (gName 4)
        (tSeq (tAsg (tOp (rCatTp K) (tVar 3) (tTup (tCons (tCall (spB K (layO pm n)) [] E0 (tCons (tVar 0) (tCons (tVar 1) (tCons (tVar 4) tNil)))) tNil))) (gName 3)) tNext))
      (tSeq (tRet (tCall (spB K rownO) [] E0 (tCons (tVar 0) (tCons (tVar 1) (tCons (tVar 3) tNil))))) tNext))) D [some (.ref p), some (.ref q), some v, none, none] H := by
  obtain ⟨t, htu, hm⟩ := Option.bind_eq_some_iff.mp (show _ = some r from hm)
  refine bE hm fun b hb hm => ?_
  refine bE hm fun w hw hm => ?_
  have b0 := Ext.begin (C := [p, q]) s
  have z0 : ∀ b ∈ [p, q], era H [p, q] b = none := fun b hb => era_in hb
  have hd : ((((some a).bind fun d => asTup d).bind fun a => (some (0 : Int)).bind fun i => atI a.l i).bind fun d => asTxt d) = some w := by
    rw [Option.bind_some, htu, Option.bind_some, Option.bind_some, hb, Option.bind_some, hw]
  refine sv_if (tv_test (K := K) (ev_eqS (ev_asTxt (ev_atT (ev_asTup (ev_var rfl rv)) ev_i)) ev_s)) (b := decide (w = "lamp")) (by rw [hd]; rfl) s fun G2 H2 x2 => ?_
  have o2 := o.ext x2
  have rv2 := Rp.mono x2.gg rv
  have xt := b0.trans x2
  by_cases hl : w = "lamp"
  · rw [decide_eq_true hl] at hm ⊢
    have hmL : ((sisO t.l).bind fun l => rownO rows ⟨l⟩) = some r := hm
    obtain ⟨ks, hks, hmK⟩ := Option.bind_eq_some_iff.mp hmL
    refine iteT ?_
    cases rv2 with
    | txt x z => cases htu
    | int n => cases htu
    | @tup ad us ds h z rs hlp =>
      cases htu
      have h0 : ds[0]? = some (.txt "lamp") := by
        have hb' : atI ds 0 = some b := hb
        cases ds with
        | nil => cases hb'
        | cons d ds' =>
          have e0 : ixN (d :: ds').length (0 : Int) = some 0 := by
            unfold ixN
            rw [if_pos (by omega), if_pos (by rw [List.length_cons]; omega)]
            rfl
          have this : atI (d :: ds') (0 : Int) = some d := by
            unfold atI
            rw [e0]
            rfl
          rw [this] at hb'
          have hdb := Option.some.inj hb'
          cases d with
          | txt y =>
            rw [← hdb] at hw
            have hyw : y = w := Option.some.inj hw
            rw [hyw, hl]
            rfl
          | tup _ =>
            rw [← hdb] at hw
            cases hw
          | int _ =>
            rw [← hdb] at hw
            cases hw
      have rk : Rp.rel K G2 (.ref ad) (Rk.mk ks) := ⟨ad, us, rfl, hlp h0, z, sis_rel rs hks⟩
      exact ⟨_, rfl, _, rfl, _, rfl, G2, p, q, _, xs, rows, ⟨ks⟩, r, rfl, x2.gh, o2, rk, hmK, fun G3 H3 xs' y o' => k G3 H3 xs' (xt.past z0 y) o'⟩
  · rw [decide_eq_false hl] at hm ⊢
    replace hm : ((pm a).bind fun ps => (forO (layF (layO pm n)) ps.l (rows, [.s w])).bind fun z => layE z) = some r := hm
    refine bE hm fun ps hps hm => ?_
    refine bE hm fun res hres hm => ?_
    refine iteF ?_
    refine (ev_asTxt (ev_atT (ev_asTup (ev_var rfl rv2)) ev_i)).run (K := K) hd x2.gh fun u G3 H3 x3 r3 => ?_
    refine ⟨by show 1 ≤ sizeLine; decide, fun t3 ht3 => ?_⟩
    have x4 : Ext G3 H3 (upd G3 t3 (.tup [u])) (upd H3 t3 (.tup [u])) := .new x3.gh ht3
    have o4 := (o2.ext x3).ext x4
    have xt := (xt.trans x3).trans x4
    have rv4 := Rp.mono x4.gg (Rp.mono x3.gg rv2)
    have rk : Rp.rel K (upd G3 t3 (.tup [u])) (.ref t3) (Rk.mk [.s w]) := ⟨t3, [u], rfl, upd_same, by show 1 ≤ sizeLine; decide, .cons (show RelSI u (.s w) from r3) .nil⟩
    refine sv_for (K := K) (RR := fun _ _ _ _ => False) (iw_tup (ev_def (m := mp) (av_cons (ev_var rfl rv4) av_nil))) (as := ps.l) (by
      show ((some (a, ())).bind fun a => mp a).bind _ = _
      rw [Option.bind_some, hpm, hps]
      rfl) hres xt.gh fun G5 H5 x5 => ⟨fun s σ' G' H' => ∃ u pt ys, σ' = [some (.ref p), some (.ref q), some v, some u, pt] ∧ Ext G (era H [p, q]) G' H' ∧ Same G5 G' ∧ OwnB K G' H' p q ys s.1 ∧ Rp.rel K G' u (Rk.mk s.2) ∧ s.2 ≠ [], ?_⟩
    refine ⟨⟨_, _, _, rfl, xt.trans x5, Same.refl _, o4.ext x5, Rp.mono x5.gg rk, by simp⟩, ?_, ?_, ?_, fun _ _ _ _ _ h => h.elim⟩
    · rintro s σ' G' H' ⟨u, pt, ys, rfl, x, m, _⟩
      exact ⟨m, x.gh⟩
    · rintro x a' s1 _ G6 H6 fl - ⟨u', pt, ys, rfl, x6, m6, o6, ru, ne6⟩ ra hf D' kN - - -
      obtain ⟨z, hz, hf⟩ := Option.bind_eq_some_iff.mp hf
      obtain ⟨hle, hf⟩ := ite_some hf
      subst hf
      refine ⟨_, rfl, _, rfl, _, rfl, _, rfl, G6, p, q, x, ys, s1.1, a', z, rfl, x6.gh, o6, ra, hz, fun G7 H7 ys' y7 o7 => ?_⟩
      refine ⟨by show 1 ≤ sizeLine; decide, fun t8 ht8 => ?_⟩
      have x8 : Ext G7 H7 (upd G7 t8 (.tup [.int z.2])) (upd H7 t8 (.tup [.int z.2])) := .new y7.gh ht8
      have xt7 := x6.past z0 y7
      obtain ⟨tu, us, rfl, hu, hzu, pu⟩ := Rp.mono x8.gg (Rp.mono y7.gg ru)
      have lu := Paired.length pu
      have lne : us ≠ [] := fun z => ne6 (List.length_eq_zero_iff.mp (by rw [← lu, z]; rfl))
      refine ⟨tu, t8, us, [.int z.2], rfl, rfl, SqT.of (x8.gh _ _ hu), SqT.of upd_same, by rw [lu]; exact hle, (fun z => absurd z lne), (fun z => nomatch z), fun t9 ht9 => ?_⟩
      have x9 : Ext (upd G7 t8 (.tup [.int z.2])) (upd H7 t8 (.tup [.int z.2])) (upd (upd G7 t8 (.tup [.int z.2])) t9 (.tup (us ++ [.int z.2]))) (upd (upd H7 t8 (.tup [.int z.2])) t9 (.tup (us ++ [.int z.2]))) := .new x8.gh ht9
      refine kN (z.1, s1.2 ++ [.i z.2]) _ _ _ rfl ⟨_, _, ys', rfl, (xt7.trans x8).trans x9, m6.trans (y7.gg.trans (x8.gg.trans x9.gg)), (o7.ext x8).ext x9, ⟨t9, us ++ [.int z.2], rfl, upd_same, ?_, ?_⟩, by simp⟩
      · rw [List.length_append, List.length_singleton, lu]
        exact hle
      · exact Paired.app (Paired.imp' (fun _ _ r => Rp.mono x9.gg r) pu) (.cons rfl .nil)
    · rintro s1 _ G6 H6 rfl ⟨u', pt, ys, rfl, x6, m6, o6, ru, ne6⟩
      replace hm : rownO s1.1 ⟨s1.2⟩ = some r := hm
      exact ⟨_, rfl, _, rfl, _, rfl, G6, p, q, _, ys, s1.1, ⟨s1.2⟩, r, rfl, x6.gh, o6, ru, hm, fun G7 H7 xs' y o' => k G7 H7 xs' (x6.past z0 y) o'⟩
noncomputable def booksO (lay : List (Tp SI) → Nt → Option (List (Tp SI) × Int)) : List Nt → List (Tp SI) → Option (List (Tp SI) × List Int)
  | [], rows => some (rows, [])
  | a :: r, rows => (lay rows a).bind fun z => (booksO lay r z.1).bind fun y => some (y.1, z.2 :: y.2)
theorem book_bodyG {β : Type} [Rp β] (f : Tp SI → β) (hf : ∀ {G : Hp} {xs : List V} {rows : List (Tp SI)}, Paired (Rp.rel K G) xs rows → Paired (Rp.rel K G) xs (rows.map Rk.of) → Paired (Rp.rel K G) xs (rows.map f)) {lay : List (Tp SI) → Nt → Option (List (Tp SI) × Int)} {v : V} {as : List Nt} {r : List (Tp SI) × List Int} (s : Same G H) (rv : Rp.rel K G v as) (hm : booksO lay as [] = some r)
    (k : ∀ v p q vs ws G2 H2, Ext G H G2 H2 → H p = none → H q = none → Own2 K G2 H2 v p q vs ws (r.1.map f, r.2) → D.rt v H2) :
    tSeq (tAsg (tLst tNil) (gName 1)) (tSeq (tAsg tDNewT (gName 2))
      (tSeq (tAsg (tComp [1, 2] (iAny K (tVar 0)) tYes (tCall (spB K lay) [] E0 (tCons (tVar 1) (tCons (tVar 2) (tCons (tVar 0) tNil))))) (gName 3))
      (tSeq (tRet (tTup (tCons (tVar 1) (tCons (tVar 3) tNil)))) tNext))) D [some v, none, none, none] H := by
  refine ⟨by show 0 ≤ sizeLine; decide, fun p hp q hq => ?_⟩
  have npq : p ≠ q := fun z => by
    rw [z] at hq
    rw [upd_same] at hq
    cases hq
  have hq0 : H q = none := by rwa [upd_ne (Ne.symm npq)] at hq
  have x1 : Ext G H G (upd (upd H p (.lst [])) q (.dT [])) := ((Ext.refl s).put hp (s.free hp)).put hq0 (s.free hq0)
  have o1 : OwnB K G (upd (upd H p (.lst [])) q (.dT [])) p q [] [] := ⟨⟨rfl, s.free hp, by rw [upd_ne npq]; exact upd_same, Nat.zero_le _, .nil⟩, npq, s.free hq0, upd_same, .nil⟩
  dsimp only [gName, tSeq, tAsg, List.set]
  show tComp [1, 2] (iAny K (tVar 0)) tYes (tCall (spB K lay) [] E0 (tCons (tVar 1) (tCons (tVar 2) (tCons (tVar 0) tNil)))) [some v, some (.ref p), some (.ref q), none] (upd (upd H p (.lst [])) q (.dT [])) _
  refine (show IW K (iAny K (tVar 0)) [some v, some (.ref p), some (.ref q), none] G (some as) from iw_list (ev_var rfl rv)) G (.refl G) as rfl _ x1.gh _ fun J vs Ga Ha xa Y hz pr => ?_
  intro l hl
  have oa := o1.ext xa
  have xt := x1.trans xa
  have nlp : p ≠ l := fun z => by
    rw [← z, oa.l.h] at hl
    cases hl
  have nlq : q ≠ l := fun z => by
    rw [← z, oa.h] at hl
    cases hl
  have hl0 : H l = none := xt.hh.free hl
  have hla := Paired.length pr
  have zpq : ∀ b ∈ [p, q], H b = none := fun b hb => by
    rcases List.mem_cons.mp hb with e | hb
    · rw [e]; exact hp
    · rw [List.mem_singleton.mp hb]; exact hq0
  refine ⟨fun i m ys H2 => m = vs.length - i ∧ i ≤ vs.length ∧ ∃ G2 xs rows ns cs, Ext G H G2 H2 ∧ Same Ga G2 ∧ OwnB K G2 H2 p q xs rows ∧ G2 l = none ∧ H2 l = some (.lst ys) ∧ ys = ns.map V.int ∧ ys.length ≤ i ∧ booksO lay (as.drop i) rows = some (r.1, cs) ∧ r.2 = ns ++ cs,
    ⟨vs.length, by simp, Nat.zero_le _, Ga, [], [], [], r.2, xt.trans (.own xa.gh hl), Same.refl _, oa.put nlp nlq, xa.gh.free hl, upd_same, rfl, Nat.le_refl _, hm, rfl⟩, ?_⟩
  rintro i m ys H2 ⟨rfl, hi, G2, xs, rows, ns, cs, x2, m2, o2, hg, hh, hys, hy, hcs, hr⟩
  by_cases hlt : i < vs.length
  · refine .inr ⟨Y.go i _ (m2.trans x2.gh) hlt, fun ys' H' => ∃ G2 xs rows ns cs, Ext G H G2 H' ∧ Same Ga G2 ∧ OwnB K G2 H' p q xs rows ∧ G2 l = none ∧ H' l = some (.lst ys') ∧ ys' = ns.map V.int ∧ ys'.length ≤ i + 1 ∧ booksO lay (as.drop (i + 1)) rows = some (r.1, cs) ∧ r.2 = ns ++ cs,
      fun ys' H' h => ⟨vs.length - (i + 1), by omega, rfl, hlt, h⟩, fun x H3 y => ?_⟩
    obtain ⟨rfl, hx⟩ := Y.yld i _ x H3 (m2.trans x2.gh) hlt y
    obtain ⟨a, hai, ra⟩ := Paired.getR pr hx
    have hd : as.drop i = a :: as.drop (i + 1) := by
      obtain ⟨h1, h2⟩ := List.getElem?_eq_some_iff.mp hai
      rw [List.drop_eq_getElem_cons h1, h2]
    rw [hd] at hcs
    obtain ⟨z, hz', hcs⟩ := Option.bind_eq_some_iff.mp (show ((lay rows a).bind fun z => _) = some _ from hcs)
    obtain ⟨y', hy', hcs⟩ := Option.bind_eq_some_iff.mp hcs
    obtain ⟨e1, e2⟩ := Prod.mk.inj (Option.some.inj hcs)
    subst e2
    have hy2 : booksO lay (as.drop (i + 1)) z.1 = some (r.1, y'.2) := by rw [hy', ← e1]
    dsimp only [tYes]
    rw [if_pos rfl]
    refine ⟨_, rfl, _, rfl, _, rfl, G2, p, q, x, xs, rows, a, z, rfl, x2.gh, o2, Rp.mono m2 ra, hz', fun G4 H4 xs' y4 o4 => ?_⟩
    have nin : l ∉ [p, q] := fun hb => by
      rcases List.mem_cons.mp hb with e | hb
      · exact nlp e.symm
      · exact nlq (List.mem_singleton.mp hb).symm
    have e2 : era H3 [p, q] l = some (.lst ys) := by rw [era_out nin]; exact hh
    have hh4 := y4.hh _ _ e2
    have hg4 := y4.no l hg (by rw [e2]; exact fun z => nomatch z)
    have xt4 := x2.past zpq y4
    refine ⟨hh4, by omega, G4, xs', z.1, ns ++ [z.2], y'.2, xt4.put hl0 hg4, m2.trans y4.gg, o4.put nlp nlq, hg4, upd_same, by rw [hys, List.map_append]; rfl, ?_, hy2, by rw [hr, List.append_assoc]; rfl⟩
    rw [List.length_append, List.length_singleton]
    omega
  · have e : i = vs.length := by omega
    subst e
    have hd : as.drop vs.length = [] := List.drop_eq_nil_of_le (by omega)
    rw [hd] at hcs
    obtain ⟨e1, e2⟩ := Prod.mk.inj (Option.some.inj (show some (rows, ([] : List Int)) = some (r.1, cs) from hcs))
    rw [← e2, List.append_nil] at hr
    refine .inl ⟨Y.stop _ (m2.trans x2.gh), ?_⟩
    have ol : Own K G2 H2 (.ref l) l ys r.2 := ⟨rfl, hg, hh, by omega, by
      rw [hys, hr]
      clear hys hr hy hh e2
      induction ns with
      | nil => exact .nil
      | cons a t ih => exact .cons rfl ih⟩
    refine sv_retO2 (K := K) (rest := tNext) rfl rfl (by rw [← e1]; exact ⟨o2.l.v, o2.l.g, o2.l.h, o2.l.z, hf o2.l.p o2.t⟩ : Own K G2 H2 (.ref p) p xs (r.1.map f)) ol nlp x2.gh fun v G5 H5 x5 o5 => ?_
    exact k v p l xs ys G5 H5 (x2.trans x5) hp hl0 o5
noncomputable def booksR (lay : List (Tp SI) → Nt → Option (List (Tp SI) × Int)) (as : List Nt) : Option (List Rk × List Int) := (booksO lay as []).bind fun r => some (r.1.map Rk.of, r.2)
theorem book_bodyR {lay : List (Tp SI) → Nt → Option (List (Tp SI) × Int)} {v : V} {as : List Nt} {r : List Rk × List Int} (s : Same G H) (rv : Rp.rel K G v as) (hm : booksR lay as = some r)
    (k : ∀ v p q vs ws G2 H2, Ext G H G2 H2 → H p = none → H q = none → Own2 K G2 H2 v p q vs ws r → D.rt v H2) :
    tSeq (tAsg (tLst tNil) (gName 1)) (tSeq (tAsg tDNewT (gName 2))
      (tSeq (tAsg (tComp [1, 2] (iAny K (tVar 0)) tYes (tCall (spB K lay) [] E0 (tCons (tVar 1) (tCons (tVar 2) (tCons (tVar 0) tNil))))) (gName 3))
      (tSeq (tRet (tTup (tCons (tVar 1) (tCons (tVar 3) tNil)))) tNext))) D [some v, none, none, none] H := by
  obtain ⟨r0, h0, e⟩ := Option.bind_eq_some_iff.mp hm
  cases e
  exact book_bodyG Rk.of (fun _ h => h) s rv h0 k
end
section
variable {K : PySem.W.Frag} {σ : St} {G H : Hp} {α B A : Type} [Rp α] [Rp B] [RpA A] {rest : TS} {D : Ends} {i : Nat} {as : List α} {v : V} {p : Addr} {vs : List V}
end
end L2
set_option Elab.async false
set_option linter.all false
set_option maxRecDepth 100000
set_option maxHeartbeats 4000000
namespace L2
open PySem PySem.Spec PyProof.Rows
section
variable {K : PySem.W.Frag} {σ : St} {G : Hp} {α : Type} [Rp α] {ta : TE}
end
end L2
set_option Elab.async false
set_option linter.all false
set_option maxRecDepth 100000
set_option maxHeartbeats 4000000
namespace L2
open PySem PySem.Spec PyProof.Rows
section
variable {prog : Program} {w : World} {A : Around} {E : Value → Shared → Prop} {s : Shared}
end
section
variable {K : PySem.W.Frag} {σ : St} {G : Hp} {α : Type} [Rp α] {ta tb : TE}
end
section
variable {prog : Program} {w : World} {A : Around} {E : Value → Shared → Prop} {s : Shared}
end
section
variable {K : PySem.W.Frag} {σ : St} {G : Hp} {α : Type} [Rp α] {ta tb : TE}
end
section
variable {K : PySem.W.Frag} {σ : St} {G : Hp} {ta tb : TE}
end
end L2
set_option Elab.async false
set_option linter.all false
set_option maxRecDepth 100000
set_option maxHeartbeats 4000000
namespace L2
open PySem PySem.Spec PyProof.Rows
theorem Rk.eq {a b : Rk} (e : a.tp = b.tp) : a = b := by
  cases a
  cases b
  cases e
  rfl
noncomputable instance rkDec : DecidableEq Rk := fun a b => if h : a.l = b.l then .isTrue (by cases a; cases b; cases h; rfl) else .isFalse fun e => h (by rw [e])
theorem EqTy.pull {K : PySem.W.Frag} {k : Nat} {α β : Type} [DecidableEq α] [DecidableEq β] {R : Hp → V → β → Prop} (f : α → β) (inj : ∀ a b, f a = f b → a = b) (E : EqTy K k R) : EqTy K k (fun H v a => R H v (f a)) := by
  have d : ∀ a b : α, decide (f a = f b) = decide (a = b) := fun a b => decide_eq_decide.mpr ⟨inj a b, fun e => by rw [e]⟩
  refine ⟨fun hK I a b => inj _ _ (E.fn hK I a b), ?_, ?_⟩
  · intro X pins σ H s x y u v a b A hK I hu r1 r2 h1 h2
    rw [← d]
    exact E.eq A hK I hu r1 r2 h1 h2
  · intro X pins σ H s x y u v a b A hK I hu r1 r2 h1 h2
    rw [← d]
    exact E.rc A hK I hu r1 r2 h1 h2
noncomputable instance reRk : RpE Rk := ⟨1, fun K => ((eqTp (K := K) (eqSI (K := K))).pull Rk.tp fun _ _ => Rk.eq).imp fun _ _ _ ⟨l, xs, e, h, _, p⟩ => ⟨l, xs, e, SqT.of h, p⟩⟩
theorem sis_keep {K : PySem.W.Frag} {H H' : Hp} : ∀ {xs : List V} {l : List SI}, Paired (Rp.rel K H) xs l → Paired (Rp.rel K H') xs l
  | _, _, .nil => .nil
  | _, _, .cons (b := .s x) h t => .cons h (sis_keep t)
  | _, _, .cons (b := .i n) h t => .cons h (sis_keep t)
noncomputable instance imRk : Imm Rk := ⟨fun s ⟨t, xs, e, h, z, p⟩ => ⟨t, xs, e, s.eq _ _ h, z, sis_keep p⟩⟩
noncomputable def siN : SI → Nt
  | .s x => .txt x
  | .i n => .int n
theorem siN_rel {K : PySem.W.Frag} {H : Hp} {v : V} : ∀ {a : SI}, Rp.rel K H v a → Rp.rel K H v (siN a)
  | .s x, ⟨e, z⟩ => by subst e; exact .txt x z
  | .i n, e => by
    have e : v = .int n := e
    subst e
    exact .int n
theorem siNs_rel {K : PySem.W.Frag} {H : Hp} : ∀ {xs : List V} {l : List SI}, Paired (Rp.rel K H) xs l → Paired (Rp.rel K H) xs (l.map siN)
  | _, _, .nil => .nil
  | _, _, .cons h t => .cons (siN_rel h) (siNs_rel t)
noncomputable instance tdSI : ToD SI := ⟨fun a => ToD.to (siN a), fun h => ToD.rel (siN_rel h)⟩
noncomputable def Rk.nt (r : Rk) : Nt := .tup (r.l.map siN)
section
variable {K : PySem.W.Frag} {σ : St} {G : Hp} {te ta tb : TE}
theorem ev_rkT {m : Option Rk} (e : EV K te σ G m) : EV K te σ G (m.bind fun r => some r.tp) := by
  intro G1 s1 c hc H sH Q k
  obtain ⟨x, hx, hc⟩ := Option.bind_eq_some_iff.mp hc
  cases hc
  exact e G1 s1 x hx H sH Q fun v G2 H2 x2 r => k v G2 H2 x2 (Rk.rel r)
theorem ev_rkN {m : Option Rk} (e : EV K te σ G m) : EV K te σ G (m.bind fun r => some r.nt) := by
  intro G1 s1 c hc H sH Q k
  obtain ⟨x, hx, hc⟩ := Option.bind_eq_some_iff.mp hc
  cases hc
  exact e G1 s1 x hx H sH Q fun v G2 H2 x2 ⟨t, xs, e, h, z, p⟩ => k v G2 H2 x2 (by subst e; exact .tup (SqT.of h) z (relNs_of (siNs_rel p)) fun _ => h)
theorem ev_tupRk {t : TA} {n : Nat} {ml : Option (List SI)} (e : LV K t σ G n ml) (z : n ≤ sizeLine := by decide) : EV K (tTup t) σ G (ml.bind fun l => some (Rk.mk l)) :=
  fun G1 s1 c hc H sH Q k => by
    obtain ⟨l, hl, hc⟩ := Option.bind_eq_some_iff.mp hc
    cases hc
    refine e G1 s1 l hl H sH _ fun vs G2 H2 x2 hl hp => ⟨by omega, fun p h => ?_⟩
    exact k _ _ _ (x2.trans (.new x2.gh h)) ⟨p, vs, rfl, upd_same, by omega, Paired.imp' (fun _ _ r => Rp.mono (Same.new (x2.gh.free h)) r) hp⟩
end
end L2
set_option Elab.async false
set_option linter.all false
set_option maxRecDepth 100000
set_option maxHeartbeats 4000000
namespace L2
open PySem PySem.Spec PyProof.Rows
section
variable {K : PySem.W.Frag} {σ : St} {G : Hp} {te ta : TE}
end
end L2
set_option Elab.async false
set_option linter.all false
set_option maxRecDepth 100000
set_option maxHeartbeats 4000000
namespace L2
open PySem PySem.Spec PyProof.Rows
noncomputable instance rtRk : RpT Rk := ⟨"tuple", fun h => by obtain ⟨l, xs, rfl, h, _⟩ := h; exact .tup (SqT.of h)⟩
end L2
set_option Elab.async false
set_option linter.all false
set_option maxRecDepth 100000
set_option maxHeartbeats 4000000
namespace L2
open PySem PySem.Spec PyProof.Rows
section
variable {K : PySem.W.Frag} {σ : St} {G H : Hp} {α : Type} [Rp α] {tk : TE} {rest : TS} {D : Ends} {i : Nat} {b : Tp α} {as as' : List α} {v : V} {p : Addr} {vs : List V}
end
end L2
set_option Elab.async false
set_option linter.all false
set_option maxRecDepth 100000
namespace L2
open PySem PySem.Spec PyProof.Rows
section
variable {κ : PyProof.Rows.KeyKind}
noncomputable def ky (κ : PyProof.Rows.KeyKind) (p : Keyed) : κ.α := (κ.keyOf p.1).getD κ.dflt
variable {prog : Program} {w : World} {A : Around} {E : Value → Shared → Prop} {s : Shared}
end
end L2
set_option Elab.async false
set_option linter.all false
set_option maxRecDepth 100000
namespace L2
open PySem PySem.Spec PyProof.Rows
section
variable {κ : PyProof.Rows.KeyKind}
noncomputable def kl (κ : PyProof.Rows.KeyKind) (x y : Keyed) : Prop := κ.kle (ky κ x) (ky κ y)
end
end L2
set_option Elab.async false
set_option linter.all false
set_option maxRecDepth 100000
namespace L2
open PySem PySem.Spec PyProof.Rows
noncomputable def sg (st : SortSt) (g : Nat) : SortSt := SortSt.mk' (kindOf st) (arrOf st) (pendingOf st) g (failedOf st)
section
variable {κ : PyProof.Rows.KeyKind} {prog : Program} {w : World} {A : Around} {E : Value → Shared → Prop} {s : Shared}
variable {a b out : Array Keyed} {ia ib : Nat}
end
end L2
set_option Elab.async false
set_option linter.all false
set_option maxRecDepth 100000
set_option maxHeartbeats 2000000
namespace L2
open PySem PySem.Spec PyProof.Rows
section
variable {κ : PyProof.Rows.KeyKind} {prog : Program} {w : World} {A : Around} {E : Value → Shared → Prop} {s : Shared}
end
end L2
set_option Elab.async false
set_option linter.all false
set_option maxRecDepth 100000
set_option maxHeartbeats 2000000
namespace L2
open PySem PySem.Spec PyProof.Rows
section
variable {κ : PyProof.Rows.KeyKind} {prog : Program} {w : World} {A : Around} {E : Value → Shared → Prop} {s : Shared}
variable {a b out : Array Keyed}
end
end L2
set_option Elab.async false
set_option linter.all false
set_option maxRecDepth 100000
set_option maxHeartbeats 2000000
namespace L2
open PySem PySem.Spec PyProof.Rows
section
variable {κ : PyProof.Rows.KeyKind} {prog : Program} {w : World} {A : Around} {E : Value → Shared → Prop} {s : Shared}
end
end L2
set_option Elab.async false
set_option linter.all false
set_option maxRecDepth 100000
set_option maxHeartbeats 2000000
namespace L2
open PySem PySem.Spec PyProof.Rows
section
variable {κ : PyProof.Rows.KeyKind} {prog : Program} {w : World} {A : Around} {E : Value → Shared → Prop} {s : Shared}
end
end L2
set_option Elab.async false
set_option linter.all false
set_option maxRecDepth 100000
set_option maxHeartbeats 2000000
namespace L2
open PySem PySem.Spec PyProof.Rows
section
variable {κ : PyProof.Rows.KeyKind} {prog : Program} {w : World} {A : Around} {E : Value → Shared → Prop} {s : Shared}
end
end L2
set_option Elab.async false
set_option linter.all false
set_option maxRecDepth 100000
set_option maxHeartbeats 2000000
namespace L2
open PySem PySem.Spec PyProof.Rows
section
variable {κ : PyProof.Rows.KeyKind} {prog : Program} {w : World} {A : Around} {E : Value → Shared → Prop} {s : Shared}
end
end L2
set_option Elab.async false
set_option linter.all false
set_option maxRecDepth 100000
set_option maxHeartbeats 2000000
namespace L2
open PySem PySem.Spec PyProof.Rows
section
variable {κ : PyProof.Rows.KeyKind} {prog : Program} {w : World} {A : Around} {E : Value → Shared → Prop} {s : Shared}
end
end L2
set_option Elab.async false
set_option linter.all false
set_option maxRecDepth 100000
set_option maxHeartbeats 2000000
namespace L2
open PySem PySem.Spec PyProof.Rows
section
variable {κ : PyProof.Rows.KeyKind} {prog : Program} {w : World} {A : Around} {E : Value → Shared → Prop} {s : Shared}
noncomputable abbrev mk (X : Array Keyed) (p : Array (Nat × Nat × Nat)) (g : Nat) : SortSt := SortSt.mk' oneType' X p g none
end
end L2
set_option Elab.async false
set_option linter.all false
set_option maxRecDepth 100000
set_option maxHeartbeats 2000000
namespace L2
open PySem PySem.Spec PyProof.Rows
section
variable {κ : PyProof.Rows.KeyKind} {prog : Program} {w : World} {A : Around} {E : Value → Shared → Prop} {s : Shared}
end
end L2
set_option Elab.async false
set_option linter.all false
set_option maxRecDepth 100000
set_option maxHeartbeats 2000000
namespace L2
open PySem PySem.Spec PyProof.Rows
section
variable {κ : PyProof.Rows.KeyKind} {prog : Program} {w : World} {A : Around} {E : Value → Shared → Prop} {s : Shared}
end
end L2
set_option Elab.async false
set_option linter.all false
set_option maxRecDepth 100000
set_option maxHeartbeats 4000000
namespace L2
open PySem PySem.Spec PyProof.Rows
section
variable {K : PySem.W.Frag} {σ : St} {G : Hp} {ta : TE}
end
end L2
set_option Elab.async false
set_option linter.all false
set_option maxRecDepth 100000
set_option maxHeartbeats 4000000
namespace L2
open PySem PySem.Spec PyProof.Rows
section
variable {prog : Program} {w : World} {A : Around} {E : Value → Shared → Prop} {s : Shared} {a : Addr}
end
section
variable {K : PySem.W.Frag} {σ : St} {G : Hp} {ta tb : TE} {w : World}
end
end L2
set_option Elab.async false
set_option linter.all false
set_option maxRecDepth 100000
set_option maxHeartbeats 4000000
namespace L2
open PySem PySem.Spec PyProof.Rows
section
variable {K : PySem.W.Frag} {σ : St} {G : Hp} {ta : TE} {w : World}
end
structure MpR (α : Type) where
  l : List (Rk × α)
noncomputable def RelR (K : PySem.W.Frag) {α : Type} [Rp α] (H : Hp) (kv : List Key × V) (q : Rk × α) : Prop := kv.1 = rowK q.1.tp ∧ Rp.rel K H kv.2 q.2
noncomputable instance rpMpR {α : Type} [Rp α] : Rp (MpR α) := ⟨fun K H v a => ∃ p kvs, v = .ref p ∧ H p = some (.dT kvs) ∧ Paired (RelR K H) kvs a.l,
  fun s ⟨p, kvs, e, h, pr⟩ => ⟨p, kvs, e, s _ _ h, Paired.imp' (fun _ _ r => ⟨r.1, Rp.mono s r.2⟩) pr⟩⟩
section
variable {K : PySem.W.Frag} {σ : St} {G H G1 H1 G0 H0 : Hp} {α β : Type} [Rp α] [Rp β] {td te ti : TE} {rest : TS} {D : Ends} {i : Nat} {a : MpR α} {v : V} {p q : Addr} {kvs : List (List Key × V)}
end
section
variable {X : Cx} {i o : Expr} {ty td : TE} {pos : Pos}
end
end L2
set_option Elab.async false
set_option linter.all false
set_option maxRecDepth 100000
set_option maxHeartbeats 4000000
namespace L2
open PySem PySem.Spec PyProof.Rows
noncomputable def spYL (K : PySem.W.Frag) {A : Type} [RpA A] {α β : Type} [Rp α] [Rp β] (m : List α → A → Option (List α × β)) : Sp := fun vs H Q _ =>
  ∃ G p xs us as a r, vs = us ++ [.ref p] ∧ Same G H ∧ Own K G H (.ref p) p xs as ∧ RpA.rel K G us a ∧ m as a = some r ∧
    ∀ w G2 H2 xs', Ext G (era H [p]) G2 H2 → Own K G2 H2 (.ref p) p xs' r.1 → Rp.rel K G2 w r.2 → Q w H2
section
variable {K : PySem.W.Frag} {σ : St} {G H : Hp} {α β γ δ : Type} [Rp α] [Rp β] [Rp γ] [Rp δ] {rest : TS} {D : Ends} {i j : Nat} {v : V} {p : Addr} {vs : List V} {as : List α} {t1 t2 : TE} {ta : TA}
theorem spYL_len {A : Type} [RpA A] {m : List α → A → Option (List α × β)} {vs : List V} {Q : VK} {E : XK} (h : spYL K m vs H Q E) : vs.length = RpA.n A + 1 := by
  obtain ⟨G, p, xs, us, as, a, r, rfl, _, _, h, _⟩ := h
  rw [List.length_append, RpA.len h]
  rfl
theorem sv_setY2 {m1 : Option γ} {m2 : Option δ} {c1 : γ} {c2 : δ} {m : List α → γ × δ × Unit → Option (List α × β)} {r : List α × β} (hσ : σ[i]? = some (some v)) (o : Own K G H v p vs as) (e1 : EV K t1 σ G m1) (h1 : m1 = some c1) (e2 : EV K t2 σ G m2) (h2 : m2 = some c2) (hm : m as (c1, c2, ()) = some r) (s : Same G H)
    (k : ∀ w G1 H1 G2 H2 vs', Ext G H G1 H1 → Ext G1 (era H1 [p]) G2 H2 → Own K G2 H2 v p vs' r.1 → Rp.rel K G2 w r.2 → rest D (σ.set j (some w)) H2) : tSeq (tAsg (tCall (spYL K m) [] E0 (tCons t1 (tCons t2 (tCons (tVar i) tNil)))) (gName j)) rest D σ H := by
  have ov := o.v
  subst ov
  refine e1 G (.refl G) c1 h1 H s _ fun v1 G1 H1 x1 r1 => ?_
  refine e2 G1 x1.gg c2 h2 H1 x1.gh _ fun v2 G2 H2 x2 r2 => ?_
  refine ⟨_, hσ, ?_⟩
  exact ⟨G2, p, vs, [v1, v2], as, (c1, c2, ()), r, rfl, x2.gh, (o.ext x1).ext x2, ⟨v1, _, rfl, Rp.mono x2.gg r1, v2, _, rfl, r2, rfl⟩, hm, fun w G3 H3 xs' y o' rw_ => k w G2 H2 G3 H3 xs' (x1.trans x2) y o' rw_⟩
end
end L2
set_option Elab.async false
set_option linter.all false
set_option maxRecDepth 100000
set_option maxHeartbeats 4000000
namespace L2
open PySem PySem.Spec PyProof.Rows
section
variable (nf : Rk → List Rk → Int → Option (Option Int)) (rows : List Rk)
end
theorem rown_pre {L L2 : List (Tp SI)} {row : Rk} {j : Int} (h : rownO L row = some (L2, j)) : L <+: L2 := by
  unfold rownO at h
  split at h
  · cases h
    exact List.prefix_refl _
  · obtain ⟨_, h⟩ := ite_some h
    cases h
    exact List.prefix_append _ _
theorem layF_pre {lay : List (Tp SI) → Nt → Option (List (Tp SI) × Int)} (hl : ∀ L a L2 j, lay L a = some (L2, j) → L <+: L2) : ∀ (ps : List Nt) (s : List (Tp SI) × List SI) (z : List (Tp SI) × List SI), forO (layF lay) ps s = some (.nx z) → s.1 <+: z.1
  | [], s, z, h => by
    cases h
    exact List.prefix_refl _
  | a :: ps, s, z, h => by
    unfold forO at h
    obtain ⟨fl, e, h⟩ := Option.bind_eq_some_iff.mp h
    obtain ⟨⟨L2, j⟩, e1, e⟩ := Option.bind_eq_some_iff.mp (show ((lay s.1 a).bind _) = some fl from e)
    obtain ⟨_, e⟩ := ite_some e
    cases e
    exact (hl _ _ _ _ e1).trans (layF_pre hl ps _ z h)
theorem layO_pre (pm : Nt → Option (Tp Nt)) : ∀ (n : Nat) (L : List (Tp SI)) (a : Nt) (L2 : List (Tp SI)) (j : Int), layO pm n L a = some (L2, j) → L <+: L2
  | 0, _, _, _, _, h => nomatch (show (none : Option (List (Tp SI) × Int)) = some _ from h)
  | n + 1, L, a, L2, j, h => by
    obtain ⟨t, _, h⟩ := Option.bind_eq_some_iff.mp (show _ = some (L2, j) from h)
    obtain ⟨b, _, h⟩ := Option.bind_eq_some_iff.mp h
    obtain ⟨w, _, h⟩ := Option.bind_eq_some_iff.mp h
    cases hw : decide (w = "lamp") with
    | true =>
      rw [hw] at h
      obtain ⟨l, _, h⟩ := Option.bind_eq_some_iff.mp (show ((sisO t.l).bind fun l => rownO L ⟨l⟩) = some (L2, j) from h)
      exact rown_pre h
    | false =>
      rw [hw] at h
      obtain ⟨ps, _, h⟩ := Option.bind_eq_some_iff.mp (show ((pm a).bind fun ps => (forO (layF (layO pm n)) ps.l (L, [.s w])).bind fun z => layE z) = some (L2, j) from h)
      obtain ⟨fl, e, h⟩ := Option.bind_eq_some_iff.mp h
      match fl, e, h with
      | .nx z, e, h => exact (layF_pre (layO_pre pm n) _ _ z e).trans (rown_pre h)
      | .bk _, _, h => exact nomatch (show (none : Option (List (Tp SI) × Int)) = some _ from h)
      | .rt _, _, h => exact nomatch (show (none : Option (List (Tp SI) × Int)) = some _ from h)
end L2
set_option Elab.async false
set_option linter.all false
set_option maxRecDepth 100000
set_option maxHeartbeats 4000000
namespace L2
open PySem PySem.Spec PyProof.Rows
class RpC (γ : Type) [Rp γ] where
  P : PySem.W.Frag → Hp → HO → γ → Prop
  mono : ∀ {K : PySem.W.Frag} {G G' : Hp} {ho : HO} {a : γ}, Same G G' → P K G ho a → P K G' ho a
  rel : ∀ {K : PySem.W.Frag} {G : Hp} {ho : HO} {a : γ} {q : Addr}, P K G ho a → G q = some ho → Rp.rel K G (.ref q) a
noncomputable instance rcList {α : Type} [Rp α] : RpC (List α) :=
  ⟨fun K G ho as => ∃ vs, ho = .lst vs ∧ vs.length ≤ sizeLine ∧ Paired (Rp.rel K G) vs as, fun s ⟨vs, e, z, p⟩ => ⟨vs, e, z, Paired.imp' (fun _ _ r => Rp.mono s r) p⟩,
   fun ⟨vs, e, z, p⟩ h => ⟨_, vs, rfl, .inl (by rw [h, e]), z, p⟩⟩
noncomputable instance rcMp {α : Type} [Rp α] : RpC (Mp α) :=
  ⟨fun K G ho a => ∃ kvs, ho = .dK kvs ∧ Paired (RelE K G) kvs a.l, fun s ⟨vs, e, p⟩ => ⟨vs, e, Paired.imp' (fun _ _ r => ⟨r.1, Rp.mono s r.2⟩) p⟩,
   fun ⟨vs, e, p⟩ h => ⟨_, vs, rfl, by rw [h, e], p⟩⟩
section
variable {K : PySem.W.Frag} {σ : St} {G H G1 H1 G0 H0 : Hp} {γ α β : Type} [Rp γ] [RpC γ] [Rp α] [Rp β] {t1 t2 te ti tk : TE} {rest : TS} {D : Ends} {i : Nat} {v : V} {p : Addr} {cs : List (Option Addr)} {as : List (Option γ)}
end
section
variable {K : PySem.W.Frag} {σ : St} {G H G1 H1 G0 H0 : Hp} {γ α β : Type} [Rp γ] [RpC γ] [Rp α] [Rp β] {t1 t2 te ti tk : TE} {rest : TS} {D : Ends} {i : Nat} {v : V} {p : Addr} {cs : List (Option Addr)}
end
section
variable {K : PySem.W.Frag} {σ : St} {G H : Hp} {α : Type} [Rp α] {tk te ti td : TE} {rest : TS} {D : Ends} {i : Nat}
end
end L2
set_option Elab.async false
set_option linter.all false
set_option maxRecDepth 100000
set_option maxHeartbeats 4000000
namespace L2
open PySem PySem.Spec PyProof.Rows
section
variable {K : PySem.W.Frag} {σ : St} {G H : Hp} {α : Type} [Rp α] {te : TE} {rest : TS} {D : Ends} {i : Nat}
end
end L2
set_option Elab.async false
set_option linter.all false
set_option maxRecDepth 100000
set_option maxHeartbeats 4000000
namespace L2
open PySem PySem.Spec PyProof.Rows
section
variable {K : PySem.W.Frag} {σ : St} {G : Hp} {ta : TE} {w : World}
end
section
variable {K : PySem.W.Frag} {σ : St} {G : Hp} {ta : TE}
end
end L2
set_option Elab.async false
set_option linter.all false
set_option maxRecDepth 100000
set_option maxHeartbeats 4000000
namespace L2
open PySem PySem.Spec PyProof.Rows
end L2
set_option Elab.async false
set_option linter.all false
set_option maxRecDepth 100000
set_option maxHeartbeats 4000000
namespace L2
open PySem PySem.Spec PyProof.Rows
section
variable {X : Cx}
end
section
variable {K : PySem.W.Frag} {σ : St} {G : Hp} {α β γ δ : Type} [Rp α] [Rp β] [Rp γ] [Rp δ]
end
section
variable {K : PySem.W.Frag} {σ : St} {G H : Hp} {α β γ δ : Type} [Rp α] [Rp β] [Rp γ] [Rp δ] {te : TE} {rest : TS} {D : Ends} {i : Nat} {p : Addr} {vs : List V}
end
end L2
set_option Elab.async false
set_option linter.all false
set_option maxRecDepth 100000
set_option maxHeartbeats 4000000
namespace L2
open PySem PySem.Spec PyProof.Rows
section
variable {K : PySem.W.Frag} {σ : St} {G H : Hp} {α : Type} [Rp α] {tk te tk1 te1 tk2 te2 ti td tz : TE} {rest : TS} {D : Ends} {i : Nat}
end
section
variable {K : PySem.W.Frag} {σ : St} {G H : Hp} {α γ δ ε ζ : Type} [Rp α] [Rp γ] [Rp δ] [Rp ε] [Rp ζ] {te : TE} {rest : TS} {D : Ends} {i : Nat} {p : Addr} {vs : List V}
end
end L2
set_option Elab.async false
set_option linter.all false
set_option maxRecDepth 100000
set_option maxHeartbeats 4000000
namespace L2
open PySem PySem.Spec PyProof.Rows
section
variable {K : PySem.W.Frag} {σ : St} {G H : Hp} {α : Type} [Rp α] {te ti ta : TE} {rest : TS} {D : Ends} {i : Nat} {v : V} {p : Addr} {vs : List V} {as : List α} {w : World}
noncomputable instance tdOpt {α : Type} [Rp α] [ToD α] : ToD (Option α) := ⟨fun a => match a with | none => .non | some a => ToD.to a, fun {K H v a} h => by
  cases a with
  | none => cases h; exact .non
  | some a => exact ToD.rel (α := α) h⟩
end
end L2
set_option Elab.async false
set_option linter.all false
set_option maxRecDepth 100000
set_option maxHeartbeats 4000000
namespace L2
open PySem PySem.Spec PyProof.Rows
noncomputable def getR {α : Type} : List (Rk × α) → Rk → Option α
  | [], _ => none
  | q :: l, k => if q.1 = k then some q.2 else getR l k
section
variable {K : PySem.W.Frag} {σ : St} {G H : Hp} {α : Type} [Rp α] {ti td ta tb : TE}
end
section
variable {K : PySem.W.Frag} {σ : St} {G H : Hp} {α : Type} [Rp α] [DecidableEq α] {ta tb : TE}
end
end L2
set_option Elab.async false
set_option linter.all false
set_option maxRecDepth 100000
set_option maxHeartbeats 4000000
namespace L2
open PySem PySem.Spec PyProof.Rows
section
variable {K : PySem.W.Frag} {σ : St} {G H : Hp} {α β γ : Type} [Rp α] [Rp β] [Rp γ] {te : TE} {rest : TS} {D : Ends} {i j : Nat} {v u : V} {p q r : Addr} {vs ws ys : List V} {a : List α × List β} {as : List γ}
theorem Own2.over {ho : HO} (o : Own2 K G H v p q vs ws a) (h1 : p ≠ r) (h2 : q ≠ r) (hr : G r = none) : Own2 K (upd G r ho) H v p q vs ws a :=
  ⟨let ⟨t, e, h⟩ := o.t; ⟨t, e, (Same.new hr) _ _ h⟩, o.o1.over h1 hr, o.o2.over h2 hr, o.ne⟩
theorem del_none {G2 : Hp} {b : Addr} (hb : G2 b = none) : L2.del G2 r b = none := by
  unfold L2.del
  split
  · rfl
  · exact hb
theorem Own2.delL [Imm α] [Imm β] {G2 : Hp} (o : Own2 K G2 H v p q vs ws a) (h : G2 r = some (.lst ys)) : Own2 K (L2.del G2 r) H v p q vs ws a := by
  obtain ⟨t, e, ht⟩ := o.t
  refine ⟨⟨t, e, ?_⟩, ⟨rfl, del_none o.o1.g, o.o1.h, o.o1.z, Paired.imp' (fun _ _ r => Imm.del h r) o.o1.p⟩, ⟨rfl, del_none o.o2.g, o.o2.h, o.o2.z, Paired.imp' (fun _ _ r => Imm.del h r) o.o2.p⟩, o.ne⟩
  rw [del_ne (fun z => by rw [z, h] at ht; cases ht)]
  exact ht
theorem Own.delL [Imm γ] {G2 : Hp} (o : Own K G2 H v p vs as) (h : G2 r = some (.lst ys)) : Own K (L2.del G2 r) H v p vs as :=
  ⟨o.v, del_none o.g, o.h, o.z, Paired.imp' (fun _ _ r => Imm.del h r) o.p⟩
theorem sv_own2B [Imm α] [Imm β] {m : Option (List α × List β)} {b : List α × List β} (o : Own K G H u r ys as) (e : NV K te σ (upd G r (.lst ys)) m) (hm : m = some b) (s : Same G H)
    (k : ∀ v p q vs ws G2 H2, Ext G H G2 H2 → H p = none → H q = none → Own2 K G2 H2 v p q vs ws b → rest D (σ.set i (some v)) H2) : tSeq (tAsg te (gName i)) rest D σ H :=
  e _ (.refl _) b hm H (o.same s) _ fun v p q vs ws G2 H2 x h1 h2 o2 => k v p q vs ws _ H2 (x.del o.g) h1 h2 (o2.delL (x.gg _ _ upd_same))
theorem sv_insert2a {m : Option α} {c : α} {as' : List α} (hσ : σ[i]? = some (some v)) (o : Own2 K G H v p q vs ws a) (e : EV K te σ G m) (hm : m = some c) (hp : consO c a.1 = some as') (s : Same G H)
    (k : ∀ G2 H2 w, Ext G H G2 H2 → Own2 K G2 (upd H2 p (.lst (w :: vs))) v p q (w :: vs) ws (as', a.2) → rest D σ (upd H2 p (.lst (w :: vs)))) :
    tSeq (tDrop (tBM K "list" rInsert0 (tOp (rAt K) (tVar i) (tC (.int 0))) (tCons (tC (.int 0)) (tCons te tNil)))) rest D σ H := by
  obtain ⟨hl, rfl⟩ := ite_some hp
  have hlen := Paired.length o.o1.p
  obtain ⟨t, rfl, ht⟩ := o.t
  refine ⟨_, hσ, .inr ⟨_, _, SqT.of (s _ _ ht), rfl, .inl ⟨rfl, _, SqL.of o.o1.h⟩, ?_⟩⟩
  refine e.run hm s fun w G2 H2 x r => ?_
  have o2 := o.ext x
  refine ⟨p, vs, w, rfl, rfl, o2.o1.h, by omega, ?_⟩
  refine k G2 H2 w x ⟨o2.t, ⟨rfl, o2.o1.g, upd_same, ?_, .cons r o2.o1.p⟩, o2.o2.put (Ne.symm o.ne), o.ne⟩
  rw [List.length_cons]
  omega
theorem sv_append2b {m : Option β} {c : β} {as' : List β} (hσ : σ[i]? = some (some v)) (o : Own2 K G H v p q vs ws a) (e : EV K te σ G m) (hm : m = some c) (hp : pushO a.2 c = some as') (s : Same G H)
    (k : ∀ G2 H2 w, Ext G H G2 H2 → Own2 K G2 (upd H2 q (.lst (ws ++ [w]))) v p q vs (ws ++ [w]) (a.1, as') → rest D σ (upd H2 q (.lst (ws ++ [w])))) :
    tSeq (tDrop (tBM K "list" rAppend (tOp (rAt K) (tVar i) (tC (.int 1))) (tCons te tNil))) rest D σ H := by
  obtain ⟨hl, rfl⟩ := ite_some hp
  have hlen := Paired.length o.o2.p
  obtain ⟨t, rfl, ht⟩ := o.t
  refine ⟨_, hσ, .inr ⟨_, _, SqT.of (s _ _ ht), rfl, .inl ⟨rfl, _, SqL.of o.o2.h⟩, ?_⟩⟩
  refine e.run hm s fun w G2 H2 x r => ?_
  have o2 := o.ext x
  refine ⟨q, ws, w, rfl, rfl, o2.o2.h, by omega, ?_⟩
  refine k G2 H2 w x ⟨o2.t, o2.o1.put o.ne, ⟨rfl, o2.o2.g, upd_same, ?_, Paired.app o2.o2.p (.cons r .nil)⟩, o.ne⟩
  rw [List.length_append, List.length_singleton]
  omega
end
structure LoopZ (K : PySem.W.Frag) {α β S ρ : Type} [Rp α] [Rp β] (RR : ρ → V → Hp → Hp → Prop) (f : α × β → S → Option (Fl S ρ)) (g : TG) (tb : TS) (D : Ends) (σ : St) (G2 H2 : Hp) (s0 : S) (res : Fl S ρ) (RS : S → St → Hp → Hp → Prop) : Prop where
  start : RS s0 σ G2 H2
  keep : ∀ s σ' G' H', RS s σ' G' H' → Same G2 G' ∧ Same G' H'
  step : ∀ (x : V) (a : α × β) (s : S) (σ1 : St) (G0 H0 G1 H1 : Hp) (fl : Fl S ρ), RS s σ1 G0 H0 → Ext G0 H0 G1 H1 → Rp.rel K G1 x a → f a s = some fl → ∀ D' : Ends, (∀ s' σ' G' H', fl = .nx s' → RS s' σ' G' H' → D'.nx σ' H') →
    (∀ s' σ' G' H', fl = .bk s' → RS s' σ' G' H' → D'.bk σ' H') → (∀ r v G' H', fl = .rt r → RR r v G' H' → D'.rt v H') → g x σ1 H1 fun σ2 H2 => tb D' σ2 H2
  nxt : ∀ s σ' G' H', res = .nx s → RS s σ' G' H' → D.nx σ' H'
  rtn : ∀ r v G' H', res = .rt r → RR r v G' H' → D.rt v H'
section
variable {K : PySem.W.Frag} {σ : St} {G H : Hp} {α β : Type} [Rp α] [Rp β] {rest : TS} {D : Ends}
theorem sv_forZ {S ρ : Type} {RR : ρ → V → Hp → Hp → Prop} {f : α × β → S → Option (Fl S ρ)} {wi : TI} {g : TG} {tb : TS} {mi : Option (List (α × β))} {ps : List (α × β)} {s0 : S} {res : Fl S ρ} (ei : IZ K wi σ G mi) (hm : mi = some ps) (hf : forO f ps s0 = some res) (sg : Same G H)
    (k : ∀ G2 H2, Ext G H G2 H2 → ∃ RS, LoopZ K RR f g tb { D with nx := rest D } σ G2 H2 s0 res RS) : tSeq (tFor wi g tb) rest D σ H := by
  refine ei G (.refl G) ps hm H sg _ fun J vs ws as bs G2 H2 x2 Y hz pr1 pr2 eps => ?_
  obtain ⟨RS, L⟩ := k G2 H2 x2
  have hl1 := Paired.length pr1
  have hl2 := Paired.length pr2
  have hle : ps.length = min vs.length ws.length := by rw [eps, List.length_zip, hl1, hl2]
  refine ⟨fun i m σ' H' => m = ps.length - i ∧ i ≤ ps.length ∧ ∃ s G', RS s σ' G' H' ∧ forO f (ps.drop i) s = some res, ⟨ps.length, by simp, Nat.zero_le _, s0, G2, L.start, hf⟩, ?_⟩
  rintro i m σ' H' ⟨rfl, hi, s, G', rs, hfo⟩
  obtain ⟨k1, k2⟩ := L.keep _ _ _ _ rs
  by_cases hlt : i < ps.length
  · refine .inr ⟨Y.go i _ (k1.trans k2) (by omega), fun σ'' H'' => ∃ s' G'', RS s' σ'' G'' H'' ∧ forO f (ps.drop (i + 1)) s' = some res, fun σ'' H'' ⟨s', G'', h⟩ => ⟨ps.length - (i + 1), by omega, rfl, hlt, s', G'', h⟩, fun x H3 y => ?_⟩
    obtain ⟨t, v, w, rfl, ht, rfl, hv, hw⟩ := Y.yld i _ x H3 (k1.trans k2) (by omega) y
    obtain ⟨a, hai, ra⟩ := Paired.getR pr1 hv
    obtain ⟨b, hbi, rb⟩ := Paired.getR pr2 hw
    have hge : ps[i]? = some (a, b) := by rw [eps, List.getElem?_zip_eq_some]; exact ⟨hai, hbi⟩
    have hd : ps.drop i = (a, b) :: ps.drop (i + 1) := by
      obtain ⟨h1, h2⟩ := List.getElem?_eq_some_iff.mp hge
      rw [List.drop_eq_getElem_cons h1, h2]
    rw [hd] at hfo
    obtain ⟨fl, hfl, hfo⟩ := Option.bind_eq_some_iff.mp hfo
    have xn := Ext.new (o := .tup [v, w]) k2 ht
    refine L.step (.ref t) (a, b) s σ' G' _ _ _ fl rs xn ⟨t, v, w, rfl, SqT.of upd_same, Rp.mono (k1.trans xn.gg) ra, Rp.mono (k1.trans xn.gg) rb⟩ hfl _ ?_ ?_ ?_
    · intro s' σ'' G'' H'' e r
      subst e
      exact ⟨s', G'', r, hfo⟩
    · intro s' σ'' G'' H'' e r
      subst e
      cases hfo
      exact L.nxt s' _ _ _ rfl r
    · intro r v G'' H'' e rr
      subst e
      cases hfo
      exact L.rtn _ _ _ _ rfl rr
  · have e : i = ps.length := by omega
    subst e
    have hd : ps.drop ps.length = [] := List.drop_eq_nil_of_le (Nat.le_refl _)
    rw [hd] at hfo
    cases hfo
    exact .inl ⟨by rw [hle]; exact Y.stop _ (k1.trans k2), L.nxt s _ _ _ rfl rs⟩
theorem sv_ifNeY2 {γ δ ε : Type} [Rp γ] [Rp δ] [Rp ε] {i j : Nat} {v w : V} {p : Addr} {vs : List V} {as : List ε} {t1 t2 : TE} {t u : TS} {m1 : Option γ} {m2 : Option δ} {c1 : γ} {c2 : δ} {m : List ε → γ × δ × Unit → Option (List ε × Option Int)} {r : List ε × Option Int} {n : Int}
    (hσ : σ[i]? = some (some v)) (o : Own K G H v p vs as) (e1 : EV K t1 σ G m1) (h1 : m1 = some c1) (e2 : EV K t2 σ G m2) (h2 : m2 = some c2) (hm : m as (c1, c2, ()) = some r) (hj : σ[j]? = some (some w)) (rj : Rp.rel K G w n) (s : Same G H)
    (k : ∀ G1 H1 G2 H2 vs', Ext G H G1 H1 → Ext G1 (era H1 [p]) G2 H2 → Own K G2 H2 v p vs' r.1 → if (!decide (r.2 = some n)) = true then t { D with nx := rest D } σ H2 else u { D with nx := rest D } σ H2) :
    tSeq (tIfS (tTest (tOp rNe (tCall (spYL K m) [] E0 (tCons t1 (tCons t2 (tCons (tVar i) tNil)))) (tVar j))) t u) rest D σ H := by
  have ov := o.v
  subst ov
  refine e1 G (.refl G) c1 h1 H s _ fun v1 G1 H1 x1 r1 => ?_
  refine e2 G1 x1.gg c2 h2 H1 x1.gh _ fun v2 G2 H2 x2 r2 => ?_
  refine ⟨_, hσ, ?_⟩
  refine ⟨G2, p, vs, [v1, v2], as, (c1, c2, ()), r, rfl, x2.gh, (o.ext x1).ext x2, ⟨v1, _, rfl, Rp.mono x2.gg r1, v2, _, rfl, r2, rfl⟩, hm, fun w' G3 H3 xs' y o' rw_ => ?_⟩
  refine ⟨w, hj, ?_⟩
  obtain ⟨d1, d2⟩ := decOI (b := some n) rw_ (Rp.mono (x1.gg.trans (x2.gg.trans y.gg)) rj)
  refine ⟨d1, _, rfl, ?_⟩
  have := k G2 H2 G3 H3 xs' (x1.trans x2) y o'
  rw [← d2] at this
  exact this
end
theorem Ext.delN {G0 H0 G H : Hp} {p : Addr} (s : Same G0 H0) (x : Ext G0 H0 G H) (h : H0 p = none) : Ext G0 H0 (L2.del G p) H :=
  ⟨fun b o e => by
    rw [del_ne (fun z => by rw [z] at e; rw [s.free h] at e; cases e)]
    exact x.gg b o e, fun b o e => by
    by_cases hb : b = p
    · rw [hb, del_same] at e
      cases e
    · rw [del_ne hb] at e
      exact x.gh b o e, x.hh, fun b h1 h2 => del_none (x.no b h1 h2)⟩
theorem same_del2 {K : PySem.W.Frag} {α β : Type} [Rp α] [Rp β] {G H G1 : Hp} {v : V} {p q : Addr} {vs ws : List V} {a : List α × List β} (o : Own2 K G H v p q vs ws a) (m : Same (two G p q vs ws) G1) : Same G (L2.del (L2.del G1 q) p) := fun b ho e => by
  have hp : b ≠ p := fun z => by rw [z, o.o1.g] at e; cases e
  have hq : b ≠ q := fun z => by rw [z, o.o2.g] at e; cases e
  rw [del_ne hp, del_ne hq]
  exact m b ho (o.up b ho e)
theorem Own2.back {K : PySem.W.Frag} {α β : Type} [Rp α] [Rp β] {G H G1 H1 : Hp} {v : V} {p q : Addr} {vs ws : List V} {a : List α × List β} (o : Own2 K G H v p q vs ws a) (m : Same (two G p q vs ws) G1) (s : Same G1 H1) : Own2 K (L2.del (L2.del G1 q) p) H1 v p q vs ws a := by
  have m8 := same_del2 o m
  have gp : G1 p = some (.lst vs) := m _ _ (by unfold two; rw [upd_ne o.ne]; exact upd_same)
  have gq : G1 q = some (.lst ws) := m _ _ upd_same
  obtain ⟨t, e, h⟩ := o.t
  exact ⟨⟨t, e, m8 _ _ h⟩, ⟨rfl, del_same, s _ _ gp, o.o1.z, Paired.imp' (fun _ _ r => Rp.mono m8 r) o.o1.p⟩, ⟨rfl, del_none del_same, s _ _ gq, o.o2.z, Paired.imp' (fun _ _ r => Rp.mono m8 r) o.o2.p⟩, o.ne⟩
noncomputable def neNLO (a b : List Nt) : Option Bool := if Nt.deps a ≤ 180 ∧ Nt.deps b ≤ 180 then some (!decide (a = b)) else none
noncomputable def isNL (K : PySem.W.Frag) : Hp → V → List Nt → Prop := fun H v as => ∃ l xs, v = .ref l ∧ SqL K H l xs ∧ Paired (isN K 180 H) xs as
noncomputable def rNeNL (K : PySem.W.Frag) : R2 := fun x y H Q => ∃ a b : List Nt, isNL K H x a ∧ isNL K H y b ∧ Q (.bl (!decide (a = b))) H
theorem op_neNL {X : Cx} {K : PySem.W.Frag} {j : Nat} (hK : X.K = K) (hr : Room j X.A) : OpR X (compareOp .NotEq) (rNeNL K) := by
  intro pins s σ H x y v u Q I rx ry h
  obtain ⟨a, b, h1, h2, q⟩ := h
  exact ((eqLst (eqN 180)).rc X.A hK I (by have := hr.un; omega) rx ry h1 h2).2 _ _ _ _ ⟨.bl _, H, I, rfl, q⟩
theorem isN_of {K : PySem.W.Frag} {G H : Hp} (s : Same G H) : ∀ {xs : List V} {as : List Nt}, Paired (Rp.rel K G) xs as → Nt.deps as ≤ 180 → Paired (isN K 180 H) xs as
  | _, _, .nil, _ => .nil
  | _, _, .cons h t, hd => by
    unfold Nt.deps at hd
    exact .cons ⟨Rp.mono s h, by omega⟩ (isN_of s t (by omega))
theorem ev_neNL {K : PySem.W.Frag} {σ : St} {G : Hp} {ta tb : TE} {m1 m2 : Option (List Nt)} (ea : EV K ta σ G m1) (eb : EV K tb σ G m2) : EV K (tOp (rNeNL K) ta tb) σ G (m1.bind fun a => m2.bind fun b => neNLO a b) :=
  ev_bin (fun {G' H' x y a b c} s ra rb e Q k => by
    obtain ⟨⟨h1, h2⟩, rfl⟩ := ite_some e
    obtain ⟨l, xs, rfl, h, z, p⟩ := ra
    obtain ⟨l', xs', rfl, h', z', p'⟩ := rb
    exact ⟨a, b, ⟨l, xs, rfl, .inl (s.rd h), isN_of s p h1⟩, ⟨l', xs', rfl, .inl (s.rd h'), isN_of s p' h2⟩, k _ _ _ (.refl s) rfl⟩) ea eb
end L2
set_option Elab.async false
set_option linter.all false
set_option maxRecDepth 100000
set_option maxHeartbeats 4000000
namespace My
open PySem PySem.Spec PyProof.Rows L2
noncomputable def m_law_cell_at (script_ : Scr) (k_ : Int) : Option Int :=
  (some (decide (k_ < (script_.l.length : Int)))).bind fun b1 => cond b1
    (((some script_).bind fun t6 => (some k_).bind fun t7 => atI t6.l t7))
    ((some (0 : Int)))
noncomputable abbrev mm_law_cell_at (x : Scr × Int × Unit) : Option Int := m_law_cell_at x.1 x.2.1
noncomputable def m_law_leaf (number_ : Int) : Option Nt :=
  (some (decide ((number_ % (4 : Int)) = (0 : Int)))).bind fun b1 => cond b1
    ((some (Nt.tup [(Nt.txt ("yes" : Str))])))
    (((((((some ("abcdefghijklmnopqrstuvwxyz" : Str)).bind fun t11 => (some ((number_ / (4 : Int)) % (26 : Int))).bind fun t12 => (atI t11.cps.toList t12).bind fun z => some (⟨#[z]⟩ : Str)).bind fun t13 => (some (Nt.txt t13))).bind fun t14 => (some [t14])).bind fun t15 => (some ((Nt.txt ("lamp" : Str)) :: t15))).bind fun t16 => (some (Nt.tup t16))))
noncomputable abbrev mm_law_leaf (x : Int × Unit) : Option Nt := m_law_leaf x.1
noncomputable def m_law_put (stack_ : (List (Nt × Int))) (spent_ : (List Int)) (cell_ : Int) (room_ : Int) : Option ((List (Nt × Int)) × (List Int)) :=
  (some (cell_ % (16 : Int))).bind fun kind_ =>
  ((some (decide ((0 : Int) < (stack_.length : Int)))).bind fun t14 => cond t14 (((some stack_).bind fun t11 => (some (-(1 : Int))).bind fun t12 => atI t11 t12).bind fun t13 => (some t13.2)) (some (0 : Int))).bind fun deep_ =>
  (some ((decide (kind_ < (5 : Int))) && ((decide ((0 : Int) < (stack_.length : Int))) && (decide (deep_ < (76 : Int)))))).bind fun b21 => (cond b21
    (((((some spent_).bind fun t38 => (some (0 : Int)).bind fun t39 => atI t38 t39).bind fun t40 => (some (t40 + (stack_.length : Int)))).bind fun t41 => (some (decide (t41 ≤ room_)))).bind fun b42 => cond b42
      ((popO stack_).bind fun pr47 => (((((some [(Nt.txt ("not" : Str)), (Nt.txt ("next" : Str))]).bind fun t58 => (some (kind_ % (2 : Int))).bind fun t59 => atI t58 t59).bind fun t60 => (some [t60, pr47.1.1])).bind fun t61 => (some (Nt.tup t61))).bind fun t62 => (some (t62, (deep_ + (1 : Int))))).bind fun a49 => (pushO pr47.2 a49).bind fun z51 =>
      (((some spent_).bind fun t66 => (some (0 : Int)).bind fun t67 => atI t66 t67).bind fun t68 => (some (t68 + (1 : Int)))).bind fun a69 => (some (0 : Int)).bind fun k71 => (setO spent_ k71 a69).bind fun z80 =>
      some (z51, z80))
      (some (stack_, spent_)))
    ((((some (4 : Int)).bind fun t93 => (some kind_).bind fun t94 => cond (decide (t93 < t94)) ((some (10 : Int)).bind fun t95 => some (decide (t94 < t95))) (some false)).bind fun t102 => cond t102 ((some (decide ((1 : Int) < (stack_.length : Int)))).bind fun t101 => cond t101 (((((some stack_).bind fun t96 => (some (-(2 : Int))).bind fun t97 => atI t96 t97).bind fun t98 => (some t98.2)).bind fun t99 => (some (if t99 > deep_ then t99 else deep_))).bind fun t100 => (some (decide (t100 < (76 : Int))))) (some false)) (some false)).bind fun b103 => cond b103
      ((popO stack_).bind fun pr108 =>
      (popO pr108.2).bind fun pr113 =>
      (((((some [(Nt.txt ("and" : Str)), (Nt.txt ("until" : Str))]).bind fun t118 => (some (kind_ % (2 : Int))).bind fun t119 => atI t118 t119).bind fun t120 => (some [t120, pr113.1.1, pr108.1.1])).bind fun t121 => (some (Nt.tup t121))).bind fun t122 => (some (t122, ((1 : Int) + (if pr108.1.2 > pr113.1.2 then pr108.1.2 else pr113.1.2))))).bind fun a123 => (pushO pr113.2 a123).bind fun z131 =>
      (((some spent_).bind fun t135 => (some (0 : Int)).bind fun t136 => atI t135 t136).bind fun t137 => (some (t137 + (1 : Int)))).bind fun a138 => (some (0 : Int)).bind fun k140 => (setO spent_ k140 a138).bind fun z149 =>
      some (z131, z149))
      ((((((some spent_).bind fun t155 => (some (0 : Int)).bind fun t156 => atI t155 t156).bind fun t157 => (some (t157 + (stack_.length : Int)))).bind fun t158 => (some (t158 + (1 : Int)))).bind fun t159 => (some (decide (t159 ≤ room_)))).bind fun b160 => cond b160
        ((((some (cell_ / (16 : Int))).bind fun t165 => m_law_leaf t165).bind fun t166 => (some (t166, (1 : Int)))).bind fun a167 => (pushO stack_ a167).bind fun z175 =>
        (((some spent_).bind fun t179 => (some (0 : Int)).bind fun t180 => atI t179 t180).bind fun t181 => (some (t181 + (1 : Int)))).bind fun a182 => (some (0 : Int)).bind fun k184 => (setO spent_ k184 a182).bind fun z193 =>
        some (z175, z193))
        (some (stack_, spent_))))).bind fun s26 =>
  some (s26.1, s26.2)
noncomputable abbrev mm_law_put (stack_ : (List (Nt × Int))) (spent_ : (List Int)) (x : Int × Int × Unit) : Option ((List (Nt × Int)) × (List Int)) := m_law_put stack_ spent_ x.1 x.2.1
noncomputable def m_law_built (cells_here_ : (List Int)) (room_ : Int) : Option Nt :=
  ((((((((some ("abcdefghijklmnopqrstuvwxyz" : Str)).bind fun t1 => (some (room_ % (26 : Int))).bind fun t2 => (atI t1.cps.toList t2).bind fun z => some (⟨#[z]⟩ : Str)).bind fun t3 => (some (Nt.txt t3))).bind fun t4 => (some [t4])).bind fun t5 => (some ((Nt.txt ("lamp" : Str)) :: t5))).bind fun t6 => (some (Nt.tup t6))).bind fun t7 => (some (t7, (1 : Int)))).bind fun t8 => (some [t8])).bind fun stack_ =>
  (some [(1 : Int)]).bind fun spent_ =>
  (some cells_here_).bind fun as25 => (forO (S := ((List (Nt × Int)) × (List Int))) (ρ := Nt) (fun (cell_ : Int) s32 =>
      ((some cell_).bind fun t47 => ((some room_).bind fun t45 => (some ()).bind fun t46 => some (t45, t46)).bind fun t48 => some (t47, t48)).bind fun ca49 => (m_law_put s32.1 s32.2 ca49.1 ca49.2.1).bind fun rz51 =>
      some (Fl.nx (rz51.1, rz51.2))) as25 (stack_, spent_)).bind fun fl27 => match fl27 with
    | .nx s32 =>
      ((some s32.1).bind fun t77 => mapO (fun (one_ : (Nt × Int)) => (some one_.1)) t77).bind fun some_here_ =>
      (whileN (S := ((List Nt))) (ρ := Nt) (fun s86 => (some (decide ((1 : Int) < (s86.length : Int))))) (fun s86 =>
          (((some ((s86.length : Int) / (2 : Int))).bind fun t103 => rngO 0 t103).bind fun t120 => mapO (fun (k_ : Int) => ((((some [(Nt.txt ("until" : Str)), (Nt.txt ("and" : Str))]).bind fun t108 => (some (k_ % (2 : Int))).bind fun t109 => atI t108 t109).bind fun t117 => (((some s86).bind fun t110 => (some ((2 : Int) * k_)).bind fun t111 => atI t110 t111).bind fun t115 => (((some s86).bind fun t112 => (some (((2 : Int) * k_) + (1 : Int))).bind fun t113 => atI t112 t113).bind fun t114 => (some [t114])).bind fun t116 => (some (t115 :: t116))).bind fun t118 => (some (t117 :: t118))).bind fun t119 => (some (Nt.tup t119)))) t120).bind fun fewer_ =>
          (some (decide (((s86.length : Int) % (2 : Int)) = (1 : Int)))).bind fun b129 => (cond b129
            (((some s86).bind fun t138 => (some (-(1 : Int))).bind fun t139 => atI t138 t139).bind fun a140 => (pushO fewer_ a140).bind fun z148 =>
            some z148)
            (some fewer_)).bind fun s134 =>
          (some s134).bind fun some_here_ =>
          some (Fl.nx some_here_)) fuelW some_here_).bind fun fl84 => match fl84 with
        | .nx s86 =>
          ((some s86).bind fun t165 => (some (0 : Int)).bind fun t166 => atI t165 t166)
        | .rt r => some r
        | .bk _ => none
    | .rt r => some r
    | .bk _ => none
noncomputable abbrev mm_law_built (x : (List Int) × Int × Unit) : Option Nt := m_law_built x.1 x.2.1
noncomputable def m_law_stream (cell_ : Int) (many_ : Int) : Option (List Int) :=
  (some ([] : List Int)).bind fun numbers_ =>
  (some ((cell_ % (2147483647 : Int)) + (48271 : Int))).bind fun number_ =>
  ((some many_).bind fun t15 => rngO 0 t15).bind fun as16 => (forO (S := ((List Int) × Int)) (ρ := (List Int)) (fun (k_ : Int) s23 =>
      (((((some s23.2).bind fun t38 => (some s23.2).bind fun t39 => mulO t38 t39).bind fun t40 => (some (t40 + ((48271 : Int) * s23.2)))).bind fun t41 => (some (t41 + k_))).bind fun t42 => (some (t42 % (2147483647 : Int)))).bind fun number_ =>
      (some number_).bind fun a49 => (pushO s23.1 a49).bind fun z57 =>
      some (Fl.nx (z57, number_))) as16 (numbers_, number_)).bind fun fl18 => match fl18 with
    | .nx s23 =>
      (some s23.1)
    | .rt r => some r
    | .bk _ => none
noncomputable abbrev mm_law_stream (x : Int × Int × Unit) : Option (List Int) := m_law_stream x.1 x.2.1
noncomputable def m_law_cells (script_ : Scr) (start_ : Int) : Option (List Int) :=
  ((some script_).bind fun t1 => (some start_).bind fun t2 => m_law_cell_at t1 t2).bind fun cell_ =>
  (some (decide ((cell_ % (3 : Int)) = (0 : Int)))).bind fun b9 => cond b9
    (((some script_).bind fun t14 => (some (some (start_ + (1 : Int)))).bind fun t15 => (some (some (start_ + (13 : Int)))).bind fun t16 => cutX t14 t15 t16))
    ((some (decide ((cell_ % (3 : Int)) = (1 : Int)))).bind fun b22 => cond b22
      ((((some script_).bind fun t27 => (some (start_ + (1 : Int))).bind fun t28 => m_law_cell_at t27 t28).bind fun t29 => (some ((4 : Int) + ((cell_ / (3 : Int)) % (57 : Int)))).bind fun t30 => m_law_stream t29 t30))
      (((((some script_).bind fun t36 => (some (start_ + (1 : Int))).bind fun t37 => m_law_cell_at t36 t37).bind fun t38 => (some ((cell_ / (3 : Int)) % (44 : Int))).bind fun t39 => m_law_stream t38 t39).bind fun t44 => mapO (fun (number_ : Int) => (some (((16 : Int) * number_) + ((number_ / (7 : Int)) % (5 : Int))))) t44)))
noncomputable abbrev mm_law_cells (x : Scr × Int × Unit) : Option (List Int) := m_law_cells x.1 x.2.1
noncomputable def m_law_some (script_ : Scr) : Option (List Nt) :=
  ((some script_).bind fun t1 => (some (0 : Int)).bind fun t2 => m_law_cell_at t1 t2).bind fun cell_ =>
  (some (decide ((cell_ % (8 : Int)) = (1 : Int)))).bind fun b9 => cond b9
    ((((((some script_).bind fun t14 => (some (1 : Int)).bind fun t15 => m_law_cell_at t14 t15).bind fun t16 => (some ((40 : Int) + ((cell_ / (8 : Int)) % (211 : Int)))).bind fun t17 => m_law_stream t16 t17).bind fun t18 => (some (200 : Int)).bind fun t19 => m_law_built t18 t19).bind fun t20 => (some [t20])))
    ((some ([] : List Nt)).bind fun some_here_ =>
    ((some ((cell_ / (8 : Int)) % (5 : Int))).bind fun t34 => rngO 0 t34).bind fun as35 => (forO (S := ((List Nt))) (ρ := (List Nt)) (fun (k_ : Int) s42 =>
        (((some script_).bind fun t55 => (some ((3 : Int) + ((13 : Int) * k_))).bind fun t56 => m_law_cells t55 t56).bind fun t63 => (((((some script_).bind fun t57 => (some (2 : Int)).bind fun t58 => m_law_cell_at t57 t58).bind fun t59 => (some ((1 : Int) + ((46 : Int) * k_))).bind fun t60 => divO t59 t60).bind fun t61 => (some (t61 % (45 : Int)))).bind fun t62 => (some ((1 : Int) + t62))).bind fun t64 => m_law_built t63 t64).bind fun a65 => (pushO s42 a65).bind fun z73 =>
        some (Fl.nx z73)) as35 some_here_).bind fun fl37 => match fl37 with
      | .nx s42 =>
        ((some (decide ((0 : Int) < (s42.length : Int)))).bind fun t89 => cond t89 ((some (decide ((s42.length : Int) < (4 : Int)))).bind fun t88 => cond t88 ((((some script_).bind fun t84 => (some (1 : Int)).bind fun t85 => m_law_cell_at t84 t85).bind fun t86 => (some (t86 % (3 : Int)))).bind fun t87 => (some (decide (t87 = (0 : Int))))) (some false)) (some false)).bind fun b90 => (cond b90
          (((some s42).bind fun t113 => ((((some script_).bind fun t108 => (some (1 : Int)).bind fun t109 => m_law_cell_at t108 t109).bind fun t110 => (some (t110 / (3 : Int)))).bind fun t111 => (some (s42.length : Int)).bind fun t112 => modO t111 t112).bind fun t114 => atI t113 t114).bind fun told_ =>
          ((((((some script_).bind fun t121 => (some (1 : Int)).bind fun t122 => m_law_cell_at t121 t122).bind fun t123 => (some (t123 / (12 : Int)))).bind fun t124 => (some (t124 % (2 : Int)))).bind fun t125 => (some (decide (t125 = (1 : Int))))).bind fun t134 => cond t134 (((((some told_).bind fun t129 => asTup t129).bind fun t130 => (some (0 : Int)).bind fun t131 => atI t130.l t131).bind fun t132 => asTxt t132).bind fun t133 => (some (!decide (t133 = ("lamp" : Str))))) (some false)).bind fun b135 => (cond b135
            ((((some told_).bind fun t146 => asTup t146).bind fun t147 => (some (-(1 : Int))).bind fun t148 => atI t147.l t148).bind fun told_ =>
            some told_)
            (some told_)).bind fun s140 =>
          (some s140).bind fun a158 => (pushO s42 a158).bind fun z166 =>
          some z166)
          (some s42)).bind fun s95 =>
        (some s95)
      | .rt r => some r
      | .bk _ => none)
noncomputable abbrev mm_law_some (x : Scr × Unit) : Option (List Nt) := m_law_some x.1
noncomputable def m_parts_of (sentence_ : Nt) : Option (Tp Nt) :=
  (((((some sentence_).bind fun t4 => asTup t4).bind fun t5 => (some (0 : Int)).bind fun t6 => atI t5.l t6).bind fun t7 => asTxt t7).bind fun t8 => (some (decide (t8 = ("lamp" : Str))))).bind fun b9 => cond b9
    ((some (Tp.mk ([] : List Nt))))
    ((((some sentence_).bind fun t19 => asTup t19).bind fun t20 => (some (some (1 : Int))).bind fun t21 => (some none).bind fun t22 => cutT? t20.l t21 t22))
noncomputable abbrev mm_parts_of (x : Nt × Unit) : Option (Tp Nt) := m_parts_of x.1
noncomputable def m_book_of (some_ : List Nt) : Option (List Rk × List Int) := booksR (layO m_parts_of 95) some_
noncomputable abbrev mm_book_of (x : List Nt × Unit) : Option (List Rk × List Int) := m_book_of x.1
noncomputable def m_law_whole (thing_ : Int) : Option Bool :=
  (some (true && (!false)))
noncomputable abbrev mm_law_whole (x : Int × Unit) : Option Bool := m_law_whole x.1
noncomputable def m_law_row_kind (row_ : Rk) : Option Bool :=
  ((some (!true)).bind fun t9 => cond t9 (some true) ((some (decide ((row_.tp.l.length : Int) = (0 : Int)))).bind fun t8 => cond t8 (some true) (((((some row_.tp).bind fun t3 => (some (0 : Int)).bind fun t4 => atI t3.l t4).bind fun t5 => (some (ToD.to t5))).bind fun t6 => (some (isK "str" t6))).bind fun t7 => (some (!t7))))).bind fun b10 => cond b10
    ((some false))
    (((((some row_.tp).bind fun t22 => (some (0 : Int)).bind fun t23 => atI t22.l t23).bind fun t24 => asS t24).bind fun t25 => (some (decide (t25 = ("lamp" : Str))))).bind fun b26 => cond b26
      ((some true))
      (((((((some row_.tp).bind fun t36 => (some (some (1 : Int))).bind fun t37 => (some none).bind fun t38 => cutT? t36.l t37 t38).bind fun t39 => (some t39.l)).bind fun t46 => compO (fun (part_ : SI) => (((some part_).bind fun t44 => asI t44).bind fun t45 => m_law_whole t45)) (fun (part_ : SI) => (some part_)) t46).bind fun t47 => (some (t47.length : Int))).bind fun t48 => (some (decide (t48 = ((row_.tp.l.length : Int) - (1 : Int))))))))
noncomputable abbrev mm_law_row_kind (x : Rk × Unit) : Option Bool := m_law_row_kind x.1
noncomputable def m_law_book_kind (book_ : ((List Rk) × (List Int))) : Option Bool :=
  (some ((!true) || (!decide ((2 : Int) = (2 : Int))))).bind fun b1 => cond b1
    ((some false))
    ((some ((!true) || (!true))).bind fun b11 => cond b11
      ((some false))
      ((some book_.1).bind fun as21 => (forO (S := Unit) (ρ := Bool) (fun (row_ : Rk) s28 =>
          (((some row_).bind fun t41 => m_law_row_kind t41).bind fun t42 => (some (!t42))).bind fun b43 => cond b43
            ((some false).bind fun rr53 => some (Fl.rt rr53))
            (some (Fl.nx ()))) as21 ()).bind fun fl23 => match fl23 with
        | .nx s28 =>
          ((((some book_.2).bind fun t64 => compO (fun (spot_ : Int) => ((some spot_).bind fun t63 => m_law_whole t63)) (fun (spot_ : Int) => (some spot_)) t64).bind fun t65 => (some (t65.length : Int))).bind fun t66 => (some (decide (t66 = (book_.2.length : Int)))))
        | .rt r => some r
        | .bk _ => none))
noncomputable abbrev mm_law_book_kind (x : ((List Rk) × (List Int)) × Unit) : Option Bool := m_law_book_kind x.1
noncomputable def m_law_number_of (row_ : Nt) (rows_ : (List Rk)) (many_ : Int) : Option (Option Int) :=
  ((some many_).bind fun t1 => rngO 0 t1).bind fun as2 => (forO (S := Unit) (ρ := (Option Int)) (fun (k_ : Int) s9 =>
      ((((some rows_).bind fun t24 => (some k_).bind fun t25 => atI t24 t25).bind fun t26 => (some t26.nt)).bind fun t27 => (some row_).bind fun t28 => eqNO t27 t28).bind fun b29 => cond b29
        ((some (some k_)).bind fun rr39 => some (Fl.rt rr39))
        (some (Fl.nx ()))) as2 ()).bind fun fl4 => match fl4 with
    | .nx s9 =>
      (some none)
    | .rt r => some r
    | .bk _ => none
noncomputable abbrev mm_law_number_of (x : Nt × (List Rk) × Int × Unit) : Option (Option Int) := m_law_number_of x.1 x.2.1 x.2.2.1
noncomputable def msm_law_gone (self_ : (List Int) → Nt → (List Rk) → Option ((List Int) × (Option Int))) (many_ : (List Int)) (told_ : Nt) (rows_ : (List Rk)) : Option ((List Int) × (Option Int)) :=
  (some told_).bind fun row_ =>
  (((((some told_).bind fun t10 => asTup t10).bind fun t11 => (some (0 : Int)).bind fun t12 => atI t11.l t12).bind fun t13 => asTxt t13).bind fun t14 => (some (!decide (t14 = ("lamp" : Str))))).bind fun b15 => cond b15
    (((((some told_).bind fun t20 => asTup t20).bind fun t21 => (some (Tp.mk (cutA t21.l none (some (1 : Int)))))).bind fun t22 => tupNO t22).bind fun row_ =>
    ((((some told_).bind fun t29 => asTup t29).bind fun t30 => (some (some (1 : Int))).bind fun t31 => (some none).bind fun t32 => cutT? t30.l t31 t32).bind fun t33 => (some t33.l)).bind fun as34 => (forO (S := ((List Int) × Nt)) (ρ := ((List Int) × (Option Int))) (fun (part_ : Nt) s41 =>
        (some part_).bind fun c57 => (some rows_).bind fun c58 => (self_ s41.1 c57 c58).bind fun rz61 =>
        (some rz61.2.isNone).bind fun b73 => cond b73
          ((some none).bind fun rr83 => some (Fl.rt (rz61.1, rr83)))
          (((((some s41.2).bind fun t85 => asTup t85).bind fun t90 => (((((some rz61.2).bind fun t86 => t86).bind fun t87 => (some (Nt.int t87))).bind fun t88 => (some [t88])).bind fun t89 => (some (Tp.mk t89))).bind fun t91 => catTO t90 t91).bind fun t92 => tupNO t92).bind fun row_ =>
          some (Fl.nx (rz61.1, row_)))) as34 (many_, row_)).bind fun fl36 => match fl36 with
      | .nx s41 =>
        ((some s41.2).bind fun t113 => (some rows_).bind fun t114 => ((some s41.1).bind fun t111 => (some (0 : Int)).bind fun t112 => atI t111 t112).bind fun t115 => m_law_number_of t113 t114 t115).bind fun spot_ =>
        ((some spot_.isNone).bind fun t153 => cond t153 ((((some s41.1).bind fun t138 => (some (0 : Int)).bind fun t139 => atI t138 t139).bind fun t140 => (some (decide (t140 < (rows_.length : Int))))).bind fun t152 => cond t152 ((((some rows_).bind fun t147 => ((some s41.1).bind fun t145 => (some (0 : Int)).bind fun t146 => atI t145 t146).bind fun t148 => atI t147 t148).bind fun t149 => (some t149.nt)).bind fun t150 => (some s41.2).bind fun t151 => eqNO t150 t151) (some false)) (some false)).bind fun b154 => (cond b154
          ((((some s41.1).bind fun t168 => (some (0 : Int)).bind fun t169 => atI t168 t169).bind fun t170 => (some (some t170))).bind fun spot_ =>
          (((some s41.1).bind fun t180 => (some (0 : Int)).bind fun t181 => atI t180 t181).bind fun t182 => (some (t182 + (1 : Int)))).bind fun a183 => (some (0 : Int)).bind fun k185 => (setO s41.1 k185 a183).bind fun z194 =>
          some (z194, spot_))
          (some (s41.1, spot_))).bind fun s159 =>
        (some s159.2).bind fun rr203 => some (s159.1, rr203)
      | .rt r => some r
      | .bk _ => none)
    (((some row_).bind fun t212 => (some rows_).bind fun t213 => ((some many_).bind fun t210 => (some (0 : Int)).bind fun t211 => atI t210 t211).bind fun t214 => m_law_number_of t212 t213 t214).bind fun spot_ =>
    ((some spot_.isNone).bind fun t252 => cond t252 ((((some many_).bind fun t237 => (some (0 : Int)).bind fun t238 => atI t237 t238).bind fun t239 => (some (decide (t239 < (rows_.length : Int))))).bind fun t251 => cond t251 ((((some rows_).bind fun t246 => ((some many_).bind fun t244 => (some (0 : Int)).bind fun t245 => atI t244 t245).bind fun t247 => atI t246 t247).bind fun t248 => (some t248.nt)).bind fun t249 => (some row_).bind fun t250 => eqNO t249 t250) (some false)) (some false)).bind fun b253 => (cond b253
      ((((some many_).bind fun t267 => (some (0 : Int)).bind fun t268 => atI t267 t268).bind fun t269 => (some (some t269))).bind fun spot_ =>
      (((some many_).bind fun t279 => (some (0 : Int)).bind fun t280 => atI t279 t280).bind fun t281 => (some (t281 + (1 : Int)))).bind fun a282 => (some (0 : Int)).bind fun k284 => (setO many_ k284 a282).bind fun z293 =>
      some (z293, spot_))
      (some (many_, spot_))).bind fun s258 =>
    (some s258.2).bind fun rr302 => some (s258.1, rr302))
noncomputable def m_law_gone : Nat → (List Int) → Nt → (List Rk) → Option ((List Int) × (Option Int))
  | 0 => fun _ _ _ => none
  | n + 1 => fun many_ told_ rows_ => msm_law_gone (m_law_gone n) many_ told_ rows_
noncomputable abbrev mm_law_gone (fuel_ : Nat) (many_ : (List Int)) (x : Nt × (List Rk) × Unit) : Option ((List Int) × (Option Int)) := m_law_gone fuel_ many_ x.1 x.2.1
noncomputable def m_law (script_ : Scr) : Option Bool :=
  ((some script_).bind fun t1 => m_law_some t1).bind fun some_ =>
  ((some some_).bind fun t2 => m_book_of t2).bind fun book_ =>
  ((((some book_).bind fun t8 => m_law_book_kind t8).bind fun t9 => (some (!t9))).bind fun t10 => cond t10 (some true) (((some some_).bind fun t11 => (some some_).bind fun t12 => neNLO t11 t12).bind fun t13 => cond t13 (some true) (some (!decide ((book_.2.length : Int) = (some_.length : Int)))))).bind fun b11 => cond b11
    ((some false))
    ((some [(0 : Int)]).bind fun many_ =>
    (forO (S := List Int) (ρ := Bool) (fun (pr : Nt × Int) s => (m_law_gone 95 s pr.1 book_.1).bind fun rz => cond (!decide (rz.2 = some pr.2)) (some (Fl.rt false)) (some (Fl.nx rz.1))) (some_.zip book_.2) many_).bind fun fl => match fl with
      | .nx s => (((some s).bind fun t3 => (some (0 : Int)).bind fun t4 => atI t3 t4).bind fun t5 => (some (!decide (t5 = (book_.1.length : Int))))).bind fun b12 => cond b12
        ((some false))
        ((some (book_.1, book_.2)).bind fun kept_ =>
        (some (Rk.mk [(SI.s ("lamp" : Str)), (SI.s ("z" : Str))])).bind fun a15 => (consO a15 book_.1).bind fun z16 =>
        (some (7 : Int)).bind fun a17 => (pushO book_.2 a17).bind fun z18 =>
        (some (Nt.tup [(Nt.txt ("yes" : Str))])).bind fun a60 => (pushO some_ a60).bind fun z68 =>
        ((((some some_).bind fun t27 => m_book_of t27).bind fun t28 => (some (decide (t28 = kept_)))).bind fun t32 => cond t32 ((((some (cutA some_ none (some (1 : Int)))).bind fun t29 => m_book_of t29).bind fun t30 => (some t30.2)).bind fun t31 => (some (decide (t31 = (cutA kept_.2 none (some (1 : Int))))))) (some false)))
      | .rt r => some r
      | .bk _ => none)
noncomputable abbrev mm_law (x : Scr × Unit) : Option Bool := m_law x.1
end My
set_option Elab.async false
set_option linter.all false
set_option maxRecDepth 100000
set_option maxHeartbeats 4000000
namespace My
open PySem PySem.Spec PyProof.Rows L2
noncomputable def top (i : Nat) : Stmt := PySem.Challenge.pw_lassoscribe_k16_books_laid.main.body.getD i (.Pass ⟨0, 0, 0, 0⟩)
noncomputable abbrev s_parts_of : Stmt := top 1
noncomputable abbrev s_row_number : Stmt := top 3
noncomputable abbrev s_lay : Stmt := top 4
noncomputable abbrev s_book_of : Stmt := top 5
noncomputable abbrev s_law_cell_at : Stmt := top 7
noncomputable abbrev s_law_stream : Stmt := top 8
noncomputable abbrev s_law_leaf : Stmt := top 9
noncomputable abbrev s_law_put : Stmt := top 10
noncomputable abbrev s_law_built : Stmt := top 11
noncomputable abbrev s_law_cells : Stmt := top 12
noncomputable abbrev s_law_some : Stmt := top 13
noncomputable abbrev s_law_number_of : Stmt := top 14
noncomputable abbrev s_law_gone : Stmt := top 15
noncomputable abbrev s_law_whole : Stmt := top 16
noncomputable abbrev s_law_row_kind : Stmt := top 17
noncomputable abbrev s_law_book_kind : Stmt := top 18
noncomputable abbrev s_law : Stmt := top 19
structure Txt (mg : Str → Option Value) : Prop where
  bool_ : mg "bool" = none
  int_ : mg "int" = none
  isinstance_ : mg "isinstance" = none
  len_ : mg "len" = none
  list_ : mg "list" = none
  max_ : mg "max" = none
  range_ : mg "range" = none
  str_ : mg "str" = none
  tuple_ : mg "tuple" = none
  zip_ : mg "zip" = none
theorem sc_parts_of : FnScope ["sentence"] ["sentence"] (defScope s_parts_of) := ⟨rfl, rfl, rfl, by decide +kernel, rfl, by decide +kernel, by decide +kernel⟩
theorem sc_row_number : FnScope ["rows", "numbers", "row"] ["rows", "numbers", "row"] (defScope s_row_number) := ⟨rfl, rfl, rfl, by decide +kernel, rfl, by decide +kernel, by decide +kernel⟩
theorem sc_lay : FnScope ["rows", "numbers", "sentence", "row", "part"] ["rows", "numbers", "sentence"] (defScope s_lay) := ⟨rfl, rfl, rfl, by decide +kernel, rfl, by decide +kernel, by decide +kernel⟩
theorem sc_book_of : FnScope ["some", "rows", "numbers", "spots"] ["some"] (defScope s_book_of) := ⟨rfl, rfl, rfl, by decide +kernel, rfl, by decide +kernel, by decide +kernel⟩
theorem sc_law_cell_at : FnScope ["_law_script", "_law_k"] ["_law_script", "_law_k"] (defScope s_law_cell_at) := ⟨rfl, rfl, rfl, by decide +kernel, rfl, by decide +kernel, by decide +kernel⟩
theorem sc_law_stream : FnScope ["_law_cell", "_law_many", "_law_numbers", "_law_number", "_law_k"] ["_law_cell", "_law_many"] (defScope s_law_stream) := ⟨rfl, rfl, rfl, by decide +kernel, rfl, by decide +kernel, by decide +kernel⟩
theorem sc_law_leaf : FnScope ["_law_number"] ["_law_number"] (defScope s_law_leaf) := ⟨rfl, rfl, rfl, by decide +kernel, rfl, by decide +kernel, by decide +kernel⟩
theorem sc_law_put : FnScope ["_law_stack", "_law_spent", "_law_cell", "_law_room", "_law_kind", "_law_deep", "_law_other", "_law_one"] ["_law_stack", "_law_spent", "_law_cell", "_law_room"] (defScope s_law_put) := ⟨rfl, rfl, rfl, by decide +kernel, rfl, by decide +kernel, by decide +kernel⟩
theorem sc_law_built : FnScope ["_law_cells_here", "_law_room", "_law_stack", "_law_spent", "_law_cell", "_law_some_here", "_law_fewer"] ["_law_cells_here", "_law_room"] (defScope s_law_built) := ⟨rfl, rfl, rfl, by decide +kernel, rfl, by decide +kernel, by decide +kernel⟩
theorem sc_law_cells : FnScope ["_law_script", "_law_start", "_law_cell"] ["_law_script", "_law_start"] (defScope s_law_cells) := ⟨rfl, rfl, rfl, by decide +kernel, rfl, by decide +kernel, by decide +kernel⟩
theorem sc_law_some : FnScope ["_law_script", "_law_cell", "_law_some_here", "_law_k", "_law_told"] ["_law_script"] (defScope s_law_some) := ⟨rfl, rfl, rfl, by decide +kernel, rfl, by decide +kernel, by decide +kernel⟩
theorem sc_law_number_of : FnScope ["_law_row", "_law_rows", "_law_many", "_law_k"] ["_law_row", "_law_rows", "_law_many"] (defScope s_law_number_of) := ⟨rfl, rfl, rfl, by decide +kernel, rfl, by decide +kernel, by decide +kernel⟩
theorem sc_law_gone : FnScope ["_law_told", "_law_rows", "_law_many", "_law_row", "_law_part", "_law_spot"] ["_law_told", "_law_rows", "_law_many"] (defScope s_law_gone) := ⟨rfl, rfl, rfl, by decide +kernel, rfl, by decide +kernel, by decide +kernel⟩
theorem sc_law_whole : FnScope ["_law_thing"] ["_law_thing"] (defScope s_law_whole) := ⟨rfl, rfl, rfl, by decide +kernel, rfl, by decide +kernel, by decide +kernel⟩
theorem sc_law_row_kind : FnScope ["_law_row"] ["_law_row"] (defScope s_law_row_kind) := ⟨rfl, rfl, rfl, by decide +kernel, rfl, by decide +kernel, by decide +kernel⟩
theorem sc_law_book_kind : FnScope ["_law_book", "_law_row"] ["_law_book"] (defScope s_law_book_kind) := ⟨rfl, rfl, rfl, by decide +kernel, rfl, by decide +kernel, by decide +kernel⟩
theorem sc_law : FnScope ["_law_script", "_law_some_here", "_law_handed", "_law_book", "_law_many", "_law_told", "_law_spot", "_law_kept"] ["_law_script"] (defScope s_law) := ⟨rfl, rfl, rfl, by decide +kernel, rfl, by decide +kernel, by decide +kernel⟩
noncomputable def sp_law (K : PySem.W.Frag) : Sp := fun vs H Q _ => ∃ (a : Addr) (ns : List Int), vs = [.ref a] ∧ SqL K H a (ns.map V.int) ∧ ns.length ≤ 63 ∧ ∀ H', Q (.bl true) H'
section
variable {P : Program} {w : World} {K : PySem.W.Frag} {mg : Str → Option Value} {base : Heap}
theorem ok_law_cell_at {f : Addr} {fd : FuncData} (F : Fun K "_law_cell_at" "_law_cell_at" s_law_cell_at f fd) (T : Txt mg) : FnOk P w K mg base CX0 1 f fd ["_law_script", "_law_k"] (spM K mm_law_cell_at) := by
  refine F.ok sc_law_cell_at (fun vs H Q E h => (spM_len h).trans rfl) (fun cdv A outer s H0 vs Q E hr h => ?_)
  obtain ⟨G0, ⟨script_, ⟨k_, ⟨⟩⟩⟩, res, sg0, ⟨v_script_, _, rfl, r_script_, ⟨v_k_, _, rfl, r_k_, rfl⟩⟩, hm, q⟩ := h
  replace r_script_ : Rp.rel K G0 v_script_ script_ := r_script_
  replace r_k_ : Rp.rel K G0 v_k_ k_ := r_k_
  replace hm : m_law_cell_at script_ k_ = some res := hm
  unfold m_law_cell_at at hm
  have xt : Ext G0 H0 G0 H0 := Ext.refl sg0
  refine ⟨_, (pss_cons (ps_if (pt_cmpR op_ltU (pv 1) (pe_callB (call_lenK (K := K) rfl) (by rfl) T.len_ bt_len (pa_cons (pv 0) pa_nil)) (nomark _)) (pss_cons (ps_ret (pe_ix (ix_anyK (K := K) rfl) (pv 0) (pv 1) (fun _ _ => rfl)))
      pss_nil) pss_nil)
      (pss_cons (ps_ret pe_int)
      pss_nil)), ?_⟩
  refine bE hm fun b1 h2 hm => ?_
  refine sv_if (tv_test (K := K) (ev_ord (ev_var rfl r_k_) (ev_lenX (ev_var rfl r_script_)))) h2 xt.gh fun G3 H4 x5 => ?_
  have xt := xt.trans x5
  have r_script_ := Rp.mono x5.gg r_script_
  have r_k_ := Rp.mono x5.gg r_k_
  cases b1 with
  | true =>
    replace hm := cT hm
    refine iteT ?_
    exact sv_ret (K := K) (ev_atX (ev_var rfl r_script_) (ev_var rfl r_k_)) hm xt.gh fun v8 G9 H10 x11 r12 => q v8 G9 H10 (xt.trans x11) r12
  | false =>
    replace hm := cF hm
    refine iteF ?_
    exact sv_ret (K := K) (rest := tNext) (σ := [some v_script_, some v_k_]) ev_i hm xt.gh fun v13 G14 H15 x16 r17 => q v13 G14 H15 (xt.trans x16) r17
theorem ok_law_leaf {f : Addr} {fd : FuncData} (F : Fun K "_law_leaf" "_law_leaf" s_law_leaf f fd) (T : Txt mg) : FnOk P w K mg base CX0 1 f fd ["_law_number"] (spM K mm_law_leaf) := by
  refine F.ok sc_law_leaf (fun vs H Q E h => (spM_len h).trans rfl) (fun cdv A outer s H0 vs Q E hr h => ?_)
  obtain ⟨G0, ⟨number_, ⟨⟩⟩, res, sg0, ⟨v_number_, _, rfl, r_number_, rfl⟩, hm, q⟩ := h
  replace r_number_ : Rp.rel K G0 v_number_ number_ := r_number_
  replace hm : m_law_leaf number_ = some res := hm
  unfold m_law_leaf at hm
  have xt : Ext G0 H0 G0 H0 := Ext.refl sg0
  refine ⟨_, (pss_cons (ps_if (pt_cmpR op_eq (pe_op op_mod (pv 0) pe_int) pe_int (nomark _)) (pss_cons (ps_ret (pe_tup (pa_cons pe_str pa_nil)))
      pss_nil) pss_nil)
      (pss_cons (ps_ret (pe_tup (pa_cons pe_str (pa_cons (pe_ix (ix_anyK (K := K) rfl) pe_str (pe_op op_mod (pe_op op_fdiv (pv 0) pe_int) pe_int) (fun _ _ => rfl)) pa_nil))))
      pss_nil)), ?_⟩
  refine bE hm fun b1 h2 hm => ?_
  refine sv_if (tv_test (K := K) (ev_eqI (ev_modR (ev_var rfl r_number_)) ev_i)) h2 xt.gh fun G3 H4 x5 => ?_
  have xt := xt.trans x5
  have r_number_ := Rp.mono x5.gg r_number_
  cases b1 with
  | true =>
    replace hm := cT hm
    refine iteT ?_
    exact sv_ret (K := K) (rest := tNext) (σ := [some v_number_]) (ev_tupNL (lv_cons (ev_txtN ev_s) (lv_nil (α := Nt)))) hm xt.gh fun v6 G7 H8 x9 r10 => q v6 G7 H8 (xt.trans x9) r10
  | false =>
    replace hm := cF hm
    refine iteF ?_
    exact sv_ret (K := K) (ev_tupNL (lv_cons (ev_txtN ev_s) (lv_cons (ev_txtN (ev_atS ev_s (ev_modR (ev_divR (ev_var rfl r_number_))))) (lv_nil (α := Nt))))) hm xt.gh fun v17 G18 H19 x20 r21 => q v17 G18 H19 (xt.trans x20) r21
theorem ok_law_put {f : Addr} {fd : FuncData} (F : Fun K "_law_put" "_law_put" s_law_put f fd) (T : Txt mg) (D_law_leaf : DefOk P w K mg base "_law_leaf" 1 ["_law_number"] (spM K mm_law_leaf)) : FnOk P w K mg base CX0 2 f fd ["_law_stack", "_law_spent", "_law_cell", "_law_room"] (spW2 K mm_law_put) := by
  refine F.ok sc_law_put (fun vs H Q E h => (spW2_len h).trans rfl) (fun cdv A outer s H9 vs Q E hr h => ?_)
  obtain ⟨G0, p_stack_, p_spent_, vs_stack_, vs_spent_, _, stack_, spent_, ⟨cell_, ⟨room_, ⟨⟩⟩⟩, res, rfl, sg0, ne_pq, o_stack_, o_spent_, ⟨v_cell_, _, rfl, r_cell_, ⟨v_room_, _, rfl, r_room_, rfl⟩⟩, hm, q⟩ := h
  have xt : Ext G0 (era H9 [p_stack_, p_spent_]) G0 H9 := Ext.begin sg0
  have hz_stack_ : era H9 [p_stack_, p_spent_] p_stack_ = none := era_in (by simp)
  have hz_spent_ : era H9 [p_stack_, p_spent_] p_spent_ = none := era_in (by simp)
  generalize era H9 [p_stack_, p_spent_] = H0 at xt q hz_stack_ hz_spent_
  replace r_cell_ : Rp.rel K G0 v_cell_ cell_ := r_cell_
  replace r_room_ : Rp.rel K G0 v_room_ room_ := r_room_
  replace hm : m_law_put stack_ spent_ cell_ room_ = some res := hm
  unfold m_law_put at hm
  refine ⟨_, (pss_cons (ps_set (i := 4) sc_law_put.nd rfl (Or.inl rfl) (pe_op op_mod (pv 2) pe_int))
      (pss_cons (ps_set (i := 5) sc_law_put.nd rfl (Or.inl rfl) (pe_ifExp (pt_cmpR op_gtU (pe_callB (call_lenK (K := K) rfl) (by rfl) T.len_ bt_len (pa_cons (pv 0) pa_nil)) pe_int (nomark _)) (pe_ix (ix_anyK (K := K) rfl) (pe_ix (ix_anyK (K := K) rfl) (pv 0) (pe_un un_neg pe_int) (fun _ _ => rfl)) pe_int (fun _ _ => rfl)) pe_int))
      (pss_cons (ps_if (PW.pt (pw_and (pt_cmpR op_ltU (pv 4) pe_int (nomark _)) (pw_and (pt_cmpR op_gtU (pe_callB (call_lenK (K := K) rfl) (by rfl) T.len_ bt_len (pa_cons (pv 0) pa_nil)) pe_int (nomark _)) (pw_and1 (pt_cmpR op_ltU (pv 5) pe_int (nomark _)))))) (pss_cons (ps_if (pt_cmpR op_leU (pe_op (op_plusK (K := K) rfl) (pe_ix (ix_anyK (K := K) rfl) (pv 1) pe_int (fun _ _ => rfl)) (pe_callB (call_lenK (K := K) rfl) (by rfl) T.len_ bt_len (pa_cons (pv 0) pa_nil))) (pv 3) (nomark _)) (pss_cons (ps_expr (pe_bmK (K := K) rfl PySem.F.plainAttrs_list PySem.F.slot_list_append PySem.F.type_list_append mt_append (pv 0) (pa_cons (pe_tup (pa_cons (pe_tup (pa_cons (pe_ix (ix_anyK (K := K) rfl) (pe_lst (pa_cons pe_str (pa_cons pe_str pa_nil))) (pe_op op_mod (pv 4) pe_int) (fun _ _ => rfl)) (pa_cons (pe_ix (ix_anyK (K := K) rfl) (pe_bm0K (K := K) rfl PySem.F.plainAttrs_list PySem.F.slot_list_pop PySem.F.type_list_pop mt_pop (pv 0)) pe_int (fun _ _ => rfl)) pa_nil))) (pa_cons (pe_op (op_plusK (K := K) rfl) (pv 5) pe_int) pa_nil))) pa_nil)))
      (pss_cons (ps_asg (pe_op (op_plusK (K := K) rfl) (pe_ix (ix_anyK (K := K) rfl) (pv 1) pe_int (fun _ _ => rfl)) pe_int) (pg_sub (pv 1) pe_int set_list))
      pss_nil)) pss_nil)
      pss_nil) (pss_cons (ps_if (PW.pt (pw_and (pt_chain op_ltU op_ltU pe_int (pv 4) pe_int) (pw_and (pt_cmpR op_gtU (pe_callB (call_lenK (K := K) rfl) (by rfl) T.len_ bt_len (pa_cons (pv 0) pa_nil)) pe_int (nomark _)) (pw_and1 (pt_cmpR op_ltU (pe_callB (call_max2 rfl) (by rfl) T.max_ bt_max (pa_cons (pv 5) (pa_cons (pe_ix (ix_anyK (K := K) rfl) (pe_ix (ix_anyK (K := K) rfl) (pv 0) (pe_un un_neg pe_int) (fun _ _ => rfl)) pe_int (fun _ _ => rfl)) pa_nil))) pe_int (nomark _)))))) (pss_cons (ps_set (i := 6) sc_law_put.nd rfl (Or.inl rfl) (pe_bm0K (K := K) rfl PySem.F.plainAttrs_list PySem.F.slot_list_pop PySem.F.type_list_pop mt_pop (pv 0)))
      (pss_cons (ps_set (i := 7) sc_law_put.nd rfl (Or.inl rfl) (pe_bm0K (K := K) rfl PySem.F.plainAttrs_list PySem.F.slot_list_pop PySem.F.type_list_pop mt_pop (pv 0)))
      (pss_cons (ps_expr (pe_bmK (K := K) rfl PySem.F.plainAttrs_list PySem.F.slot_list_append PySem.F.type_list_append mt_append (pv 0) (pa_cons (pe_tup (pa_cons (pe_tup (pa_cons (pe_ix (ix_anyK (K := K) rfl) (pe_lst (pa_cons pe_str (pa_cons pe_str pa_nil))) (pe_op op_mod (pv 4) pe_int) (fun _ _ => rfl)) (pa_cons (pe_ix (ix_anyK (K := K) rfl) (pv 7) pe_int (fun _ _ => rfl)) (pa_cons (pe_ix (ix_anyK (K := K) rfl) (pv 6) pe_int (fun _ _ => rfl)) pa_nil)))) (pa_cons (pe_op (op_plusK (K := K) rfl) pe_int (pe_callB (call_max2 rfl) (by rfl) T.max_ bt_max (pa_cons (pe_ix (ix_anyK (K := K) rfl) (pv 7) pe_int (fun _ _ => rfl)) (pa_cons (pe_ix (ix_anyK (K := K) rfl) (pv 6) pe_int (fun _ _ => rfl)) pa_nil)))) pa_nil))) pa_nil)))
      (pss_cons (ps_asg (pe_op (op_plusK (K := K) rfl) (pe_ix (ix_anyK (K := K) rfl) (pv 1) pe_int (fun _ _ => rfl)) pe_int) (pg_sub (pv 1) pe_int set_list))
      pss_nil)))) (pss_cons (ps_if (pt_cmpR op_leU (pe_op (op_plusK (K := K) rfl) (pe_op (op_plusK (K := K) rfl) (pe_ix (ix_anyK (K := K) rfl) (pv 1) pe_int (fun _ _ => rfl)) (pe_callB (call_lenK (K := K) rfl) (by rfl) T.len_ bt_len (pa_cons (pv 0) pa_nil))) pe_int) (pv 3) (nomark _)) (pss_cons (ps_expr (pe_bmK (K := K) rfl PySem.F.plainAttrs_list PySem.F.slot_list_append PySem.F.type_list_append mt_append (pv 0) (pa_cons (pe_tup (pa_cons (pe_def D_law_leaf hr (by decide) rfl (pa_cons (pe_op op_fdiv (pv 2) pe_int) pa_nil)) (pa_cons pe_int pa_nil))) pa_nil)))
      (pss_cons (ps_asg (pe_op (op_plusK (K := K) rfl) (pe_ix (ix_anyK (K := K) rfl) (pv 1) pe_int (fun _ _ => rfl)) pe_int) (pg_sub (pv 1) pe_int set_list))
      pss_nil)) pss_nil)
      pss_nil))
      pss_nil))
      pss_nil))), ?_⟩
  refine bE hm fun kind_ h6 hm => ?_
  refine sv_set (K := K) (ev_modR (ev_var rfl r_cell_)) h6 xt.gh fun v1 G2 H3 x4 r5 => ?_
  have xt := xt.trans x4
  have o_stack_ := o_stack_.ext x4
  have o_spent_ := o_spent_.ext x4
  have r_cell_ := Rp.mono x4.gg r_cell_
  have r_room_ := Rp.mono x4.gg r_room_
  refine bE hm fun deep_ h20 hm => ?_
  refine sv_setB (K := K) o_stack_ (ev_ifx (tv_test (K := K) (ev_ord (ev_len (ev_var rfl o_stack_.tell)) ev_i)) (ev_snd (ev_at (ev_var rfl o_stack_.tell) (ev_neg ev_i))) ev_i) h20 xt.gh fun v15 G16 H17 x18 r19 => ?_
  have xt := xt.trans x18
  have o_stack_ := o_stack_.ext x18
  have o_spent_ := o_spent_.ext x18
  have r_cell_ := Rp.mono x18.gg r_cell_
  have r_room_ := Rp.mono x18.gg r_room_
  have r5 := Rp.mono x18.gg r5
  refine bE hm fun b21 h22 hm => ?_
  refine bE hm fun s26 h27 hm => ?_
  refine sv_join (fun S196 H195 => ∃ (G194 : Hp) (v29 : Option V) (v31 : Option V), Ext G0 H0 G194 H195 ∧ Same G16 G194 ∧ S196 = [some (V.ref p_stack_), some (V.ref p_spent_), some v_cell_, some v_room_, some v1, some v15, v29, v31] ∧ (∃ vs, Own K G194 H195 (V.ref p_stack_) p_stack_ vs s26.1) ∧ (∃ vs, Own K G194 H195 (V.ref p_spent_) p_spent_ vs s26.2)) (fun nx kn33 => ?_) ?_
  · refine sv_ifB o_stack_ (tv_andP (tv_test (K := K) (ev_ord (ev_var rfl (Rp.mono (Same.new o_stack_.g) r5)) ev_i)) (tv_andP (tv_test (K := K) (ev_ord (ev_len (ev_var rfl o_stack_.tell)) ev_i)) (tv_test (K := K) (ev_ord (ev_var rfl (Rp.mono (Same.new o_stack_.g) r19)) ev_i)))) h22 xt.gh fun G23 H24 x25 => ?_
    have xt := xt.trans x25
    have o_stack_ := o_stack_.ext x25
    have o_spent_ := o_spent_.ext x25
    have r_cell_ := Rp.mono x25.gg r_cell_
    have r_room_ := Rp.mono x25.gg r_room_
    have r5 := Rp.mono x25.gg r5
    have r19 := Rp.mono x25.gg r19
    have mk28 : Same G16 G23 := x25.gg
    have hm := h27
    cases b21 with
    | true =>
      replace hm := cT hm
      refine iteT ?_
      refine bE hm fun b42 h43 hm => ?_
      refine sv_ifBB o_stack_ o_spent_ (by first | assumption | exact Ne.symm (by assumption)) (tv_test (K := K) (ev_ord (ev_add (ev_at (ev_var rfl (o_spent_.over (by first | assumption | exact Ne.symm (by assumption)) o_stack_.g).tell) ev_i) (ev_len (ev_var rfl (Rp.mono (Same.new (o_spent_.over (by first | assumption | exact Ne.symm (by assumption)) o_stack_.g).g) o_stack_.tell)))) (ev_var rfl (Rp.mono (Same.new (o_spent_.over (by first | assumption | exact Ne.symm (by assumption)) o_stack_.g).g) (Rp.mono (Same.new o_stack_.g) r_room_))))) h43 xt.gh fun G44 H45 x46 => ?_
      have xt := xt.trans x46
      have mk28 := mk28.trans x46.gg
      have o_stack_ := o_stack_.ext x46
      have o_spent_ := o_spent_.ext x46
      have r_cell_ := Rp.mono x46.gg r_cell_
      have r_room_ := Rp.mono x46.gg r_room_
      have r5 := Rp.mono x46.gg r5
      have r19 := Rp.mono x46.gg r19
      cases b42 with
      | true =>
        replace hm := cT hm
        refine iteT ?_
        refine bE hm fun pr47 h48 hm => ?_
        refine bE hm fun a49 h50 hm => ?_
        refine bE hm fun z51 h52 hm => ?_
        refine sv_appendP (K := K) (as' := pr47.2) rfl o_stack_ (pv_pair (pv_tupN (pl_there (bv_ev (ev_at (FV.ev (fv_lst (lv_cons (ev_txtN ev_s) (lv_cons (ev_txtN ev_s) (lv_nil (α := Nt)))))) (ev_modR (ev_var rfl r5)))) (pl_here (pv_fst (pv_pop (a := pr47.1) (as' := pr47.2) rfl h48)) (lv_nil (α := Nt))))) (ev_add (ev_var rfl r19) ev_i)) h50 h52 xt.gh fun G53 H54 w55 y56 o57 => ?_
        have xt : Ext G0 H0 G53 (upd H54 p_stack_ (.lst (vs_stack_.dropLast ++ [w55]))) := (xt.past (C := [p_stack_]) (fun b hb => by rw [List.mem_singleton.mp hb]; exact hz_stack_) y56).put hz_stack_ o57.g
        have mk28 := mk28.trans y56.gg
        have o_spent_ := (o_spent_.past (by rw [List.mem_singleton]; exact (by first | assumption | exact Ne.symm (by assumption))) y56).put (q := p_stack_) (ho := .lst (vs_stack_.dropLast ++ [w55])) (by first | assumption | exact Ne.symm (by assumption))
        have r_cell_ := Rp.mono y56.gg r_cell_
        have r_room_ := Rp.mono y56.gg r_room_
        have r5 := Rp.mono y56.gg r5
        have r19 := Rp.mono y56.gg r19
        refine bE hm fun a69 h70 hm => ?_
        refine bE hm fun k71 h72 hm => ?_
        refine bE hm fun z80 h73 hm => ?_
        refine sv_setitemB (K := K) rfl o_spent_ (ev_add (ev_at (ev_var rfl o_spent_.tell) ev_i) ev_i) h70 ev_i h72 h73 xt.gh fun G74 H75 w76 j77 x78 o79 => ?_
        have xt : Ext G0 H0 G74 (upd H75 p_spent_ (.lst (vs_spent_.set j77 w76))) := (xt.trans x78).put hz_spent_ o79.g
        have mk28 := mk28.trans x78.gg
        have o57 := (o57.ext x78).put (q := p_spent_) (ho := .lst (vs_spent_.set j77 w76)) (by first | assumption | exact Ne.symm (by assumption))
        have r_cell_ := Rp.mono x78.gg r_cell_
        have r_room_ := Rp.mono x78.gg r_room_
        have r5 := Rp.mono x78.gg r5
        have r19 := Rp.mono x78.gg r19
        cases hm
        exact kn33 _ _ ⟨G74, _, _, xt, mk28, rfl, ⟨_, o57⟩, ⟨_, o79⟩⟩
      | false =>
        replace hm := cF hm
        refine iteF ?_
        cases hm
        exact kn33 _ _ ⟨G44, _, _, xt, mk28, rfl, ⟨_, o_stack_⟩, ⟨_, o_spent_⟩⟩
    | false =>
      replace hm := cF hm
      refine iteF ?_
      refine bE hm fun b103 h104 hm => ?_
      refine sv_ifB o_stack_ (tv_and (tv_test (K := K) (ev_chain ev_i (ev_var rfl (Rp.mono (Same.new o_stack_.g) r5)) ev_i)) (tv_and (tv_test (K := K) (ev_ord (ev_len (ev_var rfl o_stack_.tell)) ev_i)) (tv_test (K := K) (ev_ord (ev_max (ev_var rfl (Rp.mono (Same.new o_stack_.g) r19)) (ev_snd (ev_at (ev_var rfl o_stack_.tell) (ev_neg ev_i)))) ev_i)))) h104 xt.gh fun G105 H106 x107 => ?_
      have xt := xt.trans x107
      have mk28 := mk28.trans x107.gg
      have o_stack_ := o_stack_.ext x107
      have o_spent_ := o_spent_.ext x107
      have r_cell_ := Rp.mono x107.gg r_cell_
      have r_room_ := Rp.mono x107.gg r_room_
      have r5 := Rp.mono x107.gg r5
      have r19 := Rp.mono x107.gg r19
      cases b103 with
      | true =>
        replace hm := cT hm
        refine iteT ?_
        refine bE hm fun pr108 h109 hm => ?_
        refine sv_pop (K := K) (a := pr108.1) (as' := pr108.2) rfl o_stack_ h109 fun w110 r111 o112 => ?_
        have xt : Ext G0 H0 G105 (upd H106 p_stack_ (.lst vs_stack_.dropLast)) := xt.put hz_stack_ o112.g
        have o_spent_ := o_spent_.put (q := p_stack_) (ho := .lst vs_stack_.dropLast) (by first | assumption | exact Ne.symm (by assumption))
        refine bE hm fun pr113 h114 hm => ?_
        refine sv_pop (K := K) (a := pr113.1) (as' := pr113.2) rfl o112 h114 fun w115 r116 o117 => ?_
        have xt : Ext G0 H0 G105 (upd (upd H106 p_stack_ (.lst vs_stack_.dropLast)) p_stack_ (.lst vs_stack_.dropLast.dropLast)) := xt.put hz_stack_ o117.g
        have o_spent_ := o_spent_.put (q := p_stack_) (ho := .lst vs_stack_.dropLast.dropLast) (by first | assumption | exact Ne.symm (by assumption))
        refine bE hm fun a123 h124 hm => ?_
        refine bE hm fun z131 h125 hm => ?_
        refine sv_append (K := K) rfl o117 (ev_tup2 (ev_tupNL (lv_cons (ev_at (FV.ev (fv_lst (lv_cons (ev_txtN ev_s) (lv_cons (ev_txtN ev_s) (lv_nil (α := Nt)))))) (ev_modR (ev_var rfl r5))) (lv_cons (ev_fst (ev_var rfl r116)) (lv_cons (ev_fst (ev_var rfl r111)) (lv_nil (α := Nt)))))) (ev_add ev_i (ev_max (ev_snd (ev_var rfl r116)) (ev_snd (ev_var rfl r111))))) h124 h125 xt.gh fun G126 H127 w128 x129 o130 => ?_
        have xt : Ext G0 H0 G126 (upd H127 p_stack_ (.lst (vs_stack_.dropLast.dropLast ++ [w128]))) := (xt.trans x129).put hz_stack_ o130.g
        have mk28 := mk28.trans x129.gg
        have o_spent_ := (o_spent_.ext x129).put (q := p_stack_) (ho := .lst (vs_stack_.dropLast.dropLast ++ [w128])) (by first | assumption | exact Ne.symm (by assumption))
        have r_cell_ := Rp.mono x129.gg r_cell_
        have r_room_ := Rp.mono x129.gg r_room_
        have r5 := Rp.mono x129.gg r5
        have r19 := Rp.mono x129.gg r19
        have r111 := Rp.mono x129.gg r111
        have r116 := Rp.mono x129.gg r116
        refine bE hm fun a138 h139 hm => ?_
        refine bE hm fun k140 h141 hm => ?_
        refine bE hm fun z149 h142 hm => ?_
        refine sv_setitemB (K := K) rfl o_spent_ (ev_add (ev_at (ev_var rfl o_spent_.tell) ev_i) ev_i) h139 ev_i h141 h142 xt.gh fun G143 H144 w145 j146 x147 o148 => ?_
        have xt : Ext G0 H0 G143 (upd H144 p_spent_ (.lst (vs_spent_.set j146 w145))) := (xt.trans x147).put hz_spent_ o148.g
        have mk28 := mk28.trans x147.gg
        have o130 := (o130.ext x147).put (q := p_spent_) (ho := .lst (vs_spent_.set j146 w145)) (by first | assumption | exact Ne.symm (by assumption))
        have r_cell_ := Rp.mono x147.gg r_cell_
        have r_room_ := Rp.mono x147.gg r_room_
        have r5 := Rp.mono x147.gg r5
        have r19 := Rp.mono x147.gg r19
        have r111 := Rp.mono x147.gg r111
        have r116 := Rp.mono x147.gg r116
        cases hm
        exact kn33 _ _ ⟨G143, _, _, xt, mk28, rfl, ⟨_, o130⟩, ⟨_, o148⟩⟩
      | false =>
        replace hm := cF hm
        refine iteF ?_
        refine bE hm fun b160 h161 hm => ?_
        refine sv_ifBB o_stack_ o_spent_ (by first | assumption | exact Ne.symm (by assumption)) (tv_test (K := K) (ev_ord (ev_add (ev_add (ev_at (ev_var rfl (o_spent_.over (by first | assumption | exact Ne.symm (by assumption)) o_stack_.g).tell) ev_i) (ev_len (ev_var rfl (Rp.mono (Same.new (o_spent_.over (by first | assumption | exact Ne.symm (by assumption)) o_stack_.g).g) o_stack_.tell)))) ev_i) (ev_var rfl (Rp.mono (Same.new (o_spent_.over (by first | assumption | exact Ne.symm (by assumption)) o_stack_.g).g) (Rp.mono (Same.new o_stack_.g) r_room_))))) h161 xt.gh fun G162 H163 x164 => ?_
        have xt := xt.trans x164
        have mk28 := mk28.trans x164.gg
        have o_stack_ := o_stack_.ext x164
        have o_spent_ := o_spent_.ext x164
        have r_cell_ := Rp.mono x164.gg r_cell_
        have r_room_ := Rp.mono x164.gg r_room_
        have r5 := Rp.mono x164.gg r5
        have r19 := Rp.mono x164.gg r19
        cases b160 with
        | true =>
          replace hm := cT hm
          refine iteT ?_
          refine bE hm fun a167 h168 hm => ?_
          refine bE hm fun z175 h169 hm => ?_
          refine sv_append (K := K) rfl o_stack_ (ev_tup2 (ev_def1 (m := mm_law_leaf) (ev_divR (ev_var rfl r_cell_))) ev_i) h168 h169 xt.gh fun G170 H171 w172 x173 o174 => ?_
          have xt : Ext G0 H0 G170 (upd H171 p_stack_ (.lst (vs_stack_ ++ [w172]))) := (xt.trans x173).put hz_stack_ o174.g
          have mk28 := mk28.trans x173.gg
          have o_spent_ := (o_spent_.ext x173).put (q := p_stack_) (ho := .lst (vs_stack_ ++ [w172])) (by first | assumption | exact Ne.symm (by assumption))
          have r_cell_ := Rp.mono x173.gg r_cell_
          have r_room_ := Rp.mono x173.gg r_room_
          have r5 := Rp.mono x173.gg r5
          have r19 := Rp.mono x173.gg r19
          refine bE hm fun a182 h183 hm => ?_
          refine bE hm fun k184 h185 hm => ?_
          refine bE hm fun z193 h186 hm => ?_
          refine sv_setitemB (K := K) rfl o_spent_ (ev_add (ev_at (ev_var rfl o_spent_.tell) ev_i) ev_i) h183 ev_i h185 h186 xt.gh fun G187 H188 w189 j190 x191 o192 => ?_
          have xt : Ext G0 H0 G187 (upd H188 p_spent_ (.lst (vs_spent_.set j190 w189))) := (xt.trans x191).put hz_spent_ o192.g
          have mk28 := mk28.trans x191.gg
          have o174 := (o174.ext x191).put (q := p_spent_) (ho := .lst (vs_spent_.set j190 w189)) (by first | assumption | exact Ne.symm (by assumption))
          have r_cell_ := Rp.mono x191.gg r_cell_
          have r_room_ := Rp.mono x191.gg r_room_
          have r5 := Rp.mono x191.gg r5
          have r19 := Rp.mono x191.gg r19
          cases hm
          exact kn33 _ _ ⟨G187, _, _, xt, mk28, rfl, ⟨_, o174⟩, ⟨_, o192⟩⟩
        | false =>
          replace hm := cF hm
          refine iteF ?_
          cases hm
          exact kn33 _ _ ⟨G162, _, _, xt, mk28, rfl, ⟨_, o_stack_⟩, ⟨_, o_spent_⟩⟩
  · rintro _ H195 ⟨G194, v29, v31, xt, mk28, rfl, ⟨vs_stack_, o_stack_⟩, ⟨vs_spent_, o_spent_⟩⟩
    have r_cell_ := Rp.mono mk28 r_cell_
    have r_room_ := Rp.mono mk28 r_room_
    have r5 := Rp.mono mk28 r5
    have r19 := Rp.mono mk28 r19
    cases hm
    exact q _ _ _ _ xt o_stack_ o_spent_
theorem ok_law_built {f : Addr} {fd : FuncData} (F : Fun K "_law_built" "_law_built" s_law_built f fd) (T : Txt mg) (D_law_put : DefOk P w K mg base "_law_put" 2 ["_law_stack", "_law_spent", "_law_cell", "_law_room"] (spW2 K mm_law_put)) : FnOk P w K mg base CX0 3 f fd ["_law_cells_here", "_law_room"] (spM K mm_law_built) := by
  refine F.ok sc_law_built (fun vs H Q E h => (spM_len h).trans rfl) (fun cdv A outer s H0 vs Q E hr h => ?_)
  obtain ⟨G0, ⟨cells_here_, ⟨room_, ⟨⟩⟩⟩, res, sg0, ⟨v_cells_here_, _, rfl, r_cells_here_, ⟨v_room_, _, rfl, r_room_, rfl⟩⟩, hm, q⟩ := h
  replace r_cells_here_ : Rp.rel K G0 v_cells_here_ cells_here_ := r_cells_here_
  replace r_room_ : Rp.rel K G0 v_room_ room_ := r_room_
  replace hm : m_law_built cells_here_ room_ = some res := hm
  unfold m_law_built at hm
  have xt : Ext G0 H0 G0 H0 := Ext.refl sg0
  refine ⟨_, (pss_cons (ps_set (i := 2) sc_law_built.nd rfl (Or.inl rfl) (pe_lst (pa_cons (pe_tup (pa_cons (pe_tup (pa_cons pe_str (pa_cons (pe_ix (ix_anyK (K := K) rfl) pe_str (pe_op op_mod (pv 1) pe_int) (fun _ _ => rfl)) pa_nil))) (pa_cons pe_int pa_nil))) pa_nil)))
      (pss_cons (ps_set (i := 3) sc_law_built.nd rfl (Or.inl rfl) (pe_lst (pa_cons pe_int pa_nil)))
      (pss_cons (ps_for PassesOwn.never rfl (pi_anyK (K := K) rfl (pv 0)) (pg_name (i := 4) sc_law_built.nd rfl (Or.inl rfl)) (pss_cons (ps_expr (pe_def D_law_put hr (by decide) rfl (pa_cons (pv 2) (pa_cons (pv 3) (pa_cons (pv 4) (pa_cons (pv 1) pa_nil))))))
      pss_nil))
      (pss_cons (ps_set (i := 5) sc_law_built.nd rfl (Or.inr rfl) (pe_comp (cn := []) (cap := []) rfl ⟨by decide +kernel, rfl, by decide +kernel, free_of rfl⟩ rfl (by decide +kernel) trivial (pi_anyK (K := K) rfl (pv 2)) (fun C s0 H0 fp => ⟨pts_nil, (pe_ix (ix_anyK (K := K) rfl) (pv 0) pe_int (fun _ _ => rfl))⟩)))
      (pss_cons (ps_while PassesOwn.never (pt_cmpR op_gtU (pe_callB (call_lenK (K := K) rfl) (by rfl) T.len_ bt_len (pa_cons (pv 5) pa_nil)) pe_int (nomark _)) (pss_cons (ps_setcomp (i := 6) sc_law_built.nd rfl (Or.inl rfl) (cn := ["_law_some_here"]) (cap := [5]) rfl ⟨by decide +kernel, rfl, by decide +kernel, free_of rfl⟩ rfl (by decide +kernel) ⟨⟨rfl, .inl rfl, rfl⟩, trivial⟩ (pi_range1 rfl T.range_ (pa_cons (pe_op op_fdiv (pe_callB (call_lenK (K := K) rfl) (by rfl) T.len_ bt_len (pa_cons (pv 5) pa_nil)) pe_int) pa_nil)) (fun C s0 H0 fp => ⟨pts_nil, (pe_tup (pa_cons (pe_ix (ix_anyK (K := K) rfl) (pe_lst (pa_cons pe_str (pa_cons pe_str pa_nil))) (pe_op op_mod (pv 0) pe_int) (fun _ _ => rfl)) (pa_cons (pe_ix (ix_anyK (K := K) rfl) (pv 1) (pe_op (op_mulK (K := K) rfl) pe_int (pv 0)) (fun _ _ => rfl)) (pa_cons (pe_ix (ix_anyK (K := K) rfl) (pv 1) (pe_op (op_plusK (K := K) rfl) (pe_op (op_mulK (K := K) rfl) pe_int (pv 0)) pe_int) (fun _ _ => rfl)) pa_nil))))⟩))
      (pss_cons (ps_if (pt_cmpR op_eq (pe_op op_mod (pe_callB (call_lenK (K := K) rfl) (by rfl) T.len_ bt_len (pa_cons (pv 5) pa_nil)) pe_int) pe_int (nomark _)) (pss_cons (ps_expr (pe_bmK (K := K) rfl PySem.F.plainAttrs_list PySem.F.slot_list_append PySem.F.type_list_append mt_append (pv 6) (pa_cons (pe_ix (ix_anyK (K := K) rfl) (pv 5) (pe_un un_neg pe_int) (fun _ _ => rfl)) pa_nil)))
      pss_nil) pss_nil)
      (pss_cons (ps_set (i := 5) sc_law_built.nd rfl (Or.inr rfl) (pv 6))
      pss_nil))))
      (pss_cons (ps_ret (pe_ix (ix_anyK (K := K) rfl) (pv 5) pe_int (fun _ _ => rfl)))
      pss_nil)))))), ?_⟩
  refine bE hm fun stack_ h16 hm => ?_
  refine sv_own (K := K) (fv_lst (lv_cons (ev_tup2 (ev_tupNL (lv_cons (ev_txtN ev_s) (lv_cons (ev_txtN (ev_atS ev_s (ev_modR (ev_var rfl r_room_)))) (lv_nil (α := Nt))))) ev_i) (lv_nil (α := (Nt × Int))))) h16 xt.gh fun p9 vs10 G11 H12 x13 hz14 o15 => ?_
  have hz14 := xt.hh.free hz14
  have xt := xt.trans x13
  have r_cells_here_ := Rp.mono x13.gg r_cells_here_
  have r_room_ := Rp.mono x13.gg r_room_
  refine bE hm fun spent_ h24 hm => ?_
  refine sv_own (K := K) (fv_lst (lv_cons ev_i (lv_nil (α := Int)))) h24 xt.gh fun p17 vs18 G19 H20 x21 hz22 o23 => ?_
  have ne_p9_p17 : p9 ≠ p17 := ne_of_none o15.h hz22
  have hz22 := xt.hh.free hz22
  have xt := xt.trans x21
  have r_cells_here_ := Rp.mono x21.gg r_cells_here_
  have r_room_ := Rp.mono x21.gg r_room_
  have o15 := o15.ext x21
  refine bE hm fun as25 h26 hm => ?_
  refine bE hm fun fl27 h28 hm => ?_
  refine sv_for (K := K) (RR := fun r v G' H' => Ext G0 H0 G' H' ∧ Rp.rel K G' v r) (iw_list (ev_var rfl r_cells_here_)) h26 h28 xt.gh fun G29 H30 x31 => ⟨fun s32 S' G' H' => ∃ (v33 : Option V), Ext G0 H0 G' H' ∧ Same G29 G' ∧ S' = [some v_cells_here_, some v_room_, some (V.ref p9), some (V.ref p17), v33, none, none] ∧ (∃ vs, Own K G' H' (V.ref p9) p9 vs s32.1) ∧ (∃ vs, Own K G' H' (V.ref p17) p17 vs s32.2), ?_, ?_, ?_, ?_, ?_⟩
  · have xt := xt.trans x31
    have r_cells_here_ := Rp.mono x31.gg r_cells_here_
    have r_room_ := Rp.mono x31.gg r_room_
    have o15 := o15.ext x31
    have o23 := o23.ext x31
    exact ⟨_, xt, (Same.refl _), rfl, ⟨_, o15⟩, ⟨_, o23⟩⟩
  · rintro _ S' G' H' ⟨v33, xt, mk34, rfl, ⟨vs10, o15⟩, ⟨vs18, o23⟩⟩
    exact ⟨mk34, xt.gh⟩
  · rintro xv35 a36 s32 _ G39 H40 fl37 - ⟨v33, xt, mk34, rfl, ⟨vs10, o15⟩, ⟨vs18, o23⟩⟩ rx38 hm D' kN41 kC42 kB43 kR44
    have r_cells_here_ := Rp.mono (x31.gg.trans mk34) r_cells_here_
    have r_room_ := Rp.mono (x31.gg.trans mk34) r_room_
    refine sv_turn ?_
    refine bE hm fun ca49 h50 hm => ?_
    refine bE hm fun rz51 h52 hm => ?_
    refine sv_callW2 (K := K) (m := mm_law_put) rfl rfl o15 o23 (by first | assumption | exact Ne.symm (by assumption)) (av_cons (ev_var rfl rx38) (av_cons (ev_var rfl r_room_) av_nil)) h50 h52 xt.gh fun G53 H54 G55 H56 vs59 vs60 x57 y58 o61 o62 => ?_
    have xt := (xt.trans x57).past (C := [p9, p17]) (fun b hb => by simp only [List.mem_cons, List.not_mem_nil, or_false] at hb; (first | (rcases hb with e | e <;> (rw [e]; assumption)) | (rw [hb]; assumption))) y58
    have mk34 := mk34.trans (x57.gg.trans y58.gg)
    have r_cells_here_ := Rp.mono (x57.gg.trans y58.gg) r_cells_here_
    have r_room_ := Rp.mono (x57.gg.trans y58.gg) r_room_
    have rx38 := Rp.mono (x57.gg.trans y58.gg) rx38
    cases hm
    exact kN41 _ _ _ _ rfl ⟨_, xt, mk34, rfl, ⟨_, o61⟩, ⟨_, o62⟩⟩
  · rintro s32 _ G65 H66 rfl ⟨v63, xt, mk64, rfl, ⟨vs10, o15⟩, ⟨vs18, o23⟩⟩
    refine sv_nx ?_
    have r_cells_here_ := Rp.mono (x31.gg.trans mk64) r_cells_here_
    have r_room_ := Rp.mono (x31.gg.trans mk64) r_room_
    have sf := Same.new (o := .lst vs10) o15.g
    have xt := xt.frz hz14 o15.g o15.h
    have r72 := o15.tell
    have r_cells_here_ := Rp.mono sf r_cells_here_
    have r_room_ := Rp.mono sf r_room_
    have o23 := o23.over (o := .lst vs10) (by first | assumption | exact Ne.symm (by assumption)) o15.g
    refine bE hm fun some_here_ h83 hm => ?_
    refine sv_set (K := K) (FV.ev (fv_map (cap := []) (fe := fun (one_ : (Nt × Int)) => (some one_.1)) (iw_list (ev_var rfl r72)) fun xc76 one_ Gc73 sc74 rc75 => (ev_fst (ev_var rfl rc75)))) h83 xt.gh fun v78 G79 H80 x81 r82 => ?_
    have xt := xt.trans x81
    have r_cells_here_ := Rp.mono x81.gg r_cells_here_
    have r_room_ := Rp.mono x81.gg r_room_
    have r72 := Rp.mono x81.gg r72
    have o23 := o23.ext x81
    refine bE hm fun fl84 h85 hm => ?_
    refine sv_while (K := K) (G := G79) (RR := fun r v G' H' => Ext G0 H0 G' H' ∧ Rp.rel K G' v r) h85 (fun s86 S' G' H' => ∃ (v87 : V) (v88 : Option V), Ext G0 H0 G' H' ∧ Same G79 G' ∧ S' = [some v_cells_here_, some v_room_, some (V.ref p9), some (V.ref p17), v63, some v87, v88] ∧ Rp.rel K G' v87 (s86 : (List Nt)) ∧ Own K G' H' (V.ref p17) p17 vs18 s32.2) ⟨?_, ?_, ?_, ?_, ?_, ?_⟩
    · exact ⟨v78, _, xt, (Same.refl _), rfl, r82, o23⟩
    · rintro _ S' G' H' ⟨v87, v88, xt, mk89, rfl, r90, o23⟩
      exact xt.gh
    · rintro s86 _ G91 H92 b' ⟨v87, v88, xt, mk89, rfl, r90, o23⟩ hc Q' k'
      have r_cells_here_ := Rp.mono mk89 r_cells_here_
      have r_room_ := Rp.mono mk89 r_room_
      have r72 := Rp.mono mk89 r72
      refine TV.run (tv_test (K := K) (ev_ord (ev_len (ev_var rfl r90)) ev_i)) hc xt.gh fun G93 H94 x95 => ?_
      have xt := xt.trans x95
      have mk89 := mk89.trans x95.gg
      have r_cells_here_ := Rp.mono x95.gg r_cells_here_
      have r_room_ := Rp.mono x95.gg r_room_
      have r72 := Rp.mono x95.gg r72
      have o23 := o23.ext x95
      have r90 := Rp.mono x95.gg r90
      exact k' _ _ ⟨v87, _, xt, mk89, rfl, r90, o23⟩
    · rintro s86 _ G97 H98 fl96 ⟨v87, v88, xt, mk89, rfl, r90, o23⟩ hm - D' kN99 kC100 kB101 kR102
      have r_cells_here_ := Rp.mono mk89 r_cells_here_
      have r_room_ := Rp.mono mk89 r_room_
      have r72 := Rp.mono mk89 r72
      refine bE hm fun fewer_ h128 hm => ?_
      refine sv_own (K := K) (fv_map (cap := [5]) (fe := fun (k_ : Int) => ((((some [(Nt.txt ("until" : Str)), (Nt.txt ("and" : Str))]).bind fun t108 => (some (k_ % (2 : Int))).bind fun t109 => atI t108 t109).bind fun t117 => (((some s86).bind fun t110 => (some ((2 : Int) * k_)).bind fun t111 => atI t110 t111).bind fun t115 => (((some s86).bind fun t112 => (some (((2 : Int) * k_) + (1 : Int))).bind fun t113 => atI t112 t113).bind fun t114 => (some [t114])).bind fun t116 => (some (t115 :: t116))).bind fun t118 => (some (t117 :: t118))).bind fun t119 => (some (Nt.tup t119)))) (iw_rng1 (ev_divR (ev_len (ev_var rfl r90)))) fun xc107 k_ Gc104 sc105 rc106 => (ev_tupNL (lv_cons (ev_at (FV.ev (fv_lst (lv_cons (ev_txtN ev_s) (lv_cons (ev_txtN ev_s) (lv_nil (α := Nt)))))) (ev_modR (ev_var rfl rc106))) (lv_cons (ev_at (ev_var rfl (Rp.mono sc105 r90)) (ev_mulL (ev_var rfl rc106))) (lv_cons (ev_at (ev_var rfl (Rp.mono sc105 r90)) (ev_add (ev_mulL (ev_var rfl rc106)) ev_i)) (lv_nil (α := Nt))))))) h128 xt.gh fun p121 vs122 G123 H124 x125 hz126 o127 => ?_
      have ne_p17_p121 : p17 ≠ p121 := ne_of_none o23.h hz126
      have hz126 := xt.hh.free hz126
      have xt := xt.trans x125
      have mk89 := mk89.trans x125.gg
      have r_cells_here_ := Rp.mono x125.gg r_cells_here_
      have r_room_ := Rp.mono x125.gg r_room_
      have r72 := Rp.mono x125.gg r72
      have o23 := o23.ext x125
      have r90 := Rp.mono x125.gg r90
      refine bE hm fun b129 h130 hm => ?_
      refine bE hm fun s134 h135 hm => ?_
      refine sv_join (fun S151 H150 => ∃ (G149 : Hp) , Ext G0 H0 G149 H150 ∧ Same G123 G149 ∧ S151 = [some v_cells_here_, some v_room_, some (V.ref p9), some (V.ref p17), v63, some v87, some (V.ref p121)] ∧ (∃ vs, Own K G149 H150 (V.ref p121) p121 vs s134) ∧ Own K G149 H150 (V.ref p17) p17 vs18 s32.2) (fun nx kn137 => ?_) ?_
      · refine sv_if (tv_test (K := K) (ev_eqI (ev_modR (ev_len (ev_var rfl r90))) ev_i)) h130 xt.gh fun G131 H132 x133 => ?_
        have xt := xt.trans x133
        have mk89 := mk89.trans x133.gg
        have r_cells_here_ := Rp.mono x133.gg r_cells_here_
        have r_room_ := Rp.mono x133.gg r_room_
        have r72 := Rp.mono x133.gg r72
        have o23 := o23.ext x133
        have r90 := Rp.mono x133.gg r90
        have o127 := o127.ext x133
        have mk136 : Same G123 G131 := x133.gg
        have hm := h135
        cases b129 with
        | true =>
          replace hm := cT hm
          refine iteT ?_
          refine bE hm fun a140 h141 hm => ?_
          refine bE hm fun z148 h142 hm => ?_
          refine sv_append (K := K) rfl o127 (ev_at (ev_var rfl r90) (ev_neg ev_i)) h141 h142 xt.gh fun G143 H144 w145 x146 o147 => ?_
          have xt : Ext G0 H0 G143 (upd H144 p121 (.lst (vs122 ++ [w145]))) := (xt.trans x146).put hz126 o147.g
          have mk89 := mk89.trans x146.gg
          have mk136 := mk136.trans x146.gg
          have r_cells_here_ := Rp.mono x146.gg r_cells_here_
          have r_room_ := Rp.mono x146.gg r_room_
          have r72 := Rp.mono x146.gg r72
          have o23 := (o23.ext x146).put (q := p121) (ho := .lst (vs122 ++ [w145])) (by first | assumption | exact Ne.symm (by assumption))
          have r90 := Rp.mono x146.gg r90
          cases hm
          exact kn137 _ _ ⟨G143, xt, mk136, rfl, ⟨_, o147⟩, o23⟩
        | false =>
          replace hm := cF hm
          refine iteF ?_
          cases hm
          exact kn137 _ _ ⟨G131, xt, mk136, rfl, ⟨_, o127⟩, o23⟩
      · rintro _ H150 ⟨G149, xt, mk136, rfl, ⟨vs122, o127⟩, o23⟩
        have mk89 := mk89.trans mk136
        have r_cells_here_ := Rp.mono mk136 r_cells_here_
        have r_room_ := Rp.mono mk136 r_room_
        have r72 := Rp.mono mk136 r72
        have r90 := Rp.mono mk136 r90
        have sf := Same.new (o := .lst vs122) o127.g
        have xt := xt.frz hz126 o127.g o127.h
        have r152 := o127.tell
        have mk89 := mk89.trans sf
        have r_cells_here_ := Rp.mono sf r_cells_here_
        have r_room_ := Rp.mono sf r_room_
        have r72 := Rp.mono sf r72
        have o23 := o23.over (o := .lst vs122) (by first | assumption | exact Ne.symm (by assumption)) o127.g
        have r90 := Rp.mono sf r90
        refine bE hm fun some_here_ h158 hm => ?_
        refine sv_set (K := K) (ev_var rfl r152) h158 xt.gh fun v153 G154 H155 x156 r157 => ?_
        have xt := xt.trans x156
        have mk89 := mk89.trans x156.gg
        have r_cells_here_ := Rp.mono x156.gg r_cells_here_
        have r_room_ := Rp.mono x156.gg r_room_
        have r72 := Rp.mono x156.gg r72
        have o23 := o23.ext x156
        have r90 := Rp.mono x156.gg r90
        have r152 := Rp.mono x156.gg r152
        cases hm
        exact kN99 _ _ _ _ rfl ⟨v153, _, xt, mk89, rfl, r157, o23⟩
    · rintro s86 _ G163 H164 rfl ⟨v159, v160, xt, mk161, rfl, r162, o23⟩
      refine sv_nx ?_
      have r_cells_here_ := Rp.mono mk161 r_cells_here_
      have r_room_ := Rp.mono mk161 r_room_
      have r72 := Rp.mono mk161 r72
      exact sv_ret (K := K) (ev_at (ev_var rfl r162) ev_i) hm xt.gh fun v167 G168 H169 x170 r171 => q v167 G168 H169 (xt.trans x170) r171
    · rintro r' v' G' H' rfl rl
      cases hm
      exact q v' G' H' rl.1 rl.2
  · rintro r' v' G' H' rfl rl
    cases hm
    exact q v' G' H' rl.1 rl.2
theorem ok_law_stream {f : Addr} {fd : FuncData} (F : Fun K "_law_stream" "_law_stream" s_law_stream f fd) (T : Txt mg) : FnOk P w K mg base CX0 1 f fd ["_law_cell", "_law_many"] (spM K mm_law_stream) := by
  refine F.ok sc_law_stream (fun vs H Q E h => (spM_len h).trans rfl) (fun cdv A outer s H0 vs Q E hr h => ?_)
  obtain ⟨G0, ⟨cell_, ⟨many_, ⟨⟩⟩⟩, res, sg0, ⟨v_cell_, _, rfl, r_cell_, ⟨v_many_, _, rfl, r_many_, rfl⟩⟩, hm, q⟩ := h
  replace r_cell_ : Rp.rel K G0 v_cell_ cell_ := r_cell_
  replace r_many_ : Rp.rel K G0 v_many_ many_ := r_many_
  replace hm : m_law_stream cell_ many_ = some res := hm
  unfold m_law_stream at hm
  have xt : Ext G0 H0 G0 H0 := Ext.refl sg0
  refine ⟨_, (pss_cons (ps_set (i := 2) sc_law_stream.nd rfl (Or.inl rfl) (pe_lst pa_nil))
      (pss_cons (ps_set (i := 3) sc_law_stream.nd rfl (Or.inl rfl) (pe_op (op_plusK (K := K) rfl) (pe_op op_mod (pv 0) pe_int) pe_int))
      (pss_cons (ps_for PassesOwn.never rfl (pi_range1 rfl T.range_ (pa_cons (pv 1) pa_nil)) (pg_name (i := 4) sc_law_stream.nd rfl (Or.inl rfl)) (pss_cons (ps_set (i := 3) sc_law_stream.nd rfl (Or.inl rfl) (pe_op op_mod (pe_op (op_plusK (K := K) rfl) (pe_op (op_plusK (K := K) rfl) (pe_op (op_mulK (K := K) rfl) (pv 3) (pv 3)) (pe_op (op_mulK (K := K) rfl) pe_int (pv 3))) (pv 4)) pe_int))
      (pss_cons (ps_expr (pe_bmK (K := K) rfl PySem.F.plainAttrs_list PySem.F.slot_list_append PySem.F.type_list_append mt_append (pv 2) (pa_cons (pv 3) pa_nil)))
      pss_nil)))
      (pss_cons (ps_ret (pv 2))
      pss_nil)))), ?_⟩
  refine bE hm fun numbers_ h8 hm => ?_
  refine sv_own (K := K) (fv_lst (lv_nil (α := Int))) h8 xt.gh fun p1 vs2 G3 H4 x5 hz6 o7 => ?_
  have hz6 := xt.hh.free hz6
  have xt := xt.trans x5
  have r_cell_ := Rp.mono x5.gg r_cell_
  have r_many_ := Rp.mono x5.gg r_many_
  refine bE hm fun number_ h14 hm => ?_
  refine sv_set (K := K) (ev_add (ev_modR (ev_var rfl r_cell_)) ev_i) h14 xt.gh fun v9 G10 H11 x12 r13 => ?_
  have xt := xt.trans x12
  have r_cell_ := Rp.mono x12.gg r_cell_
  have r_many_ := Rp.mono x12.gg r_many_
  have o7 := o7.ext x12
  refine bE hm fun as16 h17 hm => ?_
  refine bE hm fun fl18 h19 hm => ?_
  refine sv_for (K := K) (RR := fun r v G' H' => Ext G0 H0 G' H' ∧ Rp.rel K G' v r) (iw_rng1 (ev_var rfl r_many_)) h17 h19 xt.gh fun G20 H21 x22 => ⟨fun s23 S' G' H' => ∃ (v24 : V) (v25 : Option V), Ext G0 H0 G' H' ∧ Same G20 G' ∧ S' = [some v_cell_, some v_many_, some (V.ref p1), some v24, v25] ∧ (∃ vs, Own K G' H' (V.ref p1) p1 vs s23.1) ∧ Rp.rel K G' v24 (s23.2 : Int), ?_, ?_, ?_, ?_, ?_⟩
  · have xt := xt.trans x22
    have r_cell_ := Rp.mono x22.gg r_cell_
    have r_many_ := Rp.mono x22.gg r_many_
    have o7 := o7.ext x22
    have r13 := Rp.mono x22.gg r13
    exact ⟨v9, _, xt, (Same.refl _), rfl, ⟨_, o7⟩, r13⟩
  · rintro _ S' G' H' ⟨v24, v25, xt, mk26, rfl, ⟨vs2, o7⟩, r27⟩
    exact ⟨mk26, xt.gh⟩
  · rintro xv28 a29 s23 _ G32 H33 fl30 - ⟨v24, v25, xt, mk26, rfl, ⟨vs2, o7⟩, r27⟩ rx31 hm D' kN34 kC35 kB36 kR37
    have r_cell_ := Rp.mono (x22.gg.trans mk26) r_cell_
    have r_many_ := Rp.mono (x22.gg.trans mk26) r_many_
    refine sv_turn ?_
    refine bE hm fun number_ h48 hm => ?_
    refine sv_set (K := K) (ev_modR (ev_add (ev_add (ev_mul (ev_var rfl r27) (ev_var rfl r27)) (ev_mulL (ev_var rfl r27))) (ev_var rfl rx31))) h48 xt.gh fun v43 G44 H45 x46 r47 => ?_
    have xt := xt.trans x46
    have mk26 := mk26.trans x46.gg
    have r_cell_ := Rp.mono x46.gg r_cell_
    have r_many_ := Rp.mono x46.gg r_many_
    have o7 := o7.ext x46
    have r27 := Rp.mono x46.gg r27
    have rx31 := Rp.mono x46.gg rx31
    refine bE hm fun a49 h50 hm => ?_
    refine bE hm fun z57 h51 hm => ?_
    refine sv_append (K := K) rfl o7 (ev_var rfl r47) h50 h51 xt.gh fun G52 H53 w54 x55 o56 => ?_
    have xt : Ext G0 H0 G52 (upd H53 p1 (.lst (vs2 ++ [w54]))) := (xt.trans x55).put hz6 o56.g
    have mk26 := mk26.trans x55.gg
    have r_cell_ := Rp.mono x55.gg r_cell_
    have r_many_ := Rp.mono x55.gg r_many_
    have r47 := Rp.mono x55.gg r47
    have rx31 := Rp.mono x55.gg rx31
    cases hm
    exact kN34 _ _ _ _ rfl ⟨v43, _, xt, mk26, rfl, ⟨_, o56⟩, r47⟩
  · rintro s23 _ G62 H63 rfl ⟨v58, v59, xt, mk60, rfl, ⟨vs2, o7⟩, r61⟩
    refine sv_nx ?_
    have r_cell_ := Rp.mono (x22.gg.trans mk60) r_cell_
    have r_many_ := Rp.mono (x22.gg.trans mk60) r_many_
    have sf := Same.new (o := .lst vs2) o7.g
    have xt := xt.frz hz6 o7.g o7.h
    have r64 := o7.tell
    have r_cell_ := Rp.mono sf r_cell_
    have r_many_ := Rp.mono sf r_many_
    have r61 := Rp.mono sf r61
    exact sv_ret (K := K) (ev_var rfl r64) hm xt.gh fun v65 G66 H67 x68 r69 => q v65 G66 H67 (xt.trans x68) r69
  · rintro r' v' G' H' rfl rl
    cases hm
    exact q v' G' H' rl.1 rl.2
theorem ok_law_cells {f : Addr} {fd : FuncData} (F : Fun K "_law_cells" "_law_cells" s_law_cells f fd) (T : Txt mg) (D_law_cell_at : DefOk P w K mg base "_law_cell_at" 1 ["_law_script", "_law_k"] (spM K mm_law_cell_at)) (D_law_stream : DefOk P w K mg base "_law_stream" 1 ["_law_cell", "_law_many"] (spM K mm_law_stream)) : FnOk P w K mg base CX0 2 f fd ["_law_script", "_law_start"] (spM K mm_law_cells) := by
  refine F.ok sc_law_cells (fun vs H Q E h => (spM_len h).trans rfl) (fun cdv A outer s H0 vs Q E hr h => ?_)
  obtain ⟨G0, ⟨script_, ⟨start_, ⟨⟩⟩⟩, res, sg0, ⟨v_script_, _, rfl, r_script_, ⟨v_start_, _, rfl, r_start_, rfl⟩⟩, hm, q⟩ := h
  replace r_script_ : Rp.rel K G0 v_script_ script_ := r_script_
  replace r_start_ : Rp.rel K G0 v_start_ start_ := r_start_
  replace hm : m_law_cells script_ start_ = some res := hm
  unfold m_law_cells at hm
  have xt : Ext G0 H0 G0 H0 := Ext.refl sg0
  refine ⟨_, (pss_cons (ps_set (i := 2) sc_law_cells.nd rfl (Or.inl rfl) (pe_def D_law_cell_at hr (by decide) rfl (pa_cons (pv 0) (pa_cons (pv 1) pa_nil))))
      (pss_cons (ps_if (pt_cmpR op_eq (pe_op op_mod (pv 2) pe_int) pe_int (nomark _)) (pss_cons (ps_ret (pe_slice (sl_anyK (K := K) rfl) (pv 0) (po_some (pe_op (op_plusK (K := K) rfl) (pv 1) pe_int)) (po_some (pe_op (op_plusK (K := K) rfl) (pv 1) pe_int))))
      pss_nil) pss_nil)
      (pss_cons (ps_if (pt_cmpR op_eq (pe_op op_mod (pv 2) pe_int) pe_int (nomark _)) (pss_cons (ps_ret (pe_def D_law_stream hr (by decide) rfl (pa_cons (pe_def D_law_cell_at hr (by decide) rfl (pa_cons (pv 0) (pa_cons (pe_op (op_plusK (K := K) rfl) (pv 1) pe_int) pa_nil))) (pa_cons (pe_op (op_plusK (K := K) rfl) pe_int (pe_op op_mod (pe_op op_fdiv (pv 2) pe_int) pe_int)) pa_nil))))
      pss_nil) pss_nil)
      (pss_cons (ps_ret (pe_comp (cn := []) (cap := []) rfl ⟨by decide +kernel, rfl, by decide +kernel, free_of rfl⟩ rfl (by decide +kernel) trivial (pi_anyK (K := K) rfl (pe_def D_law_stream hr (by decide) rfl (pa_cons (pe_def D_law_cell_at hr (by decide) rfl (pa_cons (pv 0) (pa_cons (pe_op (op_plusK (K := K) rfl) (pv 1) pe_int) pa_nil))) (pa_cons (pe_op op_mod (pe_op op_fdiv (pv 2) pe_int) pe_int) pa_nil)))) (fun C s0 H0 fp => ⟨pts_nil, (pe_op (op_plusK (K := K) rfl) (pe_op (op_mulK (K := K) rfl) pe_int (pv 0)) (pe_op op_mod (pe_op op_fdiv (pv 0) pe_int) pe_int))⟩)))
      pss_nil)))), ?_⟩
  refine bE hm fun cell_ h8 hm => ?_
  refine sv_set (K := K) (ev_def2 (m := mm_law_cell_at) (ev_var rfl r_script_) (ev_var rfl r_start_)) h8 xt.gh fun v3 G4 H5 x6 r7 => ?_
  have xt := xt.trans x6
  have r_script_ := Rp.mono x6.gg r_script_
  have r_start_ := Rp.mono x6.gg r_start_
  refine bE hm fun b9 h10 hm => ?_
  refine sv_if (tv_test (K := K) (ev_eqI (ev_modR (ev_var rfl r7)) ev_i)) h10 xt.gh fun G11 H12 x13 => ?_
  have xt := xt.trans x13
  have r_script_ := Rp.mono x13.gg r_script_
  have r_start_ := Rp.mono x13.gg r_start_
  have r7 := Rp.mono x13.gg r7
  cases b9 with
  | true =>
    replace hm := cT hm
    refine iteT ?_
    exact sv_ret (K := K) (FV.ev (fv_sliceX (ev_var rfl r_script_) (ov_some (K := K) (ev_add (ev_var rfl r_start_) ev_i)) (ov_some (K := K) (ev_add (ev_var rfl r_start_) ev_i)))) hm xt.gh fun v17 G18 H19 x20 r21 => q v17 G18 H19 (xt.trans x20) r21
  | false =>
    replace hm := cF hm
    refine iteF ?_
    refine bE hm fun b22 h23 hm => ?_
    refine sv_if (tv_test (K := K) (ev_eqI (ev_modR (ev_var rfl r7)) ev_i)) h23 xt.gh fun G24 H25 x26 => ?_
    have xt := xt.trans x26
    have r_script_ := Rp.mono x26.gg r_script_
    have r_start_ := Rp.mono x26.gg r_start_
    have r7 := Rp.mono x26.gg r7
    cases b22 with
    | true =>
      replace hm := cT hm
      refine iteT ?_
      exact sv_ret (K := K) (ev_def2 (m := mm_law_stream) (ev_def2 (m := mm_law_cell_at) (ev_var rfl r_script_) (ev_add (ev_var rfl r_start_) ev_i)) (ev_add ev_i (ev_modR (ev_divR (ev_var rfl r7))))) hm xt.gh fun v31 G32 H33 x34 r35 => q v31 G32 H33 (xt.trans x34) r35
    | false =>
      replace hm := cF hm
      refine iteF ?_
      exact sv_ret (K := K) (FV.ev (fv_map (cap := []) (fe := fun (number_ : Int) => (some (((16 : Int) * number_) + ((number_ / (7 : Int)) % (5 : Int))))) (iw_list (ev_def2 (m := mm_law_stream) (ev_def2 (m := mm_law_cell_at) (ev_var rfl r_script_) (ev_add (ev_var rfl r_start_) ev_i)) (ev_modR (ev_divR (ev_var rfl r7))))) fun xc43 number_ Gc40 sc41 rc42 => (ev_add (ev_mulL (ev_var rfl rc42)) (ev_modR (ev_divR (ev_var rfl rc42)))))) hm xt.gh fun v45 G46 H47 x48 r49 => q v45 G46 H47 (xt.trans x48) r49
theorem ok_law_some {f : Addr} {fd : FuncData} (F : Fun K "_law_some" "_law_some" s_law_some f fd) (T : Txt mg) (D_law_cell_at : DefOk P w K mg base "_law_cell_at" 1 ["_law_script", "_law_k"] (spM K mm_law_cell_at)) (D_law_built : DefOk P w K mg base "_law_built" 3 ["_law_cells_here", "_law_room"] (spM K mm_law_built)) (D_law_stream : DefOk P w K mg base "_law_stream" 1 ["_law_cell", "_law_many"] (spM K mm_law_stream)) (D_law_cells : DefOk P w K mg base "_law_cells" 2 ["_law_script", "_law_start"] (spM K mm_law_cells)) : FnOk P w K mg base CX0 4 f fd ["_law_script"] (spM K mm_law_some) := by
  refine F.ok sc_law_some (fun vs H Q E h => (spM_len h).trans rfl) (fun cdv A outer s H0 vs Q E hr h => ?_)
  obtain ⟨G0, ⟨script_, ⟨⟩⟩, res, sg0, ⟨v_script_, _, rfl, r_script_, rfl⟩, hm, q⟩ := h
  replace r_script_ : Rp.rel K G0 v_script_ script_ := r_script_
  replace hm : m_law_some script_ = some res := hm
  unfold m_law_some at hm
  have xt : Ext G0 H0 G0 H0 := Ext.refl sg0
  refine ⟨_, (pss_cons (ps_set (i := 1) sc_law_some.nd rfl (Or.inl rfl) (pe_def D_law_cell_at hr (by decide) rfl (pa_cons (pv 0) (pa_cons pe_int pa_nil))))
      (pss_cons (ps_if (pt_cmpR op_eq (pe_op op_mod (pv 1) pe_int) pe_int (nomark _)) (pss_cons (ps_ret (pe_lst (pa_cons (pe_def D_law_built hr (by decide) rfl (pa_cons (pe_def D_law_stream hr (by decide) rfl (pa_cons (pe_def D_law_cell_at hr (by decide) rfl (pa_cons (pv 0) (pa_cons pe_int pa_nil))) (pa_cons (pe_op (op_plusK (K := K) rfl) pe_int (pe_op op_mod (pe_op op_fdiv (pv 1) pe_int) pe_int)) pa_nil))) (pa_cons pe_int pa_nil))) pa_nil)))
      pss_nil) pss_nil)
      (pss_cons (ps_set (i := 2) sc_law_some.nd rfl (Or.inl rfl) (pe_lst pa_nil))
      (pss_cons (ps_for PassesOwn.never rfl (pi_range1 rfl T.range_ (pa_cons (pe_op op_mod (pe_op op_fdiv (pv 1) pe_int) pe_int) pa_nil)) (pg_name (i := 3) sc_law_some.nd rfl (Or.inl rfl)) (pss_cons (ps_expr (pe_bmK (K := K) rfl PySem.F.plainAttrs_list PySem.F.slot_list_append PySem.F.type_list_append mt_append (pv 2) (pa_cons (pe_def D_law_built hr (by decide) rfl (pa_cons (pe_def D_law_cells hr (by decide) rfl (pa_cons (pv 0) (pa_cons (pe_op (op_plusK (K := K) rfl) pe_int (pe_op (op_mulK (K := K) rfl) pe_int (pv 3))) pa_nil))) (pa_cons (pe_op (op_plusK (K := K) rfl) pe_int (pe_op op_mod (pe_op op_fdiv (pe_def D_law_cell_at hr (by decide) rfl (pa_cons (pv 0) (pa_cons pe_int pa_nil))) (pe_op (op_plusK (K := K) rfl) pe_int (pe_op (op_mulK (K := K) rfl) pe_int (pv 3)))) pe_int)) pa_nil))) pa_nil)))
      pss_nil))
      (pss_cons (ps_if (PW.pt (pw_and (pt_cmpR op_gtU (pe_callB (call_lenK (K := K) rfl) (by rfl) T.len_ bt_len (pa_cons (pv 2) pa_nil)) pe_int (nomark _)) (pw_and (pt_cmpR op_ltU (pe_callB (call_lenK (K := K) rfl) (by rfl) T.len_ bt_len (pa_cons (pv 2) pa_nil)) pe_int (nomark _)) (pw_and1 (pt_cmpR op_eq (pe_op op_mod (pe_def D_law_cell_at hr (by decide) rfl (pa_cons (pv 0) (pa_cons pe_int pa_nil))) pe_int) pe_int (nomark _)))))) (pss_cons (ps_set (i := 4) sc_law_some.nd rfl (Or.inl rfl) (pe_ix (ix_anyK (K := K) rfl) (pv 2) (pe_op op_mod (pe_op op_fdiv (pe_def D_law_cell_at hr (by decide) rfl (pa_cons (pv 0) (pa_cons pe_int pa_nil))) pe_int) (pe_callB (call_lenK (K := K) rfl) (by rfl) T.len_ bt_len (pa_cons (pv 2) pa_nil))) (fun _ _ => rfl)))
      (pss_cons (ps_if (PW.pt (pw_and (pt_cmpR op_eq (pe_op op_mod (pe_op op_fdiv (pe_def D_law_cell_at hr (by decide) rfl (pa_cons (pv 0) (pa_cons pe_int pa_nil))) pe_int) pe_int) pe_int (nomark _)) (pw_and1 (pt_cmpR op_ne (pe_ix (ix_anyK (K := K) rfl) (pv 4) pe_int (fun _ _ => rfl)) pe_str (nomark _))))) (pss_cons (ps_set (i := 4) sc_law_some.nd rfl (Or.inl rfl) (pe_ix (ix_anyK (K := K) rfl) (pv 4) (pe_un un_neg pe_int) (fun _ _ => rfl)))
      pss_nil) pss_nil)
      (pss_cons (ps_expr (pe_bmK (K := K) rfl PySem.F.plainAttrs_list PySem.F.slot_list_append PySem.F.type_list_append mt_append (pv 2) (pa_cons (pv 4) pa_nil)))
      pss_nil))) pss_nil)
      (pss_cons (ps_ret (pv 2))
      pss_nil)))))), ?_⟩
  refine bE hm fun cell_ h8 hm => ?_
  refine sv_set (K := K) (ev_def2 (m := mm_law_cell_at) (ev_var rfl r_script_) ev_i) h8 xt.gh fun v3 G4 H5 x6 r7 => ?_
  have xt := xt.trans x6
  have r_script_ := Rp.mono x6.gg r_script_
  refine bE hm fun b9 h10 hm => ?_
  refine sv_if (tv_test (K := K) (ev_eqI (ev_modR (ev_var rfl r7)) ev_i)) h10 xt.gh fun G11 H12 x13 => ?_
  have xt := xt.trans x13
  have r_script_ := Rp.mono x13.gg r_script_
  have r7 := Rp.mono x13.gg r7
  cases b9 with
  | true =>
    replace hm := cT hm
    refine iteT ?_
    exact sv_ret (K := K) (FV.ev (fv_lst (lv_cons (ev_def2 (m := mm_law_built) (ev_def2 (m := mm_law_stream) (ev_def2 (m := mm_law_cell_at) (ev_var rfl r_script_) ev_i) (ev_add ev_i (ev_modR (ev_divR (ev_var rfl r7))))) ev_i) (lv_nil (α := Nt))))) hm xt.gh fun v21 G22 H23 x24 r25 => q v21 G22 H23 (xt.trans x24) r25
  | false =>
    replace hm := cF hm
    refine iteF ?_
    refine bE hm fun some_here_ h33 hm => ?_
    refine sv_own (K := K) (fv_lst (lv_nil (α := Nt))) h33 xt.gh fun p26 vs27 G28 H29 x30 hz31 o32 => ?_
    have hz31 := xt.hh.free hz31
    have xt := xt.trans x30
    have r_script_ := Rp.mono x30.gg r_script_
    have r7 := Rp.mono x30.gg r7
    refine bE hm fun as35 h36 hm => ?_
    refine bE hm fun fl37 h38 hm => ?_
    refine sv_for (K := K) (RR := fun r v G' H' => Ext G0 H0 G' H' ∧ Rp.rel K G' v r) (iw_rng1 (ev_modR (ev_divR (ev_var rfl r7)))) h36 h38 xt.gh fun G39 H40 x41 => ⟨fun s42 S' G' H' => ∃ (v43 : Option V), Ext G0 H0 G' H' ∧ Same G39 G' ∧ S' = [some v_script_, some v3, some (V.ref p26), v43, none] ∧ (∃ vs, Own K G' H' (V.ref p26) p26 vs s42), ?_, ?_, ?_, ?_, ?_⟩
    · have xt := xt.trans x41
      have r_script_ := Rp.mono x41.gg r_script_
      have r7 := Rp.mono x41.gg r7
      have o32 := o32.ext x41
      exact ⟨_, xt, (Same.refl _), rfl, ⟨_, o32⟩⟩
    · rintro _ S' G' H' ⟨v43, xt, mk44, rfl, ⟨vs27, o32⟩⟩
      exact ⟨mk44, xt.gh⟩
    · rintro xv45 a46 s42 _ G49 H50 fl47 - ⟨v43, xt, mk44, rfl, ⟨vs27, o32⟩⟩ rx48 hm D' kN51 kC52 kB53 kR54
      have r_script_ := Rp.mono (x41.gg.trans mk44) r_script_
      have r7 := Rp.mono (x41.gg.trans mk44) r7
      refine sv_turn ?_
      refine bE hm fun a65 h66 hm => ?_
      refine bE hm fun z73 h67 hm => ?_
      refine sv_append (K := K) rfl o32 (ev_def2 (m := mm_law_built) (ev_def2 (m := mm_law_cells) (ev_var rfl r_script_) (ev_add ev_i (ev_mulL (ev_var rfl rx48)))) (ev_add ev_i (ev_modR (ev_div (ev_def2 (m := mm_law_cell_at) (ev_var rfl r_script_) ev_i) (ev_add ev_i (ev_mulL (ev_var rfl rx48))))))) h66 h67 xt.gh fun G68 H69 w70 x71 o72 => ?_
      have xt : Ext G0 H0 G68 (upd H69 p26 (.lst (vs27 ++ [w70]))) := (xt.trans x71).put hz31 o72.g
      have mk44 := mk44.trans x71.gg
      have r_script_ := Rp.mono x71.gg r_script_
      have r7 := Rp.mono x71.gg r7
      have rx48 := Rp.mono x71.gg rx48
      cases hm
      exact kN51 _ _ _ _ rfl ⟨_, xt, mk44, rfl, ⟨_, o72⟩⟩
    · rintro s42 _ G76 H77 rfl ⟨v74, xt, mk75, rfl, ⟨vs27, o32⟩⟩
      refine sv_nx ?_
      have r_script_ := Rp.mono (x41.gg.trans mk75) r_script_
      have r7 := Rp.mono (x41.gg.trans mk75) r7
      refine bE hm fun b90 h91 hm => ?_
      refine bE hm fun s95 h96 hm => ?_
      refine sv_join (fun S169 H168 => ∃ (G167 : Hp) (v98 : Option V), Ext G0 H0 G167 H168 ∧ Same G76 G167 ∧ S169 = [some v_script_, some v3, some (V.ref p26), v74, v98] ∧ (∃ vs, Own K G167 H168 (V.ref p26) p26 vs s95)) (fun nx kn100 => ?_) ?_
      · refine sv_ifB o32 (tv_and (tv_test (K := K) (ev_ord (ev_len (ev_var rfl o32.tell)) ev_i)) (tv_and (tv_test (K := K) (ev_ord (ev_len (ev_var rfl o32.tell)) ev_i)) (tv_test (K := K) (ev_eqI (ev_modR (ev_def2 (m := mm_law_cell_at) (ev_var rfl (Rp.mono (Same.new o32.g) r_script_)) ev_i)) ev_i)))) h91 xt.gh fun G92 H93 x94 => ?_
        have xt := xt.trans x94
        have r_script_ := Rp.mono x94.gg r_script_
        have r7 := Rp.mono x94.gg r7
        have o32 := o32.ext x94
        have mk97 : Same G76 G92 := x94.gg
        have hm := h96
        cases b90 with
        | true =>
          replace hm := cT hm
          refine iteT ?_
          refine bE hm fun told_ h120 hm => ?_
          refine sv_setB (K := K) o32 (ev_at (ev_var rfl o32.tell) (ev_mod (ev_divR (ev_def2 (m := mm_law_cell_at) (ev_var rfl (Rp.mono (Same.new o32.g) r_script_)) ev_i)) (ev_len (ev_var rfl o32.tell)))) h120 xt.gh fun v115 G116 H117 x118 r119 => ?_
          have xt := xt.trans x118
          have mk97 := mk97.trans x118.gg
          have r_script_ := Rp.mono x118.gg r_script_
          have r7 := Rp.mono x118.gg r7
          have o32 := o32.ext x118
          refine bE hm fun b135 h136 hm => ?_
          refine bE hm fun s140 h141 hm => ?_
          refine sv_join (fun S157 H156 => ∃ (G155 : Hp) (v143 : V), Ext G0 H0 G155 H156 ∧ Same G116 G155 ∧ S157 = [some v_script_, some v3, some (V.ref p26), v74, some v143] ∧ Rp.rel K G155 v143 (s140 : Nt) ∧ Own K G155 H156 (V.ref p26) p26 vs27 s42) (fun nx kn145 => ?_) ?_
          · refine sv_if (tv_and (tv_test (K := K) (ev_eqI (ev_modR (ev_divR (ev_def2 (m := mm_law_cell_at) (ev_var rfl r_script_) ev_i))) ev_i)) (tv_test (K := K) (ev_neS (ev_asTxt (ev_atT (ev_asTup (ev_var rfl r119)) ev_i)) ev_s))) h136 xt.gh fun G137 H138 x139 => ?_
            have xt := xt.trans x139
            have mk97 := mk97.trans x139.gg
            have r_script_ := Rp.mono x139.gg r_script_
            have r7 := Rp.mono x139.gg r7
            have o32 := o32.ext x139
            have r119 := Rp.mono x139.gg r119
            have mk142 : Same G116 G137 := x139.gg
            have hm := h141
            cases b135 with
            | true =>
              replace hm := cT hm
              refine iteT ?_
              refine bE hm fun told_ h154 hm => ?_
              refine sv_set (K := K) (ev_atT (ev_asTup (ev_var rfl r119)) (ev_neg ev_i)) h154 xt.gh fun v149 G150 H151 x152 r153 => ?_
              have xt := xt.trans x152
              have mk97 := mk97.trans x152.gg
              have mk142 := mk142.trans x152.gg
              have r_script_ := Rp.mono x152.gg r_script_
              have r7 := Rp.mono x152.gg r7
              have o32 := o32.ext x152
              have r119 := Rp.mono x152.gg r119
              cases hm
              exact kn145 _ _ ⟨G150, v149, xt, mk142, rfl, r153, o32⟩
            | false =>
              replace hm := cF hm
              refine iteF ?_
              cases hm
              exact kn145 _ _ ⟨G137, v115, xt, mk142, rfl, r119, o32⟩
          · rintro _ H156 ⟨G155, v143, xt, mk142, rfl, r144, o32⟩
            have mk97 := mk97.trans mk142
            have r_script_ := Rp.mono mk142 r_script_
            have r7 := Rp.mono mk142 r7
            refine bE hm fun a158 h159 hm => ?_
            refine bE hm fun z166 h160 hm => ?_
            refine sv_append (K := K) rfl o32 (ev_var rfl r144) h159 h160 xt.gh fun G161 H162 w163 x164 o165 => ?_
            have xt : Ext G0 H0 G161 (upd H162 p26 (.lst (vs27 ++ [w163]))) := (xt.trans x164).put hz31 o165.g
            have mk97 := mk97.trans x164.gg
            have r_script_ := Rp.mono x164.gg r_script_
            have r7 := Rp.mono x164.gg r7
            have r144 := Rp.mono x164.gg r144
            cases hm
            exact kn100 _ _ ⟨G161, _, xt, mk97, rfl, ⟨_, o165⟩⟩
        | false =>
          replace hm := cF hm
          refine iteF ?_
          cases hm
          exact kn100 _ _ ⟨G92, _, xt, mk97, rfl, ⟨_, o32⟩⟩
      · rintro _ H168 ⟨G167, v98, xt, mk97, rfl, ⟨vs27, o32⟩⟩
        have r_script_ := Rp.mono mk97 r_script_
        have r7 := Rp.mono mk97 r7
        have sf := Same.new (o := .lst vs27) o32.g
        have xt := xt.frz hz31 o32.g o32.h
        have r170 := o32.tell
        have r_script_ := Rp.mono sf r_script_
        have r7 := Rp.mono sf r7
        exact sv_ret (K := K) (ev_var rfl r170) hm xt.gh fun v171 G172 H173 x174 r175 => q v171 G172 H173 (xt.trans x174) r175
    · rintro r' v' G' H' rfl rl
      cases hm
      exact q v' G' H' rl.1 rl.2
theorem ok_parts_of {f : Addr} {fd : FuncData} (F : Fun K "parts_of" "parts_of" s_parts_of f fd) (T : Txt mg) : FnOk P w K mg base CX0 1 f fd ["sentence"] (spM K mm_parts_of) := by
  refine F.ok sc_parts_of (fun vs H Q E h => (spM_len h).trans rfl) (fun cdv A outer s H0 vs Q E hr h => ?_)
  obtain ⟨G0, ⟨sentence_, ⟨⟩⟩, res, sg0, ⟨v_sentence_, _, rfl, r_sentence_, rfl⟩, hm, q⟩ := h
  replace r_sentence_ : Rp.rel K G0 v_sentence_ sentence_ := r_sentence_
  replace hm : m_parts_of sentence_ = some res := hm
  unfold m_parts_of at hm
  have xt : Ext G0 H0 G0 H0 := Ext.refl sg0
  refine ⟨_, (pss_cons (ps_if (pt_cmpR op_eq (pe_ix (ix_anyK (K := K) rfl) (pv 0) pe_int (fun _ _ => rfl)) pe_str (nomark _)) (pss_cons (ps_ret (pe_tup pa_nil))
      pss_nil) pss_nil)
      (pss_cons (ps_ret (pe_slice (sl_tupK (K := K) rfl) (pv 0) (po_some pe_int) po_none))
      pss_nil)), ?_⟩
  refine bE hm fun b9 h10 hm => ?_
  refine sv_if (tv_test (K := K) (ev_eqS (ev_asTxt (ev_atT (ev_asTup (ev_var rfl r_sentence_)) ev_i)) ev_s)) h10 xt.gh fun G11 H12 x13 => ?_
  have xt := xt.trans x13
  have r_sentence_ := Rp.mono x13.gg r_sentence_
  cases b9 with
  | true =>
    replace hm := cT hm
    refine iteT ?_
    exact sv_ret (K := K) (rest := tNext) (σ := [some v_sentence_]) (ev_tupL (lv_nil (α := Nt))) hm xt.gh fun v14 G15 H16 x17 r18 => q v14 G15 H16 (xt.trans x17) r18
  | false =>
    replace hm := cF hm
    refine iteF ?_
    exact sv_ret (K := K) (ev_sliceT (ev_asTup (ev_var rfl r_sentence_)) (ov_some (K := K) ev_i) ov_none) hm xt.gh fun v23 G24 H25 x26 r27 => q v23 G24 H25 (xt.trans x26) r27
theorem ok_row_number {f : Addr} {fd : FuncData} (F : Fun K "row_number" "row_number" s_row_number f fd) (T : Txt mg) : FnOk P w K mg base CX0 1 f fd ["rows", "numbers", "row"] (spB K rownO) := by
  refine F.ok sc_row_number (fun vs H Q E h => (spB_len h).trans rfl) (fun cdv A outer s H0 vs Q E hr h => ?_)
  obtain ⟨G0, p, q, v, xs, rows, a, r, rfl, sg, o, rv, hm, k⟩ := h
  refine ⟨_, (pss_cons (ps_if (pt_cmp (pc_dnotin (room_u hr) (pv 2) (pv 1))) (pss_cons (ps_dput (room_u hr) (pv 1) (pv 2) (pe_callB (call_lenK (K := K) rfl) (by rfl) T.len_ bt_len (pa_cons (pv 0) pa_nil)) rfl)
      (pss_cons (ps_expr (pe_bmK (K := K) rfl PySem.F.plainAttrs_list PySem.F.slot_list_append PySem.F.type_list_append mt_append (pv 0) (pa_cons (pv 2) pa_nil))) pss_nil)) pss_nil)
      (pss_cons (ps_ret (pe_dget (room_u hr) (pv 1) (pv 2) (fun _ _ => rfl))) pss_nil)), ?_⟩
  exact rown_body sg o rv hm k
theorem ok0_lay {f : Addr} {fd : FuncData} (F : Fun K "lay" "lay" s_lay f fd) : FnOk P w K mg base CX0 2 f fd ["rows", "numbers", "sentence"] (spB K (layO m_parts_of 0)) := by
  refine F.ok sc_lay (fun vs H Q E h => (spB_len h).trans rfl) (fun cdv A outer s H0 vs Q E hr h => ?_)
  obtain ⟨_, _, _, _, _, _, _, _, _, _, _, _, hm, _⟩ := h
  exact nomatch (hm : none = some _)
theorem ok_lay {f : Addr} {fd : FuncData} (F : Fun K "lay" "lay" s_lay f fd) (T : Txt mg) (D_parts_of : DefOk P w K mg base "parts_of" 1 ["sentence"] (spM K mm_parts_of)) (D_row_number : DefOk P w K mg base "row_number" 1 ["rows", "numbers", "row"] (spB K rownO)) (fuel_ : Nat) (D_lay : DefOk P w K mg base "lay" (2 + fuel_) ["rows", "numbers", "sentence"] (spB K (layO m_parts_of fuel_))) : FnOk P w K mg base CX0 (2 + fuel_ + 1) f fd ["rows", "numbers", "sentence"] (spB K (layO m_parts_of (fuel_ + 1))) := by
  refine F.ok sc_lay (fun vs H Q E h => (spB_len h).trans rfl) (fun cdv A outer s H0 vs Q E hr h => ?_)
  obtain ⟨G0, p, q, v, xs, rows, a, r, rfl, sg, o, rv, hm, k⟩ := h
  refine ⟨_, (pss_cons (ps_if (pt_cmpR op_eq (pe_ix (ix_anyK (K := K) rfl) (pv 2) pe_int (fun _ _ => rfl)) pe_str (nomark _)) (pss_cons (ps_ret (pe_def D_row_number hr (by omega) rfl (pa_cons (pv 0) (pa_cons (pv 1) (pa_cons (pv 2) pa_nil))))) pss_nil) pss_nil)
      (pss_cons (ps_set (i := 3) sc_lay.nd rfl (Or.inl rfl) (pe_tup (pa_cons (pe_ix (ix_anyK (K := K) rfl) (pv 2) pe_int (fun _ _ => rfl)) pa_nil)))
      (pss_cons (ps_for PassesOwn.never rfl (pi_anyK (K := K) rfl (pe_def D_parts_of hr (by omega) rfl (pa_cons (pv 2) pa_nil))) (pg_name (i := 4) sc_lay.nd rfl (Or.inl rfl))
        (pss_cons (ps_set (i := 3) sc_lay.nd rfl (Or.inl rfl) (pe_op (op_catTp (K := K) rfl) (pv 3) (pe_tup (pa_cons (pe_def D_lay hr (by omega) rfl (pa_cons (pv 0) (pa_cons (pv 1) (pa_cons (pv 4) pa_nil)))) pa_nil)))) pss_nil))
      (pss_cons (ps_ret (pe_def D_row_number hr (by omega) rfl (pa_cons (pv 0) (pa_cons (pv 1) (pa_cons (pv 3) pa_nil))))) pss_nil)))), ?_⟩
  exact lay_body (pm := m_parts_of) (mp := mm_parts_of) (fun _ => rfl) sg o rv hm k
theorem ok_book_of {f : Addr} {fd : FuncData} (F : Fun K "book_of" "book_of" s_book_of f fd) (T : Txt mg) (D_lay : DefOk P w K mg base "lay" 97 ["rows", "numbers", "sentence"] (spB K (layO m_parts_of 95))) : FnOk P w K mg base CX0 98 f fd ["some"] (spN K mm_book_of) := by
  refine F.ok sc_book_of (fun vs H Q E h => (spN_len h).trans rfl) (fun cdv A outer s H0 vs Q E hr h => ?_)
  obtain ⟨G0, ⟨some_, ⟨⟩⟩, r, sg, ⟨v, _, rfl, rv, rfl⟩, hm, k⟩ := h
  refine ⟨_, (pss_cons (ps_set (i := 1) sc_book_of.nd rfl (Or.inr rfl) (pe_lst pa_nil))
      (pss_cons (ps_set (i := 2) sc_book_of.nd rfl (Or.inr rfl) pe_dnewT)
      (pss_cons (ps_setcomp (i := 3) sc_book_of.nd rfl (Or.inl rfl) (cn := ["rows", "numbers"]) (cap := [1, 2]) rfl ⟨by decide +kernel, rfl, by decide +kernel, free_of rfl⟩ rfl (by decide +kernel) ⟨⟨rfl, .inl rfl, rfl⟩, ⟨rfl, .inl rfl, rfl⟩, trivial⟩ (pi_anyK (K := K) rfl (pv 0)) (fun C s0 H0 fp => ⟨pts_nil, (pe_def D_lay hr (by decide) rfl (pa_cons (pv 1) (pa_cons (pv 2) (pa_cons (pv 0) pa_nil))))⟩))
      (pss_cons (ps_ret (pe_tup (pa_cons (pv 1) (pa_cons (pv 3) pa_nil)))) pss_nil)))), ?_⟩
  exact book_bodyR sg rv hm k
theorem ok_law_whole {f : Addr} {fd : FuncData} (F : Fun K "_law_whole" "_law_whole" s_law_whole f fd) (T : Txt mg) : FnOk P w K mg base CX0 1 f fd ["_law_thing"] (spM K mm_law_whole) := by
  refine F.ok sc_law_whole (fun vs H Q E h => (spM_len h).trans rfl) (fun cdv A outer s H0 vs Q E hr h => ?_)
  obtain ⟨G0, ⟨thing_, ⟨⟩⟩, res, sg0, ⟨v_thing_, _, rfl, r_thing_, rfl⟩, hm, q⟩ := h
  replace r_thing_ : Rp.rel K G0 v_thing_ thing_ := r_thing_
  replace hm : m_law_whole thing_ = some res := hm
  unfold m_law_whole at hm
  have xt : Ext G0 H0 G0 H0 := Ext.refl sg0
  refine ⟨_, (pss_cons (ps_ret (pe_and (pe_callB (call_instK (K := K) rfl) (by rfl) T.isinstance_ bt_isinstance (pa_cons (pv 0) (pa_cons (pe_bltn (v := .ty "int") rfl T.int_ bt_int rfl) pa_nil))) (pe_one (pe_not (pe_callB (call_instK (K := K) rfl) (by rfl) T.isinstance_ bt_isinstance (pa_cons (pv 0) (pa_cons (pe_bltn (v := .ty "bool") rfl T.bool_ bt_bool rfl) pa_nil)))))))
      pss_nil), ?_⟩
  exact sv_ret (K := K) (ev_andP (ev_inst (b := true) (by decide +kernel) (ev_var rfl r_thing_)) (ev_not (ev_inst (b := false) (by decide +kernel) (ev_var rfl r_thing_)))) hm xt.gh fun v1 G2 H3 x4 r5 => q v1 G2 H3 (xt.trans x4) r5
theorem ok_law_row_kind {f : Addr} {fd : FuncData} (F : Fun K "_law_row_kind" "_law_row_kind" s_law_row_kind f fd) (T : Txt mg) (D_law_whole : DefOk P w K mg base "_law_whole" 1 ["_law_thing"] (spM K mm_law_whole)) : FnOk P w K mg base CX0 2 f fd ["_law_row"] (spM K mm_law_row_kind) := by
  refine F.ok sc_law_row_kind (fun vs H Q E h => (spM_len h).trans rfl) (fun cdv A outer s H0 vs Q E hr h => ?_)
  obtain ⟨G0, ⟨row_, ⟨⟩⟩, res, sg0, ⟨v_row_, _, rfl, r_row_, rfl⟩, hm, q⟩ := h
  replace r_row_ : Rp.rel K G0 v_row_ row_ := r_row_
  replace hm : m_law_row_kind row_ = some res := hm
  unfold m_law_row_kind at hm
  have xt : Ext G0 H0 G0 H0 := Ext.refl sg0
  refine ⟨_, (pss_cons (ps_if (PW.pt (pw_or (pt_not (pt_truthK (K := K) rfl (pe_callB (call_instK (K := K) rfl) (by rfl) T.isinstance_ bt_isinstance (pa_cons (pv 0) (pa_cons (pe_bltn (v := .ty "tuple") rfl T.tuple_ bt_tuple rfl) pa_nil))) (fun _ => rfl))) (pw_or (pt_cmpR op_eq (pe_callB (call_lenK (K := K) rfl) (by rfl) T.len_ bt_len (pa_cons (pv 0) pa_nil)) pe_int (nomark _)) (pw_or1 (pt_not (pt_truthK (K := K) rfl (pe_callB (call_instK (K := K) rfl) (by rfl) T.isinstance_ bt_isinstance (pa_cons (pe_ix (ix_anyK (K := K) rfl) (pv 0) pe_int (fun _ _ => rfl)) (pa_cons (pe_bltn (v := .ty "str") rfl T.str_ bt_str rfl) pa_nil))) (fun _ => rfl))))))) (pss_cons (ps_ret pe_bl)
      pss_nil) pss_nil)
      (pss_cons (ps_if (pt_cmpR op_eq (pe_ix (ix_anyK (K := K) rfl) (pv 0) pe_int (fun _ _ => rfl)) pe_str (nomark _)) (pss_cons (ps_ret pe_bl)
      pss_nil) pss_nil)
      (pss_cons (ps_ret (pe_cmpR op_eq (pe_callB (call_lenK (K := K) rfl) (by rfl) T.len_ bt_len (pa_cons (pe_comp (cn := []) (cap := []) rfl ⟨by decide +kernel, rfl, by decide +kernel, free_of rfl⟩ rfl (by decide +kernel) trivial (pi_anyK (K := K) rfl (pe_slice (sl_tupK (K := K) rfl) (pv 0) (po_some pe_int) po_none)) (fun C s0 H0 fp => ⟨(pts_one (pt_truthK (K := K) rfl (pe_def D_law_whole hr (by decide) rfl (pa_cons (pv 0) pa_nil)) (fun _ => rfl))), (pv 0)⟩)) pa_nil)) (pe_op op_sub (pe_callB (call_lenK (K := K) rfl) (by rfl) T.len_ bt_len (pa_cons (pv 0) pa_nil)) pe_int) (nomark _)))
      pss_nil))), ?_⟩
  refine bE hm fun b10 h11 hm => ?_
  refine sv_if (tv_or (tv_not (tv_b (K := K) (ev_inst (b := true) (by decide +kernel) (ev_var rfl r_row_)))) (tv_or (tv_test (K := K) (ev_eqI (ev_lenT (ev_rkT (ev_var rfl r_row_))) ev_i)) (tv_not (tv_b (K := K) (ev_instD (by decide) (ev_toD (ev_atT (ev_rkT (ev_var rfl r_row_)) ev_i))))))) h11 xt.gh fun G12 H13 x14 => ?_
  have xt := xt.trans x14
  have r_row_ := Rp.mono x14.gg r_row_
  cases b10 with
  | true =>
    replace hm := cT hm
    refine iteT ?_
    exact sv_ret (K := K) (rest := tNext) (σ := [some v_row_]) ev_b hm xt.gh fun v15 G16 H17 x18 r19 => q v15 G16 H17 (xt.trans x18) r19
  | false =>
    replace hm := cF hm
    refine iteF ?_
    refine bE hm fun b26 h27 hm => ?_
    refine sv_if (tv_test (K := K) (ev_eqS (ev_asS (ev_atT (ev_rkT (ev_var rfl r_row_)) ev_i)) ev_s)) h27 xt.gh fun G28 H29 x30 => ?_
    have xt := xt.trans x30
    have r_row_ := Rp.mono x30.gg r_row_
    cases b26 with
    | true =>
      replace hm := cT hm
      refine iteT ?_
      exact sv_ret (K := K) (rest := tNext) (σ := [some v_row_]) ev_b hm xt.gh fun v31 G32 H33 x34 r35 => q v31 G32 H33 (xt.trans x34) r35
    | false =>
      replace hm := cF hm
      refine iteF ?_
      exact sv_ret (K := K) (ev_eqI (ev_len (FV.ev (fv_comp (cap := []) (fc := fun (part_ : SI) => (((some part_).bind fun t44 => asI t44).bind fun t45 => m_law_whole t45)) (fe := fun (part_ : SI) => (some part_)) (iw_tup (ev_sliceT (ev_rkT (ev_var rfl r_row_)) (ov_some (K := K) ev_i) ov_none)) fun xc43 part_ Gc40 sc41 rc42 => ⟨(tv_b (K := K) (ev_def1 (m := mm_law_whole) (ev_asI (ev_var rfl rc42)))), (ev_var rfl rc42)⟩))) (ev_sub (ev_lenT (ev_rkT (ev_var rfl r_row_))) ev_i)) hm xt.gh fun v49 G50 H51 x52 r53 => q v49 G50 H51 (xt.trans x52) r53
theorem ok_law_book_kind {f : Addr} {fd : FuncData} (F : Fun K "_law_book_kind" "_law_book_kind" s_law_book_kind f fd) (T : Txt mg) (D_law_row_kind : DefOk P w K mg base "_law_row_kind" 2 ["_law_row"] (spM K mm_law_row_kind)) (D_law_whole : DefOk P w K mg base "_law_whole" 1 ["_law_thing"] (spM K mm_law_whole)) : FnOk P w K mg base CX0 3 f fd ["_law_book"] (spM K mm_law_book_kind) := by
  refine F.ok sc_law_book_kind (fun vs H Q E h => (spM_len h).trans rfl) (fun cdv A outer s H0 vs Q E hr h => ?_)
  obtain ⟨G0, ⟨book_, ⟨⟩⟩, res, sg0, ⟨v_book_, _, rfl, r_book_, rfl⟩, hm, q⟩ := h
  replace r_book_ : Rp.rel K G0 v_book_ book_ := r_book_
  replace hm : m_law_book_kind book_ = some res := hm
  unfold m_law_book_kind at hm
  have xt : Ext G0 H0 G0 H0 := Ext.refl sg0
  refine ⟨_, (pss_cons (ps_if (PW.pt (pw_or (pt_not (pt_truthK (K := K) rfl (pe_callB (call_instK (K := K) rfl) (by rfl) T.isinstance_ bt_isinstance (pa_cons (pv 0) (pa_cons (pe_bltn (v := .ty "tuple") rfl T.tuple_ bt_tuple rfl) pa_nil))) (fun _ => rfl))) (pw_or1 (pt_cmpR op_ne (pe_callB (call_lenK (K := K) rfl) (by rfl) T.len_ bt_len (pa_cons (pv 0) pa_nil)) pe_int (nomark _))))) (pss_cons (ps_ret pe_bl)
      pss_nil) pss_nil)
      (pss_cons (ps_if (PW.pt (pw_or (pt_not (pt_truthK (K := K) rfl (pe_callB (call_instK (K := K) rfl) (by rfl) T.isinstance_ bt_isinstance (pa_cons (pe_ix (ix_anyK (K := K) rfl) (pv 0) pe_int (fun _ _ => rfl)) (pa_cons (pe_bltn (v := .ty "list") rfl T.list_ bt_list rfl) pa_nil))) (fun _ => rfl))) (pw_or1 (pt_not (pt_truthK (K := K) rfl (pe_callB (call_instK (K := K) rfl) (by rfl) T.isinstance_ bt_isinstance (pa_cons (pe_ix (ix_anyK (K := K) rfl) (pv 0) pe_int (fun _ _ => rfl)) (pa_cons (pe_bltn (v := .ty "list") rfl T.list_ bt_list rfl) pa_nil))) (fun _ => rfl)))))) (pss_cons (ps_ret pe_bl)
      pss_nil) pss_nil)
      (pss_cons (ps_for PassesOwn.never rfl (pi_anyK (K := K) rfl (pe_ix (ix_anyK (K := K) rfl) (pv 0) pe_int (fun _ _ => rfl))) (pg_name (i := 1) sc_law_book_kind.nd rfl (Or.inl rfl)) (pss_cons (ps_if (pt_not (pt_truthK (K := K) rfl (pe_def D_law_row_kind hr (by decide) rfl (pa_cons (pv 1) pa_nil)) (fun _ => rfl))) (pss_cons (ps_ret pe_bl)
      pss_nil) pss_nil)
      pss_nil))
      (pss_cons (ps_ret (pe_cmpR op_eq (pe_callB (call_lenK (K := K) rfl) (by rfl) T.len_ bt_len (pa_cons (pe_comp (cn := []) (cap := []) rfl ⟨by decide +kernel, rfl, by decide +kernel, free_of rfl⟩ rfl (by decide +kernel) trivial (pi_anyK (K := K) rfl (pe_ix (ix_anyK (K := K) rfl) (pv 0) pe_int (fun _ _ => rfl))) (fun C s0 H0 fp => ⟨(pts_one (pt_truthK (K := K) rfl (pe_def D_law_whole hr (by decide) rfl (pa_cons (pv 0) pa_nil)) (fun _ => rfl))), (pv 0)⟩)) pa_nil)) (pe_callB (call_lenK (K := K) rfl) (by rfl) T.len_ bt_len (pa_cons (pe_ix (ix_anyK (K := K) rfl) (pv 0) pe_int (fun _ _ => rfl)) pa_nil)) (nomark _)))
      pss_nil)))), ?_⟩
  refine bE hm fun b1 h2 hm => ?_
  refine sv_if (tv_orP (tv_not (tv_b (K := K) (ev_inst (b := true) (by decide +kernel) (ev_var rfl r_book_)))) (tv_test (K := K) (ev_neI (ev_len2 (ev_var rfl r_book_)) ev_i))) h2 xt.gh fun G3 H4 x5 => ?_
  have xt := xt.trans x5
  have r_book_ := Rp.mono x5.gg r_book_
  cases b1 with
  | true =>
    replace hm := cT hm
    refine iteT ?_
    exact sv_ret (K := K) (rest := tNext) (σ := [some v_book_, none]) ev_b hm xt.gh fun v6 G7 H8 x9 r10 => q v6 G7 H8 (xt.trans x9) r10
  | false =>
    replace hm := cF hm
    refine iteF ?_
    refine bE hm fun b11 h12 hm => ?_
    refine sv_if (tv_orP (tv_not (tv_b (K := K) (ev_inst (b := true) (by decide +kernel) (ev_fst (ev_var rfl r_book_))))) (tv_not (tv_b (K := K) (ev_inst (b := true) (by decide +kernel) (ev_snd (ev_var rfl r_book_)))))) h12 xt.gh fun G13 H14 x15 => ?_
    have xt := xt.trans x15
    have r_book_ := Rp.mono x15.gg r_book_
    cases b11 with
    | true =>
      replace hm := cT hm
      refine iteT ?_
      exact sv_ret (K := K) (rest := tNext) (σ := [some v_book_, none]) ev_b hm xt.gh fun v16 G17 H18 x19 r20 => q v16 G17 H18 (xt.trans x19) r20
    | false =>
      replace hm := cF hm
      refine iteF ?_
      refine bE hm fun as21 h22 hm => ?_
      refine bE hm fun fl23 h24 hm => ?_
      refine sv_for (K := K) (RR := fun r v G' H' => Ext G0 H0 G' H' ∧ Rp.rel K G' v r) (iw_list (ev_fst (ev_var rfl r_book_))) h22 h24 xt.gh fun G25 H26 x27 => ⟨fun s28 S' G' H' => ∃ (v29 : Option V), Ext G0 H0 G' H' ∧ Same G25 G' ∧ S' = [some v_book_, v29], ?_, ?_, ?_, ?_, ?_⟩
      · have xt := xt.trans x27
        have r_book_ := Rp.mono x27.gg r_book_
        exact ⟨_, xt, (Same.refl _), rfl⟩
      · rintro _ S' G' H' ⟨v29, xt, mk30, rfl⟩
        exact ⟨mk30, xt.gh⟩
      · rintro xv31 a32 s28 _ G35 H36 fl33 - ⟨v29, xt, mk30, rfl⟩ rx34 hm D' kN37 kC38 kB39 kR40
        have r_book_ := Rp.mono (x27.gg.trans mk30) r_book_
        refine sv_turn ?_
        refine bE hm fun b43 h44 hm => ?_
        refine sv_if (tv_not (tv_b (K := K) (ev_def1 (m := mm_law_row_kind) (ev_var rfl rx34)))) h44 xt.gh fun G45 H46 x47 => ?_
        have xt := xt.trans x47
        have mk30 := mk30.trans x47.gg
        have r_book_ := Rp.mono x47.gg r_book_
        have rx34 := Rp.mono x47.gg rx34
        cases b43 with
        | true =>
          replace hm := cT hm
          refine iteT ?_
          refine bE hm fun rr53 h54 hm => ?_
          cases hm
          exact sv_ret (K := K) (rest := tNext) (σ := [some v_book_, some xv31]) ev_b h54 xt.gh fun v48 G49 H50 x51 r52 => kR40 _ v48 G49 H50 rfl ⟨xt.trans x51, r52⟩
        | false =>
          replace hm := cF hm
          refine iteF ?_
          cases hm
          exact kN37 _ _ _ _ rfl ⟨_, xt, mk30, rfl⟩
      · rintro s28 _ G57 H58 rfl ⟨v55, xt, mk56, rfl⟩
        refine sv_nx ?_
        have r_book_ := Rp.mono (x27.gg.trans mk56) r_book_
        exact sv_ret (K := K) (ev_eqI (ev_len (FV.ev (fv_comp (cap := []) (fc := fun (spot_ : Int) => ((some spot_).bind fun t63 => m_law_whole t63)) (fe := fun (spot_ : Int) => (some spot_)) (iw_list (ev_snd (ev_var rfl r_book_))) fun xc62 spot_ Gc59 sc60 rc61 => ⟨(tv_b (K := K) (ev_def1 (m := mm_law_whole) (ev_var rfl rc61))), (ev_var rfl rc61)⟩))) (ev_len (ev_snd (ev_var rfl r_book_)))) hm xt.gh fun v67 G68 H69 x70 r71 => q v67 G68 H69 (xt.trans x70) r71
      · rintro r' v' G' H' rfl rl
        cases hm
        exact q v' G' H' rl.1 rl.2
theorem ok_law_number_of {f : Addr} {fd : FuncData} (F : Fun K "_law_number_of" "_law_number_of" s_law_number_of f fd) (T : Txt mg) : FnOk P w K mg base CX0 1 f fd ["_law_row", "_law_rows", "_law_many"] (spM K mm_law_number_of) := by
  refine F.ok sc_law_number_of (fun vs H Q E h => (spM_len h).trans rfl) (fun cdv A outer s H0 vs Q E hr h => ?_)
  obtain ⟨G0, ⟨row_, ⟨rows_, ⟨many_, ⟨⟩⟩⟩⟩, res, sg0, ⟨v_row_, _, rfl, r_row_, ⟨v_rows_, _, rfl, r_rows_, ⟨v_many_, _, rfl, r_many_, rfl⟩⟩⟩, hm, q⟩ := h
  replace r_row_ : Rp.rel K G0 v_row_ row_ := r_row_
  replace r_rows_ : Rp.rel K G0 v_rows_ rows_ := r_rows_
  replace r_many_ : Rp.rel K G0 v_many_ many_ := r_many_
  replace hm : m_law_number_of row_ rows_ many_ = some res := hm
  unfold m_law_number_of at hm
  have xt : Ext G0 H0 G0 H0 := Ext.refl sg0
  refine ⟨_, (pss_cons (ps_for PassesOwn.never rfl (pi_range1 rfl T.range_ (pa_cons (pv 2) pa_nil)) (pg_name (i := 3) sc_law_number_of.nd rfl (Or.inl rfl)) (pss_cons (ps_if (pt_cmpR (op_eqN (K := K) rfl hr) (pe_ix (ix_anyK (K := K) rfl) (pv 1) (pv 3) (fun _ _ => rfl)) (pv 0) (nomark _)) (pss_cons (ps_ret (pv 3))
      pss_nil) pss_nil)
      pss_nil))
      (pss_cons (ps_ret pe_non)
      pss_nil)), ?_⟩
  refine bE hm fun as2 h3 hm => ?_
  refine bE hm fun fl4 h5 hm => ?_
  refine sv_for (K := K) (RR := fun r v G' H' => Ext G0 H0 G' H' ∧ Rp.rel K G' v r) (iw_rng1 (ev_var rfl r_many_)) h3 h5 xt.gh fun G6 H7 x8 => ⟨fun s9 S' G' H' => ∃ (v10 : Option V), Ext G0 H0 G' H' ∧ Same G6 G' ∧ S' = [some v_row_, some v_rows_, some v_many_, v10], ?_, ?_, ?_, ?_, ?_⟩
  · have xt := xt.trans x8
    have r_row_ := Rp.mono x8.gg r_row_
    have r_rows_ := Rp.mono x8.gg r_rows_
    have r_many_ := Rp.mono x8.gg r_many_
    exact ⟨_, xt, (Same.refl _), rfl⟩
  · rintro _ S' G' H' ⟨v10, xt, mk11, rfl⟩
    exact ⟨mk11, xt.gh⟩
  · rintro xv12 a13 s9 _ G16 H17 fl14 - ⟨v10, xt, mk11, rfl⟩ rx15 hm D' kN18 kC19 kB20 kR21
    have r_row_ := Rp.mono (x8.gg.trans mk11) r_row_
    have r_rows_ := Rp.mono (x8.gg.trans mk11) r_rows_
    have r_many_ := Rp.mono (x8.gg.trans mk11) r_many_
    refine sv_turn ?_
    refine bE hm fun b29 h30 hm => ?_
    refine sv_if (tv_test (K := K) (ev_eqN (ev_rkN (ev_at (ev_var rfl r_rows_) (ev_var rfl rx15))) (ev_var rfl r_row_))) h30 xt.gh fun G31 H32 x33 => ?_
    have xt := xt.trans x33
    have mk11 := mk11.trans x33.gg
    have r_row_ := Rp.mono x33.gg r_row_
    have r_rows_ := Rp.mono x33.gg r_rows_
    have r_many_ := Rp.mono x33.gg r_many_
    have rx15 := Rp.mono x33.gg rx15
    cases b29 with
    | true =>
      replace hm := cT hm
      refine iteT ?_
      refine bE hm fun rr39 h40 hm => ?_
      cases hm
      exact sv_ret (K := K) (ev_some (ev_var rfl rx15)) h40 xt.gh fun v34 G35 H36 x37 r38 => kR21 _ v34 G35 H36 rfl ⟨xt.trans x37, r38⟩
    | false =>
      replace hm := cF hm
      refine iteF ?_
      cases hm
      exact kN18 _ _ _ _ rfl ⟨_, xt, mk11, rfl⟩
  · rintro s9 _ G43 H44 rfl ⟨v41, xt, mk42, rfl⟩
    refine sv_nx ?_
    have r_row_ := Rp.mono (x8.gg.trans mk42) r_row_
    have r_rows_ := Rp.mono (x8.gg.trans mk42) r_rows_
    have r_many_ := Rp.mono (x8.gg.trans mk42) r_many_
    exact sv_ret (K := K) (rest := tNext) (σ := [some v_row_, some v_rows_, some v_many_, v41]) (ev_none (α := Int)) hm xt.gh fun v45 G46 H47 x48 r49 => q v45 G46 H47 (xt.trans x48) r49
  · rintro r' v' G' H' rfl rl
    cases hm
    exact q v' G' H' rl.1 rl.2
theorem ok0_law_gone {f : Addr} {fd : FuncData} (F : Fun K "_law_gone" "_law_gone" s_law_gone f fd) : FnOk P w K mg base CX0 2 f fd ["_law_told", "_law_rows", "_law_many"] (spYL K (mm_law_gone 0)) := by
  refine F.ok sc_law_gone (fun vs H Q E h => (spYL_len h).trans rfl) (fun cdv A outer s H0 vs Q E hr h => ?_)
  obtain ⟨_, _, _, _, _, _, _, _, _, _, _, hm, _⟩ := h
  exact nomatch (hm : none = some _)
theorem ok_law_gone {f : Addr} {fd : FuncData} (F : Fun K "_law_gone" "_law_gone" s_law_gone f fd) (T : Txt mg) (D_law_number_of : DefOk P w K mg base "_law_number_of" 1 ["_law_row", "_law_rows", "_law_many"] (spM K mm_law_number_of)) (fuel_ : Nat) (D_law_gone : DefOk P w K mg base "_law_gone" (2 + fuel_) ["_law_told", "_law_rows", "_law_many"] (spYL K (mm_law_gone fuel_))) : FnOk P w K mg base CX0 (2 + fuel_ + 1) f fd ["_law_told", "_law_rows", "_law_many"] (spYL K (mm_law_gone (fuel_ + 1))) := by
  refine F.ok sc_law_gone (fun vs H Q E h => (spYL_len h).trans rfl) (fun cdv A outer s H9 vs Q E hr h => ?_)
  obtain ⟨G0, p_many_, vs_many_, _, many_, ⟨told_, ⟨rows_, ⟨⟩⟩⟩, res, rfl, sg0, o_many_, ⟨v_told_, _, rfl, r_told_, ⟨v_rows_, _, rfl, r_rows_, rfl⟩⟩, hm, q⟩ := h
  have xt : Ext G0 (era H9 [p_many_]) G0 H9 := Ext.begin sg0
  have hz_many_ : era H9 [p_many_] p_many_ = none := era_in (by simp)
  generalize era H9 [p_many_] = H0 at xt q hz_many_
  replace r_told_ : Rp.rel K G0 v_told_ told_ := r_told_
  replace r_rows_ : Rp.rel K G0 v_rows_ rows_ := r_rows_
  replace hm : msm_law_gone (m_law_gone fuel_) many_ told_ rows_ = some res := hm
  unfold msm_law_gone at hm
  refine ⟨_, (pss_cons (ps_set (i := 3) sc_law_gone.nd rfl (Or.inl rfl) (pv 0))
      (pss_cons (ps_if (pt_cmpR op_ne (pe_ix (ix_anyK (K := K) rfl) (pv 0) pe_int (fun _ _ => rfl)) pe_str (nomark _)) (pss_cons (ps_set (i := 3) sc_law_gone.nd rfl (Or.inl rfl) (pe_slice (sl_tupA (K := K) rfl) (pv 0) po_none (po_some pe_int)))
      (pss_cons (ps_for PassesOwn.never rfl (pi_anyK (K := K) rfl (pe_slice (sl_tupK (K := K) rfl) (pv 0) (po_some pe_int) po_none)) (pg_name (i := 4) sc_law_gone.nd rfl (Or.inl rfl)) (pss_cons (ps_set (i := 5) sc_law_gone.nd rfl (Or.inl rfl) (pe_def D_law_gone hr (by omega) rfl (pa_cons (pv 4) (pa_cons (pv 1) (pa_cons (pv 2) pa_nil)))))
      (pss_cons (ps_if (pt_cmpR op_isN (pv 5) pe_non (nomark _)) (pss_cons (ps_ret pe_non)
      pss_nil) pss_nil)
      (pss_cons (ps_set (i := 3) sc_law_gone.nd rfl (Or.inl rfl) (pe_op (op_catTp (K := K) rfl) (pv 3) (pe_tup (pa_cons (pv 5) pa_nil))))
      pss_nil))))
      pss_nil)) pss_nil)
      (pss_cons (ps_set (i := 5) sc_law_gone.nd rfl (Or.inl rfl) (pe_def D_law_number_of hr (by omega) rfl (pa_cons (pv 3) (pa_cons (pv 1) (pa_cons (pe_ix (ix_anyK (K := K) rfl) (pv 2) pe_int (fun _ _ => rfl)) pa_nil)))))
      (pss_cons (ps_if (PW.pt (pw_and (pt_cmpR op_isN (pv 5) pe_non (nomark _)) (pw_and (pt_cmpR op_ltU (pe_ix (ix_anyK (K := K) rfl) (pv 2) pe_int (fun _ _ => rfl)) (pe_callB (call_lenK (K := K) rfl) (by rfl) T.len_ bt_len (pa_cons (pv 1) pa_nil)) (nomark _)) (pw_and1 (pt_cmpR (op_eqN (K := K) rfl hr) (pe_ix (ix_anyK (K := K) rfl) (pv 1) (pe_ix (ix_anyK (K := K) rfl) (pv 2) pe_int (fun _ _ => rfl)) (fun _ _ => rfl)) (pv 3) (nomark _)))))) (pss_cons (ps_set (i := 5) sc_law_gone.nd rfl (Or.inl rfl) (pe_ix (ix_anyK (K := K) rfl) (pv 2) pe_int (fun _ _ => rfl)))
      (pss_cons (ps_asg (pe_op (op_plusK (K := K) rfl) (pe_ix (ix_anyK (K := K) rfl) (pv 2) pe_int (fun _ _ => rfl)) pe_int) (pg_sub (pv 2) pe_int set_list))
      pss_nil)) pss_nil)
      (pss_cons (ps_ret (pv 5))
      pss_nil))))), ?_⟩
  refine bE hm fun row_ h6 hm => ?_
  refine sv_set (K := K) (ev_var rfl r_told_) h6 xt.gh fun v1 G2 H3 x4 r5 => ?_
  have xt := xt.trans x4
  have o_many_ := o_many_.ext x4
  have r_told_ := Rp.mono x4.gg r_told_
  have r_rows_ := Rp.mono x4.gg r_rows_
  refine bE hm fun b15 h16 hm => ?_
  refine sv_if (tv_test (K := K) (ev_neS (ev_asTxt (ev_atT (ev_asTup (ev_var rfl r_told_)) ev_i)) ev_s)) h16 xt.gh fun G17 H18 x19 => ?_
  have xt := xt.trans x19
  have o_many_ := o_many_.ext x19
  have r_told_ := Rp.mono x19.gg r_told_
  have r_rows_ := Rp.mono x19.gg r_rows_
  have r5 := Rp.mono x19.gg r5
  cases b15 with
  | true =>
    replace hm := cT hm
    refine iteT ?_
    refine bE hm fun row_ h28 hm => ?_
    refine sv_set (K := K) (ev_tupN (ev_sliceTA (ev_asTup (ev_var rfl r_told_)) ov_none (ov_some (K := K) ev_i))) h28 xt.gh fun v23 G24 H25 x26 r27 => ?_
    have xt := xt.trans x26
    have o_many_ := o_many_.ext x26
    have r_told_ := Rp.mono x26.gg r_told_
    have r_rows_ := Rp.mono x26.gg r_rows_
    have r5 := Rp.mono x26.gg r5
    refine bE hm fun as34 h35 hm => ?_
    refine bE hm fun fl36 h37 hm => ?_
    refine sv_for (K := K) (RR := fun r v G' H' => ∃ vs, Ext G0 H0 G' H' ∧ Own K G' H' (V.ref p_many_) p_many_ vs r.1 ∧ Rp.rel K G' v r.2) (iw_tup (ev_sliceT (ev_asTup (ev_var rfl r_told_)) (ov_some (K := K) ev_i) ov_none)) h35 h37 xt.gh fun G38 H39 x40 => ⟨fun s41 S' G' H' => ∃ (v42 : V) (v43 : Option V) (v44 : Option V), Ext G0 H0 G' H' ∧ Same G38 G' ∧ S' = [some v_told_, some v_rows_, some (V.ref p_many_), some v42, v43, v44] ∧ (∃ vs, Own K G' H' (V.ref p_many_) p_many_ vs s41.1) ∧ Rp.rel K G' v42 (s41.2 : Nt), ?_, ?_, ?_, ?_, ?_⟩
    · have xt := xt.trans x40
      have o_many_ := o_many_.ext x40
      have r_told_ := Rp.mono x40.gg r_told_
      have r_rows_ := Rp.mono x40.gg r_rows_
      have r27 := Rp.mono x40.gg r27
      exact ⟨v23, _, _, xt, (Same.refl _), rfl, ⟨_, o_many_⟩, r27⟩
    · rintro _ S' G' H' ⟨v42, v43, v44, xt, mk45, rfl, ⟨vs_many_, o_many_⟩, r46⟩
      exact ⟨mk45, xt.gh⟩
    · rintro xv47 a48 s41 _ G51 H52 fl49 - ⟨v42, v43, v44, xt, mk45, rfl, ⟨vs_many_, o_many_⟩, r46⟩ rx50 hm D' kN53 kC54 kB55 kR56
      have r_told_ := Rp.mono (x40.gg.trans mk45) r_told_
      have r_rows_ := Rp.mono (x40.gg.trans mk45) r_rows_
      refine sv_turn ?_
      refine bE hm fun c57 h59 hm => ?_
      refine bE hm fun c58 h60 hm => ?_
      refine bE hm fun rz61 h62 hm => ?_
      refine sv_setY2 (K := K) (m := mm_law_gone fuel_) rfl o_many_ (ev_var rfl rx50) h59 (ev_var rfl r_rows_) h60 h62 xt.gh fun v63 G64 H65 G66 H67 vs68 x69 y70 o71 r72 => ?_
      have xt := (xt.trans x69).past (C := [p_many_]) (fun b hb => by simp only [List.mem_cons, List.not_mem_nil, or_false] at hb; rw [hb]; assumption) y70
      have mk45 := mk45.trans (x69.gg.trans y70.gg)
      have r_told_ := Rp.mono (x69.gg.trans y70.gg) r_told_
      have r_rows_ := Rp.mono (x69.gg.trans y70.gg) r_rows_
      have r46 := Rp.mono (x69.gg.trans y70.gg) r46
      have rx50 := Rp.mono (x69.gg.trans y70.gg) rx50
      refine bE hm fun b73 h74 hm => ?_
      refine sv_if (tv_test (K := K) (ev_isN nn_int (ev_var rfl r72))) h74 xt.gh fun G75 H76 x77 => ?_
      have xt := xt.trans x77
      have mk45 := mk45.trans x77.gg
      have o71 := o71.ext x77
      have r_told_ := Rp.mono x77.gg r_told_
      have r_rows_ := Rp.mono x77.gg r_rows_
      have r46 := Rp.mono x77.gg r46
      have rx50 := Rp.mono x77.gg rx50
      have r72 := Rp.mono x77.gg r72
      cases b73 with
      | true =>
        replace hm := cT hm
        refine iteT ?_
        refine bE hm fun rr83 h84 hm => ?_
        cases hm
        exact sv_ret (K := K) (rest := tNext) (σ := [some v_told_, some v_rows_, some (V.ref p_many_), some v42, some xv47, some v63]) (ev_none (α := Int)) h84 xt.gh fun v78 G79 H80 x81 r82 => kR56 _ v78 G79 H80 rfl ⟨_, xt.trans x81, o71.ext x81, r82⟩
      | false =>
        replace hm := cF hm
        refine iteF ?_
        refine bE hm fun row_ h98 hm => ?_
        refine sv_set (K := K) (ev_tupN (ev_catTp (ev_asTup (ev_var rfl r46)) (ev_tupL (lv_cons (ev_intN (ev_get (ev_var rfl r72))) (lv_nil (α := Nt)))))) h98 xt.gh fun v93 G94 H95 x96 r97 => ?_
        have xt := xt.trans x96
        have mk45 := mk45.trans x96.gg
        have o71 := o71.ext x96
        have r_told_ := Rp.mono x96.gg r_told_
        have r_rows_ := Rp.mono x96.gg r_rows_
        have r46 := Rp.mono x96.gg r46
        have rx50 := Rp.mono x96.gg rx50
        have r72 := Rp.mono x96.gg r72
        cases hm
        exact kN53 _ _ _ _ rfl ⟨v93, _, _, xt, mk45, rfl, ⟨_, o71⟩, r97⟩
    · rintro s41 _ G104 H105 rfl ⟨v99, v100, v101, xt, mk102, rfl, ⟨vs_many_, o_many_⟩, r103⟩
      refine sv_nx ?_
      have r_told_ := Rp.mono (x40.gg.trans mk102) r_told_
      have r_rows_ := Rp.mono (x40.gg.trans mk102) r_rows_
      refine bE hm fun spot_ h121 hm => ?_
      refine sv_setB (K := K) o_many_ (ev_def3 (m := mm_law_number_of) (ev_var rfl (Rp.mono (Same.new o_many_.g) r103)) (ev_var rfl (Rp.mono (Same.new o_many_.g) r_rows_)) (ev_at (ev_var rfl o_many_.tell) ev_i)) h121 xt.gh fun v116 G117 H118 x119 r120 => ?_
      have xt := xt.trans x119
      have o_many_ := o_many_.ext x119
      have r_told_ := Rp.mono x119.gg r_told_
      have r_rows_ := Rp.mono x119.gg r_rows_
      have r103 := Rp.mono x119.gg r103
      refine bE hm fun b154 h155 hm => ?_
      refine bE hm fun s159 h160 hm => ?_
      refine sv_join (fun S197 H196 => ∃ (G195 : Hp) (v162 : V), Ext G0 H0 G195 H196 ∧ Same G117 G195 ∧ S197 = [some v_told_, some v_rows_, some (V.ref p_many_), some v99, v100, some v162] ∧ (∃ vs, Own K G195 H196 (V.ref p_many_) p_many_ vs s159.1) ∧ Rp.rel K G195 v162 (s159.2 : (Option Int))) (fun nx kn164 => ?_) ?_
      · refine sv_ifB o_many_ (tv_and (tv_test (K := K) (ev_isN nn_int (ev_var rfl (Rp.mono (Same.new o_many_.g) r120)))) (tv_and (tv_test (K := K) (ev_ord (ev_at (ev_var rfl o_many_.tell) ev_i) (ev_len (ev_var rfl (Rp.mono (Same.new o_many_.g) r_rows_))))) (tv_test (K := K) (ev_eqN (ev_rkN (ev_at (ev_var rfl (Rp.mono (Same.new o_many_.g) r_rows_)) (ev_at (ev_var rfl o_many_.tell) ev_i))) (ev_var rfl (Rp.mono (Same.new o_many_.g) r103)))))) h155 xt.gh fun G156 H157 x158 => ?_
        have xt := xt.trans x158
        have o_many_ := o_many_.ext x158
        have r_told_ := Rp.mono x158.gg r_told_
        have r_rows_ := Rp.mono x158.gg r_rows_
        have r103 := Rp.mono x158.gg r103
        have r120 := Rp.mono x158.gg r120
        have mk161 : Same G117 G156 := x158.gg
        have hm := h160
        cases b154 with
        | true =>
          replace hm := cT hm
          refine iteT ?_
          refine bE hm fun spot_ h176 hm => ?_
          refine sv_setB (K := K) o_many_ (ev_some (ev_at (ev_var rfl o_many_.tell) ev_i)) h176 xt.gh fun v171 G172 H173 x174 r175 => ?_
          have xt := xt.trans x174
          have mk161 := mk161.trans x174.gg
          have o_many_ := o_many_.ext x174
          have r_told_ := Rp.mono x174.gg r_told_
          have r_rows_ := Rp.mono x174.gg r_rows_
          have r103 := Rp.mono x174.gg r103
          have r120 := Rp.mono x174.gg r120
          refine bE hm fun a183 h184 hm => ?_
          refine bE hm fun k185 h186 hm => ?_
          refine bE hm fun z194 h187 hm => ?_
          refine sv_setitemB (K := K) rfl o_many_ (ev_add (ev_at (ev_var rfl o_many_.tell) ev_i) ev_i) h184 ev_i h186 h187 xt.gh fun G188 H189 w190 j191 x192 o193 => ?_
          have xt : Ext G0 H0 G188 (upd H189 p_many_ (.lst (vs_many_.set j191 w190))) := (xt.trans x192).put hz_many_ o193.g
          have mk161 := mk161.trans x192.gg
          have r_told_ := Rp.mono x192.gg r_told_
          have r_rows_ := Rp.mono x192.gg r_rows_
          have r103 := Rp.mono x192.gg r103
          have r175 := Rp.mono x192.gg r175
          cases hm
          exact kn164 _ _ ⟨G188, v171, xt, mk161, rfl, ⟨_, o193⟩, r175⟩
        | false =>
          replace hm := cF hm
          refine iteF ?_
          cases hm
          exact kn164 _ _ ⟨G156, v116, xt, mk161, rfl, ⟨_, o_many_⟩, r120⟩
      · rintro _ H196 ⟨G195, v162, xt, mk161, rfl, ⟨vs_many_, o_many_⟩, r163⟩
        have r_told_ := Rp.mono mk161 r_told_
        have r_rows_ := Rp.mono mk161 r_rows_
        have r103 := Rp.mono mk161 r103
        refine bE hm fun rr203 h204 hm => ?_
        cases hm
        exact sv_ret (K := K) (ev_var rfl r163) h204 xt.gh fun v198 G199 H200 x201 r202 => q v198 G199 H200 _ (xt.trans x201) (o_many_.ext x201) r202
    · rintro r' v' G' H' rfl rl
      cases hm
      obtain ⟨vs', x', o', r'⟩ := rl
      exact q v' G' H' vs' x' o' r'
  | false =>
    replace hm := cF hm
    refine iteF ?_
    refine bE hm fun spot_ h220 hm => ?_
    refine sv_setB (K := K) o_many_ (ev_def3 (m := mm_law_number_of) (ev_var rfl (Rp.mono (Same.new o_many_.g) r5)) (ev_var rfl (Rp.mono (Same.new o_many_.g) r_rows_)) (ev_at (ev_var rfl o_many_.tell) ev_i)) h220 xt.gh fun v215 G216 H217 x218 r219 => ?_
    have xt := xt.trans x218
    have o_many_ := o_many_.ext x218
    have r_told_ := Rp.mono x218.gg r_told_
    have r_rows_ := Rp.mono x218.gg r_rows_
    have r5 := Rp.mono x218.gg r5
    refine bE hm fun b253 h254 hm => ?_
    refine bE hm fun s258 h259 hm => ?_
    refine sv_join (fun S296 H295 => ∃ (G294 : Hp) (v261 : V), Ext G0 H0 G294 H295 ∧ Same G216 G294 ∧ S296 = [some v_told_, some v_rows_, some (V.ref p_many_), some v1, none, some v261] ∧ (∃ vs, Own K G294 H295 (V.ref p_many_) p_many_ vs s258.1) ∧ Rp.rel K G294 v261 (s258.2 : (Option Int))) (fun nx kn263 => ?_) ?_
    · refine sv_ifB o_many_ (tv_and (tv_test (K := K) (ev_isN nn_int (ev_var rfl (Rp.mono (Same.new o_many_.g) r219)))) (tv_and (tv_test (K := K) (ev_ord (ev_at (ev_var rfl o_many_.tell) ev_i) (ev_len (ev_var rfl (Rp.mono (Same.new o_many_.g) r_rows_))))) (tv_test (K := K) (ev_eqN (ev_rkN (ev_at (ev_var rfl (Rp.mono (Same.new o_many_.g) r_rows_)) (ev_at (ev_var rfl o_many_.tell) ev_i))) (ev_var rfl (Rp.mono (Same.new o_many_.g) r5)))))) h254 xt.gh fun G255 H256 x257 => ?_
      have xt := xt.trans x257
      have o_many_ := o_many_.ext x257
      have r_told_ := Rp.mono x257.gg r_told_
      have r_rows_ := Rp.mono x257.gg r_rows_
      have r5 := Rp.mono x257.gg r5
      have r219 := Rp.mono x257.gg r219
      have mk260 : Same G216 G255 := x257.gg
      have hm := h259
      cases b253 with
      | true =>
        replace hm := cT hm
        refine iteT ?_
        refine bE hm fun spot_ h275 hm => ?_
        refine sv_setB (K := K) o_many_ (ev_some (ev_at (ev_var rfl o_many_.tell) ev_i)) h275 xt.gh fun v270 G271 H272 x273 r274 => ?_
        have xt := xt.trans x273
        have mk260 := mk260.trans x273.gg
        have o_many_ := o_many_.ext x273
        have r_told_ := Rp.mono x273.gg r_told_
        have r_rows_ := Rp.mono x273.gg r_rows_
        have r5 := Rp.mono x273.gg r5
        have r219 := Rp.mono x273.gg r219
        refine bE hm fun a282 h283 hm => ?_
        refine bE hm fun k284 h285 hm => ?_
        refine bE hm fun z293 h286 hm => ?_
        refine sv_setitemB (K := K) rfl o_many_ (ev_add (ev_at (ev_var rfl o_many_.tell) ev_i) ev_i) h283 ev_i h285 h286 xt.gh fun G287 H288 w289 j290 x291 o292 => ?_
        have xt : Ext G0 H0 G287 (upd H288 p_many_ (.lst (vs_many_.set j290 w289))) := (xt.trans x291).put hz_many_ o292.g
        have mk260 := mk260.trans x291.gg
        have r_told_ := Rp.mono x291.gg r_told_
        have r_rows_ := Rp.mono x291.gg r_rows_
        have r5 := Rp.mono x291.gg r5
        have r274 := Rp.mono x291.gg r274
        cases hm
        exact kn263 _ _ ⟨G287, v270, xt, mk260, rfl, ⟨_, o292⟩, r274⟩
      | false =>
        replace hm := cF hm
        refine iteF ?_
        cases hm
        exact kn263 _ _ ⟨G255, v215, xt, mk260, rfl, ⟨_, o_many_⟩, r219⟩
    · rintro _ H295 ⟨G294, v261, xt, mk260, rfl, ⟨vs_many_, o_many_⟩, r262⟩
      have r_told_ := Rp.mono mk260 r_told_
      have r_rows_ := Rp.mono mk260 r_rows_
      have r5 := Rp.mono mk260 r5
      refine bE hm fun rr302 h303 hm => ?_
      cases hm
      exact sv_ret (K := K) (ev_var rfl r262) h303 xt.gh fun v297 G298 H299 x300 r301 => q v297 G298 H299 _ (xt.trans x300) (o_many_.ext x300) r301
theorem ok_law {f : Addr} {fd : FuncData} (F : Fun K "law" "law" s_law f fd) (T : Txt mg) (D_law_some : DefOk P w K mg base "_law_some" 4 ["_law_script"] (spM K mm_law_some)) (D_book_of : DefOk P w K mg base "book_of" 98 ["some"] (spN K mm_book_of)) (D_law_book_kind : DefOk P w K mg base "_law_book_kind" 3 ["_law_book"] (spM K mm_law_book_kind)) (D_law_gone : DefOk P w K mg base "_law_gone" 97 ["_law_told", "_law_rows", "_law_many"] (spYL K (mm_law_gone 95))) : FnOk P w K mg base CX0 99 f fd ["_law_script"] (spM K mm_law) := by
  refine F.ok sc_law (fun vs H Q E h => (spM_len h).trans rfl) (fun cdv A outer s H0 vs Q E hr h => ?_)
  obtain ⟨G0, ⟨script_, ⟨⟩⟩, res, sg0, ⟨v_script_, _, rfl, r_script_, rfl⟩, hm, q⟩ := h
  replace r_script_ : Rp.rel K G0 v_script_ script_ := r_script_
  replace hm : m_law script_ = some res := hm
  unfold m_law at hm
  have xt : Ext G0 H0 G0 H0 := Ext.refl sg0
  refine ⟨_, (pss_cons (ps_set (i := 1) sc_law.nd rfl (Or.inl rfl) (pe_def D_law_some hr (by decide) rfl (pa_cons (pv 0) pa_nil)))
    (pss_cons (ps_set (i := 2) sc_law.nd rfl (Or.inl rfl) (pe_callTy (call_listK (K := K) rfl) (by rfl) T.list_ bt_list (pa_cons (pv 1) pa_nil)))
    (pss_cons (ps_set (i := 3) sc_law.nd rfl (Or.inl rfl) (pe_def D_book_of hr (by decide) rfl (pa_cons (pv 2) pa_nil)))
    (pss_cons (ps_if (PW.pt (pw_or (pt_not (pt_truthK (K := K) rfl (pe_def D_law_book_kind hr (by decide) rfl (pa_cons (pv 3) pa_nil)) (fun _ => rfl))) (pw_or (pt_cmpR (op_neNL (K := K) rfl hr) (pv 2) (pv 1) (nomark _)) (pw_or1 (pt_cmpR op_ne (pe_callB (call_lenK (K := K) rfl) (by rfl) T.len_ bt_len (pa_cons (pe_ix (ix_anyK (K := K) rfl) (pv 3) pe_int (fun _ _ => rfl)) pa_nil)) (pe_callB (call_lenK (K := K) rfl) (by rfl) T.len_ bt_len (pa_cons (pv 1) pa_nil)) (nomark _)))))) (pss_cons (ps_ret pe_bl) pss_nil) pss_nil)
    (pss_cons (ps_set (i := 4) sc_law.nd rfl (Or.inl rfl) (pe_lst (pa_cons pe_int pa_nil)))
    (pss_cons (ps_for PassesOwn.never rfl (pi_zip (K := K) rfl rfl T.zip_ (pa_cons (pv 1) (pa_cons (pe_ix (ix_anyK (K := K) rfl) (pv 3) pe_int (fun _ _ => rfl)) pa_nil))) (pg_tup rfl (pgs_cons (pg_name (i := 5) sc_law.nd rfl (Or.inl rfl)) (pgs_cons (pg_name (i := 6) sc_law.nd rfl (Or.inl rfl)) pgs_nil)))
      (pss_cons (ps_if (pt_cmpR op_ne (pe_def D_law_gone hr (by decide) rfl (pa_cons (pv 5) (pa_cons (pe_ix (ix_anyK (K := K) rfl) (pv 3) pe_int (fun _ _ => rfl)) (pa_cons (pv 4) pa_nil)))) (pv 6) (nomark _)) (pss_cons (ps_ret pe_bl) pss_nil) pss_nil) pss_nil))
    (pss_cons (ps_if (pt_cmpR op_ne (pe_ix (ix_anyK (K := K) rfl) (pv 4) pe_int (fun _ _ => rfl)) (pe_callB (call_lenK (K := K) rfl) (by rfl) T.len_ bt_len (pa_cons (pe_ix (ix_anyK (K := K) rfl) (pv 3) pe_int (fun _ _ => rfl)) pa_nil)) (nomark _)) (pss_cons (ps_ret pe_bl) pss_nil) pss_nil)
    (pss_cons (ps_set (i := 7) sc_law.nd rfl (Or.inl rfl) (pe_tup (pa_cons (pe_callTy (call_listK (K := K) rfl) (by rfl) T.list_ bt_list (pa_cons (pe_ix (ix_anyK (K := K) rfl) (pv 3) pe_int (fun _ _ => rfl)) pa_nil)) (pa_cons (pe_callTy (call_listK (K := K) rfl) (by rfl) T.list_ bt_list (pa_cons (pe_ix (ix_anyK (K := K) rfl) (pv 3) pe_int (fun _ _ => rfl)) pa_nil)) pa_nil))))
    (pss_cons (ps_expr (pe_bmK (K := K) rfl PySem.F.plainAttrs_list PySem.F.slot_list_insert PySem.F.type_list_insert mt_insert0 (pe_ix (ix_anyK (K := K) rfl) (pv 3) pe_int (fun _ _ => rfl)) (pa_cons pe_int (pa_cons (pe_tup (pa_cons pe_str (pa_cons pe_str pa_nil))) pa_nil))))
    (pss_cons (ps_expr (pe_bmK (K := K) rfl PySem.F.plainAttrs_list PySem.F.slot_list_append PySem.F.type_list_append mt_append (pe_ix (ix_anyK (K := K) rfl) (pv 3) pe_int (fun _ _ => rfl)) (pa_cons pe_int pa_nil)))
    (pss_cons (ps_expr (pe_bmK (K := K) rfl PySem.F.plainAttrs_list PySem.F.slot_list_append PySem.F.type_list_append mt_append (pv 2) (pa_cons (pe_tup (pa_cons pe_str pa_nil)) pa_nil)))
    (pss_cons (ps_ret (pe_and (pe_cmpR (op_eqK (K := K) rfl ((List Rk) × (List Int)) hr (by decide)) (pe_def D_book_of hr (by decide) rfl (pa_cons (pv 1) pa_nil)) (pv 7) (nomark _)) (pe_one (pe_cmpR (op_eqK (K := K) rfl (List Int) hr (by decide)) (pe_ix (ix_anyK (K := K) rfl) (pe_def D_book_of hr (by decide) rfl (pa_cons (pe_slice (sl_anyK (K := K) rfl) (pv 1) po_none (po_some pe_int)) pa_nil)) pe_int (fun _ _ => rfl)) (pe_slice (sl_anyK (K := K) rfl) (pe_ix (ix_anyK (K := K) rfl) (pv 7) pe_int (fun _ _ => rfl)) po_none (po_some pe_int)) (nomark _))))) pss_nil)))))))))))), ?_⟩
  refine bE hm fun some_ h1 hm => ?_
  refine sv_set (K := K) (ev_def1 (m := mm_law_some) (ev_var rfl r_script_)) h1 xt.gh fun v1 G1 H1 x1 r1 => ?_
  have xt := xt.trans x1
  refine sv_own (K := K) (fv_list (ev_var rfl r1)) rfl xt.gh fun ph vh G2 H2 x2 hzh oh => ?_
  have hzh := xt.hh.free hzh
  have xt := xt.trans x2
  have r1 := Rp.mono x2.gg r1
  refine bE hm fun book_ h3 hm => ?_
  refine sv_own2B (K := K) oh (nv_def1 (m := mm_book_of) (ev_var rfl oh.tell)) h3 xt.gh fun vb pb qb wb sb G3 H3 x3 hp3 hq3 ob => ?_
  have n1 : ph ≠ pb := ne_of_none oh.h hp3
  have n2 : ph ≠ qb := ne_of_none oh.h hq3
  have hp3 := xt.hh.free hp3
  have hq3 := xt.hh.free hq3
  have xt := xt.trans x3
  have r1 := Rp.mono x3.gg r1
  have oh := oh.ext x3
  refine bE hm fun b11 h4 hm => ?_
  have ob' := ob.over (ho := .lst vh) (Ne.symm n1) (Ne.symm n2) oh.g
  refine sv_ifF (ob'.same (oh.same xt.gh)) (tv_or (tv_not (tv_b (K := K) (ev_def1 (m := mm_law_book_kind) (ev_var rfl ob'.tell)))) (tv_or (tv_test (K := K) (ev_neNL (ev_var rfl (Rp.mono ob'.up oh.tell)) (ev_var rfl (Rp.mono ob'.up (Rp.mono (Same.new oh.g) r1))))) (tv_test (K := K) (ev_neI (ev_len (ev_snd (ev_var rfl ob'.tell))) (ev_len (ev_var rfl (Rp.mono ob'.up (Rp.mono (Same.new oh.g) r1)))))))) h4 xt.gh fun H4 x4 => ?_
  have xt := xt.trans x4
  have oh := oh.ext x4
  have ob := ob.ext x4
  cases b11 with
  | true =>
    replace hm := cT hm
    refine iteT ?_
    exact sv_ret (K := K) (rest := tNext) (σ := [some v_script_, some v1, some (V.ref ph), some vb, none, none, none, none]) ev_b hm xt.gh fun v G H x r => q v G H (xt.trans x) r
  | false =>
    replace hm := cF hm
    refine iteF ?_
    refine bE hm fun many_ h5 hm => ?_
    refine sv_own (K := K) (fv_lst (lv_cons ev_i (lv_nil (α := Int)))) h5 xt.gh fun pm vm G5 H5 x5 hzm om => ?_
    have n3 : ph ≠ pm := ne_of_none oh.h hzm
    have n4 : pb ≠ pm := ne_of_none ob.o1.h hzm
    have n5 : qb ≠ pm := ne_of_none ob.o2.h hzm
    have hzm := xt.hh.free hzm
    have xt := xt.trans x5
    have r1 := Rp.mono x5.gg r1
    have oh := oh.ext x5
    have ob := ob.ext x5
    refine bE hm fun fl h6 hm => ?_
    have oh6 := (oh.over (o := .lst wb) n1 ob.o1.g).over (o := .lst sb) n2 ob.g2
    have om6 := (om.over (o := .lst wb) (Ne.symm n4) ob.o1.g).over (o := .lst sb) (Ne.symm n5) ob.g2
    have r6 := Rp.mono ob.up r1
    have rb6 := ob.tell
    have xt6 : Ext G0 H0 (two G5 pb qb wb sb) H5 := ob.frz xt hp3 hq3
    refine sv_forZ (K := K) (RR := fun r v G' H' => Ext G0 H0 G' H' ∧ Rp.rel K G' v r) (iz_lists (ev_var rfl r6) (ev_snd (ev_var rfl rb6))) rfl h6 (ob.same xt.gh) fun G6 H6 x6 => ⟨fun s σ' G' H' => ∃ v5 v6 vm', σ' = [some v_script_, some v1, some (V.ref ph), some vb, some (V.ref pm), v5, v6, none] ∧ Ext G0 H0 G' H' ∧ Same G6 G' ∧ Own K G' H' (V.ref ph) ph vh some_ ∧ Own K G' H' (V.ref pm) pm vm' s, ?_, ?_, ?_, ?_, ?_⟩
    · exact ⟨_, _, _, rfl, xt6.trans x6, Same.refl _, oh6.ext x6, om6.ext x6⟩
    · rintro s σ' G' H' ⟨v5, v6, vm', rfl, xt, mk, _⟩
      exact ⟨mk, xt.gh⟩
    · rintro x a s _ G7 H7 G8 H8 fl' ⟨v5, v6, vm', rfl, xt, mk, oh, om⟩ x8 rx hf D' kN kB kR
      have xt := xt.trans x8
      have mk := mk.trans x8.gg
      have oh := oh.ext x8
      have om := om.ext x8
      refine sv_turn2 rx xt.gh fun w5 w6 r5 r7 => ?_
      obtain ⟨rz, hz, hf⟩ := Option.bind_eq_some_iff.mp hf
      have rb := Rp.mono (x6.gg.trans mk) rb6
      refine sv_ifNeY2 (K := K) (m := mm_law_gone 95) rfl om (ev_var rfl r5) rfl (ev_fst (ev_var rfl rb)) rfl hz rfl r7 xt.gh fun G9 H9 G10 H10 vm2 x9 y9 om2 => ?_
      have xt := (xt.trans x9).past (C := [pm]) (fun b hb => by rw [List.mem_singleton.mp hb]; exact hzm) y9
      have mk := mk.trans (x9.gg.trans y9.gg)
      have oh := (oh.ext x9).past (by simp only [List.mem_cons, List.not_mem_nil, or_false]; intro e; exact absurd e n3) y9
      generalize hd : (!decide (rz.2 = some a.2)) = bb at hf ⊢
      cases bb with
      | true =>
        replace hf := cT hf
        cases hf
        refine iteT ?_
        exact sv_ret (K := K) (rest := tNext) (σ := [some v_script_, some v1, some (V.ref ph), some vb, some (V.ref pm), some w5, some w6, none]) ev_b rfl xt.gh fun v G H x r => kR _ v G H rfl ⟨xt.trans x, r⟩
      | false =>
        replace hf := cF hf
        cases hf
        refine iteF ?_
        exact kN _ _ _ _ rfl ⟨_, _, _, rfl, xt, mk, oh, om2⟩
    · rintro s _ G7 H7 rfl ⟨v5, v6, vm', rfl, xt, mk, oh7, om7⟩
      refine sv_nx ?_
      have m7 : Same (two G5 pb qb wb sb) G7 := x6.gg.trans mk
      have gp : G7 pb = some (.lst wb) := m7 _ _ (by unfold two; rw [upd_ne ob.ne]; exact upd_same)
      have gq : G7 qb = some (.lst sb) := m7 _ _ upd_same
      have m8 := same_del2 ob m7
      have ob := ob.back m7 xt.gh
      have xt := (xt.delN sg0 hq3).delN sg0 hp3
      have oh : Own K _ H7 (V.ref ph) ph vh some_ := ⟨rfl, del_none (del_none oh7.g), oh7.h, oh7.z, Paired.imp' (fun _ _ r => Rp.mono m8 r) oh.p⟩
      have om := (om7.delL gq).delL (r := pb) (ys := wb) (by rw [del_ne ob.ne]; exact gp)
      have r1 := Rp.mono m8 r1
      clear m8 m7 gp gq mk x6 rb6 r6 oh6 om6 xt6 h6
      generalize L2.del (L2.del G7 qb) pb = G8 at ob xt oh om r1
      refine bE hm fun b12 h8 hm => ?_
      have obm := ob.over (ho := .lst vm') n4 n5 om.g
      refine sv_ifF (obm.same (om.same xt.gh)) (tv_test (K := K) (ev_neI (ev_at (ev_var rfl (Rp.mono obm.up om.tell)) ev_i) (ev_len (ev_fst (ev_var rfl obm.tell))))) h8 xt.gh fun H8 x8 => ?_
      have xt := xt.trans x8
      have oh := oh.ext x8
      have ob := ob.ext x8
      cases b12 with
      | true =>
        replace hm := cT hm
        refine iteT ?_
        exact sv_ret (K := K) (rest := tNext) (σ := [some v_script_, some v1, some (V.ref ph), some vb, some (V.ref pm), v5, v6, none]) ev_b hm xt.gh fun v G H x r => q v G H (xt.trans x) r
      | false =>
        replace hm := cF hm
        refine iteF ?_
        refine bE hm fun kept_ h9 hm => ?_
        refine sv_setNB2 (K := K) ob (nv_tup2 (fv_list (ev_fst (ev_var rfl ob.tell))) (fv_list (ev_snd (ev_var rfl ob.tell)))) h9 xt.gh fun v7 G9 H9 x9 r9 => ?_
        have xt := xt.trans x9
        have oh := oh.ext x9
        have ob := ob.ext x9
        have r1 := Rp.mono x9.gg r1
        refine bE hm fun a15 h15 hm => ?_
        refine bE hm fun z16 h16 hm => ?_
        refine sv_insert2a (K := K) rfl ob (ev_tupRk (lv_cons (ev_toS ev_s) (lv_cons (ev_toS ev_s) (lv_nil (α := SI))))) h15 h16 xt.gh fun G10 H10 w10 x10 ob10 => ?_
        have xt := (xt.trans x10).put (o := .lst (w10 :: wb)) hp3 ob10.o1.g
        have oh := (oh.ext x10).put (q := pb) (ho := .lst (w10 :: wb)) n1
        have r1 := Rp.mono x10.gg r1
        have r9 := Rp.mono x10.gg r9
        refine bE hm fun a17 h17 hm => ?_
        refine bE hm fun z18 h18 hm => ?_
        refine sv_append2b (K := K) rfl ob10 ev_i h17 h18 xt.gh fun G11 H11 w11 x11 ob11 => ?_
        have xt := (xt.trans x11).put (o := .lst (sb ++ [w11])) hq3 ob11.o2.g
        have oh := (oh.ext x11).put (q := qb) (ho := .lst (sb ++ [w11])) n2
        have r1 := Rp.mono x11.gg r1
        have r9 := Rp.mono x11.gg r9
        refine bE hm fun a60 h60 hm => ?_
        refine bE hm fun z68 h68 hm => ?_
        refine sv_append (K := K) rfl oh (ev_tupNL (lv_cons (ev_txtN ev_s) (lv_nil (α := Nt)))) h60 h68 xt.gh fun G12 H12 w12 x12 oh12 => ?_
        have xt := (xt.trans x12).put (o := .lst (vh ++ [w12])) hzh oh12.g
        have r1 := Rp.mono x12.gg r1
        have r9 := Rp.mono x12.gg r9
        exact sv_ret (K := K) (ev_and (ev_eq (NV.ev (nv_def1 (m := mm_book_of) (ev_var rfl r1))) (ev_var rfl r9)) (ev_eq (ev_snd (NV.ev (nv_def1 (m := mm_book_of) (FV.ev (fv_slice (ev_var rfl r1) ov_none (ov_some (K := K) ev_i)))))) (FV.ev (fv_slice (ev_snd (ev_var rfl r9)) ov_none (ov_some (K := K) ev_i))))) hm xt.gh fun v G H x r => q v G H (xt.trans x) r
    · rintro r' v' G' H' rfl rl
      cases hm
      exact q v' G' H' rl.1 rl.2
end
end My
set_option Elab.async false
set_option linter.all false
set_option maxRecDepth 100000
set_option maxHeartbeats 4000000
namespace My
open PySem PySem.Spec PyProof.Rows L2
inductive Fm where
  | yes
  | lamp (c : Str)
  | neg (a : Fm)
  | next (a : Fm)
  | and (a b : Fm)
  | unt (a b : Fm)
noncomputable def Fm.nt : Fm → Nt
  | .yes => .tup [.txt "yes"]
  | .lamp c => .tup [.txt "lamp", .txt c]
  | .neg a => .tup [.txt "not", a.nt]
  | .next a => .tup [.txt "next", a.nt]
  | .and a b => .tup [.txt "and", a.nt, b.nt]
  | .unt a b => .tup [.txt "until", a.nt, b.nt]
noncomputable def Fm.size : Fm → Nat
  | .yes => 1
  | .lamp _ => 1
  | .neg a => a.size + 1
  | .next a => a.size + 1
  | .and a b => a.size + b.size + 1
  | .unt a b => a.size + b.size + 1
noncomputable def Fm.dep : Fm → Nat
  | .yes => 1
  | .lamp _ => 1
  | .neg a => a.dep + 1
  | .next a => a.dep + 1
  | .and a b => max a.dep b.dep + 1
  | .unt a b => max a.dep b.dep + 1
theorem at0 (w : Str) (l : List Nt) : atI (Nt.txt w :: l) (0 : Int) = some (Nt.txt w) := atI_nat (j := 0) rfl
theorem at_n0 (x : Nt) (l : List Nt) : atI (x :: l) (0 : Int) = some x := atI_nat (j := 0) rfl
theorem cut_tailA {α : Type} (a : α) (l : List α) : cutT? (a :: l) (some 1) none = some ⟨l⟩ := by
  have h1 : HT.sIx (a :: l).length 0 (some (1 : Int)) = 1 := by
    unfold HT.sIx
    simp
    try omega
  have h2 : HT.sIx (a :: l).length (a :: l).length none = (a :: l).length := rfl
  unfold cutT?
  rw [if_pos (by rw [h1]; exact fun z => absurd z.1 (by decide))]
  unfold cutA
  rw [h1, h2]
  simp
theorem parts_other {w : Str} {l : List Nt} (hw : w ≠ "lamp") : m_parts_of (.tup (.txt w :: l)) = some ⟨l⟩ := by
  unfold m_parts_of
  simp only [Option.bind_assoc, bindS, bind_self, asTup, at_n0, asTxt, decide_eq_false hw, cond_false, cut_tailA]
theorem Fm.dep_pos (a : Fm) : 1 ≤ a.dep := by cases a <;> simp only [Fm.dep] <;> omega
theorem nt_dep : ∀ a : Fm, a.nt.dep = a.dep
  | .yes => rfl
  | .lamp c => rfl
  | .neg a => by simp only [Fm.nt, Nt.dep, Nt.deps, Fm.dep, nt_dep a]; omega
  | .next a => by simp only [Fm.nt, Nt.dep, Nt.deps, Fm.dep, nt_dep a]; omega
  | .and a b => by simp only [Fm.nt, Nt.dep, Nt.deps, Fm.dep, nt_dep a, nt_dep b]; omega
  | .unt a b => by simp only [Fm.nt, Nt.dep, Nt.deps, Fm.dep, nt_dep a, nt_dep b]; omega
noncomputable def Fm.sub : Fm → List Fm
  | .yes => [.yes]
  | .lamp c => [.lamp c]
  | .neg a => .neg a :: a.sub
  | .next a => .next a :: a.sub
  | .and a b => .and a b :: (a.sub ++ b.sub)
  | .unt a b => .unt a b :: (a.sub ++ b.sub)
theorem sub_size : ∀ {f g : Fm}, g ∈ f.sub → g.size ≤ f.size
  | .yes, g, h => by rw [List.mem_singleton.mp h]; exact Nat.le_refl _
  | .lamp _, g, h => by rw [List.mem_singleton.mp h]; exact Nat.le_refl _
  | .neg a, g, h => by
    rcases List.mem_cons.mp h with e | h
    · rw [e]; exact Nat.le_refl _
    · have := sub_size h; simp only [Fm.size]; omega
  | .next a, g, h => by
    rcases List.mem_cons.mp h with e | h
    · rw [e]; exact Nat.le_refl _
    · have := sub_size h; simp only [Fm.size]; omega
  | .and a b, g, h => by
    rcases List.mem_cons.mp h with e | h
    · rw [e]; exact Nat.le_refl _
    · rcases List.mem_append.mp h with h | h <;> (have := sub_size h; simp only [Fm.size]; omega)
  | .unt a b, g, h => by
    rcases List.mem_cons.mp h with e | h
    · rw [e]; exact Nat.le_refl _
    · rcases List.mem_append.mp h with h | h <;> (have := sub_size h; simp only [Fm.size]; omega)
theorem sub_self (f : Fm) : f ∈ f.sub := by cases f <;> simp [Fm.sub]
theorem w1 : ("not" : Str) ≠ "next" := by decide +kernel
theorem w2 : ("and" : Str) ≠ "until" := by decide +kernel
noncomputable def R1 (fs : List Fm) (k : Nat) (r : Tp SI) : Fm → Prop
  | .yes => r = ⟨[.s "yes"]⟩
  | .lamp c => r = ⟨[.s "lamp", .s c]⟩
  | .neg a => ∃ i : Nat, i < k ∧ fs[i]? = some a ∧ r = ⟨[.s "not", .i (i : Int)]⟩
  | .next a => ∃ i : Nat, i < k ∧ fs[i]? = some a ∧ r = ⟨[.s "next", .i (i : Int)]⟩
  | .and a b => ∃ i j : Nat, i < k ∧ j < k ∧ fs[i]? = some a ∧ fs[j]? = some b ∧ r = ⟨[.s "and", .i (i : Int), .i (j : Int)]⟩
  | .unt a b => ∃ i j : Nat, i < k ∧ j < k ∧ fs[i]? = some a ∧ fs[j]? = some b ∧ r = ⟨[.s "until", .i (i : Int), .i (j : Int)]⟩
noncomputable def Dif (fs : List Fm) : Prop := ∀ (i j : Nat) (f : Fm), fs[i]? = some f → fs[j]? = some f → i = j
noncomputable def Bk (L : List (Tp SI)) (fs : List Fm) : Prop := L.length = fs.length ∧ ∀ (k : Nat) (r : Tp SI) (f : Fm), L[k]? = some r → fs[k]? = some f → R1 fs k r f
theorem get_app {α : Type} {l m : List α} {k : Nat} {a : α} (h : l[k]? = some a) : (l ++ m)[k]? = some a := by
  rw [List.getElem?_append_left (List.getElem?_eq_some_iff.mp h).1]
  exact h
theorem get_lt {α : Type} {l : List α} {k : Nat} {a : α} (h : l[k]? = some a) : k < l.length := (List.getElem?_eq_some_iff.mp h).1
theorem R1.app {fs gs : List Fm} {k k' : Nat} {r : Tp SI} {f : Fm} (h : R1 fs k r f) (hk : k ≤ k') : R1 (fs ++ gs) k' r f := by
  cases f with
  | yes => exact h
  | lamp c => exact h
  | neg a => obtain ⟨i, h1, h2, e⟩ := h; exact ⟨i, by omega, get_app h2, e⟩
  | next a => obtain ⟨i, h1, h2, e⟩ := h; exact ⟨i, by omega, get_app h2, e⟩
  | and a b => obtain ⟨i, j, h1, h2, h3, h4, e⟩ := h; exact ⟨i, j, by omega, by omega, get_app h3, get_app h4, e⟩
  | unt a b => obtain ⟨i, j, h1, h2, h3, h4, e⟩ := h; exact ⟨i, j, by omega, by omega, get_app h3, get_app h4, e⟩
theorem row1_inj {w w' : Str} {i j : Nat} (e : (Tp.mk [SI.s w, SI.i (i : Int)]) = Tp.mk [SI.s w', SI.i (j : Int)]) : w = w' ∧ i = j := by
  have e1 := Tp.mk.inj e
  injection e1 with e2 e3
  injection e3 with e4 e5
  injection e4 with e4
  injection e2 with e2
  exact ⟨e2, by omega⟩
theorem row2_inj {w w' : Str} {i j i' j' : Nat} (e : (Tp.mk [SI.s w, SI.i (i : Int), SI.i (j : Int)]) = Tp.mk [SI.s w', SI.i (i' : Int), SI.i (j' : Int)]) : w = w' ∧ i = i' ∧ j = j' := by
  have e1 := Tp.mk.inj e
  injection e1 with e2 e3
  injection e3 with e4 e5
  injection e5 with e6 e7
  injection e6 with e6
  injection e4 with e4
  injection e2 with e2
  exact ⟨e2, by omega, by omega⟩
theorem R1.fn {fs : List Fm} {k k' : Nat} {r : Tp SI} {f f' : Fm} (h : R1 fs k r f) (h' : R1 fs k' r f') : f = f' := by
  cases f with
  | yes =>
    subst h
    cases f' with
    | yes => rfl
    | lamp c => cases (show (_ : Tp SI) = _ from h')
    | neg a => obtain ⟨i, _, _, e⟩ := h'; cases e
    | next a => obtain ⟨i, _, _, e⟩ := h'; cases e
    | and a b => obtain ⟨i, j, _, _, _, _, e⟩ := h'; cases e
    | unt a b => obtain ⟨i, j, _, _, _, _, e⟩ := h'; cases e
  | lamp c =>
    subst h
    cases f' with
    | yes => cases (show (_ : Tp SI) = _ from h')
    | lamp c' =>
      have e := (List.cons.inj (List.cons.inj (Tp.mk.inj (show (_ : Tp SI) = _ from h'))).2).1
      rw [SI.s.inj e]
    | neg a => obtain ⟨i, _, _, e⟩ := h'; have e := (List.cons.inj (List.cons.inj (Tp.mk.inj e)).2).1; cases e
    | next a => obtain ⟨i, _, _, e⟩ := h'; have e := (List.cons.inj (List.cons.inj (Tp.mk.inj e)).2).1; cases e
    | and a b => obtain ⟨i, j, _, _, _, _, e⟩ := h'; have e := (List.cons.inj (List.cons.inj (Tp.mk.inj e)).2).1; cases e
    | unt a b => obtain ⟨i, j, _, _, _, _, e⟩ := h'; have e := (List.cons.inj (List.cons.inj (Tp.mk.inj e)).2).1; cases e
  | neg a =>
    obtain ⟨i, _, hi, rfl⟩ := h
    cases f' with
    | yes => cases (show (_ : Tp SI) = _ from h')
    | lamp c => have e := (List.cons.inj (List.cons.inj (Tp.mk.inj (show (_ : Tp SI) = _ from h'))).2).1; cases e
    | neg a' => obtain ⟨j, _, hj, e⟩ := h'; rw [(row1_inj e).2, hj] at hi; rw [Option.some.inj hi]
    | next a' => obtain ⟨j, _, hj, e⟩ := h'; exact absurd (row1_inj e).1 w1
    | and a b => obtain ⟨i, j, _, _, _, _, e⟩ := h'; have e := (List.cons.inj (List.cons.inj (Tp.mk.inj e)).2).2; cases e
    | unt a b => obtain ⟨i, j, _, _, _, _, e⟩ := h'; have e := (List.cons.inj (List.cons.inj (Tp.mk.inj e)).2).2; cases e
  | next a =>
    obtain ⟨i, _, hi, rfl⟩ := h
    cases f' with
    | yes => cases (show (_ : Tp SI) = _ from h')
    | lamp c => have e := (List.cons.inj (List.cons.inj (Tp.mk.inj (show (_ : Tp SI) = _ from h'))).2).1; cases e
    | neg a' => obtain ⟨j, _, hj, e⟩ := h'; exact absurd (row1_inj e).1.symm w1
    | next a' => obtain ⟨j, _, hj, e⟩ := h'; rw [(row1_inj e).2, hj] at hi; rw [Option.some.inj hi]
    | and a b => obtain ⟨i, j, _, _, _, _, e⟩ := h'; have e := (List.cons.inj (List.cons.inj (Tp.mk.inj e)).2).2; cases e
    | unt a b => obtain ⟨i, j, _, _, _, _, e⟩ := h'; have e := (List.cons.inj (List.cons.inj (Tp.mk.inj e)).2).2; cases e
  | and a b =>
    obtain ⟨i, j, _, _, hi, hj, rfl⟩ := h
    cases f' with
    | yes => cases (show (_ : Tp SI) = _ from h')
    | lamp c => have e := (List.cons.inj (List.cons.inj (Tp.mk.inj (show (_ : Tp SI) = _ from h'))).2).1; cases e
    | neg a' => obtain ⟨j, _, hj, e⟩ := h'; have e := (List.cons.inj (List.cons.inj (Tp.mk.inj e)).2).2; cases e
    | next a' => obtain ⟨j, _, hj, e⟩ := h'; have e := (List.cons.inj (List.cons.inj (Tp.mk.inj e)).2).2; cases e
    | and a b => obtain ⟨i', j', _, _, hi', hj', e⟩ := h'; rw [(row2_inj e).2.1, hi'] at hi; rw [(row2_inj e).2.2, hj'] at hj; rw [Option.some.inj hi, Option.some.inj hj]
    | unt a b => obtain ⟨i', j', _, _, hi', hj', e⟩ := h'; exact absurd (row2_inj e).1 w2
  | unt a b =>
    obtain ⟨i, j, _, _, hi, hj, rfl⟩ := h
    cases f' with
    | yes => cases (show (_ : Tp SI) = _ from h')
    | lamp c => have e := (List.cons.inj (List.cons.inj (Tp.mk.inj (show (_ : Tp SI) = _ from h'))).2).1; cases e
    | neg a' => obtain ⟨j, _, hj, e⟩ := h'; have e := (List.cons.inj (List.cons.inj (Tp.mk.inj e)).2).2; cases e
    | next a' => obtain ⟨j, _, hj, e⟩ := h'; have e := (List.cons.inj (List.cons.inj (Tp.mk.inj e)).2).2; cases e
    | and a b => obtain ⟨i', j', _, _, hi', hj', e⟩ := h'; exact absurd (row2_inj e).1.symm w2
    | unt a b => obtain ⟨i', j', _, _, hi', hj', e⟩ := h'; rw [(row2_inj e).2.1, hi'] at hi; rw [(row2_inj e).2.2, hj'] at hj; rw [Option.some.inj hi, Option.some.inj hj]
theorem R1.inj {fs : List Fm} {k k' : Nat} {r r' : Tp SI} {f : Fm} (hd : Dif fs) (h : R1 fs k r f) (h' : R1 fs k' r' f) : r = r' := by
  cases f with
  | yes => rw [show r = _ from h, show r' = _ from h']
  | lamp c => rw [show r = _ from h, show r' = _ from h']
  | neg a => obtain ⟨i, _, h1, e⟩ := h; obtain ⟨j, _, h2, e'⟩ := h'; rw [e, e', hd i j a h1 h2]
  | next a => obtain ⟨i, _, h1, e⟩ := h; obtain ⟨j, _, h2, e'⟩ := h'; rw [e, e', hd i j a h1 h2]
  | and a b => obtain ⟨i, j, _, _, h1, h2, e⟩ := h; obtain ⟨i', j', _, _, h1', h2', e'⟩ := h'; rw [e, e', hd i i' a h1 h1', hd j j' b h2 h2']
  | unt a b => obtain ⟨i, j, _, _, h1, h2, e⟩ := h; obtain ⟨i', j', _, _, h1', h2', e'⟩ := h'; rw [e, e', hd i i' a h1 h1', hd j j' b h2 h2']
theorem snoc_get {α : Type} {l : List α} {a b : α} {k : Nat} (h : (l ++ [a])[k]? = some b) : l[k]? = some b ∨ (k = l.length ∧ a = b) := by
  by_cases hk : k < l.length
  · rw [List.getElem?_append_left hk] at h
    exact .inl h
  · rw [List.getElem?_append_right (by omega)] at h
    have h0 : k - l.length = 0 := by
      have := get_lt h
      simp at this
      omega
    rw [h0] at h
    exact .inr ⟨by omega, Option.some.inj h⟩
theorem Bk.snoc {L : List (Tp SI)} {fs : List Fm} {r : Tp SI} {f : Fm} (hb : Bk L fs) (hr : R1 fs L.length r f) : Bk (L ++ [r]) (fs ++ [f]) := by
  have hl := hb.1
  refine ⟨by rw [List.length_append, List.length_append, hl]; rfl, fun k r' f' h1 h2 => ?_⟩
  rcases snoc_get h1 with h1 | ⟨e1, e2⟩
  · have hk := get_lt h1
    rcases snoc_get h2 with h2 | ⟨e3, e4⟩
    · exact (hb.2 k r' f' h1 h2).app (Nat.le_refl _)
    · omega
  · rcases snoc_get h2 with h2 | ⟨e3, e4⟩
    · have := get_lt h2
      omega
    · subst e2
      subst e4
      rw [e1]
      exact hr.app (Nat.le_refl _)
theorem Dif.snoc {fs : List Fm} {f : Fm} (h : Dif fs) (hf : ∀ m : Nat, fs[m]? ≠ some f) : Dif (fs ++ [f]) := by
  intro i j g hi hj
  rcases snoc_get hi with h1 | ⟨e1, e2⟩
  · rcases snoc_get hj with h2 | ⟨e3, e4⟩
    · exact h i j g h1 h2
    · exact absurd (e4 ▸ h1) (hf i)
  · rcases snoc_get hj with h2 | ⟨e3, e4⟩
    · exact absurd (e2 ▸ h2) (hf j)
    · omega
theorem Bk.nil : Bk [] [] := ⟨rfl, fun k r f h _ => by simp at h⟩
theorem Dif.nil : Dif [] := fun i j f h _ => by simp at h
theorem Bk.at {L : List (Tp SI)} {fs : List Fm} (hb : Bk L fs) {k : Nat} {f : Fm} (h : fs[k]? = some f) : ∃ r, L[k]? = some r ∧ R1 fs k r f := by
  have hk : k < L.length := by rw [hb.1]; exact get_lt h
  exact ⟨L[k], List.getElem?_eq_getElem hk, hb.2 k _ f (List.getElem?_eq_getElem hk) h⟩
theorem Bk.at' {L : List (Tp SI)} {fs : List Fm} (hb : Bk L fs) {k : Nat} {r : Tp SI} (h : L[k]? = some r) : ∃ f, fs[k]? = some f ∧ R1 fs k r f := by
  have hk : k < fs.length := by rw [← hb.1]; exact get_lt h
  exact ⟨fs[k], List.getElem?_eq_getElem hk, hb.2 k r _ h (List.getElem?_eq_getElem hk)⟩
theorem R1.take {fs : List Fm} {k n : Nat} {r : Tp SI} {f : Fm} (h : R1 fs k r f) (hk : k ≤ n) : R1 (fs.take n) k r f := by
  have t : ∀ {i : Nat} {a : Fm}, i < k → fs[i]? = some a → (fs.take n)[i]? = some a := fun hi h => by rw [List.getElem?_take_of_lt (by omega)]; exact h
  cases f with
  | yes => exact h
  | lamp c => exact h
  | neg a => obtain ⟨i, h1, h2, e⟩ := h; exact ⟨i, h1, t h1 h2, e⟩
  | next a => obtain ⟨i, h1, h2, e⟩ := h; exact ⟨i, h1, t h1 h2, e⟩
  | and a b => obtain ⟨i, j, h1, h2, h3, h4, e⟩ := h; exact ⟨i, j, h1, h2, t h1 h3, t h2 h4, e⟩
  | unt a b => obtain ⟨i, j, h1, h2, h3, h4, e⟩ := h; exact ⟨i, j, h1, h2, t h1 h3, t h2 h4, e⟩
theorem take_get {α : Type} {l : List α} {n k : Nat} {a : α} (h : (l.take n)[k]? = some a) : k < n ∧ l[k]? = some a := by
  have h1 := get_lt h
  rw [List.length_take] at h1
  have h2 : k < n := by omega
  rw [List.getElem?_take_of_lt h2] at h
  exact ⟨h2, h⟩
theorem Bk.take {L : List (Tp SI)} {fs : List Fm} (hb : Bk L fs) (n : Nat) : Bk (L.take n) (fs.take n) := by
  refine ⟨by rw [List.length_take, List.length_take, hb.1], fun k r f h1 h2 => ?_⟩
  obtain ⟨hk, h1⟩ := take_get h1
  exact (hb.2 k r f h1 (take_get h2).2).take (by omega)
theorem Dif.take {fs : List Fm} (h : Dif fs) (n : Nat) : Dif (fs.take n) := fun i j f h1 h2 => h i j f (take_get h1).2 (take_get h2).2
theorem idx_get (r : Tp SI) : ∀ (rows : List (Tp SI)) (i : Nat) (n : Int), idxB i rows r = some n → ∃ j, n = ((i + j : Nat) : Int) ∧ rows[j]? = some r
  | [], i, n, h => by cases h
  | a :: rs, i, n, h => by
    unfold idxB at h
    by_cases e : a = r
    · rw [if_pos e] at h
      cases h
      exact ⟨0, rfl, by rw [e]; rfl⟩
    · rw [if_neg e] at h
      obtain ⟨j, h1, h2⟩ := idx_get r rs (i + 1) n h
      refine ⟨j + 1, ?_, h2⟩
      rw [h1]
      congr 1
      omega
theorem idx_none (r : Tp SI) : ∀ (rows : List (Tp SI)) (i : Nat), idxB i rows r = none → ∀ j : Nat, rows[j]? ≠ some r
  | [], i, h, j => by simp
  | a :: rs, i, h, j => by
    unfold idxB at h
    by_cases e : a = r
    · rw [if_pos e] at h
      cases h
    · rw [if_neg e] at h
      cases j with
      | zero => intro z; exact e (Option.some.inj z)
      | succ j => exact idx_none r rs (i + 1) h j
theorem step {L : List (Tp SI)} {fs : List Fm} {r : Tp SI} {f : Fm} (hb : Bk L fs) (hd : Dif fs) (hr : R1 fs L.length r f) (hl : L.length < 100000) :
    (∃ m : Nat, fs[m]? = some f ∧ rownO L ⟨r.l⟩ = some (L, (m : Int))) ∨
    ((∀ m : Nat, fs[m]? ≠ some f) ∧ rownO L ⟨r.l⟩ = some (L ++ [r], (L.length : Int)) ∧ Bk (L ++ [r]) (fs ++ [f]) ∧ Dif (fs ++ [f])) := by
  have hz : sizeLine = 16777216 := sizeLine_eq
  have hrow : rownO L ⟨r.l⟩ = match idxB 0 L r with | some n => some (L, n) | none => if L.length < sizeLine then some (L ++ [r], (L.length : Int)) else none := rfl
  cases e : idxB 0 L r with
  | some n =>
    obtain ⟨j, h1, h2⟩ := idx_get r L 0 n e
    obtain ⟨g, h3, h4⟩ := hb.at' h2
    rw [h4.fn hr] at h3
    refine .inl ⟨j, h3, ?_⟩
    rw [hrow, e, h1, Nat.zero_add]
  | none =>
    have hn := idx_none r L 0 e
    have hf : ∀ m : Nat, fs[m]? ≠ some f := fun m hm => by
      obtain ⟨r', h1, h2⟩ := hb.at hm
      rw [h2.inj hd hr] at h1
      exact hn m h1
    refine .inr ⟨hf, ?_, hb.snoc hr, hd.snoc hf⟩
    rw [hrow, e]
    exact if_pos (by omega)
noncomputable def Got (L : List (Tp SI)) (fs : List Fm) (f : Fm) (o : Option (List (Tp SI) × Int)) : Prop :=
  ∃ (L' : List (Tp SI)) (fs' : List Fm) (k : Nat), o = some (L ++ L', (k : Int)) ∧ Bk (L ++ L') (fs ++ fs') ∧ Dif (fs ++ fs') ∧ (fs ++ fs')[k]? = some f ∧ (∀ g ∈ fs', g ∈ f.sub) ∧ L'.length ≤ f.size ∧
    ((∃ m : Nat, fs[m]? = some f) → L' = [] ∧ fs' = []) ∧ ((∀ m : Nat, fs[m]? ≠ some f) → k + 1 = (L ++ L').length)
theorem fin {L L' : List (Tp SI)} {fs fs' : List Fm} {r : Tp SI} {f : Fm} (hb : Bk (L ++ L') (fs ++ fs')) (hd : Dif (fs ++ fs')) (hs : ∀ g ∈ fs', g ∈ f.sub ∧ g.size < f.size) (hn : L'.length + 1 ≤ f.size)
    (hf : (∃ m : Nat, fs[m]? = some f) → L' = [] ∧ fs' = []) (hr : R1 (fs ++ fs') (L ++ L').length r f) (hl : (L ++ L').length < 100000) : Got L fs f (rownO (L ++ L') ⟨r.l⟩) := by
  rcases step hb hd hr hl with ⟨m, h1, h2⟩ | ⟨h1, h2, h3, h4⟩
  · refine ⟨L', fs', m, h2, hb, hd, h1, fun g hg => (hs g hg).1, by omega, hf, fun hno => ?_⟩
    exfalso
    by_cases hm : m < fs.length
    · rw [List.getElem?_append_left hm] at h1
      exact hno m h1
    · rw [List.getElem?_append_right (by omega)] at h1
      have := (hs f (List.mem_of_getElem? h1)).2
      omega
  · refine ⟨L' ++ [r], fs' ++ [f], (L ++ L').length, by rw [h2, List.append_assoc], by rw [← List.append_assoc, ← List.append_assoc]; exact h3, by rw [← List.append_assoc]; exact h4, ?_, ?_, by rw [List.length_append]; exact hn, ?_, fun _ => by rw [← List.append_assoc, List.length_append (as := L ++ L')]; rfl⟩
    · rw [← List.append_assoc, hb.1]
      simp
    · intro g hg
      rcases List.mem_append.mp hg with hg | hg
      · exact (hs g hg).1
      · rw [List.mem_singleton.mp hg]
        exact sub_self f
    · rintro ⟨m, hm⟩
      exact absurd (get_app hm) (h1 m)
theorem lay_succ (n : Nat) (rows : List (Tp SI)) (a : Nt) : layO m_parts_of (n + 1) rows a = (asTup a).bind fun t => (atI t.l 0).bind fun b => (asTxt b).bind fun w =>
      cond (decide (w = "lamp")) ((sisO t.l).bind fun l => rownO rows ⟨l⟩)
      ((m_parts_of a).bind fun ps => (forO (layF (layO m_parts_of n)) ps.l (rows, [.s w])).bind fun z => layE z) := rfl
theorem lay_word {n : Nat} {w : Str} {l : List Nt} (hw : w ≠ "lamp") (rows : List (Tp SI)) : layO m_parts_of (n + 1) rows (.tup (.txt w :: l)) = (forO (layF (layO m_parts_of n)) l (rows, [.s w])).bind fun z => layE z := by
  rw [lay_succ]
  simp only [asTup, bindS, at0, asTxt, decide_eq_false hw, cond_false, parts_other hw]
theorem lay_lamp {n : Nat} (c : Str) (rows : List (Tp SI)) : layO m_parts_of (n + 1) rows (.tup [.txt "lamp", .txt c]) = rownO rows ⟨[.s "lamp", .s c]⟩ := by
  rw [lay_succ]
  simp only [asTup, bindS, at0, asTxt, decide_true, cond_true]
  rfl
theorem layF_eq {lay : List (Tp SI) → Nt → Option (List (Tp SI) × Int)} {a : Nt} {s : List (Tp SI) × List SI} {z : List (Tp SI) × Int} (h : lay s.1 a = some z) (hl : s.2.length ≤ 10) : layF lay a s = some (.nx (z.1, s.2 ++ [.i z.2])) := by
  have hz : sizeLine = 16777216 := sizeLine_eq
  unfold layF
  rw [h, bindS, if_pos (by omega)]
theorem fl_one {lay : List (Tp SI) → Nt → Option (List (Tp SI) × Int)} {a : Nt} {rows : List (Tp SI)} {w : Str} {z : List (Tp SI) × Int} (h : lay rows a = some z) :
    ((forO (layF lay) [a] (rows, [.s w])).bind fun z => layE z) = rownO z.1 ⟨[.s w, .i z.2]⟩ := by
  have e := layF_eq (s := (rows, [.s w])) h (by simp)
  show (((layF lay a (rows, [.s w])).bind fun fl => _).bind _) = _
  rw [e]
  rfl
theorem fl_two {lay : List (Tp SI) → Nt → Option (List (Tp SI) × Int)} {a b : Nt} {rows : List (Tp SI)} {w : Str} {z y : List (Tp SI) × Int} (h : lay rows a = some z) (h2 : lay z.1 b = some y) :
    ((forO (layF lay) [a, b] (rows, [.s w])).bind fun z => layE z) = rownO y.1 ⟨[.s w, .i z.2, .i y.2]⟩ := by
  have e := layF_eq (s := (rows, [.s w])) h (by simp)
  have e2 := layF_eq (s := (z.1, [.s w] ++ [.i z.2])) h2 (by simp)
  show (((layF lay a (rows, [.s w])).bind fun fl => _).bind _) = _
  rw [e]
  show (((layF lay b (z.1, [.s w] ++ [.i z.2])).bind fun fl => _).bind _) = _
  rw [e2]
  rfl
theorem nl : (("yes" : Str) ≠ "lamp" ∧ ("not" : Str) ≠ "lamp" ∧ ("next" : Str) ≠ "lamp") ∧ ("and" : Str) ≠ "lamp" ∧ ("until" : Str) ≠ "lamp" := by decide +kernel
theorem lay_all : ∀ (n : Nat) (f : Fm) (L : List (Tp SI)) (fs : List Fm), f.dep ≤ n → Bk L fs → Dif fs → L.length + f.size < 100000 → Got L fs f (layO m_parts_of n L f.nt)
  | 0, f, L, fs, hd, _, _, _ => absurd hd (by have := f.dep_pos; omega)
  | n + 1, f, L, fs, hdp, hb, hd, hl => by
    have one : ∀ (w : Str) (a f : Fm), w ≠ "lamp" → f.sub = f :: a.sub → f.size = a.size + 1 → a.dep ≤ n → L.length + f.size < 100000 →
        (∀ {fs k r}, R1 fs k r f ↔ ∃ i : Nat, i < k ∧ fs[i]? = some a ∧ r = ⟨[.s w, .i (i : Int)]⟩) → Got L fs f (layO m_parts_of (n + 1) L (.tup [.txt w, a.nt])) := fun w a f hw hsub hsz hdp hl hR => by
      rw [lay_word hw]
      obtain ⟨L1, fs1, k1, h1, h2, h3, h4, h5, h6, h7, h8⟩ := lay_all n a L fs hdp hb hd (by omega)
      rw [fl_one h1]
      refine fin (r := ⟨[.s w, .i (k1 : Int)]⟩) h2 h3 (fun g hg => ⟨by rw [hsub]; exact List.mem_cons_of_mem _ (h5 g hg), ?_⟩) (by omega) (fun ⟨m, hm⟩ => ?_) (hR.mpr ⟨k1, ?_, h4, rfl⟩) (by rw [List.length_append]; omega)
      · have := sub_size (h5 g hg); omega
      · obtain ⟨r, _, hr⟩ := hb.at hm
        obtain ⟨i, _, hi, _⟩ := hR.mp hr
        exact h7 ⟨i, hi⟩
      · rw [h2.1]; exact get_lt h4
    have two : ∀ (w : Str) (a b f : Fm), w ≠ "lamp" → f.sub = f :: (a.sub ++ b.sub) → f.size = a.size + b.size + 1 → a.dep ≤ n → b.dep ≤ n → L.length + f.size < 100000 →
        (∀ {fs k r}, R1 fs k r f ↔ ∃ i j : Nat, i < k ∧ j < k ∧ fs[i]? = some a ∧ fs[j]? = some b ∧ r = ⟨[.s w, .i (i : Int), .i (j : Int)]⟩) → Got L fs f (layO m_parts_of (n + 1) L (.tup [.txt w, a.nt, b.nt])) := fun w a b f hw hsub hsz hdp hdp2 hl hR => by
      rw [lay_word hw]
      obtain ⟨L1, fs1, k1, h1, h2, h3, h4, h5, h6, h7, h8⟩ := lay_all n a L fs hdp hb hd (by omega)
      obtain ⟨L2, fs2, k2, i1, i2, i3, i4, i5, i6, i7, i8⟩ := lay_all n b (L ++ L1) (fs ++ fs1) hdp2 h2 h3 (by rw [List.length_append]; omega)
      rw [fl_two h1 i1]
      dsimp only
      rw [List.append_assoc] at i2 i3 i4 ⊢
      rw [List.append_assoc] at i2
      have k1' : (fs ++ (fs1 ++ fs2))[k1]? = some a := by rw [← List.append_assoc]; exact get_app h4
      refine fin (r := ⟨[.s w, .i (k1 : Int), .i (k2 : Int)]⟩) i2 i3 (fun g hg => ?_) (by rw [List.length_append]; omega) (fun ⟨m, hm⟩ => ?_) (hR.mpr ⟨k1, k2, ?_, ?_, k1', i4, rfl⟩) (by rw [List.length_append, List.length_append]; omega)
      · rcases List.mem_append.mp hg with hg | hg
        · exact ⟨by rw [hsub]; exact List.mem_cons_of_mem _ (List.mem_append_left _ (h5 g hg)), by have := sub_size (h5 g hg); omega⟩
        · exact ⟨by rw [hsub]; exact List.mem_cons_of_mem _ (List.mem_append_right _ (i5 g hg)), by have := sub_size (i5 g hg); omega⟩
      · obtain ⟨r, _, hr⟩ := hb.at hm
        obtain ⟨i, j, _, _, hi, hj, _⟩ := hR.mp hr
        obtain ⟨e1, e2⟩ := h7 ⟨i, hi⟩
        obtain ⟨e3, e4⟩ := i7 ⟨j, get_app hj⟩
        rw [e1, e2, e3, e4]
        exact ⟨rfl, rfl⟩
      · rw [i2.1]; exact get_lt k1'
      · rw [i2.1]; exact get_lt i4
    have zero : ∀ (r : Tp SI) (f : Fm), f.size = 1 → R1 fs L.length r f → L.length + 1 < 100000 → Got L fs f (rownO L ⟨r.l⟩) := fun r f hs hr hl => by
      have := fin (L := L) (L' := []) (fs := fs) (fs' := []) (r := r) (f := f) (by simpa using hb) (by simpa using hd) (fun g hg => nomatch hg) (by simp [hs]) (fun _ => ⟨rfl, rfl⟩) (by simpa using hr) (by simp; omega)
      rwa [List.append_nil] at this
    cases f with
    | yes =>
      show Got _ _ _ (layO m_parts_of (n + 1) L (.tup [.txt "yes"]))
      rw [lay_word nl.1.1]
      exact zero ⟨[.s "yes"]⟩ .yes rfl rfl hl
    | lamp c =>
      show Got _ _ _ (layO m_parts_of (n + 1) L (.tup [.txt "lamp", .txt c]))
      rw [lay_lamp]
      exact zero ⟨[.s "lamp", .s c]⟩ (.lamp c) rfl rfl hl
    | neg a => exact one "not" a (.neg a) nl.1.2.1 rfl rfl (by simp only [Fm.dep] at hdp; omega) hl Iff.rfl
    | next a => exact one "next" a (.next a) nl.1.2.2 rfl rfl (by simp only [Fm.dep] at hdp; omega) hl Iff.rfl
    | and a b => exact two "and" a b (.and a b) nl.2.1 rfl rfl (by simp only [Fm.dep] at hdp; omega) (by simp only [Fm.dep] at hdp; omega) hl Iff.rfl
    | unt a b => exact two "until" a b (.unt a b) nl.2.2 rfl rfl (by simp only [Fm.dep] at hdp; omega) (by simp only [Fm.dep] at hdp; omega) hl Iff.rfl
theorem cell_at_ok (s : Scr) (k : Int) (h0 : 0 ≤ k) {P : Int → Prop} (hp : ∀ n, P n) : OK (m_law_cell_at s k) P := by
  unfold m_law_cell_at
  simp only [Option.bind_assoc, bindS, bind_self]
  exact ok_cond (fun h => ok_at h0 (of_decide_eq_true h) fun x _ => hp x) fun _ => ok_some (hp _)
theorem abc_size : (("abcdefghijklmnopqrstuvwxyz" : Str).cps.toList).length = 26 := by decide +kernel
mutual
noncomputable def ntz : Nt → Nat
  | .txt _ => 0
  | .int _ => 0
  | .tup l => ntzs l + 1
noncomputable def ntzs : List Nt → Nat
  | [] => 0
  | a :: l => ntz a + ntzs l
end
theorem ntz_nt : ∀ f : Fm, ntz f.nt = f.size
  | .yes => rfl
  | .lamp _ => rfl
  | .neg a => by
    have := ntz_nt a
    simp only [Fm.nt, Fm.size, ntz, ntzs]
    omega
  | .next a => by
    have := ntz_nt a
    simp only [Fm.nt, Fm.size, ntz, ntzs]
    omega
  | .and a b => by
    have h1 := ntz_nt a
    have h2 := ntz_nt b
    simp only [Fm.nt, Fm.size, ntz, ntzs]
    omega
  | .unt a b => by
    have h1 := ntz_nt a
    have h2 := ntz_nt b
    simp only [Fm.nt, Fm.size, ntz, ntzs]
    omega
noncomputable def Sen (a : Nt) : Prop := ∃ f : Fm, a = f.nt
theorem Sen.one {w a : Nt} (hw : w ∈ [Nt.txt "not", Nt.txt "next"]) (h : Sen a) : Sen (.tup [w, a]) ∧ (Nt.tup [w, a]).dep = a.dep + 1 ∧ ntz (.tup [w, a]) = ntz a + 1 := by
  obtain ⟨f, rfl⟩ := h
  simp only [List.mem_cons, List.not_mem_nil, or_false] at hw
  rcases hw with rfl | rfl
  · exact ⟨⟨.neg f, rfl⟩, by simp only [Nt.dep, Nt.deps]; omega, by simp only [ntz, ntzs]; omega⟩
  · exact ⟨⟨.next f, rfl⟩, by simp only [Nt.dep, Nt.deps]; omega, by simp only [ntz, ntzs]; omega⟩
theorem Sen.two {w a b : Nt} (hw : w ∈ [Nt.txt "and", Nt.txt "until"]) (h : Sen a) (h2 : Sen b) : Sen (.tup [w, a, b]) ∧ (Nt.tup [w, a, b]).dep = max a.dep b.dep + 1 ∧ ntz (.tup [w, a, b]) = ntz a + ntz b + 1 := by
  obtain ⟨f, rfl⟩ := h
  obtain ⟨g, rfl⟩ := h2
  simp only [List.mem_cons, List.not_mem_nil, or_false] at hw
  rcases hw with rfl | rfl
  · exact ⟨⟨.and f g, rfl⟩, by simp only [Nt.dep, Nt.deps]; omega, by simp only [ntz, ntzs]; omega⟩
  · exact ⟨⟨.unt f g, rfl⟩, by simp only [Nt.dep, Nt.deps]; omega, by simp only [ntz, ntzs]; omega⟩
theorem leaf_ok (n : Int) {P : Nt → Prop} (hp : ∀ a, Sen a → a.dep = 1 → ntz a = 1 → P a) : OK (m_law_leaf n) P := by
  unfold m_law_leaf
  simp only [Option.bind_assoc, bindS, bind_self]
  refine ok_cond (fun _ => ok_some (hp _ ⟨.yes, rfl⟩ rfl rfl)) fun _ => ok_bind (ok_at (Int.emod_nonneg _ (by decide)) ?_ fun c _ => ok_some (hp _ ⟨.lamp _, rfl⟩ rfl rfl))
  have := Int.emod_lt_of_pos (n / 4) (b := 26) (by decide)
  rw [abc_size]
  exact this
structure Good (x : Nt × Int) : Prop where
  s : Sen x.1
  d : (x.1.dep : Int) ≤ x.2
  u : x.2 ≤ 76
noncomputable def zs (st : List (Nt × Int)) : Nat := (st.map fun x => ntz x.1).sum
theorem zs_app (a b : List (Nt × Int)) : zs (a ++ b) = zs a + zs b := by unfold zs; rw [List.map_append, List.sum_append]
theorem zs_one (x : Nt × Int) : zs [x] = ntz x.1 := by unfold zs; simp
theorem zs_last {st : List (Nt × Int)} (ne : st ≠ []) : zs st = zs st.dropLast + ntz (st.getLast ne).1 := by
  have e := List.dropLast_concat_getLast ne
  rw [← zs_one, ← zs_app, e]
theorem zs_mem {st : List (Nt × Int)} {x : Nt × Int} (h : x ∈ st) : ntz x.1 ≤ zs st := by
  induction st with
  | nil => cases h
  | cons a l ih =>
    have e : zs (a :: l) = ntz a.1 + zs l := by unfold zs; rw [List.map_cons, List.sum_cons]
    rcases List.mem_cons.mp h with h | h
    · rw [h]; omega
    · have := ih h; omega
noncomputable def YES : Nt := .tup [.txt "yes"]
theorem ne_yes {w a : Nt} {l : List Nt} : Nt.tup (w :: a :: l) ≠ YES := fun z => by
  have := congrArg List.length (Nt.tup.inj z)
  simp at this
noncomputable def Hd (st : List (Nt × Int)) : Prop := ∃ x r, st = x :: r ∧ x.1 ≠ YES
theorem Hd.drop {st : List (Nt × Int)} (h : Hd st) : st.dropLast = [] ∨ Hd st.dropLast := by
  obtain ⟨x, r, rfl, hx⟩ := h
  cases r with
  | nil => exact .inl rfl
  | cons y r => exact .inr ⟨x, (y :: r).dropLast, rfl, hx⟩
theorem Hd.app {st : List (Nt × Int)} {n : Nt × Int} (h : st = [] ∨ Hd st) (hn : st = [] → n.1 ≠ YES) : Hd (st ++ [n]) := by
  rcases h with rfl | ⟨x, r, rfl, hx⟩
  · exact ⟨n, [], rfl, hn rfl⟩
  · exact ⟨x, r ++ [n], rfl, hx⟩
theorem Hd.ne {st : List (Nt × Int)} (h : Hd st) : st ≠ [] := by
  obtain ⟨x, r, rfl, _⟩ := h
  exact List.cons_ne_nil _ _
theorem put_ok (st : List (Nt × Int)) (n cell room : Int) (hg : ∀ x ∈ st, Good x) (hl : st.length ≤ 1000) (hd0 : Hd st) {P : List (Nt × Int) × List Int → Prop}
    (hp : ∀ st' n', (∀ x ∈ st', Good x) → st'.length ≤ st.length + 1 → Hd st' → zs st' ≤ zs st + 1 → P (st', [n'])) : OK (m_law_put st [n] cell room) P := by
  have hs : sizeLine = 16777216 := sizeLine_eq
  have e0 : ∀ m : Int, atI [m] (0 : Int) = some m := fun m => rfl
  have e1 : ∀ m a : Int, setO [m] (0 : Int) a = some [a] := fun m a => rfl
  unfold m_law_put
  simp only [Option.bind_assoc, bindS, bind_self, e0, e1]
  refine ok_by (P := fun d : Int => ∀ h : st ≠ [], d = (st.getLast h).2) (ok_cond (fun h => ?_) fun h => ok_some fun h' => ?_) fun deep hdeep => ?_
  · have h := of_decide_eq_true h
    have ne : st ≠ [] := fun e => by rw [e] at h; exact absurd h (by decide)
    exact ok_bind (ok_last ne (ok_some fun _ => rfl))
  · have h := of_decide_eq_false h
    have := List.length_pos_iff.mpr h'
    omega
  · refine ok_by (P := fun s : List (Nt × Int) × List Int => ∃ m, s.2 = [m] ∧ (∀ x ∈ s.1, Good x) ∧ s.1.length ≤ st.length + 1 ∧ Hd s.1 ∧ zs s.1 ≤ zs st + 1) ?_ fun s ⟨m, h1, h2, h3, h4, h5⟩ => ok_some (by rw [h1]; exact hp _ _ h2 h3 h4 h5)
    have keep : ∃ m, (st, [n]).2 = [m] ∧ (∀ x ∈ (st, [n]).1, Good x) ∧ (st, [n]).1.length ≤ st.length + 1 ∧ Hd (st, [n]).1 ∧ zs (st, [n]).1 ≤ zs st + 1 := ⟨n, rfl, hg, by dsimp only; omega, hd0, by dsimp only; omega⟩
    refine ok_cond (fun h => ok_cond (fun _ => ?_) fun _ => ok_some keep) fun _ => ?_
    · simp only [Bool.and_eq_true, decide_eq_true_iff] at h
      obtain ⟨_, h2, h3⟩ := h
      have ne : st ≠ [] := List.length_pos_iff.mp (by omega)
      have hd := hdeep ne
      have gl := hg _ (List.getLast_mem ne)
      have zl := zs_last ne
      rw [popO_eq ne]
      simp only [bindS]
      refine ok_bind (ok_at (Int.emod_nonneg _ (by decide)) (Int.emod_lt_of_pos (cell % 16) (b := 2) (by decide)) fun w hw => ?_)
      obtain ⟨s1, s2, s3⟩ := Sen.one (List.mem_of_getElem? hw) gl.s
      refine ok_bind (ok_push (by rw [List.length_dropLast]; omega) (ok_some ⟨_, rfl, fun x hx => ?_, ?_, Hd.app hd0.drop fun _ => ?_, ?_⟩))
      · rcases List.mem_append.mp hx with h | h
        · exact hg x (List.dropLast_subset _ h)
        · rw [List.mem_singleton.mp h]
          refine ⟨s1, ?_, ?_⟩
          · have := gl.d
            dsimp only
            rw [s2]
            omega
          · dsimp only
            omega
      · dsimp only
        rw [List.length_append, List.length_dropLast, List.length_singleton]
        omega
      · exact ne_yes
      · dsimp only
        rw [zs_app, zs_one]
        dsimp only
        omega
    · refine ok_by (P := fun _ => True) (ok_cond (fun _ => ok_some trivial) fun _ => ok_some trivial) fun b1 _ => ?_
      refine ok_by (P := fun b => b = true → 1 < st.length ∧ ∃ ne : st ≠ [], ∃ ne2 : st.dropLast ≠ [], (st.getLast ne).2 < 76 ∧ (st.dropLast.getLast ne2).2 < 76) ?_ fun b hb => ok_cond (fun h => ?_) fun _ => ok_cond (fun _ => ?_) fun _ => ok_some keep
      · refine ok_cond (fun _ => ok_cond (fun h => ?_) fun _ => ok_some fun h => by cases h) fun _ => ok_some fun h => by cases h
        have h := of_decide_eq_true h
        have ne : st ≠ [] := List.length_pos_iff.mp (by omega)
        have ne2 : st.dropLast ≠ [] := List.length_pos_iff.mp (by rw [List.length_dropLast]; omega)
        have e2 : atI st (-(2 : Int)) = some (st.dropLast.getLast ne2) := by
          have ei : ixN st.length (-(2 : Int)) = some (st.length - 2) := by
            unfold ixN
            rw [if_neg (by omega), if_pos (by omega)]
            congr 1
            omega
          unfold atI
          rw [ei]
          show st[st.length - 2]? = _
          rw [List.getLast_eq_getElem, List.getElem_dropLast, List.getElem?_eq_getElem (by omega)]
          simp only [List.length_dropLast]
          rfl
        rw [e2]
        simp only [bindS]
        refine ok_some fun hb => ⟨by omega, ne, ne2, ?_⟩
        have hb := of_decide_eq_true hb
        have hd := hdeep ne
        split at hb <;> omega
      · obtain ⟨h1, ne, ne2, h76, h77⟩ := hb h
        have gl := hg _ (List.getLast_mem ne)
        have gm := hg _ (List.dropLast_subset _ (List.getLast_mem ne2))
        have zl := zs_last ne
        have zm := zs_last ne2
        rw [popO_eq ne]
        simp only [bindS]
        rw [popO_eq ne2]
        simp only [bindS]
        refine ok_bind (ok_at (Int.emod_nonneg _ (by decide)) (Int.emod_lt_of_pos (cell % 16) (b := 2) (by decide)) fun w hw => ?_)
        obtain ⟨s1, s2, s3⟩ := Sen.two (List.mem_of_getElem? hw) gm.s gl.s
        have hd2 : st.dropLast.dropLast = [] ∨ Hd st.dropLast.dropLast := by
          rcases hd0.drop with h | h
          · exact absurd h ne2
          · exact h.drop
        refine ok_bind (ok_push (by rw [List.length_dropLast, List.length_dropLast]; omega) (ok_some ⟨_, rfl, fun x hx => ?_, ?_, Hd.app hd2 fun _ => ?_, ?_⟩))
        · rcases List.mem_append.mp hx with h | h
          · exact hg x (List.dropLast_subset _ (List.dropLast_subset _ h))
          · rw [List.mem_singleton.mp h]
            refine ⟨s1, ?_, ?_⟩
            · have a1 := gl.d
              have a2 := gm.d
              dsimp only
              rw [s2]
              split <;> omega
            · dsimp only
              split <;> omega
        · dsimp only
          rw [List.length_append, List.length_dropLast, List.length_dropLast, List.length_singleton]
          omega
        · exact ne_yes
        · dsimp only
          rw [zs_app, zs_one]
          dsimp only
          omega
      · refine ok_bind (leaf_ok _ fun a sa da za => ok_bind (ok_push (by omega) (ok_some ⟨_, rfl, fun x hx => ?_, ?_, Hd.app (.inr hd0) fun e => absurd e hd0.ne, ?_⟩)))
        · rcases List.mem_append.mp hx with h | h
          · exact hg x h
          · rw [List.mem_singleton.mp h]
            exact ⟨sa, by dsimp only; omega, by show (1 : Int) ≤ 76; decide⟩
        · dsimp only
          rw [List.length_append, List.length_singleton]
          omega
        · dsimp only
          rw [zs_app, zs_one]
          dsimp only
          omega
structure Tld (B : Nat) (a : Nt) : Prop where
  s : Sen a
  d : a.dep ≤ 86
  z : ntz a < B
theorem built_ok (cells : List Int) (room : Int) {R : Nat} (hR : R ≤ 9) (hc : cells.length + 1 ≤ 2 ^ R) {P : Nt → Prop} (hp : ∀ a, Tld ((cells.length + 2) * 2 ^ R) a → a ≠ YES → P a) : OK (m_law_built cells room) P := by
  have hs : sizeLine = 16777216 := sizeLine_eq
  have h2R : 2 ^ R ≤ 2 ^ 9 := Nat.pow_le_pow_right (by decide) hR
  have c512 : cells.length + 1 ≤ 512 := Nat.le_trans hc h2R
  unfold m_law_built
  simp only [Option.bind_assoc, bindS, bind_self]
  refine ok_bind (ok_at (Int.emod_nonneg _ (by decide)) (by rw [abc_size]; exact Int.emod_lt_of_pos room (b := 26) (by decide)) fun c _ => ?_)
  refine ok_bind (ok_for' (fun i (s : List (Nt × Int) × List Int) => ∃ m, s.2 = [m] ∧ (∀ x ∈ s.1, Good x) ∧ s.1.length ≤ i + 1 ∧ Hd s.1 ∧ zs s.1 ≤ i + 1) ⟨1, rfl, fun x hx => ?_, Nat.le_refl _, ⟨_, _, rfl, ?_⟩, ?_⟩ (fun i a s ha ⟨m, h1, h2, h3, h4, h5⟩ => ?_) fun s ⟨m, h1, h2, h3, h4, h5⟩ => ?_)
  · rw [List.mem_singleton.mp hx]
    exact ⟨⟨.lamp _, rfl⟩, by show ((1 : Nat) : Int) ≤ 1; decide, by show (1 : Int) ≤ 76; decide⟩
  · exact ne_yes
  · rw [zs_one]
    exact Nat.le_refl 1
  · have hi := (List.getElem?_eq_some_iff.mp ha).1
    rw [h1]
    refine ok_bind (put_ok _ _ _ _ h2 (by omega) h4 fun st' n' g1 g2 g3 g4 => ok_some ⟨_, rfl, n', rfl, g1, ?_, g3, ?_⟩)
    · dsimp only
      omega
    · dsimp only
      omega
  · refine ok_bind (ok_map (g := Prod.fst) (fun a _ => rfl) ?_)
    refine ok_bind (ok_while (fun l : List Nt => ∃ r, r ≤ R ∧ (∀ a ∈ l, Sen a ∧ a.dep ≤ 76 + r ∧ ntz a + 1 ≤ (cells.length + 2) * 2 ^ r) ∧ 1 ≤ l.length ∧ l.length ≤ 2 ^ (R - r) ∧ ∃ x t, l = x :: t ∧ x ≠ YES) (fun _ => False) (fun _ => False) (fun l => l.length) ⟨0, by omega, fun a ha => ?_, ?_, ?_, ?_⟩ ?_ (fun l ⟨r, r1, r2, r3, r4, r6⟩ => ?_) (fun _ h => h.elim) fun _ h => h.elim)
    · obtain ⟨x, hx, rfl⟩ := List.mem_map.mp ha
      have g := h2 x hx
      have g1 := g.d
      have g2 := g.u
      have g3 := zs_mem hx
      exact ⟨g.s, by omega, by rw [Nat.pow_zero, Nat.mul_one]; omega⟩
    · rw [List.length_map]
      exact List.length_pos_iff.mpr h4.ne
    · rw [List.length_map]
      show s.1.length ≤ 2 ^ R
      omega
    · obtain ⟨x, r, e, hx⟩ := h4
      exact ⟨x.1, r.map Prod.fst, by rw [e]; rfl, hx⟩
    · rw [List.length_map]
      omega
    · refine ok_some ?_
      by_cases hlt : (1 : Int) < (l.length : Int)
      · rw [decide_eq_true hlt, if_pos rfl]
        have r5 : r < R := by
          rcases Nat.lt_or_ge r R with h | h
          · exact h
          · have e : R - r = 0 := by omega
            rw [e] at r4
            omega
        have e9 : 2 ^ (R - r) = 2 * 2 ^ (R - (r + 1)) := by
          have : R - r = (R - (r + 1)) + 1 := by omega
          rw [this, Nat.pow_succ, Nat.mul_comm]
        have e10 : (cells.length + 2) * 2 ^ (r + 1) = 2 * ((cells.length + 2) * 2 ^ r) := by rw [Nat.pow_succ, ← Nat.mul_assoc, Nat.mul_comm]
        have l512 : l.length ≤ 2 ^ 9 := Nat.le_trans r4 (Nat.pow_le_pow_right (by decide) (by omega))
        refine ok_bind (ok_rng (n := l.length / 2) (by omega) (by omega) (by omega) ?_)
        refine ok_bind (ok_mapR (R := fun (_ : Int) a => (Sen a ∧ a.dep ≤ 76 + (r + 1) ∧ ntz a + 1 ≤ (cells.length + 2) * 2 ^ (r + 1)) ∧ a ≠ YES) (fun k hk => ?_) fun fewer f1 f2 _ => ?_)
        · obtain ⟨i, hi, rfl⟩ := List.mem_map.mp hk
          have hi := List.mem_range.mp hi
          refine ok_bind (ok_at (Int.emod_nonneg _ (by decide)) (Int.emod_lt_of_pos _ (b := 2) (by decide)) fun w hw => ?_)
          refine ok_bind (ok_at (by omega) (by omega) fun a ha => ok_bind (ok_at (by omega) (by omega) fun b hb => ok_some ?_))
          have qa := r2 a (List.mem_of_getElem? ha)
          have qb := r2 b (List.mem_of_getElem? hb)
          obtain ⟨s1, s2, s3⟩ := Sen.two (w := w) (by
            have hm := List.mem_of_getElem? hw
            simp only [List.mem_cons, List.not_mem_nil, or_false] at hm ⊢
            exact hm.symm) qa.1 qb.1
          refine ⟨⟨s1, by rw [s2]; omega, by rw [s3, e10]; omega⟩, ne_yes⟩
        · rw [List.length_map, List.length_range] at f1
          have f3 : ∀ a ∈ fewer, (Sen a ∧ a.dep ≤ 76 + (r + 1) ∧ ntz a + 1 ≤ (cells.length + 2) * 2 ^ (r + 1)) ∧ a ≠ YES := fun a ha => let ⟨_, _, h⟩ := f2 a ha; h
          have fhd : ∃ x t, fewer = x :: t ∧ x ≠ YES := by
            cases fewer with
            | nil => simp at f1; omega
            | cons x t => exact ⟨x, t, rfl, (f3 x (List.mem_cons_self ..)).2⟩
          refine ok_by (P := fun z : List Nt => (∀ a ∈ z, Sen a ∧ a.dep ≤ 76 + (r + 1) ∧ ntz a + 1 ≤ (cells.length + 2) * 2 ^ (r + 1)) ∧ (z.length : Int) = (l.length : Int) / 2 + (l.length : Int) % 2 ∧ ∃ x t, z = x :: t ∧ x ≠ YES) (ok_cond (fun h => ?_) fun h => ok_some ⟨fun a ha => (f3 a ha).1, ?_, fhd⟩) fun z ⟨z1, z2, z3⟩ => ok_some ⟨⟨r + 1, by omega, z1, by omega, ?_, z3⟩, ?_⟩
          · have h := of_decide_eq_true h
            have ne : l ≠ [] := List.length_pos_iff.mp (by omega)
            refine ok_bind (ok_last ne (ok_push (by omega) ⟨fun a ha => ?_, ?_, ?_⟩))
            · rcases List.mem_append.mp ha with h | h
              · exact (f3 a h).1
              · rw [List.mem_singleton.mp h]
                have q := r2 _ (List.getLast_mem ne)
                exact ⟨q.1, by have := q.2; omega, by have := q.2.2; rw [e10]; omega⟩
            · rw [List.length_append, List.length_singleton]
              omega
            · obtain ⟨x, t, e, hx⟩ := fhd
              exact ⟨x, t ++ [l.getLast ne], by rw [e]; rfl, hx⟩
          · have h := of_decide_eq_false h
            omega
          · omega
          · omega
      · rw [decide_eq_false hlt, if_neg Bool.false_ne_true]
        show OK ((atI l 0)) P
        refine ok_at (by omega) (by omega) fun a ha => ?_
        have q := r2 a (List.mem_of_getElem? ha)
        obtain ⟨x, t, e, hx⟩ := r6
        have ea : a = x := by
          rw [e] at ha
          exact (Option.some.inj ha).symm
        have hle : (cells.length + 2) * 2 ^ r ≤ (cells.length + 2) * 2 ^ R := Nat.mul_le_mul_left _ (Nat.pow_le_pow_right (by decide) r1)
        exact hp a ⟨q.1, by have := q.2; omega, by have := q.2.2; omega⟩ (by rw [ea]; exact hx)
theorem stream_ok (c many : Int) (hm : 0 ≤ many ∧ many ≤ 251) {P : List Int → Prop} (hp : ∀ l : List Int, (l.length : Int) = many → P l) : OK (m_law_stream c many) P := by
  have hs : sizeLine = 16777216 := sizeLine_eq
  obtain ⟨n, rfl⟩ := Int.eq_ofNat_of_zero_le hm.1
  unfold m_law_stream
  simp only [Option.bind_assoc, bindS, bind_self]
  refine ok_bind (ok_rng (n := n) (by omega) (by omega) (by omega) ?_)
  refine ok_bind (ok_for' (fun i (s : List Int × Int) => s.1.length = i ∧ 0 ≤ s.2 ∧ s.2 < 4294967296) ⟨rfl, by dsimp only; omega, by dsimp only; omega⟩ (fun i a s ha hI => ?_) fun s hI => ?_)
  · have hi : i < n := by simpa using (List.getElem?_eq_some_iff.mp ha).1
    refine ok_bind (ok_mul (.inl ⟨by omega, by omega⟩) (ok_bind (ok_push (by omega) (ok_some ⟨_, rfl, by rw [List.length_append, hI.1]; rfl, ?_, ?_⟩))))
    · exact Int.emod_nonneg _ (by decide)
    · have := Int.emod_lt_of_pos (s.2 * s.2 + 48271 * s.2 + a) (b := 2147483647) (by decide)
      dsimp only
      omega
  · refine ok_some (hp _ ?_)
    have := hI.1
    simp at this
    omega
theorem cells_ok (s : Scr) (hl : s.l.length ≤ 63) {k : Int} (k0 : 0 ≤ k) {P : List Int → Prop} (hp : ∀ l : List Int, l.length ≤ 63 → P l) : OK (m_law_cells s k) P := by
  have hs : sizeLine = 16777216 := sizeLine_eq
  unfold m_law_cells
  simp only [Option.bind_assoc, bindS, bind_self]
  refine ok_bind (cell_at_ok _ _ k0 fun c => ?_)
  refine ok_cond (fun _ => ⟨_, if_pos (by omega), hp _ ?_⟩) fun _ => ok_cond (fun _ => ok_bind (cell_at_ok _ _ (by omega) fun d => stream_ok _ _ (by omega) fun l h => hp l (by omega))) fun _ => ok_bind (cell_at_ok _ _ (by omega) fun d => ok_bind (stream_ok _ _ (by omega) fun l h => ok_map (g := fun n : Int => (16 : Int) * n + n / 7 % 5) (fun _ _ => rfl) (hp _ (by rw [List.length_map]; omega))))
  unfold cutA
  rw [List.length_take, List.length_drop]
  omega
theorem Sen.last {a : Nt} (h : Sen a) (hy : a ≠ YES) : ∃ w l, a = .tup (.txt w :: l) ∧ (w ≠ "lamp" → ∃ c, atI (Nt.txt w :: l) (-(1 : Int)) = some c ∧ Sen c ∧ c.dep ≤ a.dep ∧ ntz c ≤ ntz a) := by
  obtain ⟨f, rfl⟩ := h
  have l2 : ∀ x y : Nt, atI [x, y] (-(1 : Int)) = some y := fun x y => rfl
  have l3 : ∀ x y z : Nt, atI [x, y, z] (-(1 : Int)) = some z := fun x y z => rfl
  cases f with
  | yes => exact absurd rfl hy
  | lamp c => exact ⟨_, _, rfl, fun h => absurd rfl h⟩
  | neg a => exact ⟨_, _, rfl, fun _ => ⟨a.nt, l2 _ _, ⟨a, rfl⟩, by simp only [Fm.nt, Nt.dep, Nt.deps]; omega, by simp only [Fm.nt, ntz, ntzs]; omega⟩⟩
  | next a => exact ⟨_, _, rfl, fun _ => ⟨a.nt, l2 _ _, ⟨a, rfl⟩, by simp only [Fm.nt, Nt.dep, Nt.deps]; omega, by simp only [Fm.nt, ntz, ntzs]; omega⟩⟩
  | and a b => exact ⟨_, _, rfl, fun _ => ⟨b.nt, l3 _ _ _, ⟨b, rfl⟩, by simp only [Fm.nt, Nt.dep, Nt.deps]; omega, by simp only [Fm.nt, ntz, ntzs]; omega⟩⟩
  | unt a b => exact ⟨_, _, rfl, fun _ => ⟨b.nt, l3 _ _ _, ⟨b, rfl⟩, by simp only [Fm.nt, Nt.dep, Nt.deps]; omega, by simp only [Fm.nt, ntz, ntzs]; omega⟩⟩
theorem some_ok (s : Scr) (hl : s.l.length ≤ 63) : OK (m_law_some s) fun l => (∀ a ∈ l, Tld 65000 a) ∧ l.length ≤ 5 ∧ ((∀ a ∈ l, Tld 4160 a) ∨ l.length ≤ 1) := by
  have hs : sizeLine = 16777216 := sizeLine_eq
  unfold m_law_some
  simp only [Option.bind_assoc, bindS, bind_self]
  refine ok_bind (cell_at_ok _ _ (by decide) fun c => ?_)
  refine ok_cond (fun _ => ?_) fun _ => ?_
  · refine ok_bind (cell_at_ok _ _ (by decide) fun d => ok_bind (stream_ok _ _ (by omega) fun cells hc => ok_bind (built_ok _ _ (R := 8) (by decide) (by show _ ≤ 256; omega) fun a ta _ => ok_some ⟨fun x hx => ?_, by show (1 : Nat) ≤ 5; decide, .inr (Nat.le_refl 1)⟩)))
    rw [List.mem_singleton.mp hx]
    refine ⟨ta.s, ta.d, Nat.lt_of_lt_of_le ta.z ?_⟩
    have h : (cells.length + 2) * 2 ^ 8 ≤ 252 * 2 ^ 8 := Nat.mul_le_mul_right _ (by omega)
    exact Nat.le_trans h (by decide)
  · obtain ⟨N, hN⟩ := Int.eq_ofNat_of_zero_le (show 0 ≤ c / 8 % 5 by omega)
    have hN4 : N ≤ 4 := by omega
    refine ok_bind (ok_rng (n := N) (by omega) (by omega) (by omega) ?_)
    have up : ∀ a : Nt, Tld 4160 a → Tld 65000 a := fun a h => ⟨h.s, h.d, by have := h.z; omega⟩
    refine ok_bind (ok_for' (fun i (l : List Nt) => l.length ≤ i ∧ ∀ a ∈ l, Tld 4160 a ∧ a ≠ YES) ⟨Nat.le_refl 0, fun a h => (nomatch h)⟩ (fun i k l hk hI => ?_) fun l hI => ?_)
    · obtain ⟨hi, rfl⟩ : i < N ∧ (0 : Int) + (i : Int) = k := by
        have := List.getElem?_eq_some_iff.mp hk
        simpa using this
      refine ok_bind (cells_ok _ hl (by omega) fun cells hc => ?_)
      refine ok_bind (cell_at_ok _ _ (by decide) fun d => ?_)
      refine ok_bind (ok_div ⟨by omega, by omega⟩ ?_)
      refine ok_bind (built_ok _ _ (R := 6) (by decide) (by show _ ≤ 64; omega) fun a ta ty => ?_)
      have h : (cells.length + 2) * 2 ^ 6 ≤ 65 * 2 ^ 6 := Nat.mul_le_mul_right _ (by omega)
      have tz := ta.z
      refine ok_bind (ok_push (by omega) (ok_some ⟨_, rfl, by rw [List.length_append, List.length_singleton]; omega, fun x hx => ?_⟩))
      rcases List.mem_append.mp hx with h | h
      · exact hI.2 x h
      · rw [List.mem_singleton.mp h]
        exact ⟨⟨ta.s, ta.d, by omega⟩, ty⟩
    · rw [List.length_map, List.length_range] at hI
      obtain ⟨i1, i2⟩ := hI
      refine ok_by (P := fun b : Bool => b = true → 0 < l.length) (ok_cond (fun h => ok_cond (fun _ => ok_bind (cell_at_ok _ _ (by decide) fun d => ok_some fun _ => ?_)) fun _ => ok_some fun h => (nomatch h)) fun _ => ok_some fun h => (nomatch h)) fun b hb => ?_
      · have h := of_decide_eq_true h
        omega
      refine (show OK _ (fun l' : List Nt => (∀ a ∈ l', Tld 4160 a) ∧ l'.length ≤ 5) from ok_cond (fun h => ?_) fun _ => ok_some ⟨fun a ha => (i2 a ha).1, by omega⟩).mono fun l' ⟨g1, g2⟩ => ⟨fun a ha => up a (g1 a ha), g2, .inl g1⟩
      have hpos := hb h
      refine ok_bind (cell_at_ok _ _ (by decide) fun d => ok_bind (ok_mod (by omega) ?_))
      have p0 : 0 ≤ d / 3 % (l.length : Int) := Int.emod_nonneg _ (by omega)
      have p1 : d / 3 % (l.length : Int) < (l.length : Int) := Int.emod_lt_of_pos _ (by omega)
      refine ok_bind (ok_at p0 p1 fun a ha => ?_)
      obtain ⟨ta, ty⟩ := i2 a (List.mem_of_getElem? ha)
      obtain ⟨w, ps, ea, hlast⟩ := ta.s.last ty
      refine ok_bind (cell_at_ok _ _ (by decide) fun d2 => ?_)
      refine ok_by (P := fun b : Bool => b = true → w ≠ "lamp") (ok_cond (fun _ => ?_) fun _ => ok_some fun h => (nomatch h)) fun b2 hb2 => ?_
      · rw [ea]
        simp only [asTup, bindS, at0, asTxt]
        refine ok_some fun h e => ?_
        rw [decide_eq_true e] at h
        cases h
      refine ok_by (P := fun x : Nt => Tld 4160 x) (ok_cond (fun h => ?_) fun _ => ok_some ta) fun x tx => ok_push (by omega) ⟨fun y hy => ?_, by rw [List.length_append, List.length_singleton]; omega⟩
      · obtain ⟨x, e1, e2, e3, e4⟩ := hlast (hb2 h)
        rw [ea]
        simp only [asTup, bindS]
        rw [ea] at e3 e4
        have td := ta.d
        have tz := ta.z
        rw [ea] at td tz
        exact OK.of e1 ⟨e2, by omega, by omega⟩
      · rcases List.mem_append.mp hy with h | h
        · exact (i2 y h).1
        · rw [List.mem_singleton.mp h]; exact tx
theorem all_fm {B : Nat} : ∀ {l : List Nt}, (∀ a ∈ l, Tld B a) → ∃ fs : List Fm, l = fs.map Fm.nt ∧ ∀ f ∈ fs, f.dep ≤ 86 ∧ f.size < B
  | [], _ => ⟨[], rfl, fun f h => (nomatch h)⟩
  | a :: l, h => by
    obtain ⟨fs, rfl, h2⟩ := all_fm (l := l) fun x hx => h x (List.mem_cons_of_mem _ hx)
    have ta := h a (List.mem_cons_self ..)
    obtain ⟨f, rfl⟩ := ta.s
    refine ⟨f :: fs, rfl, fun g hg => ?_⟩
    rcases List.mem_cons.mp hg with e | e
    · rw [e]
      have h1 := ta.d
      have h3 := ta.z
      rw [nt_dep] at h1
      rw [ntz_nt] at h3
      exact ⟨h1, h3⟩
    · exact h2 g e
theorem sum_bd {B : Nat} : ∀ {fs : List Fm}, (∀ f ∈ fs, f.size < B) → (fs.map Fm.size).sum ≤ fs.length * B
  | [], _ => by simp
  | f :: fs, h => by
    have h1 := h f (List.mem_cons_self ..)
    have h2 := sum_bd (fs := fs) fun g hg => h g (List.mem_cons_of_mem _ hg)
    rw [List.map_cons, List.sum_cons, List.length_cons, Nat.succ_mul]
    omega
theorem bks : ∀ (fs : List Fm) (L : List (Tp SI)) (gs : List Fm), (∀ f ∈ fs, f.dep ≤ 95) → Bk L gs → Dif gs → L.length + (fs.map Fm.size).sum < 100000 → ∃ L' gs' ks, booksO (layO m_parts_of 95) (fs.map Fm.nt) L = some (L ++ L', ks) ∧ Bk (L ++ L') (gs ++ gs') ∧ ks.length = fs.length ∧ L'.length ≤ (fs.map Fm.size).sum
  | [], L, gs, _, hb, _, _ => ⟨[], [], [], by rw [List.append_nil]; rfl, by rw [List.append_nil, List.append_nil]; exact hb, rfl, Nat.zero_le _⟩
  | f :: fs, L, gs, hf, hb, hd, hl => by
    rw [List.map_cons, List.sum_cons] at hl
    obtain ⟨L1, gs1, k, h1, h2, h3, h4, h5, h6, _⟩ := lay_all 95 f L gs (hf f (List.mem_cons_self ..)) hb hd (by omega)
    obtain ⟨L', gs', ks, g1, g2, g3, g4⟩ := bks fs (L ++ L1) (gs ++ gs1) (fun g hg => hf g (List.mem_cons_of_mem _ hg)) h2 h3 (by rw [List.length_append]; omega)
    refine ⟨L1 ++ L', gs1 ++ gs', (k : Int) :: ks, ?_, by rw [← List.append_assoc, ← List.append_assoc]; exact g2, by rw [List.length_cons, List.length_cons, g3], by rw [List.length_append, List.map_cons, List.sum_cons]; omega⟩
    show ((layO m_parts_of 95 L f.nt).bind fun z => (booksO (layO m_parts_of 95) (fs.map Fm.nt) z.1).bind fun y => some (y.1, z.2 :: y.2)) = _
    rw [h1, Option.bind_some, g1, Option.bind_some, List.append_assoc]
theorem books_pre {lay : List (Tp SI) → Nt → Option (List (Tp SI) × Int)} (hl : ∀ L a L2 j, lay L a = some (L2, j) → L <+: L2) : ∀ (as : List Nt) (L L2 : List (Tp SI)) (ks : List Int), booksO lay as L = some (L2, ks) → L <+: L2
  | [], L, L2, ks, h => by
    cases h
    exact List.prefix_refl _
  | a :: as, L, L2, ks, h => by
    obtain ⟨z, e1, h⟩ := Option.bind_eq_some_iff.mp (show ((lay L a).bind fun z => _) = some (L2, ks) from h)
    obtain ⟨y, e2, h⟩ := Option.bind_eq_some_iff.mp h
    cases h
    exact (hl _ _ _ _ e1).trans (books_pre hl as _ _ _ e2)
theorem siN_inj {a b : SI} (h : siN a = siN b) : a = b := by
  cases a <;> cases b <;> simp only [siN] at h
  · cases h; rfl
  · cases h
  · cases h
  · cases h; rfl
theorem siNs_inj : ∀ {a b : List SI}, a.map siN = b.map siN → a = b
  | [], [], _ => rfl
  | [], _ :: _, h => by cases h
  | _ :: _, [], h => by cases h
  | x :: a, y :: b, h => by
    obtain ⟨h1, h2⟩ := List.cons.inj h
    rw [siN_inj h1, siNs_inj h2]
theorem siNs_dep : ∀ l : List SI, Nt.deps (l.map siN) = 0
  | [] => rfl
  | .s x :: l => by
    have := siNs_dep l
    simp only [List.map_cons, siN, Nt.deps, Nt.dep, this]
    rfl
  | .i x :: l => by
    have := siNs_dep l
    simp only [List.map_cons, siN, Nt.deps, Nt.dep, this]
    rfl
theorem eq_rk (r r' : Rk) : eqNO r.nt r'.nt = some (decide (r.tp = r'.tp)) := by
  unfold eqNO
  have d1 : ∀ r : Rk, r.nt.dep ≤ 180 := fun r => by
    unfold Rk.nt
    simp only [Nt.dep, siNs_dep]
    decide
  rw [if_pos ⟨d1 r, d1 r'⟩]
  congr 1
  refine decide_eq_decide.mpr ⟨fun h => ?_, fun h => ?_⟩
  · unfold Rk.nt at h
    injection h with h
    unfold Rk.tp
    rw [siNs_inj h]
  · have : r = r' := by
      cases r
      cases r'
      cases h
      rfl
    rw [this]
theorem num_loop {L : List (Tp SI)} {row : Rk} {F : Int → Unit → Option (Fl Unit (Option Int))} (hF : ∀ (k : Nat) x, L[k]? = some x → F (k : Int) () = some (if x = row.tp then .rt (some (k : Int)) else .nx ())) :
    ∀ (xs : List (Tp SI)) (i : Nat), (∀ (k : Nat) x, xs[k]? = some x → L[i + k]? = some x) → forO F ((List.range xs.length).map fun (k : Nat) => ((i + k : Nat) : Int)) () = some (match idxB i xs row.tp with | some n => .rt (some n) | none => .nx ())
  | [], i, _ => rfl
  | x :: xs, i, h => by
    have hx := hF i x (by have := h 0 x rfl; rw [Nat.add_zero] at this; exact this)
    have ih := num_loop hF xs (i + 1) fun k y hk => by
      have := h (k + 1) y hk
      rw [show i + 1 + k = i + (k + 1) by omega]
      exact this
    rw [List.length_cons, List.range_succ_eq_map, List.map_cons, List.map_map]
    have em : (List.range xs.length).map ((fun (k : Nat) => ((i + k : Nat) : Int)) ∘ Nat.succ) = (List.range xs.length).map fun (k : Nat) => ((i + 1 + k : Nat) : Int) := List.map_congr_left fun k _ => by
      show ((i + (k + 1) : Nat) : Int) = ((i + 1 + k : Nat) : Int)
      rw [show i + (k + 1) = i + 1 + k by omega]
    rw [em, Nat.add_zero]
    unfold forO idxB
    rw [hx]
    by_cases e : x = row.tp
    · rw [if_pos e, if_pos e]
      rfl
    · rw [if_neg e, if_neg e]
      exact ih
theorem num_ok {L : List (Tp SI)} (hL : L.length ≤ 100000) (row : Rk) {m : Nat} (hm : m ≤ L.length) : m_law_number_of row.nt (L.map Rk.of) (m : Int) = some (idxB 0 (L.take m) row.tp) := by
  have hs : sizeLine = 16777216 := sizeLine_eq
  refine OK.eq ?_
  unfold m_law_number_of
  simp only [Option.bind_assoc, bindS, bind_self]
  refine ok_bind (ok_rng (n := m) (by omega) (by omega) (by omega) ?_)
  have lt : (L.take m).length = m := by rw [List.length_take]; omega
  have em : ((List.range m).map fun (i : Nat) => (0 : Int) + (i : Int)) = (List.range (L.take m).length).map fun (k : Nat) => ((0 + k : Nat) : Int) := by
    rw [lt]
    exact List.map_congr_left fun k _ => by omega
  rw [em, num_loop (L := L) (row := row) (fun k x hk => ?_) (L.take m) 0 fun k x hk => ?_]
  · cases idxB 0 (L.take m) row.tp with
    | none => exact ok_some rfl
    | some n => exact ok_some rfl
  · have hr : (L.map Rk.of)[k]? = some (Rk.of x) := by rw [List.getElem?_map, hk]; rfl
    rw [atI_nat hr]
    simp only [bindS]
    rw [eq_rk]
    simp only [bindS]
    by_cases e : (Rk.of x).tp = row.tp
    · rw [decide_eq_true e, if_pos (show x = row.tp from e)]
      rfl
    · rw [decide_eq_false e, if_neg (show ¬x = row.tp from e)]
      rfl
  · rw [Nat.zero_add]
    rw [List.getElem?_take] at hk
    split at hk
    · exact hk
    · cases hk
theorem cut_hi {α : Type} (xs : List α) (k : Nat) : cutA xs none (some (k : Int)) = xs.take k := by
  unfold cutA
  rw [HT.sIx_none, HT.sIx_nat, List.drop_zero, Nat.sub_zero]
  by_cases h : k ≤ xs.length
  · rw [Nat.min_eq_left h]
  · rw [Nat.min_eq_right (by omega), List.take_length, List.take_of_length_le (by omega)]
theorem rk_of_tp (r : Rk) : Rk.of r.tp = r := by cases r; rfl
theorem cut_one (x : Nt) (l : List Nt) : cutA (x :: l) none (some (1 : Int)) = [x] := cut_hi (x :: l) 1
theorem as_tup (l : List Nt) : asTup (.tup l) = some ⟨l⟩ := rfl
theorem as_txt (x : Str) : asTxt (.txt x) = some x := rfl
noncomputable def gtail (rows : List Rk) (ms : List Int) (row : Nt) : Option (List Int × Option Int) :=
  (atI ms 0).bind fun y => (m_law_number_of row rows y).bind fun spot_ => (cond spot_.isNone ((atI ms 0).bind fun y => cond (decide (y < (rows.length : Int))) ((atI ms 0).bind fun y => (atI rows y).bind fun y => eqNO y.nt row) (some false)) (some false)).bind fun b154 => (cond b154 ((atI ms 0).bind fun y => (atI ms 0).bind fun y_1 => (setO ms 0 (y_1 + 1)).bind fun z194 => some (z194, some y)) (some (ms, spot_))).bind fun s159 => some (s159.1, s159.2)
theorem tail_ok {L : List (Tp SI)} (hL : L.length ≤ 100000) {m : Nat} (hm : m ≤ L.length) {r : Rk} {L2 : List (Tp SI)} {j : Int} (h : rownO (L.take m) r = some (L2, j)) (hp : L2 <+: L) : gtail (L.map Rk.of) [(m : Int)] r.nt = some ([(L2.length : Int)], some j) := by
  have e0 : ∀ k : Int, atI [k] (0 : Int) = some k := fun k => rfl
  have lt : (L.take m).length = m := by rw [List.length_take]; omega
  unfold gtail
  simp only [e0, bindS, num_ok hL r hm]
  unfold rownO at h
  cases hi : idxB 0 (L.take m) r.tp with
  | some k =>
    rw [hi] at h
    cases h
    rw [lt]
    rfl
  | none =>
    rw [hi] at h
    obtain ⟨_, h⟩ := ite_some h
    cases h
    have hl := hp.length_le
    rw [List.length_append, lt, List.length_singleton] at hl
    have hg : L[m]? = some r.tp := by
      obtain ⟨t, e⟩ := hp
      rw [← e, List.append_assoc, List.getElem?_append_right (by rw [lt]; exact Nat.le_refl _), lt, Nat.sub_self]
      rfl
    have hr : (L.map Rk.of)[m]? = some r := by
      rw [List.getElem?_map, hg]
      exact congrArg some (rk_of_tp r)
    have hs : setO [(m : Int)] 0 ((m : Int) + 1) = some [(m : Int) + 1] := rfl
    simp only [Option.isNone_none, cond_true]
    rw [List.length_map, decide_eq_true (by omega), cond_true, atI_nat hr]
    simp only [bindS]
    rw [eq_rk, decide_eq_true rfl]
    simp only [bindS, cond_true, hs]
    rw [List.length_append, lt]
    rfl
noncomputable def GF (n : Nat) (rows : List Rk) (part_ : Nt) (s41 : List Int × Nt) : Option (Fl (List Int × Nt) (List Int × Option Int)) :=
  (m_law_gone n s41.1 part_ rows).bind fun rz61 => cond rz61.2.isNone (some (Fl.rt (rz61.1, none))) ((asTup s41.2).bind fun y => rz61.2.bind fun y_1 => (catTO y ⟨[Nt.int y_1]⟩).bind fun y => (tupNO y).bind fun row_ => some (Fl.nx (rz61.1, row_)))
theorem gone_word {n : Nat} {w : Str} {ps : List Nt} {m : Int} {rows : List Rk} {z : List Int × Nt} (hw : w ≠ "lamp") (hfo : forO (GF n rows) ps ([m], .tup [.txt w]) = some (.nx z)) : msm_law_gone (m_law_gone n) [m] (.tup (.txt w :: ps)) rows = gtail rows z.1 z.2 := by
  unfold msm_law_gone
  have et : tupNO ⟨[Nt.txt w]⟩ = some (.tup [.txt w]) := by
    unfold tupNO
    rw [if_neg (fun h => hw (by
      have h := Option.some.inj h
      injection h))]
  simp only [Option.bind_assoc, bindS, bind_self, as_tup, at0, as_txt, decide_eq_false hw, Bool.not_false, cond_true, cut_one, cut_tailA, et]
  show (forO (GF n rows) ps ([m], .tup [.txt w])).bind _ = _
  rw [hfo]
  rfl
theorem gloop {L : List (Tp SI)} {n : Nat} (ih : ∀ (f : Fm) (m : Nat) (L2 : List (Tp SI)) (j : Int), m ≤ L.length → layO m_parts_of n (L.take m) f.nt = some (L2, j) → L2 <+: L → m_law_gone n [(m : Int)] f.nt (L.map Rk.of) = some ([(L2.length : Int)], some j)) {w : Str} (hw : w ≠ "lamp") :
    ∀ (fs : List Fm) (m : Nat) (acc : List SI) (z : List (Tp SI) × List SI), m ≤ L.length → forO (layF (layO m_parts_of n)) (fs.map Fm.nt) (L.take m, .s w :: acc) = some (.nx z) → z.1 <+: L → forO (GF n (L.map Rk.of)) (fs.map Fm.nt) ([(m : Int)], .tup ((SI.s w :: acc).map siN)) = some (.nx ([(z.1.length : Int)], .tup (z.2.map siN)))
  | [], m, acc, z, hm, h, _ => by
    cases h
    rw [List.map_nil]
    unfold forO
    rw [List.length_take, Nat.min_eq_left hm]
  | f :: fs, m, acc, z, hm, h, hz => by
    rw [List.map_cons] at h ⊢
    unfold forO at h ⊢
    obtain ⟨fl, e, h⟩ := Option.bind_eq_some_iff.mp h
    obtain ⟨⟨L2, j⟩, e1, e⟩ := Option.bind_eq_some_iff.mp (show ((layO m_parts_of n (L.take m) f.nt).bind _) = some fl from e)
    obtain ⟨hs, e⟩ := ite_some e
    cases e
    have h : forO (layF (layO m_parts_of n)) (fs.map Fm.nt) (L2, .s w :: (acc ++ [.i j])) = some (.nx z) := h
    have hp : L2 <+: L := (layF_pre (layO_pre m_parts_of n) _ _ z h).trans hz
    have et : L2 = L.take L2.length := List.prefix_iff_eq_take.mp hp
    have e2 : GF n (L.map Rk.of) f.nt ([(m : Int)], .tup ((SI.s w :: acc).map siN)) = some (.nx ([(L2.length : Int)], .tup ((SI.s w :: (acc ++ [.i j])).map siN))) := by
      unfold GF
      dsimp only
      rw [ih f m L2 j hm e1 hp]
      have ec : catTO ⟨(SI.s w :: acc).map siN⟩ ⟨[Nt.int j]⟩ = some ⟨(SI.s w :: (acc ++ [.i j])).map siN⟩ := by
        unfold catTO
        rw [if_pos (by rw [List.length_map]; exact hs)]
        congr 1
        simp [siN]
      simp only [bindS, Option.isNone_some, cond_false, as_tup]
      rw [ec]
      simp only [bindS]
      have eu : tupNO ⟨(SI.s w :: (acc ++ [SI.i j])).map siN⟩ = some (.tup ((SI.s w :: (acc ++ [.i j])).map siN)) := by
        unfold tupNO
        rw [if_neg (fun h => hw (by
          have h := Option.some.inj (show some (Nt.txt w) = some (Nt.txt "lamp") from h)
          injection h))]
      rw [eu]
      rfl
    rw [e2, Option.bind_some]
    rw [et] at h
    exact gloop ih hw fs L2.length _ z hp.length_le h hz
theorem gone_lamp (n : Nat) (m : Int) (c : Str) (rows : List Rk) : msm_law_gone (m_law_gone n) [m] (Nt.tup [.txt "lamp", .txt c]) rows = gtail rows [m] (Rk.nt ⟨[.s "lamp", .s c]⟩) := by
  have en : Rk.nt ⟨[.s "lamp", .s c]⟩ = Nt.tup [.txt "lamp", .txt c] := rfl
  rw [en]
  unfold msm_law_gone gtail
  simp only [Option.bind_assoc, bindS, bind_self, as_tup, at0, as_txt, decide_true, Bool.not_true, cond_false]
theorem gone_w {L : List (Tp SI)} (hL : L.length ≤ 100000) {n : Nat} (ih : ∀ (f : Fm) (m : Nat) (L2 : List (Tp SI)) (j : Int), m ≤ L.length → layO m_parts_of n (L.take m) f.nt = some (L2, j) → L2 <+: L → m_law_gone n [(m : Int)] f.nt (L.map Rk.of) = some ([(L2.length : Int)], some j))
    {m : Nat} {L2 : List (Tp SI)} {j : Int} (hm : m ≤ L.length) (hp : L2 <+: L) {w : Str} (fs : List Fm) (hw : w ≠ "lamp") (h : layO m_parts_of (n + 1) (L.take m) (.tup (.txt w :: fs.map Fm.nt)) = some (L2, j)) : msm_law_gone (m_law_gone n) [(m : Int)] (.tup (.txt w :: fs.map Fm.nt)) (L.map Rk.of) = some ([(L2.length : Int)], some j) := by
  rw [lay_word hw] at h
  obtain ⟨fl, hf, h⟩ := Option.bind_eq_some_iff.mp h
  cases fl with
  | nx z =>
    have h : rownO z.1 ⟨z.2⟩ = some (L2, j) := h
    have hz : z.1 <+: L := (rown_pre h).trans hp
    rw [gone_word hw (gloop ih hw fs m [] z hm hf hz)]
    have et : z.1 = L.take z.1.length := List.prefix_iff_eq_take.mp hz
    rw [et] at h
    show gtail (L.map Rk.of) [(z.1.length : Int)] (Rk.nt ⟨z.2⟩) = _
    exact tail_ok (m := z.1.length) (r := ⟨z.2⟩) hL hz.length_le h hp
  | bk s => exact nomatch (show (none : Option (List (Tp SI) × Int)) = some _ from h)
  | rt r => exact nomatch (show (none : Option (List (Tp SI) × Int)) = some _ from h)
theorem gone_s (n : Nat) (ms : List Int) (a : Nt) (rows : List Rk) : m_law_gone (n + 1) ms a rows = msm_law_gone (m_law_gone n) ms a rows := rfl
theorem gone_ok {L : List (Tp SI)} (hL : L.length ≤ 100000) (n : Nat) : ∀ (f : Fm) (m : Nat) (L2 : List (Tp SI)) (j : Int), m ≤ L.length → layO m_parts_of n (L.take m) f.nt = some (L2, j) → L2 <+: L → m_law_gone n [(m : Int)] f.nt (L.map Rk.of) = some ([(L2.length : Int)], some j) := by
  induction n with
  | zero => exact fun _ _ _ _ _ h _ => nomatch (show (none : Option (List (Tp SI) × Int)) = some _ from h)
  | succ n ih =>
    intro f m L2 j hm h hp
    rw [gone_s]
    cases f with
    | yes => exact gone_w hL ih hm hp [] nl.1.1 h
    | neg a => exact gone_w hL ih hm hp [a] nl.1.2.1 h
    | next a => exact gone_w hL ih hm hp [a] nl.1.2.2 h
    | and a b => exact gone_w hL ih hm hp [a, b] nl.2.1 h
    | unt a b => exact gone_w hL ih hm hp [a, b] nl.2.2 h
    | lamp c =>
      have h : layO m_parts_of (n + 1) (L.take m) (.tup [.txt "lamp", .txt c]) = some (L2, j) := h
      rw [lay_lamp] at h
      show msm_law_gone (m_law_gone n) [(m : Int)] (Nt.tup [.txt "lamp", .txt c]) (L.map Rk.of) = _
      rw [gone_lamp]
      exact tail_ok hL hm h hp
theorem row_kind1 (w : Str) (is : List Int) (hw : w ≠ "lamp") : m_law_row_kind ⟨.s w :: is.map SI.i⟩ = some true := by
  have a0 : atI (SI.s w :: is.map SI.i) (0 : Int) = some (.s w) := atI_nat (j := 0) rfl
  have hk : isK "str" (ToD.to (SI.s w)) = true := rfl
  have hs : asS (SI.s w) = some w := rfl
  refine OK.eq ?_
  unfold m_law_row_kind
  dsimp only [Rk.tp]
  simp only [Option.bind_assoc, bindS, bind_self, Bool.not_true, cond_false, a0, hk, hs, decide_eq_false hw, cut_tailA]
  refine ok_by (P := fun b : Bool => b = false) (ok_cond (fun h => absurd (of_decide_eq_true h) (by rw [List.length_cons]; omega)) fun _ => ok_some rfl) fun b hb => ?_
  subst hb
  show OK ((compO _ _ _).bind _) _
  refine ok_bind (ok_comp (c := fun _ : SI => true) (g := id) (fun x hx => ?_) (fun _ _ _ => rfl) (ok_some ?_))
  · obtain ⟨n, _, rfl⟩ := List.mem_map.mp hx
    rfl
  · rw [List.map_id, List.filter_eq_self.mpr (fun _ _ => rfl), List.length_map]
    refine decide_eq_true ?_
    rw [List.length_cons, List.length_map]
    omega
theorem row_lamp (c : Str) : m_law_row_kind ⟨[.s "lamp", .s c]⟩ = some true := by
  have a0 : atI [SI.s "lamp", SI.s c] (0 : Int) = some (.s "lamp") := atI_nat (j := 0) rfl
  have hk : isK "str" (ToD.to (SI.s "lamp")) = true := rfl
  have hs : asS (SI.s "lamp") = some "lamp" := rfl
  refine OK.eq ?_
  unfold m_law_row_kind
  dsimp only [Rk.tp]
  simp only [Option.bind_assoc, bindS, bind_self, Bool.not_true, cond_false, a0, hk, hs, decide_true, cond_true]
  refine ok_by (P := fun b : Bool => b = false) (ok_cond (fun h => absurd (of_decide_eq_true h) (by simp)) fun _ => ok_some rfl) fun b hb => ?_
  subst hb
  exact ok_some rfl
theorem row_kind {fs : List Fm} {k : Nat} {r : Tp SI} {f : Fm} (h : R1 fs k r f) : m_law_row_kind (Rk.of r) = some true := by
  cases f with
  | yes => rw [show r = _ from h]; exact row_kind1 "yes" [] nl.1.1
  | lamp c => rw [show r = _ from h]; exact row_lamp c
  | neg a => obtain ⟨i, _, _, rfl⟩ := h; exact row_kind1 "not" [(i : Int)] nl.1.2.1
  | next a => obtain ⟨i, _, _, rfl⟩ := h; exact row_kind1 "next" [(i : Int)] nl.1.2.2
  | and a b => obtain ⟨i, j, _, _, _, _, rfl⟩ := h; exact row_kind1 "and" [(i : Int), (j : Int)] nl.2.1
  | unt a b => obtain ⟨i, j, _, _, _, _, rfl⟩ := h; exact row_kind1 "until" [(i : Int), (j : Int)] nl.2.2
theorem kind_ok {L : List (Tp SI)} {fs : List Fm} (hb : Bk L fs) (ks : List Int) : m_law_book_kind (L.map Rk.of, ks) = some true := by
  refine OK.eq ?_
  unfold m_law_book_kind
  simp only [Option.bind_assoc, bindS, bind_self, Bool.not_true, decide_true, Bool.or_false, Bool.false_or, cond_false]
  refine ok_bind (ok_for' (fun _ _ => True) trivial (fun i r u hr _ => ?_) fun u _ => ?_)
  · rw [List.getElem?_map] at hr
    obtain ⟨x, hx, rfl⟩ := Option.map_eq_some_iff.mp hr
    obtain ⟨f, _, h1⟩ := hb.at' hx
    rw [row_kind h1]
    exact ok_some ⟨_, rfl, trivial⟩
  · refine ok_bind (ok_comp (c := fun _ : Int => true) (g := id) (fun x hx => rfl) (fun _ _ _ => rfl) (ok_some ?_))
    rw [List.map_id, List.filter_eq_self.mpr (fun _ _ => rfl)]
    exact decide_eq_true rfl
theorem deps_le {B : Nat} : ∀ {fs : List Fm}, (∀ f ∈ fs, f.dep ≤ B) → Nt.deps (fs.map Fm.nt) ≤ B
  | [], _ => Nat.zero_le _
  | f :: fs, h => by
    have h1 := h f (List.mem_cons_self ..)
    have h2 := deps_le (fs := fs) fun g hg => h g (List.mem_cons_of_mem _ hg)
    rw [List.map_cons]
    unfold Nt.deps
    rw [nt_dep]
    omega
theorem bloop {L : List (Tp SI)} (hL : L.length ≤ 100000) : ∀ (fs : List Fm) (m : Nat) (ks : List Int), m ≤ L.length → booksO (layO m_parts_of 95) (fs.map Fm.nt) (L.take m) = some (L, ks) →
    forO (S := List Int) (ρ := Bool) (fun (pr : Nt × Int) s => (m_law_gone 95 s pr.1 (L.map Rk.of)).bind fun rz => cond (!decide (rz.2 = some pr.2)) (some (Fl.rt false)) (some (Fl.nx rz.1))) ((fs.map Fm.nt).zip ks) [(m : Int)] = some (.nx [(L.length : Int)])
  | [], m, ks, hm, h => by
    obtain ⟨e1, e2⟩ := Prod.mk.inj (Option.some.inj (show some (L.take m, ([] : List Int)) = some (L, ks) from h))
    have : m = L.length := by
      have := congrArg List.length e1
      rw [List.length_take] at this
      omega
    rw [this]
    rfl
  | f :: fs, m, ks, hm, h => by
    obtain ⟨z, e1, h⟩ := Option.bind_eq_some_iff.mp (show ((layO m_parts_of 95 (L.take m) f.nt).bind fun z => (booksO (layO m_parts_of 95) (fs.map Fm.nt) z.1).bind fun y => some (y.1, z.2 :: y.2)) = some (L, ks) from h)
    obtain ⟨y, e2, h⟩ := Option.bind_eq_some_iff.mp h
    obtain ⟨e3, e4⟩ := Prod.mk.inj (Option.some.inj h)
    obtain ⟨L2, j⟩ := z
    obtain ⟨L3, ks3⟩ := y
    dsimp only at e2 e3 e4
    rw [e3] at e2
    have hp : L2 <+: L := books_pre (layO_pre m_parts_of 95) _ _ _ _ e2
    have et : L2 = L.take L2.length := List.prefix_iff_eq_take.mp hp
    have eg := gone_ok hL 95 f m L2 j hm e1 hp
    rw [← e4, List.map_cons, List.zip_cons_cons]
    unfold forO
    dsimp only
    rw [eg]
    simp only [bindS, decide_true, Bool.not_true, cond_false]
    rw [et] at e2
    exact bloop hL fs L2.length ks3 hp.length_le e2
theorem law_true (ns : List Int) (hl : ns.length ≤ 63) : m_law ⟨ns⟩ = some true := by
  have hs : sizeLine = 16777216 := sizeLine_eq
  refine OK.eq ?_
  unfold m_law
  simp only [Option.bind_assoc, bindS, bind_self]
  refine ok_by (some_ok ⟨ns⟩ hl) fun l ⟨g1, g2, g3⟩ => ?_
  obtain ⟨fs, rfl, hd, hsum, h5⟩ : ∃ fs : List Fm, l = fs.map Fm.nt ∧ (∀ f ∈ fs, f.dep ≤ 86) ∧ (fs.map Fm.size).sum < 90000 ∧ fs.length ≤ 5 := by
    rcases g3 with g3 | g3
    · obtain ⟨fs, rfl, h⟩ := all_fm g3
      rw [List.length_map] at g2
      have := sum_bd (fs := fs) fun f hf => (h f hf).2
      exact ⟨fs, rfl, fun f hf => (h f hf).1, by omega, g2⟩
    · obtain ⟨fs, rfl, h⟩ := all_fm g1
      rw [List.length_map] at g2 g3
      have := sum_bd (fs := fs) fun f hf => (h f hf).2
      exact ⟨fs, rfl, fun f hf => (h f hf).1, by omega, g2⟩
  obtain ⟨L, gs, ks, hb, hB, hk, hz⟩ := bks fs [] [] (fun f hf => by have := hd f hf; omega) Bk.nil Dif.nil (by rw [List.length_nil]; omega)
  rw [List.nil_append] at hb hB
  have hL : L.length ≤ 100000 := by omega
  have em : m_book_of (fs.map Fm.nt) = some (L.map Rk.of, ks) := by
    unfold m_book_of booksR
    rw [hb]
    rfl
  have en : neNLO (fs.map Fm.nt) (fs.map Fm.nt) = some false := by
    have := deps_le hd
    unfold neNLO
    rw [if_pos ⟨by omega, by omega⟩, decide_eq_true rfl]
    rfl
  have elen : decide ((ks.length : Int) = ((fs.map Fm.nt).length : Int)) = true := decide_eq_true (by rw [List.length_map, hk])
  have eloop := bloop hL fs 0 ks (Nat.zero_le _) (by rw [List.take_zero]; exact hb)
  rw [em]
  simp only [bindS]
  rw [kind_ok hB]
  simp only [bindS, Bool.not_true, cond_false]
  rw [en]
  simp only [bindS, cond_false]
  rw [elen]
  simp only [Bool.not_true, cond_false]
  rw [show ([(0 : Int)]) = [((0 : Nat) : Int)] from rfl, eloop]
  simp only [bindS]
  have e0 : atI [(L.length : Int)] (0 : Int) = some (L.length : Int) := rfl
  rw [e0]
  simp only [bindS]
  rw [List.length_map, decide_eq_true rfl]
  simp only [Bool.not_true, cond_false, decide_true, cond_true]
  refine ok_bind (OK.of (if_pos (by rw [List.length_map]; omega)) (ok_bind (ok_push (by omega) (ok_bind (ok_push (by rw [List.length_map]; omega) ?_)))))
  have c1 : ∀ {α : Type} (l : List α), cutA l none (some (1 : Int)) = l.take 1 := fun l => cut_hi l 1
  rw [c1, c1]
  have e1 : ∃ X, m_book_of ((fs.map Fm.nt).take 1) = some (X, ks.take 1) := by
    cases fs with
    | nil =>
      obtain ⟨_, e⟩ := Prod.mk.inj (Option.some.inj (show some (([] : List (Tp SI)), ([] : List Int)) = some (L, ks) from hb))
      exact ⟨[], by rw [← e]; rfl⟩
    | cons f fs =>
      obtain ⟨z, e1, h⟩ := Option.bind_eq_some_iff.mp (show ((layO m_parts_of 95 [] f.nt).bind fun z => (booksO (layO m_parts_of 95) (fs.map Fm.nt) z.1).bind fun y => some (y.1, z.2 :: y.2)) = some (L, ks) from hb)
      obtain ⟨y, e2, h⟩ := Option.bind_eq_some_iff.mp h
      obtain ⟨e3, e4⟩ := Prod.mk.inj (Option.some.inj h)
      refine ⟨z.1.map Rk.of, ?_⟩
      rw [← e4]
      show ((((layO m_parts_of 95 [] f.nt).bind fun z => (booksO (layO m_parts_of 95) [] z.1).bind fun y => some (y.1, z.2 :: y.2))).bind fun r => some (r.1.map Rk.of, r.2)) = _
      rw [e1]
      rfl
  obtain ⟨X, e1⟩ := e1
  rw [e1]
  exact ok_some (decide_eq_true rfl)
end My
set_option Elab.async false
set_option linter.all false
set_option maxRecDepth 100000
set_option maxHeartbeats 4000000
namespace My
open PySem PySem.Spec PyProof.Rows L2
theorem law_imp {K : PySem.W.Frag} {vs : List V} {H : Hp} {Q : VK} {E : XK} (h : sp_law K vs H Q E) : spM K mm_law vs H Q E := by
  obtain ⟨a, ns, rfl, hS, hl, q⟩ := h
  exact ⟨H, (⟨ns⟩, ()), true, Same.refl H, ⟨.ref a, [], rfl, ⟨a, rfl, hS⟩, rfl⟩, law_true ns hl, fun v G2 H2 x r => by cases r; exact q H2⟩
theorem _root_.L2.Fun.bn1 {K : PySem.W.Frag} {x qual : Str} {st : Stmt} {f : Addr} {fd : FuncData} {p0 : Str} (F : Fun K x qual st f fd) (h : ∀ (kV doc pm : Value) (an : Option Addr) (cdv ct : Value) (a0 : Value), bindArgs (PySem.W.fnOf x qual (defArgs st) (defBody st) (defScope st) .none kV doc pm an cdv ct) ⟨[a0], []⟩ = pure (List.zip [p0] [a0])) : Binds K fd [p0] [] := F.binds fun kV doc pm an cdv ct us hl => match us, hl with | [a0], _ => h kV doc pm an cdv ct a0
theorem _root_.L2.Fun.bn2 {K : PySem.W.Frag} {x qual : Str} {st : Stmt} {f : Addr} {fd : FuncData} {p0 p1 : Str} (F : Fun K x qual st f fd) (h : ∀ (kV doc pm : Value) (an : Option Addr) (cdv ct : Value) (a0 a1 : Value), bindArgs (PySem.W.fnOf x qual (defArgs st) (defBody st) (defScope st) .none kV doc pm an cdv ct) ⟨[a0, a1], []⟩ = pure (List.zip [p0, p1] [a0, a1])) : Binds K fd [p0, p1] [] := F.binds fun kV doc pm an cdv ct us hl => match us, hl with | [a0, a1], _ => h kV doc pm an cdv ct a0 a1
theorem _root_.L2.Fun.bn3 {K : PySem.W.Frag} {x qual : Str} {st : Stmt} {f : Addr} {fd : FuncData} {p0 p1 p2 : Str} (F : Fun K x qual st f fd) (h : ∀ (kV doc pm : Value) (an : Option Addr) (cdv ct : Value) (a0 a1 a2 : Value), bindArgs (PySem.W.fnOf x qual (defArgs st) (defBody st) (defScope st) .none kV doc pm an cdv ct) ⟨[a0, a1, a2], []⟩ = pure (List.zip [p0, p1, p2] [a0, a1, a2])) : Binds K fd [p0, p1, p2] [] := F.binds fun kV doc pm an cdv ct us hl => match us, hl with | [a0, a1, a2], _ => h kV doc pm an cdv ct a0 a1 a2
theorem _root_.L2.Fun.bn4 {K : PySem.W.Frag} {x qual : Str} {st : Stmt} {f : Addr} {fd : FuncData} {p0 p1 p2 p3 : Str} (F : Fun K x qual st f fd) (h : ∀ (kV doc pm : Value) (an : Option Addr) (cdv ct : Value) (a0 a1 a2 a3 : Value), bindArgs (PySem.W.fnOf x qual (defArgs st) (defBody st) (defScope st) .none kV doc pm an cdv ct) ⟨[a0, a1, a2, a3], []⟩ = pure (List.zip [p0, p1, p2, p3] [a0, a1, a2, a3])) : Binds K fd [p0, p1, p2, p3] [] := F.binds fun kV doc pm an cdv ct us hl => match us, hl with | [a0, a1, a2, a3], _ => h kV doc pm an cdv ct a0 a1 a2 a3
set_option maxHeartbeats 1000000 in
theorem all_mk {l : PySem.W.OpenLaw} {w : World} {K : PySem.W.Frag} {h : Heap} {mg : Str → Option Value} {fa : Addr} (X : K.In h) (G : h.Ns mainGlobals mg) (hfa : mg "law" = some (.ref fa))
    {f0 f1 f2 f3 f4 f5 f6 f7 f8 f9 f10 f11 f12 f13 f14 f15 f16 : Addr} {od0 an0 od1 an1 od2 an2 od3 an3 od4 an4 od5 an5 od6 an6 od7 an7 od8 an8 od9 an9 od10 an10 od11 an11 od12 an12 od13 an13 od14 an14 od15 an15 od16 an16 : Option Addr} {sl0 sl1 sl2 sl3 sl4 sl5 sl6 sl7 sl8 sl9 sl10 sl11 sl12 sl13 sl14 sl15 sl16 : Array (Option Value)} {oc0 kV0 dc0 pm0 cd0 ct0 oc1 kV1 dc1 pm1 cd1 ct1 oc2 kV2 dc2 pm2 cd2 ct2 oc3 kV3 dc3 pm3 cd3 ct3 oc4 kV4 dc4 pm4 cd4 ct4 oc5 kV5 dc5 pm5 cd5 ct5 oc6 kV6 dc6 pm6 cd6 ct6 oc7 kV7 dc7 pm7 cd7 ct7 oc8 kV8 dc8 pm8 cd8 ct8 oc9 kV9 dc9 pm9 cd9 ct9 oc10 kV10 dc10 pm10 cd10 ct10 oc11 kV11 dc11 pm11 cd11 ct11 oc12 kV12 dc12 pm12 cd12 ct12 oc13 kV13 dc13 pm13 cd13 ct13 oc14 kV14 dc14 pm14 cd14 ct14 oc15 kV15 dc15 pm15 cd15 ct15 oc16 kV16 dc16 pm16 cd16 ct16 : Value}
    (a0 : PySem.W.nsIn K mainGlobals "parts_of" = some (some (.ref f0))) (l0 : K.lookup f0 = some ⟨oc0, od0, .func (PySem.W.fnOf "parts_of" "parts_of" (defArgs s_parts_of) (defBody s_parts_of) (defScope s_parts_of) .none kV0 dc0 pm0 an0 cd0 ct0), sl0⟩) (c0 : PySem.W.codeIn K cd0 "parts_of" = true) (k0 : PySem.W.keepIn K (.ref f0) = true)
    (a1 : PySem.W.nsIn K mainGlobals "row_number" = some (some (.ref f1))) (l1 : K.lookup f1 = some ⟨oc1, od1, .func (PySem.W.fnOf "row_number" "row_number" (defArgs s_row_number) (defBody s_row_number) (defScope s_row_number) .none kV1 dc1 pm1 an1 cd1 ct1), sl1⟩) (c1 : PySem.W.codeIn K cd1 "row_number" = true) (k1 : PySem.W.keepIn K (.ref f1) = true)
    (a2 : PySem.W.nsIn K mainGlobals "lay" = some (some (.ref f2))) (l2 : K.lookup f2 = some ⟨oc2, od2, .func (PySem.W.fnOf "lay" "lay" (defArgs s_lay) (defBody s_lay) (defScope s_lay) .none kV2 dc2 pm2 an2 cd2 ct2), sl2⟩) (c2 : PySem.W.codeIn K cd2 "lay" = true) (k2 : PySem.W.keepIn K (.ref f2) = true)
    (a3 : PySem.W.nsIn K mainGlobals "book_of" = some (some (.ref f3))) (l3 : K.lookup f3 = some ⟨oc3, od3, .func (PySem.W.fnOf "book_of" "book_of" (defArgs s_book_of) (defBody s_book_of) (defScope s_book_of) .none kV3 dc3 pm3 an3 cd3 ct3), sl3⟩) (c3 : PySem.W.codeIn K cd3 "book_of" = true) (k3 : PySem.W.keepIn K (.ref f3) = true)
    (a4 : PySem.W.nsIn K mainGlobals "_law_cell_at" = some (some (.ref f4))) (l4 : K.lookup f4 = some ⟨oc4, od4, .func (PySem.W.fnOf "_law_cell_at" "_law_cell_at" (defArgs s_law_cell_at) (defBody s_law_cell_at) (defScope s_law_cell_at) .none kV4 dc4 pm4 an4 cd4 ct4), sl4⟩) (c4 : PySem.W.codeIn K cd4 "_law_cell_at" = true) (k4 : PySem.W.keepIn K (.ref f4) = true)
    (a5 : PySem.W.nsIn K mainGlobals "_law_stream" = some (some (.ref f5))) (l5 : K.lookup f5 = some ⟨oc5, od5, .func (PySem.W.fnOf "_law_stream" "_law_stream" (defArgs s_law_stream) (defBody s_law_stream) (defScope s_law_stream) .none kV5 dc5 pm5 an5 cd5 ct5), sl5⟩) (c5 : PySem.W.codeIn K cd5 "_law_stream" = true) (k5 : PySem.W.keepIn K (.ref f5) = true)
    (a6 : PySem.W.nsIn K mainGlobals "_law_leaf" = some (some (.ref f6))) (l6 : K.lookup f6 = some ⟨oc6, od6, .func (PySem.W.fnOf "_law_leaf" "_law_leaf" (defArgs s_law_leaf) (defBody s_law_leaf) (defScope s_law_leaf) .none kV6 dc6 pm6 an6 cd6 ct6), sl6⟩) (c6 : PySem.W.codeIn K cd6 "_law_leaf" = true) (k6 : PySem.W.keepIn K (.ref f6) = true)
    (a7 : PySem.W.nsIn K mainGlobals "_law_put" = some (some (.ref f7))) (l7 : K.lookup f7 = some ⟨oc7, od7, .func (PySem.W.fnOf "_law_put" "_law_put" (defArgs s_law_put) (defBody s_law_put) (defScope s_law_put) .none kV7 dc7 pm7 an7 cd7 ct7), sl7⟩) (c7 : PySem.W.codeIn K cd7 "_law_put" = true) (k7 : PySem.W.keepIn K (.ref f7) = true)
    (a8 : PySem.W.nsIn K mainGlobals "_law_built" = some (some (.ref f8))) (l8 : K.lookup f8 = some ⟨oc8, od8, .func (PySem.W.fnOf "_law_built" "_law_built" (defArgs s_law_built) (defBody s_law_built) (defScope s_law_built) .none kV8 dc8 pm8 an8 cd8 ct8), sl8⟩) (c8 : PySem.W.codeIn K cd8 "_law_built" = true) (k8 : PySem.W.keepIn K (.ref f8) = true)
    (a9 : PySem.W.nsIn K mainGlobals "_law_cells" = some (some (.ref f9))) (l9 : K.lookup f9 = some ⟨oc9, od9, .func (PySem.W.fnOf "_law_cells" "_law_cells" (defArgs s_law_cells) (defBody s_law_cells) (defScope s_law_cells) .none kV9 dc9 pm9 an9 cd9 ct9), sl9⟩) (c9 : PySem.W.codeIn K cd9 "_law_cells" = true) (k9 : PySem.W.keepIn K (.ref f9) = true)
    (a10 : PySem.W.nsIn K mainGlobals "_law_some" = some (some (.ref f10))) (l10 : K.lookup f10 = some ⟨oc10, od10, .func (PySem.W.fnOf "_law_some" "_law_some" (defArgs s_law_some) (defBody s_law_some) (defScope s_law_some) .none kV10 dc10 pm10 an10 cd10 ct10), sl10⟩) (c10 : PySem.W.codeIn K cd10 "_law_some" = true) (k10 : PySem.W.keepIn K (.ref f10) = true)
    (a11 : PySem.W.nsIn K mainGlobals "_law_number_of" = some (some (.ref f11))) (l11 : K.lookup f11 = some ⟨oc11, od11, .func (PySem.W.fnOf "_law_number_of" "_law_number_of" (defArgs s_law_number_of) (defBody s_law_number_of) (defScope s_law_number_of) .none kV11 dc11 pm11 an11 cd11 ct11), sl11⟩) (c11 : PySem.W.codeIn K cd11 "_law_number_of" = true) (k11 : PySem.W.keepIn K (.ref f11) = true)
    (a12 : PySem.W.nsIn K mainGlobals "_law_gone" = some (some (.ref f12))) (l12 : K.lookup f12 = some ⟨oc12, od12, .func (PySem.W.fnOf "_law_gone" "_law_gone" (defArgs s_law_gone) (defBody s_law_gone) (defScope s_law_gone) .none kV12 dc12 pm12 an12 cd12 ct12), sl12⟩) (c12 : PySem.W.codeIn K cd12 "_law_gone" = true) (k12 : PySem.W.keepIn K (.ref f12) = true)
    (a13 : PySem.W.nsIn K mainGlobals "_law_whole" = some (some (.ref f13))) (l13 : K.lookup f13 = some ⟨oc13, od13, .func (PySem.W.fnOf "_law_whole" "_law_whole" (defArgs s_law_whole) (defBody s_law_whole) (defScope s_law_whole) .none kV13 dc13 pm13 an13 cd13 ct13), sl13⟩) (c13 : PySem.W.codeIn K cd13 "_law_whole" = true) (k13 : PySem.W.keepIn K (.ref f13) = true)
    (a14 : PySem.W.nsIn K mainGlobals "_law_row_kind" = some (some (.ref f14))) (l14 : K.lookup f14 = some ⟨oc14, od14, .func (PySem.W.fnOf "_law_row_kind" "_law_row_kind" (defArgs s_law_row_kind) (defBody s_law_row_kind) (defScope s_law_row_kind) .none kV14 dc14 pm14 an14 cd14 ct14), sl14⟩) (c14 : PySem.W.codeIn K cd14 "_law_row_kind" = true) (k14 : PySem.W.keepIn K (.ref f14) = true)
    (a15 : PySem.W.nsIn K mainGlobals "_law_book_kind" = some (some (.ref f15))) (l15 : K.lookup f15 = some ⟨oc15, od15, .func (PySem.W.fnOf "_law_book_kind" "_law_book_kind" (defArgs s_law_book_kind) (defBody s_law_book_kind) (defScope s_law_book_kind) .none kV15 dc15 pm15 an15 cd15 ct15), sl15⟩) (c15 : PySem.W.codeIn K cd15 "_law_book_kind" = true) (k15 : PySem.W.keepIn K (.ref f15) = true)
    (a16 : PySem.W.nsIn K mainGlobals "law" = some (some (.ref f16))) (l16 : K.lookup f16 = some ⟨oc16, od16, .func (PySem.W.fnOf "law" "law" (defArgs s_law) (defBody s_law) (defScope s_law) .none kV16 dc16 pm16 an16 cd16 ct16), sl16⟩) (c16 : PySem.W.codeIn K cd16 "law" = true) (k16 : PySem.W.keepIn K (.ref f16) = true)
    (z0 : PySem.W.nsIn K mainGlobals "bool" = some none)
    (z1 : PySem.W.nsIn K mainGlobals "int" = some none)
    (z2 : PySem.W.nsIn K mainGlobals "isinstance" = some none)
    (z3 : PySem.W.nsIn K mainGlobals "len" = some none)
    (z4 : PySem.W.nsIn K mainGlobals "list" = some none)
    (z5 : PySem.W.nsIn K mainGlobals "max" = some none)
    (z6 : PySem.W.nsIn K mainGlobals "range" = some none)
    (z7 : PySem.W.nsIn K mainGlobals "str" = some none)
    (z8 : PySem.W.nsIn K mainGlobals "tuple" = some none)
    (z9 : PySem.W.nsIn K mainGlobals "zip" = some none) :
    ∃ fd : FuncData, (∀ (s : Shared) (v : Value), BindsTo s fd ⟨[v], []⟩ [("_law_script", v)]) ∧ ∀ base : Heap, K.In base → base.Ns mainGlobals mg → FnOk l.prog w K mg base CX0 99 fa fd ["_law_script"] (sp_law K) := by
  have e := hfa.symm.trans (PySem.W.mg_of X G a16)
  cases e
  have T : Txt mg := ⟨PySem.W.mg_none_of X G z0, PySem.W.mg_none_of X G z1, PySem.W.mg_none_of X G z2, PySem.W.mg_none_of X G z3, PySem.W.mg_none_of X G z4, PySem.W.mg_none_of X G z5, PySem.W.mg_none_of X G z6, PySem.W.mg_none_of X G z7, PySem.W.mg_none_of X G z8, PySem.W.mg_none_of X G z9⟩
  have F0 := fun_mk (st := s_parts_of) l0 c0 k0
  have b0 := F0.bn1 (p0 := "sentence") fun _ _ _ _ _ _ _ => rfl
  have F1 := fun_mk (st := s_row_number) l1 c1 k1
  have b1 := F1.bn3 (p0 := "rows") (p1 := "numbers") (p2 := "row") fun _ _ _ _ _ _ _ _ _ => rfl
  have F2 := fun_mk (st := s_lay) l2 c2 k2
  have b2 := F2.bn3 (p0 := "rows") (p1 := "numbers") (p2 := "sentence") fun _ _ _ _ _ _ _ _ _ => rfl
  have F3 := fun_mk (st := s_book_of) l3 c3 k3
  have b3 := F3.bn1 (p0 := "some") fun _ _ _ _ _ _ _ => rfl
  have F4 := fun_mk (st := s_law_cell_at) l4 c4 k4
  have b4 := F4.bn2 (p0 := "_law_script") (p1 := "_law_k") fun _ _ _ _ _ _ _ _ => rfl
  have F5 := fun_mk (st := s_law_stream) l5 c5 k5
  have b5 := F5.bn2 (p0 := "_law_cell") (p1 := "_law_many") fun _ _ _ _ _ _ _ _ => rfl
  have F6 := fun_mk (st := s_law_leaf) l6 c6 k6
  have b6 := F6.bn1 (p0 := "_law_number") fun _ _ _ _ _ _ _ => rfl
  have F7 := fun_mk (st := s_law_put) l7 c7 k7
  have b7 := F7.bn4 (p0 := "_law_stack") (p1 := "_law_spent") (p2 := "_law_cell") (p3 := "_law_room") fun _ _ _ _ _ _ _ _ _ _ => rfl
  have F8 := fun_mk (st := s_law_built) l8 c8 k8
  have b8 := F8.bn2 (p0 := "_law_cells_here") (p1 := "_law_room") fun _ _ _ _ _ _ _ _ => rfl
  have F9 := fun_mk (st := s_law_cells) l9 c9 k9
  have b9 := F9.bn2 (p0 := "_law_script") (p1 := "_law_start") fun _ _ _ _ _ _ _ _ => rfl
  have F10 := fun_mk (st := s_law_some) l10 c10 k10
  have b10 := F10.bn1 (p0 := "_law_script") fun _ _ _ _ _ _ _ => rfl
  have F11 := fun_mk (st := s_law_number_of) l11 c11 k11
  have b11 := F11.bn3 (p0 := "_law_row") (p1 := "_law_rows") (p2 := "_law_many") fun _ _ _ _ _ _ _ _ _ => rfl
  have F12 := fun_mk (st := s_law_gone) l12 c12 k12
  have b12 := F12.bn3 (p0 := "_law_told") (p1 := "_law_rows") (p2 := "_law_many") fun _ _ _ _ _ _ _ _ _ => rfl
  have F13 := fun_mk (st := s_law_whole) l13 c13 k13
  have b13 := F13.bn1 (p0 := "_law_thing") fun _ _ _ _ _ _ _ => rfl
  have F14 := fun_mk (st := s_law_row_kind) l14 c14 k14
  have b14 := F14.bn1 (p0 := "_law_row") fun _ _ _ _ _ _ _ => rfl
  have F15 := fun_mk (st := s_law_book_kind) l15 c15 k15
  have b15 := F15.bn1 (p0 := "_law_book") fun _ _ _ _ _ _ _ => rfl
  have F16 := fun_mk (st := s_law) l16 c16 k16
  refine ⟨PySem.W.fnOf "law" "law" (defArgs s_law) (defBody s_law) (defScope s_law) .none kV16 dc16 pm16 an16 cd16 ct16, fun s v => .of_eq rfl, fun base _ _ => ?_⟩
  have D_law_cell_at : DefOk l.prog w K mg base "_law_cell_at" 1 ["_law_script", "_law_k"] (spM K mm_law_cell_at) := def_of F4 (PySem.W.mg_of X G a4) b4 (ok_law_cell_at F4 T)
  have D_law_leaf : DefOk l.prog w K mg base "_law_leaf" 1 ["_law_number"] (spM K mm_law_leaf) := def_of F6 (PySem.W.mg_of X G a6) b6 (ok_law_leaf F6 T)
  have D_law_put : DefOk l.prog w K mg base "_law_put" 2 ["_law_stack", "_law_spent", "_law_cell", "_law_room"] (spW2 K mm_law_put) := def_of F7 (PySem.W.mg_of X G a7) b7 (ok_law_put F7 T D_law_leaf)
  have D_law_built : DefOk l.prog w K mg base "_law_built" 3 ["_law_cells_here", "_law_room"] (spM K mm_law_built) := def_of F8 (PySem.W.mg_of X G a8) b8 (ok_law_built F8 T D_law_put)
  have D_law_stream : DefOk l.prog w K mg base "_law_stream" 1 ["_law_cell", "_law_many"] (spM K mm_law_stream) := def_of F5 (PySem.W.mg_of X G a5) b5 (ok_law_stream F5 T)
  have D_law_cells : DefOk l.prog w K mg base "_law_cells" 2 ["_law_script", "_law_start"] (spM K mm_law_cells) := def_of F9 (PySem.W.mg_of X G a9) b9 (ok_law_cells F9 T D_law_cell_at D_law_stream)
  have D_law_some : DefOk l.prog w K mg base "_law_some" 4 ["_law_script"] (spM K mm_law_some) := def_of F10 (PySem.W.mg_of X G a10) b10 (ok_law_some F10 T D_law_cell_at D_law_built D_law_stream D_law_cells)
  have D_parts_of : DefOk l.prog w K mg base "parts_of" 1 ["sentence"] (spM K mm_parts_of) := def_of F0 (PySem.W.mg_of X G a0) b0 (ok_parts_of F0 T)
  have D_row_number : DefOk l.prog w K mg base "row_number" 1 ["rows", "numbers", "row"] (spB K rownO) := def_of F1 (PySem.W.mg_of X G a1) b1 (ok_row_number F1 T)
  have D_lay : ∀ n : Nat, DefOk l.prog w K mg base "lay" (2 + n) ["rows", "numbers", "sentence"] (spB K (layO m_parts_of n)) := fun n => by
    induction n with
    | zero => exact def_of F2 (PySem.W.mg_of X G a2) b2 (ok0_lay F2)
    | succ n ih => exact def_of F2 (PySem.W.mg_of X G a2) b2 (ok_lay F2 T D_parts_of D_row_number n ih)
  have D_lay : DefOk l.prog w K mg base "lay" 97 ["rows", "numbers", "sentence"] (spB K (layO m_parts_of 95)) := D_lay 95
  have D_book_of : DefOk l.prog w K mg base "book_of" 98 ["some"] (spN K mm_book_of) := def_of F3 (PySem.W.mg_of X G a3) b3 (ok_book_of F3 T D_lay)
  have D_law_whole : DefOk l.prog w K mg base "_law_whole" 1 ["_law_thing"] (spM K mm_law_whole) := def_of F13 (PySem.W.mg_of X G a13) b13 (ok_law_whole F13 T)
  have D_law_row_kind : DefOk l.prog w K mg base "_law_row_kind" 2 ["_law_row"] (spM K mm_law_row_kind) := def_of F14 (PySem.W.mg_of X G a14) b14 (ok_law_row_kind F14 T D_law_whole)
  have D_law_book_kind : DefOk l.prog w K mg base "_law_book_kind" 3 ["_law_book"] (spM K mm_law_book_kind) := def_of F15 (PySem.W.mg_of X G a15) b15 (ok_law_book_kind F15 T D_law_row_kind D_law_whole)
  have D_law_number_of : DefOk l.prog w K mg base "_law_number_of" 1 ["_law_row", "_law_rows", "_law_many"] (spM K mm_law_number_of) := def_of F11 (PySem.W.mg_of X G a11) b11 (ok_law_number_of F11 T)
  have D_law_gone : ∀ n : Nat, DefOk l.prog w K mg base "_law_gone" (2 + n) ["_law_told", "_law_rows", "_law_many"] (spYL K (mm_law_gone n)) := fun n => by
    induction n with
    | zero => exact def_of F12 (PySem.W.mg_of X G a12) b12 (ok0_law_gone F12)
    | succ n ih => exact def_of F12 (PySem.W.mg_of X G a12) b12 (ok_law_gone F12 T D_law_number_of n ih)
  have D_law_gone : DefOk l.prog w K mg base "_law_gone" 97 ["_law_told", "_law_rows", "_law_many"] (spYL K (mm_law_gone 95)) := D_law_gone 95
  exact (ok_law F16 T D_law_some D_book_of D_law_book_kind D_law_gone).imp fun _ _ _ _ h => law_imp h
theorem walk {l : PySem.W.OpenLaw} {q : Program} {loose : List Str} {XP : (Str → Option Value) → Heap → Prop} {YP : World → Heap → Prop} {d : DefRec} {K : Params → PySem.W.Frag} (hn : l.most = some 63) (hdf : d.params.defaults = [])
    (hY : ∀ (w : World) (h : Heap), YP w h → (K w.params).In h)
    (F : ∀ (w : World) (mg : Str → Option Value) (fa : Addr) (h : Heap), (K w.params).In h → h.Ns mainGlobals mg → mg d.name = some (.ref fa) →
      ∃ fd : FuncData, (∀ (s : Shared) (u : Value), BindsTo s fd ⟨[u], []⟩ [("_law_script", u)]) ∧ ∀ base : Heap, (K w.params).In base → base.Ns mainGlobals mg → FnOk l.prog w (K w.params) mg base CX0 99 fa fd ["_law_script"] (sp_law (K w.params))) :
    PySem.W.WalkO q loose XP YP l.row.toRowW d [] (fun f vs => PySem.call f vs) :=
  L2.walk_of (n := 63) (k := 99) (x := "_law_script") (CX := fun _ => CX0) (sp := fun w => sp_law (K w.params)) hn (by decide) hdf ⟨rfl, by decide, by decide⟩ hY F (fun _ _ a ns hl _ hS => ⟨a, ns, rfl, hS, hl, fun _ => rfl⟩) fun _ _ _ _ _ z => z
end My
open PySem PySem.W PyProof.Rows
theorem PySem.W.Fast.te4096165806723932161 : True := trivial
set_option maxRecDepth 100000 in
set_option maxHeartbeats 0 in
theorem PySem.Challenge.cw_lassoscribe_k16_books_laid_holds : PySem.Challenge.rw_lassoscribe_k16_books_laid.Holds := by
  w_on; o_law; k_head; (case hw => w_witness2)
  k_fill
  refine My.walk (l := PySem.Challenge.rw_lassoscribe_k16_books_laid) rfl rfl (fun w h Y => PySem.W.kIn_of Y) ?F
  case F =>
    intro w mg fa h KX G hmg
    refine' My.all_mk KX G hmg ?a0 ?l0 ?c0 ?k0 ?a1 ?l1 ?c1 ?k1 ?a2 ?l2 ?c2 ?k2 ?a3 ?l3 ?c3 ?k3 ?a4 ?l4 ?c4 ?k4 ?a5 ?l5 ?c5 ?k5 ?a6 ?l6 ?c6 ?k6 ?a7 ?l7 ?c7 ?k7 ?a8 ?l8 ?c8 ?k8 ?a9 ?l9 ?c9 ?k9 ?a10 ?l10 ?c10 ?k10 ?a11 ?l11 ?c11 ?k11 ?a12 ?l12 ?c12 ?k12 ?a13 ?l13 ?c13 ?k13 ?a14 ?l14 ?c14 ?k14 ?a15 ?l15 ?c15 ?k15 ?a16 ?l16 ?c16 ?k16 ?z0 ?z1 ?z2 ?z3 ?z4 ?z5 ?z6 ?z7 ?z8 ?z9
    (case a0 => k_is)
    (case l0 => k_is)
    (case c0 => k_is)
    (case k0 => k_is)
    (case a1 => k_is)
    (case l1 => k_is)
    (case c1 => k_is)
    (case k1 => k_is)
    (case a2 => k_is)
    (case l2 => k_is)
    (case c2 => k_is)
    (case k2 => k_is)
    (case a3 => k_is)
    (case l3 => k_is)
    (case c3 => k_is)
    (case k3 => k_is)
    (case a4 => k_is)
    (case l4 => k_is)
    (case c4 => k_is)
    (case k4 => k_is)
    (case a5 => k_is)
    (case l5 => k_is)
    (case c5 => k_is)
    (case k5 => k_is)
    (case a6 => k_is)
    (case l6 => k_is)
    (case c6 => k_is)
    (case k6 => k_is)
    (case a7 => k_is)
    (case l7 => k_is)
    (case c7 => k_is)
    (case k7 => k_is)
    (case a8 => k_is)
    (case l8 => k_is)
    (case c8 => k_is)
    (case k8 => k_is)
    (case a9 => k_is)
    (case l9 => k_is)
    (case c9 => k_is)
    (case k9 => k_is)
    (case a10 => k_is)
    (case l10 => k_is)
    (case c10 => k_is)
    (case k10 => k_is)
    (case a11 => k_is)
    (case l11 => k_is)
    (case c11 => k_is)
    (case k11 => k_is)
    (case a12 => k_is)
    (case l12 => k_is)
    (case c12 => k_is)
    (case k12 => k_is)
    (case a13 => k_is)
    (case l13 => k_is)
    (case c13 => k_is)
    (case k13 => k_is)
    (case a14 => k_is)
    (case l14 => k_is)
    (case c14 => k_is)
    (case k14 => k_is)
    (case a15 => k_is)
    (case l15 => k_is)
    (case c15 => k_is)
    (case k15 => k_is)
    (case a16 => k_is)
    (case l16 => k_is)
    (case c16 => k_is)
    (case k16 => k_is)
    (case z0 => k_is)
    (case z1 => k_is)
    (case z2 => k_is)
    (case z3 => k_is)
    (case z4 => k_is)
    (case z5 => k_is)
    (case z6 => k_is)
    (case z7 => k_is)
    (case z8 => k_is)
    (case z9 => k_is)
