import PyProof.Rows.All
import Wide.All
import OpenK.AllK
import Wide.FinOn
import Lean
import PyProof.EqAt
import PyProof.EqKinds
import PyProof.TupleCall
import PyProof.NeKinds
import PyProof.EnumFor
import PyProof.EnumMake
import PyProof.Rows.EnumRows
import PyProof.Rows.Range3
import PyProof.NoPylong
import PyProof.ListRange
import PyProof.TupleOfSeq
import PyProof.TupleOfStr
import PyProof.Draws
import PyProof.ZipIter
import PyProof.Rows.ZipGen
import PyProof.Rows.SortStr
import PyProof.Rows.TupAdd
import PyProof.SetRoads
import PyProof.Rows.SetFrom
import PyProof.StrWalks
import PyProof.CollectWalk
import KE.KDictList
import PyProof.Tail
import PyProof.TupleIter
import PyProof.AttrMiss
import KE.KDictOf
import OpenK.KTop
import PyProof.Rows.SortRev
import PyProof.Rows.CallKwBuiltin
import PyProof.Rows.CallKw2
import KE.KRevIter
import PyProof.SumWalkG
import PySem.Challenge.RW_lassoscribe_k18_waits_and_hopes
theorem bE {α β : Type} {o : Option α} {f : α → Option β} {b : β} {C : Prop} (h : o.bind f = some b) (k : ∀ a, o = some a → f a = some b → C) : C := by
  obtain ⟨a, h1, h2⟩ := Option.bind_eq_some_iff.mp h
  exact k a h1 h2
set_option Elab.async false
set_option linter.all false
set_option maxRecDepth 100000
namespace L2
open PySem PySem.Spec PyProof.Rows
noncomputable abbrev Key := Sum Int Str
noncomputable def keyIs : Key → Value → Bool
  | .inl k, v => Value.isInt k v
  | .inr x, v => Value.isStrOf x v
noncomputable def keyH (w : World) : Key → Int
  | .inl k => hashInt k
  | .inr x => hashStr w x
theorem keyIs_shape : ∀ {k : Key} {v : Value}, keyIs k v = true → (∃ i t, k = Sum.inl i ∧ v = Value.int i t) ∨ (∃ x t, k = Sum.inr x ∧ v = Value.str x t)
  | .inl i, v, h => by
    obtain ⟨t, e⟩ := Value.isInt_shape (k := i) (v := v) h
    exact .inl ⟨i, t, rfl, e⟩
  | .inr x, v, h => by
    obtain ⟨t, e⟩ := Value.isStrOf_shape (x := x) (v := v) h
    exact .inr ⟨x, t, rfl, e⟩
theorem keyIs_int (i : Int) (t : Tok) : keyIs (.inl i) (.int i t) = true := by simp [keyIs, Value.isInt]
theorem keyIs_str (x : Str) (t : Tok) : keyIs (.inr x) (.str x t) = true := by simp [keyIs, Value.isStrOf]
theorem key_ll (a b : Int) : decide ((Sum.inl a : Key) = Sum.inl b) = (a == b) := by
  by_cases e : a = b
  · subst e; simp
  · have h : ¬ (Sum.inl a : Key) = Sum.inl b := fun q => e (Sum.inl.inj q)
    rw [decide_eq_false h]
    exact (beq_eq_false_iff_ne.mpr e).symm
theorem key_rr (a b : Str) : decide ((Sum.inr a : Key) = Sum.inr b) = decide (a = b) := by
  by_cases e : a = b
  · subst e; simp
  · have h : ¬ (Sum.inr a : Key) = Sum.inr b := fun q => e (Sum.inr.inj q)
    rw [decide_eq_false h, decide_eq_false e]
theorem key_lr (a : Int) (b : Str) : decide ((Sum.inl a : Key) = Sum.inr b) = false := decide_eq_false (fun q => nomatch q)
theorem key_rl (a : Str) (b : Int) : decide ((Sum.inr a : Key) = Sum.inl b) = false := decide_eq_false (fun q => nomatch q)
noncomputable def mixKind (prog : Program) (w : World) : PySem.KeyKind prog w Key where
  is := keyIs
  hash := keyH w
  inj := fun v a b ha hb => by
    rcases keyIs_shape ha with ⟨i, t, rfl, rfl⟩ | ⟨x, t, rfl, rfl⟩
    · rcases keyIs_shape hb with ⟨j, u, rfl, e⟩ | ⟨y, u, rfl, e⟩
      · injection e with e1 _; rw [e1]
      · exact nomatch e
    · rcases keyIs_shape hb with ⟨j, u, rfl, e⟩ | ⟨y, u, rfl, e⟩
      · exact nomatch e
      · injection e with e1 _; rw [e1]
  byValue := fun k v h => by
    rcases keyIs_shape h with ⟨i, t, rfl, rfl⟩ | ⟨x, t, rfl, rfl⟩ <;> rfl
  pyHash := fun hv h => by
    rcases keyIs_shape hv with ⟨i, t, rfl, rfl⟩ | ⟨x, t, rfl, rfl⟩
    · exact wpAny_pyHash_int h
    · exact wpAny_pyHash_str h
  eqBool := fun hu hv h => by
    rcases keyIs_shape hu with ⟨i, t, rfl, rfl⟩ | ⟨x, t, rfl, rfl⟩
    · rcases keyIs_shape hv with ⟨j, u, rfl, rfl⟩ | ⟨y, u, rfl, rfl⟩
      · rw [key_ll] at h; exact wpAny_eqBool_int h
      · rw [key_lr] at h; exact SeqAt.EqAt.int_str i t y u _ _ _ _ h
    · rcases keyIs_shape hv with ⟨j, u, rfl, rfl⟩ | ⟨y, u, rfl, rfl⟩
      · rw [key_rl] at h; exact SeqAt.EqAt.str_int x t j u _ _ _ _ h
      · rw [key_rr] at h; exact wpAny_eqBool_str h
  «strs» := fun k x t v h => by
    rcases keyIs_shape h with ⟨i, u, rfl, e⟩ | ⟨y, u, rfl, e⟩
    · exact nomatch e
    · injection e with e1 _
      subst e1
      cases v <;> rfl
theorem mixKind_int (prog : Program) (w : World) (i : Int) (t : Tok) : (mixKind prog w).is (.inl i) (.int i t) = true := keyIs_int i t
theorem mixKind_str (prog : Program) (w : World) (x : Str) (t : Tok) : (mixKind prog w).is (.inr x) (.str x t) = true := keyIs_str x t
end L2
namespace L2
open PySem PySem.Spec PyProof.Rows
inductive V where
  | non | bl (b : Bool) | int (i : Int) | str (x : Str) | byt (b : Array UInt8) | flt (b : UInt64) | ref (a : Addr) | ty (n : String)
  deriving DecidableEq
noncomputable def RelV : V → Value → Prop
  | .non, u => u = Value.none
  | .bl b, u => u = Value.bool b
  | .int i, u => ∃ t, u = Value.int i t
  | .str x, u => ∃ t, u = Value.str x t
  | .byt b, u => ∃ t, u = Value.bytes b t
  | .flt b, u => ∃ t, u = Value.float b t
  | .ref a, u => u = Value.ref a
  | .ty n, u => u = Value.type n
noncomputable abbrev Vals : List V → List Value → Prop := Paired RelV
theorem Vals.length {xs : List V} {us : List Value} (r : Vals xs us) : xs.length = us.length := Paired.length r
theorem Vals.get : ∀ {xs : List V} {us : List Value} {i : Nat} {x : V}, Vals xs us → xs[i]? = some x → ∃ u, us[i]? = some u ∧ RelV x u
  | _, _, _, _, .nil, e => by simp at e
  | _, _, 0, _, .cons r _, e => by simp at e; subst e; exact ⟨_, rfl, r⟩
  | _, _, i + 1, x, .cons _ t, e => by
    obtain ⟨u, h1, h2⟩ := Vals.get (i := i) (x := x) t (by simpa using e)
    exact ⟨u, by simpa using h1, h2⟩
theorem Vals.set {x : V} {u : Value} (r : RelV x u) : ∀ {xs : List V} {us : List Value} (i : Nat), Vals xs us → Vals (xs.set i x) (us.set i u)
  | _, _, _, .nil => .nil
  | _, _, 0, .cons _ t => .cons r t
  | _, _, i + 1, .cons q t => .cons q (Vals.set r i t)
theorem Vals.append : ∀ {xs ys : List V} {us ws : List Value}, Vals xs us → Vals ys ws → Vals (xs ++ ys) (us ++ ws)
  | _, _, _, _, .nil, s => s
  | _, _, _, _, .cons r t, s => .cons r (Vals.append t s)
theorem Vals.take : ∀ {xs : List V} {us : List Value} (n : Nat), Vals xs us → Vals (xs.take n) (us.take n)
  | _, _, 0, _ => .nil
  | _, _, _ + 1, .nil => .nil
  | _, _, n + 1, .cons r t => .cons r (Vals.take n t)
theorem Vals.drop : ∀ {xs : List V} {us : List Value} (n : Nat), Vals xs us → Vals (xs.drop n) (us.drop n)
  | _, _, 0, r => r
  | _, _, _ + 1, .nil => .nil
  | _, _, n + 1, .cons _ t => Vals.drop n t
noncomputable def RelO : Option V → Option Value → Prop
  | some v, some u => RelV v u
  | none, none => True
  | _, _ => False
noncomputable def KV {κ : Type} : List (κ × V) → List (κ × Value) → Prop := Paired fun (p : κ × V) (q : κ × Value) => p.1 = q.1 ∧ RelV p.2 q.2
noncomputable def kV : Key → V
  | .inl i => .int i
  | .inr x => .str x
inductive HO where
  | lst (xs : List V)
  | tup (xs : List V)
  | dK (kvs : List (Key × V)) | dT (kvs : List (List Key × V))
  | set (S : Int → Bool) (n : Nat)
  | ins (C dx : Addr) (fs : List (Str × V))
  | own (x : Addr)
  | xd (fs : List (Str × V))
  | met (f x : Addr)
  | rng (lo hi : Int)
  | frz (o : Obj) (u : HO)
  | tbl (ps : Array Value)
  | ext (φ : Heap → Prop)
noncomputable abbrev Hp := Addr → Option HO
noncomputable def upd (H : Hp) (a : Addr) (o : HO) : Hp := fun b => if b = a then some o else H b
theorem upd_same {H : Hp} {a : Addr} {o : HO} : upd H a o a = some o := by unfold upd; rw [if_pos rfl]
theorem upd_ne {H : Hp} {a b : Addr} {o : HO} (h : b ≠ a) : upd H a o b = H b := by unfold upd; rw [if_neg h]
theorem ne_of {H : Hp} {a b : Addr} {o u : HO} (h : H a = some o) (h' : H b = some u) (d : o ≠ u) : a ≠ b := by
  intro e; subst e; rw [h] at h'; exact d (Option.some.inj h')
theorem ne_of_none {H : Hp} {a b : Addr} {o : HO} (h : H a = some o) (h' : H b = none) : a ≠ b := by
  intro e; subst e; rw [h] at h'; cases h'
section
variable (P : Program) (w : World)
noncomputable def ObjOk (H : Hp) (h : Heap) (a : Addr) : HO → Prop
  | .lst xs => xs.length ≤ sizeLine ∧ ∃ (its : List Value) (n : Nat), Vals xs its ∧ h.get? a = some { cls := .type "list", data := .seq its.toArray n }
  | .tup xs => xs.length ≤ sizeLine ∧ ∃ its : List Value, Vals xs its ∧ IsTup h a its.toArray
  | .dK kvs => kvs.length ≤ sizeLine ∧ (a == sysModules) = false ∧ ∃ vs, KV kvs vs ∧ h.DictOf (mixKind P w) a vs
  | .dT kvs => kvs.length ≤ sizeLine ∧ (a == sysModules) = false ∧ ∃ xs : List (List Key × Addr × Value),
      Paired (fun (p : List Key × V) (q : List Key × Addr × Value) => p.1 = q.1 ∧ H q.2.1 = some (.tup (p.1.map kV)) ∧ RelV p.2 q.2.2) kvs xs ∧
      ∃ o es ep, h.get? a = some o ∧ o.ExactDict ∧ o.data = .dict es ep ∧ es.toList = xs.map (entryOfKey (tupleKind (mixKind P w))) ∧ (xs.map (·.1)).Nodup
  | .set S n => h.SetOf (intKind P w) a S n
  | .ins C dx fs => H dx = some (.own a) ∧ fs.length ≤ 1000 ∧ dx ≠ a ∧ h.get? a = some (PySem.W.instObj C dx) ∧
      ∃ mA, h.Ns1 dx mA ∧ (∀ f, RelO (fs.lookup f) (mA f)) ∧ PySem.Within mA (fs.map (·.1))
  | .own _ => ∃ o, h.get? a = some o
  | .xd fs => ∃ mA, h.Ns1 a mA ∧ ∀ f, RelO (fs.lookup f) (mA f)
  | .rng lo hi => ∃ t u v, h.get? a = some { cls := .type "range", data := .fields #[.int lo t, .int hi u, .int 1 v] }
  | .frz o u => h.get? a = some o ∧ ObjOk H h a u
  | .tbl ps => h.get? a = some { cls := .none, data := .fields ps }
  | .met f x => h.get? a = some (PySem.W.methodObj (.ref f) (.ref x))
  | .ext φ => φ h ∧ (∃ o, h.get? a = some o) ∧ ∀ h1 h2 : Heap, φ h1 → (∀ o, h1.get? a = some o → h2.get? a = some o) → φ h2
noncomputable def HOk (H : Hp) (h : Heap) : Prop := ∀ a o, H a = some o → ObjOk P w H h a o
end
section
variable {P : Program} {w : World} {H H' : Hp} {h h' : Heap} {a : Addr} {o : HO}
theorem ObjOk.lt (x : ObjOk P w H h a o) : a < h.objs.size := by
  cases o with
  | lst xs => obtain ⟨_, _, _, _, e⟩ := x; exact Heap.lt_size e
  | tup xs => obtain ⟨_, _, _, p⟩ := x; exact p.lt
  | dK kvs => obtain ⟨_, _, _, _, o, _, _, e, _⟩ := x; exact Heap.lt_size e
  | dT kvs => obtain ⟨_, _, _, _, o, _, _, e, _⟩ := x; exact Heap.lt_size e
  | set S n => obtain ⟨o, _, _, _, e, _⟩ := x; exact Heap.lt_size e
  | ins C dx fs => obtain ⟨_, _, _, e, _⟩ := x; exact Heap.lt_size e
  | own y => obtain ⟨_, e⟩ := x; exact Heap.lt_size e
  | xd fs => obtain ⟨_, ⟨_, _, _, e, _⟩, _⟩ := x; exact Heap.lt_size e
  | rng lo hi => obtain ⟨_, _, _, e⟩ := x; exact Heap.lt_size e
  | frz ob u => obtain ⟨e, _⟩ := x; exact Heap.lt_size e
  | tbl ps => exact Heap.lt_size (show h.get? a = some _ from x)
  | met f y => exact Heap.lt_size (show h.get? a = some _ from x)
  | ext φ => obtain ⟨_, ⟨_, e⟩, _⟩ := x; exact Heap.lt_size e
theorem Paired.mapP {α β : Type} {F G : α → β → Prop} : ∀ {l₁ : List α} {l₂ : List β}, Paired F l₁ l₂ → (∀ a b, F a b → G a b) → Paired G l₁ l₂
  | _, _, .nil, _ => .nil
  | _, _, .cons r t, f => .cons (f _ _ r) (Paired.mapP t f)
theorem Paired.imp' {α β : Type} {F G : α → β → Prop} (f : ∀ a b, F a b → G a b) {l₁ : List α} {l₂ : List β} (r : Paired F l₁ l₂) : Paired G l₁ l₂ := Paired.mapP r f
theorem ObjOk.stay (x : ObjOk P w H h a o) (k : ∀ b u, (b = a ∨ H b = some (.own a)) → h.get? b = some u → h'.get? b = some u)
    (ho : ∀ b, H b = some (.own a) → H' b = some (.own a)) (ht : ∀ b xs, H b = some (.tup xs) → H' b = some (.tup xs)) : ObjOk P w H' h' a o := by
  induction o with
  | lst xs => obtain ⟨z, its, n, r, e⟩ := x; exact ⟨z, its, n, r, k _ _ (.inl rfl) e⟩
  | tup xs => obtain ⟨z, its, r, ob, e, c⟩ := x; exact ⟨z, its, r, ob, k _ _ (.inl rfl) e, c⟩
  | dK kvs => obtain ⟨z, y, vs, r, ob, es, ep, e, c⟩ := x; exact ⟨z, y, vs, r, ob, es, ep, k _ _ (.inl rfl) e, c⟩
  | dT kvs =>
    obtain ⟨z, y, xs, r, ob, es, ep, e, c⟩ := x
    exact ⟨z, y, xs, Paired.mapP r fun p q z => ⟨z.1, ht _ _ z.2.1, z.2.2⟩, ob, es, ep, k _ _ (.inl rfl) e, c⟩
  | set S n => obtain ⟨ob, es, ep, t, e, c⟩ := x; exact ⟨ob, es, ep, t, k _ _ (.inl rfl) e, c⟩
  | ins C dx fs =>
    obtain ⟨d, z, ne, e, mA, ⟨od, es, ep, e2, c⟩, r⟩ := x
    exact ⟨ho _ d, z, ne, k _ _ (.inl rfl) e, mA, ⟨od, es, ep, k _ _ (.inr d) e2, c⟩, r⟩
  | own y => obtain ⟨ob, e⟩ := x; exact ⟨ob, k _ _ (.inl rfl) e⟩
  | xd fs => obtain ⟨mA, ⟨od, es, ep, e, c⟩, r⟩ := x; exact ⟨mA, ⟨od, es, ep, k _ _ (.inl rfl) e, c⟩, r⟩
  | rng lo hi => obtain ⟨t, u, v, e⟩ := x; exact ⟨t, u, v, k _ _ (.inl rfl) e⟩
  | frz ob u ih => obtain ⟨e, q⟩ := x; exact ⟨k _ _ (.inl rfl) e, ih q⟩
  | tbl ps =>
    have e : h.get? a = some { cls := .none, data := .fields ps } := x
    show h'.get? a = some { cls := .none, data := .fields ps }
    exact k a _ (.inl rfl) e
  | met f y =>
    have e : h.get? a = some (PySem.W.methodObj (.ref f) (.ref y)) := x
    show h'.get? a = some (PySem.W.methodObj (.ref f) (.ref y))
    exact k a _ (.inl rfl) e
  | ext φ => obtain ⟨p, ⟨o, e⟩, st⟩ := x; exact ⟨st _ _ p fun o q => k _ _ (.inl rfl) q, ⟨o, k _ _ (.inl rfl) e⟩, st⟩
theorem HOk.lt (x : HOk P w H h) (e : H a = some o) : a < h.objs.size := (x a o e).lt
theorem HOk.fresh (x : HOk P w H h) (e : h.objs.size ≤ a) : H a = none := by
  cases q : H a with
  | none => rfl
  | some u => exact absurd (Nat.lt_of_lt_of_le (x.lt q) e) (Nat.lt_irrefl _)
theorem HOk.kept (x : HOk P w H h) (k : ∀ b u, h.get? b = some u → h'.get? b = some u) : HOk P w H h' := fun a o e =>
  (x a o e).stay (fun b u _ q => k b u q) (fun _ q => q) fun _ _ q => q
theorem HOk.laid (x : HOk P w H h) (k : ∀ b u, h.get? b = some u → h'.get? b = some u) (hp : h.objs.size ≤ a) (new : ObjOk P w (upd H a o) h' a o) : HOk P w (upd H a o) h' := fun b u e => by
  have hn := x.fresh hp
  by_cases hb : b = a
  · subst hb; rw [upd_same] at e; cases e; exact new
  · rw [upd_ne hb] at e
    exact (x b u e).stay (fun c v _ q => k c v q) (fun c q => by rw [upd_ne (ne_of_none q hn)]; exact q) fun c xs q => by rw [upd_ne (ne_of_none q hn)]; exact q
end
noncomputable def Rd (H : Hp) (a : Addr) (u : HO) : Prop := H a = some u ∨ ∃ o, H a = some (.frz o u)
theorem Rd.of {H : Hp} {a : Addr} {u : HO} (h : H a = some u) : Rd H a u := .inl h
theorem Rd.ok {P : Program} {w : World} {H : Hp} {h : Heap} {a : Addr} {u : HO} (r : Rd H a u) (x : HOk P w H h) : ObjOk P w H h a u := by
  rcases r with r | ⟨o, r⟩
  · exact x a u r
  · obtain ⟨_, q⟩ := x a _ r
    exact q
noncomputable def Mut : Option HO → Prop
  | some (.lst _) => True
  | some (.dK _) => True
  | some (.dT _) => True
  | some (.set _ _) => True
  | some (.ins _ _ _) => True
  | some (.ext _) => True
  | _ => False
section
variable {P : Program} {w : World} {H : Hp} {h h' : Heap} {x e : Addr} {o' : HO}
theorem HOk.write (ok : HOk P w H h) (mu : Mut (H x)) (he : e = x ∨ H e = some (.own x)) (k : ∀ b u, b ≠ e → h.get? b = some u → h'.get? b = some u) (heo : ∃ u, h'.get? e = some u)
    (new : ObjOk P w (upd H x o') h' x o') : HOk P w (upd H x o') h' := fun b u q => by
  have nown : ∀ c y, H c = some (.own y) → c ≠ x := fun c y r z => by subst z; rw [r] at mu; exact mu
  have ntup : ∀ c xs, H c = some (.tup xs) → c ≠ x := fun c xs r z => by subst z; rw [r] at mu; exact mu
  by_cases hb : b = x
  · subst hb; rw [upd_same] at q; cases q; exact new
  · rw [upd_ne hb] at q
    by_cases hbe : b = e
    · have q' : H b = some (.own x) := by
        rcases he with z | z
        · exact absurd (hbe.trans z) hb
        · rw [hbe]; exact z
      rw [q] at q'; cases q'
      obtain ⟨v, hv⟩ := heo
      exact ⟨v, by rw [hbe]; exact hv⟩
    · refine (ok b u q).stay (fun c v hc r => k c v ?_ r) (fun c r => by rw [upd_ne (nown c b r)]; exact r) fun c xs r => by rw [upd_ne (ntup c xs r)]; exact r
      rcases hc with rfl | hc
      · exact hbe
      · rintro rfl
        rcases he with z | z
        · exact nown c b hc z
        · rw [hc] at z; cases z; exact hb rfl
end
structure Un (fs ex : List Addr) (H H' : Hp) (h h' : Heap) : Prop where
  keep : ∀ b o, h.get? b = some o → H b = none → b ∉ fs → b ∉ ex → h'.get? b = some o
  slot : ∀ b o, h.get? b = some o → H b = none → b ∈ fs → b ∉ ex → ∃ sl, h'.get? b = some { o with slots := sl }
  free : ∀ b o, h.get? b = some o → H b = none → b ∉ ex → H' b = none
  there : ∀ b o, h.get? b = some o → b ∉ ex → ∃ o', h'.get? b = some o'
  tups : ∀ b xs, H b = some (.tup xs) → H' b = some (.tup xs)
  frzs : ∀ b o u, H b = some (.frz o u) → H' b = some (.frz o u)
  tbls : ∀ b ps, H b = some (.tbl ps) → ∃ more, H' b = some (.tbl (ps ++ more))
section
variable {fs fs' ex ex' : List Addr} {H H1 H2 : Hp} {h h1 h2 h' : Heap} {a x e : Addr} {o : HO}
theorem Un.any (u : Un fs ex H H1 h h1) {b : Addr} {ob : Obj} (q : h.get? b = some ob) (n : H b = none) (hx : b ∉ ex) : ∃ sl, h1.get? b = some { ob with slots := sl } := by
  by_cases hb : b ∈ fs
  · exact u.slot b ob q n hb hx
  · exact ⟨ob.slots, u.keep b ob q n hb hx⟩
theorem Un.trans (a : Un fs ex H H1 h h1) (b : Un fs ex H1 H2 h1 h2) : Un fs ex H H2 h h2 where
  keep := fun c ob q n hc hx => b.keep c ob (a.keep c ob q n hc hx) (a.free c ob q n hx) hc hx
  slot := fun c ob q n hc hx => by
    obtain ⟨sl, e1⟩ := a.slot c ob q n hc hx
    obtain ⟨sl', e2⟩ := b.slot c _ e1 (a.free c ob q n hx) hc hx
    exact ⟨sl', e2⟩
  free := fun c ob q n hx => by
    obtain ⟨o', e1⟩ := a.there c ob q hx
    exact b.free c o' e1 (a.free c ob q n hx) hx
  there := fun c ob q hx => by
    obtain ⟨o', e1⟩ := a.there c ob q hx
    exact b.there c o' e1 hx
  tups := fun c xs q => b.tups c xs (a.tups c xs q)
  frzs := fun c ob xs q => b.frzs c ob xs (a.frzs c ob xs q)
  tbls := fun c ps q => by
    obtain ⟨m1, e1⟩ := a.tbls c ps q
    obtain ⟨m2, e2⟩ := b.tbls c _ e1
    exact ⟨m1 ++ m2, by rw [e2, Array.append_assoc]⟩
theorem Un.kept (k : ∀ b u, h.get? b = some u → h'.get? b = some u) : Un fs ex H H h h' :=
  ⟨fun b ob q _ _ _ => k b ob q, fun b ob q _ _ _ => ⟨ob.slots, k b ob q⟩, fun _ _ _ n _ => n, fun b ob q _ => ⟨ob, k b ob q⟩, fun _ _ q => q, fun _ _ _ q => q, fun _ ps q => ⟨#[], by rw [q]; simp⟩⟩
theorem Un.refl : Un fs ex H H h h := Un.kept fun _ _ q => q
theorem Un.laid (k : ∀ b u, h.get? b = some u → h'.get? b = some u) (hp : h.objs.size ≤ a) (hn : H a = none) : Un fs ex H (upd H a o) h h' where
  keep := fun b u q _ _ _ => k b u q
  slot := fun b u q _ _ _ => ⟨u.slots, k b u q⟩
  free := fun b u q n _ => by rw [upd_ne (Nat.ne_of_lt (Nat.lt_of_lt_of_le (Heap.lt_size q) hp))]; exact n
  there := fun b u q _ => ⟨u, k b u q⟩
  tups := fun b xs q => by rw [upd_ne (ne_of_none q hn)]; exact q
  frzs := fun b u xs q => by rw [upd_ne (ne_of_none q hn)]; exact q
  tbls := fun b ps q => ⟨#[], by rw [upd_ne (ne_of_none q hn), q]; simp⟩
theorem Un.write (mu : Mut (H x)) (he : e = x ∨ H e = some (.own x)) (k : ∀ b u, b ≠ e → h.get? b = some u → h'.get? b = some u) (heo : ∃ u, h'.get? e = some u) : Un fs ex H (upd H x o) h h' := by
  have hx : ∀ b, H b = none → b ≠ x := fun b n z => by subst z; rw [n] at mu; exact mu
  have hb : ∀ b, H b = none → b ≠ e := fun b n z => by
    subst z
    rcases he with r | r
    · exact hx b n r
    · rw [n] at r; cases r
  have hm : ∀ b u, H b = some u → ¬ Mut (some u) → b ≠ x := fun b u q nm z => by subst z; rw [q] at mu; exact nm mu
  refine ⟨fun b u q n _ _ => k b u (hb b n) q, fun b u q n _ _ => ⟨u.slots, k b u (hb b n) q⟩, fun b u q n _ => by rw [upd_ne (hx b n)]; exact n, fun b u q _ => ?_,
    fun b xs q => by rw [upd_ne (hm b _ q fun z => z)]; exact q, fun b u xs q => by rw [upd_ne (hm b _ q fun z => z)]; exact q, fun b ps q => ⟨#[], by rw [upd_ne (hm b _ q fun z => z), q]; simp⟩⟩
  by_cases hbe : b = e
  · subst hbe; exact heo
  · exact ⟨u, k b u hbe q⟩
theorem Un.mono (u : Un fs ex H H1 h h1) (hs : ∀ b ∈ fs, b ∈ fs') (hx : ∀ b ∈ ex, b ∈ ex') : Un fs' ex' H H1 h h1 :=
  ⟨fun b ob q n hb he => u.keep b ob q n (fun z => hb (hs b z)) fun z => he (hx b z), fun _ _ q n _ he => u.any q n fun z => he (hx _ z), fun b ob q n he => u.free b ob q n fun z => he (hx b z), fun b ob q he => u.there b ob q fun z => he (hx b z), u.tups, u.frzs, u.tbls⟩
end
noncomputable def trk (h : Heap) (H : Hp) : List Addr := (List.range h.objs.size).filter fun a => (H a).isSome
noncomputable def hidT (h : Heap) (H : Hp) : Heap := PySem.W.hideAll h (trk h H)
theorem hidT_size (h : Heap) (H : Hp) : (hidT h H).objs.size = h.objs.size := PySem.W.hideAll_size _ _
theorem hidT_get {h : Heap} {H : Hp} {b : Addr} {o : Obj} (e : h.get? b = some o) (n : H b = none) : (hidT h H).get? b = some o :=
  PySem.W.hideAll_get _ e fun hm => by
    have q : (H b).isSome = true := (List.mem_filter.mp hm).2
    rw [n] at q; simp at q
theorem of_hidT {h : Heap} {H : Hp} {b : Addr} {o : Obj} (e : (hidT h H).get? b = some o) : h.get? b = some o ∧ H b = none := by
  have e' : h.get? b = some o := PySem.W.of_hideAll (trk h H) e
  refine ⟨e', ?_⟩
  cases q : H b with
  | none => rfl
  | some x =>
    have hm : b ∈ trk h H := List.mem_filter.mpr ⟨List.mem_range.mpr (Heap.lt_size e'), by simp [q]⟩
    have z : (hidT h H).get? b = none := PySem.W.hideAll_none (trk h H) hm
    rw [z] at e; cases e
noncomputable def allNews (g h : Heap) (L : Addr) : List (Addr × Obj) := (List.range h.objs.size).filterMap fun a => if a = L ∨ (g.get? a).isSome = true then none else (h.get? a).map fun o => (a, o)
noncomputable def rest (g h : Heap) (L d : Addr) : List (Addr × Obj) := (allNews g h L).filter fun p => decide (p.1 ≠ d)
end L2
namespace L2
open PySem PySem.Spec PyProof.Rows
structure Mod (K : PySem.W.Frag) (mg : Str → Option Value) (base : Heap) : Prop where
  kin : K.In base
  glob : base.Ns mainGlobals mg
  blt : ∃ mb, base.Ns builtinsNs mb ∧ ∀ x : Str, x ≠ "__name__" → mb x = bootBuiltins x
  nolimit : base.NoLimit
structure Cx where
  prog : Program
  w : World
  K : PySem.W.Frag
  mg : Str → Option Value
  base : Heap
  A : Around
  N : List Str
  s₀ : Shared
  H₀ : Hp
  env : Env
  outer : List Env
  stack : List Env
  ex : List Addr
  fn : Str → Bool
  calm : Bool
  pn : List (Addr × Obj)
  xe : Value → Shared → Prop
noncomputable def frs (l : List Env) : List Addr := l.filterMap (·.frame)
noncomputable abbrev Cx.fs (X : Cx) : List Addr := frs X.outer
noncomputable def Vis (sc : Scope) (x : Str) : Prop := sc.names.lookup x = some .local ∨ sc.names.lookup x = some .cell ∨ sc.names.lookup x = some .free
noncomputable def Loc (sc : Scope) (x : Str) : Prop := sc.names.lookup x = some .local ∨ sc.names.lookup x = some .cell
noncomputable def Look (env : Env) (h : Heap) (m : Str → Option Value) (x : Str) (u : Value) : Prop :=
  (env.kindOf x = some .local ∧ m x = some u) ∨ ((env.kindOf x = some .cell ∨ env.kindOf x = some .free) ∧ ∃ c, env.cells.lookup x = some c ∧ h.IsCell c (some u))
structure Cx.Ok (X : Cx) : Prop where
  mod : Mod X.K X.mg X.base
  kind : X.env.scope.kind = .function
  glob : X.env.globals = mainGlobals
  blt : X.env.builtins = builtinsNs
  above : X.s₀.heap.objs.size ≤ X.env.locals
  inj : ∀ x y c, X.env.cells.lookup x = some c → X.env.cells.lookup y = some c → x = y
  has : ∀ x, (X.env.kindOf x = some .cell ∨ X.env.kindOf x = some .free) → ∃ c, X.env.cells.lookup x = some c
  cab : ∀ x c, X.fn x = true → X.env.cells.lookup x = some c → X.s₀.heap.objs.size ≤ c
  hd : X.calm = true → X.A.handled = none
  frames : X.A.frames = some X.stack
  stk : X.stack = X.outer ∨ (X.stack = X.env :: X.outer ∧ X.env.frame = some X.env.locals)
  exf : ∀ b ∈ X.ex, b ≠ X.env.locals ∧ ∀ x c, X.env.cells.lookup x = some c → c ≠ b
  bs : ∀ b o, X.base.get? b = some o → X.s₀.heap.get? b = some o ∧ X.H₀ b = none
  bsz : X.base.objs.size ≤ X.s₀.heap.objs.size
  noex : ∀ b o, X.base.get? b = some o → b ∉ X.ex
  exfs : ∀ b ∈ X.ex, b ∉ X.fs
  funs : X.s₀.heap.FunFrames X.base X.outer
  frf : ∀ b ∈ X.fs, X.H₀ b = none
structure Inv (X : Cx) (pins : List (Addr × Obj)) (σ : List (Option V)) (H : Hp) (s : Shared) : Prop where
  ok : X.Ok
  os : s.os = X.s₀.os
  bare : AllBare s.gens
  base : Un X.fs X.ex X.H₀ H X.s₀.heap s.heap
  loc : ∃ m, s.heap.Ns X.env.locals m ∧ ∀ (i : Nat) (x : Str) (v : V), X.N[i]? = some x → σ[i]? = some (some v) → Vis X.env.scope x → ∃ u, RelV v u ∧ Look X.env s.heap m x u
  cell : ∀ x c, X.env.cells.lookup x = some c → ∃ v, s.heap.IsCell c v
  free : H X.env.locals = none
  freeC : ∀ x c, X.env.cells.lookup x = some c → H c = none
  pin : ∀ p ∈ X.pn ++ pins, s.heap.get? p.1 = some p.2 ∧ H p.1 = none ∧ p.1 ≠ X.env.locals ∧ p.1 ∉ X.fs ∧ ∀ v, p.2.data ≠ .cell v
  hok : HOk X.prog X.w H s.heap
  len : σ.length = X.N.length
section
variable {X : Cx} {pins : List (Addr × Obj)} {σ : List (Option V)} {H H' : Hp} {s : Shared} {h' : Heap}
theorem Cx.Ok.nofr (ok : X.Ok) {b : Addr} {o : Obj} (e : X.base.get? b = some o) : b ∉ X.fs := fun hb => by
  have := (ok.funs.mem hb).1
  rw [e] at this; cases this
theorem Inv.bs (I : Inv X pins σ H s) : ∀ b o, X.base.get? b = some o → s.heap.get? b = some o ∧ H b = none := fun b o e =>
  ⟨I.base.keep b o (I.ok.bs b o e).1 (I.ok.bs b o e).2 (I.ok.nofr e) (I.ok.noex b o e), I.base.free b o (I.ok.bs b o e).1 (I.ok.bs b o e).2 (I.ok.noex b o e)⟩
theorem Inv.bk (I : Inv X pins σ H s) : ∀ b o, X.base.get? b = some o → s.heap.get? b = some o := fun b o e => (I.bs b o e).1
theorem Inv.mod (I : Inv X pins σ H s) : Mod X.K X.mg X.base := I.ok.mod
theorem Inv.kIn (I : Inv X pins σ H s) : X.K.In s.heap := I.ok.mod.kin.keeps I.bk
theorem Inv.nolimit (I : Inv X pins σ H s) : s.heap.NoLimit := I.ok.mod.nolimit.keeps I.bk
theorem Inv.lt (I : Inv X pins σ H s) : X.env.locals < s.heap.objs.size := let ⟨_, hn, _⟩ := I.loc; hn.lt
theorem Inv.sz (I : Inv X pins σ H s) : X.s₀.heap.objs.size ≤ s.heap.objs.size := Nat.le_trans I.ok.above (Nat.le_of_lt I.lt)
theorem Inv.nofs (I : Inv X pins σ H s) {a : Addr} (h : s.heap.objs.size ≤ a) : a ∉ X.fs := fun hb => by
  obtain ⟨_, o, ho, _⟩ := I.ok.funs.mem hb
  exact absurd (Nat.lt_of_lt_of_le (Heap.lt_size ho) (Nat.le_trans I.sz h)) (Nat.lt_irrefl _)
theorem Inv.cne (I : Inv X pins σ H s) : ∀ x c, X.env.cells.lookup x = some c → c ≠ X.env.locals := fun x c e z => by
  obtain ⟨v, o, ho, hd⟩ := I.cell x c e
  obtain ⟨m, ⟨o', es, ep, ho', hd', _⟩, _⟩ := I.loc
  rw [z, ho'] at ho; cases ho; rw [hd'] at hd; cases hd
theorem Inv.funs (I : Inv X pins σ H s) : s.heap.FunFrames X.base X.outer := by
  have all : ∀ (l : List Env), (∀ b ∈ frs l, b ∈ X.fs) → X.s₀.heap.FunFrames X.base l → s.heap.FunFrames X.base l := by
    intro l
    induction l with
    | nil => intro _ _; trivial
    | cons env r ih =>
      intro hs hl
      obtain ⟨hk, ⟨L, o, hf, hn, ho, hd⟩, hr⟩ := hl
      have hL : L ∈ X.fs := hs L (by unfold frs; rw [List.filterMap_cons, hf]; exact List.mem_cons_self)
      obtain ⟨sl, e⟩ := I.base.slot L o ho (I.ok.frf L hL) hL fun z => I.ok.exfs L z hL
      exact ⟨hk, ⟨L, _, hf, hn, e, hd⟩, ih (fun b hb => hs b (by unfold frs; rw [List.filterMap_cons, hf]; exact List.mem_cons_of_mem _ hb)) hr⟩
  exact all X.outer (fun _ hb => hb) I.ok.funs
theorem Inv.stack (I : Inv X pins σ H s) : s.heap.FunFrames X.base X.stack := by
  rcases I.ok.stk with e | ⟨e, hf⟩
  · rw [e]; exact I.funs
  · rw [e]
    obtain ⟨m, hn, _⟩ := I.loc
    refine .cons (by rw [I.ok.kind]; decide) hf hn ?_ I.funs
    exact Heap.get?_none_of_le (Nat.le_trans I.ok.bsz I.ok.above)
theorem Inv.stkSub (I : Inv X pins σ H s) : ∀ b ∈ frs X.stack, b ∈ X.env.locals :: X.fs := fun b hb => by
  rcases I.ok.stk with e | ⟨e, hf⟩
  · rw [e] at hb; exact List.mem_cons_of_mem _ hb
  · rw [e] at hb
    unfold frs at hb
    rw [List.filterMap_cons, hf] at hb
    exact hb
theorem Inv.stkFree (I : Inv X pins σ H s) : ∀ b ∈ frs X.stack, H b = none := fun b hb => by
  rcases List.mem_cons.mp (I.stkSub b hb) with e | hb
  · rw [e]; exact I.free
  · obtain ⟨_, o, ho, _⟩ := I.ok.funs.mem hb
    exact I.base.free b o ho (I.ok.frf b hb) fun z => I.ok.exfs b z hb
theorem Inv.step {g' : Array GenState} {t' : Nat} {d' : Drawn} {ch : List Addr} (I : Inv X pins σ H s)
    (hch : ∀ b ∈ ch, (b ∈ X.ex ∨ X.s₀.heap.objs.size ≤ b) ∧ b ≠ X.env.locals ∧ (∀ x c, X.env.cells.lookup x = some c → c ≠ b) ∧ ∀ p ∈ X.pn ++ pins, p.1 ≠ b)
    (keep : ∀ b o, b ≠ X.env.locals → b ∉ X.fs → b ∉ ch → s.heap.get? b = some o → H b = none → h'.get? b = some o)
    (slot : ∀ b o, b ≠ X.env.locals → b ∈ X.fs → b ∉ ch → s.heap.get? b = some o → H b = none → ∃ sl, h'.get? b = some { o with slots := sl }) (free : ∀ b o, b ∉ ch → s.heap.get? b = some o → H b = none → H' b = none)
    (there : ∀ b o, b ∉ ch → s.heap.get? b = some o → ∃ o', h'.get? b = some o')
    (tups : ∀ b xs, H b = some (.tup xs) → H' b = some (.tup xs)) (frzs : ∀ b o u, H b = some (.frz o u) → H' b = some (.frz o u)) (tbls : ∀ b ps, H b = some (.tbl ps) → ∃ more, H' b = some (.tbl (ps ++ more)))
    (ns : ∀ m, s.heap.Ns X.env.locals m → h'.Ns X.env.locals m) (hok : HOk X.prog X.w H' h') (hg : AllBare g') :
    Inv X pins σ H' { s with heap := h', gens := g', drawn := d', toks := t' } := by
  have neL : ∀ b o, X.s₀.heap.get? b = some o → b ≠ X.env.locals := fun b o e => Nat.ne_of_lt (Nat.lt_of_lt_of_le (Heap.lt_size e) I.ok.above)
  have neC : ∀ b o, X.s₀.heap.get? b = some o → b ∉ X.ex → b ∉ ch := fun b o e hx hb => by
    rcases (hch b hb).1 with z | z
    · exact hx z
    · exact absurd (Nat.lt_of_lt_of_le (Heap.lt_size e) z) (Nat.lt_irrefl _)
  have cellK : ∀ x c, X.env.cells.lookup x = some c → ∀ v, s.heap.IsCell c v → h'.IsCell c v := fun x c e v ⟨o, ho, hd⟩ => by
    have nch : c ∉ ch := fun z => (hch c z).2.2.1 x c e rfl
    by_cases hc : c ∈ X.fs
    · obtain ⟨sl, q⟩ := slot c o (I.cne x c e) hc nch ho (I.freeC x c e)
      exact ⟨_, q, hd⟩
    · exact ⟨o, keep c o (I.cne x c e) hc nch ho (I.freeC x c e), hd⟩
  refine ⟨I.ok, I.os, hg, ⟨fun b o e n hb hx => ?_, fun b o e n hb hx => ?_, fun b o e n hx => ?_, fun b o e hx => ?_, fun b xs e => tups b xs (I.base.tups b xs e), fun b o xs e => frzs b o xs (I.base.frzs b o xs e), fun b ps e => ?_⟩, ?_, fun x c e => ?_, ?_, fun x c e => ?_, fun p hp => ?_, hok, I.len⟩
  · exact keep b o (neL b o e) hb (neC b o e hx) (I.base.keep b o e n hb hx) (I.base.free b o e n hx)
  · obtain ⟨sl, e1⟩ := I.base.slot b o e n hb hx
    obtain ⟨sl', e2⟩ := slot b _ (neL b o e) hb (neC b o e hx) e1 (I.base.free b o e n hx)
    exact ⟨sl', e2⟩
  · obtain ⟨o', e1⟩ := I.base.there b o e hx
    exact free b o' (neC b o e hx) e1 (I.base.free b o e n hx)
  · obtain ⟨o', e1⟩ := I.base.there b o e hx
    exact there b o' (neC b o e hx) e1
  · obtain ⟨m1, e1⟩ := I.base.tbls b ps e
    obtain ⟨m2, e2⟩ := tbls b _ e1
    exact ⟨m1 ++ m2, by rw [e2, Array.append_assoc]⟩
  · obtain ⟨m, hn, hl⟩ := I.loc
    refine ⟨m, ns m hn, fun i x v e1 e2 e3 => ?_⟩
    obtain ⟨u, r, l⟩ := hl i x v e1 e2 e3
    refine ⟨u, r, ?_⟩
    rcases l with l | ⟨k, c, e, z⟩
    · exact .inl l
    · exact .inr ⟨k, c, e, cellK x c e _ z⟩
  · obtain ⟨v, z⟩ := I.cell x c e
    exact ⟨v, cellK x c e v z⟩
  · obtain ⟨m, ⟨o, _, _, ho, _⟩, _⟩ := I.loc
    exact free _ o (fun z => (hch _ z).2.1 rfl) ho I.free
  · obtain ⟨v, o, ho, hd⟩ := I.cell x c e
    exact free c o (fun z => (hch c z).2.2.1 x c e rfl) ho (I.freeC x c e)
  · obtain ⟨e, n, ne, nf, d⟩ := I.pin p hp
    have nch : p.1 ∉ ch := fun z => (hch p.1 z).2.2.2 p hp rfl
    exact ⟨keep p.1 p.2 ne nf nch e n, free p.1 p.2 nch e n, ne, nf, d⟩
theorem Inv.un {t' : Nat} (I : Inv X pins σ H s) (u : Un X.fs [] H H' s.heap h') (hok : HOk X.prog X.w H' h') : Inv X pins σ H' { s with heap := h', toks := t' } := by
  obtain ⟨m, ⟨o, es, ep, ho, r⟩, _⟩ := id I.loc
  obtain ⟨sl, hL⟩ := u.any ho I.free (by simp)
  exact I.step (g' := s.gens) (d' := s.drawn) (ch := []) (fun _ z => nomatch z) (fun b o _ hb _ e n => u.keep b o e n hb (by simp)) (fun b o _ hb _ e n => u.slot b o e n hb (by simp)) (fun b o _ e n => u.free b o e n (by simp)) (fun b o _ e => u.there b o e (by simp)) u.tups u.frzs u.tbls (fun m' hm => by
    obtain ⟨o', es', ep', ho', r'⟩ := hm
    rw [ho] at ho'; cases ho'
    exact ⟨_, es', ep', hL, r'⟩) hok I.bare
theorem Inv.call {g' : Array GenState} {t' : Nat} {d' : Drawn} {ch : List Addr} (I : Inv X pins σ H s) (u : Un (frs X.stack) ch H H' s.heap h') (hok : HOk X.prog X.w H' h') (hg : AllBare g')
    (hch : ∀ b ∈ ch, (b ∈ X.ex ∨ X.s₀.heap.objs.size ≤ b) ∧ b ≠ X.env.locals ∧ (∀ x c, X.env.cells.lookup x = some c → c ≠ b) ∧ ∀ p ∈ X.pn ++ pins, p.1 ≠ b) :
    Inv X pins σ H' { s with heap := h', gens := g', drawn := d', toks := t' } := by
  obtain ⟨m, ⟨o, es, ep, ho, r⟩, _⟩ := id I.loc
  obtain ⟨sl, hL⟩ := u.any ho I.free fun z => (hch _ z).2.1 rfl
  exact I.step (ch := ch) hch (fun b o hL hb hc e n => u.keep b o e n (fun z => (List.mem_cons.mp (I.stkSub b z)).elim hL hb) hc) (fun b o _ _ hc e n => u.any e n hc) (fun b o hc e n => u.free b o e n hc) (fun b o hc e => u.there b o e hc) u.tups u.frzs u.tbls (fun m' hm => by
    obtain ⟨o', es', ep', ho', r'⟩ := hm
    rw [ho] at ho'; cases ho'
    exact ⟨_, es', ep', hL, r'⟩) hok hg
theorem Inv.turned {t' : Nat} {it : Addr} (I : Inv X pins σ H s) (k : ∀ b o, b ≠ it → s.heap.get? b = some o → h'.get? b = some o) (hn : H it = none) (hL : it ≠ X.env.locals)
    (h1 : it ∈ X.ex ∨ X.s₀.heap.objs.size ≤ it) (h2 : ∀ x c, X.env.cells.lookup x = some c → c ≠ it) (h3 : ∀ p ∈ X.pn ++ pins, p.1 ≠ it) : Inv X pins σ H { s with heap := h', toks := t' } := by
  have nit : ∀ b u, H b = some u → b ≠ it := fun b u e z => by rw [z, hn] at e; cases e
  refine I.step (g' := s.gens) (d' := s.drawn) (ch := [it]) (fun b hb => ?_) (fun b o _ _ hc e _ => k b o (fun z => hc (by simp [z])) e) (fun b o _ _ hc e _ => ⟨o.slots, k b o (fun z => hc (by simp [z])) e⟩) (fun _ _ _ _ n => n)
    (fun b o hc e => ⟨o, k b o (fun z => hc (by simp [z])) e⟩) (fun _ _ e => e) (fun _ _ _ e => e) (fun b ps e => ⟨#[], by rw [e]; simp⟩) (fun m hm => ?_) (fun b u e => ?_) I.bare
  · have e : b = it := by simpa using hb
    subst e
    exact ⟨h1, hL, h2, h3⟩
  · obtain ⟨o, es, ep, ho, r⟩ := hm
    exact ⟨o, es, ep, k _ o (Ne.symm hL) ho, r⟩
  · refine (I.hok b u e).stay (fun c v hc q => k c v ?_ q) (fun _ q => q) fun _ _ q => q
    rcases hc with z | z
    · rw [z]; exact nit b u e
    · exact nit c _ z
theorem Inv.tok (I : Inv X pins σ H s) (t : Nat) : Inv X pins σ H { s with toks := t } := I.un (h' := s.heap) (t' := t) Un.refl I.hok
theorem Inv.kept {t' : Nat} (I : Inv X pins σ H s) (k : ∀ b u, s.heap.get? b = some u → h'.get? b = some u) : Inv X pins σ H { s with heap := h', toks := t' } := I.un (Un.kept k) (I.hok.kept k)
theorem Inv.laid {a : Addr} {o : HO} {t' : Nat} (I : Inv X pins σ H s) (k : ∀ b u, s.heap.get? b = some u → h'.get? b = some u) (hp : s.heap.objs.size ≤ a) (new : ObjOk X.prog X.w (upd H a o) h' a o) :
    Inv X pins σ (upd H a o) { s with heap := h', toks := t' } := I.un (Un.laid k hp (I.hok.fresh hp)) (I.hok.laid k hp new)
theorem Inv.write {x e : Addr} {o : HO} {t' : Nat} (I : Inv X pins σ H s) (mu : Mut (H x)) (he : e = x ∨ H e = some (.own x)) (k : ∀ b u, b ≠ e → s.heap.get? b = some u → h'.get? b = some u) (heo : ∃ u, h'.get? e = some u)
    (new : ObjOk X.prog X.w (upd H x o) h' x o) : Inv X pins σ (upd H x o) { s with heap := h', toks := t' } := I.un (Un.write mu he k heo) (I.hok.write mu he k heo new)
theorem Inv.weak {σ' : List (Option V)} (I : Inv X pins σ H s) (hl : σ'.length = σ.length) (w : ∀ (i : Nat) v, σ'[i]? = some (some v) → σ[i]? = some (some v)) : Inv X pins σ' H s :=
  ⟨I.ok, I.os, I.bare, I.base, let ⟨m, hn, hl'⟩ := I.loc; ⟨m, hn, fun i x v e1 e2 e3 => hl' i x v e1 (w i v e2) e3⟩, I.cell, I.free, I.freeC, I.pin, I.hok, hl.trans I.len⟩
theorem Inv.pins_of {pins' : List (Addr × Obj)} (I : Inv X pins σ H s) (h : ∀ p ∈ pins', s.heap.get? p.1 = some p.2 ∧ H p.1 = none ∧ p.1 ≠ X.env.locals ∧ p.1 ∉ X.fs ∧ ∀ v, p.2.data ≠ .cell v) : Inv X pins' σ H s :=
  ⟨I.ok, I.os, I.bare, I.base, I.loc, I.cell, I.free, I.freeC, fun p hp => (List.mem_append.mp hp).elim (fun z => I.pin p (List.mem_append_left _ z)) (h p), I.hok, I.len⟩
theorem nodup_ix {N : List Str} (hN : N.Nodup) {i j : Nat} {x : Str} (a : N[i]? = some x) (b : N[j]? = some x) : i = j := by
  obtain ⟨h1, e1⟩ := List.getElem?_eq_some_iff.mp a
  obtain ⟨h2, e2⟩ := List.getElem?_eq_some_iff.mp b
  exact (List.getElem_inj hN).mp (e1.trans e2.symm)
theorem store_ok2 {M : Model} {A : Around} {E : Value → Shared → Prop} {i : Nat} {x : Str} {v : V} {u : Value} {Q : Unit → Shared → Prop} (I : Inv X pins σ H s) (hN : X.N.Nodup) (hi : X.N[i]? = some x) (hx : Loc X.env.scope x) (r : RelV v u)
    (h : ∀ s', Inv X pins (σ.set i (some v)) H s' → (∃ a, Heap.SameBut a s.heap s'.heap ∧ (a = X.env.locals ∨ X.env.cells.lookup x = some a)) → Q () s') (hf : X.fn x = true ∨ X.env.scope.names.lookup x = some .local := by first | exact .inl rfl | exact .inr rfl | assumption) : wpAny M A (storeName X.env x u) Q E s := by
  obtain ⟨m, hn, hl⟩ := id I.loc
  have hcls : (X.env.scope.kind == .class || (X.env.scope.kind == .module && X.env.locals != X.env.globals)) = false := by rw [I.ok.kind]; rfl
  have hiσ : i < σ.length := by rw [I.len]; exact (List.getElem?_eq_some_iff.mp hi).1
  have cne := I.cne
  have tracked : ∀ {a : Addr} {h' : Heap}, (∃ o, s.heap.get? a = some o ∧ H a = none) → Heap.SameBut a s.heap h' → HOk X.prog X.w H h' := fun {a h'} ha hs b ob e => by
    obtain ⟨_, _, hfree⟩ := ha
    refine (I.hok b ob e).stay (fun c w' hc q => (hs.2 c ?_).trans q) (fun _ q => q) fun _ _ q => q
    rintro rfl
    rcases hc with rfl | hc
    · rw [hfree] at e; cases e
    · rw [hfree] at hc; cases hc
  rcases hx with hk | hk
  · refine wpAny_storeName_local hk hn (fun h' hn' hs => ?_) hcls
    obtain ⟨oL, _, _, hoL, _⟩ := id hn
    refine h _ ⟨I.ok, I.os, I.bare, ⟨fun b o e n hb hx => ?_, fun b o e n hb hx => ?_, I.base.free, fun b o e hx => ?_, I.base.tups, I.base.frzs, I.base.tbls⟩, ⟨_, hn', fun j y v' e1 e2 e3 => ?_⟩, fun y c e => ?_, I.free, I.freeC, fun p hp => ?_, tracked ⟨oL, hoL, I.free⟩ hs, by simpa using I.len⟩ ⟨_, hs, .inl rfl⟩
    · exact (hs.2 b (Nat.ne_of_lt (Nat.lt_of_lt_of_le (Heap.lt_size e) I.ok.above))).trans (I.base.keep b o e n hb hx)
    · obtain ⟨sl, e1⟩ := I.base.slot b o e n hb hx
      exact ⟨sl, (hs.2 b (Nat.ne_of_lt (Nat.lt_of_lt_of_le (Heap.lt_size e) I.ok.above))).trans e1⟩
    · obtain ⟨o', e1⟩ := I.base.there b o e hx
      exact ⟨o', (hs.2 b (Nat.ne_of_lt (Nat.lt_of_lt_of_le (Heap.lt_size e) I.ok.above))).trans e1⟩
    · by_cases hj : j = i
      · subst hj
        rw [hi] at e1; cases e1
        rw [List.getElem?_set_self hiσ] at e2
        cases e2
        exact ⟨u, r, .inl ⟨hk, by simp⟩⟩
      · rw [List.getElem?_set_ne (Ne.symm hj)] at e2
        obtain ⟨u', r', q⟩ := hl j y v' e1 e2 e3
        refine ⟨u', r', ?_⟩
        rcases q with ⟨k, e⟩ | ⟨k, c, e, z⟩
        · refine .inl ⟨k, ?_⟩
          have : y ≠ x := fun e => hj (nodup_ix hN e1 (e ▸ hi))
          simp [this, e]
        · exact .inr ⟨k, c, e, z.sameBut hs (cne y c e)⟩
    · obtain ⟨w', z⟩ := I.cell y c e
      exact ⟨w', z.sameBut hs (cne y c e)⟩
    · obtain ⟨e, n, ne, nf, d⟩ := I.pin p hp
      exact ⟨(hs.2 p.1 ne).trans e, n, ne, nf, d⟩
  · have hfn : X.fn x = true := by
      rcases hf with z | z
      · exact z
      · rw [z] at hk; cases hk
    obtain ⟨c, hc⟩ := I.ok.has x (.inl hk)
    obtain ⟨w', z⟩ := I.cell x c hc
    refine wpAny_storeName_cell I.ok.kind hk hc z (fun h' hc' hs => ?_)
    obtain ⟨oc, hoc, hocd⟩ := id z
    refine h { s with heap := h' } ⟨I.ok, I.os, I.bare, ⟨fun b o e n hb hx => ?_, fun b o e n hb hx => ?_, I.base.free, fun b o e hx => ?_, I.base.tups, I.base.frzs, I.base.tbls⟩, ⟨m, hn.sameBut hs (Ne.symm (cne x c hc)), fun j y v' e1 e2 e3 => ?_⟩, fun y c' e => ?_, I.free, I.freeC, fun p hp => ?_, tracked ⟨oc, hoc, I.freeC x c hc⟩ hs, by simpa using I.len⟩ ⟨c, hs, .inr hc⟩
    · exact (hs.2 b (Nat.ne_of_lt (Nat.lt_of_lt_of_le (Heap.lt_size e) (I.ok.cab x c hfn hc)))).trans (I.base.keep b o e n hb hx)
    · obtain ⟨sl, e1⟩ := I.base.slot b o e n hb hx
      exact ⟨sl, (hs.2 b (Nat.ne_of_lt (Nat.lt_of_lt_of_le (Heap.lt_size e) (I.ok.cab x c hfn hc)))).trans e1⟩
    · obtain ⟨o', e1⟩ := I.base.there b o e hx
      exact ⟨o', (hs.2 b (Nat.ne_of_lt (Nat.lt_of_lt_of_le (Heap.lt_size e) (I.ok.cab x c hfn hc)))).trans e1⟩
    · by_cases hj : j = i
      · subst hj
        rw [hi] at e1; cases e1
        rw [List.getElem?_set_self hiσ] at e2
        cases e2
        exact ⟨u, r, .inr ⟨.inl hk, c, hc, hc'⟩⟩
      · rw [List.getElem?_set_ne (Ne.symm hj)] at e2
        obtain ⟨u', r', q⟩ := hl j y v' e1 e2 e3
        refine ⟨u', r', ?_⟩
        rcases q with q | ⟨k, c', e, z'⟩
        · exact .inl q
        · refine .inr ⟨k, c', e, z'.sameBut hs ?_⟩
          rintro rfl
          exact hj (nodup_ix hN e1 (I.ok.inj _ _ _ e hc ▸ hi))
    · by_cases hcc : c' = c
      · subst hcc; exact ⟨_, hc'⟩
      · obtain ⟨w2, z2⟩ := I.cell y c' e
        exact ⟨w2, z2.sameBut hs hcc⟩
    · obtain ⟨e, n, ne, nf, d⟩ := I.pin p hp
      refine ⟨(hs.2 p.1 ?_).trans e, n, ne, nf, d⟩
      intro q
      rw [q, hoc] at e
      have q' : oc = p.2 := Option.some.inj e
      exact d w' (by rw [← q']; exact hocd)
theorem store_ok {M : Model} {A : Around} {E : Value → Shared → Prop} {i : Nat} {x : Str} {v : V} {u : Value} {Q : Unit → Shared → Prop} (I : Inv X pins σ H s) (hN : X.N.Nodup) (hi : X.N[i]? = some x) (hx : Loc X.env.scope x) (r : RelV v u)
    (h : ∀ s', Inv X pins (σ.set i (some v)) H s' → Q () s') (hf : X.fn x = true ∨ X.env.scope.names.lookup x = some .local := by first | exact .inl rfl | exact .inr rfl | assumption) : wpAny M A (storeName X.env x u) Q E s :=
  store_ok2 I hN hi hx r (fun s' I' _ => h s' I') hf
theorem Inv.call' {s' : Shared} {ch : List Addr} (I : Inv X pins σ H s) (ho : s'.os = s.os) (u : Un (frs X.stack) ch H H' s.heap s'.heap) (hok : HOk X.prog X.w H' s'.heap) (hg : AllBare s'.gens)
    (hch : ∀ b ∈ ch, (b ∈ X.ex ∨ X.s₀.heap.objs.size ≤ b) ∧ b ≠ X.env.locals ∧ (∀ x c, X.env.cells.lookup x = some c → c ≠ b) ∧ ∀ p ∈ X.pn ++ pins, p.1 ≠ b) : Inv X pins σ H' s' := by
  obtain ⟨h', g', d', t', o'⟩ := s'
  have e : o' = s.os := ho
  subst e
  exact I.call (g' := g') (t' := t') (d' := d') u hok hg hch
end
noncomputable abbrev XK := Value → Option Addr → Hp → Prop
noncomputable abbrev St := List (Option V)
noncomputable abbrev VK := V → Hp → Prop
noncomputable abbrev TE := St → Hp → VK → Prop
noncomputable abbrev TT := St → Hp → (Bool → Hp → Prop) → Prop
noncomputable abbrev TA := St → Hp → (List V → Hp → Prop) → Prop
structure Ends where
  nx : St → Hp → Prop
  rt : VK
  bk : St → Hp → Prop := fun _ _ => False
  ct : St → Hp → Prop := fun _ _ => False
noncomputable abbrev TS := Ends → St → Hp → Prop
noncomputable def EP (X : Cx) (pins : List (Addr × Obj)) (σ : St) (Q : VK) (u : Value) (s' : Shared) : Prop := ∃ v H', Inv X pins σ H' s' ∧ RelV v u ∧ Q v H'
noncomputable def TP (X : Cx) (pins : List (Addr × Obj)) (σ : St) (Q : Bool → Hp → Prop) (b : Bool) (s' : Shared) : Prop := ∃ H', Inv X pins σ H' s' ∧ Q b H'
noncomputable def AP (X : Cx) (pins : List (Addr × Obj)) (σ : St) (Q : List V → Hp → Prop) (us : List Value) (s' : Shared) : Prop := ∃ vs H', Inv X pins σ H' s' ∧ Vals vs us ∧ Q vs H'
noncomputable def SP (X : Cx) (pins : List (Addr × Obj)) (D : Ends) (f : Flow) (s' : Shared) : Prop :=
  match f with
  | .next => ∃ σ' H', Inv X pins σ' H' s' ∧ D.nx σ' H'
  | .brk => ∃ σ' H', Inv X pins σ' H' s' ∧ D.bk σ' H'
  | .cont => ∃ σ' H', Inv X pins σ' H' s' ∧ D.ct σ' H'
  | .ret u => ∃ v σ' H', Inv X pins σ' H' s' ∧ RelV v u ∧ D.rt v H'
noncomputable def PE (X : Cx) (e : Expr) (t : TE) : Prop :=
  ∀ (pins : List (Addr × Obj)) (s : Shared) (σ : St) (H : Hp) (Q : VK), Inv X pins σ H s → t σ H Q → wpAny (model X.prog X.w) X.A (eval e X.env) (EP X pins σ Q) X.xe s
noncomputable def PT (X : Cx) (e : Expr) (t : TT) : Prop :=
  ∀ (pins : List (Addr × Obj)) (s : Shared) (σ : St) (H : Hp) (Q : Bool → Hp → Prop), Inv X pins σ H s → t σ H Q → wpAny (model X.prog X.w) X.A (isTrue e X.env (eval e X.env)) (TP X pins σ Q) X.xe s
noncomputable def PW (X : Cx) (e : Expr) (t : TT) : Prop :=
  ∀ (whole : Sem Value) (pins : List (Addr × Obj)) (s : Shared) (σ : St) (H : Hp) (Q : Bool → Hp → Prop), Inv X pins σ H s → t σ H Q → wpAny (model X.prog X.w) X.A (isTrue e X.env whole) (TP X pins σ Q) X.xe s
theorem PW.pt {X : Cx} {e : Expr} {t : TT} (h : PW X e t) : PT X e t := h _
noncomputable def PA (X : Cx) (es : List Expr) (t : TA) : Prop :=
  ∀ (pos : Pos) (pins : List (Addr × Obj)) (s : Shared) (σ : St) (H : Hp) (Q : List V → Hp → Prop), Inv X pins σ H s → t σ H Q → wpAny (model X.prog X.w) X.A (spliced (backTo pos (starEach es X.env))) (AP X pins σ Q) X.xe s
noncomputable def PS (X : Cx) (st : Stmt) (t : TS) : Prop :=
  ∀ (pins : List (Addr × Obj)) (s : Shared) (σ : St) (H : Hp) (D : Ends), Inv X pins σ H s → t D σ H → wpAny (model X.prog X.w) X.A (exec st X.env) (SP X pins D) X.xe s
noncomputable def PSs (X : Cx) (st : List Stmt) (t : TS) : Prop :=
  ∀ (pins : List (Addr × Obj)) (s : Shared) (σ : St) (H : Hp) (D : Ends), Inv X pins σ H s → t D σ H → wpAny (model X.prog X.w) X.A (execs st X.env) (SP X pins D) X.xe s
theorem thn {α : Type} {t : Sem α} {Q Q' : α → Shared → Prop} {M : Model} {A : Around} {E : Value → Shared → Prop} {s : Shared} (h : wpAny M A t Q E s) (hQ : ∀ a s, Q a s → Q' a s) : wpAny M A t Q' E s := wpAny_mono h hQ fun _ _ x => x
end L2
namespace L2
open PySem PySem.Spec PyProof.Rows
section
variable {X : Cx}
noncomputable abbrev tVar (i : Nat) : TE := fun σ H Q => ∃ v, σ[i]? = some (some v) ∧ Q v H
noncomputable abbrev tC (v : V) : TE := fun _ H Q => Q v H
theorem pe_var {i : Nat} {x : Str} {pos : Pos} (hN : X.N[i]? = some x) (hv : Vis X.env.scope x) (hd : (x == ("__debug__" : Str)) = false := by decide) (hcd : (x == ("__classdict__" : Str)) = false := by decide) : PE X (.Name x pos) (tVar i) := by
  intro pins s σ H Q I h
  obtain ⟨v, e, h⟩ := h
  obtain ⟨m, hn, hl⟩ := I.loc
  obtain ⟨u, r, l⟩ := hl i x v hN e hv
  have fin : EP X pins σ Q u s := ⟨v, H, I, r, h⟩
  rcases l with ⟨hk, hm⟩ | ⟨hk, c, hc, hcell⟩
  · exact wpAny_Name (wpAny_loadName_local I.ok.kind hk hn hm fin) hd
  · rcases hk with hk | hk
    · exact wpAny_Name (wpAny_loadName_cell I.ok.kind hk hc hcell fin) hd
    · exact wpAny_Name (wpAny_loadName_free I.ok.kind hk hc hcell fin hcd) hd
theorem pe_int {i j pos} : PE X (.Constant (.int i) j pos) (tC (.int i)) := fun _ _ _ H _ I h => wpAny_Constant_int ⟨.int i, H, I.tok _, ⟨_, rfl⟩, h⟩
theorem pe_bl {b j pos} : PE X (.Constant (.bool b) j pos) (tC (.bl b)) := fun _ _ _ H _ I h => Constant_bool ⟨.bl b, H, I, rfl, h⟩
theorem pe_str {x j pos} : PE X (.Constant (.str x) j pos) (tC (.str x)) := fun _ _ _ H _ I h => Calls.Constant_str ⟨.str x, H, I.tok _, ⟨_, rfl⟩, h⟩
noncomputable def Gl (X : Cx) (x : Str) : Prop := X.env.kindOf x = some .globalImplicit
theorem ld_glob {E : Value → Shared → Prop} {pins : List (Addr × Obj)} {s : Shared} {σ : St} {H : Hp} {x : Str} {u : Value} {pos : Pos} {Q : Value → Shared → Prop} (I : Inv X pins σ H s) (hg : Gl X x) (hm : X.mg x = some u) (h : Q u s)
    (hd : (x == ("__debug__" : Str)) = false := by decide) : wpAny (model X.prog X.w) X.A (eval (.Name x pos) X.env) Q E s :=
  Calls.Name_function_global I.ok.kind hg (Calls.loadGlobal_global (by rw [I.ok.glob]; exact I.mod.glob.keeps I.bk) hm h) hd
theorem ld_blt {E : Value → Shared → Prop} {pins : List (Addr × Obj)} {s : Shared} {σ : St} {H : Hp} {x : Str} {u : Value} {pos : Pos} {Q : Value → Shared → Prop} (I : Inv X pins σ H s) (hg : Gl X x) (hm : X.mg x = none) (hv : bootBuiltins x = some u) (h : Q u s)
    (hn : x ≠ "__name__" := by decide) (hd : (x == ("__debug__" : Str)) = false := by decide) : wpAny (model X.prog X.w) X.A (eval (.Name x pos) X.env) Q E s := by
  obtain ⟨mb, h1, h2⟩ := I.mod.blt
  exact Calls.Name_function_global I.ok.kind hg (Calls.loadGlobal_builtin (by rw [I.ok.glob]; exact I.mod.glob.keeps I.bk) hm (by rw [I.ok.blt]; exact h1.keeps I.bk) ((h2 x hn).trans hv) h) hd
theorem pe_bltn {x : Str} {v : V} {u : Value} {pos : Pos} (hg : Gl X x) (hm : X.mg x = none) (hv : bootBuiltins x = some u) (r : RelV v u) (hn : x ≠ "__name__" := by decide) (hd : (x == ("__debug__" : Str)) = false := by decide) : PE X (.Name x pos) (tC v) :=
  fun _ _ _ H _ I h => ld_blt I hg hm hv ⟨v, H, I, r, h⟩ hn hd
variable {a b : Expr} {ta tb : TE} {pos : Pos}
noncomputable def PC (X : Cx) (op : CmpOp) (a b : Expr) (t : TE) : Prop :=
  ∀ (pins : List (Addr × Obj)) (s : Shared) (σ : St) (H : Hp) (Q : VK), Inv X pins σ H s → t σ H Q →
    wpAny (model X.prog X.w) X.A (eval a X.env) (fun v s₁ => wpAny (model X.prog X.w) X.A (eval b X.env) (fun u s₂ => wpAny (model X.prog X.w) X.A (compareOp op v u) (EP X pins σ Q) X.xe s₂) X.xe s₁) X.xe s
theorem nobehind (b : Expr) {op : CmpOp} (h : op ≠ .In) (h2 : op ≠ .NotIn) : behindInMarks op b = false := by
  have e1 : (op == CmpOp.In) = false := by cases op <;> first | rfl | exact absurd rfl h
  have e2 : (op == CmpOp.NotIn) = false := by cases op <;> first | rfl | exact absurd rfl h2
  cases b <;> simp [behindInMarks, e1, e2]
noncomputable def tB (t : TE) : TT := fun σ H Q => t σ H fun x H1 => ∃ c, x = .bl c ∧ Q c H1
theorem pt_cmp {op : CmpOp} {t : TE} (h : PC X op a b t) (h1 : behindInMarks op b = false := by first | exact nobehind _ (by decide) (by decide) | rfl) : PT X (.Compare a [op] [b] pos) (tB t) := by
  intro pins s σ H Q I hw
  refine wpAny_isTrue_Compare1 (thn (h pins s σ H _ I hw) fun v s1 h1 => thn h1 fun u s2 h2 => thn h2 fun c s3 ⟨x, H1, I1, r1, q1⟩ => ?_) h1
  obtain ⟨d, rfl, q⟩ := q1
  cases r1
  exact wpAny_truthy_bool ⟨H1, I1, q⟩
variable {tA tB' : TT} {rest : List Expr}
noncomputable abbrev tAnd (t u : TT) : TT := fun σ H Q => t σ H fun c H1 => if c = true then u σ H1 Q else Q false H1
noncomputable abbrev tOr (t u : TT) : TT := fun σ H Q => t σ H fun c H1 => if c = true then Q true H1 else u σ H1 Q
noncomputable abbrev tNot (t : TT) : TT := fun σ H Q => t σ H fun c H1 => Q (!c) H1
theorem pw_and1 (ha : PT X a tA) : PW X (.BoolOp .And [a] pos) tA := by
  intro wh pins s σ H Q I h
  refine isTrue_and (thn (ha pins s σ H Q I h) fun c s1 e => ?_)
  cases c with
  | true => exact isTrue_and_nil e
  | false => exact e
theorem pw_or1 (ha : PT X a tA) : PW X (.BoolOp .Or [a] pos) tA := by
  intro wh pins s σ H Q I h
  refine isTrue_or (thn (ha pins s σ H Q I h) fun c s1 e => ?_)
  cases c with
  | false => exact isTrue_or_nil e
  | true => exact e
theorem pw_and (ha : PT X a tA) (hb : PW X (.BoolOp .And (b :: rest) pos) tB') : PW X (.BoolOp .And (a :: b :: rest) pos) (tAnd tA tB') := by
  intro wh pins s σ H Q I h
  refine isTrue_and (thn (ha pins s σ H _ I h) fun c s1 ⟨H1, I1, q1⟩ => ?_)
  cases c with
  | true => exact hb wh pins s1 σ H1 Q I1 q1
  | false => exact ⟨H1, I1, q1⟩
theorem pw_or (ha : PT X a tA) (hb : PW X (.BoolOp .Or (b :: rest) pos) tB') : PW X (.BoolOp .Or (a :: b :: rest) pos) (tOr tA tB') := by
  intro wh pins s σ H Q I h
  refine isTrue_or (thn (ha pins s σ H _ I h) fun c s1 ⟨H1, I1, q1⟩ => ?_)
  cases c with
  | true => exact ⟨H1, I1, q1⟩
  | false => exact hb wh pins s1 σ H1 Q I1 q1
theorem pt_not (ha : PT X a tA) : PT X (.UnaryOp .Not a pos) (tNot tA) := by
  intro pins s σ H Q I h
  exact isTrue_not (ha pins s σ H (fun c H1 => Q (!c) H1) I h)
noncomputable abbrev tAndV (ta tb : TE) : TE := fun σ H Q => ta σ H fun x H1 => ∃ c, x = .bl c ∧ if c = true then tb σ H1 Q else Q (.bl false) H1
theorem pe_one {op} {t : TE} (h : PE X a t) : PE X (.BoolOp op [a] pos) t := fun pins s σ H Q I hw => BoolOp_one (h pins s σ H Q I hw)
theorem pe_and (ha : PE X a ta) (hb : PE X (.BoolOp .And (b :: rest) pos) tb) : PE X (.BoolOp .And (a :: b :: rest) pos) (tAndV ta tb) := by
  intro pins s σ H Q I h
  refine BoolOp_and (thn (ha pins s σ H _ I h) fun v s1 ⟨x, H1, I1, r1, q1⟩ => ?_)
  obtain ⟨c, rfl, q1⟩ := q1
  cases r1
  refine wpAny_truthy_bool ?_
  cases c with
  | true => exact hb pins s1 σ H1 Q I1 q1
  | false => exact ⟨.bl false, H1, I1, rfl, q1⟩
end
end L2
namespace L2
open PySem PySem.Spec PyProof.Rows
noncomputable def SqL (K : PySem.W.Frag) (H : Hp) (a : Addr) (xs : List V) : Prop :=
  Rd H a (.lst xs) ∨
    ∃ (o : Obj) (its : Array Value) (n : Nat), K.lookup a = some o ∧ o.cls = .type "list" ∧ o.dict = none ∧ o.data = .seq its n ∧ its.size ≤ sizeLine ∧ Vals xs its.toList
noncomputable def SqT (K : PySem.W.Frag) (H : Hp) (a : Addr) (xs : List V) : Prop :=
  Rd H a (.tup xs) ∨
    ∃ (o : Obj) (its : Array Value) (n : Nat), K.lookup a = some o ∧ o.cls = .type "tuple" ∧ o.data = .seq its n ∧ its.size ≤ sizeLine ∧ Vals xs its.toList
noncomputable def absV : Value → Option V
  | .none => some .non
  | .bool b => some (.bl b)
  | .int i _ => some (.int i)
  | .str x _ => some (.str x)
  | .bytes b _ => some (.byt b)
  | .float b _ => some (.flt b)
  | .ref a => some (.ref a)
  | .type n => some (.ty n)
  | _ => none
theorem RelV.abs {x : V} {u : Value} (r : RelV x u) : absV u = some x := by
  cases x with
  | non => cases r; rfl
  | bl _ => cases r; rfl
  | int _ => obtain ⟨t, rfl⟩ := r; rfl
  | str _ => obtain ⟨t, rfl⟩ := r; rfl
  | byt _ => obtain ⟨t, rfl⟩ := r; rfl
  | flt _ => obtain ⟨t, rfl⟩ := r; rfl
  | ref _ => cases r; rfl
  | ty _ => cases r; rfl
theorem RelV.inj {x y : V} {u : Value} (r : RelV x u) (q : RelV y u) : x = y := Option.some.inj (r.abs.symm.trans q.abs)
theorem Vals.inj : ∀ {xs ys : List V} {us : List Value}, Vals xs us → Vals ys us → xs = ys
  | _, _, _, .nil, .nil => rfl
  | _, _, _, .cons r t, .cons r' t' => by rw [r.inj r', Vals.inj t t']
section
variable {X : Cx} {pins : List (Addr × Obj)} {σ : St} {H : Hp} {s : Shared} {a : Addr} {xs ys : List V}
theorem SqL.of {K : PySem.W.Frag} (h : H a = some (.lst xs)) : SqL K H a xs := .inl (.inl h)
theorem SqT.of {K : PySem.W.Frag} (h : H a = some (.tup xs)) : SqT K H a xs := .inl (.inl h)
theorem Inv.list (I : Inv X pins σ H s) (h : SqL X.K H a xs) : ∃ its : List Value, Vals xs its ∧ PlainL s.heap a its.toArray ∧ xs.length ≤ sizeLine := by
  rcases h with h | ⟨o, its, n, hk, hc, hd, hs, hz, r⟩
  · obtain ⟨z, its, n, r, e⟩ := h.ok I.hok
    exact ⟨its, r, ⟨_, n, e, rfl, rfl, rfl⟩, z⟩
  · refine ⟨its.toList, r, ⟨o, n, I.kIn a o hk, hc, hd, by simpa using hs⟩, ?_⟩
    have e := r.length
    simp only [Array.length_toList] at e
    omega
theorem Inv.tuple (I : Inv X pins σ H s) (h : SqT X.K H a xs) : ∃ its : List Value, Vals xs its ∧ IsTup s.heap a its.toArray ∧ xs.length ≤ sizeLine := by
  rcases h with h | ⟨o, its, n, hk, hc, hs, hz, r⟩
  · obtain ⟨z, its, r, p⟩ := h.ok I.hok
    exact ⟨its, r, p, z⟩
  · refine ⟨its.toList, r, ⟨o, I.kIn a o hk, hc, n, by simpa using hs⟩, ?_⟩
    have e := r.length
    simp only [Array.length_toList] at e
    omega
theorem Inv.list_inj (I : Inv X pins σ H s) (h : SqL X.K H a xs) (h' : SqL X.K H a ys) : xs = ys := by
  obtain ⟨its, r, ⟨o, n, e, _, _, d⟩, _⟩ := I.list h
  obtain ⟨its', r', ⟨o', n', e', _, _, d'⟩, _⟩ := I.list h'
  rw [e] at e'; cases e'
  rw [d] at d'
  injection d' with d1 _
  have : its = its' := by simpa using congrArg Array.toList d1
  subst this
  exact r.inj r'
theorem Inv.tuple_inj (I : Inv X pins σ H s) (h : SqT X.K H a xs) (h' : SqT X.K H a ys) : xs = ys := by
  obtain ⟨its, r, ⟨o, e, _, n, d⟩, _⟩ := I.tuple h
  obtain ⟨its', r', ⟨o', e', _, n', d'⟩, _⟩ := I.tuple h'
  rw [e] at e'; cases e'
  rw [d] at d'
  injection d' with d1 _
  have : its = its' := by simpa using congrArg Array.toList d1
  subst this
  exact r.inj r'
end
noncomputable abbrev Cx.wish (X : Cx) (E : Value → Shared → Prop) : Cx := { X with xe := E }
noncomputable abbrev Cx.nox (X : Cx) : Cx := X.wish fun _ _ => False
theorem Cx.Ok.wish {X : Cx} (ok : X.Ok) (E : Value → Shared → Prop) : (X.wish E).Ok :=
  ⟨ok.mod, ok.kind, ok.glob, ok.blt, ok.above, ok.inj, ok.has, ok.cab, ok.hd, ok.frames, ok.stk, ok.exf, ok.bs, ok.bsz, ok.noex, ok.exfs, ok.funs, ok.frf⟩
theorem Cx.Ok.unwish {X : Cx} {E : Value → Shared → Prop} (ok : (X.wish E).Ok) : X.Ok :=
  ⟨ok.mod, ok.kind, ok.glob, ok.blt, ok.above, ok.inj, ok.has, ok.cab, ok.hd, ok.frames, ok.stk, ok.exf, ok.bs, ok.bsz, ok.noex, ok.exfs, ok.funs, ok.frf⟩
section
variable {X : Cx} {pins : List (Addr × Obj)} {σ : St} {H : Hp} {s : Shared} {E : Value → Shared → Prop}
theorem Inv.wish (I : Inv X pins σ H s) (E : Value → Shared → Prop) : Inv (X.wish E) pins σ H s := ⟨I.ok.wish E, I.os, I.bare, I.base, I.loc, I.cell, I.free, I.freeC, I.pin, I.hok, I.len⟩
theorem Inv.unwish (I : Inv (X.wish E) pins σ H s) : Inv X pins σ H s := ⟨I.ok.unwish, I.os, I.bare, I.base, I.loc, I.cell, I.free, I.freeC, I.pin, I.hok, I.len⟩
theorem SP.unwish {D : Ends} {f : Flow} {s' : Shared} (h : SP (X.wish E) pins D f s') : SP X pins D f s' := by
  cases f with
  | next => obtain ⟨σ', H', I, q⟩ := h; exact ⟨σ', H', I.unwish, q⟩
  | brk => obtain ⟨σ', H', I, q⟩ := h; exact ⟨σ', H', I.unwish, q⟩
  | cont => obtain ⟨σ', H', I, q⟩ := h; exact ⟨σ', H', I.unwish, q⟩
  | ret u => obtain ⟨v, σ', H', I, r, q⟩ := h; exact ⟨v, σ', H', I.unwish, r, q⟩
theorem PE.nox {e : Expr} {t : TE} (h : PE X.nox e t) : PE X e t := fun pins s σ H Q I hw =>
  wpAny_mono (h pins s σ H Q (I.wish _) hw) (fun _ _ ⟨v, H', I', r, q⟩ => ⟨v, H', I'.unwish, r, q⟩) fun _ _ z => False.elim z
theorem PT.nox {e : Expr} {t : TT} (h : PT X.nox e t) : PT X e t := fun pins s σ H Q I hw =>
  wpAny_mono (h pins s σ H Q (I.wish _) hw) (fun _ _ ⟨H', I', q⟩ => ⟨H', I'.unwish, q⟩) fun _ _ z => False.elim z
theorem PSs.nox {st : List Stmt} {t : TS} (h : PSs X.nox st t) : PSs X st t := fun pins s σ H D I hw =>
  wpAny_mono (h pins s σ H D (I.wish _) hw) (fun _ _ q => q.unwish) fun _ _ z => False.elim z
end
section
variable {X : Cx} {st : Stmt} {rest : List Stmt} {t u : TS} {e : Expr} {te : TE} {pos : Pos}
noncomputable abbrev tNext : TS := fun D σ H => D.nx σ H
noncomputable abbrev tSeq (t u : TS) : TS := fun D σ H => t { D with nx := u D } σ H
theorem pss_nil : PSs X [] tNext := fun _ _ σ H _ I h => wpAny_execs_nil ⟨σ, H, I, h⟩
theorem pss_cons (h1 : PS X st t) (h2 : PSs X rest u) : PSs X (st :: rest) (tSeq t u) := by
  intro pins s σ H D I h
  refine wpAny_execs_cons (thn (h1 pins s σ H { D with nx := u D } I h) fun f s1 q => ?_)
  cases f with
  | next =>
    obtain ⟨σ', H', I', q⟩ := q
    exact h2 pins s1 σ' H' D I' q
  | ret v => exact q
  | brk => exact q
  | cont => exact q
theorem Inv.quiet {pins : List (Addr × Obj)} {σ : St} {H : Hp} {s : Shared} (I : Inv X pins σ H s) : interactive X.env = false := by simp [interactive, I.ok.kind]
noncomputable abbrev tDrop (te : TE) : TS := fun D σ H => te σ H fun _ H1 => D.nx σ H1
theorem ps_expr (he : PE X e te) (hs : swapsWith e none pos.line X.env = pure false := by rfl) : PS X (.Expr e pos) (tDrop te) := by
  intro pins s σ H D I h
  exact wpAny_Expr_any (thn (he pins s σ H _ I h) fun v s1 ⟨x, H1, I1, r1, q1⟩ => ⟨σ, H1, I1, q1⟩) I.quiet hs
noncomputable abbrev tRet (te : TE) : TS := fun D σ H => te σ H D.rt
theorem ps_ret (he : PE X e te) : PS X (.Return (some e) pos) (tRet te) := by
  intro pins s σ H D I h
  exact wpAny_Return_some (thn (he pins s σ H _ I h) fun v s1 ⟨x, H1, I1, r1, q1⟩ => ⟨x, σ, H1, I1, r1, q1⟩)
noncomputable abbrev tIfS (c : TT) (t u : TS) : TS := fun D σ H => c σ H fun b H1 => if b = true then t D σ H1 else u D σ H1
theorem ps_if {c : Expr} {a b : List Stmt} {tc : TT} (hc : PT X c tc) (ha : PSs X a t) (hb : PSs X b u) : PS X (.If c a b pos) (tIfS tc t u) := by
  intro pins s σ H D I h
  refine wpAny_If (thn (hc pins s σ H _ I h) fun d s1 ⟨H1, I1, q1⟩ => ?_)
  cases d with
  | true => exact ha pins s1 σ H1 D I1 q1
  | false => exact hb pins s1 σ H1 D I1 q1
end
noncomputable abbrev TG := V → St → Hp → (St → Hp → Prop) → Prop
noncomputable abbrev TGs := List V → St → Hp → (St → Hp → Prop) → Prop
noncomputable def PG (X : Cx) (target : Expr) (t : TG) : Prop :=
  ∀ (pins : List (Addr × Obj)) (s : Shared) (σ : St) (H : Hp) (v : V) (u : Value) (Q : St → Hp → Prop), Inv X pins σ H s → RelV v u → t v σ H Q →
    wpAny (model X.prog X.w) X.A (assign target X.env u) (fun _ s' => ∃ σ' H', Inv X pins σ' H' s' ∧ Q σ' H') X.xe s
noncomputable def PGs (X : Cx) (ts : List Expr) (t : TGs) : Prop :=
  ∀ (pins : List (Addr × Obj)) (s : Shared) (σ : St) (H : Hp) (vs : List V) (us : List Value) (Q : St → Hp → Prop), Inv X pins σ H s → Vals vs us → t vs σ H Q →
    wpAny (model X.prog X.w) X.A (assignInOrder ((assignEach ts X.env).map (·.2)) us) (fun _ s' => ∃ σ' H', Inv X pins σ' H' s' ∧ Q σ' H') X.xe s
section
variable {X : Cx} {pos : Pos}
noncomputable abbrev gName (i : Nat) : TG := fun v σ H Q => Q (σ.set i (some v)) H
theorem pg_name {i : Nat} {x : Str} (hN : X.N.Nodup) (hi : X.N[i]? = some x) (hx : Loc X.env.scope x) (hf : X.fn x = true ∨ X.env.scope.names.lookup x = some .local := by first | exact .inl rfl | exact .inr rfl | assumption) : PG X (.Name x pos) (gName i) := by
  intro pins s σ H v u Q I r h
  exact wpAny_assign_Name (store_ok I hN hi hx r (fun s' I' => ⟨_, H, I', h⟩) hf)
noncomputable def gNil : TGs := fun vs σ H Q => vs = [] ∧ Q σ H
noncomputable def gCons (t : TG) (u : TGs) : TGs := fun vs σ H Q => ∃ v r, vs = v :: r ∧ t v σ H fun σ' H' => u r σ' H' Q
theorem pgs_nil : PGs X [] gNil := by
  intro pins s σ H vs us Q I r h
  obtain ⟨e, h⟩ := h
  subst e
  cases r
  exact assignInOrder_nil ⟨σ, H, I, h⟩
theorem pgs_cons {e : Expr} {es : List Expr} {t : TG} {u : TGs} (h1 : PG X e t) (h2 : PGs X es u)
    (hs : (assignEach (e :: es) X.env).map (·.2) = assign e X.env :: (assignEach es X.env).map (·.2) := by rfl) : PGs X (e :: es) (gCons t u) := by
  intro pins s σ H vs us Q I r h
  obtain ⟨v, vr, e1, h⟩ := h
  subst e1
  cases r with
  | cons r rr =>
    rw [hs]
    refine assignInOrder_cons (thn (h1 pins s σ H _ _ _ I r h) fun _ s1 ⟨σ1, H1, I1, q1⟩ => ?_)
    exact h2 pins s1 σ1 H1 _ _ Q I1 rr q1
noncomputable def gTup (K : PySem.W.Frag) (n : Nat) (t : TGs) : TG := fun v σ H Q => ∃ a xs, v = .ref a ∧ SqT K H a xs ∧ xs.length = n ∧ t xs σ H Q
theorem pg_tup {es : List Expr} {k : Nat} {t : TGs} {n : Nat} (hc : X.calm = true) (h : PGs X es t)
    (hn : (assignEach es X.env).length = n := by rfl) (hst : (assignEach es X.env).findIdx? (·.1) = none := by rfl) : PG X (.Tuple es k pos) (gTup X.K n t) := by
  intro pins s σ H v u Q I r hw
  obtain ⟨a, xs, e1, hq, hl, hw⟩ := hw
  subst e1
  cases r
  obtain ⟨its, rv, ht, hz⟩ := I.tuple hq
  refine assign_Tuple_tuple (I.ok.hd hc) ht (by simp [hn, ← hl, rv.length]) hst fun h' hx => ?_
  have I1 : Inv X pins σ H { s with heap := h' } := I.kept (t' := s.toks) fun b o e => hx b o (Nat.ne_of_lt (Heap.lt_size e)) e
  exact h pins _ σ H xs _ Q I1 (by simpa using rv) hw
noncomputable abbrev tAsg (te : TE) (g : TG) : TS := fun D σ H => te σ H fun x H1 => g x σ H1 D.nx
theorem ps_set {i : Nat} {x : Str} {e : Expr} {te : TE} {pos' : Pos} (hN : X.N.Nodup) (hi : X.N[i]? = some x) (hx : Loc X.env.scope x) (he : PE X e te) (hs : swapsWith e (some (.Name x pos')) pos.line X.env = pure false := by rfl) (hf : X.fn x = true ∨ X.env.scope.names.lookup x = some .local := by first | exact .inl rfl | exact .inr rfl | assumption) :
    PS X (.Assign [.Name x pos'] e pos) (tAsg te (gName i)) := by
  intro pins s σ H D I h
  refine wpAny_Assign_Name (thn (he pins s σ H _ I h) fun v s1 ⟨y, H1, I1, r1, q1⟩ => ?_) hs
  exact store_ok I1 hN hi hx r1 (fun s2 I2 => ⟨_, H1, I2, q1⟩) hf
end
section
variable {X : Cx} {pos : Pos}
end
structure It where
  go : Nat → Hp → Prop
  yld : Nat → Hp → V → Hp → Prop
  stop : Nat → Hp → Prop
noncomputable def FpOk (X : Cx) (pins : List (Addr × Obj)) (H : Hp) (b : Addr) : Prop :=
  H b = none ∧ b ≠ X.env.locals ∧ b ∉ X.fs ∧ (b ∈ X.ex ∨ X.s₀.heap.objs.size ≤ b) ∧ (∀ x c, X.env.cells.lookup x = some c → c ≠ b) ∧ ∀ p ∈ X.pn ++ pins, p.1 ≠ b
theorem Inv.fpOk {X : Cx} {pins : List (Addr × Obj)} {σ : St} {H H' : Hp} {s : Shared} {b : Addr} (I : Inv X pins σ H s) (hb : s.heap.objs.size ≤ b) (hn : H' b = none) : FpOk X pins H' b := by
  refine ⟨hn, Nat.ne_of_gt (Nat.lt_of_lt_of_le I.lt hb), I.nofs hb, .inr (Nat.le_trans I.sz hb), fun x c e z => ?_, fun p hp z => ?_⟩
  · obtain ⟨v, q⟩ := I.cell x c e
    exact absurd (Nat.lt_of_lt_of_le q.lt (by rw [z]; exact hb)) (Nat.lt_irrefl _)
  · exact absurd (Nat.lt_of_lt_of_le (Heap.lt_size (I.pin p hp).1) (by rw [z]; exact hb)) (Nat.lt_irrefl _)
structure Turn (P : Program) (w : World) (K : PySem.W.Frag) (tg : Expr) (J : It) (fp : List Addr) (it : Addr) (tn : Nat → Heap → Prop) : Prop where
  mem : it ∈ fp
  obj : ∀ i h, tn i h → ∀ b ∈ fp, ∃ o, h.get? b = some o ∧ ∀ v, o.data ≠ .cell v
  keep : ∀ i h h', tn i h → (∀ b ∈ fp, ∀ o, h.get? b = some o → h'.get? b = some o) → tn i h'
  item : ∀ (X : Cx), X.prog = P → X.w = w → X.K = K → X.calm = true → ∀ (i : Nat) (pins : List (Addr × Obj)) (s : Shared) (σ : St) (H : Hp) (E : Value → Shared → Prop), Inv X pins σ H s → (∀ b ∈ fp, FpOk X pins H b) → tn i s.heap → J.go i H →
    wpAny (model P w) X.A (pyNext (.ref it)) (fun r s1 => ∃ u, r = some u ∧
      wpAny (model P w) X.A (letOwnedTupleGo tg (.ref it) u) (fun _ s2 => ∃ x H', Inv X pins σ H' s2 ∧ RelV x u ∧ J.yld i H x H' ∧ tn (i + 1) s2.heap ∧ ∀ b ∈ fp, H' b = none) E s1) E s
  done : ∀ (X : Cx), X.prog = P → X.w = w → X.K = K → X.calm = true → ∀ (i : Nat) (pins : List (Addr × Obj)) (s : Shared) (σ : St) (H : Hp) (E : Value → Shared → Prop), Inv X pins σ H s → (∀ b ∈ fp, FpOk X pins H b) → tn i s.heap → J.stop i H →
    wpAny (model P w) X.A (pyNext (.ref it)) (fun r s1 => r = none ∧ Inv X pins σ H s1) E s
  self : ∀ (A : Around) (i : Nat) (s : Shared) (Q : Value → Shared → Prop) (E : Value → Shared → Prop), tn i s.heap → Q (.ref it) s → wpAny (model P w) A (pyIter (.ref it)) Q E s
noncomputable abbrev TI := St → Hp → (It → Hp → Prop) → Prop
noncomputable def PIE (X : Cx) (pins : List (Addr × Obj)) (σ : St) (tg : Expr) (R : It → Hp → Prop) (itv : Value) (s2 : Shared) : Prop :=
  ∃ (it : Addr) (fp : List Addr) (tn : Nat → Heap → Prop) (J : It) (H' : Hp), itv = .ref it ∧ Inv X pins σ H' s2 ∧ Turn X.prog X.w X.K tg J fp it tn ∧ tn 0 s2.heap ∧ (∀ b ∈ fp, FpOk X pins H' b) ∧ R J H'
noncomputable def PI (X : Cx) (tg iter : Expr) (wi : TI) : Prop :=
  ∀ (pins : List (Addr × Obj)) (s : Shared) (σ : St) (H : Hp) (R : It → Hp → Prop), Inv X pins σ H s → wi σ H R →
    wpAny (model X.prog X.w) X.A (eval iter X.env) (fun v s1 => wpAny (model X.prog X.w) X.A (pyIter v) (PIE X pins σ tg R) X.xe s1) X.xe s
theorem go_of {M : Model} {A : Around} {E : Value → Shared → Prop} {s : Shared} {tg : Expr} {it : Addr} {u : Value} {o : Obj} {n : String} {vs : Array Value} {Q : Unit → Shared → Prop} (ho : s.heap.get? it = some o) (hc : o.cls = .type n) (hd : o.data = .fields vs)
    (hn : ["enumerate", "zip", "dict_itemiterator", "dict_reverseitemiterator", "odict_iterator", "itertools.zip_longest", "itertools.pairwise"].contains n = false) (hQ : Q () s) : wpAny M A (letOwnedTupleGo tg (.ref it) u) Q E s := by
  unfold letOwnedTupleGo
  cases tg <;> first
    | exact wpAny_pure hQ
    | (cases u <;> first
        | exact wpAny_pure hQ
        | (refine wpAny_bind (wpAny_load ho ?_)
           rw [hc, hd]
           show wpAny M A (if (["enumerate", "zip", "dict_itemiterator", "dict_reverseitemiterator", "odict_iterator", "itertools.zip_longest", "itertools.pairwise"].contains n && vs[0]? == some (rawInt _)) = true then _ else _) Q E s
           rw [if_neg (by intro h; rw [hn, Bool.false_and] at h; cases h)]
           exact wpAny_pure hQ))
noncomputable def Itl (K : PySem.W.Frag) (a : Addr) : It :=
  ⟨fun i H => ∃ xs x, SqL K H a xs ∧ xs[i]? = some x, fun i H x H' => H' = H ∧ ∀ xs, SqL K H a xs → xs[i]? = some x, fun i H => ∃ xs, SqL K H a xs ∧ xs.length ≤ i⟩
noncomputable def Itt (K : PySem.W.Frag) (a : Addr) : It :=
  ⟨fun i H => ∃ xs x, SqT K H a xs ∧ xs[i]? = some x, fun i H x H' => H' = H ∧ ∀ xs, SqT K H a xs → xs[i]? = some x, fun i H => ∃ xs, SqT K H a xs ∧ xs.length ≤ i⟩
noncomputable def Itr (lo : Int) (n : Nat) : It := ⟨fun i _ => i < n, fun i H x H' => H' = H ∧ x = .int (lo + i), fun i _ => n ≤ i⟩
theorem turn_list {P : Program} {w : World} {K : PySem.W.Frag} {tg : Expr} (a it : Addr) : Turn P w K tg (Itl K a) [it] it (fun i h => h.IsListIter it a i) where
  mem := by simp
  obj := fun i h st b hb => by
    have e : b = it := by simpa using hb
    subst e
    obtain ⟨o, e, c, d⟩ := st
    exact ⟨o, e, fun v z => by rw [d] at z; cases z⟩
  keep := fun i h h' st k => st.at fun o e => k it (by simp) o e
  item := by
    intro X hP hw hK hc i pins s σ H E I hf st hg
    subst hP hw hK
    obtain ⟨xs, x, hq, hx⟩ := hg
    obtain ⟨its, rv, p, hz⟩ := I.list hq
    obtain ⟨u, hu, ru⟩ := rv.get hx
    obtain ⟨f0, f1, f2, f3, f4, f5⟩ := hf it (by simp)
    refine wpAny_pyNext_list_item st p.isList (x := u) (by simpa using hu) fun h' st' sb => ?_
    have I1 : Inv X pins σ H { s with heap := h' } := I.turned (t' := s.toks) (fun b o hb e => (sb.2 b hb).trans e) f0 f1 f3 f4 f5
    obtain ⟨o, e, c, d⟩ := id st'
    exact ⟨u, rfl, go_of (s := { s with heap := h' }) e c d (by decide) ⟨x, H, I1, ru, ⟨rfl, fun ys hy => by rw [I.list_inj hy hq]; exact hx⟩, st', fun b hb => (hf b hb).1⟩⟩
  done := by
    intro X hP hw hK hc i pins s σ H E I hf st hg
    subst hP hw hK
    obtain ⟨xs, hq, hx⟩ := hg
    obtain ⟨its, rv, p, hz⟩ := I.list hq
    obtain ⟨f0, f1, f2, f3, f4, f5⟩ := hf it (by simp)
    have hl := rv.length
    exact wpAny_pyNext_list_end (I.ok.hd hc) st p.isList (by simp; omega) fun h' eb => ⟨rfl, I.turned (t' := s.toks) (fun b o hb e => eb b o hb e) f0 f1 f3 f4 f5⟩
  self := fun _ _ _ _ _ st h => wpAny_pyIter_listiter st h
theorem turn_tuple {P : Program} {w : World} {K : PySem.W.Frag} {tg : Expr} (a it : Addr) : Turn P w K tg (Itt K a) [it] it (fun i h => h.IsTupleIter it a i) where
  mem := by simp
  obj := fun i h st b hb => by
    have e : b = it := by simpa using hb
    subst e
    obtain ⟨o, e, c, d⟩ := st
    exact ⟨o, e, fun v z => by rw [d] at z; cases z⟩
  keep := fun i h h' st k => st.at fun o e => k it (by simp) o e
  item := by
    intro X hP hw hK hc i pins s σ H E I hf st hg
    subst hP hw hK
    obtain ⟨xs, x, hq, hx⟩ := hg
    obtain ⟨its, rv, p, hz⟩ := I.tuple hq
    obtain ⟨u, hu, ru⟩ := rv.get hx
    obtain ⟨f0, f1, f2, f3, f4, f5⟩ := hf it (by simp)
    refine wpAny_pyNext_tuple_item st (show s.heap.IsTuple a its.toArray from p) (x := u) (by simpa using hu) fun h' st' sb => ?_
    have I1 : Inv X pins σ H { s with heap := h' } := I.turned (t' := s.toks) (fun b o hb e => (sb.2 b hb).trans e) f0 f1 f3 f4 f5
    obtain ⟨o, e, c, d⟩ := id st'
    exact ⟨u, rfl, go_of (s := { s with heap := h' }) e c d (by decide) ⟨x, H, I1, ru, ⟨rfl, fun ys hy => by rw [I.tuple_inj hy hq]; exact hx⟩, st', fun b hb => (hf b hb).1⟩⟩
  done := by
    intro X hP hw hK hc i pins s σ H E I hf st hg
    subst hP hw hK
    obtain ⟨xs, hq, hx⟩ := hg
    obtain ⟨its, rv, p, hz⟩ := I.tuple hq
    obtain ⟨f0, f1, f2, f3, f4, f5⟩ := hf it (by simp)
    have hl := rv.length
    exact wpAny_pyNext_tuple_end (I.ok.hd hc) st (show s.heap.IsTuple a its.toArray from p) (by simp; omega) fun h' eb => ⟨rfl, I.turned (t' := s.toks) (fun b o hb e => eb b o hb e) f0 f1 f3 f4 f5⟩
  self := fun _ _ _ _ _ st h => wpAny_pyIter_tupleiter st h
theorem turn_range {P : Program} {w : World} {K : PySem.W.Frag} {tg : Expr} (it : Addr) (lo : Int) (n : Nat) : Turn P w K tg (Itr lo n) [it] it (fun i h => IsRangeIter h it (lo + (i : Nat) * 1) ((n : Int) - (i : Nat)) 1) where
  mem := by simp
  obj := fun i h st b hb => by
    have e : b = it := by simpa using hb
    subst e
    exact ⟨_, st, fun v z => by
      have z' : Data.fields _ = Data.cell v := z
      cases z'⟩
  keep := fun i h h' st k => k it (by simp) _ st
  item := by
    intro X hP hw hK hc i pins s σ H E I hf st hg
    subst hP hw hK
    obtain ⟨f0, f1, f2, f3, f4, f5⟩ := hf it (by simp)
    have W := Walks.range (prog := X.prog) (w := X.w) (I.ok.hd hc) it lo 1 n
    refine W.item i s _ _ hg st fun v h' tk hv st' kk => ?_
    obtain ⟨t, rfl⟩ := hv
    have I1 : Inv X pins σ H { s with heap := h', toks := tk } := I.turned (fun b o hb e => kk b o (by simpa using hb) e) f0 f1 f3 f4 f5
    refine ⟨_, rfl, go_of (s := { s with heap := h', toks := tk }) (n := "range_iterator") st' rfl rfl (by decide) ⟨.int (lo + i), H, I1, ⟨t, ?_⟩, ⟨rfl, rfl⟩, st', fun b hb => (hf b hb).1⟩⟩
    rw [Int.mul_one]
  done := by
    intro X hP hw hK hc i pins s σ H E I hf st hg
    subst hP hw hK
    obtain ⟨f0, f1, f2, f3, f4, f5⟩ := hf it (by simp)
    exact wpAny_pyNext_range_end (I.ok.hd hc) st (by have : n ≤ i := hg; omega) fun h' eb => ⟨rfl, I.turned (t' := s.toks) (fun b o hb e => eb b o hb e) f0 f1 f3 f4 f5⟩
  self := fun _ _ _ _ _ st h => wpAny_pyIter_rangeiter st h
end L2
namespace L2
open PySem PySem.Spec PyProof.Rows
section
variable {X : Cx} {tg : Expr}
theorem range_it {pins : List (Addr × Obj)} {σ : St} {H : Hp} {s : Shared} {R : It → Hp → Prop} {E : Value → Shared → Prop} {lo hi : Int} {t u v : Tok} {tk : Nat} (I : Inv X pins σ H s) (h1 : -(2 ^ 62) ≤ lo) (h2 : lo < 2 ^ 62) (h3 : -(2 ^ 62) ≤ hi) (h4 : hi < 2 ^ 62)
    (q : R (Itr lo (hi - lo).toNat) H) : wpAny (model X.prog X.w) X.A (pyIter (.ref s.heap.objs.size)) (PIE X pins σ tg R) E { s with heap := s.heap.push { cls := .type "range", data := .fields #[.int lo t, .int hi u, .int 1 v] }, toks := tk } := by
  refine wpAny_pyIter_range (IsRange.new ..) (small_one h1 h2 h3 h4) ?_
  have I1 : Inv X pins σ H { s with heap := s.heap.push { cls := .type "range", data := .fields #[.int lo t, .int hi u, .int 1 v] }, toks := tk } := I.kept fun b o e => Heap.get?_push_of_some _ e
  refine ⟨(s.heap.push { cls := .type "range", data := .fields #[.int lo t, .int hi u, .int 1 v] }).objs.size, [(s.heap.push { cls := .type "range", data := .fields #[.int lo t, .int hi u, .int 1 v] }).objs.size], _, _, H, rfl,
    I1.kept (t' := tk) fun b o e => Heap.get?_push_of_some _ e, turn_range _ lo (hi - lo).toNat, ?_, fun b hb => ?_, q⟩
  · have e1 : lo + ((0 : Nat) : Int) * 1 = lo := by simp
    have e2 : (((hi - lo).toNat : Nat) : Int) - ((0 : Nat) : Int) = Builtin.Range.rangeSize lo hi 1 := by rw [rangeSize_one]; split <;> omega
    show IsRangeIter _ _ (lo + ((0 : Nat) : Int) * 1) ((((hi - lo).toNat : Nat) : Int) - ((0 : Nat) : Int)) 1
    rw [e1, e2]
    exact Heap.get?_push_size _ rfl
  · have e : b = (s.heap.push { cls := .type "range", data := .fields #[.int lo t, .int hi u, .int 1 v] }).objs.size := by simpa using hb
    subst e
    exact I1.fpOk (Nat.le_refl _) (I1.hok.fresh (Nat.le_refl _))
noncomputable def iRng1 (ta : TA) : TI := fun σ H R => ta σ H fun vs H1 => ∃ j : Int, vs = [.int j] ∧ -(2 ^ 62) ≤ j ∧ j < 2 ^ 62 ∧ R (Itr 0 j.toNat) H1
theorem pi_range1 {a : Expr} {ta : TA} {p pos : Pos} (hg : Gl X "range") (hm : X.mg "range" = none) (ha : PA X [a] ta) (hs : starEach [a] X.env = [(false, eval a X.env)] := by rfl) : PI X tg (.Call (.Name "range" p) [a] [] pos) (iRng1 ta) := by
  intro pins s σ H R I h
  refine Call_ (ld_blt I hg hm boot_range (PyProof.Rows.callWith_type1 (thn (ha pos pins s σ H _ I h) fun us s1 ⟨vs, H1, I1, r1, q1⟩ => ?_) hs rfl))
  obtain ⟨j, e, q1, q2, q⟩ := q1
  subst e
  cases r1 with
  | cons r rr =>
    cases rr
    obtain ⟨t, rfl⟩ := r
    exact call_range_1 (range_it I1 (by omega) (by omega) q1 q2 (by simpa using q))
noncomputable def tFor (wi : TI) (g : TG) (tb : TS) : TS := fun D σ H => wi σ H fun J H1 => ∃ W : Nat → Nat → St → Hp → Prop, (∃ m, W 0 m σ H1) ∧ ∀ i m σ H, W i m σ H →
  (J.stop i H ∧ D.nx σ H) ∨ (J.go i H ∧ ∃ N : St → Hp → Prop, (∀ σ' H', N σ' H' → ∃ m', m' < m ∧ W (i + 1) m' σ' H') ∧ ∀ x H', J.yld i H x H' → g x σ H' fun σ2 H2 => tb { D with nx := N, ct := N, bk := D.nx } σ2 H2)
noncomputable def pinsAt (fp : List Addr) (h : Heap) : List (Addr × Obj) := fp.filterMap fun b => (h.get? b).map fun o => (b, o)
theorem mem_pinsAt {fp : List Addr} {h : Heap} {b : Addr} {o : Obj} (hb : b ∈ fp) (e : h.get? b = some o) : (b, o) ∈ pinsAt fp h := List.mem_filterMap.mpr ⟨b, hb, by rw [e]; rfl⟩
theorem of_pinsAt {fp : List Addr} {h : Heap} {p : Addr × Obj} (hp : p ∈ pinsAt fp h) : p.1 ∈ fp ∧ h.get? p.1 = some p.2 := by
  obtain ⟨b, hb, e⟩ := List.mem_filterMap.mp hp
  cases q : h.get? b with
  | none => rw [q] at e; cases e
  | some o =>
    rw [q] at e
    have e' : (b, o) = p := Option.some.inj e
    subst e'
    exact ⟨hb, q⟩
theorem Inv.pinned {pins : List (Addr × Obj)} {σ : St} {H : Hp} {s : Shared} {fp : List Addr} (I : Inv X pins σ H s) (hf : ∀ b ∈ fp, FpOk X pins H b) (ho : ∀ b ∈ fp, ∃ o, s.heap.get? b = some o ∧ ∀ v, o.data ≠ .cell v) : Inv X (pins ++ pinsAt fp s.heap) σ H s :=
  I.pins_of fun p hp => (List.mem_append.mp hp).elim (fun z => I.pin p (List.mem_append_right _ z)) fun z => by
    obtain ⟨hb, e⟩ := of_pinsAt z
    obtain ⟨f0, f1, f2, _⟩ := hf p.1 hb
    obtain ⟨o, e', d⟩ := ho p.1 hb
    rw [e] at e'; cases e'
    exact ⟨e, f0, f1, f2, d⟩
theorem Inv.unpinned {pins pl : List (Addr × Obj)} {σ : St} {H : Hp} {s : Shared} (I : Inv X (pins ++ pl) σ H s) : Inv X pins σ H s := I.pins_of fun p hp => I.pin p (List.mem_append_right _ (List.mem_append_left _ hp))
theorem ps_for {iter : Expr} {body : List Stmt} {wi : TI} {g : TG} {tb : TS} {pos : Pos} (hp : PassesOwn (model X.prog X.w) X.A X.env X.xe) (hc : X.calm = true) (hi : PI X tg iter wi) (hg : PG X tg g) (hb : PSs X body tb)
    (hs : ∀ x, foldedSetIterable iter X.env x = pure x := by intro _; rfl) : PS X (.For tg iter body [] pos) (tFor wi g tb) := by
  intro pins s σ H D I h
  refine wpAny_For (thn (hi pins s σ H _ I h) fun v s1 h1 => thn h1 fun itv s2 h2 => ?_) hs
  obtain ⟨it, fp, tn, J, H2, e, I2, T, st2, f2, W, ⟨m0, w0⟩, turn⟩ := h2
  subst e
  have stat : ∀ {H' : Hp}, (∀ b ∈ fp, H' b = none) → ∀ b ∈ fp, FpOk X pins H' b := fun hn b hb => ⟨hn b hb, (f2 b hb).2⟩
  refine codeAny_forLoop_any (fun n s' => ∃ i σ' H', Inv X pins σ' H' s' ∧ tn i s'.heap ∧ (∀ b ∈ fp, H' b = none) ∧ W i n σ' H') ?_ m0 ⟨0, σ, H2, I2, st2, fun b hb => (f2 b hb).1, w0⟩
  rintro n s3 ⟨i, σ3, H3, I3, st3, fr3, w3⟩
  rcases turn i n σ3 H3 w3 with ⟨stop, qn⟩ | ⟨go, N, hN, step⟩
  · refine wpAny_passesOwn hp (thn (T.done X rfl rfl rfl hc i pins s3 σ3 H3 X.xe I3 (stat fr3) st3 stop) fun r s4 ⟨hr, I4⟩ => ?_)
    subst hr
    exact wpAny_execs_nil ⟨σ3, H3, I4, qn⟩
  · refine wpAny_passesOwn hp (thn (T.item X rfl rfl rfl hc i pins s3 σ3 H3 X.xe I3 (stat fr3) st3 go) fun r s4 ⟨u, hr, h4⟩ => ?_)
    subst hr
    refine wpAny_passesOwn hp (thn h4 fun _ s5 ⟨x, H5, I5, r5, y5, st5, fr5⟩ => ?_)
    have I5' := I5.pinned (stat fr5) (T.obj _ _ st5)
    refine wpAny_passesOwn hp (thn (hg _ s5 σ3 H5 x u _ I5' r5 (step x H5 y5)) fun _ s6 ⟨σ6, H6, I6, q6⟩ => ?_)
    refine wpAny_passesOwn hp (thn (hb _ s6 σ6 H6 _ I6 q6) fun f s7 q7 => ?_)
    have again : ∀ {σ7 : St} {H7 : Hp}, Inv X (pins ++ pinsAt fp s5.heap) σ7 H7 s7 → N σ7 H7 → ∃ m, m < n ∧ ∃ i σ' H', Inv X pins σ' H' s7 ∧ tn i s7.heap ∧ (∀ b ∈ fp, H' b = none) ∧ W i m σ' H' := fun {σ7 H7} I7 n7 => by
      obtain ⟨m', hm, w7⟩ := hN σ7 H7 n7
      refine ⟨m', hm, i + 1, σ7, H7, I7.unpinned, T.keep _ _ _ st5 fun b hb o e => (I7.pin (b, o) (List.mem_append_right _ (List.mem_append_right _ (mem_pinsAt hb e)))).1, fun b hb => ?_, w7⟩
      obtain ⟨o, e, d⟩ := T.obj _ _ st5 b hb
      exact (I7.pin (b, o) (List.mem_append_right _ (List.mem_append_right _ (mem_pinsAt hb e)))).2.1
    cases f with
    | next => obtain ⟨σ7, H7, I7, n7⟩ := q7; exact again I7 n7
    | cont => obtain ⟨σ7, H7, I7, n7⟩ := q7; exact again I7 n7
    | brk => obtain ⟨σ7, H7, I7, q7⟩ := q7; exact ⟨σ7, H7, I7.unpinned, q7⟩
    | ret v => obtain ⟨x7, σ7, H7, I7, r7, q7⟩ := q7; exact ⟨x7, σ7, H7, I7.unpinned, r7, q7⟩
end
end L2
namespace L2
open PySem PySem.Spec PyProof.Rows
noncomputable abbrev R2 := V → V → Hp → VK → Prop
noncomputable def OpR (X : Cx) (f : Value → Value → Sem Value) (r : R2) : Prop :=
  ∀ (pins : List (Addr × Obj)) (s : Shared) (σ : St) (H : Hp) (x y : V) (v u : Value) (Q : VK), Inv X pins σ H s → RelV x v → RelV y u → r x y H Q →
    wpAny (model X.prog X.w) X.A (f v u) (EP X pins σ Q) X.xe s
noncomputable def CallR (X : Cx) (f : Value) (r : List V → Hp → VK → Prop) : Prop :=
  ∀ (pins : List (Addr × Obj)) (s : Shared) (σ : St) (H : Hp) (xs : List V) (us : List Value) (Q : VK), Inv X pins σ H s → Vals xs us → r xs H Q →
    wpAny (model X.prog X.w) X.A (call f us) (EP X pins σ Q) X.xe s
noncomputable def TruR (X : Cx) (r : V → Hp → (Bool → Hp → Prop) → Prop) : Prop :=
  ∀ (pins : List (Addr × Obj)) (s : Shared) (σ : St) (H : Hp) (x : V) (v : Value) (Q : Bool → Hp → Prop), Inv X pins σ H s → RelV x v → r x H Q →
    wpAny (model X.prog X.w) X.A (truthy v) (TP X pins σ Q) X.xe s
noncomputable abbrev tOp (r : R2) (ta tb : TE) : TE := fun σ H Q => ta σ H fun x H1 => tb σ H1 fun y H2 => r x y H2 Q
noncomputable def rI (C : Int → Int → Prop) (g : Int → Int → V) : R2 := fun x y H Q => ∃ i j, x = .int i ∧ y = .int j ∧ C i j ∧ Q (g i j) H
noncomputable def rI0 (g : Int → Int → V) : R2 := fun x y H Q => ∃ i j, x = .int i ∧ y = .int j ∧ Q (g i j) H
section
variable {X : Cx} {a b c : Expr} {ta tb tc : TE} {pos : Pos}
theorem binT (ha : PE X a ta) (hb : PE X b tb) {pins : List (Addr × Obj)} {s : Shared} {σ : St} {H : Hp} {R : V → V → Hp → Prop} (I : Inv X pins σ H s)
    (h : ta σ H fun x H1 => tb σ H1 fun y H2 => R x y H2) {Q : Value → Shared → Prop} {f : Value → Value → Sem Value}
    (hf : ∀ v u s2 x y H2, Inv X pins σ H2 s2 → RelV x v → RelV y u → R x y H2 → wpAny (model X.prog X.w) X.A (f v u) Q X.xe s2) :
    wpAny (model X.prog X.w) X.A (eval a X.env) (fun v s₁ => wpAny (model X.prog X.w) X.A (eval b X.env) (fun u s₂ => wpAny (model X.prog X.w) X.A (f v u) Q X.xe s₂) X.xe s₁) X.xe s := by
  refine thn (ha pins s σ H _ I h) fun v s1 ⟨x, H1, I1, r1, q1⟩ => ?_
  refine thn (hb pins s1 σ H1 _ I1 q1) fun u s2 ⟨y, H2, I2, r2, q2⟩ => ?_
  exact hf v u s2 x y H2 I2 r1 r2 q2
theorem pe_op {op : Operator} {r : R2} (ho : OpR X (binaryOp op) r) (ha : PE X a ta) (hb : PE X b tb) : PE X (.BinOp a op b pos) (tOp r ta tb) := by
  intro pins s σ H Q I h
  exact wpAny_BinOp (binT ha hb I h fun v u s2 x y H2 I2 rx ry q => ho pins s2 σ H2 x y v u Q I2 rx ry q)
theorem opI {f : Value → Value → Sem Value} {C : Int → Int → Prop} {g : Int → Int → Int}
    (rule : ∀ (i j : Int) (t u : Tok) (s : Shared) (Q : Value → Shared → Prop) (E : Value → Shared → Prop), C i j → Q (.int (g i j) s.toks) { s with toks := s.toks + 1 } → wpAny (model X.prog X.w) X.A (f (.int i t) (.int j u)) Q E s) :
    OpR X f (rI C fun i j => .int (g i j)) := by
  intro pins s σ H x y v u Q I rx ry h
  obtain ⟨i, j, rfl, rfl, hc, q⟩ := h
  obtain ⟨t, rfl⟩ := rx
  obtain ⟨t', rfl⟩ := ry
  exact rule i j t t' s _ _ hc ⟨.int (g i j), H, I.tok _, ⟨_, rfl⟩, q⟩
theorem opI0 {f : Value → Value → Sem Value} {g : Int → Int → Int}
    (rule : ∀ (i j : Int) (t u : Tok) (s : Shared) (Q : Value → Shared → Prop) (E : Value → Shared → Prop), Q (.int (g i j) s.toks) { s with toks := s.toks + 1 } → wpAny (model X.prog X.w) X.A (f (.int i t) (.int j u)) Q E s) :
    OpR X f (rI0 fun i j => .int (g i j)) := by
  intro pins s σ H x y v u Q I rx ry h
  obtain ⟨i, j, rfl, rfl, q⟩ := h
  obtain ⟨t, rfl⟩ := rx
  obtain ⟨t', rfl⟩ := ry
  exact rule i j t t' s _ _ ⟨.int (g i j), H, I.tok _, ⟨_, rfl⟩, q⟩
theorem opB0 {f : Value → Value → Sem Value} {g : Int → Int → Bool}
    (rule : ∀ (i j : Int) (t u : Tok) (s : Shared) (Q : Value → Shared → Prop) (E : Value → Shared → Prop), Q (.bool (g i j)) s → wpAny (model X.prog X.w) X.A (f (.int i t) (.int j u)) Q E s) :
    OpR X f (rI0 fun i j => .bl (g i j)) := by
  intro pins s σ H x y v u Q I rx ry h
  obtain ⟨i, j, rfl, rfl, q⟩ := h
  obtain ⟨t, rfl⟩ := rx
  obtain ⟨t', rfl⟩ := ry
  exact rule i j t t' s _ _ ⟨.bl (g i j), H, I, rfl, q⟩
noncomputable def CDiv (i j : Int) : Prop := 0 < j ∧ j < 1073741824
noncomputable def CPow (i j : Int) : Prop := 0 ≤ j ∧ j ≤ 1000000 ∧ i.natAbs < 2 ^ 64
noncomputable def CMul (i j : Int) : Prop := (-(2 ^ 64) < i ∧ i < 2 ^ 64) ∨ (-(2 ^ 64) < j ∧ j < 2 ^ 64)
theorem CMul.ok {i j : Int} (h : CMul i j) : IntMulOk i j := by
  rcases h with ⟨h1, h2⟩ | ⟨h1, h2⟩
  · exact .of_left (intBits_le_64 h1 h2)
  · exact .of_right (intBits_le_64 h1 h2)
theorem op_add : OpR X (binaryOp .Add) (rI0 fun i j => .int (i + j)) := opI0 fun _ _ _ _ _ _ _ q => add_int q
theorem op_sub : OpR X (binaryOp .Sub) (rI0 fun i j => .int (i - j)) := opI0 fun _ _ _ _ _ _ _ q => sub_int q
theorem op_mul : OpR X (binaryOp .Mult) (rI CMul fun i j => .int (i * j)) := opI fun _ _ _ _ _ _ _ hc q => mul_int q hc.ok
theorem op_fdiv : OpR X (binaryOp .FloorDiv) (rI CDiv fun i j => .int (i / j)) := opI fun i j _ _ _ _ _ hc q => by
  have h1 : (0 : Int) < j := hc.1
  have h2 : j < 1073741824 := hc.2
  exact floordiv_int (by omega) (by rw [Int.fdiv_eq_ediv_of_nonneg i (by omega)]; exact q) (.inl (PyProof.noPylong_small (by omega)))
theorem op_mod : OpR X (binaryOp .Mod) (rI (fun _ j => 0 < j) fun i j => .int (i % j)) := opI fun i j _ _ _ _ _ hc q => by
  have h1 : (0 : Int) < j := hc
  exact mod_int' (by omega) (by rw [Int.fmod_eq_emod_of_nonneg i (by omega)]; exact q)
theorem op_pow : OpR X (binaryOp .Pow) (rI CPow fun i j => .int (i ^ j.toNat)) := opI fun _ _ _ _ _ _ _ hc q => pow_int_small hc.1 hc.2.1 hc.2.2 q
end
noncomputable def scal : V → V → Bool
  | .non, .non => true | .non, .int _ => true | .int _, .non => true | .non, .bl _ => true | .bl _, .non => true | .non, .str _ => true | .str _, .non => true
  | .int _, .int _ => true | .bl _, .bl _ => true | .str _, .str _ => true | .byt _, .byt _ => true
  | .int _, .str _ => true | .str _, .int _ => true | .bl _, .str _ => true | .str _, .bl _ => true
  | _, _ => false
noncomputable def rEq : R2 := fun x y H Q => scal x y = true ∧ Q (.bl (decide (x = y))) H
noncomputable def rNe : R2 := fun x y H Q => scal x y = true ∧ Q (.bl (!decide (x = y))) H
theorem dec_int {i j : Int} : decide (V.int i = V.int j) = (i == j) := by
  rw [Bool.eq_iff_iff]
  simp
theorem dec_bl {i j : Bool} : decide (V.bl i = V.bl j) = (i == j) := by
  rw [Bool.eq_iff_iff]
  simp
theorem dec_str {i j : Str} : decide (V.str i = V.str j) = (i == j) := by
  rw [Bool.eq_iff_iff]
  simp
theorem dec_byt {i j : Array UInt8} : decide (V.byt i = V.byt j) = (i.toList == j.toList) := by
  rw [Bool.eq_iff_iff]
  cases i
  cases j
  simp
section
variable {X : Cx} {a b c : Expr} {ta tb tc : TE} {pos : Pos}
theorem fin_bl {pins : List (Addr × Obj)} {σ : St} {H : Hp} {s : Shared} {Q : VK} {k k' : Bool} (I : Inv X pins σ H s) (q : Q (.bl k) H) (e : k = k') : EP X pins σ Q (.bool k') s := by
  subst e
  exact ⟨.bl k, H, I, rfl, q⟩
theorem op_eq : OpR X (compareOp .Eq) rEq := by
  intro pins s σ H x y v u Q I rx ry h
  obtain ⟨hs, q⟩ := h
  cases x with
  | non =>
    cases rx
    cases y with
    | non => cases ry; exact PySem.EqNone.eq_none_none (fin_bl I q (by simp))
    | bl j => cases ry; exact PySem.EqNone.eq_none_bool (fin_bl I q (by simp))
    | int j => obtain ⟨t', rfl⟩ := ry; exact PySem.EqNone.eq_none_int (fin_bl I q (by simp))
    | str j => obtain ⟨t', rfl⟩ := ry; exact PySem.EqNone.eq_none_str (fin_bl I q (by simp))
    | _ => exact absurd (show false = true from hs) Bool.false_ne_true
  | bl i =>
    cases rx
    cases y with
    | non => cases ry; exact PySem.EqNone.eq_bool_none (fin_bl I q (by simp))
    | bl j => cases ry; exact eq_bool (fin_bl I q dec_bl)
    | str j => obtain ⟨t', rfl⟩ := ry; exact PySem.EqMixed.eq_bool_str (fin_bl I q (by simp))
    | _ => exact absurd (show false = true from hs) Bool.false_ne_true
  | int i =>
    obtain ⟨t, rfl⟩ := rx
    cases y with
    | non => cases ry; exact PySem.EqNone.eq_int_none (fin_bl I q (by simp))
    | int j => obtain ⟨t', rfl⟩ := ry; exact eq_int (fin_bl I q dec_int)
    | str j => obtain ⟨t', rfl⟩ := ry; exact PySem.EqMixed.eq_int_str (fin_bl I q (by simp))
    | _ => exact absurd (show false = true from hs) Bool.false_ne_true
  | str i =>
    obtain ⟨t, rfl⟩ := rx
    cases y with
    | non => cases ry; exact PySem.EqNone.eq_str_none (fin_bl I q (by simp))
    | bl j => cases ry; exact PySem.EqMixed.eq_str_bool (fin_bl I q (by simp))
    | int j => obtain ⟨t', rfl⟩ := ry; exact PySem.EqMixed.eq_str_int (fin_bl I q (by simp))
    | str j => obtain ⟨t', rfl⟩ := ry; exact eq_str (fin_bl I q dec_str)
    | _ => exact absurd (show false = true from hs) Bool.false_ne_true
  | byt i =>
    obtain ⟨t, rfl⟩ := rx
    cases y with
    | byt j => obtain ⟨t', rfl⟩ := ry; exact PySem.W.eq_bytes (fin_bl I q dec_byt)
    | _ => exact absurd (show false = true from hs) Bool.false_ne_true
  | _ => cases y <;> exact absurd (show false = true from hs) Bool.false_ne_true
theorem op_ne : OpR X (compareOp .NotEq) rNe := by
  intro pins s σ H x y v u Q I rx ry h
  obtain ⟨hs, q⟩ := h
  cases x with
  | non =>
    cases rx
    cases y with
    | non => cases ry; exact PySem.EqNone.ne_none_none (fin_bl I q (by simp))
    | bl j => cases ry; exact PySem.EqNone.ne_none_bool (fin_bl I q (by simp))
    | int j => obtain ⟨t', rfl⟩ := ry; exact PySem.EqNone.ne_none_int (fin_bl I q (by simp))
    | str j => obtain ⟨t', rfl⟩ := ry; exact PySem.EqNone.ne_none_str (fin_bl I q (by simp))
    | _ => exact absurd (show false = true from hs) Bool.false_ne_true
  | bl i =>
    cases rx
    cases y with
    | non => cases ry; exact PySem.EqNone.ne_bool_none (fin_bl I q (by simp))
    | bl j => cases ry; exact ne_bool (fin_bl I q (congrArg not dec_bl))
    | str j => obtain ⟨t', rfl⟩ := ry; exact PySem.EqMixed.ne_bool_str (fin_bl I q (by simp))
    | _ => exact absurd (show false = true from hs) Bool.false_ne_true
  | int i =>
    obtain ⟨t, rfl⟩ := rx
    cases y with
    | non => cases ry; exact PySem.EqNone.ne_int_none (fin_bl I q (by simp))
    | int j => obtain ⟨t', rfl⟩ := ry; exact ne_int (fin_bl I q (congrArg not dec_int))
    | str j => obtain ⟨t', rfl⟩ := ry; exact PySem.EqMixed.ne_int_str (fin_bl I q (by simp))
    | _ => exact absurd (show false = true from hs) Bool.false_ne_true
  | str i =>
    obtain ⟨t, rfl⟩ := rx
    cases y with
    | non => cases ry; exact PySem.EqNone.ne_str_none (fin_bl I q (by simp))
    | bl j => cases ry; exact PySem.EqMixed.ne_str_bool (fin_bl I q (by simp))
    | int j => obtain ⟨t', rfl⟩ := ry; exact PySem.EqMixed.ne_str_int (fin_bl I q (by simp))
    | str j => obtain ⟨t', rfl⟩ := ry; exact ne_str (fin_bl I q (congrArg not dec_str))
    | _ => exact absurd (show false = true from hs) Bool.false_ne_true
  | byt i =>
    obtain ⟨t, rfl⟩ := rx
    cases y with
    | byt j => obtain ⟨t', rfl⟩ := ry; exact PySem.W.ne_bytes (fin_bl I q (congrArg not dec_byt))
    | _ => exact absurd (show false = true from hs) Bool.false_ne_true
  | _ => cases y <;> exact absurd (show false = true from hs) Bool.false_ne_true
theorem op_lt : OpR X (compareOp .Lt) (rI0 fun i j => .bl (decide (i < j))) := opB0 fun _ _ _ _ _ _ _ q => lt_int q
theorem op_le : OpR X (compareOp .LtE) (rI0 fun i j => .bl (decide (i ≤ j))) := opB0 fun _ _ _ _ _ _ _ q => le_int q
theorem nomark (b : Expr) {op : CmpOp} (h : op ≠ .In := by decide) (h2 : op ≠ .NotIn := by decide) : behindInMarks op b = false := by
  have e1 : (op == CmpOp.In) = false := by cases op <;> first | rfl | exact absurd rfl h
  have e2 : (op == CmpOp.NotIn) = false := by cases op <;> first | rfl | exact absurd rfl h2
  cases b <;> simp [behindInMarks, e1, e2]
theorem pe_cmpR {op : CmpOp} {r : R2} (ho : OpR X (compareOp op) r) (ha : PE X a ta) (hb : PE X b tb) (hm : behindInMarks op b = false) : PE X (.Compare a [op] [b] pos) (tOp r ta tb) := by
  intro pins s σ H Q I h
  exact wpAny_Compare1 (binT ha hb I h fun v u s2 x y H2 I2 rx ry q => ho pins s2 σ H2 x y v u Q I2 rx ry q) hm
noncomputable abbrev tTest (t : TE) : TT := fun σ H Q => t σ H fun x H' => ∃ k, x = .bl k ∧ Q k H'
theorem pt_cmpR {op : CmpOp} {r : R2} (ho : OpR X (compareOp op) r) (ha : PE X a ta) (hb : PE X b tb) (hm : behindInMarks op b = false) : PT X (.Compare a [op] [b] pos) (tTest (tOp r ta tb)) := by
  intro pins s σ H Q I h
  refine wpAny_isTrue_Compare1 (thn (ha pins s σ H _ I h) fun v s1 ⟨x, H1, I1, r1, q1⟩ => thn (hb pins s1 σ H1 _ I1 q1) fun u s2 ⟨y, H2, I2, r2, q2⟩ =>
    thn (ho pins s2 σ H2 x y v u _ I2 r1 r2 q2) fun c s3 ⟨z, H3, I3, r3, k, e, q3⟩ => ?_) hm
  subst e
  cases r3
  exact wpAny_truthy_bool ⟨H3, I3, q3⟩
noncomputable def TruV (K : PySem.W.Frag) (x : V) (H : Hp) (k : Bool) : Prop :=
  match x with
  | .non => k = false
  | .bl b => k = b
  | .int i => k = (i != 0)
  | .str y => y.length ≤ sizeLine ∧ k = ((y.length : Int) != 0)
  | .byt y => y.size ≤ sizeLine ∧ k = ((y.size : Int) != 0)
  | .ref p => (∃ xs, SqL K H p xs ∧ k = !xs.isEmpty) ∨ (∃ xs, SqT K H p xs ∧ k = !xs.isEmpty) ∨ ∃ kvs, H p = some (.dK kvs) ∧ k = !kvs.isEmpty
  | _ => False
theorem isEmpty_kv {κ : Type} {kvs : List (κ × V)} {vs : List (κ × Value)} (r : KV kvs vs) : (!vs.isEmpty) = !kvs.isEmpty := by
  cases r <;> rfl
theorem isEmpty_of {xs : List V} {its : List Value} (r : Vals xs its) : (!its.toArray.isEmpty) = !xs.isEmpty := by
  cases r <;> simp
theorem line63 : (sizeLine : Nat) < 2 ^ 63 := by rw [sizeLine_eq]; decide
theorem tru_ok : TruR X (fun x H Q => ∃ k, TruV X.K x H k ∧ Q k H) := by
  intro pins s σ H x v Q I rx h
  obtain ⟨k, e, q⟩ := h
  have hl := line63
  have hs : sizeLine = 16777216 := sizeLine_eq
  cases x with
  | non =>
    cases rx
    have e' : k = false := e
    subst e'
    exact truthy_none ⟨H, I, q⟩
  | bl b =>
    cases rx
    have e' : k = b := e
    subst e'
    exact wpAny_truthy_bool ⟨H, I, q⟩
  | int i =>
    obtain ⟨t, rfl⟩ := rx
    have e' : k = (i != 0) := e
    subst e'
    exact PySem.P.truthy_int ⟨H, I, q⟩
  | str y =>
    obtain ⟨t, rfl⟩ := rx
    obtain ⟨hy, e'⟩ : y.length ≤ sizeLine ∧ k = ((y.length : Int) != 0) := e
    subst e'
    exact PySem.P.truthy_str (by omega) ⟨H, I.tok _, q⟩
  | byt y =>
    obtain ⟨t, rfl⟩ := rx
    obtain ⟨hy, e'⟩ : y.size ≤ sizeLine ∧ k = ((y.size : Int) != 0) := e
    subst e'
    exact PySem.W.truthy_bytes (by omega) ⟨H, I.tok _, q⟩
  | ref p =>
    cases rx
    have e' : (∃ xs, SqL X.K H p xs ∧ k = !xs.isEmpty) ∨ (∃ xs, SqT X.K H p xs ∧ k = !xs.isEmpty) ∨ ∃ kvs, H p = some (.dK kvs) ∧ k = !kvs.isEmpty := e
    rcases e' with ⟨xs, hx, e'⟩ | ⟨xs, hx, e'⟩ | ⟨kvs, hx, e'⟩
    · subst e'
      obtain ⟨its, r, pl, hz⟩ := I.list hx
      have hlen := r.length
      exact wpAny_truthy_list pl.isList (by simp only [List.size_toArray]; omega) ⟨H, I.tok _, by rw [isEmpty_of r]; exact q⟩
    · subst e'
      obtain ⟨its, r, pl, hz⟩ := I.tuple hx
      have hlen := r.length
      exact truthy_tuple pl (by simp only [List.size_toArray]; omega) ⟨H, I.tok _, by rw [isEmpty_of r]; exact q⟩
    · subst e'
      obtain ⟨hz, hS, vs, r, m⟩ : kvs.length ≤ sizeLine ∧ (p == sysModules) = false ∧ ∃ vs, KV kvs vs ∧ s.heap.DictOf (mixKind X.prog X.w) p vs := I.hok p _ hx
      have hlen : kvs.length = vs.length := Paired.length r
      exact wpAny_truthy_dict hS m (by omega) ⟨H, I.tok _, by rw [isEmpty_kv r]; exact q⟩
  | _ => exact (show False from e).elim
theorem pt_truth (ha : PE X a ta) (he : ∀ whole, isTrue a X.env whole = (do let v ← whole; standAt a.pos; holding [v] (truthy v))) :
    PT X a (fun σ H Q => ta σ H fun x H' => ∃ k, TruV X.K x H' k ∧ Q k H') := by
  intro pins s σ H Q I h
  exact isTrue_plain (thn (ha pins s σ H _ I h) fun v s1 ⟨x, H1, I1, r1, q1⟩ => tru_ok pins s1 σ H1 x v Q I1 r1 q1) (he _)
theorem op_add_str : OpR X (binaryOp .Add) (fun x y H Q => ∃ i j, x = .str i ∧ y = .str j ∧ i.length + j.length ≤ sizeLine ∧ Q (.str (i ++ j)) H) := by
  intro pins s σ H x y v u Q I rx ry h
  obtain ⟨i, j, rfl, rfl, hz, q⟩ := h
  obtain ⟨t, rfl⟩ := rx
  obtain ⟨t', rfl⟩ := ry
  exact add_str (fun t' tk => ⟨.str (i ++ j), H, I.tok _, ⟨_, rfl⟩, q⟩) hz
theorem vals1 {x : V} {us : List Value} (r : Vals [x] us) : ∃ u, us = [u] ∧ RelV x u := by
  cases r with
  | cons r1 r2 => cases r2; exact ⟨_, rfl, r1⟩
theorem vals2 {x y : V} {us : List Value} (r : Vals [x, y] us) : ∃ u w', us = [u, w'] ∧ RelV x u ∧ RelV y w' := by
  cases r with
  | cons r1 r2 =>
    cases r2 with
    | cons r3 r4 => cases r4; exact ⟨_, _, rfl, r1, r3⟩
theorem call_min2 (hc : X.calm = true) : CallR X (.builtin "min") (fun xs H Q => ∃ i j, xs = [.int i, .int j] ∧ Q (.int (if j < i then j else i)) H) := by
  intro pins s σ H xs us Q I r h
  obtain ⟨i, j, rfl, q⟩ := h
  obtain ⟨u, w', rfl, ⟨t, rfl⟩, ⟨t', rfl⟩⟩ := vals2 r
  refine min_two_ints (I.ok.hd hc) fun h' tk k => ⟨_, H, I.kept k, ?_, q⟩
  by_cases hj : j < i
  · rw [if_pos hj, if_pos hj]; exact ⟨_, rfl⟩
  · rw [if_neg hj, if_neg hj]; exact ⟨_, rfl⟩
end
end L2
namespace L2
open PySem PySem.Spec PyProof.Rows
section
variable {prog : Program} {w : World} {A : Around} {E : Value → Shared → Prop} {s : Shared} {K : PySem.W.Frag} {x dx C f : Addr} {mA : Str → Option Value} {name : Str} {v : Value}
end
section
variable {P : Program} {w : World} {H H' : Hp} {h h' : Heap} {a C dx : Addr} {fs fs' : List (Str × V)}
end
section
variable {X : Cx} {pins : List (Addr × Obj)} {σ : St} {H : Hp} {s : Shared} {a C dx : Addr} {fs : List (Str × V)} {f : Str} {v : V} {A : Around} {E : Value → Shared → Prop}
theorem Inv.made (I : Inv X pins σ H s) : Inv X pins σ (upd (upd H s.heap.objs.size (.own (s.heap.objs.size + 1))) (s.heap.objs.size + 1) (.ins C s.heap.objs.size []))
    { s with heap := (s.heap.push PySem.W.emptyDict).push (PySem.W.instObj C s.heap.objs.size) } := by
  have e1 : (s.heap.push PySem.W.emptyDict).get? s.heap.objs.size = some PySem.W.emptyDict := Heap.get?_push_size s.heap rfl
  have e2 : ((s.heap.push PySem.W.emptyDict).push (PySem.W.instObj C s.heap.objs.size)).get? (s.heap.objs.size + 1) = some (PySem.W.instObj C s.heap.objs.size) := by
    have := Heap.get?_push_size (s.heap.push PySem.W.emptyDict) (o := PySem.W.instObj C s.heap.objs.size) rfl
    rwa [Heap.size_push] at this
  have e3 : (s.heap.push PySem.W.emptyDict).Ns s.heap.objs.size (fun _ => none) := ⟨PySem.W.emptyDict, #[], _, e1, rfl, (fun e he => absurd he (by simp)), fun _ => rfl⟩
  have I1 := I.laid (a := s.heap.objs.size) (o := .own (s.heap.objs.size + 1)) (h' := s.heap.push PySem.W.emptyDict) (t' := s.toks) (fun b u q => Heap.get?_push_of_some _ q) (Nat.le_refl _) ⟨_, e1⟩
  refine I1.laid (a := s.heap.objs.size + 1) (o := .ins C s.heap.objs.size []) (t' := s.toks) (fun b u q => Heap.get?_push_of_some _ q) (Nat.le_of_eq (Heap.size_push _ _)) ?_
  have ne : s.heap.objs.size ≠ s.heap.objs.size + 1 := Nat.ne_of_lt (Nat.lt_succ_self _)
  refine ⟨by rw [upd_ne ne, upd_same], Nat.zero_le _, ne, e2, fun _ => none, (Heap.Ns1.of_empty e3).at fun o q => Heap.get?_push_of_some _ q, fun _ => True.intro, fun y hy => absurd rfl hy⟩
end
section
variable {X : Cx} {o e value : Expr} {f : Str} {pos pos' tpos : Pos} {ta tv : TE}
end
section
variable {X : Cx} {pins : List (Addr × Obj)} {σ : St} {H : Hp} {s : Shared} {A : Around} {E : Value → Shared → Prop} {Q : Value → Shared → Prop} {c : Value} {b : Bool}
end
end L2
namespace L2
open PySem PySem.Spec PyProof.Rows
structure Room (k : Nat) (A : Around) : Prop where
  hd : A.handled = none
  dp : A.depth + 3 * k + 5 < recursionLimit
  un : A.units + 16 * k + 200 < cLine
theorem Room.mono {j k : Nat} {A : Around} (r : Room k A) (h : j ≤ k) : Room j A := ⟨r.hd, by have := r.dp; omega, by have := r.un; omega⟩
theorem Room.deeper {k : Nat} {A : Around} (r : Room (k + 1) A) (env : Env) : Room k (A.deeper env) :=
  ⟨r.hd, by have := r.dp; show A.depth + 1 + 3 * k + 5 < _; omega, by have := r.un; show A.units + 3 + 16 * k + 200 < _; omega⟩
theorem Room.in1 {k : Nat} {A : Around} (r : Room (k + 1) A) : Room k A.in1 :=
  ⟨r.hd, by have := r.dp; show A.depth + 3 * k + 5 < _; omega, by have := r.un; show A.units + 1 + 16 * k + 200 < _; omega⟩
theorem Room.depth {k : Nat} {A : Around} (r : Room k A) : A.depth < recursionLimit := by have := r.dp; omega
theorem Room.units {k : Nat} {A : Around} (r : Room k A) : A.units + 64 < cLine := by have := r.un; omega
noncomputable abbrev tNil : TA := fun _ H Q => Q [] H
noncomputable abbrev tCons (ta : TE) (tr : TA) : TA := fun σ H Q => ta σ H fun x H1 => tr σ H1 fun xs H2 => Q (x :: xs) H2
section
variable {X : Cx} {e : Expr} {es : List Expr} {te : TE} {t : TA} {pos : Pos}
theorem pa_nil : PA X [] tNil := fun _ _ _ _ H Q I h => Calls.spliced_nil ⟨[], H, I, .nil, h⟩
theorem pa_cons (ha : PE X e te) (hr : PA X es t) (hs : starEach (e :: es) X.env = (false, eval e X.env) :: starEach es X.env := by rfl) : PA X (e :: es) (tCons te t) := by
  intro pos pins s σ H Q I h
  rw [hs]
  show wpAny _ _ (spliced ((false, eval e X.env) :: backTo pos (starEach es X.env))) _ _ s
  refine Calls.spliced_cons (thn (ha pins s σ H _ I h) fun u s1 ⟨x, H1, I1, r1, q1⟩ => ?_)
  exact thn (hr pos pins s1 σ H1 _ I1 q1) fun us s2 ⟨xs, H2, I2, r2, q2⟩ => ⟨x :: xs, H2, I2, .cons r1 r2, q2⟩
noncomputable abbrev tTup (t : TA) : TE := fun σ H Q => t σ H fun xs H1 => xs.length ≤ sizeLine ∧ ∀ p, H1 p = none → Q (.ref p) (upd H1 p (.tup xs))
noncomputable abbrev tLst (t : TA) : TE := fun σ H Q => t σ H fun xs H1 => xs.length ≤ sizeLine ∧ ∀ p, H1 p = none → Q (.ref p) (upd H1 p (.lst xs))
theorem pe_tup {x1} (h : PA X es t) : PE X (.Tuple es x1 pos) (tTup t) := by
  intro pins s σ H Q I hq
  refine wpAny_Tuple_spliced (thn (h pos pins s σ H _ I hq) fun us s1 ⟨xs, H1, I1, r, z, q⟩ => ⟨by rw [← r.length]; exact z, ?_⟩)
  have hf : H1 s1.heap.objs.size = none := I1.hok.fresh (Nat.le_refl _)
  refine ⟨.ref s1.heap.objs.size, upd H1 s1.heap.objs.size (.tup xs), I1.laid (t' := s1.toks) (fun b u e => Heap.get?_push_of_some _ e) (Nat.le_refl _) ?_, rfl, q _ hf⟩
  exact ⟨z, us, r, ⟨_, Heap.get?_push_size _ rfl, rfl, _, rfl⟩⟩
theorem pe_lst (h : PA X es t) : PE X (.List es pos) (tLst t) := by
  intro pins s σ H Q I hq
  refine wpAny_List_spliced (thn (h pos pins s σ H _ I hq) fun us s1 ⟨xs, H1, I1, r, z, q⟩ => ⟨by rw [← r.length]; exact z, ?_⟩)
  have hf : H1 s1.heap.objs.size = none := I1.hok.fresh (Nat.le_refl _)
  refine ⟨.ref s1.heap.objs.size, upd H1 s1.heap.objs.size (.lst xs), I1.laid (t' := s1.toks) (fun b u e => Heap.get?_push_of_some _ e) (Nat.le_refl _) ?_, rfl, q _ hf⟩
  exact ⟨z, us, 0, r, Heap.get?_push_size _ rfl⟩
end
noncomputable abbrev Sp := List V → Hp → VK → XK → Prop
noncomputable abbrev CXT := List Env → Hp → Shared → XK → Value → Shared → Prop
structure Env0 (P : Program) (w : World) (K : PySem.W.Frag) (mg : Str → Option Value) (base : Heap) (A : Around) (outer : List Env) (s : Shared) (H : Hp) : Prop where
  frames : A.frames = some outer
  mod : Mod K mg base
  bs : ∀ b o, base.get? b = some o → s.heap.get? b = some o ∧ H b = none
  bsz : base.objs.size ≤ s.heap.objs.size
  funs : s.heap.FunFrames base outer
  frf : ∀ b ∈ frs outer, H b = none
  hok : HOk P w H s.heap
  bare : AllBare s.gens
noncomputable def CE (outer : List Env) (P : Program) (w : World) (H : Hp) (s : Shared) (Q : VK) (u : Value) (s' : Shared) : Prop :=
  ∃ v H', s'.os = s.os ∧ AllBare s'.gens ∧ Un (frs outer) [] H H' s.heap s'.heap ∧ HOk P w H' s'.heap ∧ RelV v u ∧ Q v H'
noncomputable def CR (CX : CXT) (outer : List Env) (P : Program) (w : World) (H : Hp) (s : Shared) (Q : VK) (E : XK) (r : Result) (s' : Shared) : Prop :=
  match r with
  | .ok (.ret u) => CE outer P w H s Q u s'
  | .ok _ => False
  | .error e => CX outer H s E e s'
structure FnOk (P : Program) (w : World) (K : PySem.W.Frag) (mg : Str → Option Value) (base : Heap) (CX : CXT) (k : Nat) (f : Addr) (fd : FuncData) (ps : List Str) (sp : Sp) : Prop where
  len : ∀ vs H Q E, sp vs H Q E → vs.length = ps.length
  run : ∀ (A : Around) (outer : List Env) (s : Shared) (H : Hp) (args : Args) (us : List Value) (vs : List V) (Q : VK) (E : XK), Room k A → Env0 P w K mg base A outer s H → BindsTo s fd args (ps.zip us) → Vals vs us → sp vs H Q E →
    codeAny (model P w) A (.call (.ref f) args) (CR CX outer P w H s Q E) s
theorem FnOk.mono {P : Program} {w : World} {K : PySem.W.Frag} {mg : Str → Option Value} {base : Heap} {CX : CXT} {j k : Nat} {f : Addr} {fd : FuncData} {ps : List Str} {sp : Sp} (F : FnOk P w K mg base CX j f fd ps sp) (h : j ≤ k) :
    FnOk P w K mg base CX k f fd ps sp := ⟨F.len, fun A outer s H args us vs Q E hr => F.run A outer s H args us vs Q E (hr.mono h)⟩
theorem FnOk.imp {P : Program} {w : World} {K : PySem.W.Frag} {mg : Str → Option Value} {base : Heap} {CX : CXT} {k : Nat} {f : Addr} {fd : FuncData} {ps : List Str} {sp sp' : Sp} (F : FnOk P w K mg base CX k f fd ps sp)
    (h : ∀ vs H Q E, sp' vs H Q E → sp vs H Q E) : FnOk P w K mg base CX k f fd ps sp' :=
  ⟨fun vs H Q E q => F.len vs H Q E (h _ _ _ _ q), fun A outer s H args us vs Q E hr he hb hv hs => F.run A outer s H args us vs Q E hr he hb hv (h _ _ _ _ hs)⟩
theorem Env0.in1 {P : Program} {w : World} {K : PySem.W.Frag} {mg : Str → Option Value} {base : Heap} {A : Around} {outer : List Env} {s : Shared} {H : Hp} (e : Env0 P w K mg base A outer s H) :
    Env0 P w K mg base A.in1 outer s H := ⟨e.frames, e.mod, e.bs, e.bsz, e.funs, e.frf, e.hok, e.bare⟩
section
variable {X : Cx} {pins : List (Addr × Obj)} {σ : St} {H : Hp} {s s' : Shared}
theorem Inv.env0 (I : Inv X pins σ H s) : Env0 X.prog X.w X.K X.mg X.base X.A X.stack s H :=
  ⟨I.ok.frames, I.ok.mod, I.bs, Nat.le_trans I.ok.bsz I.sz, I.stack, I.stkFree, I.hok, I.bare⟩
theorem Inv.after {Q : VK} {u : Value} (I : Inv X pins σ H s) (h : CE X.stack X.prog X.w H s Q u s') : EP X pins σ Q u s' := by
  obtain ⟨v, H', os, bare, un, hok, r, q⟩ := h
  obtain ⟨hh, g, d, t, os'⟩ := s'
  obtain rfl : os' = s.os := os
  exact ⟨v, H', I.call (h' := hh) (g' := g) (d' := d) (t' := t) (ch := []) un hok bare (fun b z => absurd z (by simp)), r, q⟩
end
noncomputable abbrev tCall (sp : Sp) (dvs : List V) (E : XK) (t : TA) : TE := fun σ H Q => t σ H fun vs H1 => sp (vs ++ dvs) H1 Q E
noncomputable def Binds (K : PySem.W.Frag) (fd : FuncData) (ps : List Str) (ds : List Value) : Prop :=
  ∀ (s : Shared) (us : List Value), K.In s.heap → (us ++ ds).length = ps.length → BindsTo s fd ⟨us, []⟩ (ps.zip (us ++ ds))
theorem Binds.all {K : PySem.W.Frag} {fd : FuncData} {ps : List Str} (h : ∀ us : List Value, us.length = ps.length → bindArgs fd ⟨us, []⟩ = pure (ps.zip us)) : Binds K fd ps [] := fun s us _ hl => by
  rw [List.append_nil] at hl ⊢
  exact .of_eq (h us hl)
noncomputable def Passes (CX : CXT) (X : Cx) (E : XK) : Prop := ∀ (pins : List (Addr × Obj)) (σ : St) (H : Hp) (s : Shared) (e : Value) (s' : Shared), Inv X pins σ H s → CX X.stack H s E e s' → X.xe e s'
section
variable {X : Cx} {CX : CXT} {k : Nat} {f C : Addr} {fd : FuncData} {ps : List Str} {sp : Sp} {dvs : List V} {ds : List Value} {E : XK} {x m : Str} {p pos apos : Pos} {e o : Expr} {es : List Expr} {ta : TE} {t : TA}
theorem run_fn {pins : List (Addr × Obj)} {σ : St} {H : Hp} {s : Shared} {Q : VK} {us : List Value} {vs : List V} (F : FnOk X.prog X.w X.K X.mg X.base CX k f fd ps sp) (hr : Room k X.A) (hb : Binds X.K fd ps ds) (hd : Vals dvs ds) (hx : Passes CX X E)
    (I : Inv X pins σ H s) (r : Vals vs us) (h : sp (vs ++ dvs) H Q E) : wpAny (model X.prog X.w) X.A (call (.ref f) us) (EP X pins σ Q) X.xe s := by
  have r2 : Vals (vs ++ dvs) (us ++ ds) := r.append hd
  have hl : (us ++ ds).length = ps.length := by rw [← r2.length]; exact F.len _ _ _ _ h
  refine wpAny_call (codeAny_mono (F.run X.A X.stack s H ⟨us, []⟩ (us ++ ds) (vs ++ dvs) Q E hr I.env0 (hb s us I.kIn hl) r2 h) fun r s' hq => ?_)
  cases r with
  | error e => exact hx pins σ H s e s' I hq
  | ok fl =>
    cases fl with
    | ret u => exact I.after hq
    | next => exact False.elim hq
    | brk => exact False.elim hq
    | cont => exact False.elim hq
theorem pe_call (F : FnOk X.prog X.w X.K X.mg X.base CX k f fd ps sp) (hr : Room k X.A) (hg : Gl X x) (hm : X.mg x = some (.ref f)) (hk : PySem.W.keepIn X.K (.ref f) = true) (hb : Binds X.K fd ps ds) (hd : Vals dvs ds) (hx : Passes CX X E)
    (ha : PA X (e :: es) t) (hdb : (x == ("__debug__" : Str)) = false := by decide) (he : starEach (e :: es) X.env = (false, eval e X.env) :: starEach es X.env := by rfl) (hpl : (backTo pos (starEach es X.env)).any (·.1) = false := by rfl) :
    PE X (.Call (.Name x p) (e :: es) [] pos) (tCall sp dvs E t) := by
  intro pins s σ H Q I h
  refine wpAny_Call_Name_kw (ld_glob I hg hm ?_ hdb)
  refine PySem.W.callWith_K (h₀ := X.base) I.ok.mod.kin hk (thn (ha pos pins s σ H _ I h) fun us s1 ⟨vs, H1, I1, r, q⟩ => ⟨I1.kIn, ?_⟩) he hpl
  exact run_fn F hr hb hd hx I1 r q
end
section
variable {X : Cx} {CX : CXT} {k : Nat} {f C : Addr} {fd : FuncData} {ps ks : List Str} {sp : Sp} {E : XK} {x m : Str} {p pos apos kpos : Pos} {e o : Expr} {es : List Expr} {kws : List Keyword} {te ta : TE} {t tk : TA} {nm : Option Str}
variable {g : List Value → List Value → List Value} {gV : List V → List V → List V}
end
structure FnScope (N P : List Str) (sc : Scope) : Prop where
  kind : sc.kind = .function
  co : sc.isCoroutine = false
  gen : sc.isGenerator = false
  nd : N.Nodup
  pre : N.take P.length = P
  par : ∀ x ∈ P, sc.names.lookup x = some .local ∨ sc.names.lookup x = some .cell
  nofree : ∀ y ∈ sc.names, y.2 ≠ .free
theorem bindL_out {kindOf : Str → Option NameKind} {x : Str} : ∀ {binds : List (Str × Value)} {m : Str → Option Value}, (∀ v, (x, v) ∉ binds) → bindL kindOf binds m x = m x
  | [], _, _ => rfl
  | (n, v) :: r, m, h => by
    unfold bindL
    rw [bindL_out fun w hw => h w (List.mem_cons_of_mem _ hw)]
    split
    · have : x ≠ n := by rintro rfl; exact h v List.mem_cons_self
      simp [this]
    · rfl
theorem bindC_out {kindOf : Str → Option NameKind} {x : Str} : ∀ {binds : List (Str × Value)} {m : Str → Option Value}, (∀ v, (x, v) ∉ binds) → bindC kindOf binds m x = m x
  | [], _, _ => rfl
  | (n, v) :: r, m, h => by
    unfold bindC
    rw [bindC_out fun w hw => h w (List.mem_cons_of_mem _ hw)]
    split
    · rfl
    · have : x ≠ n := by rintro rfl; exact h v List.mem_cons_self
      simp [this]
theorem bindL_get {kindOf : Str → Option NameKind} {x : Str} {v : Value} : ∀ {P : List Str} {vs : List Value} {i : Nat} {m : Str → Option Value}, P.Nodup → P[i]? = some x → vs[i]? = some v → kindOf x = some .local →
    bindL kindOf (P.zip vs) m x = some v
  | [], _, _, _, _, h, _, _ => by simp at h
  | _ :: _, [], _, _, _, _, h, _ => by simp at h
  | p :: P, w :: vs, 0, m, nd, h1, h2, hk => by
    simp at h1 h2; subst h1; subst h2
    show bindL kindOf ((p, w) :: P.zip vs) m p = _
    unfold bindL
    rw [bindL_out fun v hv => (List.nodup_cons.mp nd).1 (List.of_mem_zip hv).1, if_pos hk]
    simp
  | p :: P, w :: vs, i + 1, m, nd, h1, h2, hk => by
    show bindL kindOf ((p, w) :: P.zip vs) m x = _
    unfold bindL
    exact bindL_get (i := i) (List.nodup_cons.mp nd).2 (by simpa using h1) (by simpa using h2) hk
theorem bindC_get {kindOf : Str → Option NameKind} {x : Str} {v : Value} : ∀ {P : List Str} {vs : List Value} {i : Nat} {m : Str → Option Value}, P.Nodup → P[i]? = some x → vs[i]? = some v → kindOf x ≠ some .local →
    bindC kindOf (P.zip vs) m x = some v
  | [], _, _, _, _, h, _, _ => by simp at h
  | _ :: _, [], _, _, _, _, h, _ => by simp at h
  | p :: P, w :: vs, 0, m, nd, h1, h2, hk => by
    simp at h1 h2; subst h1; subst h2
    show bindC kindOf ((p, w) :: P.zip vs) m p = _
    unfold bindC
    rw [bindC_out fun v hv => (List.nodup_cons.mp nd).1 (List.of_mem_zip hv).1, if_neg hk]
    simp
  | p :: P, w :: vs, i + 1, m, nd, h1, h2, hk => by
    show bindC kindOf ((p, w) :: P.zip vs) m x = _
    unfold bindC
    exact bindC_get (i := i) (List.nodup_cons.mp nd).2 (by simpa using h1) (by simpa using h2) hk
noncomputable def start (N : List Str) (vs : List V) : St := vs.map some ++ List.replicate (N.length - vs.length) none
noncomputable def cxOf (CX : CXT) (P : Program) (w : World) (K : PySem.W.Frag) (mg : Str → Option Value) (base : Heap) (N : List Str) (qual : Str) (scope : Scope) (f : Addr) (cd : Value) (A : Around) (outer : List Env) (s : Shared) (H : Hp) (E : XK) : Cx where
  prog := P
  w := w
  K := K
  mg := mg
  base := base
  A := A.deeper (envOfC qual scope s.heap.objs.size f cd)
  N := N
  s₀ := s
  H₀ := H
  env := envOfC qual scope s.heap.objs.size f cd
  outer := outer
  stack := envOfC qual scope s.heap.objs.size f cd :: outer
  ex := []
  calm := true
  fn := fun _ => true
  pn := []
  xe := fun e s' => wpAny (model P w) (A.deeper (envOfC qual scope s.heap.objs.size f cd)) (leaving (envOfC qual scope s.heap.objs.size f cd) e) (fun _ s'' => CX outer H s E e s'') (fun e' s'' => CX outer H s E e' s'') s'
theorem cell_has {sc : Scope} {n : Nat} {x : Str} (h : sc.names.lookup x = some .cell) : ∃ c, (cellsFrom n sc.names []).lookup x = some c := by
  have q := PySem.W.cellsFrom_some sc.names n [] (.inl h)
  exact Option.isSome_iff_exists.mp q
theorem inv_start {CX : CXT} {P : Program} {w : World} {K : PySem.W.Frag} {mg : Str → Option Value} {base : Heap} {N ps : List Str} {qual : Str} {scope : Scope} {f : Addr} {cd : Value} {A : Around} {outer : List Env} {s s1 : Shared} {H : Hp} {E : XK} {us : List Value} {vs : List V}
    (S : FnScope N ps scope) (hd : A.handled = none) (e0 : Env0 P w K mg base A outer s H) (hl : vs.length = ps.length) (r : Vals vs us)
    (x : InCallC s s.heap.objs.size (bindL (envOfC qual scope s.heap.objs.size f cd).kindOf (ps.zip us) fun _ => none) (cellsFrom (s.heap.objs.size + 1) scope.names []) (bindC (envOfC qual scope s.heap.objs.size f cd).kindOf (ps.zip us) fun _ => none) s1) :
    Inv (cxOf CX P w K mg base N qual scope f cd A outer s H E) [] (start N vs) H s1 := by
  have hpl : ps.length ≤ N.length := by have := congrArg List.length S.pre; rw [List.length_take] at this; omega
  obtain ⟨h1, tk, rfl, hk⟩ := x.done
  have noA : ∀ b : Addr, b ∉ (cxOf CX P w K mg base N qual scope f cd A outer s H E).ex := fun b z => absurd (show b ∈ ([] : List Addr) from z) (by simp)
  refine ⟨⟨e0.mod, S.kind, rfl, rfl, Nat.le_refl _, fun y z c h1 h2 => ?_, fun y hy => ?_, fun y c _ h => ?_, fun _ => hd, Around.frames_deeper e0.frames, .inr ⟨rfl, rfl⟩, fun b z => absurd z (noA b), e0.bs, e0.bsz, fun b _ _ => noA b, fun b z => absurd z (noA b), e0.funs, e0.frf⟩,
    rfl, e0.bare, Un.kept hk, ⟨_, x.toInCall.ns, fun i y v h1 h2 h3 => ?_⟩, fun y c h => ⟨_, x.cell y c h⟩, e0.hok.fresh (Nat.le_refl _), fun y c h => ?_, fun p hp => absurd (show p ∈ ([] : List (Addr × Obj)) from hp) (by simp), e0.hok.kept hk, ?_⟩
  · exact name_of_addr x.apart (PySem.mem_of_lookup h1) (PySem.mem_of_lookup h2)
  · have hy : scope.names.lookup y = some .cell ∨ scope.names.lookup y = some .free := hy
    rcases hy with hy | hy
    · exact cell_has hy
    · exact absurd rfl (S.nofree _ (PySem.mem_of_lookup hy))
  · exact Nat.le_of_lt (x.above y c (PySem.mem_of_lookup h))
  · have hi : i < vs.length := by
      unfold start at h2
      by_cases hi : i < vs.length
      · exact hi
      · rw [List.getElem?_append_right (by simpa using hi)] at h2
        rw [List.getElem?_replicate] at h2
        split at h2 <;> cases h2
    have ha : vs[i]? = some v := by
      unfold start at h2
      rw [List.getElem?_append_left (by simpa using hi), List.getElem?_map] at h2
      cases e : vs[i]? with
      | none => rw [e] at h2; cases h2
      | some a => rw [e] at h2; cases h2; rfl
    obtain ⟨u, hu, rv⟩ := r.get ha
    have hp : ps[i]? = some y := by
      rw [← S.pre, List.getElem?_take_of_lt (by omega)]; exact h1
    have ndP : ps.Nodup := by rw [← S.pre]; exact S.nd.sublist (List.take_sublist _ _)
    refine ⟨u, rv, ?_⟩
    rcases S.par y (List.mem_of_getElem? hp) with k | k
    · exact .inl ⟨k, bindL_get ndP hp hu k⟩
    · obtain ⟨c, e⟩ := cell_has (n := s.heap.objs.size + 1) k
      refine .inr ⟨.inl k, c, e, ?_⟩
      have q := x.cell y c e
      rw [bindC_get ndP hp hu (by show scope.names.lookup y ≠ _; rw [k]; decide)] at q
      exact q
  · exact e0.hok.fresh (Nat.le_of_lt (x.above y c (PySem.mem_of_lookup h)))
  · unfold start
    show _ = N.length
    rw [List.length_append, List.length_map, List.length_replicate]
    omega
theorem fn_of {CX : CXT} {P : Program} {w : World} {K : PySem.W.Frag} {mg : Str → Option Value} {base : Heap} {k : Nat} {f : Addr} {name qual : Str} {params : Arguments} {body : List Stmt} {scope : Scope} {dV kV doc pm cdv ct oc : Value} {an od : Option Addr}
    {osl : Array (Option Value)} {N ps : List Str} {sp : Sp} (lk : K.lookup f = some ⟨oc, od, .func (PySem.W.fnOf name qual params body scope dV kV doc pm an cdv ct), osl⟩) (hcd : PySem.W.codeIn K cdv qual = true) (S : FnScope N ps scope)
    (len : ∀ vs H Q E, sp vs H Q E → vs.length = ps.length)
    (hbody : ∀ (A : Around) (outer : List Env) (s : Shared) (H : Hp) (vs : List V) (Q : VK) (E : XK), Room k (A.deeper (envOfC qual scope s.heap.objs.size f cdv)) → sp vs H Q E →
      ∃ t, PSs (cxOf CX P w K mg base N qual scope f cdv A outer s H E) body t ∧ t { nx := fun _ H' => Q .non H', rt := Q } (start N vs) H) :
    FnOk P w K mg base CX (k + 1) f (PySem.W.fnOf name qual params body scope dV kV doc pm an cdv ct) ps sp := by
  refine ⟨len, fun A outer s H args us vs Q E hr e0 hb r hsp => ?_⟩
  have hl := len _ _ _ _ hsp
  have KX : K.In s.heap := e0.mod.kin.keeps fun b o e => (e0.bs b o e).1
  have lim : s.heap.NoLimit := e0.mod.nolimit.keeps fun b o e => (e0.bs b o e).1
  have hkind : ∀ y ∈ ps.zip us, scope.names.lookup y.1 = some .local ∨ (scope.names.lookup y.1 = some .cell ∧ ((cellsFrom (s.heap.objs.size + 1) scope.names []).lookup y.1).isSome = true) := fun ⟨n, v⟩ hy => by
    rcases S.par n (List.of_mem_zip hy).1 with q | q
    · exact .inl q
    · exact .inr ⟨q, PySem.W.cellsFrom_some _ _ _ (.inl q)⟩
  refine codeAny_call_function hr.depth (KX _ _ lk) rfl S.co S.gen rfl (PySem.W.codeRec_of KX hcd) (hb _ _ _ _ ?_)
  refine wpAny_newFunctionEnv_cells S.kind hkind fun env he s1 x => ?_
  subst he
  refine ⟨lim.keeps x.toInCall.keep, codeAny_func ?_⟩
  obtain ⟨t, ht, hq⟩ := hbody A outer s H vs Q E (hr.deeper _) hsp
  have I : Inv (cxOf CX P w K mg base N qual scope f cdv A outer s H E) [] (start N vs) H s1 := inv_start S hr.hd e0 hl r x
  refine wpAny_mono (ht [] s1 (start N vs) H _ I hq) (fun fl s' hs => ?_) fun e s' hs => hs
  have fin : ∀ {σ' : St} {H' : Hp} {v : V} {u : Value}, Inv (cxOf CX P w K mg base N qual scope f cdv A outer s H E) [] σ' H' s' → RelV v u → Q v H' → CE outer P w H s Q u s' :=
    fun {σ' H' v u} J rv q => ⟨v, H', J.os, J.bare, J.base, J.hok, rv, q⟩
  cases fl with
  | ret u =>
    obtain ⟨v, σ', H', J, rv, q⟩ := hs
    exact fin J rv q
  | next =>
    obtain ⟨σ', H', J, q⟩ := hs
    exact fin (v := V.non) (u := Value.none) J rfl q
  | brk =>
    obtain ⟨_, _, _, q⟩ := hs
    exact False.elim q
  | cont =>
    obtain ⟨_, _, _, q⟩ := hs
    exact False.elim q
end L2
namespace L2
open PySem PySem.Spec PyProof.Rows
section
variable {X : Cx} {x : Str} {p pos : Pos} {e : Expr} {es : List Expr} {t : TA} {id T : String} {r : List V → Hp → VK → Prop}
noncomputable abbrev tCB (r : List V → Hp → VK → Prop) (t : TA) : TE := fun σ H Q => t σ H fun vs H1 => r vs H1 Q
theorem pe_callB (hc : CallR X (.builtin id) r) (hg : Gl X x) (hm : X.mg x = none) (hv : bootBuiltins x = some (.builtin id)) (ha : PA X (e :: es) t) (hn : x ≠ "__name__" := by decide) (hdb : (x == ("__debug__" : Str)) = false := by decide)
    (he : starEach (e :: es) X.env = (false, eval e X.env) :: starEach es X.env := by rfl) (hpl : (backTo pos (starEach es X.env)).any (·.1) = false := by rfl) : PE X (.Call (.Name x p) (e :: es) [] pos) (tCB r t) := by
  intro pins s σ H Q I h
  refine wpAny_Call_Name_kw (ld_blt I hg hm hv ?_ hn hdb)
  exact PyProof.Rows.callWith_builtin1 (thn (ha pos pins s σ H _ I h) fun us s1 ⟨vs, H1, I1, r1, q1⟩ => hc pins s1 σ H1 vs us Q I1 r1 q1) he hpl
theorem pe_callTy (hc : CallR X (.type T) r) (hg : Gl X x) (hm : X.mg x = none) (hv : bootBuiltins x = some (.type T)) (ha : PA X (e :: es) t) (hn : x ≠ "__name__" := by decide) (hdb : (x == ("__debug__" : Str)) = false := by decide)
    (he : starEach (e :: es) X.env = (false, eval e X.env) :: starEach es X.env := by rfl) (hpl : (backTo pos (starEach es X.env)).any (·.1) = false := by rfl) : PE X (.Call (.Name x p) (e :: es) [] pos) (tCB r t) := by
  intro pins s σ H Q I h
  refine wpAny_Call_Name_kw (ld_blt I hg hm hv ?_ hn hdb)
  exact PyProof.Rows.callWith_type1 (thn (ha pos pins s σ H _ I h) fun us s1 ⟨vs, H1, I1, r1, q1⟩ => hc pins s1 σ H1 vs us Q I1 r1 q1) he hpl
end
end L2
namespace HT
open PySem PyProof.Rows
section
open PySem.SeqAt
open PySem.AutoSeq1 (wpAny_loadPart')
open PySem.MeetsSeq PySem.MeetsSeq2 PySem.MeetsSeq3
end
section
variable {prog : Program} {w : World} {A : Around} {E : Value → Shared → Prop} {s : Shared}
noncomputable def sIx (n d : Nat) : Option Int → Nat
  | none => d
  | some v => if v < 0 then (v + (n : Int)).toNat else min v.toNat n
theorem sIx_none (n d : Nat) : sIx n d none = d := rfl
theorem sIx_nat (n d k : Nat) : sIx n d (some (k : Int)) = min k n := by
  show (if (k : Int) < 0 then ((k : Int) + (n : Int)).toNat else min (k : Int).toNat n) = min k n
  rw [if_neg (by omega), Int.toNat_natCast]
theorem sIx_le (n d : Nat) (hd : d ≤ n) (o : Option Int) : sIx n d o ≤ n := by
  cases o with
  | none => exact hd
  | some v =>
    show (if v < 0 then (v + (n : Int)).toNat else min v.toNat n) ≤ n
    by_cases hv : v < 0
    · rw [if_pos hv]; omega
    · rw [if_neg hv]; exact Nat.min_le_right _ _
theorem clip_eq (v : Int) (n d : Nat) : (if v < 0 then max (v + (n : Int)) 0 else min v (n : Int)) = ((sIx n d (some v) : Nat) : Int) := by
  show (if v < 0 then max (v + (n : Int)) 0 else min v (n : Int)) = (((if v < 0 then (v + (n : Int)).toNat else min v.toNat n) : Nat) : Int)
  by_cases hv : v < 0
  · simp only [if_pos hv]; omega
  · simp only [if_neg hv]; omega
theorem adjust_gen (lo hi : Option Int) (n : Nat) : Builtin.Slice.sliceAdjust lo hi 1 (n : Int) = (((sIx n 0 lo : Nat) : Int), ((sIx n n hi : Nat) : Int)) := by
  have h1 : ¬ ((1 : Int) < 0) := by omega
  unfold Builtin.Slice.sliceAdjust
  simp only [h1, if_false]
  refine Prod.ext ?_ ?_
  · cases lo with
    | none => rfl
    | some v => exact clip_eq v n 0
  · cases hi with
    | none => rfl
    | some v => exact clip_eq v n n
theorem places_gen (i j : Nat) : Builtin.Slice.slicePlaces (i : Int) (j : Int) 1 = j - i := by
  unfold Builtin.Slice.slicePlaces
  have h1 : (1 : Int) > 0 := by omega
  simp only [h1, if_true, Int.ediv_one]
  split <;> omega
theorem slicePart_ {v : Value} {o : Option Int} {Q : Option Int → Shared → Prop} (p : IsPart v o) (h : Q o s) : wpAny (model prog w) A (Builtin.Slice.slicePartIndex v) Q E s := by
  cases p with
  | none => exact slicePart_none h
  | int i t => exact slicePart_int h
theorem sliceApplied_gen {sl : Addr} {vl vu : Value} {lo hi : Option Int} {n : Nat} {Q : Int × Int × Nat → Shared → Prop} (hs : s.heap.IsSliceOf sl vl vu .none) (pl : IsPart vl lo) (pu : IsPart vu hi)
    (h : Q (((sIx n 0 lo : Nat) : Int), 1, sIx n n hi - sIx n 0 lo) s) : wpAny (model prog w) A (Builtin.Slice.sliceApplied (.ref sl) (pure (n : Int))) Q E s := by
  obtain ⟨os, hos, hcs, hds⟩ := id hs
  unfold Builtin.Slice.sliceApplied Builtin.Slice.sliceFields
  refine wpAny_bind (wpAny_bind (wpAny_field hos hds (x := vl) rfl (wpAny_bind (wpAny_field hos hds (x := vu) rfl (wpAny_bind (wpAny_field hos hds (x := .none) rfl (wpAny_pure ?_)))))))
  refine wpAny_bind (slicePart_none ?_)
  show wpAny _ _ (if ((1 : Int) == 0) = true then _ else _) _ _ s
  rw [if_neg (by decide)]
  refine wpAny_bind (slicePart_ pl (wpAny_bind (slicePart_ pu (wpAny_bind (wpAny_pure ?_)))))
  show wpAny _ _ (match Builtin.Slice.sliceAdjust lo hi 1 (n : Int) with | (lo, hi) => pure (lo, (1 : Int), Builtin.Slice.slicePlaces lo hi 1)) _ _ s
  rw [adjust_gen lo hi n]
  show wpAny _ _ (pure (((sIx n 0 lo : Nat) : Int), (1 : Int), Builtin.Slice.slicePlaces ((sIx n 0 lo : Nat) : Int) ((sIx n n hi : Nat) : Int) 1)) _ _ s
  rw [places_gen]
  exact wpAny_pure h
theorem pick_gen (xs : Array Value) (i k : Nat) : ((List.range k).filterMap fun (m : Nat) => xs[((i : Int) + (m : Int) * 1).toNat]?).toArray = ((xs.toList.drop i).take k).toArray := by
  have e : (fun (m : Nat) => xs[((i : Int) + (m : Int) * 1).toNat]?) = fun m => xs[i + m]? := by
    funext m
    have : ((i : Int) + (m : Int) * 1).toNat = i + m := by omega
    rw [this]
  rw [e]
  have := pick_run xs i k
  rw [List.filterMap_map] at this
  have e2 : ((fun x => xs[x]?) ∘ fun x => i + x) = fun m => xs[i + m]? := rfl
  rw [e2] at this
  rw [this]
theorem getItem_tuple_cut {t sl : Addr} {items : Array Value} {vl vu : Value} {lo hi : Option Int} {Q : Value → Shared → Prop} (ht : IsTup s.heap t items) (hs : s.heap.IsSliceOf sl vl vu .none) (pl : IsPart vl lo) (pu : IsPart vu hi)
    (hw : ¬ (sIx items.size 0 lo = 0 ∧ sIx items.size items.size hi = items.size))
    (h : Q (.ref s.heap.objs.size) { s with heap := s.heap.push { cls := .type "tuple", data := .seq ((items.toList.drop (sIx items.size 0 lo)).take (sIx items.size items.size hi - sIx items.size 0 lo)).toArray } })
    (hsz : items.size ≤ sizeLine) : wpAny (model prog w) A (getItem (.ref t) (.ref sl)) Q E s := by
  have htake : sizeOk (.seq ((items.toList.drop (sIx items.size 0 lo)).take (sIx items.size items.size hi - sIx items.size 0 lo)).toArray) := by
    show ((items.toList.drop (sIx items.size 0 lo)).take (sIx items.size items.size hi - sIx items.size 0 lo)).toArray.size ≤ sizeLine
    rw [List.size_toArray, List.length_take, List.length_drop, Array.length_toList]
    omega
  have hj : sIx items.size items.size hi ≤ items.size := sIx_le _ _ (Nat.le_refl _) hi
  obtain ⟨os, hos, hcs, hds⟩ := id hs
  have hTs : s.TypeIs (.ref sl) "slice" := ⟨os, hos, hcs⟩
  unfold getItem
  try with_reducible refine wpAny_holding ?_
  first | refine wpAny_bind (wpAny_pure ?_) | skip
  refine wpAny_bind (wpAny_sequenceKey ht.typeIs (by decide) ?_)
  refine wpAny_bind (wpAny_callSpecial?_slot (name := Str.ofString "__getitem__") ht.typeIs PyProof.Rows.slot_tuple_getitem
    (wpAny_call_entry PyProof.Rows.slot_tuple_getitem ht.typeIs entry_tuple_getitem ?_ (args_tuple_getitem _ _)))
  show wpAny _ _ (Builtin.Tuple.tupleItemsOf (.ref t) >>= _) _ _ s
  refine wpAny_bind (tupleItemsOf_ ht ?_)
  refine wpAny_bind (wpAny_typeOf hTs ?_)
  rw [if_pos (by decide)]
  refine wpAny_bind (sliceApplied_gen hs pl pu ?_)
  have hno : ¬ ((((sIx items.size 0 lo : Nat) : Int) == 0 && (1 : Int) == 1 && (sIx items.size items.size hi - sIx items.size 0 lo) == items.size) = true) := by
    intro q
    rw [Bool.and_eq_true, Bool.and_eq_true] at q
    have q1 : ((sIx items.size 0 lo : Nat) : Int) = 0 := eq_of_beq q.1.1
    have q2 : sIx items.size items.size hi - sIx items.size 0 lo = items.size := eq_of_beq q.2
    exact hw ⟨by omega, by omega⟩
  show wpAny _ _ (if (((sIx items.size 0 lo : Nat) : Int) == 0 && (1 : Int) == 1 && (sIx items.size items.size hi - sIx items.size 0 lo) == items.size) = true then _ else _) _ _ s
  rw [if_neg hno, pick_gen]
  first
    | exact wpAny_bind (m := Builtin.Tuple.tupleExact _) (wpAny_newObj_type (wpAny_pure ⟨_, rfl, wpAny_pure h⟩) htake)
    | exact wpAny_bind (m := Builtin.Tuple.tupleExact _) (wpAny_newObj_type (wpAny_bind (wpAny_pure (wpAny_pure ⟨_, rfl, wpAny_pure h⟩))) htake)
    | exact wpAny_bind (wpAny_bind (m := Builtin.Tuple.tupleExact _) (wpAny_newObj_type (wpAny_pure (wpAny_pure ⟨_, rfl, wpAny_pure h⟩)) htake))
    | exact wpAny_bind (wpAny_bind (m := Builtin.Tuple.tupleExact _) (wpAny_newObj_type (wpAny_pure ⟨_, rfl, wpAny_pure h⟩) htake))
end
end HT
namespace L2
open PySem PySem.Spec PyProof.Rows
noncomputable abbrev TO := St → Hp → (Option Int → Hp → Prop) → Prop
noncomputable def PO (X : Cx) (e : Option Expr) (t : TO) : Prop :=
  ∀ (pins : List (Addr × Obj)) (s : Shared) (σ : St) (H : Hp) (Q : Option Int → Hp → Prop), Inv X pins σ H s → t σ H Q →
    wpAny (model X.prog X.w) X.A (evalPart e X.env) (fun u s' => ∃ o H', Inv X pins σ H' s' ∧ IsPart u o ∧ Q o H') X.xe s
noncomputable abbrev tNoPart : TO := fun _ H Q => Q none H
noncomputable abbrev tPart (t : TE) : TO := fun σ H Q => t σ H fun x H1 => ∃ i, x = .int i ∧ Q (some i) H1
section
variable {X : Cx} {e : Expr} {te : TE} {lo hi : Option Expr} {tl th : TO} {pos p2 : Pos}
theorem po_none : PO X none tNoPart := by
  intro pins s σ H Q I h
  rw [evalPart_none]
  exact wpAny_pure ⟨none, H, I, .none, h⟩
theorem po_some (h : PE X e te) : PO X (some e) (tPart te) := by
  intro pins s σ H Q I hw
  rw [evalPart_some]
  refine thn (h pins s σ H _ I hw) fun u s1 ⟨x, H1, I1, r1, q1⟩ => ?_
  obtain ⟨i, rfl, q⟩ := q1
  obtain ⟨t, rfl⟩ := r1
  exact ⟨some i, H1, I1, .int i t, q⟩
noncomputable def SlR (X : Cx) (r : V → Option Int → Option Int → Hp → VK → Prop) : Prop :=
  ∀ (pins : List (Addr × Obj)) (s : Shared) (σ : St) (H : Hp) (x : V) (v vl vu : Value) (lo hi : Option Int) (sl : Addr) (Q : VK), Inv X pins σ H s → RelV x v → s.heap.IsSliceOf sl vl vu .none → IsPart vl lo → IsPart vu hi → r x lo hi H Q →
    ∃ T id, typeLookup (.type T) "__getitem__" = pure (some (.builtin id)) ∧ s.TypeIs v T ∧ wpAny (model X.prog X.w) X.A (getItem v (.ref sl)) (EP X pins σ Q) X.xe s
noncomputable abbrev tSl (r : V → Option Int → Option Int → Hp → VK → Prop) (te : TE) (tl th : TO) : TE := fun σ H Q => te σ H fun x H1 => tl σ H1 fun l H2 => th σ H2 fun u H3 => r x l u H3 Q
theorem pe_slice {r : V → Option Int → Option Int → Hp → VK → Prop} (hr : SlR X r) (he : PE X e te) (hl : PO X lo tl) (hu : PO X hi th) : PE X (.Subscript e (.Slice lo hi none p2) pos) (tSl r te tl th) := by
  intro pins s σ H Q I h
  refine Subscript_ (thn (he pins s σ H _ I h) fun v s1 ⟨x, H1, I1, r1, q1⟩ => ?_)
  refine wpAny_Slice (thn (hl pins s1 σ H1 _ I1 q1) fun vl s2 ⟨l, H2, I2, pl, q2⟩ => thn (hu pins s2 σ H2 _ I2 q2) fun vu s3 ⟨u, H3, I3, pu, q3⟩ => ?_)
  rw [evalPart_none]
  refine wpAny_pure ?_
  have I4 : Inv X pins σ H3 { s3 with heap := s3.heap.push { cls := .type "slice", data := .fields #[vl, vu, .none] } } := I3.kept (t' := s3.toks) fun b ob q => Heap.get?_push_of_some _ q
  obtain ⟨T, id, hT, ht, hg⟩ := hr pins { s3 with heap := s3.heap.push { cls := .type "slice", data := .fields #[vl, vu, .none] } } σ H3 x v vl vu l u s3.heap.objs.size Q I4 r1 (Heap.IsSliceOf.new ..) pl pu q3
  show wpAny (model X.prog X.w) X.A (subscriptTail e (.Slice lo hi none p2) v (.ref s3.heap.objs.size)) (EP X pins σ Q) X.xe { s3 with heap := s3.heap.push { cls := .type "slice", data := .fields #[vl, vu, .none] } }
  exact tail_any (ops := [.ref s3.heap.objs.size, v]) ht hT hg (by with_unfolding_all rfl)
noncomputable def cutV (xs : List V) (lo hi : Option Int) : List V := (xs.drop (HT.sIx xs.length 0 lo)).take (HT.sIx xs.length xs.length hi - HT.sIx xs.length 0 lo)
theorem cutV_length (xs : List V) (lo hi : Option Int) : (cutV xs lo hi).length ≤ xs.length := by
  unfold cutV
  rw [List.length_take, List.length_drop]
  omega
noncomputable def rSlT (K : PySem.W.Frag) : V → Option Int → Option Int → Hp → VK → Prop := fun x lo hi H Q => ∃ a xs, x = .ref a ∧ SqT K H a xs ∧
  ¬ (HT.sIx xs.length 0 lo = 0 ∧ HT.sIx xs.length xs.length hi = xs.length) ∧ ∀ p, H p = none → Q (.ref p) (upd H p (.tup (cutV xs lo hi)))
theorem sl_tup : SlR X (rSlT X.K) := by
  intro pins s σ H x v vl vu lo hi sl Q I rx hs pl pu h
  obtain ⟨a, xs, rfl, hx, hw, q⟩ := h
  cases rx
  obtain ⟨its, r, ht, hz⟩ := I.tuple hx
  have hlen : its.toArray.size = xs.length := by rw [List.size_toArray]; exact r.length.symm
  refine ⟨"tuple", _, PyProof.Rows.slot_tuple_getitem.lookup, ht.typeIs, ?_⟩
  refine HT.getItem_tuple_cut ht hs pl pu (by rw [hlen]; exact hw) ?_ (by rw [hlen]; exact hz)
  rw [hlen]
  refine ⟨.ref s.heap.objs.size, _, I.laid (t' := s.toks) (o := .tup (cutV xs lo hi)) (fun b ob q => Heap.get?_push_of_some _ q) (Nat.le_refl _) ?_, rfl, q _ (I.hok.fresh (Nat.le_refl _))⟩
  exact ⟨Nat.le_trans (cutV_length xs lo hi) hz, _, (r.drop (HT.sIx xs.length 0 lo)).take (HT.sIx xs.length xs.length hi - HT.sIx xs.length 0 lo), IsTup.new _ _⟩
end
end L2
namespace L2
open PySem PySem.Spec PyProof.Rows
noncomputable def ixN (n : Nat) (i : Int) : Option Nat := if 0 ≤ i then (if i < n then some i.toNat else none) else if -(n : Int) ≤ i then some (i + n).toNat else none
noncomputable def atI {α : Type} (xs : List α) (i : Int) : Option α := (ixN xs.length i).bind fun j => xs[j]?
theorem ixN_seq {n : Nat} {i : Int} {j : Nat} (h : ixN n i = some j) : seqIndex? i n = some j ∧ j < n ∧ -(n : Int) ≤ i ∧ i < n := by
  unfold ixN at h
  by_cases h0 : 0 ≤ i
  · rw [if_pos h0] at h
    by_cases h1 : i < n
    · rw [if_pos h1] at h
      have e : i.toNat = j := Option.some.inj h
      exact ⟨by rw [seqIndex_of h0 h1, e], by omega, by omega, h1⟩
    · rw [if_neg h1] at h; cases h
  · rw [if_neg h0] at h
    by_cases h1 : -(n : Int) ≤ i
    · rw [if_pos h1] at h
      have e : (i + n).toNat = j := Option.some.inj h
      exact ⟨by rw [seqIndex_neg (by omega) h1, e], by omega, h1, by omega⟩
    · rw [if_neg h1] at h; cases h
theorem atI_get {α : Type} {xs : List α} {i : Int} {v : α} (h : atI xs i = some v) : ∃ j, seqIndex? i xs.length = some j ∧ xs[j]? = some v ∧ j < xs.length ∧ -(xs.length : Int) ≤ i ∧ i < xs.length := by
  unfold atI at h
  cases e : ixN xs.length i with
  | none => rw [e] at h; cases h
  | some j =>
    rw [e] at h
    obtain ⟨h1, h2, h3, h4⟩ := ixN_seq e
    exact ⟨j, h1, h, h2, h3, h4⟩
theorem atI_nat {α : Type} {xs : List α} {j : Nat} {v : α} (h : xs[j]? = some v) : atI xs (j : Int) = some v := by
  have hj : j < xs.length := (List.getElem?_eq_some_iff.mp h).1
  have e : ixN xs.length (j : Int) = some j := by
    unfold ixN
    rw [if_pos (by omega), if_pos (by omega)]; simp
  unfold atI; rw [e]; exact h
noncomputable def PlainIx (b : Expr) : Prop := ∀ o i, subscripted b false o i = operate [o, i] (getItem o i)
noncomputable def IxR (X : Cx) (r : R2) : Prop :=
  ∀ (value slice : Expr) (pins : List (Addr × Obj)) (s : Shared) (σ : St) (H : Hp) (x y : V) (v u : Value) (Q : VK), Inv X pins σ H s → RelV x v → RelV y u → r x y H Q →
    subscripted slice false v u = operate [v, u] (getItem v u) → wpAny (model X.prog X.w) X.A (subscriptTail value slice v u) (EP X pins σ Q) X.xe s
noncomputable def MtR (X : Cx) (id : String) (r : V → List V → Hp → VK → Prop) : Prop :=
  ∀ (pins : List (Addr × Obj)) (s : Shared) (σ : St) (H : Hp) (x : V) (xs : List V) (v : Value) (us : List Value) (Q : VK), Inv X pins σ H s → RelV x v → Vals xs us → r x xs H Q →
    wpAny (model X.prog X.w) X.A (call (.builtin id) (v :: us)) (EP X pins σ Q) X.xe s
section
variable {X : Cx} {a b : Expr} {ta tb : TE} {pos : Pos}
theorem pe_ix {r : R2} (hr : IxR X r) (ha : PE X a ta) (hb : PE X b tb) (hs : PlainIx b) : PE X (.Subscript a b pos) (tOp r ta tb) := by
  intro pins s σ H Q I h
  exact Subscript_ (binT ha hb I h fun v u s2 x y H2 I2 rx ry q => hr a b pins s2 σ H2 x y v u Q I2 rx ry q (hs _ _))
noncomputable def rIxL (K : PySem.W.Frag) : R2 := fun x y H Q => ∃ p xs i v, x = .ref p ∧ y = .int i ∧ SqL K H p xs ∧ atI xs i = some v ∧ Q v H
noncomputable def rIxT (K : PySem.W.Frag) : R2 := fun x y H Q => ∃ p xs i v, x = .ref p ∧ y = .int i ∧ SqT K H p xs ∧ atI xs i = some v ∧ Q v H
noncomputable def rIxS : R2 := fun x y H Q => ∃ z i c, x = .str z ∧ y = .int i ∧ z.length ≤ sizeLine ∧ atI z.cps.toList i = some c ∧ Q (.str ⟨#[c]⟩) H
theorem ix_list : IxR X (rIxL X.K) := by
  intro value slice pins s σ H x y v u Q I rx ry h hs
  obtain ⟨p, xs, i, z, rfl, rfl, hq, he, q⟩ := h
  cases rx
  obtain ⟨t, rfl⟩ := ry
  obtain ⟨its, r, pl, hz⟩ := I.list hq
  obtain ⟨j, h1, h2, h3, h4, h5⟩ := atI_get he
  obtain ⟨w, ew, rw'⟩ := r.get h2
  have hl := r.length
  have hn := line63
  have fin : EP X pins σ Q w s := ⟨z, H, I, rw', q⟩
  by_cases h0 : 0 ≤ i
  · have hj : i.toNat = j := by
      rw [seqIndex_of h0 h5] at h1
      exact Option.some.inj h1
    exact item_listR pl.isList h0 (by omega) (by rw [hj]; simpa using ew) fin hs
  · have hj : (i + (its.toArray.size : Int)).toNat = j := by
      rw [seqIndex_neg (by omega) h4] at h1
      rw [List.size_toArray, ← hl]
      exact Option.some.inj h1
    exact subscriptTail_builtinR (x := w) pl.isList.typeIs slot_list_getitem.lookup
      (wpAny_getItem_list_neg (Q := fun r s' => r = w ∧ EP X pins σ Q r s') pl.isList (by omega) (by rw [List.size_toArray] <;> omega) (by omega) (by rw [hj]; simpa using ew) ⟨rfl, fin⟩) hs
theorem ix_tup : IxR X (rIxT X.K) := by
  intro value slice pins s σ H x y v u Q I rx ry h hs
  obtain ⟨p, xs, i, z, rfl, rfl, hq, he, q⟩ := h
  cases rx
  obtain ⟨t, rfl⟩ := ry
  obtain ⟨its, r, pl, hz⟩ := I.tuple hq
  obtain ⟨j, h1, h2, h3, h4, h5⟩ := atI_get he
  obtain ⟨w, ew, rw'⟩ := r.get h2
  have hl := r.length
  have hn := line63
  have fin : EP X pins σ Q w s := ⟨z, H, I, rw', q⟩
  exact subscriptTail_builtinR (x := w) pl.typeIs slot_tuple_getitem.lookup
    (getItem_tuple (j := j) (Q := fun r s' => r = w ∧ EP X pins σ Q r s') pl (by omega) (by omega) (by rw [List.size_toArray, ← hl]; exact h1) (by simpa using ew) ⟨rfl, fin⟩) hs
theorem ix_str : IxR X rIxS := by
  intro value slice pins s σ H x y v u Q I rx ry h hs
  obtain ⟨z, i, c, rfl, rfl, hz, he, q⟩ := h
  obtain ⟨t, rfl⟩ := rx
  obtain ⟨t', rfl⟩ := ry
  obtain ⟨j, h1, h2, h3, h4, h5⟩ := atI_get he
  have hl : z.cps.toList.length = z.length := by simp [Str.length]
  rw [hl] at h1 h4 h5
  have hn := line63
  exact tail_any (typeIs_str s z t) slot_str_getitem.lookup (getItem_str (c := c) (by
    have e1 : decide (i < -(2 ^ 63 : Int)) = false := decide_eq_false (by omega)
    have e2 : decide (i ≥ 2 ^ 63) = false := decide_eq_false (by omega)
    rw [e1, e2, Bool.or_false]) (by rw [h1]; simpa using h2) ⟨.str ⟨#[c]⟩, H, I.tok _, ⟨_, rfl⟩, q⟩) hs
theorem Inv.lst {pins : List (Addr × Obj)} {σ : St} {H : Hp} {s : Shared} {p : Addr} {xs : List V} (I : Inv X pins σ H s) (h : H p = some (.lst xs)) :
    ∃ (its : List Value) (n : Nat), Vals xs its ∧ s.heap.get? p = some { cls := .type "list", data := .seq its.toArray n } ∧ xs.length ≤ sizeLine := by
  obtain ⟨z, its, n, r, e⟩ := I.hok p _ h
  exact ⟨its, n, r, e, z⟩
theorem slice_bounds (lo hi : Option Int) (n : Nat) : (sliceBounds lo hi none n).1 = ((HT.sIx n 0 lo : Nat) : Int) ∧ (sliceBounds lo hi none n).2.1 = ((HT.sIx n n hi : Nat) : Int) ∧ (sliceBounds lo hi none n).2.2 = 1 := by
  refine ⟨?_, ?_, rfl⟩
  · cases lo with
    | none => simp [sliceBounds, HT.sIx]
    | some i =>
      simp only [sliceBounds, HT.sIx, Option.getD_none, show (1 : Int) > 0 by decide, if_true]
      by_cases h : i < 0
      · simp only [h, if_true] <;> omega
      · simp only [h, if_false] <;> omega
  · cases hi with
    | none => simp [sliceBounds, HT.sIx]
    | some i =>
      simp only [sliceBounds, HT.sIx, Option.getD_none, show (1 : Int) > 0 by decide, if_true]
      by_cases h : i < 0
      · simp only [h, if_true] <;> omega
      · simp only [h, if_false] <;> omega
theorem slicePick_cut (its : List Value) (lo hi : Option Int) : slicePick its.toArray lo hi none = ((its.drop (HT.sIx its.length 0 lo)).take (HT.sIx its.length its.length hi - HT.sIx its.length 0 lo)).toArray := by
  obtain ⟨h1, h2, h3⟩ := slice_bounds lo hi its.toArray.size
  unfold slicePick
  rw [h1, h2, h3]
  simp only [sliceRange_one, pick_run, List.size_toArray] <;> rfl
noncomputable def rSlL (K : PySem.W.Frag) : V → Option Int → Option Int → Hp → VK → Prop := fun x lo hi H Q => ∃ a xs, x = .ref a ∧ SqL K H a xs ∧ ∀ p, H p = none → Q (.ref p) (upd H p (.lst (cutV xs lo hi)))
theorem sl_list : SlR X (rSlL X.K) := by
  intro pins s σ H x v vl vu lo hi sl Q I rx hs pl pu h
  obtain ⟨a, xs, rfl, hx, q⟩ := h
  cases rx
  obtain ⟨its, r, ht, hz⟩ := I.list hx
  have hlen := r.length
  refine ⟨"list", _, slot_list_getitem.lookup, ht.isList.typeIs, ?_⟩
  refine wpAny_getItem_list_slice ht.isList hs pl pu .none (by simp) ?_ (by rw [List.size_toArray] <;> omega)
  rw [slicePick_cut, ← hlen]
  refine ⟨.ref s.heap.objs.size, _, I.laid (t' := s.toks) (o := .lst (cutV xs lo hi)) (fun b ob q => Heap.get?_push_of_some _ q) (Nat.le_refl _) ?_, rfl, q _ (I.hok.fresh (Nat.le_refl _))⟩
  exact ⟨Nat.le_trans (cutV_length xs lo hi) hz, _, 0, (r.drop (HT.sIx xs.length 0 lo)).take (HT.sIx xs.length xs.length hi - HT.sIx xs.length 0 lo), Heap.get?_push_size _ rfl⟩
noncomputable def flatV : V → Bool
  | .non => true
  | .bl _ => true
  | .int _ => true
  | .str _ => true
  | _ => false
noncomputable def eqV : V → V → Bool
  | .non, .non => true
  | .bl a, .bl b => a == b
  | .bl a, .int b => (if a then 1 else 0) == b
  | .int a, .bl b => a == (if b then 1 else 0)
  | .int a, .int b => a == b
  | .str a, .str b => a == b
  | _, _ => false
theorem call_len_seq : CallR X (.builtin "len") (fun xs H Q => ∃ p ys, xs = [.ref p] ∧ (SqL X.K H p ys ∨ SqT X.K H p ys) ∧ Q (.int ys.length) H) := by
  intro pins s σ H xs us Q I r h
  obtain ⟨p, ys, rfl, hq, q⟩ := h
  obtain ⟨u, rfl, rx⟩ := vals1 r
  cases rx
  have hn := line63
  rcases hq with hq | hq
  · obtain ⟨its, r', pl, hz⟩ := I.list hq
    have hlen := r'.length
    exact Calls.call_len_list pl.isList (by simp only [List.size_toArray] <;> omega) ⟨.int ys.length, H, I.tok _, ⟨s.toks + 1, by rw [List.size_toArray, hlen]⟩, q⟩
  · obtain ⟨its, r', pl, hz⟩ := I.tuple hq
    have hlen := r'.length
    exact len_tuple pl (by simp only [List.size_toArray] <;> omega) ⟨.int ys.length, H, I.tok _, ⟨s.toks + 1, by rw [List.size_toArray, hlen]⟩, q⟩
theorem call_len_str : CallR X (.builtin "len") (fun xs H Q => ∃ z, xs = [.str z] ∧ z.length ≤ sizeLine ∧ Q (.int z.length) H) := by
  intro pins s σ H xs us Q I r h
  obtain ⟨z, rfl, hz, q⟩ := h
  obtain ⟨u, rfl, t, rfl⟩ := vals1 r
  have hn := line63
  exact len_str (by omega) ⟨.int z.length, H, I.tok _, ⟨_, rfl⟩, q⟩
theorem call_list_of : CallR X (.type "list") (fun xs H Q => ∃ p ys, xs = [.ref p] ∧ (SqL X.K H p ys ∨ SqT X.K H p ys) ∧ ∀ l, H l = none → Q (.ref l) (upd H l (.lst ys))) := by
  intro pins s σ H xs us Q I r h
  obtain ⟨p, ys, rfl, hq, q⟩ := h
  obtain ⟨u, rfl, rx⟩ := vals1 r
  cases rx
  have fin : ∀ (its : List Value), Vals ys its → ys.length ≤ sizeLine → ∀ (h' : Heap) (c' : Nat), (∀ b o', s.heap.get? b = some o' → h'.get? b = some o') →
      h'.get? s.heap.objs.size = some { cls := .type "list", dict := none, data := .seq its.toArray c', slots := #[] } → EP X pins σ Q (.ref s.heap.objs.size) { s with heap := h' } := fun its r' hz h' c' kp e =>
    ⟨.ref s.heap.objs.size, _, I.laid (t' := s.toks) kp (Nat.le_refl _) (show ObjOk X.prog X.w _ h' _ (.lst ys) from ⟨hz, its, c', r', e⟩), rfl, q _ (I.hok.fresh (Nat.le_refl _))⟩
  rcases hq with hq | hq
  · obtain ⟨its, r', pl, hz⟩ := I.list hq
    have hlen := r'.length
    obtain ⟨o, ho, hc, n, hd⟩ := pl.isList
    exact call_list_seq p (.inl rfl) ho hc hd (fun h' c' kp e => fin its r' hz h' c' kp e) (by simp only [List.size_toArray] <;> omega)
  · obtain ⟨its, r', pl, hz⟩ := I.tuple hq
    have hlen := r'.length
    obtain ⟨o, ho, hc, n, hd⟩ := pl
    exact call_list_seq p (.inr rfl) ho hc hd (fun h' c' kp e => fin its r' hz h' c' kp e) (by simp only [List.size_toArray] <;> omega)
noncomputable def tyV (K : PySem.W.Frag) (T : String) (x : V) (H : Hp) : Prop := match x with
  | .str _ => T = "str"
  | .int _ => T = "int"
  | .ref p => (T = "list" ∧ ∃ xs, SqL K H p xs) ∨ (T = "tuple" ∧ ∃ o, K.lookup p = some o ∧ o.cls = .type "tuple" ∧ o.dict = none) ∨
      (T = "dict" ∧ ((∃ kvs, H p = some (.dK kvs)) ∨ ∃ kvs, H p = some (.dT kvs))) ∨ (T = "set" ∧ ∃ S n, H p = some (.set S n))
  | _ => False
theorem tyV_is {pins : List (Addr × Obj)} {σ : St} {H : Hp} {s : Shared} {T : String} {x : V} {v : Value} (I : Inv X pins σ H s) (r : RelV x v) (ty : tyV X.K T x H) :
    s.TypeIs v T ∧ ∀ a, v = .ref a → ∃ ob, s.heap.get? a = some ob ∧ ob.dict = none := by
  cases x with
  | str z =>
    obtain ⟨t, rfl⟩ := r
    cases (show T = "str" from ty)
    exact ⟨typeIs_str s z t, fun _ e => nomatch e⟩
  | int i =>
    obtain ⟨t, rfl⟩ := r
    cases (show T = "int" from ty)
    exact ⟨typeIs_int s i t, fun _ e => nomatch e⟩
  | ref p =>
    cases r
    rcases ty with ⟨rfl, xs, hq⟩ | ⟨rfl, o, hk, hc, hd⟩ | ⟨rfl, hk⟩ | ⟨rfl, S, n, hk⟩
    · obtain ⟨its, _, pl, _⟩ := I.list hq
      refine ⟨pl.isList.typeIs, fun a e => ?_⟩
      cases e
      obtain ⟨o, n, e, c, hd, _⟩ := pl
      exact ⟨o, e, hd⟩
    · refine ⟨⟨o, I.kIn p o hk, hc⟩, fun a e => ?_⟩
      cases e
      exact ⟨o, I.kIn _ o hk, hd⟩
    · have z : ∃ o, s.heap.get? p = some o ∧ o.ExactDict := by
        rcases hk with ⟨kvs, hk⟩ | ⟨kvs, hk⟩
        · obtain ⟨_, _, _, _, o, _, _, e, ex, _⟩ := I.hok p _ hk
          exact ⟨o, e, ex⟩
        · obtain ⟨_, _, _, _, o, _, _, e, ex, _⟩ := I.hok p _ hk
          exact ⟨o, e, ex⟩
      obtain ⟨o, e, ex⟩ := z
      refine ⟨⟨o, e, ex.1⟩, fun a e2 => ?_⟩
      cases e2
      exact ⟨o, e, ex.2.1⟩
    · obtain ⟨o, _, _, _, e, ex, _⟩ := I.hok p _ hk
      refine ⟨⟨o, e, ex.1⟩, fun a e2 => ?_⟩
      cases e2
      exact ⟨o, e, ex.2.1⟩
  | _ => exact False.elim ty
noncomputable abbrev tBM (K : PySem.W.Frag) (T : String) (r : V → List V → Hp → VK → Prop) (to : TE) (t : TA) : TE := fun σ H Q => to σ H fun x H1 => tyV K T x H1 ∧ t σ H1 fun xs H2 => r x xs H2 Q
variable {o e : Expr} {es : List Expr} {to : TE} {t : TA} {name : Str} {apos cpos : Pos} {T id : String} {r : V → List V → Hp → VK → Prop}
theorem pe_bm (pa : PlainAttrs T) (slot : Slot T name id) (hty : typeOf (.builtin id) = pure (.type "method_descriptor")) (hm : MtR X id r) (ho : PE X o to) (ha : PA X (e :: es) t)
    (hbase : attributeBase o name X.env (eval o X.env) = eval o X.env := by rfl)
    (hfew : ((backTo cpos (starEach (e :: es) X.env)).all (fun x => !x.1) && (backToKw cpos (keywordEach [] X.env)).all (fun x => x.1.isSome)
      && decide ((e :: es).length + ([] : List Keyword).length + (if ([] : List Keyword).isEmpty then 0 else 1) < 30)) = true := by rfl)
    (hline : (apos.endLine == cpos.line) = true := by rfl) (hs : starEach (e :: es) X.env = (false, eval e X.env) :: starEach es X.env := by rfl) (hplain : (backTo cpos (starEach es X.env)).any (·.1) = false := by rfl) :
    PE X (.Call (.Attribute o name apos) (e :: es) [] cpos) (tBM X.K T r to t) := by
  intro pins s σ H Q I h
  refine wpAny_Call_method_late hbase hfew hline rfl (thn (ho pins s σ H _ I h) fun v s1 ⟨x, H1, I1, r1, ty, q1⟩ => ?_)
  obtain ⟨h1, h2⟩ := tyV_is I1 r1 ty
  refine ⟨T, id, pa, slot, hty, h1, h2, ?_⟩
  have hA := ha cpos pins s1 σ H1 _ I1 q1
  rw [hs] at hA ⊢
  refine Calls.callWith_builtin (by show (false || (backTo cpos (starEach es X.env)).any (·.1)) = false; rw [hplain] <;> rfl) (Calls.evalArgs_plain ?_)
  exact thn hA fun us s2 ⟨vs, H2, I2, r2, q2⟩ => hm pins s2 σ H2 x vs v us Q I2 r1 r2 q2
end
end L2
namespace L2
open PySem PySem.Spec PyProof.Rows
noncomputable def MtM (X : Cx) (id : String) (r : V → List V → Hp → VK → Prop) : Prop :=
  ∀ (pins : List (Addr × Obj)) (s : Shared) (σ : St) (H : Hp) (x : V) (xs : List V) (v : Value) (us : List Value) (Q : VK), Inv X pins σ H s → RelV x v → Vals xs us → r x xs H Q →
    wpAny (model X.prog X.w) X.A (call (.builtin id) (v :: us)) (EP X pins σ Q) X.xe s
theorem Vals.one : ∀ {x : V} {us : List Value}, Vals [x] us → ∃ u, us = [u] ∧ RelV x u
  | _, _, .cons r .nil => ⟨_, rfl, r⟩
theorem Vals.dropLast {xs : List V} {us : List Value} (h : Vals xs us) : Vals xs.dropLast us.dropLast := by
  induction h with
  | nil => exact .nil
  | cons r t ih =>
    cases t with
    | nil => exact .nil
    | cons q t' => exact .cons r ih
theorem Vals.eraseIdx : ∀ {xs : List V} {us : List Value} (i : Nat), Vals xs us → Vals (xs.eraseIdx i) (us.eraseIdx i)
  | _, _, _, .nil => .nil
  | _, _, 0, .cons _ t => t
  | _, _, i + 1, .cons r t => .cons r (Vals.eraseIdx i t)
theorem Vals.reverse {xs : List V} {us : List Value} (h : Vals xs us) : Vals xs.reverse us.reverse := by
  induction h with
  | nil => exact .nil
  | cons r t ih => rw [List.reverse_cons, List.reverse_cons]; exact Vals.append ih (.cons r .nil)
theorem Vals.rep {xs : List V} {us : List Value} (h : Vals xs us) : ∀ k : Nat, Vals (List.replicate k xs).flatten (List.replicate k us).flatten
  | 0 => .nil
  | k + 1 => by
    rw [List.replicate_succ, List.replicate_succ, List.flatten_cons, List.flatten_cons]
    exact Vals.append h (Vals.rep h k)
theorem foldl_rep (its : List Value) : ∀ (k : Nat) (acc : List Value),
    List.foldl (fun x1 x2 => x1 ++ x2) acc.toArray (List.replicate k its.toArray) = (acc ++ (List.replicate k its).flatten).toArray
  | 0, acc => by simp
  | k + 1, acc => by
    have e : acc.toArray ++ its.toArray = (acc ++ its).toArray := by simp
    have e2 : (acc ++ its) ++ (List.replicate k its).flatten = acc ++ (List.replicate (k + 1) its).flatten := by
      rw [List.replicate_succ, List.flatten_cons, List.append_assoc]
    rw [← e2, ← foldl_rep its k (acc ++ its), ← e, List.replicate_succ, List.foldl_cons]
section
variable {X : Cx} {pins : List (Addr × Obj)} {σ : St} {H : Hp} {s : Shared} {l b : Addr} {xs ys zs : List V}
theorem Inv.lset {its its' : List Value} {n : Nat} {f : Array Value → Array Value} {t' : Nat} (I : Inv X pins σ H s) (hH : H l = some (.lst xs))
    (e : s.heap.get? l = some { cls := .type "list", data := .seq its.toArray n }) (hf : f its.toArray = its'.toArray) (hv : Vals ys its') (hz : ys.length ≤ sizeLine) :
    Inv X pins σ (upd H l (.lst ys)) { s with heap := s.heap.update l (Obj.mapSeq f), toks := t' } := by
  have q := PySem.IsL.update e f
  rw [hf] at q
  refine I.write (x := l) (e := l) (by rw [hH]; exact trivial) (.inl rfl) (fun b' u hb hu => (Heap.get?_update_other s.heap (Obj.mapSeq f) (Ne.symm hb)).trans hu) ⟨_, q⟩ ?_
  exact ⟨hz, its', _, hv, q⟩
theorem Inv.lnew {its : List Value} {t' : Nat} (I : Inv X pins σ H s) (hv : Vals ys its) (hz : ys.length ≤ sizeLine) :
    Inv X pins σ (upd H s.heap.objs.size (.lst ys)) { s with heap := s.heap.push { cls := .type "list", data := .seq its.toArray }, toks := t' } :=
  I.laid (fun _ _ q => Heap.get?_push_of_some _ q) (Nat.le_refl _) ⟨hz, its, 0, hv, Heap.get?_push_size _ rfl⟩
theorem Inv.fresh (I : Inv X pins σ H s) : H s.heap.objs.size = none := I.hok.fresh (Nat.le_refl _)
theorem Inv.lstM (I : Inv X pins σ H s) (hH : H l = some (.lst xs)) : xs.length ≤ sizeLine ∧ ∃ (its : List Value) (n : Nat), Vals xs its ∧ xs.length = its.length ∧ s.heap.get? l = some { cls := .type "list", data := .seq its.toArray n } := by
  obtain ⟨z, its, n, r, e⟩ := I.hok l _ hH
  exact ⟨z, its, n, r, r.length, e⟩
theorem notLongL {n : Nat} (h : n ≤ sizeLine) : Builtin.List.listTooLong n = false := by
  unfold Builtin.List.listTooLong
  exact decide_eq_false (by omega)
end
section
variable {X : Cx}
noncomputable def rAppend : V → List V → Hp → VK → Prop := fun x vs H Q => ∃ l xs y, x = .ref l ∧ vs = [y] ∧ H l = some (.lst xs) ∧ xs.length < sizeLine ∧ Q .non (upd H l (.lst (xs ++ [y])))
theorem mt_append : MtM X "list.append" rAppend := by
  intro pins s σ H x vs v us Q I rx rv h
  obtain ⟨l, xs, y, rfl, rfl, hH, hz, q⟩ := h
  cases rx
  obtain ⟨u, rfl, ru⟩ := rv.one
  obtain ⟨z, its, n, r, hl, e⟩ := I.lstM hH
  refine call_meets F.slot_list_append ⟨_, e, rfl⟩ F.entry_list_append (F.args_list_append_2 _ _) (PySem.list_append l its.toArray n u (by rw [List.size_toArray]; omega)) ⟨e, ?_⟩
  refine ⟨.non, _, I.lset (its' := its ++ [u]) hH e (by simp) (r.append (.cons ru .nil)) ?_, rfl, q⟩
  rw [List.length_append, List.length_singleton]
  omega
noncomputable def rRep : R2 := fun x y H Q => ∃ l k xs, x = .ref l ∧ y = .int k ∧ H l = some (.lst xs) ∧ -(2 ^ 63) ≤ k ∧ k < 2 ^ 63 ∧ xs.length * k.toNat ≤ sizeLine ∧
  ∀ p, H p = none → Q (.ref p) (upd H p (.lst (List.replicate k.toNat xs).flatten))
theorem len_rep {α : Type} (xs : List α) (k : Nat) : (List.replicate k xs).flatten.length = k * xs.length := by
  induction k with
  | zero => simp
  | succ k ih => rw [List.replicate_succ, List.flatten_cons, List.length_append, ih, Nat.succ_mul, Nat.add_comm]
theorem op_rep : OpR X (binaryOp .Mult) rRep := by
  intro pins s σ H x y v u Q I rx ry h
  obtain ⟨l, k, xs, rfl, rfl, hH, h1, h2, hz, q⟩ := h
  cases rx
  obtain ⟨t, rfl⟩ := ry
  obtain ⟨z, its, n, r, hl, e⟩ := I.lstM hH
  have hlen : its.toArray.size * k.toNat ≤ sizeLine := by rw [List.size_toArray, ← hl]; exact hz
  have hcap : ¬ its.toArray.size * k.toNat > (2 ^ 63 - 1) / 8 := by
    have : (sizeLine : Nat) ≤ (2 ^ 63 - 1) / 8 := by decide
    omega
  have hfit : ¬ (!Builtin.List.listFitsIndex k) = true := by
    rw [fitsIndex_both h1 h2]
    exact Bool.false_ne_true
  have hlong : ¬ Builtin.List.listTooLong (its.toArray.size * k.toNat) = true := by
    rw [notLongL hlen]
    exact Bool.false_ne_true
  have hnew : List.foldl (fun x1 x2 => x1 ++ x2) #[] (List.replicate (if its.toArray.isEmpty = true then 0 else k.toNat) its.toArray) = (List.replicate k.toNat its).flatten.toArray := by
    have f0 : ∀ m : Nat, List.foldl (fun x1 x2 => x1 ++ x2) #[] (List.replicate m its.toArray) = (List.replicate m its).flatten.toArray := fun m => by
      have := foldl_rep its m []
      rw [List.nil_append] at this
      exact this
    rw [f0]
    cases its with
    | nil => simp
    | cons a r' => rw [if_neg (by simp)]
  refine wpAny_binaryOp_repeat_ref (T := "list") (U := "int") (by decide) ⟨_, e, rfl⟩ (fun s' => typeIs_int s' k t) noFill_list_mul F.fills_int_mul F.slot_int_rmul repeat_list F.slot_int_index.lookup
    (call_meets F.slot_int_rmul (typeIs_int s k t) F.entry_int_rmul (F.args_int_rmul_2 _ _) (int___rmul___int_list k t l its.toArray n)
      ⟨e, rfl, ⟨_, e, rfl⟩, call_meets F.slot_list_mul ⟨_, e, rfl⟩ F.entry_list_mul (F.args_list_mul_2 _ _) (AutoListH.list___mul___list_int_3 l its.toArray n k t hfit hcap hlong) ⟨e, ?_⟩⟩)
  rw [hnew]
  exact ⟨.ref _, _, I.lnew (t' := s.toks) (r.rep k.toNat) (by rw [len_rep, Nat.mul_comm]; exact hz), rfl, q _ I.fresh⟩
end
section
variable {prog : Program} {w : World} {A : Around} {E : Value → Shared → Prop} {s : Shared}
end
section
variable {X : Cx}
end
end L2
namespace Att
open PySem PySem.W PySem.Calls PyProof.Rows
theorem ints_of_wellAll {P : Params} {h : Heap} : ∀ (ns : List Int) (vs : List Value), WellAll P h vs (ns.map WData.int) → IntsAre vs ns := by
  intro ns
  induction ns with
  | nil =>
    intro vs w
    rw [List.map_nil] at w
    cases w
    exact .nil
  | cons n ns ih =>
    intro vs w
    rw [List.map_cons] at w
    cases w with
    | cons a b =>
      cases a
      exact .cons _ _ (ih _ b)
theorem script_of {l : OpenLaw} {n : Nat} (hn : l.most = some n) {P : Params} {h : Heap} {args : List WData} {vals : List Value}
    (hpre : l.row.toRowW.claim.pre args = true) (hwl : WellAll P h vals args) :
    ∃ a vs ns, vals = [Value.ref a] ∧ args = [WData.list (ns.map WData.int)] ∧ h.get? a = some { cls := .type "list", data := .seq vs.toArray } ∧ IntsAre vs ns ∧ ns.length ≤ n := by
  have hsh : WShape.hasAll [] args [.list .int] = true := (pre_splitW hpre).1
  have hc : l.pre.holds [] { args := args } = true := (pre_splitW hpre).2
  obtain ⟨d, r, rfl, h1, h2⟩ := hasAllW_cons hsh
  obtain rfl := hasAllW_nil h2
  obtain ⟨xs, rfl, h3⟩ := hasW_list h1
  obtain ⟨ns, rfl⟩ := items_int h3
  have hlen : ns.length ≤ n := by
    unfold OpenLaw.pre at hc
    have h4 : (WTm.not (.lt (.lit (.int (n : Int))) (.len (.arg 0)))).holds [] { args := [.list (ns.map .int)] } = true := by
      have h4 := (holds_andW hc).1
      rw [hn] at h4
      exact h4
    have h5 := condW_of h4 (w_not (w_lt w_lit (w_len_list (w_arg rfl))))
    rw [List.length_map] at h5
    refine Nat.le_of_not_lt fun q => ?_
    have q' : (n : Int) < ((ns.length : Nat) : Int) := by omega
    first
      | (rw [decide_eq_true q'] at h5; exact absurd h5 (by decide))
      | (simp at h5; omega)
  cases hwl with
  | cons w1 w2 =>
    cases w2
    cases w1 with
    | list ho hall => exact ⟨_, _, ns, rfl, rfl, ho, ints_of_wellAll ns _ hall, hlen⟩
theorem post_true (l : OpenLaw) (args : List WData) : l.row.toRowW.claim.post args (.bool true) args = true :=
  postW_of (r := l.row.toRowW) (X := (true == true))
    (show WShape.has [] (.bool true) .bool = true by first | rfl | decide | simp [WShape.has, WShape.arms, WShape.armsAll])
    (show (WTm.eq .res (.lit (.bool true))).value [] { args := args, res := some (.bool true), after := args } = some (.bool (true == true)) from w_eq_bool (w_res rfl) w_lit) rfl
theorem attach_call {l : OpenLaw} {n : Nat} {q : Program} {loose : List Str} {XP : (Str → Option Value) → Heap → Prop} {YP : World → Heap → Prop} {d : DefRec}
    (hn : l.most = some n) (hdf : d.params.defaults = [])
    (call : ∀ (w : World) (s₀ s₁ : Shared) (mg mb : Str → Option Value) (fa : Addr) (o : Obj) (pm cd doc : Value) (a : Addr) (vs : List Value) (ns : List Int),
      Ground q loose [] XP w s₀ mg mb s₁.heap → YP w s₁.heap →
      s₁.heap.get? fa = some o → o.data = .func (docDef d.name d.params d.body d.scope pm cd doc) → s₁.heap.CodeRec cd d.name → mg d.name = some (.ref fa) →
      s₁.heap.get? a = some { cls := .type "list", data := .seq vs.toArray } → IntsAre vs ns → ns.length ≤ n → s₁.gens = #[] →
      codeAny (model l.prog w) callerA (.call (.ref fa) ⟨[.ref a], []⟩) (fun r s' => r = .ok (.ret (.bool true)) ∧ OldK s₁.heap s'.heap ∧ s'.os = s₁.os ∧ AllBare s'.gens) s₁) :
    WalkO q loose XP YP l.row.toRowW d [] (fun f vs => PySem.call f vs) := by
  intro w s₀ s₁ mg mb G Y fa o pm cd doc dV kV ho hd hcd hD hmg hg args vals as hpre hlay hrd hwl hlo
  obtain rfl : dV = .none := Dflts.none hD hdf
  obtain rfl : kV = .none := Dflts.noKw hD
  obtain ⟨a, vs, ns, rfl, rfl, hobj, hints, hlen⟩ := script_of hn hpre hwl
  refine enter_call (codeAny_mono (call w s₀ s₁ mg mb fa o pm cd doc a vs ns G Y ho (fd_plain hd) hcd hmg hobj hints hlen hg) fun r s' hq => ?_)
  obtain ⟨rfl, h2, h3, h4⟩ := hq
  exact ⟨.inl ⟨.bool true, .bool true, [], rfl, fun _ => rfl, .bool true, post_true l _, fun _ => ⟨List.Pairwise.nil, fun _ hm => (nomatch hm)⟩⟩, h2, h3, h4⟩
section
variable {prog : Program} {w : World} {A : Around} {E : Value → Shared → Prop} {s : Shared} {K : Frag}
end
end Att
namespace L2
open PySem PySem.Spec PyProof.Rows
theorem vals_ints : ∀ {vs : List Value} {ns : List Int}, IntsAre vs ns → Vals (ns.map V.int) vs
  | _, _, .nil => .nil
  | _, _, .cons n t h => .cons ⟨t, rfl⟩ (vals_ints h)
noncomputable def Only (H : Hp) : Prop := ∀ b, H b = none ∨ ∃ o xs, H b = some (.frz o (.lst xs))
theorem law_call {P : Program} {w : World} {K : PySem.W.Frag} {mg mb : Str → Option Value} {CX : CXT} {k : Nat} {fa a : Addr} {fd : FuncData} {x : Str} {sp : Sp} {s₁ : Shared} {vs : List Value} {ns : List Int}
    (KX : K.In s₁.heap) (hns : s₁.heap.Ns mainGlobals mg) (hb : s₁.heap.Ns builtinsNs mb) (hbb : ∀ x : Str, x ≠ "__name__" → mb x = bootBuiltins x) (hlim : s₁.heap.NoLimit) (hg : s₁.gens = #[])
    (ha : s₁.heap.get? a = some { cls := .type "list", data := .seq vs.toArray }) (hi : IntsAre vs ns) (hl : ns.length ≤ sizeLine) (hr : Room k callerA)
    (F : ∀ base : Heap, K.In base → base.Ns mainGlobals mg → FnOk P w K mg base CX k fa fd [x] sp) (hbind : ∀ (s : Shared) (u : Value), BindsTo s fd ⟨[u], []⟩ [(x, u)])
    (hsp : ∀ H : Hp, Only H → SqL K H a (ns.map V.int) → sp [.ref a] H (fun v _ => v = .bl true) fun _ _ _ => False)
    (hCX : ∀ H e s', CX [] H s₁ (fun _ _ _ => False) e s' → False) :
    codeAny (model P w) callerA (.call (.ref fa) ⟨[.ref a], []⟩) (fun r s' => r = .ok (.ret (.bool true)) ∧ OldK s₁.heap s'.heap ∧ s'.os = s₁.os ∧ AllBare s'.gens) s₁ := by
  have rv := vals_ints hi
  have lenV := hi.length
  have core : ∀ H : Hp, Only H → SqL K H a (ns.map V.int) → HOk P w H s₁.heap → (∀ b, H b ≠ none → b = a) → (H a ≠ none → K.lookup a = none) →
      codeAny (model P w) callerA (.call (.ref fa) ⟨[.ref a], []⟩) (fun r s' => r = .ok (.ret (.bool true)) ∧ OldK s₁.heap s'.heap ∧ s'.os = s₁.os ∧ AllBare s'.gens) s₁ := by
    intro H hO hS hok hA hK
    have base_of : ∀ {b : Addr} {o : Obj}, s₁.heap.get? b = some o → H b = none → (hidT s₁.heap H).get? b = some o := fun e n => hidT_get e n
    have noA : ∀ {b : Addr} {o : Obj} {es : Array DictEntry} {ep : Nat}, s₁.heap.get? b = some o → o.data = .dict es ep → H b = none := fun {b o es ep} e d => by
      cases q : H b with
      | none => rfl
      | some u =>
        have e' : b = a := hA b (by rw [q]; simp)
        subst e'
        rw [ha] at e; cases e
        have d' : Data.seq vs.toArray _ = Data.dict es ep := d
        cases d'
    have nsK : ∀ {b : Addr} {m : Str → Option Value}, s₁.heap.Ns b m → (hidT s₁.heap H).Ns b m := fun {b m} ⟨o, es, ep, e, d, r⟩ => ⟨o, es, ep, base_of e (noA e d), d, r⟩
    have hKb : K.In (hidT s₁.heap H) := fun b o e => base_of (KX b o e) (by
      cases q : H b with
      | none => rfl
      | some u =>
        have e' : b = a := hA b (by rw [q]; simp)
        subst e'
        rw [hK (by rw [q]; simp)] at e; cases e)
    have hM : Mod K mg (hidT s₁.heap H) := ⟨hKb, nsK hns, ⟨mb, nsK hb, hbb⟩, let ⟨mc, h1, h2⟩ := hlim; ⟨mc, nsK h1, h2⟩⟩
    have e0 : Env0 P w K mg (hidT s₁.heap H) callerA [] s₁ H := ⟨rfl, hM, fun b o e => of_hidT e, Nat.le_of_eq (hidT_size _ _), trivial, fun b hb => absurd (show b ∈ ([] : List Addr) from hb) (by simp), hok, .of_eq hg⟩
    refine codeAny_mono ((F _ hKb (nsK hns)).run callerA [] s₁ H ⟨[.ref a], []⟩ [.ref a] [.ref a] _ _ hr e0 (hbind s₁ (.ref a)) (.cons rfl .nil) (hsp H hO hS)) fun r s' h => ?_
    cases r with
    | error e => exact (hCX H e s' h).elim
    | ok fl =>
      cases fl with
      | next => exact False.elim h
      | brk => exact False.elim h
      | cont => exact False.elim h
      | ret u =>
        obtain ⟨v, H', os, bare, un, hok', r', q⟩ := h
        have q' : v = .bl true := q
        subst q'
        obtain rfl : u = Value.bool true := r'
        refine ⟨rfl, OldK.of_keep fun b o e => ?_, os, bare⟩
        cases q : H b with
        | none => exact un.keep b o e q (by intro z; exact absurd (show b ∈ ([] : List Addr) from z) (by simp)) (by simp)
        | some u =>
          rcases hO b with z | ⟨ob, xs, z⟩
          · rw [q] at z; cases z
          · have z2 := un.frzs b ob _ z
            obtain ⟨e1, _⟩ := hok b _ z
            obtain ⟨e2, _⟩ := hok' b _ z2
            rw [e] at e1; cases e1
            exact e2
  cases hk : K.lookup a with
  | some o =>
    have e := KX a o hk
    rw [ha] at e
    cases e
    refine core (fun _ => none) (fun _ => .inl rfl) (.inr ⟨_, vs.toArray, _, hk, rfl, rfl, rfl, by rw [List.size_toArray, lenV]; exact hl, by simpa using rv⟩) (fun b u z => by have z' : (none : Option HO) = some u := z; cases z') (fun b z => absurd rfl z) fun z => absurd rfl z
  | none =>
    refine core (fun b => if b = a then some (.frz { cls := .type "list", data := .seq vs.toArray } (.lst (ns.map V.int))) else none) (fun b => ?_) (.inl (.inr ⟨{ cls := .type "list", data := .seq vs.toArray }, if_pos rfl⟩)) (fun b u z => ?_) (fun b z => ?_) fun _ => hk
    · by_cases hb : b = a
      · exact .inr ⟨_, _, if_pos hb⟩
      · exact .inl (if_neg hb)
    · by_cases hb : b = a
      · have z' := (if_pos hb).symm.trans z
        cases z'
        subst hb
        exact ⟨ha, by rw [List.length_map]; exact hl, vs, _, rv, ha⟩
      · have z' := (if_neg hb).symm.trans z
        cases z'
    · by_cases hb : b = a
      · exact hb
      · exact absurd (if_neg hb) z
end L2
namespace L2
open PySem PySem.Spec PyProof.Rows
theorem walk_of {l : PySem.W.OpenLaw} {n k : Nat} {q : Program} {loose : List Str} {XP : (Str → Option Value) → Heap → Prop} {YP : World → Heap → Prop} {d : DefRec} {K : Params → PySem.W.Frag} {CX : World → CXT} {sp : World → Sp} {x : Str}
    (hn : l.most = some n) (hn2 : n ≤ sizeLine) (hdf : d.params.defaults = []) (hr : Room k callerA)
    (hY : ∀ (w : World) (h : Heap), YP w h → (K w.params).In h)
    (F : ∀ (w : World) (mg : Str → Option Value) (fa : Addr) (h : Heap), (K w.params).In h → h.Ns mainGlobals mg → mg d.name = some (.ref fa) →
      ∃ fd : FuncData, (∀ (s : Shared) (u : Value), BindsTo s fd ⟨[u], []⟩ [(x, u)]) ∧
        ∀ base : Heap, (K w.params).In base → base.Ns mainGlobals mg → FnOk l.prog w (K w.params) mg base (CX w) k fa fd [x] (sp w))
    (hsp : ∀ (w : World) (H : Hp) (a : Addr) (ns : List Int), ns.length ≤ n → Only H → SqL (K w.params) H a (ns.map V.int) → sp w [.ref a] H (fun v _ => v = .bl true) fun _ _ _ => False)
    (hCX : ∀ (w : World) (H : Hp) (s : Shared) (e : Value) (s' : Shared), CX w [] H s (fun _ _ _ => False) e s' → False) :
    PySem.W.WalkO q loose XP YP l.row.toRowW d [] (fun f vs => PySem.call f vs) := by
  refine Att.attach_call hn hdf fun w s₀ s₁ mg mb fa o pm cd doc a vs ns G Y ho hd hcd hmg hobj hints hlen hg => ?_
  have KX := hY w _ Y
  obtain ⟨fd, hb, hF⟩ := F w mg fa _ KX G.T.g hmg
  exact law_call KX G.T.g G.T.b G.T.builtins G.T.nolimit hg hobj hints (Nat.le_trans hlen hn2) hr hF hb (fun H hO hS => hsp w H a ns hlen hO hS) fun H e s' => hCX w H s₁ e s'
end L2
namespace L2
open PySem PySem.Spec PyProof.Rows
noncomputable def defArgs (s : Stmt) : Arguments := match s with
  | .FunctionDef _ a _ _ _ _ _ _ _ _ => a
  | _ => { posonlyargs := [], args := [], vararg := none, kwonlyargs := [], kw_defaults := [], kwarg := none, defaults := [] }
noncomputable def defBody (s : Stmt) : List Stmt := match s with
  | .FunctionDef _ _ b _ _ _ _ _ _ _ => b
  | _ => []
noncomputable def defScope (s : Stmt) : Scope := match s with
  | .FunctionDef _ _ _ _ _ _ sc _ _ _ => sc
  | _ => { kind := .function, names := [], isGenerator := false, isCoroutine := false }
noncomputable abbrev CX0 : CXT := fun _ _ _ _ _ _ => False
noncomputable abbrev E0 : XK := fun _ _ _ => False
theorem pass0 {X : Cx} : Passes CX0 X E0 := fun _ _ _ _ _ _ _ h => h.elim
structure Fun (K : PySem.W.Frag) (x qual : Str) (st : Stmt) (f : Addr) (fd : FuncData) : Prop where
  ex : ∃ (oc : Value) (od : Option Addr) (kV doc pm : Value) (an : Option Addr) (cdv ct : Value) (osl : Array (Option Value)),
    fd = PySem.W.fnOf x qual (defArgs st) (defBody st) (defScope st) .none kV doc pm an cdv ct ∧ K.lookup f = some ⟨oc, od, .func fd, osl⟩ ∧ PySem.W.codeIn K cdv qual = true
  kp : PySem.W.keepIn K (.ref f) = true
section
variable {P : Program} {w : World} {K : PySem.W.Frag} {mg : Str → Option Value} {base : Heap}
theorem Fun.ok {x qual : Str} {st : Stmt} {f : Addr} {fd : FuncData} {N ps : List Str} {k : Nat} {sp : Sp} (F : Fun K x qual st f fd) (S : FnScope N ps (defScope st)) (len : ∀ vs H Q E, sp vs H Q E → vs.length = ps.length)
    (hbody : ∀ (cdv : Value) (A : Around) (outer : List Env) (s : Shared) (H : Hp) (vs : List V) (Q : VK) (E : XK), Room k (A.deeper (envOfC qual (defScope st) s.heap.objs.size f cdv)) → sp vs H Q E →
      ∃ t, PSs (cxOf CX0 P w K mg base N qual (defScope st) f cdv A outer s H E).nox (defBody st) t ∧ t { nx := fun _ H' => Q .non H', rt := Q } (start N vs) H) : FnOk P w K mg base CX0 (k + 1) f fd ps sp := by
  obtain ⟨oc, od, kV, doc, pm, an, cdv, ct, osl, rfl, lk, hcd⟩ := F.ex
  refine fn_of lk hcd S len fun A outer s H vs Q E hr hsp => ?_
  obtain ⟨t, h, q⟩ := hbody cdv A outer s H vs Q E hr hsp
  exact ⟨t, h.nox, q⟩
theorem Fun.binds {x qual : Str} {st : Stmt} {f : Addr} {fd : FuncData} {ps : List Str} (F : Fun K x qual st f fd)
    (h : ∀ (kV doc pm : Value) (an : Option Addr) (cdv ct : Value) (us : List Value), us.length = ps.length → bindArgs (PySem.W.fnOf x qual (defArgs st) (defBody st) (defScope st) .none kV doc pm an cdv ct) ⟨us, []⟩ = pure (ps.zip us)) : Binds K fd ps [] := by
  obtain ⟨oc, od, kV, doc, pm, an, cdv, ct, osl, rfl, lk, hcd⟩ := F.ex
  exact .all (h kV doc pm an cdv ct)
theorem fun_mk {x qual : Str} {st : Stmt} {f : Addr} {oc : Value} {od an : Option Addr} {osl : Array (Option Value)} {kV doc pm cdv ct : Value} (l : K.lookup f = some ⟨oc, od, .func (PySem.W.fnOf x qual (defArgs st) (defBody st) (defScope st) .none kV doc pm an cdv ct), osl⟩)
    (c : PySem.W.codeIn K cdv qual = true) (k : PySem.W.keepIn K (.ref f) = true) : Fun K x qual st f (PySem.W.fnOf x qual (defArgs st) (defBody st) (defScope st) .none kV doc pm an cdv ct) := ⟨⟨oc, od, kV, doc, pm, an, cdv, ct, osl, rfl, l, c⟩, k⟩
end
section
variable {X : Cx}
theorem pv (i : Nat) {x : Str} {pos : Pos} (hN : X.N[i]? = some x := by rfl) (hv : Vis X.env.scope x := by first | exact Or.inl rfl | exact Or.inr (Or.inl rfl) | exact Or.inr (Or.inr rfl)) (hd : (x == ("__debug__" : Str)) = false := by decide)
    (hcd : (x == ("__classdict__" : Str)) = false := by decide) : PE X (.Name x pos) (tVar i) := pe_var hN hv hd hcd
end
theorem iteF {A B : Prop} (h : B) : if false = true then A else B := by
  rw [if_neg Bool.false_ne_true]
  exact h
theorem iteT {A B : Prop} (h : A) : if true = true then A else B := by
  rw [if_pos rfl]
  exact h
noncomputable def Same (H H' : Hp) : Prop := ∀ b o, H b = some o → H' b = some o
theorem Same.refl (H : Hp) : Same H H := fun _ _ h => h
theorem Same.trans {H H1 H2 : Hp} (a : Same H H1) (b : Same H1 H2) : Same H H2 := fun c o h => b c o (a c o h)
theorem Same.free {H H' : Hp} (e : Same H H') {l : Addr} (h : H' l = Option.none) : H l = Option.none := by
  cases q : H l with
  | none => rfl
  | some o =>
    rw [e l o q] at h
    cases h
theorem Same.seq {K : PySem.W.Frag} {H H' : Hp} {a : Addr} {xs : List V} (e : Same H H') (h : SqL K H a xs) : SqL K H' a xs := by
  rcases h with (h | ⟨o, h⟩) | h
  · exact .inl (.inl (e _ _ h))
  · exact .inl (.inr ⟨o, e _ _ h⟩)
  · exact .inr h
end L2
namespace L2
open PySem PySem.Spec PyProof.Rows
section
variable {κ : Type} [DecidableEq κ]
noncomputable def valV (kvs : List (κ × V)) (k : κ) : Option V := (kvs.find? fun kv => decide (kv.1 = k)).map (·.2)
noncomputable def putK (kvs : List (κ × V)) (k : κ) (v : V) : List (κ × V) :=
  if (kvs.any fun kv => decide (kv.1 = k)) = true then kvs.map (fun kv => if kv.1 = k then (kv.1, v) else kv) else kvs ++ [(k, v)]
noncomputable def dropK (kvs : List (κ × V)) (k : κ) : List (κ × V) := kvs.filter fun kv => decide (kv.1 ≠ k)
theorem valV_pos {p : κ × V} {r : List (κ × V)} {k : κ} (e : p.1 = k) : valV (p :: r) k = some p.2 := by simp [valV, List.find?_cons, e]
theorem valV_neg {p : κ × V} {r : List (κ × V)} {k : κ} (e : ¬ p.1 = k) : valV (p :: r) k = valV r k := by simp [valV, List.find?_cons, e]
theorem valV_any (k : κ) : ∀ kvs : List (κ × V), (kvs.any fun kv => decide (kv.1 = k)) = (valV kvs k).isSome
  | [] => rfl
  | p :: r => by
    rw [List.any_cons]
    by_cases e : p.1 = k
    · simp only [valV_pos e, decide_eq_true e, Bool.true_or, Option.isSome_some]
    · rw [valV_neg e, decide_eq_false e, Bool.false_or]; exact valV_any k r
theorem length_putK (kvs : List (κ × V)) (k : κ) (v : V) : (putK kvs k v).length ≤ kvs.length + 1 := by
  unfold putK
  split
  · rw [List.length_map]; omega
  · rw [List.length_append, List.length_cons, List.length_nil]; omega
theorem RelO.isSome_eq {o : Option V} {u : Option Value} (r : RelO o u) : o.isSome = u.isSome := by
  cases o with
  | none => cases u with
    | none => rfl
    | some _ => exact (show False from r).elim
  | some _ => cases u with
    | none => exact (show False from r).elim
    | some _ => rfl
theorem RelO.getD {o : Option V} {u : Option Value} {d : V} {d' : Value} (r : RelO o u) (rd : RelV d d') : RelV (o.getD d) (u.getD d') := by
  cases o with
  | none => cases u with
    | none => exact rd
    | some _ => exact (show False from r).elim
  | some _ => cases u with
    | none => exact (show False from r).elim
    | some _ => exact r
theorem KV.val {kvs : List (κ × V)} {vs : List (κ × Value)} (r : KV kvs vs) (k : κ) : RelO (valV kvs k) (valueAt vs k) := by
  unfold KV at r
  induction r with
  | nil => exact True.intro
  | @cons p q ps qs h t ih =>
    obtain ⟨h1, h2⟩ := h
    by_cases e : p.1 = k
    · have e' : q.1 = k := h1.symm.trans e
      have b : valueAt (q :: qs) k = some q.2 := by simp [valueAt, List.find?_cons, e']
      rw [valV_pos e, b]; exact h2
    · have e' : ¬ q.1 = k := fun z => e (h1.trans z)
      have b : valueAt (q :: qs) k = valueAt qs k := by simp [valueAt, List.find?_cons, e']
      rw [valV_neg e, b]; exact ih
theorem KV.any {kvs : List (κ × V)} {vs : List (κ × Value)} (r : KV kvs vs) (k : κ) : (kvs.any fun kv => decide (kv.1 = k)) = vs.any fun kv => decide (kv.1 = k) := by
  unfold KV at r
  induction r with
  | nil => rfl
  | cons h t ih => rw [List.any_cons, List.any_cons, ih, h.1]
theorem KV.repl {kvs : List (κ × V)} {vs : List (κ × Value)} (r : KV kvs vs) (k : κ) {y : V} {u : Value} (ry : RelV y u) :
    KV (kvs.map fun kv => if kv.1 = k then (kv.1, y) else kv) (vs.map fun kv => if kv.1 = k then (kv.1, u) else kv) := by
  unfold KV at r ⊢
  induction r with
  | nil => exact .nil
  | @cons p q ps qs h t ih =>
    rw [List.map_cons, List.map_cons]
    refine .cons ?_ ih
    obtain ⟨h1, h2⟩ := h
    by_cases e : p.1 = k
    · rw [if_pos e, if_pos (h1.symm.trans e)]; exact ⟨h1, ry⟩
    · rw [if_neg e, if_neg (fun z => e (h1.trans z))]; exact ⟨h1, h2⟩
theorem KV.put {kvs : List (κ × V)} {vs : List (κ × Value)} (r : KV kvs vs) (k : κ) {y : V} {u : Value} (ry : RelV y u) : KV (putK kvs k y) (stored vs k u) := by
  unfold putK stored
  rw [r.any k]
  by_cases e : (vs.any fun kv => decide (kv.1 = k)) = true
  · rw [if_pos e, if_pos e]; exact r.repl k ry
  · rw [if_neg e, if_neg e]; exact Paired.snoc r ⟨rfl, ry⟩
theorem KV.drop {kvs : List (κ × V)} {vs : List (κ × Value)} (r : KV kvs vs) (k : κ) : KV (dropK kvs k) (without vs k) := by
  unfold KV at r ⊢
  unfold dropK without
  induction r with
  | nil => exact .nil
  | @cons p q ps qs h t ih =>
    obtain ⟨h1, h2⟩ := h
    rw [List.filter_cons, List.filter_cons]
    by_cases e : p.1 = k
    · have a : ¬ decide (p.1 ≠ k) = true := by simp [e]
      have b : ¬ decide (q.1 ≠ k) = true := by simp [h1.symm.trans e]
      rw [if_neg a, if_neg b]; exact ih
    · have e' : ¬ q.1 = k := fun z => e (h1.trans z)
      have a : decide (p.1 ≠ k) = true := by simp [e]
      have b : decide (q.1 ≠ k) = true := by simp [e']
      rw [if_pos a, if_pos b]; exact .cons ⟨h1, h2⟩ ih
theorem KV.length {kvs : List (κ × V)} {vs : List (κ × Value)} (r : KV kvs vs) : kvs.length = vs.length := Paired.length r
end
theorem kV_is {P : Program} {w : World} {k : Key} {u : Value} (r : RelV (kV k) u) : (mixKind P w).is k u = true := by
  cases k with
  | inl i => obtain ⟨t, e⟩ := (show ∃ t, u = Value.int i t from r); subst e; exact mixKind_int P w i t
  | inr x => obtain ⟨t, e⟩ := (show ∃ t, u = Value.str x t from r); subst e; exact mixKind_str P w x t
theorem items_are {P : Program} {w : World} : ∀ {ks : List Key} {us : List Value}, Vals (ks.map kV) us → ItemsAre (mixKind P w) ks us
  | [], _, r => by rw [List.map_nil] at r; cases r; exact .nil
  | k :: ks, _, r => by
    rw [List.map_cons] at r
    cases r with
    | cons h t => exact .cons (kV_is h) (items_are t)
noncomputable abbrev KT (H : Hp) : List (List Key × V) → List (List Key × Addr × Value) → Prop := Paired fun p q => p.1 = q.1 ∧ H q.2.1 = some (.tup (p.1.map kV)) ∧ RelV p.2 q.2.2
theorem KT.val {H : Hp} {kvs : List (List Key × V)} {xs : List (List Key × Addr × Value)} (r : KT H kvs xs) (k : List Key) : RelO (valV kvs k) ((atKey xs k).map (·.2)) := by
  induction r with
  | nil => exact True.intro
  | @cons p q ps qs h t ih =>
    obtain ⟨h1, _, h2⟩ := h
    by_cases e : p.1 = k
    · have e' : q.1 = k := h1.symm.trans e
      have b : atKey (q :: qs) k = some q.2 := by simp [atKey, List.find?_cons, e']
      rw [valV_pos e, b]; exact h2
    · have e' : ¬ q.1 = k := fun z => e (h1.trans z)
      have b : atKey (q :: qs) k = atKey qs k := by simp [atKey, List.find?_cons, e']
      rw [valV_neg e, b]; exact ih
theorem KT.repl {H : Hp} {kvs : List (List Key × V)} {xs : List (List Key × Addr × Value)} (r : KT H kvs xs) (k : List Key) {y : V} {u : Value} (ry : RelV y u) :
    KT H (kvs.map fun kv => if kv.1 = k then (kv.1, y) else kv) (xs.map (putAt k u)) := by
  induction r with
  | nil => exact .nil
  | @cons p q ps qs h t ih =>
    rw [List.map_cons, List.map_cons]
    refine .cons ?_ ih
    obtain ⟨h1, h2, h3⟩ := h
    unfold putAt
    by_cases e : p.1 = k
    · rw [if_pos e, if_pos (h1.symm.trans e)]; exact ⟨h1, h2, ry⟩
    · rw [if_neg e, if_neg (fun z => e (h1.trans z))]; exact ⟨h1, h2, h3⟩
theorem KT.put {H : Hp} {kvs : List (List Key × V)} {xs : List (List Key × Addr × Value)} (r : KT H kvs xs) (k : List Key) {b : Addr} {y : V} {u : Value} (hb : H b = some (.tup (k.map kV))) (ry : RelV y u) :
    KT H (putK kvs k y) (storedH xs k b u) := by
  have e : (kvs.any fun kv => decide (kv.1 = k)) = (atKey xs k).isSome := by
    rw [valV_any, (r.val k).isSome_eq, Option.isSome_map]
  unfold putK storedH
  rw [e]
  by_cases q : (atKey xs k).isSome = true
  · rw [if_pos q, if_pos q]; exact r.repl k ry
  · rw [if_neg q, if_neg q]; exact Paired.snoc r ⟨rfl, hb, ry⟩
theorem KT.keeps {H H' : Hp} {kvs : List (List Key × V)} {xs : List (List Key × Addr × Value)} (r : KT H kvs xs) (ht : ∀ b ys, H b = some (.tup ys) → H' b = some (.tup ys)) : KT H' kvs xs :=
  Paired.mapP r fun _ _ z => ⟨z.1, ht _ _ z.2.1, z.2.2⟩
section
variable {P : Program} {w : World} {H : Hp} {h : Heap} {a : Addr}
theorem rd_of {u : HO} (ok : HOk P w H h) (e : Rd H a u) : ObjOk P w H h a u := e.ok ok
theorem dk_rd {kvs : List (Key × V)} (ok : HOk P w H h) (e : Rd H a (.dK kvs)) : kvs.length ≤ sizeLine ∧ (a == sysModules) = false ∧ ∃ vs, KV kvs vs ∧ h.DictOf (mixKind P w) a vs :=
  show ObjOk P w H h a (.dK kvs) from rd_of ok e
theorem dk_of {kvs : List (Key × V)} (ok : HOk P w H h) (e : H a = some (.dK kvs)) : kvs.length ≤ sizeLine ∧ (a == sysModules) = false ∧ ∃ vs, KV kvs vs ∧ h.DictOf (mixKind P w) a vs := dk_rd ok (.inl e)
theorem key_of {ks : List Key} (ok : HOk P w H h) (e : H a = some (.tup (ks.map kV))) : (tupleKind (mixKind P w)).is h ks a := by
  obtain ⟨_, its, r, o, h1, h2, n, h3⟩ := (show ObjOk P w H h a (.tup (ks.map kV)) from ok a _ e)
  exact ⟨o, its.toArray, n, h1, h2, h3, by simpa using items_are r⟩
theorem dt_rd {kvs : List (List Key × V)} (ok : HOk P w H h) (e : Rd H a (.dT kvs)) : kvs.length ≤ sizeLine ∧ (a == sysModules) = false ∧
    ∃ xs, KT H kvs xs ∧ h.DictOfH (tupleKind (mixKind P w)) a xs := by
  obtain ⟨z, y, xs, r, o, es, ep, h1, h2, h3, h4, h5⟩ := (show ObjOk P w H h a (.dT kvs) from rd_of ok e)
  refine ⟨z, y, xs, r, o, es, ep, h1, h2, h3, h4, fun x hx => ?_, h5⟩
  have all : ∀ {l : List (List Key × V)} {m : List (List Key × Addr × Value)}, KT H l m → ∀ x ∈ m, (tupleKind (mixKind P w)).is h x.1 x.2.1 := by
    intro l m q
    induction q with
    | nil => intro x hx; exact nomatch hx
    | @cons p q ps qs hq t ih =>
      intro x hx
      rcases List.mem_cons.mp hx with e | hx
      · subst e
        exact key_of ok (by rw [← hq.1]; exact hq.2.1)
      · exact ih x hx
  exact all r x hx
theorem dt_of {kvs : List (List Key × V)} (ok : HOk P w H h) (e : H a = some (.dT kvs)) : kvs.length ≤ sizeLine ∧ (a == sysModules) = false ∧
    ∃ xs, KT H kvs xs ∧ h.DictOfH (tupleKind (mixKind P w)) a xs := dt_rd ok (.inl e)
end
noncomputable def DGet (H : Hp) (a : Addr) (y : V) (r : Option V) : Prop :=
  (∃ kvs k, Rd H a (.dK kvs) ∧ y = kV k ∧ r = valV kvs k) ∨ ∃ kvs k b, Rd H a (.dT kvs) ∧ y = .ref b ∧ H b = some (.tup (k.map kV)) ∧ r = valV kvs k
noncomputable def DPut (H : Hp) (a : Addr) (y v : V) (H' : Hp) : Prop :=
  (∃ kvs k, H a = some (.dK kvs) ∧ y = kV k ∧ kvs.length < sizeLine ∧ H' = upd H a (.dK (putK kvs k v))) ∨
  ∃ kvs k b, H a = some (.dT kvs) ∧ y = .ref b ∧ H b = some (.tup (k.map kV)) ∧ kvs.length < sizeLine ∧ H' = upd H a (.dT (putK kvs k v))
theorem DGet.k {H : Hp} {a : Addr} {kvs : List (Key × V)} {k : Key} (e : H a = some (.dK kvs)) : DGet H a (kV k) (valV kvs k) := .inl ⟨kvs, k, .inl e, rfl, rfl⟩
theorem DGet.t {H : Hp} {a b : Addr} {kvs : List (List Key × V)} {k : List Key} (e : H a = some (.dT kvs)) (eb : H b = some (.tup (k.map kV))) : DGet H a (.ref b) (valV kvs k) := .inr ⟨kvs, k, b, .inl e, rfl, eb, rfl⟩
theorem DPut.k {H : Hp} {a : Addr} {kvs : List (Key × V)} {k : Key} {v : V} (e : H a = some (.dK kvs)) (hl : kvs.length < sizeLine) : DPut H a (kV k) v (upd H a (.dK (putK kvs k v))) := .inl ⟨kvs, k, e, rfl, hl, rfl⟩
theorem DPut.t {H : Hp} {a b : Addr} {kvs : List (List Key × V)} {k : List Key} {v : V} (e : H a = some (.dT kvs)) (eb : H b = some (.tup (k.map kV))) (hl : kvs.length < sizeLine) :
    DPut H a (.ref b) v (upd H a (.dT (putK kvs k v))) := .inr ⟨kvs, k, b, e, rfl, eb, hl, rfl⟩
section
variable {X : Cx} {pins : List (Addr × Obj)} {σ : St} {H : Hp} {s : Shared} {a : Addr} {y v : V} {u r : Value} {o : Option V} {A : Around} {E : Value → Shared → Prop}
theorem Inv.big (I : Inv X pins σ H s) : sysModules < s.heap.objs.size := by
  have h : mainGlobals < s.heap.objs.size := (I.mod.glob.keeps I.bk).lt
  exact Nat.lt_trans (by decide) h
theorem d_notIn {Q : Value → Shared → Prop} (hu : A.units + 1 < cLine) (I : Inv X pins σ H s) (g : DGet H a y o) (ry : RelV y u) (h : ∀ s', Inv X pins σ H s' → Q (.bool (!o.isSome)) s') :
    wpAny (model X.prog X.w) A (compareOp .NotIn u (.ref a)) Q E s := by
  rcases g with ⟨kvs, k, e, ey, l⟩ | ⟨kvs, k, b, e, ey, eb, l⟩
  · subst ey
    obtain ⟨z, hd, vs, rel, dd⟩ := dk_rd I.hok e
    refine wpAny_notIn_of (kV_is ry) hd dd.mapOf ?_
    rw [← (rel.val k).isSome_eq, ← l]
    exact h _ (I.tok _)
  · subst ey
    cases (show u = Value.ref b from ry)
    obtain ⟨z, hd, xs, rel, dd⟩ := dt_rd I.hok e
    refine wpAny_notIn_heap (tupleKind_room_in1 hu) (key_of I.hok eb) hd dd ?_
    have q := (rel.val k).isSome_eq
    rw [Option.isSome_map] at q
    rw [← q, ← l]
    exact h _ (I.tok _)
theorem d_write {h' : Heap} {t' : Nat} {ob : HO} (I : Inv X pins σ H s) (mu : Mut (H a)) (hs : Heap.SameBut a s.heap h') (he : ∃ q, h'.get? a = some q) (new : ObjOk X.prog X.w (upd H a ob) h' a ob) :
    Inv X pins σ (upd H a ob) { s with heap := h', toks := t' } :=
  I.write (x := a) (e := a) mu (.inl rfl) (fun b q hb z => (hs.2 b hb).trans z) he new
theorem dk_new {P : Program} {w : World} {H' : Hp} {h' : Heap} {kvs : List (Key × V)} {vs : List (Key × Value)} (z : kvs.length ≤ sizeLine) (hd : (a == sysModules) = false) (rel : KV kvs vs) (dd : h'.DictOf (mixKind P w) a vs) :
    ObjOk P w H' h' a (.dK kvs) := ⟨z, hd, vs, rel, dd⟩
theorem d_setItem {H' : Hp} {Q : Unit → Shared → Prop} (hu : A.units + 1 < cLine) (I : Inv X pins σ H s) (g : DPut H a y v H') (ry : RelV y u) (rv : RelV v r) (h : ∀ s', Inv X pins σ H' s' → Q () s') :
    wpAny (model X.prog X.w) A (setItem (.ref a) u r) Q E s := by
  rcases g with ⟨kvs, k, e, ey, l, eH⟩ | ⟨kvs, k, b, e, ey, eb, l, eH⟩
  · subst ey eH
    obtain ⟨z, hd, vs, rel, dd⟩ := dk_of I.hok e
    have hz : vs.length ≤ sizeLine := by rw [← rel.length]; exact z
    have hl : (putK kvs k v).length ≤ sizeLine := by have := length_putK kvs k v; omega
    refine wpAny_setItem_pairs (hsz := hz) (kV_is ry) dd fun h' dd' hs => h _ ?_
    have he : ∃ q, h'.get? a = some q := let ⟨q, _, _, hq, _⟩ := dd'; ⟨q, hq⟩
    exact d_write I (by rw [e]; exact True.intro) hs he (dk_new hl hd (rel.put k rv) dd')
  · subst ey eH
    cases (show u = Value.ref b from ry)
    obtain ⟨z, hd, xs, rel, dd⟩ := dt_of I.hok e
    have hz : xs.length ≤ sizeLine := by rw [← Paired.length rel]; exact z
    have hl : (putK kvs k v).length ≤ sizeLine := by have := length_putK kvs k v; omega
    refine wpAny_setItem_heap (hsz := hz) (tupleKind_room_in1 hu) (key_of I.hok eb) dd fun h' dd' hs => h _ ?_
    obtain ⟨q, es, ep, hq, h2, h3, h4, _, h5⟩ := dd'
    refine d_write I (by rw [e]; exact True.intro) hs ⟨q, hq⟩ ⟨hl, hd, _, (rel.put k eb rv).keeps fun c ys ec => ?_, q, es, ep, hq, h2, h3, h4, h5⟩
    rw [upd_ne (ne_of ec e (fun z => nomatch z))]
    exact ec
end
section
variable {X : Cx} {pins : List (Addr × Obj)} {σ : St} {H : Hp} {s : Shared} {a : Addr} {kvs : List (Key × V)} {k : Key} {u : Value} {A : Around} {E : Value → Shared → Prop}
end
noncomputable def tDNotIn (ty td : TE) : TE := fun σ H Q => ty σ H fun y H1 => td σ H1 fun x H2 => ∃ a o, x = .ref a ∧ DGet H2 a y o ∧ Q (.bl (!o.isSome)) H2
noncomputable def sDPut (td ty tv : TE) : TS := fun D σ H => tv σ H fun v H1 => td σ H1 fun x H2 => ty σ H2 fun y H3 => ∃ a H4, x = .ref a ∧ DPut H3 a y v H4 ∧ D.nx σ H4
section
variable {X : Cx} {o i e value : Expr} {pos pos' tpos : Pos} {td ty tv : TE}
theorem pc_dnotin (hu : X.A.units + 1 < cLine) (hi : PE X i ty) (ho : PE X o td) : PC X .NotIn i o (tDNotIn ty td) := by
  intro pins s σ H Q I h
  refine thn (hi pins s σ H _ I h) fun iv s1 ⟨y, H1, I1, ry, q1⟩ => thn (ho pins s1 σ H1 _ I1 q1) fun u s2 ⟨x, H2, I2, rx, a, ov, ex, g, q2⟩ => ?_
  subst ex
  obtain rfl : u = Value.ref a := rx
  exact d_notIn hu I2 g ry fun s3 I3 => ⟨.bl (!ov.isSome), H2, I3, rfl, q2⟩
theorem ps_dput (hu : X.A.units + 1 < cLine) (ho : PE X o td) (hi : PE X i ty) (hv : PE X value tv) (hs : swapsWith value (some (.Subscript o i pos')) pos.line X.env = pure false) :
    PS X (.Assign [.Subscript o i pos'] value pos) (sDPut td ty tv) := by
  intro pins s σ H D I h
  refine wpAny_Assign_Subscript (thn (hv pins s σ H _ I h) fun r s1 ⟨v, H1, I1, rv, q1⟩ => thn (ho pins s1 σ H1 _ I1 q1) fun u s2 ⟨x, H2, I2, rx, q2⟩ => thn (hi pins s2 σ H2 _ I2 q2) fun iv s3 ⟨y, H3, I3, ry, a, H4, ex, g, q3⟩ => ?_) hs
  subst ex
  obtain rfl : u = Value.ref a := rx
  exact d_setItem hu I3 g ry rv fun s4 I4 => ⟨σ, H4, I4, q3⟩
end
theorem dt_empty {P : Program} {w : World} {H : Hp} (h : Heap) (hb : sysModules < h.objs.size) : ObjOk P w H (h.push { cls := .type "dict", data := .dict #[] }) h.objs.size (.dT []) :=
  ⟨Nat.zero_le _, beq_eq_false_iff_ne.mpr (Ne.symm (Nat.ne_of_lt hb)), [], .nil, _, #[], 0, Heap.get?_push_size _ rfl, ⟨rfl, rfl, rfl⟩, rfl, rfl, List.nodup_nil⟩
noncomputable def tDNewT : TE := fun _ H Q => ∀ p, H p = none → Q (.ref p) (upd H p (.dT []))
section
variable {X : Cx} {pos : Pos}
theorem pe_dnewT : PE X (.Dict [] [] pos) tDNewT := fun pins s σ H Q I h =>
  wpAny_Dict_empty ⟨.ref s.heap.objs.size, _, I.laid (a := s.heap.objs.size) (o := .dT []) (t' := s.toks) (fun _ _ q => Heap.get?_push_of_some _ q) (Nat.le_refl _) (dt_empty s.heap I.big), rfl, h _ (I.hok.fresh (Nat.le_refl _))⟩
end
noncomputable def mergeK (kvs more : List (Key × V)) : List (Key × V) := more.foldl (fun acc kv => putK acc kv.1 kv.2) kvs
theorem KV.merge : ∀ {more : List (Key × V)} {rs : List (Key × Value)} {kvs : List (Key × V)} {vs : List (Key × Value)}, KV more rs → KV kvs vs → KV (mergeK kvs more) (merged vs rs) := by
  intro more rs kvs vs r
  unfold KV at r
  induction r generalizing kvs vs with
  | nil => intro q; exact q
  | @cons p q ps qs h t ih =>
    intro r0
    have e : KV (putK kvs p.1 p.2) (stored vs q.1 q.2) := by
      have := r0.put p.1 h.2
      rw [← h.1]; exact this
    exact ih e
section
variable {X : Cx} {pins : List (Addr × Obj)} {σ : St} {H : Hp} {s : Shared} {a : Addr} {y d : V} {u r : Value} {o : Option V} {A : Around} {E : Value → Shared → Prop}
end
section
variable {X : Cx} {o e f : Expr} {apos cpos : Pos} {td ty tx : TE}
end
section
variable {X : Cx} {pins : List (Addr × Obj)} {σ : St} {H : Hp} {s : Shared} {a : Addr} {kvs : List (Key × V)} {A : Around} {E : Value → Shared → Prop}
end
section
variable {X : Cx} {pins : List (Addr × Obj)} {σ : St} {H : Hp} {s : Shared} {a : Addr} {y : V} {u : Value} {A : Around} {E : Value → Shared → Prop}
end
end L2
set_option Elab.async false
set_option maxRecDepth 100000
namespace L2
open PySem PySem.Spec PyProof.Rows
theorem sum_ones : ∀ (cs : List Nat), ((cs.map fun c => (⟨#[c]⟩ : Str)).map (·.length)).sum = cs.length
  | [] => rfl
  | c :: cs => by
    have := sum_ones cs
    simp only [List.map_cons, List.sum_cons, this, List.length_cons]
    show 1 + cs.length = _
    omega
theorem sing_lt (a b : Nat) : ([a] < [b]) ↔ a < b := by
  rw [List.cons_lt_cons_iff]
  simp
end L2
set_option Elab.async false
set_option maxRecDepth 100000
namespace L2
open PySem PySem.Spec PyProof.Rows
noncomputable def clOf (scope : Scope) (env : Env) : List (Str × Addr) :=
  (scope.names.filterMap fun p => if p.2 == NameKind.free then (env.cells.lookup p.1).map fun c => (p.1, c) else none).reverse
theorem closure_loop {env : Env} : ∀ (names : List (Str × NameKind)) (acc : List (Str × Addr)), (∀ y ∈ names, y.2 = .free → ∃ c, env.cells.lookup y.1 = some c) →
    (forIn names acc fun (x : Str × NameKind) (cs : List (Str × Addr)) => (match x with
      | (name, kind) => if (kind == NameKind.free) = true then do
          let c ← cellOf env name
          pure (ForInStep.yield ((name, c) :: cs))
        else pure (ForInStep.yield cs) : Sem (ForInStep (List (Str × Addr))))) =
      pure ((names.filterMap fun p => if p.2 == NameKind.free then (env.cells.lookup p.1).map fun c => (p.1, c) else none).reverse ++ acc)
  | [], acc, _ => rfl
  | (n, k) :: r, acc, h => by
    rw [List.forIn_cons]
    by_cases hk : k = .free
    · subst hk
      obtain ⟨c, hc⟩ := h (n, .free) List.mem_cons_self rfl
      have e1 : cellOf env n = pure c := by unfold cellOf; rw [hc]
      have ih := closure_loop r ((n, c) :: acc) fun y hy => h y (List.mem_cons_of_mem _ hy)
      simp only [beq_self_eq_true, if_true, e1, pure_bind, List.filterMap_cons, hc, Option.map_some, List.reverse_cons, List.append_assoc, List.singleton_append]
      exact ih
    · have hb : (k == NameKind.free) = false := by simpa using hk
      have ih := closure_loop r acc fun y hy => h y (List.mem_cons_of_mem _ hy)
      simp only [hb, Bool.false_eq_true, if_false, pure_bind, List.filterMap_cons]
      exact ih
theorem closureFor_eq {scope : Scope} {env : Env} (h : ∀ y ∈ scope.names, y.2 = .free → ∃ c, env.cells.lookup y.1 = some c) : closureFor scope env = pure (clOf scope env) := by
  have e := closure_loop (env := env) scope.names [] h
  unfold closureFor
  rw [List.append_nil] at e
  exact (congrArg (· >>= pure) e).trans (by rfl)
theorem clOf_mem {scope : Scope} {env : Env} {y : Str} {c : Addr} (h : (y, c) ∈ clOf scope env) : (y, NameKind.free) ∈ scope.names ∧ env.cells.lookup y = some c := by
  unfold clOf at h
  obtain ⟨⟨n, k⟩, hp, e⟩ := List.mem_filterMap.mp (List.mem_reverse.mp h)
  by_cases hk : k = .free
  · subst hk
    simp only [beq_self_eq_true, if_true] at e
    cases hc : env.cells.lookup n with
    | none => rw [hc] at e; cases e
    | some c' =>
      rw [hc] at e
      have e' : (n, c') = (y, c) := Option.some.inj e
      cases e'
      exact ⟨hp, hc⟩
  · have hb : (k == NameKind.free) = false := by simpa using hk
    simp only [hb, Bool.false_eq_true, if_false] at e
    cases e
theorem clOf_sub {scope : Scope} {env : Env} {y : Str} {c : Addr} (h : (clOf scope env).lookup y = some c) : env.cells.lookup y = some c := (clOf_mem (PySem.mem_of_lookup h)).2
theorem lookup_of_mem {α : Type} {y : Str} : ∀ {l : List (Str × α)} {c : α}, (y, c) ∈ l → ∃ c', l.lookup y = some c'
  | (n, a) :: r, c, h => by
    by_cases e : y = n
    · subst e; exact ⟨a, by simp [List.lookup_cons]⟩
    · have hb : (y == n) = false := by simpa using e
      rcases List.mem_cons.mp h with h | h
      · cases h; exact absurd rfl e
      · obtain ⟨c', h'⟩ := lookup_of_mem h
        exact ⟨c', by simp [List.lookup_cons, hb, h']⟩
theorem clOf_has {scope : Scope} {env : Env} {y : Str} {c : Addr} (h1 : (y, NameKind.free) ∈ scope.names) (h2 : env.cells.lookup y = some c) : (clOf scope env).lookup y = some c := by
  have m : (y, c) ∈ clOf scope env := by
    unfold clOf
    exact List.mem_reverse.mpr (List.mem_filterMap.mpr ⟨(y, .free), h1, by simp [h2]⟩)
  obtain ⟨c', h'⟩ := lookup_of_mem m
  have := clOf_sub h'
  rw [h2] at this
  cases this
  exact h'
theorem relabel_free {scope : Scope} {env : Env} (hcell : ∀ y ∈ scope.names, y.2 ≠ .cell) {y : Str} (h : (relabel scope env).names.lookup y = some .cell ∨ (relabel scope env).names.lookup y = some .free) : (y, NameKind.free) ∈ scope.names := by
  have m : ∃ k, (k = .cell ∨ k = .free) ∧ (y, k) ∈ (relabel scope env).names := by
    rcases h with h | h
    · exact ⟨_, .inl rfl, PySem.mem_of_lookup h⟩
    · exact ⟨_, .inr rfl, PySem.mem_of_lookup h⟩
  obtain ⟨k, hk, hm⟩ := m
  unfold relabel at hm
  obtain ⟨⟨n, k'⟩, hp, e⟩ := List.mem_map.mp hm
  dsimp only at e
  by_cases hf : k' = .free
  · subst hf
    split at e <;> (cases e; exact hp)
  · have hb : (k' == NameKind.free) = false := by simpa using hf
    rw [hb, Bool.false_and, Bool.false_and, if_neg (by decide)] at e
    cases e
    rcases hk with hk | hk
    · exact absurd hk (hcell _ hp)
    · exact absurd hk hf
noncomputable def cxComp (X : Cx) (N : List Str) (scope : Scope) (C : Addr) (s : Shared) (H : Hp) (fp : List Addr) : Cx where
  prog := X.prog
  w := X.w
  K := X.K
  mg := X.mg
  base := X.base
  A := X.A
  N := N
  s₀ := s
  H₀ := H
  env := compEnvC scope (clOf scope X.env) C X.env
  outer := X.stack
  stack := X.stack
  ex := fp
  fn := fun _ => false
  calm := true
  pn := []
  xe := fun _ _ => False
noncomputable def Caps (X : Cx) (scope : Scope) : List Str → List Nat → Prop
  | [], [] => True
  | x :: xs, i :: is => (X.N[i]? = some x ∧ (X.env.scope.names.lookup x = some .cell ∨ X.env.scope.names.lookup x = some .free) ∧ scope.names.lookup x = some .free) ∧ Caps X scope xs is
  | _, _ => False
theorem Caps.len {X : Cx} {scope : Scope} : ∀ {xs : List Str} {is : List Nat}, Caps X scope xs is → is.length = xs.length
  | [], [], _ => rfl
  | _ :: _, _ :: _, h => congrArg (· + 1) (Caps.len h.2)
  | [], _ :: _, h => h.elim
  | _ :: _, [], h => h.elim
theorem Caps.at {X : Cx} {scope : Scope} : ∀ {xs : List Str} {is : List Nat} {j : Nat} {x : Str}, Caps X scope xs is → xs[j]? = some x → ∃ i, is[j]? = some i ∧ X.N[i]? = some x ∧ (X.env.scope.names.lookup x = some .cell ∨ X.env.scope.names.lookup x = some .free) ∧ scope.names.lookup x = some .free
  | [], [], _, _, _, e => by simp at e
  | y :: _, i :: _, 0, x, h, e => by
    simp at e; subst e
    exact ⟨i, rfl, h.1⟩
  | _ :: xs, _ :: is, j + 1, x, h, e => by
    obtain ⟨i, h1, h2⟩ := Caps.at (j := j) h.2 (by simpa using e)
    exact ⟨i, by simpa using h1, h2⟩
  | [], _ :: _, _, _, h, _ => h.elim
  | _ :: _, [], _, _, h, _ => h.elim
noncomputable def inner (cap : List Nat) (σ : St) : St := none :: cap.map fun i => (σ[i]?).join
noncomputable def PTs (X : Cx) (ifs : List Expr) (t : TT) : Prop :=
  ∀ (pins : List (Addr × Obj)) (s : Shared) (σ : St) (H : Hp) (Q : Bool → Hp → Prop), Inv X pins σ H s → t σ H Q →
    wpAny (model X.prog X.w) X.A (forIn ifs true fun c r => if r = true then do let ok ← isTrue c X.env (eval c X.env); pure (ForInStep.yield ok) else pure (ForInStep.yield r)) (TP X pins σ Q) X.xe s
noncomputable def tYes : TT := fun _ H Q => Q true H
theorem pts_nil {X : Cx} : PTs X [] tYes := fun _ _ _ H _ I h => wpAny_tests_nil ⟨H, I, h⟩
theorem pts_one {X : Cx} {c : Expr} {t : TT} (h : PT X c t) : PTs X [c] t := fun pins s σ H Q I q => wpAny_tests_one (h pins s σ H Q I q)
theorem compLoop_any {prog : Program} {w : World} {A : Around} {R : Result → Shared → Prop} {s : Shared} {elt target iter : Expr} {ifs : List Expr} {scope : Scope} {pos : Pos} {it acc : Value} {env : Env} (I : Nat → Shared → Prop)
    (turn : ∀ n s, I n s → wpAny (model prog w) A (pyNext it) (fun r s₁ => match r with
      | none => R (.ok .next) s₁
      | some v => wpAny (model prog w) A (letOwnedTupleGo target it v) (fun _ s₁' => wpAny (model prog w) A (assign target env v) (fun _ s₂ =>
          wpAny (model prog w) A (forIn ifs true fun c r => if r = true then do let ok ← isTrue c env (eval c env); pure (ForInStep.yield ok) else pure (ForInStep.yield r)) (fun ok s₃ =>
            if ok = true then wpAny (model prog w) A (eval elt env) (fun x s₄ =>
              wpAny (model prog w) A (call (.builtin "list.append") [acc, x]) (fun _ s₅ => ∃ m, m < n ∧ I m s₅) (fun _ _ => False) s₄) (fun _ _ => False) s₃
            else ∃ m, m < n ∧ I m s₃) (fun _ _ => False) s₂) (fun _ _ => False) s₁') (fun _ _ => False) s₁) (fun _ _ => False) s)
    (n : Nat) (h : I n s) :
    codeAny (model prog w) A (.compLoop (.ListComp elt [⟨target, iter, ifs, 0⟩] scope pos) 0 it acc env) R s := by
  refine codeAny_loop rfl I (fun n s hI => ?_) n h
  show wpAny _ A ((compTurn (.ListComp elt [⟨target, iter, ifs, 0⟩] scope pos) 0 it acc env).onRaise (fun x => do noteFrame x env; theTreesLotGoes x)) _ _ s
  refine wpAny_noted ?_
  rw [compTurn_list]
  refine wpAny_bind (wpAny_standAt (wpAny_bind (wpAny_mono (turn n s hI) (fun r s₁ h₁ => ?_) fun _ _ h' => h'.elim)))
  cases r with
  | none => exact wpAny_pure h₁
  | some v =>
    refine wpAny_bind (wpAny_mono h₁ (fun _ s₁' h₁' => ?_) fun _ _ h' => h'.elim)
    refine wpAny_bind (wpAny_mono h₁' (fun _ s₂ h₂ => wpAny_bind (wpAny_mono h₂ (fun ok s₃ h₃ => ?_) fun _ _ h' => h'.elim)) fun _ _ h' => h'.elim)
    cases ok with
    | false => exact wpAny_pure ⟨rfl, h₃⟩
    | true =>
      exact wpAny_bind (wpAny_bind (wpAny_mono h₃ (fun x s₄ h₄ => wpAny_bind (wpAny_mono h₄ (fun _ s₅ h₅ => wpAny_pure (wpAny_pure ⟨rfl, h₅⟩)) fun _ _ h' => h'.elim)) fun _ _ h' => h'.elim))
noncomputable def tComp (cap : List Nat) (wi : TI) (tc : TT) (te : TE) : TE := fun σ H Q => wi σ H fun J H1 => ∀ p, H1 p = none →
  ∃ W : Nat → Nat → List V → Hp → Prop, (∃ m, W 0 m [] (upd H1 p (.lst []))) ∧ ∀ i m xs H2, W i m xs H2 →
    (J.stop i H2 ∧ Q (.ref p) H2) ∨ (J.go i H2 ∧ ∃ N : List V → Hp → Prop, (∀ xs' H', N xs' H' → ∃ m', m' < m ∧ W (i + 1) m' xs' H') ∧
      ∀ x H3, J.yld i H2 x H3 → tc ((inner cap σ).set 0 (some x)) H3 fun b H5 => if b = true then te ((inner cap σ).set 0 (some x)) H5 fun v H6 => H6 p = some (.lst xs) ∧ xs.length < sizeLine ∧ N (xs ++ [v]) (upd H6 p (.lst (xs ++ [v]))) else N xs H5)
section
variable {X : Cx} {pins : List (Addr × Obj)} {σ : St}
structure CompScope (X : Cx) (scope : Scope) : Prop where
  cell : ∀ y ∈ scope.names, y.2 ≠ .cell
  kind : scope.kind = .function
  names : ∀ y ∈ scope.names, y.2 = .local → scope.names.lookup y.1 = some .local
  free : ∀ y ∈ scope.names, y.2 = .free → X.env.scope.names.lookup y.1 = some .cell ∨ X.env.scope.names.lookup y.1 = some .free
theorem CompScope.clos {scope : Scope} {H : Hp} {s : Shared} (S : CompScope X scope) (I : Inv X pins σ H s) : closureFor scope X.env = pure (clOf scope X.env) :=
  closureFor_eq fun y hy hf => I.ok.has y.1 (S.free y hy hf)
theorem comp_start {scope : Scope} {x : Str} {cn : List Str} {cap : List Nat} {s3 : Shared} {H3 : Hp} {fp : List Addr} {h₁ : Heap} {tk : Nat} {H2 : Hp} (S : CompScope X scope) (I : Inv X pins σ H3 s3) (hc : X.calm = true) (hcap : Caps X scope cn cap)
    (f2 : ∀ b ∈ fp, FpOk X pins H2 b) (lt : ∀ b ∈ fp, b < s3.heap.objs.size) (keep : ∀ b o, s3.heap.get? b = some o → h₁.get? b = some o) (hns : h₁.Ns s3.heap.objs.size fun _ => none) :
    Inv (cxComp X (x :: cn) scope s3.heap.objs.size s3 H3 fp) [] (inner cap σ) H3 { s3 with heap := h₁, toks := tk } := by
  have noS : ∀ b o, X.base.get? b = some o → b < X.s₀.heap.objs.size := fun b o e => Nat.lt_of_lt_of_le (Heap.lt_size e) I.ok.bsz
  refine ⟨⟨I.ok.mod, S.kind, I.ok.glob, I.ok.blt, Nat.le_refl _, fun y z c h1 h2 => I.ok.inj y z c (clOf_sub h1) (clOf_sub h2), fun y hy => ?_, fun y c h => ?_, fun _ => I.ok.hd hc, I.ok.frames, .inl rfl, fun b hb => ⟨Nat.ne_of_lt (lt b hb), fun y c h => (f2 b hb).2.2.2.2.1 y c (clOf_sub h)⟩,
    I.bs, Nat.le_trans I.ok.bsz I.sz, fun b o e hb => ?_, fun b hb z => ?_, I.stack, I.stkFree⟩, rfl, I.bare, Un.kept keep, ⟨_, hns, fun i y v e1 e2 e3 => ?_⟩, fun y c e => ?_, I.hok.fresh (Nat.le_refl _), fun y c e => I.freeC y c (clOf_sub e), fun p hp => absurd (show p ∈ ([] : List (Addr × Obj)) from hp) (by simp), I.hok.kept keep, ?_⟩
  · have m := relabel_free S.cell hy
    obtain ⟨c, hc'⟩ := I.ok.has y (S.free _ m rfl)
    exact ⟨c, clOf_has m hc'⟩
  · cases h
  · rcases (f2 b hb).2.2.2.1 with z | z
    · exact I.ok.noex b o e z
    · exact absurd (Nat.lt_of_lt_of_le (noS b o e) z) (Nat.lt_irrefl _)
  · rcases List.mem_cons.mp (I.stkSub b z) with e | e
    · exact (f2 b hb).2.1 e
    · exact (f2 b hb).2.2.1 e
  · cases i with
    | zero =>
      have e2 : (some none : Option (Option V)) = some (some v) := e2
      cases e2
    | succ j =>
      have e1 : cn[j]? = some y := e1
      obtain ⟨k, hk, hN, hkind, hfr⟩ := hcap.at e1
      have e2 : (cap.map fun i => (σ[i]?).join)[j]? = some (some v) := e2
      rw [List.getElem?_map, hk] at e2
      have e2 : (σ[k]?).join = some v := Option.some.inj e2
      have e2 : σ[k]? = some (some v) := by
        cases q : σ[k]? with
        | none => rw [q] at e2; cases e2
        | some o => rw [q] at e2; cases o with
          | none => cases e2
          | some v' => have e2 : some v' = some v := e2; rw [e2]
      obtain ⟨m, hn, hl⟩ := I.loc
      obtain ⟨u, r, l⟩ := hl k y v hN e2 (.inr hkind)
      refine ⟨u, r, ?_⟩
      rcases l with ⟨kl, _⟩ | ⟨_, c, hc', o, ho, hd⟩
      · have kl : X.env.scope.names.lookup y = some .local := kl
        rw [kl] at hkind
        rcases hkind with z | z <;> cases z
      · refine .inr ⟨?_, c, clOf_has (PySem.mem_of_lookup hfr) hc', o, keep c o ho, hd⟩
        rcases e3 with z | z
        ·
          exfalso
          have z : (relabel scope X.env).names.lookup y = some .local := z
          have hm := PySem.mem_of_lookup z
          unfold relabel at hm
          obtain ⟨⟨n, k'⟩, hp, e⟩ := List.mem_map.mp hm
          dsimp only at e
          have hl2 : (y, NameKind.local) ∈ scope.names := by
            split at e
            · cases e
            · cases e; exact hp
          have := S.names _ hl2 rfl
          rw [hfr] at this
          cases this
        · exact z
  · obtain ⟨v, o, ho, hd⟩ := I.cell y c (clOf_sub e)
    exact ⟨v, o, keep c o ho, hd⟩
  · show (inner cap σ).length = (x :: cn).length
    unfold inner
    rw [List.length_cons, List.length_map, hcap.len, List.length_cons]
theorem comp_out {scope : Scope} {N : List Str} {C : Addr} {s3 s' : Shared} {H2 H3 Hf : Hp} {fp : List Addr} {pins' : List (Addr × Obj)} {σ' : St} (I : Inv X pins σ H3 s3) (J : Inv (cxComp X N scope C s3 H3 fp) pins' σ' Hf s') (f2 : ∀ b ∈ fp, FpOk X pins H2 b) : Inv X pins σ Hf s' :=
  I.call' (ch := fp) J.os J.base J.hok J.bare fun b hb => ⟨(f2 b hb).2.2.2.1, (f2 b hb).2.1, (f2 b hb).2.2.2.2.1, (f2 b hb).2.2.2.2.2⟩
theorem comp_core {scope : Scope} {x : Str} {px pos : Pos} {elt iter : Expr} {ifs : List Expr} {cn : List Str} {cap : List Nat} {s2 : Shared} {H2 : Hp} {it : Addr} {fp : List Addr} {tn : Nat → Heap → Prop} {J : It} {tc : TT} {te : TE} {Q : VK} {RR : Value → Addr → Result → Shared → Prop} {E : Value → Shared → Prop}
    (S : CompScope X scope) (I2 : Inv X pins σ H2 s2) (hc : X.calm = true) (hcap : Caps X scope cn cap) (hx : scope.names.lookup x = some .local) (hnd : (x :: cn).Nodup)
    (T : Turn X.prog X.w X.K (.Name x px) J fp it tn) (st2 : tn 0 s2.heap) (f2 : ∀ b ∈ fp, FpOk X pins H2 b)
    (body : ∀ (C : Addr) (s : Shared) (H : Hp) (fp : List Addr), PTs (cxComp X (x :: cn) scope C s H fp) ifs tc ∧ PE (cxComp X (x :: cn) scope C s H fp) elt te)
    (q : ∀ p, H2 p = none → ∃ W : Nat → Nat → List V → Hp → Prop, (∃ m, W 0 m [] (upd H2 p (.lst []))) ∧ ∀ i m xs H3, W i m xs H3 →
      (J.stop i H3 ∧ Q (.ref p) H3) ∨ (J.go i H3 ∧ ∃ N : List V → Hp → Prop, (∀ xs' H', N xs' H' → ∃ m', m' < m ∧ W (i + 1) m' xs' H') ∧
        ∀ v H4, J.yld i H3 v H4 → tc ((inner cap σ).set 0 (some v)) H4 fun b H5 => if b = true then te ((inner cap σ).set 0 (some v)) H5 fun v H6 => H6 p = some (.lst xs) ∧ xs.length < sizeLine ∧ N (xs ++ [v]) (upd H6 p (.lst (xs ++ [v]))) else N xs H5))
    (hRR : ∀ (p C : Addr) (s3 s' : Shared) (H3 Hf : Hp) (σ' : St), Inv X pins σ H3 s3 → s3.heap.objs.size = C → Inv (cxComp X (x :: cn) scope C s3 H3 fp) [] σ' Hf s' → Q (.ref p) Hf → RR (.ref p) C (.ok .next) s') :
    wpAny (model X.prog X.w) X.A (newList []) (fun acc s₃ => wpAny (model X.prog X.w) X.A (newFunctionEnv scope X.env.globals (clOf scope X.env) [] X.env.qual none .none (some X.env)) (fun cenv s₄ =>
      codeAny (model X.prog X.w) X.A (.compStart (.ListComp elt [⟨.Name x px, iter, ifs, 0⟩] scope pos) 0 (.ref it) acc { cenv with scope := relabel scope X.env }) (RR acc cenv.locals) s₄) E s₃) E s2 := by
  refine wpAny_newObj_type (wpAny_newFunctionEnv S.cell (by intro y hy; simp at hy) (fun h₁ hns₁ hsb₁ => ?_) S.kind)
  dsimp only at hns₁ hsb₁ ⊢
  have hfr : H2 s2.heap.objs.size = none := I2.hok.fresh (Nat.le_refl _)
  obtain ⟨W, ⟨m0, w0⟩, turn⟩ := q _ hfr
  have I3 : Inv X pins σ (upd H2 s2.heap.objs.size (.lst [])) { s2 with heap := s2.heap.push { cls := .type "list", data := .seq ([] : List Value).toArray } } :=
    I2.lnew (its := []) (t' := s2.toks) .nil (Nat.zero_le _)
  generalize hs3 : ({ s2 with heap := s2.heap.push { cls := .type "list", data := .seq ([] : List Value).toArray } } : Shared) = s3 at I3
  have hs3h : s3.heap = s2.heap.push { cls := .type "list", data := .seq ([] : List Value).toArray } := by rw [← hs3]
  have hst3 : tn 0 s3.heap := T.keep _ _ _ st2 fun b hb o e => by rw [hs3h]; exact Heap.get?_push_of_some _ e
  have ltf : ∀ b ∈ fp, b < s3.heap.objs.size := fun b hb => by
    obtain ⟨o, e, _⟩ := T.obj _ _ hst3 b hb
    exact Heap.lt_size e
  have hC : (s2.heap.push { cls := .type "list", dict := none, data := .seq ([] : List Value).toArray }).objs.size = s3.heap.objs.size := by rw [hs3h]
  rw [hC] at hns₁ hsb₁ ⊢
  have keep : ∀ b o, s3.heap.get? b = some o → h₁.get? b = some o := fun b o e => by
    refine hsb₁.extBut b o (Nat.ne_of_lt (Heap.lt_size e)) (Heap.get?_push_of_some _ ?_)
    rw [hs3h] at e
    exact e
  have J4 : Inv (cxComp X (x :: cn) scope s3.heap.objs.size s3 (upd H2 s2.heap.objs.size (.lst [])) fp) [] (inner cap σ) (upd H2 s2.heap.objs.size (.lst [])) { s3 with heap := h₁, toks := s2.toks + ([] : List (Str × Value)).length } :=
    comp_start S I3 hc hcap f2 ltf keep hns₁
  have st4 : tn 0 h₁ := T.keep _ _ _ hst3 fun b hb o e => keep b o e
  have fr4 : ∀ b ∈ fp, (upd H2 s2.heap.objs.size (.lst [])) b = none := fun b hb => by
    obtain ⟨o, e, _⟩ := T.obj _ _ st2 b hb
    rw [upd_ne (Nat.ne_of_lt (Heap.lt_size e))]
    exact (f2 b hb).1
  have hst : ({ s2 with heap := h₁, toks := s2.toks + ([] : List (Str × Value)).length } : Shared) = { s3 with heap := h₁, toks := s2.toks + ([] : List (Str × Value)).length } := by rw [← hs3]
  have loop : codeAny (model X.prog X.w) X.A (.compLoop (.ListComp elt [⟨.Name x px, iter, ifs, 0⟩] scope pos) 0 (.ref it) (.ref s2.heap.objs.size) (compEnvC scope (clOf scope X.env) s3.heap.objs.size X.env))
      (RR (.ref s2.heap.objs.size) s3.heap.objs.size) { s2 with heap := h₁, toks := s2.toks + ([] : List (Str × Value)).length } := by
    rw [hst]
    generalize hX' : cxComp X (x :: cn) scope s3.heap.objs.size s3 (upd H2 s2.heap.objs.size (.lst [])) fp = X' at J4
    have hfpk : ∀ {Hc : Hp}, (∀ b ∈ fp, Hc b = none) → ∀ b ∈ fp, FpOk X' [] Hc b := fun {Hc} hn b hb => by
      subst hX'
      refine ⟨hn b hb, (J4.ok.exf b hb).1, J4.ok.exfs b hb, .inl hb, (J4.ok.exf b hb).2, fun p hp => absurd (show p ∈ ([] : List (Addr × Obj)) from hp) (by simp)⟩
    refine compLoop_any (fun n s' => ∃ i xs Hc, Inv X' [] (inner cap σ) Hc s' ∧ tn i s'.heap ∧ (∀ b ∈ fp, Hc b = none) ∧ W i n xs Hc) ?_ m0 ⟨0, [], _, J4, st4, fr4, w0⟩
    rintro n s5 ⟨i, xs, Hc, I5, st5, fr5, w5⟩
    have B := body s3.heap.objs.size s3 (upd H2 s2.heap.objs.size (.lst [])) fp
    rcases turn i n xs Hc w5 with ⟨stop, qn⟩ | ⟨go, N, hN, step⟩
    · subst hX'
      refine thn (T.done (cxComp X (x :: cn) scope s3.heap.objs.size s3 (upd H2 s2.heap.objs.size (.lst [])) fp) rfl rfl rfl rfl i [] s5 (inner cap σ) Hc (fun _ _ => False) I5 (hfpk fr5) st5 stop) fun r s6 ⟨hr, I6⟩ => ?_
      subst hr
      exact hRR _ _ s3 s6 _ Hc _ I3 rfl I6 qn
    · subst hX'
      refine thn (T.item (cxComp X (x :: cn) scope s3.heap.objs.size s3 (upd H2 s2.heap.objs.size (.lst [])) fp) rfl rfl rfl rfl i [] s5 (inner cap σ) Hc (fun _ _ => False) I5 (hfpk fr5) st5 go) fun r s6 ⟨u, hr, h6⟩ => ?_
      subst hr
      refine thn h6 fun _ s7 ⟨v, H7, I7, r7, y7, st7, fr7⟩ => ?_
      have I7' := I7.pinned (hfpk fr7) (T.obj _ _ st7)
      have hlook : (relabel scope X.env).names.lookup x = some .local := lookup_relabel_local hx
      refine wpAny_assign_Name (store_ok (X := cxComp X (x :: cn) scope s3.heap.objs.size s3 (upd H2 s2.heap.objs.size (.lst [])) fp) I7' (i := 0) hnd rfl (.inl hlook) r7 (fun s8 I8 => ?_) (.inr hlook))
      have again : ∀ {s9 : Shared} {H9 : Hp} {ys : List V}, Inv (cxComp X (x :: cn) scope s3.heap.objs.size s3 (upd H2 s2.heap.objs.size (.lst [])) fp) ([] ++ pinsAt fp s7.heap) ((inner cap σ).set 0 (some v)) H9 s9 → N ys H9 →
          ∃ m, m < n ∧ ∃ i xs Hc, Inv (cxComp X (x :: cn) scope s3.heap.objs.size s3 (upd H2 s2.heap.objs.size (.lst [])) fp) [] (inner cap σ) Hc s9 ∧ tn i s9.heap ∧ (∀ b ∈ fp, Hc b = none) ∧ W i m xs Hc := fun {s9 H9 ys} I9 n9 => by
        obtain ⟨m', hm, w9⟩ := hN ys H9 n9
        refine ⟨m', hm, i + 1, ys, H9, (I9.unpinned (pins := [])).weak (by simp [inner]) (fun j w e => ?_), T.keep _ _ _ st7 fun b hb o e => (I9.pin (b, o) (List.mem_append_right _ (List.mem_append_right _ (mem_pinsAt hb e)))).1, fun b hb => ?_, w9⟩
        · cases j with
          | zero =>
            have e : (some none : Option (Option V)) = some (some w) := e
            cases e
          | succ j => exact e
        · obtain ⟨o, e, _⟩ := T.obj _ _ st7 b hb
          exact (I9.pin (b, o) (List.mem_append_right _ (List.mem_append_right _ (mem_pinsAt hb e)))).2.1
      refine thn (B.1 _ s8 _ H7 _ I8 (step v H7 y7)) fun ok s9 ⟨H9, I9, q9⟩ => ?_
      cases ok with
      | false =>
        rw [if_neg Bool.false_ne_true] at q9 ⊢
        exact again I9 q9
      | true =>
        rw [if_pos rfl] at q9 ⊢
        refine thn (B.2 _ s9 _ H9 _ I9 q9) fun uy s10 ⟨y, H10, I10, r10, hp, hl, n10⟩ => ?_
        refine thn (mt_append _ s10 _ H10 (.ref s2.heap.objs.size) [y] (.ref s2.heap.objs.size) [uy] (fun _ H11 => N (xs ++ [y]) H11) I10 rfl (.cons r10 .nil) ⟨_, xs, y, rfl, rfl, hp, hl, n10⟩) fun _ s11 ⟨_, H11, I11, _, n11⟩ => ?_
        exact again I11 n11
  exact codeAny_compStart_list loop (T.self _ _ _ _ _ st4 loop)
theorem pe_comp {scope : Scope} {x : Str} {px pos : Pos} {elt iter : Expr} {ifs : List Expr} {cn : List Str} {cap : List Nat} {wi : TI} {tc : TT} {te : TE}
    (hc : X.calm = true) (S : CompScope X scope) (hx : scope.names.lookup x = some .local) (hnd : (x :: cn).Nodup) (hcap : Caps X scope cn cap) (hi : PI X (.Name x px) iter wi)
    (body : ∀ (C : Addr) (s : Shared) (H : Hp) (fp : List Addr), PTs (cxComp X (x :: cn) scope C s H fp) ifs tc ∧ PE (cxComp X (x :: cn) scope C s H fp) elt te)
    (hs : ∀ x, foldedSetIterable iter X.env x = pure x := by intro _; rfl) : PE X (.ListComp elt [⟨.Name x px, iter, ifs, 0⟩] scope pos) (tComp cap wi tc te) := by
  intro pins s σ H Q I h
  rw [eval_ListComp]
  refine wpAny_comprehension_free (use := none) rfl hs (S.clos I) S.kind S.names (thn (hi pins s σ H _ I h) fun xv s1 h1 => thn h1 fun itv s2 h2 => ?_)
  obtain ⟨it, fp, tn, J, H2, e, I2, T, st2, f2, q⟩ := h2
  subst e
  refine comp_core (RR := fun acc C => compPost (model X.prog X.w) X.A X.xe none (EP X pins σ Q) acc C) S I2 hc hcap hx hnd T st2 f2 body q ?_
  intro p C s3 s' H3 Hf σ' I3 hC J' qf
  subst hC
  have I4 := comp_out I3 J' f2
  obtain ⟨m, hn, _⟩ := J'.loc
  refine ⟨m, hn, fun h' hs' => ?_⟩
  refine ⟨.ref p, Hf, ?_, rfl, qf⟩
  have f := I3.fpOk (H' := Hf) (Nat.le_refl _) J'.free
  exact I4.turned (t' := s'.toks) (it := s3.heap.objs.size) (fun b o hb e => (hs'.2 b hb).trans e) f.1 f.2.1 f.2.2.2.1 f.2.2.2.2.1 f.2.2.2.2.2
theorem ps_setcomp {scope : Scope} {x y : Str} {px py pos spos : Pos} {elt iter : Expr} {ifs : List Expr} {cn : List Str} {cap : List Nat} {wi : TI} {tc : TT} {te : TE} {i : Nat}
    (hN : X.N.Nodup) (hi : X.N[i]? = some y) (hy : Loc X.env.scope y) (hc : X.calm = true) (S : CompScope X scope) (hx : scope.names.lookup x = some .local) (hnd : (x :: cn).Nodup) (hcap : Caps X scope cn cap) (hit : PI X (.Name x px) iter wi)
    (body : ∀ (C : Addr) (s : Shared) (H : Hp) (fp : List Addr), PTs (cxComp X (x :: cn) scope C s H fp) ifs tc ∧ PE (cxComp X (x :: cn) scope C s H fp) elt te)
    (hsw : swapsWith (.ListComp elt [⟨.Name x px, iter, ifs, 0⟩] scope pos) (some (.Name y py)) spos.line X.env = pure true := by rfl)
    (hf : X.fn y = true ∨ X.env.scope.names.lookup y = some .local := by first | exact .inl rfl | exact .inr rfl | assumption)
    (hs : ∀ x, foldedSetIterable iter X.env x = pure x := by intro _; rfl) : PS X (.Assign [.Name y py] (.ListComp elt [⟨.Name x px, iter, ifs, 0⟩] scope pos) spos) (tAsg (tComp cap wi tc te) (gName i)) := by
  intro pins s σ H D I h
  rw [exec_Assign_Name_used _ _ _ _ hsw]
  refine wpAny_bind (wpAny_standAt (wpAny_bind ?_))
  show wpAny _ X.A (do let _ ← comprehension (.ListComp elt [⟨.Name x px, iter, ifs, 0⟩] scope pos) scope X.env _ (newList []) false (eval iter X.env) (some (assign (.Name y py) X.env))) _ _ s
  refine wpAny_bind (wpAny_mono (wpAny_comprehension_free (use := some (assign (.Name y py) X.env)) (Q := fun _ s' => SP X pins D .next s') rfl hs (S.clos I) S.kind S.names
    (thn (hit pins s σ H _ I h) fun xv s1 h1 => thn h1 fun itv s2 h2 => ?_)) (fun _ s' hq => wpAny_pure (wpAny_pure hq)) fun _ _ e => e)
  obtain ⟨it, fp, tn, J, H2, e, I2, T, st2, f2, q⟩ := h2
  subst e
  refine comp_core (Q := fun v H1 => gName i v σ H1 D.nx) (RR := fun acc C => compPost (model X.prog X.w) X.A X.xe (some (assign (.Name y py) X.env)) (fun _ s' => SP X pins D .next s') acc C) S I2 hc hcap hx hnd T st2 f2 body q ?_
  intro p C s3 s' H3 Hf σ' I3 hC J' qf
  subst hC
  have I4 := comp_out I3 J' f2
  obtain ⟨m, hn, _⟩ := J'.loc
  have f := I3.fpOk (H' := Hf) (Nat.le_refl _) J'.free
  show wpAny _ X.A (assign (.Name y py) X.env (.ref p)) _ _ _
  refine wpAny_assign_Name (store_ok2 (v := V.ref p) I4 hN hi hy rfl (fun s'' I5 ch => ?_) hf)
  obtain ⟨a, hsb, ha⟩ := ch
  have hCa : s3.heap.objs.size ≠ a := by
    rcases ha with rfl | ha
    · exact f.2.1
    · exact fun z => f.2.2.2.2.1 y a ha z.symm
  refine ⟨m, hn.sameBut hsb hCa, fun h' hs' => ?_⟩
  exact ⟨_, Hf, I5.turned (t' := s''.toks) (it := s3.heap.objs.size) (fun b o hb e => (hs'.2 b hb).trans e) f.1 f.2.1 f.2.2.2.1 f.2.2.2.2.1 f.2.2.2.2.2, qf⟩
end
end L2
set_option Elab.async false
set_option maxRecDepth 100000
namespace L2
open PySem PySem.Spec PyProof.Rows
theorem bt_len : bootBuiltins "len" = some (.builtin "len") := by decide +kernel
theorem bt_isinstance : bootBuiltins "isinstance" = some (.builtin "isinstance") := by decide +kernel
theorem bt_max : bootBuiltins "max" = some (.builtin "max") := by decide +kernel
theorem bt_min : bootBuiltins "min" = some (.builtin "min") := by decide +kernel
theorem bt_sorted : bootBuiltins "sorted" = some (.builtin "sorted") := by decide +kernel
theorem bt_list : bootBuiltins "list" = some (.type "list") := by decide +kernel
theorem bt_int : bootBuiltins "int" = some (.type "int") := by decide +kernel
theorem bt_str : bootBuiltins "str" = some (.type "str") := by decide +kernel
theorem bt_bool : bootBuiltins "bool" = some (.type "bool") := by decide +kernel
theorem bt_set : bootBuiltins "set" = some (.type "set") := by decide +kernel
noncomputable def kitC (T c : String) : Option Bool := if (T == c) = true then some true else if PySem.W.kitMeta c = true then (fastBuiltinMro T).map (·.contains (.type c)) else none
theorem kit_of {K : PySem.W.Frag} {T c : String} {b : Bool} (h : kitC T c = some b) : PySem.W.kitOne K (.type T) (.type c) = some b := by
  unfold kitC at h
  unfold PySem.W.kitOne
  by_cases e : T = c
  · subst e
    rw [if_pos (by simp)] at h
    rw [if_pos (by simp)]
    exact h
  · rw [if_neg (by simpa using e)] at h
    rw [if_neg (by intro z; exact e (by simpa using z))]
    exact h
structure DefOk (P : Program) (w : World) (K : PySem.W.Frag) (mg : Str → Option Value) (base : Heap) (x : Str) (k : Nat) (ps : List Str) (sp : Sp) : Prop where
  ex : ∃ f fd, FnOk P w K mg base CX0 k f fd ps sp ∧ mg x = some (.ref f) ∧ PySem.W.keepIn K (.ref f) = true ∧ Binds K fd ps []
section
variable {X : Cx} {x : Str} {k j : Nat} {ps : List Str} {sp : Sp} {e : Expr} {es : List Expr} {t : TA} {p pos : Pos}
theorem pe_def (F : DefOk X.prog X.w X.K X.mg X.base x k ps sp) (hr : Room j X.A) (hj : k ≤ j) (hg : Gl X x) (ha : PA X (e :: es) t) (hdb : (x == ("__debug__" : Str)) = false := by decide)
    (he : starEach (e :: es) X.env = (false, eval e X.env) :: starEach es X.env := by rfl) (hpl : (backTo pos (starEach es X.env)).any (·.1) = false := by rfl) :
    PE X (.Call (.Name x p) (e :: es) [] pos) (tCall sp [] E0 t) := by
  obtain ⟨f, fd, G, m, kp, b⟩ := F.ex
  exact pe_call G (hr.mono hj) hg m kp b .nil pass0 ha hdb he hpl
end
theorem def_of {P : Program} {w : World} {K : PySem.W.Frag} {mg : Str → Option Value} {base : Heap} {x : Str} {st : Stmt} {f : Addr} {fd : FuncData} {k : Nat} {ps : List Str} {sp : Sp} (F : Fun K x x st f fd) (m : mg x = some (.ref f)) (b : Binds K fd ps []) (G : FnOk P w K mg base CX0 k f fd ps sp) : DefOk P w K mg base x k ps sp :=
  ⟨f, fd, G, m, F.kp, b⟩
theorem free_of {X : Cx} {scope : Scope} (h : (scope.names.all fun p => p.2 != .free || X.env.scope.names.lookup p.1 == some .cell || X.env.scope.names.lookup p.1 == some .free) = true) :
    ∀ y ∈ scope.names, y.2 = .free → X.env.scope.names.lookup y.1 = some .cell ∨ X.env.scope.names.lookup y.1 = some .free := fun y hy hf => by
  have := List.all_eq_true.mp h y hy
  rw [hf] at this
  simpa using this
theorem Same.new {H : Hp} {p : Addr} {o : HO} (h : H p = none) : Same H (upd H p o) := fun b u e => by rw [upd_ne (ne_of_none e h)]; exact e
theorem Same.put {H H' : Hp} {p : Addr} {o : HO} (s : Same H H') (h : H p = none) : Same H (upd H' p o) := fun b u e => by rw [upd_ne (ne_of_none e h)]; exact s b u e
noncomputable def Its (x : Str) : It := ⟨fun i _ => i < x.cps.size, fun i H v H' => H' = H ∧ ∃ c, x.cps[i]? = some c ∧ v = .str ⟨#[c]⟩, fun i _ => i = x.cps.size⟩
noncomputable def StrIt (it : Addr) (x : Str) (t : Tok) (i : Nat) (h : Heap) : Prop := h.IsStrIter it "str_ascii_iterator" x t i ∨ h.IsStrIter it "str_iterator" x t i
theorem turn_str {P : Program} {w : World} {K : PySem.W.Frag} {tg : Expr} (x : Str) (t : Tok) (it : Addr) : Turn P w K tg (Its x) [it] it (StrIt it x t) where
  mem := by simp
  obj := fun i h st b hb => by
    have e : b = it := by simpa using hb
    subst e
    rcases st with ⟨o, e, c, d⟩ | ⟨o, e, c, d⟩ <;> exact ⟨o, e, fun v z => by rw [d] at z; cases z⟩
  keep := fun i h h' st k => by
    rcases st with ⟨o, e, r⟩ | ⟨o, e, r⟩
    · exact .inl ⟨o, k it (by simp) o e, r⟩
    · exact .inr ⟨o, k it (by simp) o e, r⟩
  item := by
    intro X hP hw hK hc i pins s σ H E I hf st hg
    subst hP hw hK
    obtain ⟨f0, f1, f2, f3, f4, f5⟩ := hf it (by simp)
    rcases st with st | st
    · refine (Walks.strAscii (prog := X.prog) (w := X.w) (I.ok.hd hc) it x t).item i s _ _ hg st fun v h' tk hv st' kk => ?_
      obtain ⟨c, u, hcx, rfl⟩ := hv
      have I1 := I.turned (h' := h') (t' := tk) (fun b o hb e => kk b o (by simpa using hb) e) f0 f1 f3 f4 f5
      obtain ⟨o, e, hc', d⟩ := id st'
      exact ⟨_, rfl, go_of (s := { s with heap := h', toks := tk }) e hc' d (by decide) ⟨.str ⟨#[c]⟩, H, I1, ⟨u, rfl⟩, ⟨rfl, c, hcx, rfl⟩, .inl st', fun b hb => (hf b hb).1⟩⟩
    · refine (Walks.strWide (prog := X.prog) (w := X.w) (I.ok.hd hc) it x t).item i s _ _ hg st fun v h' tk hv st' kk => ?_
      obtain ⟨c, u, hcx, rfl⟩ := hv
      have I1 := I.turned (h' := h') (t' := tk) (fun b o hb e => kk b o (by simpa using hb) e) f0 f1 f3 f4 f5
      obtain ⟨o, e, hc', d⟩ := id st'
      exact ⟨_, rfl, go_of (s := { s with heap := h', toks := tk }) e hc' d (by decide) ⟨.str ⟨#[c]⟩, H, I1, ⟨u, rfl⟩, ⟨rfl, c, hcx, rfl⟩, .inr st', fun b hb => (hf b hb).1⟩⟩
  done := by
    intro X hP hw hK hc i pins s σ H E I hf st hg
    subst hP hw hK
    obtain ⟨f0, f1, f2, f3, f4, f5⟩ := hf it (by simp)
    have hg : i = x.cps.size := hg
    subst hg
    rcases st with st | st
    · exact (Walks.strAscii (prog := X.prog) (w := X.w) (I.ok.hd hc) it x t).done s _ _ st fun h' tk kk => ⟨rfl, I.turned (fun b o hb e => kk b o (by simpa using hb) e) f0 f1 f3 f4 f5⟩
    · exact (Walks.strWide (prog := X.prog) (w := X.w) (I.ok.hd hc) it x t).done s _ _ st fun h' tk kk => ⟨rfl, I.turned (fun b o hb e => kk b o (by simpa using hb) e) f0 f1 f3 f4 f5⟩
  self := fun _ _ _ _ _ st h => by
    rcases st with st | st
    · exact wpAny_pyIter_striter_ascii st h
    · exact wpAny_pyIter_striter_wide st h
section
variable {X : Cx} {tg : Expr}
noncomputable def iAny (K : PySem.W.Frag) (tl : TE) : TI := fun σ H R => tl σ H fun v H1 => match v with
  | .str x => R (Its x) H1
  | .ref a => ((∃ xs, SqL K H1 a xs) ∧ R (Itl K a) H1) ∨ ((∃ xs, SqT K H1 a xs) ∧ R (Itt K a) H1)
  | _ => False
theorem pi_any {l : Expr} {tl : TE} (hl : PE X l tl) : PI X tg l (iAny X.K tl) := by
  intro pins s σ H R I h
  refine thn (hl pins s σ H _ I h) fun v s1 ⟨x, H1, I1, r1, q1⟩ => ?_
  have one : ∀ b ∈ [s1.heap.objs.size], FpOk X pins H1 b := fun b hb => by
    have e : b = s1.heap.objs.size := by simpa using hb
    subst e
    exact I1.fpOk (Nat.le_refl _) (I1.hok.fresh (Nat.le_refl _))
  cases x with
  | str z =>
    obtain ⟨t, rfl⟩ := r1
    have q1 : R (Its z) H1 := q1
    cases ha : z.cps.all (· < 128)
    · exact wpAny_pyIter_wide ha ⟨s1.heap.objs.size, [s1.heap.objs.size], _, _, H1, rfl, I1.kept (t' := s1.toks) fun b o e => Heap.get?_push_of_some _ e, turn_str z t _, .inr ⟨_, Heap.get?_push_size _ rfl, rfl, rfl⟩, one, q1⟩
    · exact wpAny_pyIter_ascii ha ⟨s1.heap.objs.size, [s1.heap.objs.size], _, _, H1, rfl, I1.kept (t' := s1.toks) fun b o e => Heap.get?_push_of_some _ e, turn_str z t _, .inl ⟨_, Heap.get?_push_size _ rfl, rfl, rfl⟩, one, q1⟩
  | ref a =>
    cases r1
    have q1 : ((∃ xs, SqL X.K H1 a xs) ∧ R (Itl X.K a) H1) ∨ ((∃ xs, SqT X.K H1 a xs) ∧ R (Itt X.K a) H1) := q1
    rcases q1 with ⟨⟨xs, hq⟩, q⟩ | ⟨⟨xs, hq⟩, q⟩
    · obtain ⟨its, rv, p, hz⟩ := I1.list hq
      exact wpAny_pyIter_list p.isList ⟨s1.heap.objs.size, [s1.heap.objs.size], _, _, H1, rfl, I1.kept (t' := s1.toks) fun b o e => Heap.get?_push_of_some _ e, turn_list a _, ⟨_, Heap.get?_push_size _ rfl, rfl, rfl⟩, one, q⟩
    · obtain ⟨its, rv, p, hz⟩ := I1.tuple hq
      exact wpAny_pyIter_tuple (show s1.heap.IsTuple a its.toArray from p) ⟨s1.heap.objs.size, [s1.heap.objs.size], _, _, H1, rfl, I1.kept (t' := s1.toks) fun b o e => Heap.get?_push_of_some _ e, turn_tuple a _, ⟨_, Heap.get?_push_size _ rfl, rfl, rfl⟩, one, q⟩
  | _ => exact (show False from q1).elim
end
structure Yields (J : It) (H : Hp) (xs : List V) : Prop where
  go : ∀ i H', Same H H' → i < xs.length → J.go i H'
  stop : ∀ H', Same H H' → J.stop xs.length H'
  yld : ∀ i H' x H'', Same H H' → i < xs.length → J.yld i H' x H'' → H'' = H' ∧ xs[i]? = some x
theorem yields_range (lo : Int) (n : Nat) (H : Hp) : Yields (Itr lo n) H ((List.range n).map fun (i : Nat) => V.int (lo + (i : Int))) where
  go := fun i H' _ hi => by
    show i < n
    simpa using hi
  stop := fun H' _ => by
    show n ≤ ((List.range n).map fun (i : Nat) => V.int (lo + (i : Int))).length
    simp
  yld := fun i H' v H'' _ hi y => by
    obtain ⟨rfl, rfl⟩ := y
    rw [List.length_map, List.length_range] at hi
    refine ⟨rfl, ?_⟩
    simp [hi]
theorem yields_list {K : PySem.W.Frag} {a : Addr} {xs : List V} {H : Hp} (h : SqL K H a xs) : Yields (Itl K a) H xs where
  go := fun i H' s hi => ⟨xs, xs[i], s.seq h, by simp [hi]⟩
  stop := fun H' s => ⟨xs, s.seq h, Nat.le_refl _⟩
  yld := fun i H' v H'' s _ y => ⟨y.1, y.2 xs (s.seq h)⟩
section
variable {X : Cx}
noncomputable def rPlus (K : PySem.W.Frag) : R2 := fun x y H Q => match x, y with
  | .int i, .int j => Q (.int (i + j)) H
  | .str a, .str b => a.length + b.length ≤ sizeLine ∧ Q (.str (a ++ b)) H
  | .ref a, .ref b => ∃ xs ys, Rd H a (.lst xs) ∧ Rd H b (.lst ys) ∧ xs.length + ys.length ≤ sizeLine ∧ ∀ p, H p = none → Q (.ref p) (upd H p (.lst (xs ++ ys)))
  | _, _ => False
theorem op_catS : OpR X (binaryOp .Add) (fun x y H Q => ∃ a b xs ys, x = .ref a ∧ y = .ref b ∧ Rd H a (.lst xs) ∧ Rd H b (.lst ys) ∧ xs.length + ys.length ≤ sizeLine ∧ ∀ p, H p = none → Q (.ref p) (upd H p (.lst (xs ++ ys)))) := by
  intro pins s σ H x y v u Q I rx ry h
  obtain ⟨l, b, xs, zs, rfl, rfl, hH, hB, hz, q⟩ := h
  cases rx
  cases ry
  obtain ⟨z, its, n, r, e⟩ := hH.ok I.hok
  obtain ⟨z2, its2, n2, r2, e2⟩ := hB.ok I.hok
  have hl := r.length
  have hl2 := r2.length
  refine PySem.P.add_list e e2 ?_ (by rw [List.size_toArray, List.size_toArray]; omega)
  have ea : its.toArray ++ its2.toArray = (its ++ its2).toArray := by simp
  rw [ea]
  exact ⟨.ref _, _, I.lnew (t' := s.toks) (r.append r2) (by rw [List.length_append]; omega), rfl, q _ I.fresh⟩
theorem op_plus : OpR X (binaryOp .Add) (rPlus X.K) := by
  intro pins s σ H x y v u Q I rx ry h
  cases x with
  | int i => cases y with
    | int j => exact op_add pins s σ H _ _ v u Q I rx ry ⟨i, j, rfl, rfl, h⟩
    | _ => exact (show False from h).elim
  | str a => cases y with
    | str b => exact op_add_str pins s σ H _ _ v u Q I rx ry ⟨a, b, rfl, rfl, h.1, h.2⟩
    | _ => exact (show False from h).elim
  | ref a => cases y with
    | ref b =>
      obtain ⟨xs, ys, h1, h2, h3, h4⟩ := h
      exact op_catS pins s σ H _ _ v u Q I rx ry ⟨a, b, xs, ys, rfl, rfl, h1, h2, h3, h4⟩
    | _ => exact (show False from h).elim
  | _ => exact (show False from h).elim
noncomputable def rOrd (fi : Int → Int → Bool) (fs : List Nat → List Nat → Bool) : R2 := fun x y H Q => match x, y with
  | .int i, .int j => Q (.bl (fi i j)) H
  | .str a, .str b => Q (.bl (fs a.cps.toList b.cps.toList)) H
  | _, _ => False
theorem ord_of {f : Value → Value → Sem Value} {fi : Int → Int → Bool} {fs : List Nat → List Nat → Bool} (hi : OpR X f (rI0 fun i j => .bl (fi i j)))
    (hs : ∀ (s : Shared) (a b : Str) (t u : Tok) (Q : Value → Shared → Prop), Q (.bool (fs a.cps.toList b.cps.toList)) s → wpAny (model X.prog X.w) X.A (f (.str a t) (.str b u)) Q X.xe s) : OpR X f (rOrd fi fs) := by
  intro pins s σ H x y v u Q I rx ry h
  cases x with
  | int i => cases y with
    | int j => exact hi pins s σ H _ _ v u Q I rx ry ⟨i, j, rfl, rfl, h⟩
    | _ => exact (show False from h).elim
  | str a => cases y with
    | str b =>
      obtain ⟨t, rfl⟩ := rx
      obtain ⟨t', rfl⟩ := ry
      exact hs s a b t t' _ ⟨.bl _, H, I, rfl, h⟩
    | _ => exact (show False from h).elim
  | _ => exact (show False from h).elim
theorem op_ltU : OpR X (compareOp .Lt) (rOrd (fun i j => decide (i < j)) fun a b => decide (a < b)) := ord_of op_lt fun _ _ _ _ _ _ h => lt_str h
theorem op_leU : OpR X (compareOp .LtE) (rOrd (fun i j => decide (i ≤ j)) fun a b => !decide (b < a)) := ord_of op_le fun _ _ _ _ _ _ h => PySem.P.le_str h
noncomputable def rMul (K : PySem.W.Frag) : R2 := fun x y H Q => match x, y with
  | .int i, .int j => CMul i j ∧ Q (.int (i * j)) H
  | .ref l, .int k => ∃ xs, H l = some (.lst xs) ∧ -(2 ^ 63) ≤ k ∧ k < 2 ^ 63 ∧ xs.length * k.toNat ≤ sizeLine ∧ ∀ p, H p = none → Q (.ref p) (upd H p (.lst (List.replicate k.toNat xs).flatten))
  | _, _ => False
theorem op_mulU : OpR X (binaryOp .Mult) (rMul X.K) := by
  intro pins s σ H x y v u Q I rx ry h
  cases x with
  | int i => cases y with
    | int j => exact op_mul pins s σ H _ _ v u Q I rx ry ⟨i, j, rfl, rfl, h.1, h.2⟩
    | _ => exact (show False from h).elim
  | ref l => cases y with
    | int k =>
      obtain ⟨xs, h1, h2, h3, h4, h5⟩ := h
      exact op_rep pins s σ H _ _ v u Q I rx ry ⟨l, k, xs, rfl, rfl, h1, h2, h3, h4, h5⟩
    | _ => exact (show False from h).elim
  | _ => exact (show False from h).elim
noncomputable def rSl (K : PySem.W.Frag) : V → Option Int → Option Int → Hp → VK → Prop := fun x lo hi H Q => match x with
  | .str z => z.length ≤ sizeLine ∧ Q (.str (Txt.slice z lo hi)) H
  | .ref a => (∃ xs, SqL K H a xs ∧ ∀ p, H p = none → Q (.ref p) (upd H p (.lst (cutV xs lo hi))))
  | _ => False
theorem sl_str : SlR X (fun x lo hi H Q => ∃ z, x = .str z ∧ z.length ≤ sizeLine ∧ Q (.str (Txt.slice z lo hi)) H) := by
  intro pins s σ H x v vl vu lo hi sl Q I rx hs pl pu h
  obtain ⟨z, rfl, hz, q⟩ := h
  obtain ⟨t, rfl⟩ := rx
  refine ⟨"str", _, F.slot_str_getitem.lookup, typeIs_str _ _ _, ?_⟩
  have fin : ∀ (t' : Tok) (k : Nat), EP X pins σ Q (.str (Txt.slice z lo hi) t') { s with toks := k } := fun t' k => ⟨.str _, H, I.tok k, ⟨t', rfl⟩, q⟩
  cases pl with
  | none => cases pu with
    | none => exact wpAny_getItem_str_slice (l := none) (u := none) (st := none) hs rfl (post_val_or_str ⟨Nat.le_trans (Txt.slice_le z _ _) hz, fin⟩)
    | int j uj => exact wpAny_getItem_str_slice (l := none) (u := some (j, uj)) (st := none) hs rfl (post_val_or_str ⟨Nat.le_trans (Txt.slice_le z _ _) hz, fin⟩)
  | int i ui => cases pu with
    | none => exact wpAny_getItem_str_slice (l := some (i, ui)) (u := none) (st := none) hs rfl (post_val_or_str ⟨Nat.le_trans (Txt.slice_le z _ _) hz, fin⟩)
    | int j uj => exact wpAny_getItem_str_slice (l := some (i, ui)) (u := some (j, uj)) (st := none) hs rfl (post_val_or_str ⟨Nat.le_trans (Txt.slice_le z _ _) hz, fin⟩)
theorem sl_any : SlR X (rSl X.K) := by
  intro pins s σ H x v vl vu lo hi sl Q I rx hs pl pu h
  cases x with
  | str z => exact sl_str pins s σ H _ v vl vu lo hi sl Q I rx hs pl pu ⟨z, rfl, h.1, h.2⟩
  | ref a =>
    obtain ⟨xs, h1, h2⟩ := h
    exact sl_list pins s σ H _ v vl vu lo hi sl Q I rx hs pl pu ⟨a, xs, rfl, h1, h2⟩
  | _ => exact (show False from h).elim
noncomputable def rAt (K : PySem.W.Frag) : R2 := fun x y H Q => match x, y with
  | .str z, .int i => z.length ≤ sizeLine ∧ ∃ c, atI z.cps.toList i = some c ∧ Q (.str ⟨#[c]⟩) H
  | .ref p, .int i => (∃ xs v, SqL K H p xs ∧ atI xs i = some v ∧ Q v H) ∨ (∃ xs v, SqT K H p xs ∧ atI xs i = some v ∧ Q v H)
  | _, _ => False
theorem ix_any : IxR X (rAt X.K) := by
  intro value slice pins s σ H x y v u Q I rx ry q hs
  cases x with
  | str z => cases y with
    | int i =>
      obtain ⟨hz, c, hc, q⟩ := q
      exact ix_str value slice pins s σ H _ _ v u Q I rx ry ⟨z, i, c, rfl, rfl, hz, hc, q⟩ hs
    | _ => exact (show False from q).elim
  | ref p => cases y with
    | int i =>
      rcases q with ⟨xs, w', h1, h2, h3⟩ | ⟨xs, w', h1, h2, h3⟩
      · exact ix_list value slice pins s σ H _ _ v u Q I rx ry ⟨p, xs, i, w', rfl, rfl, h1, h2, h3⟩ hs
      · exact ix_tup value slice pins s σ H _ _ v u Q I rx ry ⟨p, xs, i, w', rfl, rfl, h1, h2, h3⟩ hs
    | _ => exact (show False from q).elim
  | _ => exact (show False from q).elim
noncomputable def rLen (K : PySem.W.Frag) : List V → Hp → VK → Prop := fun vs H Q => match vs with
  | [.str z] => z.length ≤ sizeLine ∧ Q (.int z.length) H
  | [.ref p] => ∃ ys, (SqL K H p ys ∨ SqT K H p ys) ∧ Q (.int ys.length) H
  | _ => False
theorem call_lenU : CallR X (.builtin "len") (rLen X.K) := by
  intro pins s σ H vs us Q I r h
  match vs, h with
  | [.str z], h => exact call_len_str pins s σ H _ us Q I r ⟨z, rfl, h.1, h.2⟩
  | [.ref p], h =>
    obtain ⟨ys, h1, h2⟩ := h
    exact call_len_seq pins s σ H _ us Q I r ⟨p, ys, rfl, h1, h2⟩
theorem strsAre_of {ys : List Str} : ∀ {us : List Value}, Vals (ys.map V.str) us → StrsAre us ys := by
  induction ys with
  | nil => intro us r; rw [List.map_nil] at r; cases r; exact .nil
  | cons n ns ih =>
    intro us r
    rw [List.map_cons] at r
    cases r with
    | cons r1 r2 =>
      obtain ⟨t, e⟩ := r1
      subst e
      exact .cons n t (ih r2)
noncomputable def rJoin (K : PySem.W.Frag) : V → List V → Hp → VK → Prop := fun x vs H Q => ∃ z l ys, x = .str z ∧ vs = [.ref l] ∧ SqL K H l (ys.map V.str) ∧ (ys.map (·.length)).sum + ys.length * z.length ≤ 16777216 ∧ Q (.str (Txt.join z ys)) H
theorem mt_join : MtR X "str.join" (rJoin X.K) := by
  intro pins s σ H x vs v us Q I rx rv h
  obtain ⟨z, l, ys, rfl, rfl, hl, hz, q⟩ := h
  obtain ⟨t, rfl⟩ := rx
  obtain ⟨u, rfl, ru⟩ := vals1 rv
  cases ru
  obtain ⟨its, r, pl, _⟩ := I.list hl
  exact join_list pl.isList (by simpa using strsAre_of r) hz fun t' k => ⟨.str _, H, I.tok k, ⟨t', rfl⟩, q⟩
end
end L2
set_option Elab.async false
set_option maxRecDepth 100000
namespace L2
open PySem PySem.Spec PyProof.Rows
structure EqTy (K : PySem.W.Frag) (k : Nat) {α : Type} [DecidableEq α] (R : Hp → V → α → Prop) : Prop where
  fn : ∀ {X : Cx} {pins : List (Addr × Obj)} {σ : St} {H : Hp} {s : Shared} {x : V} {a b : α}, X.K = K → Inv X pins σ H s → R H x a → R H x b → a = b
  eq : ∀ {X : Cx} {pins : List (Addr × Obj)} {σ : St} {H : Hp} {s : Shared} {x y : V} {u v : Value} {a b : α} (A : Around), X.K = K → Inv X pins σ H s → A.units + k < cLine → RelV x u → RelV y v → R H x a → R H y b → SeqAt.EqAt A s u v (decide (a = b))
  rc : ∀ {X : Cx} {pins : List (Addr × Obj)} {σ : St} {H : Hp} {s : Shared} {x y : V} {u v : Value} {a b : α} (A : Around), X.K = K → Inv X pins σ H s → A.units + k < cLine → RelV x u → RelV y v → R H x a → R H y b → SeqAt.RcAt A s u v (decide (a = b)) ∧ SeqAt.RcNeAt A s u v (!decide (a = b))
noncomputable def isStr : Hp → V → Str → Prop := fun _ x a => x = .str a
noncomputable def isInt : Hp → V → Int → Prop := fun _ x a => x = .int a
noncomputable def isBl : Hp → V → Bool → Prop := fun _ x a => x = .bl a
theorem dec_beq {α : Type} [DecidableEq α] [BEq α] [LawfulBEq α] (a b : α) : (a == b) = decide (a = b) := by
  by_cases h : a = b
  · subst h; simp
  · rw [decide_eq_false h]; simpa using h
theorem eqStr {K : PySem.W.Frag} : EqTy K 0 isStr where
  fn := fun _ _ h1 h2 => by cases h1; cases h2; rfl
  eq := fun A _ _ _ r1 r2 h1 h2 => by
    cases h1; cases h2
    obtain ⟨t, rfl⟩ := r1
    obtain ⟨t', rfl⟩ := r2
    rw [← dec_beq]
    exact SeqAt.EqAt.str_str _ _ _ _
  rc := fun A _ _ _ r1 r2 h1 h2 => by
    cases h1; cases h2
    obtain ⟨t, rfl⟩ := r1
    obtain ⟨t', rfl⟩ := r2
    rw [← dec_beq]
    exact ⟨SeqAt.RcAt.str_str _ _ _ _, SeqAt.RcNeAt.str_str _ _ _ _⟩
theorem eqInt {K : PySem.W.Frag} : EqTy K 0 isInt where
  fn := fun _ _ h1 h2 => by cases h1; cases h2; rfl
  eq := fun A _ _ _ r1 r2 h1 h2 => by
    cases h1; cases h2
    obtain ⟨t, rfl⟩ := r1
    obtain ⟨t', rfl⟩ := r2
    rw [← dec_beq]
    exact SeqAt.EqAt.int_int _ _ _ _
  rc := fun A _ _ _ r1 r2 h1 h2 => by
    cases h1; cases h2
    obtain ⟨t, rfl⟩ := r1
    obtain ⟨t', rfl⟩ := r2
    rw [← dec_beq]
    exact ⟨SeqAt.RcAt.int_int _ _ _ _, SeqAt.RcNeAt.int_int _ _ _ _⟩
theorem eqBl {K : PySem.W.Frag} : EqTy K 0 isBl where
  fn := fun _ _ h1 h2 => by cases h1; cases h2; rfl
  eq := fun A _ _ _ r1 r2 h1 h2 => by
    cases h1; cases h2
    cases r1; cases r2
    rw [← dec_beq]
    exact SeqAt.EqAt.bool_bool _ _
  rc := fun A _ _ _ r1 r2 h1 h2 => by
    cases h1; cases h2
    cases r1; cases r2
    rw [← dec_beq]
    exact ⟨SeqAt.RcAt.bool_bool _ _, SeqAt.RcNeAt.bool_bool _ _⟩
theorem Paired.at' {α β : Type} {F : α → β → Prop} : ∀ {l₁ : List α} {l₂ : List β} {i : Nat} {a : α} {b : β}, Paired F l₁ l₂ → l₁[i]? = some a → l₂[i]? = some b → F a b
  | _, _, _, _, _, .nil, e, _ => by simp at e
  | _, _, 0, _, _, .cons h _, e1, e2 => by simp at e1 e2; subst e1; subst e2; exact h
  | _, _, i + 1, _, _, .cons _ t, e1, e2 => Paired.at' (i := i) t (by simpa using e1) (by simpa using e2)
theorem paired_fn {α β : Type} {F : α → β → Prop} (hf : ∀ a b c, F a b → F a c → b = c) : ∀ {xs : List α} {as bs : List β}, Paired F xs as → Paired F xs bs → as = bs
  | _, _, _, .nil, .nil => rfl
  | _, _, _, .cons h t, .cons h' t' => by rw [hf _ _ _ h h', paired_fn hf t t']
theorem all_dec {α : Type} [DecidableEq α] : ∀ (as bs : List α) (hl : as.length = bs.length), ((List.range as.length).all fun j => decide (as[j]? = bs[j]?)) = decide (as = bs) := by
  intro as bs hl
  apply Bool.eq_iff_iff.mpr
  rw [decide_eq_true_iff, List.all_eq_true]
  constructor
  · intro h
    apply List.ext_getElem?
    intro i
    by_cases hi : i < as.length
    · exact of_decide_eq_true (h i (List.mem_range.mpr hi))
    · rw [List.getElem?_eq_none (by omega), List.getElem?_eq_none (by omega)]
  · rintro rfl i _
    simp
noncomputable def isLst (K : PySem.W.Frag) {α : Type} (R : Hp → V → α → Prop) : Hp → V → List α → Prop := fun H x as => ∃ l xs, x = .ref l ∧ SqL K H l xs ∧ Paired (R H) xs as
theorem items_eqAt {K : PySem.W.Frag} {k : Nat} {α : Type} [DecidableEq α] {R : Hp → V → α → Prop} (E : EqTy K k R) {X : Cx} {pins : List (Addr × Obj)} {σ : St} {H : Hp} {s : Shared} {A : Around} (hK : X.K = K) (I : Inv X pins σ H s) (hu : A.units + (k + 1) < cLine)
    {xs ys : List V} {us vs : List Value} {as bs : List α} (rx : Vals xs us) (ry : Vals ys vs) (px : Paired (R H) xs as) (py : Paired (R H) ys bs) :
    ∀ j (h1 : j < us.toArray.size) (h2 : j < vs.toArray.size), SeqAt.EqAt A.in1 s us.toArray[j] vs.toArray[j] (decide (as[j]? = bs[j]?)) := by
  intro j h1 h2
  have h1' : j < us.length := by simpa using h1
  have h2' : j < vs.length := by simpa using h2
  have lx := rx.length
  have ly := ry.length
  have lpx := Paired.length px
  have lpy := Paired.length py
  have ex : xs[j]? = some xs[j] := List.getElem?_eq_getElem (by omega)
  have ey : ys[j]? = some ys[j] := List.getElem?_eq_getElem (by omega)
  have ea : as[j]? = some as[j] := List.getElem?_eq_getElem (by omega)
  have eb : bs[j]? = some bs[j] := List.getElem?_eq_getElem (by omega)
  obtain ⟨u, hu', ru⟩ := rx.get ex
  obtain ⟨v, hv', rv⟩ := ry.get ey
  have e1 : us.toArray[j] = u := by
    rw [List.getElem?_eq_getElem h1'] at hu'
    simpa using hu'
  have e2 : vs.toArray[j] = v := by
    rw [List.getElem?_eq_getElem h2'] at hv'
    simpa using hv'
  rw [e1, e2, ea, eb]
  have := E.eq A.in1 hK I (show A.units + 1 + k < cLine by omega) ru rv (Paired.at' px ex ea) (Paired.at' py ey eb)
  have e3 : decide (some as[j] = some bs[j]) = decide (as[j] = bs[j]) := by simp
  rw [e3]
  exact this
theorem eqLst {K : PySem.W.Frag} {k : Nat} {α : Type} [DecidableEq α] {R : Hp → V → α → Prop} (E : EqTy K k R) : EqTy K (k + 1) (isLst K R) := by
  have fn : ∀ {X : Cx} {pins : List (Addr × Obj)} {σ : St} {H : Hp} {s : Shared} {x : V} {a b : List α}, X.K = K → Inv X pins σ H s → isLst K R H x a → isLst K R H x b → a = b := by
    intro X pins σ H s x a b hK I ha hb
    obtain ⟨l, xs, rfl, h1, p1⟩ := ha
    obtain ⟨l', ys, e, h2, p2⟩ := hb
    cases e
    subst hK
    have := I.list_inj h1 h2
    subst this
    exact paired_fn (F := R H) (fun _ _ _ p q => E.fn rfl I p q) p1 p2
  have rc : ∀ {X : Cx} {pins : List (Addr × Obj)} {σ : St} {H : Hp} {s : Shared} {x y : V} {u v : Value} {a b : List α} (A : Around), X.K = K → Inv X pins σ H s → A.units + (k + 1) < cLine → RelV x u → RelV y v → isLst K R H x a → isLst K R H y b →
      SeqAt.RcAt A s u v (decide (a = b)) ∧ SeqAt.RcNeAt A s u v (!decide (a = b)) := by
    intro X pins σ H s x y u v a b A hK I hu r1 r2 ha hb
    obtain ⟨l, xs, rfl, h1, p1⟩ := ha
    obtain ⟨l', ys, rfl, h2, p2⟩ := hb
    cases r1; cases r2
    subst hK
    obtain ⟨us, rx, plx, _⟩ := I.list h1
    obtain ⟨vs, ry, ply, _⟩ := I.list h2
    have lx := rx.length
    have ly := ry.length
    have lpx := Paired.length p1
    have lpy := Paired.length p2
    by_cases hl : a.length = b.length
    · have hsz : us.toArray.size = vs.toArray.size := by simp; omega
      have it := items_eqAt E rfl I hu rx ry p1 p2
      have ed : ((List.range us.toArray.size).all fun j => decide (a[j]? = b[j]?)) = decide (a = b) := by
        rw [← all_dec a b hl, List.size_toArray, ← lx, lpx]
      rw [← ed]
      exact ⟨SeqAt.RcAt.lists plx.isList ply.isList hsz (by omega) it, SeqAt.RcNeAt.lists plx.isList ply.isList hsz (by omega) it⟩
    · have hsz : (us.toArray.size != vs.toArray.size) = true := by simp; omega
      have ne : a ≠ b := fun e => hl (by rw [e])
      rw [decide_eq_false ne]
      exact ⟨SeqAt.RcAt.lists_lengths plx.isList ply.isList hsz (by omega), SeqAt.RcNeAt.lists_lengths plx.isList ply.isList hsz (by omega)⟩
  refine ⟨fn, ?_, rc⟩
  intro X pins σ H s x y u v a b A hK I hu r1 r2 ha hb
  have h := (rc A hK I hu r1 r2 ha hb).1
  obtain ⟨l, xs, rfl, h1, p1⟩ := id ha
  obtain ⟨l', ys, rfl, h2, p2⟩ := id hb
  cases r1; cases r2
  by_cases e : l = l'
  · subst e
    have : a = b := fn hK I ha hb
    rw [decide_eq_true this]
    exact SeqAt.EqAt.same _
  · exact SeqAt.EqAt.of_refs e h
section
variable {X : Cx}
theorem op_eqD {k j : Nat} {α : Type} [DecidableEq α] {R : Hp → V → α → Prop} (E : EqTy X.K k R) (hr : Room j X.A) (hk : k ≤ 10) : OpR X (compareOp .Eq) (fun x y H Q => ∃ a b, R H x a ∧ R H y b ∧ Q (.bl (decide (a = b))) H) := by
  intro pins s σ H x y v u Q I rx ry h
  obtain ⟨a, b, h1, h2, q⟩ := h
  exact (E.rc X.A rfl I (by have := hr.un; omega) rx ry h1 h2).1 _ _ _ _ ⟨.bl _, H, I, rfl, q⟩
theorem op_neD {k j : Nat} {α : Type} [DecidableEq α] {R : Hp → V → α → Prop} (E : EqTy X.K k R) (hr : Room j X.A) (hk : k ≤ 10) : OpR X (compareOp .NotEq) (fun x y H Q => ∃ a b, R H x a ∧ R H y b ∧ Q (.bl (!decide (a = b))) H) := by
  intro pins s σ H x y v u Q I rx ry h
  obtain ⟨a, b, h1, h2, q⟩ := h
  exact (E.rc X.A rfl I (by have := hr.un; omega) rx ry h1 h2).2 _ _ _ _ ⟨.bl _, H, I, rfl, q⟩
end
end L2
set_option Elab.async false
set_option linter.all false
set_option maxRecDepth 100000
set_option maxHeartbeats 4000000
namespace L2
open PySem PySem.Spec PyProof.Rows
class Rp (α : Type) where
  rel : PySem.W.Frag → Hp → V → α → Prop
  mono : ∀ {K : PySem.W.Frag} {H H' : Hp} {v : V} {a : α}, Same H H' → rel K H v a → rel K H' v a
theorem Same.rd {H H' : Hp} {a : Addr} {u : HO} (s : Same H H') (h : Rd H a u) : Rd H' a u := by
  rcases h with h | ⟨o, h⟩
  · exact .inl (s _ _ h)
  · exact .inr ⟨o, s _ _ h⟩
theorem Same.tup {K : PySem.W.Frag} {H H' : Hp} {a : Addr} {xs : List V} (e : Same H H') (h : SqT K H a xs) : SqT K H' a xs := by
  rcases h with h | h
  · exact .inl (e.rd h)
  · exact .inr h
noncomputable instance rpInt : Rp Int := ⟨fun _ _ v a => v = .int a, fun _ h => h⟩
noncomputable instance rpBool : Rp Bool := ⟨fun _ _ v a => v = .bl a, fun _ h => h⟩
noncomputable instance rpStr : Rp Str := ⟨fun _ _ v a => v = .str a ∧ a.length ≤ sizeLine, fun _ h => h⟩
noncomputable instance rpUnit : Rp Unit := ⟨fun _ _ v _ => v = .non, fun _ h => h⟩
noncomputable instance rpList {α : Type} [Rp α] : Rp (List α) :=
  ⟨fun K H v as => ∃ l xs, v = .ref l ∧ Rd H l (.lst xs) ∧ xs.length ≤ sizeLine ∧ Paired (Rp.rel K H) xs as,
   fun s ⟨l, xs, e, h, z, p⟩ => ⟨l, xs, e, s.rd h, z, Paired.imp' (fun _ _ r => Rp.mono s r) p⟩⟩
noncomputable instance rpPair {α β : Type} [Rp α] [Rp β] : Rp (α × β) :=
  ⟨fun K H v p => ∃ t a b, v = .ref t ∧ SqT K H t [a, b] ∧ Rp.rel K H a p.1 ∧ Rp.rel K H b p.2,
   fun s ⟨t, a, b, e, h, r1, r2⟩ => ⟨t, a, b, e, s.tup h, Rp.mono s r1, Rp.mono s r2⟩⟩
structure T3 (α β γ : Type) where
  a : α
  b : β
  c : γ
  deriving DecidableEq
structure Tp (α : Type) where
  l : List α
  deriving DecidableEq
noncomputable instance rpT3 {α β γ : Type} [Rp α] [Rp β] [Rp γ] : Rp (T3 α β γ) :=
  ⟨fun K H v p => ∃ t a b c, v = .ref t ∧ SqT K H t [a, b, c] ∧ Rp.rel K H a p.a ∧ Rp.rel K H b p.b ∧ Rp.rel K H c p.c,
   fun s ⟨t, a, b, c, e, h, r1, r2, r3⟩ => ⟨t, a, b, c, e, s.tup h, Rp.mono s r1, Rp.mono s r2, Rp.mono s r3⟩⟩
noncomputable instance rpTp {α : Type} [Rp α] : Rp (Tp α) :=
  ⟨fun K H v as => ∃ t xs, v = .ref t ∧ SqT K H t xs ∧ xs.length ≤ sizeLine ∧ Paired (Rp.rel K H) xs as.l,
   fun s ⟨l, xs, e, h, z, p⟩ => ⟨l, xs, e, s.tup h, z, Paired.imp' (fun _ _ r => Rp.mono s r) p⟩⟩
noncomputable instance rpOpt {α : Type} [Rp α] : Rp (Option α) :=
  ⟨fun K H v o => match o with | none => v = .non | some a => Rp.rel K H v a,
   fun {K H H' v o} s h => by cases o with | none => exact h | some a => exact Rp.mono (α := α) s h⟩
class RpA (α : Type) where
  n : Nat
  rel : PySem.W.Frag → Hp → List V → α → Prop
  mono : ∀ {K : PySem.W.Frag} {H H' : Hp} {v : List V} {a : α}, Same H H' → rel K H v a → rel K H' v a
  len : ∀ {K : PySem.W.Frag} {H : Hp} {v : List V} {a : α}, rel K H v a → v.length = n
noncomputable instance raNil : RpA Unit := ⟨0, fun _ _ vs _ => vs = [], fun _ h => h, fun h => by rw [h]; rfl⟩
noncomputable instance raCons {α β : Type} [Rp α] [RpA β] : RpA (α × β) :=
  ⟨RpA.n β + 1, fun K H vs p => ∃ v r, vs = v :: r ∧ Rp.rel K H v p.1 ∧ RpA.rel K H r p.2,
   fun s ⟨v, r, e, h1, h2⟩ => ⟨v, r, e, Rp.mono s h1, RpA.mono s h2⟩, fun ⟨v, r, e, h1, h2⟩ => by rw [e, List.length_cons, RpA.len h2]⟩
structure Ext (G H G' H' : Hp) : Prop where
  gg : Same G G'
  gh : Same G' H'
  hh : Same H H'
  no : ∀ b, G b = none → H b ≠ none → G' b = none
section
variable {G H G1 H1 G2 H2 G0 H0 : Hp} {p : Addr} {o : HO}
theorem Ext.refl (s : Same G H) : Ext G H G H := ⟨.refl _, s, .refl _, fun _ h _ => h⟩
theorem Ext.trans (x : Ext G H G1 H1) (y : Ext G1 H1 G2 H2) : Ext G H G2 H2 :=
  ⟨x.gg.trans y.gg, y.gh, x.hh.trans y.hh, fun b h1 h2 => y.no b (x.no b h1 h2) fun z => h2 (x.hh.free z)⟩
theorem Same.both (s : Same G H) : Same (upd G p o) (upd H p o) := fun b u e => by
  by_cases hb : b = p
  · subst hb
    rw [upd_same] at e ⊢
    exact e
  · rw [upd_ne hb] at e ⊢
    exact s b u e
theorem Ext.new (s : Same G H) (h : H p = none) : Ext G H (upd G p o) (upd H p o) :=
  ⟨Same.new (s.free h), s.both, Same.new h, fun b h1 h2 => by
    have hb : b ≠ p := fun z => h2 (by rw [z]; exact h)
    rw [upd_ne hb]
    exact h1⟩
theorem Ext.own (s : Same G H) (h : H p = none) : Ext G H G (upd H p o) := ⟨.refl _, s.trans (Same.new h), Same.new h, fun _ h _ => h⟩
theorem Ext.put (x : Ext G0 H0 G H) (h0 : H0 p = none) (hg : G p = none) : Ext G0 H0 G (upd H p o) := ⟨x.gg, x.gh.put hg, x.hh.put h0, x.no⟩
theorem Ext.frz (x : Ext G0 H0 G H) (h0 : H0 p = none) (hg : G p = none) (hh : H p = some o) : Ext G0 H0 (upd G p o) H :=
  ⟨x.gg.trans (Same.new hg), fun b u e => by
    by_cases hb : b = p
    · subst hb
      rw [upd_same] at e
      rw [hh]
      exact e
    · rw [upd_ne hb] at e
      exact x.gh b u e, x.hh, fun b h1 h2 => by
    have hb : b ≠ p := fun z => h2 (by rw [z]; exact h0)
    rw [upd_ne hb]
    exact x.no b h1 h2⟩
end
section
variable {K : PySem.W.Frag} {σ : St} {G : Hp}
noncomputable def EV (K : PySem.W.Frag) {α : Type} [Rp α] (te : TE) (σ : St) (G : Hp) (m : Option α) : Prop :=
  ∀ G1, Same G G1 → ∀ a, m = some a → ∀ H, Same G1 H → ∀ Q : VK, (∀ v G2 H2, Ext G1 H G2 H2 → Rp.rel K G2 v a → Q v H2) → te σ H Q
noncomputable def TV (t : TT) (σ : St) (G : Hp) (m : Option Bool) : Prop :=
  ∀ G1, Same G G1 → ∀ a, m = some a → ∀ H, Same G1 H → ∀ Q : Bool → Hp → Prop, (∀ G2 H2, Ext G1 H G2 H2 → Q a H2) → t σ H Q
noncomputable def LV (K : PySem.W.Frag) {α : Type} [Rp α] (t : TA) (σ : St) (G : Hp) (n : Nat) (m : Option (List α)) : Prop :=
  ∀ G1, Same G G1 → ∀ a, m = some a → ∀ H, Same G1 H → ∀ Q : List V → Hp → Prop, (∀ vs G2 H2, Ext G1 H G2 H2 → vs.length = n → Paired (Rp.rel K G2) vs a → Q vs H2) → t σ H Q
noncomputable def OV (t : TO) (σ : St) (G : Hp) (m : Option (Option Int)) : Prop :=
  ∀ G1, Same G G1 → ∀ a, m = some a → ∀ H, Same G1 H → ∀ Q : Option Int → Hp → Prop, (∀ G2 H2, Ext G1 H G2 H2 → Q a H2) → t σ H Q
noncomputable def FV (K : PySem.W.Frag) {α : Type} [Rp α] (te : TE) (σ : St) (G : Hp) (m : Option (List α)) : Prop :=
  ∀ G1, Same G G1 → ∀ a, m = some a → ∀ H, Same G1 H → ∀ Q : VK, (∀ p vs G2 H2, Ext G1 H G2 H2 → H p = none → G2 p = none → H2 p = some (.lst vs) → vs.length ≤ sizeLine → Paired (Rp.rel K G2) vs a → Q (.ref p) H2) → te σ H Q
section
variable {α β γ δ : Type} [Rp α] [Rp β] [Rp γ] [Rp δ] {ta tb tc td : TE} {ma : Option α} {mb : Option β} {mc : Option γ}
theorem EV.run {te : TE} {H : Hp} {a : α} {Q : VK} {m : Option α} (e : EV K te σ G m) (hm : m = some a) (s : Same G H) (k : ∀ v G2 H2, Ext G H G2 H2 → Rp.rel K G2 v a → Q v H2) : te σ H Q := e G (.refl G) a hm H s Q k
theorem TV.run {t : TT} {H : Hp} {a : Bool} {Q : Bool → Hp → Prop} {m : Option Bool} (e : TV t σ G m) (hm : m = some a) (s : Same G H) (k : ∀ G2 H2, Ext G H G2 H2 → Q a H2) : t σ H Q := e G (.refl G) a hm H s Q k
theorem EV.of {te : TE} {m m' : Option α} (e : EV K te σ G m) (h : m = m') : EV K te σ G m' := h ▸ e
theorem FV.ev {te : TE} {m : Option (List α)} (e : FV K te σ G m) : EV K te σ G m := by
  intro G1 s1 a ha H sH Q k
  refine e G1 s1 a ha H sH Q fun p vs G2 H2 x h0 hg hh hz hp => ?_
  exact k _ _ _ (x.frz h0 hg hh) ⟨p, vs, rfl, .inl upd_same, hz, Paired.imp' (fun _ _ r => Rp.mono (Same.new hg) r) hp⟩
theorem ev_var {i : Nat} {v : V} {a : α} (h : σ[i]? = some (some v)) (r : Rp.rel K G v a) : EV K (tVar i) σ G (some a) := fun G1 s a' e H sH Q k => by
  cases e
  exact ⟨v, h, k v G1 H (.refl sH) (Rp.mono s r)⟩
theorem ev_c {v : V} {a : α} (h : ∀ G, Rp.rel K G v a) : EV K (tC v) σ G (some a) := fun G1 s a' e H sH Q k => by
  cases e
  exact k v G1 H (.refl sH) (h _)
theorem ev_i {i : Int} : EV K (tC (.int i)) σ G (some i) := ev_c fun _ => rfl
theorem ev_b {b : Bool} : EV K (tC (.bl b)) σ G (some b) := ev_c fun _ => rfl
theorem ev_s {x : Str} (h : x.length ≤ sizeLine := by decide +kernel) : EV K (tC (.str x)) σ G (some x) := ev_c fun _ => ⟨rfl, h⟩
theorem ev_bin {r : R2} {f : α → β → Option γ}
    (h : ∀ {G H : Hp} {v u : V} {a : α} {b : β} {c : γ}, Same G H → Rp.rel K G v a → Rp.rel K G u b → f a b = some c → ∀ {Q : VK}, (∀ w G2 H2, Ext G H G2 H2 → Rp.rel K G2 w c → Q w H2) → r v u H Q)
    (ea : EV K ta σ G ma) (eb : EV K tb σ G mb) : EV K (tOp r ta tb) σ G (ma.bind fun a => mb.bind fun b => f a b) := by
  intro G1 s1 c hc H sH Q k
  obtain ⟨a, ha, hc⟩ := Option.bind_eq_some_iff.mp hc
  obtain ⟨b, hb, hc⟩ := Option.bind_eq_some_iff.mp hc
  refine ea G1 s1 a ha H sH _ fun v G2 H2 x2 r2 => ?_
  refine eb G2 (s1.trans x2.gg) b hb H2 x2.gh _ fun u G3 H3 x3 r3 => ?_
  exact h x3.gh (Rp.mono x3.gg r2) r3 hc fun w G4 H4 x4 r4 => k w G4 H4 ((x2.trans x3).trans x4) r4
noncomputable instance decMul (i j : Int) : Decidable (CMul i j) := by unfold CMul; infer_instance
noncomputable instance decDiv (i j : Int) : Decidable (CDiv i j) := by unfold CDiv; infer_instance
noncomputable instance decPow (i j : Int) : Decidable (CPow i j) := by unfold CPow; infer_instance
noncomputable def mulO (a b : Int) : Option Int := if CMul a b then some (a * b) else none
noncomputable def divO (a b : Int) : Option Int := if CDiv a b then some (a / b) else none
noncomputable def modO (a b : Int) : Option Int := if 0 < b then some (a % b) else none
noncomputable def powO (a b : Int) : Option Int := if CPow a b then some (a ^ b.toNat) else none
theorem ite_some {p : Prop} [Decidable p] {α : Type} {a c : α} (h : (if p then some a else none) = some c) : p ∧ a = c := by
  by_cases hp : p
  · rw [if_pos hp] at h
    exact ⟨hp, Option.some.inj h⟩
  · rw [if_neg hp] at h
    cases h
section
variable {ia ib : Option Int}
theorem ev_add (ea : EV K ta σ G ia) (eb : EV K tb σ G ib) : EV K (tOp (rPlus K) ta tb) σ G (ia.bind fun a => ib.bind fun b => some (a + b)) :=
  ev_bin (fun s ra rb e Q k => by cases ra; cases rb; cases e; exact k _ _ _ (.refl s) rfl) ea eb
theorem ev_sub (ea : EV K ta σ G ia) (eb : EV K tb σ G ib) : EV K (tOp (rI0 fun i j => .int (i - j)) ta tb) σ G (ia.bind fun a => ib.bind fun b => some (a - b)) :=
  ev_bin (fun s ra rb e Q k => by cases ra; cases rb; cases e; exact ⟨_, _, rfl, rfl, k _ _ _ (.refl s) rfl⟩) ea eb
theorem ev_mul (ea : EV K ta σ G ia) (eb : EV K tb σ G ib) : EV K (tOp (rMul K) ta tb) σ G (ia.bind fun a => ib.bind fun b => mulO a b) :=
  ev_bin (fun s ra rb e Q k => by cases ra; cases rb; obtain ⟨h, rfl⟩ := ite_some e; exact ⟨h, k _ _ _ (.refl s) rfl⟩) ea eb
theorem ev_mod (ea : EV K ta σ G ia) (eb : EV K tb σ G ib) : EV K (tOp (rI (fun _ j => 0 < j) fun i j => .int (i % j)) ta tb) σ G (ia.bind fun a => ib.bind fun b => modO a b) :=
  ev_bin (fun s ra rb e Q k => by cases ra; cases rb; obtain ⟨h, rfl⟩ := ite_some e; exact ⟨_, _, rfl, rfl, h, k _ _ _ (.refl s) rfl⟩) ea eb
theorem ev_div (ea : EV K ta σ G ia) (eb : EV K tb σ G ib) : EV K (tOp (rI CDiv fun i j => .int (i / j)) ta tb) σ G (ia.bind fun a => ib.bind fun b => divO a b) :=
  ev_bin (fun s ra rb e Q k => by cases ra; cases rb; obtain ⟨h, rfl⟩ := ite_some e; exact ⟨_, _, rfl, rfl, h, k _ _ _ (.refl s) rfl⟩) ea eb
theorem ev_pow (ea : EV K ta σ G ia) (eb : EV K tb σ G ib) : EV K (tOp (rI CPow fun i j => .int (i ^ j.toNat)) ta tb) σ G (ia.bind fun a => ib.bind fun b => powO a b) :=
  ev_bin (fun s ra rb e Q k => by cases ra; cases rb; obtain ⟨h, rfl⟩ := ite_some e; exact ⟨_, _, rfl, rfl, h, k _ _ _ (.refl s) rfl⟩) ea eb
theorem ev_ord {p : Int → Int → Bool} {q : List Nat → List Nat → Bool} (ea : EV K ta σ G ia) (eb : EV K tb σ G ib) : EV K (tOp (rOrd p q) ta tb) σ G (ia.bind fun a => ib.bind fun b => some (p a b)) :=
  ev_bin (fun s ra rb e Q k => by cases ra; cases rb; cases e; exact k _ _ _ (.refl s) rfl) ea eb
theorem ev_eqI (ea : EV K ta σ G ia) (eb : EV K tb σ G ib) : EV K (tOp rEq ta tb) σ G (ia.bind fun a => ib.bind fun b => some (decide (a = b))) :=
  ev_bin (fun s ra rb e Q k => by cases ra; cases rb; cases e; exact ⟨rfl, k _ _ _ (.refl s) (by show V.bl _ = V.bl _; congr 1; simp)⟩) ea eb
end
section
variable {ba bb : Option Bool}
theorem ev_and (ea : EV K ta σ G ba) (eb : EV K tb σ G bb) : EV K (tAndV ta tb) σ G (ba.bind fun a => cond a bb (some false)) := by
  intro G1 s1 c hc H sH Q k
  obtain ⟨a, ha, hc⟩ := Option.bind_eq_some_iff.mp hc
  refine ea G1 s1 a ha H sH _ fun v G2 H2 x2 r2 => ?_
  cases r2
  refine ⟨_, rfl, ?_⟩
  cases a with
  | false => cases hc; exact iteF (k _ _ _ x2 rfl)
  | true => exact iteT (eb G2 (s1.trans x2.gg) c hc H2 x2.gh _ fun u G3 H3 x3 r3 => k _ _ _ (x2.trans x3) r3)
theorem tv_test (ea : EV K ta σ G ba) : TV (tTest ta) σ G ba := by
  intro G1 s1 c hc H sH Q k
  refine ea G1 s1 c hc H sH _ fun v G2 H2 x2 r2 => ?_
  cases r2
  exact ⟨_, rfl, k _ _ x2⟩
theorem tv_not {t : TT} (ea : TV t σ G ba) : TV (tNot t) σ G (ba.bind fun a => some (!a)) := by
  intro G1 s1 c hc H sH Q k
  obtain ⟨a, ha, hc⟩ := Option.bind_eq_some_iff.mp hc
  cases hc
  exact ea G1 s1 a ha H sH _ fun G2 H2 x2 => k _ _ x2
theorem tv_and {t u : TT} (ea : TV t σ G ba) (eb : TV u σ G bb) : TV (tAnd t u) σ G (ba.bind fun a => cond a bb (some false)) := by
  intro G1 s1 c hc H sH Q k
  obtain ⟨a, ha, hc⟩ := Option.bind_eq_some_iff.mp hc
  refine ea G1 s1 a ha H sH _ fun G2 H2 x2 => ?_
  cases a with
  | false => cases hc; exact iteF (k _ _ x2)
  | true => exact iteT (eb G2 (s1.trans x2.gg) c hc H2 x2.gh _ fun G3 H3 x3 => k _ _ (x2.trans x3))
theorem tv_or {t u : TT} (ea : TV t σ G ba) (eb : TV u σ G bb) : TV (tOr t u) σ G (ba.bind fun a => cond a (some true) bb) := by
  intro G1 s1 c hc H sH Q k
  obtain ⟨a, ha, hc⟩ := Option.bind_eq_some_iff.mp hc
  refine ea G1 s1 a ha H sH _ fun G2 H2 x2 => ?_
  cases a with
  | true => cases hc; exact iteT (k _ _ x2)
  | false => exact iteF (eb G2 (s1.trans x2.gg) c hc H2 x2.gh _ fun G3 H3 x3 => k _ _ (x2.trans x3))
theorem tv_tru {f : α → Bool} (h : ∀ {G : Hp} {v : V} {a : α}, Rp.rel K G v a → TruV K v G (f a)) (mn : ∀ {G H : Hp} {v : V} {k : Bool}, Same G H → TruV K v G k → TruV K v H k) (ea : EV K ta σ G ma) :
    TV (fun σ H Q => ta σ H fun x H' => ∃ k, TruV K x H' k ∧ Q k H') σ G (ma.bind fun a => some (f a)) := by
  intro G1 s1 c hc H sH Q k
  obtain ⟨a, ha, hc⟩ := Option.bind_eq_some_iff.mp hc
  cases hc
  refine ea G1 s1 a ha H sH _ fun v G2 H2 x2 r2 => ?_
  exact ⟨_, mn x2.gh (h r2), k _ _ x2⟩
end
end
end
end L2
set_option Elab.async false
set_option linter.all false
set_option maxRecDepth 100000
set_option maxHeartbeats 4000000
namespace L2
open PySem PySem.Spec PyProof.Rows
section
variable {K : PySem.W.Frag} {σ : St} {G : Hp} {α β γ δ : Type} [Rp α] [Rp β] [Rp γ] [Rp δ] {ta tb tc td : TE} {ma : Option α} {mb : Option β} {mc : Option γ} {md : Option δ}
section
variable {sa sb : Option Str} {ia ib : Option Int}
theorem ev_eqS (ea : EV K ta σ G sa) (eb : EV K tb σ G sb) : EV K (tOp rEq ta tb) σ G (sa.bind fun a => sb.bind fun b => some (decide (a = b))) :=
  ev_bin (fun s ra rb e Q k => by obtain ⟨rfl, z1⟩ := ra; obtain ⟨rfl, z2⟩ := rb; cases e; exact ⟨rfl, k _ _ _ (.refl s) (by show V.bl _ = V.bl _; congr 1; simp)⟩) ea eb
theorem ev_neS (ea : EV K ta σ G sa) (eb : EV K tb σ G sb) : EV K (tOp rNe ta tb) σ G (sa.bind fun a => sb.bind fun b => some (!decide (a = b))) :=
  ev_bin (fun s ra rb e Q k => by obtain ⟨rfl, z1⟩ := ra; obtain ⟨rfl, z2⟩ := rb; cases e; exact ⟨rfl, k _ _ _ (.refl s) (by show V.bl _ = V.bl _; congr 1; simp)⟩) ea eb
theorem ev_atS (ea : EV K ta σ G sa) (eb : EV K tb σ G ib) : EV K (tOp (rAt K) ta tb) σ G (sa.bind fun a => ib.bind fun i => (atI a.cps.toList i).bind fun c => some (⟨#[c]⟩ : Str)) :=
  ev_bin (fun s ra rb e Q k => by
    obtain ⟨rfl, z1⟩ := ra; cases rb
    obtain ⟨c, hc, e⟩ := Option.bind_eq_some_iff.mp e
    cases e
    exact ⟨z1, c, hc, k _ _ _ (.refl s) ⟨rfl, by show 1 ≤ sizeLine; decide⟩⟩) ea eb
end
theorem paired_atI {R : V → α → Prop} {xs : List V} {as : List α} {i : Int} {a : α} (p : Paired R xs as) (h : atI as i = some a) : ∃ v, atI xs i = some v ∧ R v a := by
  have hl := Paired.length p
  unfold atI at h ⊢
  obtain ⟨j, hj, h⟩ := Option.bind_eq_some_iff.mp h
  rw [hl, hj]
  have hlt : j < xs.length := by
    have := (List.getElem?_eq_some_iff.mp h).1
    omega
  exact ⟨xs[j], List.getElem?_eq_getElem hlt, Paired.at' p (List.getElem?_eq_getElem hlt) h⟩
theorem Paired.app {α β : Type} {F : α → β → Prop} : ∀ {l1 l2 : List α} {m1 m2 : List β}, Paired F l1 m1 → Paired F l2 m2 → Paired F (l1 ++ l2) (m1 ++ m2)
  | _, _, _, _, .nil, h => h
  | _, _, _, _, .cons r t, h => .cons r (Paired.app t h)
theorem Paired.tk {α β : Type} {F : α → β → Prop} : ∀ (n : Nat) {l : List α} {m : List β}, Paired F l m → Paired F (l.take n) (m.take n)
  | 0, _, _, _ => by simpa using .nil
  | n + 1, _, _, .nil => by simpa using .nil
  | n + 1, _, _, .cons r t => .cons r (Paired.tk n t)
theorem Paired.dp {α β : Type} {F : α → β → Prop} : ∀ (n : Nat) {l : List α} {m : List β}, Paired F l m → Paired F (l.drop n) (m.drop n)
  | 0, _, _, h => h
  | n + 1, _, _, .nil => by simpa using .nil
  | n + 1, _, _, .cons r t => Paired.dp n t
theorem Paired.rep {α β : Type} {F : α → β → Prop} {l : List α} {m : List β} (h : Paired F l m) : ∀ n : Nat, Paired F (List.replicate n l).flatten (List.replicate n m).flatten
  | 0 => .nil
  | n + 1 => by
    rw [List.replicate_succ, List.replicate_succ, List.flatten_cons, List.flatten_cons]
    exact Paired.app h (Paired.rep h n)
section
variable {la lb : Option (List α)} {ia ib : Option Int}
theorem ev_at (ea : EV K ta σ G la) (eb : EV K tb σ G ib) : EV K (tOp (rAt K) ta tb) σ G (la.bind fun a => ib.bind fun i => atI a i) :=
  ev_bin (fun s ra rb e Q k => by
    obtain ⟨l, xs, rfl, h, z, p⟩ := ra; cases rb
    obtain ⟨v, hv, r⟩ := paired_atI p e
    exact .inl ⟨xs, v, .inl (s.rd h), hv, k _ _ _ (.refl s) r⟩) ea eb
theorem ev_atT {pa : Option (Tp α)} (ea : EV K ta σ G pa) (eb : EV K tb σ G ib) : EV K (tOp (rAt K) ta tb) σ G (pa.bind fun a => ib.bind fun i => atI a.l i) :=
  ev_bin (fun s ra rb e Q k => by
    obtain ⟨l, xs, rfl, h, z, p⟩ := ra; cases rb
    obtain ⟨v, hv, r⟩ := paired_atI p e
    exact .inr ⟨xs, v, s.tup h, hv, k _ _ _ (.refl s) r⟩) ea eb
theorem ev_part {τ : Type} [Rp τ] {mt : Option τ} {i : Int} {f : τ → α} (h : ∀ {G : Hp} {v : V} {p : τ}, Rp.rel K G v p → ∃ t xs w, v = .ref t ∧ SqT K G t xs ∧ atI xs i = some w ∧ Rp.rel K G w (f p)) (ea : EV K ta σ G mt) :
    EV K (tOp (rAt K) ta (tC (.int i))) σ G (mt.bind fun p => some (f p)) := by
  intro G1 s1 c hc H sH Q k
  obtain ⟨a, ha, hc⟩ := Option.bind_eq_some_iff.mp hc
  cases hc
  refine ea G1 s1 a ha H sH _ fun v G2 H2 x2 r2 => ?_
  obtain ⟨t, xs, w, rfl, ht, hw, r⟩ := h r2
  exact .inr ⟨xs, w, x2.gh.tup ht, hw, k _ _ _ x2 r⟩
theorem ev_fst {mt : Option (α × β)} (ea : EV K ta σ G mt) : EV K (tOp (rAt K) ta (tC (.int 0))) σ G (mt.bind fun p => some p.1) :=
  ev_part (τ := α × β) (fun ⟨t, a, b, e, h, r1, r2⟩ => ⟨t, _, a, e, h, rfl, r1⟩) ea
theorem ev_snd {mt : Option (α × β)} (ea : EV K ta σ G mt) : EV K (tOp (rAt K) ta (tC (.int 1))) σ G (mt.bind fun p => some p.2) :=
  ev_part (τ := α × β) (fun ⟨t, a, b, e, h, r1, r2⟩ => ⟨t, _, b, e, h, rfl, r2⟩) ea
theorem fv_of {H : Hp} {Q : VK} {as : List α} {G1 : Hp} (s : Same G1 H) {vs : List V} (hz : vs.length ≤ sizeLine) (hp : Paired (Rp.rel K G1) vs as)
    (k : ∀ p vs G2 H2, Ext G1 H G2 H2 → H p = none → G2 p = none → H2 p = some (.lst vs) → vs.length ≤ sizeLine → Paired (Rp.rel K G2) vs as → Q (.ref p) H2) : ∀ p, H p = none → Q (.ref p) (upd H p (.lst vs)) :=
  fun p h => k p vs G1 _ (.own s h) h (s.free h) upd_same hz hp
theorem FV.mono {H H' G1 G2 : Hp} {as : List α} {Q : VK} (x : Ext G1 H G2 H')
    (k : ∀ p vs G3 H3, Ext G1 H G3 H3 → H p = none → G3 p = none → H3 p = some (.lst vs) → vs.length ≤ sizeLine → Paired (Rp.rel K G3) vs as → Q (.ref p) H3) :
    ∀ p vs G3 H3, Ext G2 H' G3 H3 → H' p = none → G3 p = none → H3 p = some (.lst vs) → vs.length ≤ sizeLine → Paired (Rp.rel K G3) vs as → Q (.ref p) H3 :=
  fun p vs G3 H3 y h0 => k p vs G3 H3 (x.trans y) (x.hh.free h0)
noncomputable def catL {α : Type} (a b : List α) : Option (List α) := if a.length + b.length ≤ sizeLine then some (a ++ b) else none
theorem fv_cat (ea : EV K ta σ G la) (eb : EV K tb σ G lb) : FV K (tOp (rPlus K) ta tb) σ G (la.bind fun a => lb.bind fun b => catL a b) := by
  intro G1 s1 c hc H sH Q k
  obtain ⟨a, ha, hc⟩ := Option.bind_eq_some_iff.mp hc
  obtain ⟨b, hb, hc⟩ := Option.bind_eq_some_iff.mp hc
  obtain ⟨hl, rfl⟩ := ite_some hc
  refine ea G1 s1 a ha H sH _ fun v G2 H2 x2 r2 => ?_
  refine eb G2 (s1.trans x2.gg) b hb H2 x2.gh _ fun u G3 H3 x3 r3 => ?_
  obtain ⟨l1, xs, rfl, h1, z1, p1⟩ := Rp.mono x3.gg r2
  obtain ⟨l2, ys, rfl, h2, z2, p2⟩ := r3
  have e1 := Paired.length p1
  have e2 := Paired.length p2
  have hz : (xs ++ ys).length ≤ sizeLine := by rw [List.length_append]; omega
  exact ⟨xs, ys, x3.gh.rd h1, x3.gh.rd h2, by rw [List.length_append] at hz; exact hz, fv_of x3.gh hz (Paired.app p1 p2) (FV.mono (x2.trans x3) k)⟩
noncomputable def cutA {α : Type} (xs : List α) (lo hi : Option Int) : List α := (xs.drop (HT.sIx xs.length 0 lo)).take (HT.sIx xs.length xs.length hi - HT.sIx xs.length 0 lo)
theorem Paired.cut {α : Type} {R : V → α → Prop} {xs : List V} {as : List α} (p : Paired R xs as) (lo hi : Option Int) : Paired R (cutV xs lo hi) (cutA as lo hi) := by
  unfold cutV cutA
  rw [Paired.length p]
  exact Paired.tk _ (Paired.dp _ p)
section
variable {t1 t2 : TO} {m1 m2 : Option (Option Int)}
theorem ov_none : OV tNoPart σ G (some none) := fun G1 s1 a ha H sH Q k => by
  cases ha
  exact k _ _ (.refl sH)
theorem ov_some (ea : EV K ta σ G ia) : OV (tPart ta) σ G (ia.bind fun i => some (some i)) := by
  intro G1 s1 c hc H sH Q k
  obtain ⟨a, ha, hc⟩ := Option.bind_eq_some_iff.mp hc
  cases hc
  refine ea G1 s1 a ha H sH _ fun v G2 H2 x2 r2 => ?_
  cases r2
  exact ⟨_, rfl, k _ _ x2⟩
theorem fv_slice (ea : EV K ta σ G la) (e1 : OV t1 σ G m1) (e2 : OV t2 σ G m2) : FV K (tSl (rSl K) ta t1 t2) σ G (la.bind fun a => m1.bind fun lo => m2.bind fun hi => some (cutA a lo hi)) := by
  intro G1 s1 c hc H sH Q k
  obtain ⟨a, ha, hc⟩ := Option.bind_eq_some_iff.mp hc
  obtain ⟨lo, hlo, hc⟩ := Option.bind_eq_some_iff.mp hc
  obtain ⟨hi, hhi, hc⟩ := Option.bind_eq_some_iff.mp hc
  cases hc
  refine ea G1 s1 a ha H sH _ fun v G2 H2 x2 r2 => ?_
  refine e1 G2 (s1.trans x2.gg) lo hlo H2 x2.gh _ fun G3 H3 x3 => ?_
  refine e2 G3 (s1.trans (x2.trans x3).gg) hi hhi H3 x3.gh _ fun G4 H4 x4 => ?_
  obtain ⟨l, xs, rfl, h, z, p⟩ := Rp.mono (x3.trans x4).gg r2
  exact ⟨xs, .inl (x4.gh.rd h), fv_of x4.gh (Nat.le_trans (cutV_length _ _ _) z) (Paired.cut p lo hi) (FV.mono ((x2.trans x3).trans x4) k)⟩
end
end
section
variable {t : TA} {n : Nat} {ml : Option (List α)}
theorem lv_nil : LV K tNil σ G 0 (some ([] : List α)) := fun G1 s1 a ha H sH Q k => by
  cases ha
  exact k _ _ _ (.refl sH) rfl .nil
theorem lv_cons (ea : EV K ta σ G ma) (er : LV K t σ G n ml) : LV K (tCons ta t) σ G (n + 1) (ma.bind fun a => ml.bind fun r => some (a :: r)) := by
  intro G1 s1 c hc H sH Q k
  obtain ⟨a, ha, hc⟩ := Option.bind_eq_some_iff.mp hc
  obtain ⟨r, hr, hc⟩ := Option.bind_eq_some_iff.mp hc
  cases hc
  refine ea G1 s1 a ha H sH _ fun v G2 H2 x2 r2 => ?_
  refine er G2 (s1.trans x2.gg) r hr H2 x2.gh _ fun vs G3 H3 x3 hl hp => ?_
  exact k _ _ _ (x2.trans x3) (by rw [List.length_cons, hl]) (.cons (Rp.mono x3.gg r2) hp)
theorem fv_lst (e : LV K t σ G n ml) (hn : n ≤ sizeLine := by decide) : FV K (tLst t) σ G ml := by
  intro G1 s1 c hc H sH Q k
  refine e G1 s1 c hc H sH _ fun vs G2 H2 x2 hl hp => ?_
  exact ⟨by omega, fv_of x2.gh (by omega) hp (FV.mono x2 k)⟩
theorem ev_tup2 (ea : EV K ta σ G ma) (eb : EV K tb σ G mb) : EV K (tTup (tCons ta (tCons tb tNil))) σ G (ma.bind fun a => mb.bind fun b => some (a, b)) := by
  intro G1 s1 c hc H sH Q k
  obtain ⟨a, ha, hc⟩ := Option.bind_eq_some_iff.mp hc
  obtain ⟨b, hb, hc⟩ := Option.bind_eq_some_iff.mp hc
  cases hc
  refine ea G1 s1 a ha H sH _ fun v G2 H2 x2 r2 => ?_
  refine eb G2 (s1.trans x2.gg) b hb H2 x2.gh _ fun u G3 H3 x3 r3 => ⟨by show 2 ≤ sizeLine; decide, fun p h => ?_⟩
  have s := Same.new (o := .tup [v, u]) (x3.gh.free h)
  exact k _ _ _ ((x2.trans x3).trans (.new x3.gh h)) ⟨p, v, u, rfl, SqT.of upd_same, Rp.mono (x3.gg.trans s) r2, Rp.mono s r3⟩
end
section
variable {t : TA} {A B : Type} [RpA A] [RpA B] {mA : Option A}
noncomputable def spM (K : PySem.W.Frag) {A : Type} {ρ : Type} [RpA A] [Rp ρ] (m : A → Option ρ) : Sp := fun vs H Q _ =>
  ∃ G a r, Same G H ∧ RpA.rel K G vs a ∧ m a = some r ∧ ∀ v G2 H2, Ext G H G2 H2 → Rp.rel K G2 v r → Q v H2
theorem spM_len {A : Type} {ρ : Type} [RpA A] [Rp ρ] {m : A → Option ρ} {vs : List V} {H : Hp} {Q : VK} {E : XK} (h : spM K m vs H Q E) : vs.length = RpA.n A := by
  obtain ⟨G, a, r, _, h, _⟩ := h
  exact RpA.len h
theorem ev_len {la : Option (List α)} (ea : EV K ta σ G la) : EV K (tCB (rLen K) (tCons ta tNil)) σ G (la.bind fun a => some (a.length : Int)) := by
  intro G1 s1 c hc H sH Q k
  obtain ⟨a, ha, hc⟩ := Option.bind_eq_some_iff.mp hc
  cases hc
  refine ea G1 s1 a ha H sH _ fun v G2 H2 x2 r2 => ?_
  obtain ⟨l, xs, rfl, h, z, p⟩ := r2
  exact ⟨xs, .inl (.inl (x2.gh.rd h)), by rw [Paired.length p]; exact k _ _ _ x2 rfl⟩
theorem ev_min {ia ib : Option Int} (ea : EV K ta σ G ia) (eb : EV K tb σ G ib) : EV K (tCB (fun xs H Q => ∃ i j, xs = [.int i, .int j] ∧ Q (.int (if j < i then j else i)) H) (tCons ta (tCons tb tNil))) σ G (ia.bind fun a => ib.bind fun b => some (if b < a then b else a)) := by
  intro G1 s1 c hc H sH Q k
  obtain ⟨a, ha, hc⟩ := Option.bind_eq_some_iff.mp hc
  obtain ⟨b, hb, hc⟩ := Option.bind_eq_some_iff.mp hc
  cases hc
  refine ea G1 s1 a ha H sH _ fun v G2 H2 x2 r2 => ?_
  refine eb G2 (s1.trans x2.gg) b hb H2 x2.gh _ fun u G3 H3 x3 r3 => ?_
  cases r2; cases r3
  exact ⟨_, _, rfl, k _ _ _ (x2.trans x3) rfl⟩
theorem fv_list {la : Option (List α)} (ea : EV K ta σ G la) : FV K (tCB (fun xs H Q => ∃ p ys, xs = [.ref p] ∧ (SqL K H p ys ∨ SqT K H p ys) ∧ ∀ l, H l = none → Q (.ref l) (upd H l (.lst ys))) (tCons ta tNil)) σ G la := by
  intro G1 s1 a ha H sH Q k
  refine ea G1 s1 a ha H sH _ fun v G2 H2 x2 r2 => ?_
  obtain ⟨l, xs, rfl, h, z, p⟩ := r2
  exact ⟨l, xs, rfl, .inl (.inl (x2.gh.rd h)), fv_of x2.gh z p (FV.mono x2 k)⟩
end
inductive TyS (K : PySem.W.Frag) (H : Hp) : V → String → Prop where
  | non : TyS K H .non "NoneType"
  | bl (x : Bool) : TyS K H (.bl x) "bool"
  | int (i : Int) : TyS K H (.int i) "int"
  | str (x : Str) : TyS K H (.str x) "str"
  | lst {a : Addr} {xs : List V} (e : SqL K H a xs) : TyS K H (.ref a) "list"
  | tup {a : Addr} {xs : List V} (e : SqT K H a xs) : TyS K H (.ref a) "tuple"
  | dK {a : Addr} {kvs : List (Key × V)} (e : Rd H a (.dK kvs)) : TyS K H (.ref a) "dict"
  | dT {a : Addr} {kvs : List (List Key × V)} (e : Rd H a (.dT kvs)) : TyS K H (.ref a) "dict"
noncomputable def rInst (K : PySem.W.Frag) : List V → Hp → VK → Prop := fun vs H Q => ∃ x t T b, vs = [x, .ty T] ∧ TyS K H x t ∧ kitC t T = some b ∧ Q (.bl b) H
theorem call_inst {X : Cx} : CallR X (.builtin "isinstance") (rInst X.K) := by
  intro pins s σ H vs us Q I r h
  obtain ⟨x, t, T, b, rfl, ty, e, q⟩ := h
  obtain ⟨u, w', rfl, rx, r2⟩ := vals2 r
  obtain rfl : w' = Value.type T := r2
  have e := kit_of (K := X.K) e
  have fin : ∀ tk, EP X pins σ Q (.bool b) { s with toks := tk } := fun tk => ⟨.bl b, H, I.tok tk, rfl, q⟩
  cases ty with
  | non => cases (show u = Value.none from rx); exact PySem.W.kia_one PySem.W.kitx_none I.kIn True.intro e (fun z => nomatch z) fin
  | bl y => cases (show u = Value.bool y from rx); exact PySem.W.kia_one PySem.W.kitx_bool I.kIn True.intro e (fun z => nomatch z) fin
  | int i => obtain ⟨t, q'⟩ := (show ∃ t, u = Value.int i t from rx); cases q'; exact PySem.W.kia_one PySem.W.kitx_int I.kIn True.intro e (fun z => nomatch z) fin
  | str y => obtain ⟨t, q'⟩ := (show ∃ t, u = Value.str y t from rx); cases q'; exact PySem.W.kia_one PySem.W.kitx_str I.kIn True.intro e (fun z => nomatch z) fin
  | @lst a xs ea =>
    cases (show u = Value.ref a from rx)
    obtain ⟨its, _, pl, _⟩ := I.list ea
    obtain ⟨o, n, h1, h2, _⟩ := pl
    exact PySem.W.kia_one PySem.W.kitx_list I.kIn ⟨o, h1, h2⟩ e (fun z => nomatch z) fin
  | @tup a xs ea =>
    cases (show u = Value.ref a from rx)
    obtain ⟨its, _, pl, _⟩ := I.tuple ea
    obtain ⟨o, h1, h2, _⟩ := pl
    exact PySem.W.kia_one PySem.W.kitx_tuple I.kIn ⟨o, h1, h2⟩ e (fun z => nomatch z) fin
  | @dK a kvs ea =>
    cases (show u = Value.ref a from rx)
    obtain ⟨_, _, vs, _, p⟩ := ea.ok I.hok
    obtain ⟨o, es, ep, h1, h2, _⟩ := p
    exact PySem.W.kia_one PySem.W.kitx_dict I.kIn ⟨o, h1, h2.1⟩ e (fun z => nomatch z) fin
  | @dT a kvs ea =>
    cases (show u = Value.ref a from rx)
    obtain ⟨_, _, xs, _, o, es, ep, h1, h2, _⟩ := ea.ok I.hok
    exact PySem.W.kia_one PySem.W.kitx_dict I.kIn ⟨o, h1, h2.1⟩ e (fun z => nomatch z) fin
class RpT (α : Type) [Rp α] where
  tn : String
  ty : ∀ {K : PySem.W.Frag} {H : Hp} {v : V} {a : α}, Rp.rel K H v a → TyS K H v tn
noncomputable instance rtInt : RpT Int := ⟨"int", fun h => by cases h; exact .int _⟩
noncomputable instance rtBool : RpT Bool := ⟨"bool", fun h => by cases h; exact .bl _⟩
noncomputable instance rtStr : RpT Str := ⟨"str", fun h => by obtain ⟨rfl, _⟩ := h; exact .str _⟩
noncomputable instance rtUnit : RpT Unit := ⟨"NoneType", fun h => by cases h; exact .non⟩
noncomputable instance rtList : RpT (List α) := ⟨"list", fun h => by obtain ⟨l, xs, rfl, h, _⟩ := h; exact .lst (.inl h)⟩
noncomputable instance rtPair : RpT (α × β) := ⟨"tuple", fun h => by obtain ⟨l, x, y, rfl, h, _⟩ := h; exact .tup h⟩
noncomputable instance rtT3 : RpT (T3 α β γ) := ⟨"tuple", fun h => by obtain ⟨l, x, y, z, rfl, h, _⟩ := h; exact .tup h⟩
noncomputable instance rtTp : RpT (Tp α) := ⟨"tuple", fun h => by obtain ⟨l, xs, rfl, h, _⟩ := h; exact .tup h⟩
theorem TyS.mono {H H' : Hp} {v : V} {t : String} (s : Same H H') (h : TyS K H v t) : TyS K H' v t := by
  cases h with
  | non => exact .non
  | bl => exact .bl _
  | int => exact .int _
  | str => exact .str _
  | lst e => exact .lst (s.seq e)
  | tup e => exact .tup (s.tup e)
  | dK e => exact .dK (s.rd e)
  | dT e => exact .dT (s.rd e)
theorem ev_inst [RpT α] {T : String} {b : Bool} (h : kitC (RpT.tn α) T = some b) (ea : EV K ta σ G ma) : EV K (tCB (rInst K) (tCons ta (tCons (tC (.ty T)) tNil))) σ G (ma.bind fun _ => some b) := by
  intro G1 s1 c hc H sH Q k
  obtain ⟨a, ha, hc⟩ := Option.bind_eq_some_iff.mp hc
  cases hc
  refine ea G1 s1 a ha H sH _ fun v G2 H2 x2 r2 => ?_
  exact ⟨_, _, _, _, rfl, (RpT.ty r2).mono x2.gh, h, k _ _ _ x2 rfl⟩
theorem EqTy.imp {k : Nat} {α : Type} [DecidableEq α] {R R' : Hp → V → α → Prop} (E : EqTy K k R) (h : ∀ H v a, R' H v a → R H v a) : EqTy K k R' :=
  ⟨fun hK I a b => E.fn hK I (h _ _ _ a) (h _ _ _ b), fun A hK I hu r1 r2 a b => E.eq A hK I hu r1 r2 (h _ _ _ a) (h _ _ _ b), fun A hK I hu r1 r2 a b => E.rc A hK I hu r1 r2 (h _ _ _ a) (h _ _ _ b)⟩
class RpE (α : Type) [Rp α] [DecidableEq α] where
  k : Nat
  ty : ∀ K : PySem.W.Frag, EqTy K k (Rp.rel (α := α) K)
noncomputable instance reInt : RpE Int := ⟨0, fun _ => eqInt⟩
noncomputable instance reBool : RpE Bool := ⟨0, fun _ => eqBl⟩
noncomputable instance reStr : RpE Str := ⟨0, fun _ => eqStr.imp fun _ _ _ h => h.1⟩
noncomputable instance reList {α : Type} [Rp α] [DecidableEq α] [RpE α] : RpE (List α) := ⟨RpE.k α + 1, fun K => (eqLst (RpE.ty K)).imp fun _ _ _ ⟨l, xs, e, h, _, p⟩ => ⟨l, xs, e, .inl h, p⟩⟩
section
variable {α : Type} [Rp α] [DecidableEq α] {m1 m2 : Option α}
noncomputable def rEqD (K : PySem.W.Frag) (α : Type) [Rp α] [DecidableEq α] : R2 := fun x y H Q => ∃ a b : α, Rp.rel K H x a ∧ Rp.rel K H y b ∧ Q (.bl (decide (a = b))) H
noncomputable def rNeD (K : PySem.W.Frag) (α : Type) [Rp α] [DecidableEq α] : R2 := fun x y H Q => ∃ a b : α, Rp.rel K H x a ∧ Rp.rel K H y b ∧ Q (.bl (!decide (a = b))) H
theorem op_eqM {X : Cx} {j : Nat} (α : Type) [Rp α] [DecidableEq α] [RpE α] (hr : Room j X.A) (hk : RpE.k α ≤ 10) : OpR X (compareOp .Eq) (rEqD X.K α) := op_eqD (RpE.ty X.K) hr hk
theorem op_neM {X : Cx} {j : Nat} (α : Type) [Rp α] [DecidableEq α] [RpE α] (hr : Room j X.A) (hk : RpE.k α ≤ 10) : OpR X (compareOp .NotEq) (rNeD X.K α) := op_neD (RpE.ty X.K) hr hk
theorem ev_eq (ea : EV K ta σ G m1) (eb : EV K tb σ G m2) : EV K (tOp (rEqD K α) ta tb) σ G (m1.bind fun a => m2.bind fun b => some (decide (a = b))) :=
  ev_bin (fun s ra rb e Q k => by cases e; exact ⟨_, _, Rp.mono s ra, Rp.mono s rb, k _ _ _ (.refl s) rfl⟩) ea eb
theorem ev_ne (ea : EV K ta σ G m1) (eb : EV K tb σ G m2) : EV K (tOp (rNeD K α) ta tb) σ G (m1.bind fun a => m2.bind fun b => some (!decide (a = b))) :=
  ev_bin (fun s ra rb e Q k => by cases e; exact ⟨_, _, Rp.mono s ra, Rp.mono s rb, k _ _ _ (.refl s) rfl⟩) ea eb
end
end
end L2
set_option Elab.async false
set_option linter.all false
set_option maxRecDepth 100000
set_option maxHeartbeats 4000000
namespace L2
open PySem PySem.Spec PyProof.Rows
inductive Fl (S ρ : Type) where
  | nx (s : S)
  | bk (s : S)
  | rt (r : ρ)
noncomputable def forO {α S ρ : Type} (f : α → S → Option (Fl S ρ)) : List α → S → Option (Fl S ρ)
  | [], s => some (.nx s)
  | a :: as, s => (f a s).bind fun fl => match fl with
    | .nx s' => forO f as s'
    | .bk s' => some (.nx s')
    | .rt r => some (.rt r)
noncomputable def compO {α β : Type} (fc : α → Option Bool) (fe : α → Option β) : List α → Option (List β)
  | [] => some []
  | a :: r => (fc a).bind fun b => cond b ((fe a).bind fun y => (compO fc fe r).bind fun ys => some (y :: ys)) (compO fc fe r)
noncomputable def mapO {α β : Type} (fe : α → Option β) : List α → Option (List β)
  | [] => some []
  | a :: r => (fe a).bind fun y => (mapO fe r).bind fun ys => some (y :: ys)
theorem compO_true {α β : Type} (fe : α → Option β) : ∀ as, compO (fun _ => some true) fe as = mapO fe as
  | [] => rfl
  | a :: r => by
    show ((fe a).bind fun y => (compO (fun _ => some true) fe r).bind fun ys => some (y :: ys)) = _
    rw [compO_true fe r]
    rfl
noncomputable def rngO (lo hi : Int) : Option (List Int) := if (-(2 ^ 62) ≤ lo ∧ lo < 2 ^ 62 ∧ -(2 ^ 62) ≤ hi ∧ hi < 2 ^ 62) ∧ (hi - lo).toNat ≤ sizeLine then some ((List.range (hi - lo).toNat).map fun (i : Nat) => lo + (i : Int)) else none
section
variable {K : PySem.W.Frag} {σ : St} {G : Hp} {α β γ δ : Type} [Rp α] [Rp β] [Rp γ] [Rp δ] {ta tb tc td : TE} {ma : Option α} {mb : Option β} {mc : Option γ} {md : Option δ}
noncomputable def IW (K : PySem.W.Frag) {α : Type} [Rp α] (wi : TI) (σ : St) (G : Hp) (m : Option (List α)) : Prop :=
  ∀ G1, Same G G1 → ∀ a, m = some a → ∀ H, Same G1 H → ∀ R : It → Hp → Prop, (∀ J vs G2 H2, Ext G1 H G2 H2 → Yields J G2 vs → vs.length ≤ sizeLine → Paired (Rp.rel K G2) vs a → R J H2) → wi σ H R
theorem yields_tup {a : Addr} {xs : List V} {H : Hp} (h : SqT K H a xs) : Yields (Itt K a) H xs where
  go := fun i H' s hi => ⟨xs, xs[i], s.tup h, by simp [hi]⟩
  stop := fun H' s => ⟨xs, s.tup h, Nat.le_refl _⟩
  yld := fun i H' v H'' s _ y => ⟨y.1, y.2 xs (s.tup h)⟩
theorem iw_list {la : Option (List α)} (ea : EV K ta σ G la) : IW K (iAny K ta) σ G la := by
  intro G1 s1 a ha H sH R k
  refine ea G1 s1 a ha H sH _ fun v G2 H2 x2 r2 => ?_
  obtain ⟨l, xs, rfl, h, z, p⟩ := r2
  exact .inl ⟨⟨xs, .inl (x2.gh.rd h)⟩, k _ xs G2 H2 x2 (yields_list (.inl h)) z p⟩
theorem iw_tup {la : Option (Tp α)} (ea : EV K ta σ G la) : IW K (iAny K ta) σ G (la.bind fun a => some a.l) := by
  intro G1 s1 a ha H sH R k
  obtain ⟨b, hb, ha⟩ := Option.bind_eq_some_iff.mp ha
  cases ha
  refine ea G1 s1 b hb H sH _ fun v G2 H2 x2 r2 => ?_
  obtain ⟨l, xs, rfl, h, z, p⟩ := r2
  exact .inr ⟨⟨xs, x2.gh.tup h⟩, k _ xs G2 H2 x2 (yields_tup h) z p⟩
theorem paired_ints (H : Hp) (f : Nat → Int) : ∀ l : List Nat, Paired (Rp.rel K H) (l.map fun i => V.int (f i)) (l.map fun i => f i)
  | [] => .nil
  | a :: r => .cons rfl (paired_ints H f r)
theorem iw_rng1 {ia : Option Int} (ea : EV K ta σ G ia) : IW K (iRng1 (tCons ta tNil)) σ G (ia.bind fun j => rngO 0 j) := by
  intro G1 s1 a ha H sH R k
  obtain ⟨j, hj, ha⟩ := Option.bind_eq_some_iff.mp ha
  obtain ⟨⟨hb, hz⟩, rfl⟩ := ite_some ha
  refine ea G1 s1 j hj H sH _ fun v G2 H2 x2 r2 => ?_
  cases r2
  refine ⟨j, rfl, hb.2.2.1, hb.2.2.2, ?_⟩
  have e : (j - 0).toNat = j.toNat := by omega
  rw [e] at hz k
  exact k (Itr 0 j.toNat) _ G2 H2 x2 (yields_range 0 j.toNat G2) (by rw [List.length_map, List.length_range]; exact hz) (paired_ints G2 (fun i => (0 : Int) + (i : Int)) _)
theorem tv_yes : TV tYes σ G (some true) := fun G1 s1 a ha H sH Q k => by
  cases ha
  exact k _ _ (.refl sH)
theorem Paired.getR {F : V → α → Prop} : ∀ {xs : List V} {as : List α} {i : Nat} {v : V}, Paired F xs as → xs[i]? = some v → ∃ a, as[i]? = some a ∧ F v a
  | _, _, _, _, .nil, e => by simp at e
  | _, _, 0, _, .cons r _, e => by simp at e; subst e; exact ⟨_, rfl, r⟩
  | _, _, i + 1, _, .cons _ t, e => Paired.getR (i := i) t (by simpa using e)
theorem fv_comp {cap : List Nat} {wi : TI} {tt : TT} {te : TE} {mi : Option (List α)} {fc : α → Option Bool} {fe : α → Option β} (ei : IW K wi σ G mi)
    (hb : ∀ (x : V) (a : α) (G1 : Hp), Same G G1 → Rp.rel K G1 x a → TV tt ((inner cap σ).set 0 (some x)) G1 (fc a) ∧ EV K te ((inner cap σ).set 0 (some x)) G1 (fe a)) :
    FV K (tComp cap wi tt te) σ G (mi.bind fun as => compO fc fe as) := by
  intro G1 s1 c hc H sH Q k
  obtain ⟨as, has, hc⟩ := Option.bind_eq_some_iff.mp hc
  refine ei G1 s1 as has H sH _ fun J vs Ga Ha xa Y hz pr p hp => ?_
  have hla := Paired.length pr
  refine ⟨fun i m ys H2 => m = vs.length - i ∧ i ≤ vs.length ∧ ∃ G2 bs cs, Ext Ga Ha G2 H2 ∧ G2 p = none ∧ H2 p = some (.lst ys) ∧ ys.length ≤ i ∧ Paired (Rp.rel K G2) ys bs ∧ compO fc fe (as.drop i) = some cs ∧ c = bs ++ cs,
    ⟨vs.length, by simp, Nat.zero_le _, Ga, [], c, .own xa.gh hp, xa.gh.free hp, upd_same, Nat.le_refl _, .nil, hc, rfl⟩, ?_⟩
  rintro i m ys H2 ⟨rfl, hi, G2, bs, cs, x2, hg, hh, hy, hpr, hcs, rfl⟩
  by_cases hlt : i < vs.length
  · refine .inr ⟨Y.go i _ (x2.gg.trans x2.gh) hlt, fun ys' H' => ∃ G2 bs' cs', Ext Ga Ha G2 H' ∧ G2 p = none ∧ H' p = some (.lst ys') ∧ ys'.length ≤ i + 1 ∧ Paired (Rp.rel K G2) ys' bs' ∧ compO fc fe (as.drop (i + 1)) = some cs' ∧ bs ++ cs = bs' ++ cs',
      fun ys' H' ⟨G3, bs', cs', h⟩ => ⟨vs.length - (i + 1), by omega, rfl, hlt, G3, bs', cs', h⟩, fun x H3 y => ?_⟩
    obtain ⟨rfl, hx⟩ := Y.yld i _ x H3 (x2.gg.trans x2.gh) hlt y
    obtain ⟨a, hai, ra⟩ := Paired.getR pr hx
    have hd : as.drop i = a :: as.drop (i + 1) := by
      obtain ⟨h1, h2⟩ := List.getElem?_eq_some_iff.mp hai
      rw [List.drop_eq_getElem_cons h1, h2]
    rw [hd] at hcs
    obtain ⟨b, hbb, hcs⟩ := Option.bind_eq_some_iff.mp hcs
    have B := hb x a G2 (s1.trans (xa.gg.trans x2.gg)) (Rp.mono x2.gg ra)
    refine B.1 G2 (.refl _) b hbb _ x2.gh _ fun G5 H5 x5 => ?_
    have hp5 : H5 p = some (.lst ys) := x5.hh _ _ hh
    have hg5 : G5 p = none := x5.no p hg (by rw [hh]; exact fun z => nomatch z)
    cases b with
    | false =>
      rw [if_neg Bool.false_ne_true]
      exact ⟨G5, bs, cs, x2.trans x5, hg5, hp5, by omega, Paired.imp' (fun _ _ r => Rp.mono x5.gg r) hpr, hcs, rfl⟩
    | true =>
      rw [if_pos rfl]
      obtain ⟨z, hze, hcs⟩ := Option.bind_eq_some_iff.mp hcs
      obtain ⟨cs', hcs', hcs⟩ := Option.bind_eq_some_iff.mp hcs
      cases hcs
      refine B.2 G5 x5.gg z hze H5 x5.gh _ fun v G6 H6 x6 r6 => ?_
      have hp6 : H6 p = some (.lst ys) := x6.hh _ _ hp5
      have hg6 : G6 p = none := x6.no p hg5 (by rw [hp5]; exact fun z => nomatch z)
      refine ⟨hp6, by omega, G6, bs ++ [z], cs', ((x2.trans x5).trans x6).put hp hg6, hg6, upd_same, ?_, Paired.app (Paired.imp' (fun _ _ r => Rp.mono (x5.trans x6).gg r) hpr) (.cons r6 .nil), hcs', by simp⟩
      rw [List.length_append, List.length_singleton]
      omega
  · have e : i = vs.length := by omega
    subst e
    have hd : as.drop vs.length = [] := List.drop_eq_nil_of_le (by omega)
    rw [hd] at hcs
    cases hcs
    refine .inl ⟨Y.stop _ (x2.gg.trans x2.gh), ?_⟩
    rw [List.append_nil] at k
    exact k p ys G2 H2 (xa.trans x2) (xa.hh.free hp) hg hh (by omega) hpr
theorem fv_map {cap : List Nat} {wi : TI} {te : TE} {mi : Option (List α)} {fe : α → Option β} (ei : IW K wi σ G mi)
    (hb : ∀ (x : V) (a : α) (G1 : Hp), Same G G1 → Rp.rel K G1 x a → EV K te ((inner cap σ).set 0 (some x)) G1 (fe a)) :
    FV K (tComp cap wi tYes te) σ G (mi.bind fun as => mapO fe as) := by
  have h := fv_comp (tt := tYes) (fc := fun _ => some true) ei fun x a G1 s r => ⟨tv_yes, hb x a G1 s r⟩
  have e : (fun as => compO (fun _ => some true) fe as) = fun as => mapO fe as := funext (compO_true fe)
  rw [e] at h
  exact h
noncomputable def joinO (z : Str) (ys : List Str) : Option Str := if (ys.map (·.length)).sum + ys.length * z.length ≤ 16777216 then some (Txt.join z ys) else none
theorem paired_strs {H : Hp} : ∀ {xs : List V} {ys : List Str}, Paired (Rp.rel K H) xs ys → xs = ys.map V.str
  | _, _, .nil => rfl
  | _, _, .cons r t => by
    obtain ⟨rfl, _⟩ := r
    rw [paired_strs t]
    rfl
theorem join_le (z : Str) : ∀ (ps : List Str) (acc : Array Nat), (ps.foldl (fun acc p => acc ++ z.cps ++ p.cps) acc).size = acc.size + (ps.map (·.length)).sum + ps.length * z.length
  | [], acc => by simp
  | p :: ps, acc => by
    rw [List.foldl_cons, join_le z ps]
    simp only [Array.size_append, List.map_cons, List.sum_cons, List.length_cons, Nat.succ_mul]
    have : p.cps.size = p.length := rfl
    have : z.cps.size = z.length := rfl
    omega
theorem join_len (z : Str) (ys : List Str) : (Txt.join z ys).length ≤ (ys.map (·.length)).sum + ys.length * z.length := by
  show ((ys.drop 1).foldl (fun acc p => acc ++ z.cps ++ p.cps) (ys.headD Str.empty).cps).size ≤ _
  rw [join_le]
  cases ys with
  | nil => simp; rfl
  | cons a r =>
    simp only [List.headD_cons, List.drop_succ_cons, List.drop_zero, List.map_cons, List.sum_cons, List.length_cons, Nat.succ_mul]
    have : a.cps.size = a.length := rfl
    omega
theorem ev_join {sa : Option Str} {lb : Option (List Str)} (ea : EV K ta σ G sa) (eb : EV K tb σ G lb) : EV K (tBM K "str" (rJoin K) ta (tCons tb tNil)) σ G (sa.bind fun z => lb.bind fun ys => joinO z ys) := by
  intro G1 s1 c hc H sH Q k
  obtain ⟨a, ha, hc⟩ := Option.bind_eq_some_iff.mp hc
  obtain ⟨b, hb, hc⟩ := Option.bind_eq_some_iff.mp hc
  obtain ⟨hz, rfl⟩ := ite_some hc
  refine ea G1 s1 a ha H sH _ fun v G2 H2 x2 r2 => ?_
  obtain ⟨rfl, za⟩ := r2
  refine ⟨rfl, ?_⟩
  refine eb G2 (s1.trans x2.gg) b hb H2 x2.gh _ fun u G3 H3 x3 r3 => ?_
  obtain ⟨l, xs, rfl, h, z, p⟩ := r3
  obtain rfl := paired_strs p
  exact ⟨a, l, b, rfl, rfl, .inl (x3.gh.rd h), hz, k _ _ _ (x2.trans x3) ⟨rfl, Nat.le_trans (join_len _ _) (by rw [sizeLine_eq]; exact hz)⟩⟩
end
section
variable {K : PySem.W.Frag} {σ : St} {G H : Hp} {α β : Type} [Rp α] [Rp β] {te : TE} {tt : TT} {t u rest : TS} {D : Ends} {i : Nat} {a : α} {m : Option α}
theorem sv_set (e : EV K te σ G m) (hm : m = some a) (s : Same G H) (k : ∀ v G2 H2, Ext G H G2 H2 → Rp.rel K G2 v a → rest D (σ.set i (some v)) H2) : tSeq (tAsg te (gName i)) rest D σ H := e.run hm s k
theorem sv_ret (e : EV K te σ G m) (hm : m = some a) (s : Same G H) (k : ∀ v G2 H2, Ext G H G2 H2 → Rp.rel K G2 v a → D.rt v H2) : tSeq (tRet te) rest D σ H := e.run hm s k
theorem sv_if {b : Bool} {m : Option Bool} (e : TV tt σ G m) (hm : m = some b) (s : Same G H) (k : ∀ G2 H2, Ext G H G2 H2 → if b = true then t { D with nx := rest D } σ H2 else u { D with nx := rest D } σ H2) :
    tSeq (tIfS tt t u) rest D σ H := e.run hm s k
structure LoopOb (K : PySem.W.Frag) {α S ρ : Type} [Rp α] (RR : ρ → V → Hp → Hp → Prop) (f : α → S → Option (Fl S ρ)) (g : TG) (tb : TS) (D : Ends) (σ : St) (G2 H2 : Hp) (as : List α) (s0 : S) (res : Fl S ρ) (RS : S → St → Hp → Hp → Prop) : Prop where
  start : RS s0 σ G2 H2
  keep : ∀ s σ' G' H', RS s σ' G' H' → Same G2 G' ∧ Same G' H'
  step : ∀ (x : V) (a : α) (s : S) (σ1 : St) (G1 H1 : Hp) (fl : Fl S ρ), a ∈ as → RS s σ1 G1 H1 → Rp.rel K G1 x a → f a s = some fl → ∀ D' : Ends, (∀ s' σ' G' H', fl = .nx s' → RS s' σ' G' H' → D'.nx σ' H') → (∀ s' σ' G' H', fl = .nx s' → RS s' σ' G' H' → D'.ct σ' H') →
    (∀ s' σ' G' H', fl = .bk s' → RS s' σ' G' H' → D'.bk σ' H') → (∀ r v G' H', fl = .rt r → RR r v G' H' → D'.rt v H') → g x σ1 H1 fun σ2 H2 => tb D' σ2 H2
  nxt : ∀ s σ' G' H', res = .nx s → RS s σ' G' H' → D.nx σ' H'
  rtn : ∀ r v G' H', res = .rt r → RR r v G' H' → D.rt v H'
theorem sv_for {S ρ : Type} {RR : ρ → V → Hp → Hp → Prop} {f : α → S → Option (Fl S ρ)} {wi : TI} {g : TG} {tb : TS} {mi : Option (List α)} {as : List α} {s0 : S} {res : Fl S ρ} (ei : IW K wi σ G mi) (hm : mi = some as) (hf : forO f as s0 = some res) (sg : Same G H)
    (k : ∀ G2 H2, Ext G H G2 H2 → ∃ RS, LoopOb K RR f g tb { D with nx := rest D } σ G2 H2 as s0 res RS) : tSeq (tFor wi g tb) rest D σ H := by
  refine ei G (.refl G) as hm H sg _ fun J vs G2 H2 x2 Y hz pr => ?_
  obtain ⟨RS, L⟩ := k G2 H2 x2
  have hla := Paired.length pr
  refine ⟨fun i m σ' H' => m = vs.length - i ∧ i ≤ vs.length ∧ ∃ s G', RS s σ' G' H' ∧ forO f (as.drop i) s = some res, ⟨vs.length, by simp, Nat.zero_le _, s0, G2, L.start, hf⟩, ?_⟩
  rintro i m σ' H' ⟨rfl, hi, s, G', rs, hfo⟩
  obtain ⟨k1, k2⟩ := L.keep _ _ _ _ rs
  by_cases hlt : i < vs.length
  · refine .inr ⟨Y.go i _ (k1.trans k2) hlt, fun σ'' H'' => ∃ s' G'', RS s' σ'' G'' H'' ∧ forO f (as.drop (i + 1)) s' = some res, fun σ'' H'' ⟨s', G'', h⟩ => ⟨vs.length - (i + 1), by omega, rfl, hlt, s', G'', h⟩, fun x H3 y => ?_⟩
    obtain ⟨rfl, hx⟩ := Y.yld i _ x H3 (k1.trans k2) hlt y
    obtain ⟨a, hai, ra⟩ := Paired.getR pr hx
    have hd : as.drop i = a :: as.drop (i + 1) := by
      obtain ⟨h1, h2⟩ := List.getElem?_eq_some_iff.mp hai
      rw [List.drop_eq_getElem_cons h1, h2]
    rw [hd] at hfo
    obtain ⟨fl, hfl, hfo⟩ := Option.bind_eq_some_iff.mp hfo
    refine L.step x a s σ' G' _ fl (List.mem_of_getElem? hai) rs (Rp.mono k1 ra) hfl _ ?_ ?_ ?_ ?_
    · intro s' σ'' G'' H'' e r
      subst e
      exact ⟨s', G'', r, hfo⟩
    · intro s' σ'' G'' H'' e r
      subst e
      exact ⟨s', G'', r, hfo⟩
    · intro s' σ'' G'' H'' e r
      subst e
      exact L.nxt s' σ'' G'' H'' (Option.some.inj hfo).symm r
    · intro r v G'' H'' e rl
      subst e
      exact L.rtn r v G'' H'' (Option.some.inj hfo).symm rl
  · have e : i = vs.length := by omega
    subst e
    have hd : as.drop vs.length = [] := List.drop_eq_nil_of_le (by omega)
    rw [hd] at hfo
    exact .inl ⟨Y.stop _ (k1.trans k2), L.nxt s σ' G' H' (Option.some.inj hfo).symm rs⟩
end
structure Own (K : PySem.W.Frag) {α : Type} [Rp α] (G H : Hp) (v : V) (p : Addr) (vs : List V) (as : List α) : Prop where
  v : v = .ref p
  g : G p = none
  h : H p = some (.lst vs)
  z : vs.length ≤ sizeLine
  p : Paired (Rp.rel K G) vs as
section
variable {K : PySem.W.Frag} {σ : St} {G H G1 H1 G0 H0 : Hp} {α β : Type} [Rp α] [Rp β] {te ti : TE} {tt : TT} {t u rest : TS} {D : Ends} {i : Nat} {a : α} {m : Option α} {as : List α} {v : V} {p q : Addr} {vs : List V}
theorem Own.ext (o : Own K G H v p vs as) (x : Ext G H G1 H1) : Own K G1 H1 v p vs as :=
  ⟨o.v, x.no p o.g (by rw [o.h]; exact fun z => nomatch z), x.hh _ _ o.h, o.z, Paired.imp' (fun _ _ r => Rp.mono x.gg r) o.p⟩
theorem Own.put {ho : HO} (o : Own K G H v p vs as) (h : p ≠ q) : Own K G (upd H q ho) v p vs as := ⟨o.v, o.g, by rw [upd_ne h]; exact o.h, o.z, o.p⟩
theorem Own.tell (o : Own K G H v p vs as) : Rp.rel K (upd G p (.lst vs)) v as := ⟨p, vs, o.v, .inl upd_same, o.z, Paired.imp' (fun _ _ r => Rp.mono (Same.new o.g) r) o.p⟩
theorem Own.same (o : Own K G H v p vs as) (s : Same G H) : Same (upd G p (.lst vs)) H := fun b x e => by
  by_cases hb : b = p
  · subst hb
    rw [upd_same] at e
    rw [o.h]
    exact e
  · rw [upd_ne hb] at e
    exact s b x e
theorem sv_own {m : Option (List α)} {as : List α} (e : FV K te σ G m) (hm : m = some as) (s : Same G H) (k : ∀ p vs G2 H2, Ext G H G2 H2 → H p = none → Own K G2 H2 (.ref p) p vs as → rest D (σ.set i (some (.ref p))) H2) : tSeq (tAsg te (gName i)) rest D σ H :=
  e G (.refl G) as hm H s _ fun p vs G2 H2 x h0 hg hh hz hp => k p vs G2 H2 x h0 ⟨rfl, hg, hh, hz, hp⟩
noncomputable def pushO {α : Type} (as : List α) (a : α) : Option (List α) := if as.length < sizeLine then some (as ++ [a]) else none
theorem sv_append {as' : List α} (hσ : σ[i]? = some (some v)) (o : Own K G H v p vs as) (e : EV K te σ G m) (hm : m = some a) (hp : pushO as a = some as') (s : Same G H)
    (k : ∀ G2 H2 w, Ext G H G2 H2 → Own K G2 (upd H2 p (.lst (vs ++ [w]))) v p (vs ++ [w]) as' → rest D σ (upd H2 p (.lst (vs ++ [w])))) : tSeq (tDrop (tBM K "list" rAppend (tVar i) (tCons te tNil))) rest D σ H := by
  obtain ⟨hl, rfl⟩ := ite_some hp
  have hlen := Paired.length o.p
  obtain ⟨rfl, og, oh, oz, op⟩ := o
  refine ⟨_, hσ, .inl ⟨rfl, _, SqL.of oh⟩, ?_⟩
  refine e.run hm s fun w G2 H2 x r => ?_
  refine ⟨p, vs, w, rfl, rfl, x.hh _ _ oh, by omega, ?_⟩
  refine k G2 H2 w x ⟨rfl, x.no p og (by rw [oh]; exact fun z => nomatch z), upd_same, ?_, Paired.app (Paired.imp' (fun _ _ r => Rp.mono x.gg r) op) (.cons r .nil)⟩
  rw [List.length_append, List.length_singleton]
  omega
structure TupK (H H' : Hp) : Prop where
  rd : ∀ b xs, Rd H b (.tup xs) → Rd H' b (.tup xs)
  eq : ∀ b xs, H b = some (.tup xs) → H' b = some (.tup xs)
class Imm (α : Type) [Rp α] : Prop where
  im : ∀ {K : PySem.W.Frag} {H H' : Hp} {v : V} {a : α}, TupK H H' → Rp.rel K H v a → Rp.rel K H' v a
noncomputable instance imInt : Imm Int := ⟨fun _ h => h⟩
noncomputable instance imBool : Imm Bool := ⟨fun _ h => h⟩
noncomputable instance imStr : Imm Str := ⟨fun _ h => h⟩
noncomputable instance imUnit : Imm Unit := ⟨fun _ h => h⟩
theorem SqT.im {H H' : Hp} {t : Addr} {xs : List V} (f : TupK H H') (h : SqT K H t xs) : SqT K H' t xs := by
  rcases h with h | h
  · exact .inl (f.rd _ _ h)
  · exact .inr h
noncomputable instance imPair {α β : Type} [Rp α] [Rp β] [Imm α] [Imm β] : Imm (α × β) := ⟨fun f ⟨t, a, b, e, h, r1, r2⟩ => ⟨t, a, b, e, h.im f, Imm.im f r1, Imm.im f r2⟩⟩
noncomputable instance imTp {α : Type} [Rp α] [Imm α] : Imm (Tp α) := ⟨fun f ⟨t, xs, e, h, z, p⟩ => ⟨t, xs, e, h.im f, z, Paired.imp' (fun _ _ r => Imm.im f r) p⟩⟩
noncomputable instance imOpt {α : Type} [Rp α] [Imm α] : Imm (Option α) := ⟨fun {K H H' v a} f h => by cases a with | none => exact h | some a => exact Imm.im (α := α) f h⟩
noncomputable def del (G : Hp) (p : Addr) : Hp := fun b => if b = p then none else G b
theorem del_ne {G : Hp} {p b : Addr} (h : b ≠ p) : del G p b = G b := by unfold del; rw [if_neg h]
theorem del_same {G : Hp} {p : Addr} : del G p p = none := by unfold del; rw [if_pos rfl]
theorem Ext.del {ho : HO} {G2 H2 : Hp} (hg : G p = none) (x : Ext (upd G p ho) H G2 H2) : Ext G H (L2.del G2 p) H2 :=
  ⟨fun b o e => by
    have hb : b ≠ p := ne_of_none e hg
    rw [del_ne hb]
    exact x.gg b o (by rw [upd_ne hb]; exact e), fun b o e => by
    by_cases hb : b = p
    · subst hb
      rw [del_same] at e
      cases e
    · rw [del_ne hb] at e
      exact x.gh b o e, x.hh, fun b h1 h2 => by
    by_cases hb : b = p
    · subst hb
      exact del_same
    · rw [del_ne hb]
      exact x.no b (by rw [upd_ne hb]; exact h1) h2⟩
theorem Imm.del {β : Type} [Rp β] [Imm β] {G2 : Hp} {w : V} {c : β} {ys : List V} (h : G2 p = some (.lst ys)) (r : Rp.rel K G2 w c) : Rp.rel K (L2.del G2 p) w c :=
  Imm.im ⟨fun b xs e => by
    have hb : b ≠ p := fun z => by
      subst z
      rcases e with e | ⟨o, e⟩ <;> (rw [h] at e; cases e)
    rcases e with e | ⟨o, e⟩
    · exact .inl (by rw [del_ne hb]; exact e)
    · exact .inr ⟨o, by rw [del_ne hb]; exact e⟩, fun b xs e => by
    have hb : b ≠ p := fun z => by
      subst z
      rw [h] at e
      cases e
    rw [del_ne hb]
    exact e⟩ r
theorem EV.runB {β : Type} [Rp β] [Imm β] {mb : Option β} {b : β} {Q : VK} (o : Own K G H v p vs as) (e : EV K te σ (upd G p (.lst vs)) mb) (hm : mb = some b) (s : Same G H) (k : ∀ w G2 H2, Ext G H G2 H2 → Rp.rel K G2 w b → Q w H2) : te σ H Q :=
  e.run hm (o.same s) fun w G2 H2 x r => k w (del G2 p) H2 (x.del o.g) (Imm.del (x.gg _ _ upd_same) r)
theorem TV.runB {mb : Option Bool} {b : Bool} {Q : Bool → Hp → Prop} (o : Own K G H v p vs as) (e : TV tt σ (upd G p (.lst vs)) mb) (hm : mb = some b) (s : Same G H) (k : ∀ G2 H2, Ext G H G2 H2 → Q b H2) : tt σ H Q :=
  e.run hm (o.same s) fun G2 H2 x => k (del G2 p) H2 (x.del o.g)
end
end L2
set_option Elab.async false
set_option linter.all false
set_option maxRecDepth 100000
set_option maxHeartbeats 4000000
namespace L2
open PySem PySem.Spec PyProof.Rows
section
variable {K : PySem.W.Frag} {σ : St} {G : Hp}
theorem ev_def1 {ρ A0 : Type} [Rp ρ] [Rp A0] {t0 : TE} {m0 : Option A0} {m : A0 × Unit → Option ρ} (e0 : EV K t0 σ G m0) : EV K (tCall (spM K m) [] E0 (tCons t0 tNil)) σ G (m0.bind fun a0 => m (a0, ())) := by
  intro G1 s1 c hc H sH Q k
  obtain ⟨a0, ha0, hc⟩ := Option.bind_eq_some_iff.mp hc
  refine e0 G1 s1 a0 ha0 H sH _ fun v0 G2 H2 x0 r0 => ?_
  have y0 := x0
  exact ⟨G2, _, c, y0.gh, ⟨v0, _, rfl, r0, rfl⟩, hc, fun v G9 H9 x9 r9 => k v G9 H9 (y0.trans x9) r9⟩
theorem ev_def2 {ρ A0 A1 : Type} [Rp ρ] [Rp A0] [Rp A1] {t0 t1 : TE} {m0 : Option A0} {m1 : Option A1} {m : A0 × A1 × Unit → Option ρ} (e0 : EV K t0 σ G m0) (e1 : EV K t1 σ G m1) : EV K (tCall (spM K m) [] E0 (tCons t0 (tCons t1 tNil))) σ G (m0.bind fun a0 => m1.bind fun a1 => m (a0, a1, ())) := by
  intro G1 s1 c hc H sH Q k
  obtain ⟨a0, ha0, hc⟩ := Option.bind_eq_some_iff.mp hc
  obtain ⟨a1, ha1, hc⟩ := Option.bind_eq_some_iff.mp hc
  refine e0 G1 s1 a0 ha0 H sH _ fun v0 G2 H2 x0 r0 => ?_
  have y0 := x0
  refine e1 G2 (s1.trans y0.gg) a1 ha1 H2 y0.gh _ fun v1 G3 H3 x1 r1 => ?_
  have y1 := y0.trans x1
  exact ⟨G3, _, c, y1.gh, ⟨v0, _, rfl, (Rp.mono x1.gg r0), ⟨v1, _, rfl, r1, rfl⟩⟩, hc, fun v G9 H9 x9 r9 => k v G9 H9 (y1.trans x9) r9⟩
section
variable {ta tb : TE} {a b : Bool} {tt tu : TT} {mb : Option Bool}
theorem TV.of {m m' : Option Bool} (e : TV tt σ G m) (h : m = m') : TV tt σ G m' := h ▸ e
theorem tv_andP (ea : TV tt σ G (some a)) (eb : TV tu σ G (some b)) : TV (tAnd tt tu) σ G (some (a && b)) := (tv_and ea eb).of (by cases a <;> rfl)
theorem tv_orP (ea : TV tt σ G (some a)) (eb : TV tu σ G (some b)) : TV (tOr tt tu) σ G (some (a || b)) := (tv_or ea eb).of (by cases a <;> rfl)
theorem TruV.mono {G H : Hp} {v : V} {k : Bool} (s : Same G H) (h : TruV K v G k) : TruV K v H k := by
  cases v with
  | ref p =>
    rcases h with ⟨xs, hx, e⟩ | ⟨xs, hx, e⟩ | ⟨kvs, hx, e⟩
    · exact .inl ⟨xs, s.seq hx, e⟩
    · exact .inr (.inl ⟨xs, s.tup hx, e⟩)
    · exact .inr (.inr ⟨kvs, s _ _ hx, e⟩)
  | _ => exact h
theorem tv_b {mb : Option Bool} (ea : EV K ta σ G mb) : TV (fun σ H Q => ta σ H fun x H' => ∃ k, TruV K x H' k ∧ Q k H') σ G mb := by
  have h := tv_tru (K := K) (f := fun (a : Bool) => a) (fun {G v a} (r : Rp.rel K G v a) => by cases r; exact rfl) (fun s => TruV.mono s) ea
  refine h.of ?_
  cases mb <;> rfl
end
theorem cT {α : Type} {A B : Option α} {r : Option α} (h : cond true A B = r) : A = r := h
theorem cF {α : Type} {A B : Option α} {r : Option α} (h : cond false A B = r) : B = r := h
theorem sv_turn {i : Nat} {x : V} {σ : St} {H : Hp} {tb : TS} {D : Ends} (h : tb D (σ.set i (some x)) H) : gName i x σ H fun σ2 H2 => tb D σ2 H2 := h
end
end L2
set_option Elab.async false
set_option linter.all false
set_option maxRecDepth 100000
set_option maxHeartbeats 4000000
namespace L2
open PySem PySem.Spec PyProof.Rows
section
variable {K : PySem.W.Frag} {σ : St} {G H : Hp} {α β γ : Type} [Rp α] [Rp β] [Rp γ] {ta tb te : TE} {ia ib : Option Int} {c : Int} {rest t u : TS} {D : Ends} {i j : Nat} {tt : TT}
theorem ev_mulR (ea : EV K ta σ G ia) (hc : -(2 ^ 64) < c ∧ c < 2 ^ 64 := by decide) : EV K (tOp (rMul K) ta (tC (.int c))) σ G (ia.bind fun a => some (a * c)) := by
  have h := ev_mul ea (ev_i (K := K) (σ := σ) (G := G) (i := c))
  have e : (ia.bind fun a => (some c).bind fun b => mulO a b) = ia.bind fun a => some (a * c) := by
    congr 1; funext a
    show mulO a c = _
    unfold mulO
    rw [if_pos (.inr hc)]
  exact h.of e
theorem ev_mulL (eb : EV K tb σ G ib) (hc : -(2 ^ 64) < c ∧ c < 2 ^ 64 := by decide) : EV K (tOp (rMul K) (tC (.int c)) tb) σ G (ib.bind fun b => some (c * b)) := by
  have h := ev_mul (ev_i (K := K) (σ := σ) (G := G) (i := c)) eb
  have e : ((some c).bind fun a => ib.bind fun b => mulO a b) = ib.bind fun b => some (c * b) := by
    show (ib.bind fun b => mulO c b) = _
    congr 1; funext b
    unfold mulO
    rw [if_pos (.inl hc)]
  exact h.of e
theorem ev_modR (ea : EV K ta σ G ia) (hc : 0 < c := by decide) : EV K (tOp (rI (fun _ j => 0 < j) fun i j => .int (i % j)) ta (tC (.int c))) σ G (ia.bind fun a => some (a % c)) := by
  have h := ev_mod ea (ev_i (K := K) (σ := σ) (G := G) (i := c))
  have e : (ia.bind fun a => (some c).bind fun b => modO a b) = ia.bind fun a => some (a % c) := by
    congr 1; funext a
    show modO a c = _
    unfold modO
    rw [if_pos hc]
  exact h.of e
theorem ev_modC (ea : EV K ta σ G ia) (eb : EV K tb σ G (some c)) (hc : 0 < c) : EV K (tOp (rI (fun _ j => 0 < j) fun i j => .int (i % j)) ta tb) σ G (ia.bind fun a => some (a % c)) := by
  have h := ev_mod ea eb
  have e : (ia.bind fun a => (some c).bind fun b => modO a b) = ia.bind fun a => some (a % c) := by
    congr 1; funext a
    show modO a c = _
    unfold modO
    rw [if_pos hc]
  exact h.of e
theorem ev_divR (ea : EV K ta σ G ia) (hc : 0 < c ∧ c < 1073741824 := by decide) : EV K (tOp (rI CDiv fun i j => .int (i / j)) ta (tC (.int c))) σ G (ia.bind fun a => some (a / c)) := by
  have h := ev_div ea (ev_i (K := K) (σ := σ) (G := G) (i := c))
  have e : (ia.bind fun a => (some c).bind fun b => divO a b) = ia.bind fun a => some (a / c) := by
    congr 1; funext a
    show divO a c = _
    unfold divO
    rw [if_pos (show CDiv a c from hc)]
  exact h.of e
structure Scr where
  l : List Int
noncomputable instance rpScr : Rp Scr := ⟨fun K H v a => ∃ l, v = .ref l ∧ SqL K H l (a.l.map V.int), fun s ⟨l, e, h⟩ => ⟨l, e, s.seq h⟩⟩
theorem ev_lenX {ma : Option Scr} (ea : EV K ta σ G ma) : EV K (tCB (rLen K) (tCons ta tNil)) σ G (ma.bind fun a => some (a.l.length : Int)) := by
  intro G1 s1 c hc H sH Q k
  obtain ⟨a, ha, hc⟩ := Option.bind_eq_some_iff.mp hc
  cases hc
  refine ea G1 s1 a ha H sH _ fun v G2 H2 x2 r2 => ?_
  obtain ⟨l, rfl, h⟩ := r2
  exact ⟨_, .inl (x2.gh.seq h), by rw [List.length_map]; exact k _ _ _ x2 rfl⟩
theorem pairedI {H : Hp} : ∀ ns : List Int, Paired (Rp.rel K H) (ns.map V.int) ns
  | [] => .nil
  | _ :: r => .cons rfl (pairedI r)
theorem ev_atX {ma : Option Scr} (ea : EV K ta σ G ma) (eb : EV K tb σ G ib) : EV K (tOp (rAt K) ta tb) σ G (ma.bind fun a => ib.bind fun i => atI a.l i) :=
  ev_bin (fun s ra rb e Q k => by
    obtain ⟨l, rfl, h⟩ := ra; cases rb
    obtain ⟨v, hv, r⟩ := paired_atI (pairedI (K := K) _) e
    exact .inl ⟨_, v, s.seq h, hv, k _ _ _ (.refl s) r⟩) ea eb
theorem sv_setB {a : α} {m : Option α} [Imm α] {v : V} {p : Addr} {vs : List V} {as : List β} (o : Own K G H v p vs as) (e : EV K te σ (upd G p (.lst vs)) m) (hm : m = some a) (s : Same G H) (k : ∀ v G2 H2, Ext G H G2 H2 → Rp.rel K G2 v a → rest D (σ.set i (some v)) H2) :
    tSeq (tAsg te (gName i)) rest D σ H := EV.runB o e hm s k
theorem sv_ifB {b : Bool} {m : Option Bool} {v : V} {p : Addr} {vs : List V} {as : List β} (o : Own K G H v p vs as) (e : TV tt σ (upd G p (.lst vs)) m) (hm : m = some b) (s : Same G H) (k : ∀ G2 H2, Ext G H G2 H2 → if b = true then t { D with nx := rest D } σ H2 else u { D with nx := rest D } σ H2) :
    tSeq (tIfS tt t u) rest D σ H := TV.runB o e hm s k
end
end L2
set_option Elab.async false
set_option linter.all false
set_option maxRecDepth 100000
set_option maxHeartbeats 4000000
namespace L2
open PySem PySem.Spec PyProof.Rows
section
variable {K : PySem.W.Frag} {σ : St} {G H G1 H1 G0 H0 : Hp} {α β γ : Type} [Rp α] [Rp β] [Rp γ] {ta tb te ti : TE} {tt : TT} {t u rest : TS} {D : Ends} {i j : Nat} {v : V} {p q r : Addr} {vs ws : List V} {a : List α × List β}
noncomputable def spL (K : PySem.W.Frag) {A : Type} [RpA A] {α : Type} [Rp α] (m : A → Option (List α)) : Sp := fun vs H Q _ =>
  ∃ G a r, Same G H ∧ RpA.rel K G vs a ∧ m a = some r ∧ ∀ p vs G2 H2, Ext G H G2 H2 → H p = none → Own K G2 H2 (.ref p) p vs r → Q (.ref p) H2
theorem spL_len {A : Type} [RpA A] {m : A → Option (List α)} {vs : List V} {H : Hp} {Q : VK} {E : XK} (h : spL K m vs H Q E) : vs.length = RpA.n A := by
  obtain ⟨G, a, r, _, h, _⟩ := h
  exact RpA.len h
theorem fv_def1 {A0 : Type} [Rp A0] {t0 : TE} {m0 : Option A0} {m : A0 × Unit → Option (List α)} (e0 : EV K t0 σ G m0) : FV K (tCall (spL K m) [] E0 (tCons t0 tNil)) σ G (m0.bind fun a0 => m (a0, ())) := by
  intro G1 s1 c hc H sH Q k
  obtain ⟨a0, ha0, hc⟩ := Option.bind_eq_some_iff.mp hc
  refine e0 G1 s1 a0 ha0 H sH _ fun v0 G2 H2 x0 r0 => ?_
  have y0 := x0
  exact ⟨G2, _, c, y0.gh, ⟨v0, _, rfl, r0, rfl⟩, hc, fun p vs G9 H9 x9 h1 o => k p vs G9 H9 (y0.trans x9) (y0.hh.free h1) o.g o.h o.z o.p⟩
theorem sv_retL {as : List α} {m : Option (List α)} (e : FV K te σ G m) (hm : m = some as) (s : Same G H) (k : ∀ p vs G2 H2, Ext G H G2 H2 → H p = none → Own K G2 H2 (.ref p) p vs as → D.rt (.ref p) H2) : tSeq (tRet te) rest D σ H :=
  e G (.refl G) as hm H s _ fun p vs G2 H2 x h0 hg hh hz hp => k p vs G2 H2 x h0 ⟨rfl, hg, hh, hz, hp⟩
end
end L2
set_option Elab.async false
set_option linter.all false
set_option maxRecDepth 100000
set_option maxHeartbeats 4000000
namespace L2
open PySem PySem.Spec PyProof.Rows
section
variable {X : Cx} {K : PySem.W.Frag}
theorem op_plusK (h : X.K = K) : OpR X (binaryOp .Add) (rPlus K) := h ▸ op_plus
theorem op_mulK (h : X.K = K) : OpR X (binaryOp .Mult) (rMul K) := h ▸ op_mulU
theorem sl_anyK (h : X.K = K) : SlR X (rSl K) := h ▸ sl_any
theorem ix_anyK (h : X.K = K) : IxR X (rAt K) := h ▸ ix_any
theorem call_lenK (h : X.K = K) : CallR X (.builtin "len") (rLen K) := h ▸ call_lenU
theorem call_instK (h : X.K = K) : CallR X (.builtin "isinstance") (rInst K) := h ▸ call_inst
theorem mt_joinK (h : X.K = K) : MtR X "str.join" (rJoin K) := h ▸ mt_join
theorem op_eqK {j : Nat} (h : X.K = K) (α : Type) [Rp α] [DecidableEq α] [RpE α] (hr : Room j X.A) (hk : RpE.k α ≤ 10) : OpR X (compareOp .Eq) (rEqD K α) := h ▸ op_eqM α hr hk
theorem op_neK {j : Nat} (h : X.K = K) (α : Type) [Rp α] [DecidableEq α] [RpE α] (hr : Room j X.A) (hk : RpE.k α ≤ 10) : OpR X (compareOp .NotEq) (rNeD K α) := h ▸ op_neM α hr hk
theorem call_listK (h : X.K = K) : CallR X (.type "list") (fun xs H Q => ∃ p ys, xs = [.ref p] ∧ (SqL K H p ys ∨ SqT K H p ys) ∧ ∀ l, H l = none → Q (.ref l) (upd H l (.lst ys))) := h ▸ call_list_of
theorem pi_anyK {tg l : Expr} {tl : TE} (h : X.K = K) (hl : PE X l tl) : PI X tg l (iAny K tl) := h ▸ pi_any hl
theorem pt_truthK {a : Expr} {ta : TE} (h : X.K = K) (ha : PE X a ta) (he : ∀ whole, isTrue a X.env whole = (do let v ← whole; standAt a.pos; holding [v] (truthy v))) :
    PT X a (fun σ H Q => ta σ H fun x H' => ∃ k, TruV K x H' k ∧ Q k H') := h ▸ pt_truth ha he
section
variable {o e : Expr} {es : List Expr} {to : TE} {t : TA} {name : Str} {apos cpos : Pos} {T id : String} {r : V → List V → Hp → VK → Prop}
theorem pe_bmK (h : X.K = K) (pa : PlainAttrs T) (slot : Slot T name id) (hty : typeOf (.builtin id) = pure (.type "method_descriptor")) (hm : MtR X id r) (ho : PE X o to) (ha : PA X (e :: es) t)
    (hbase : attributeBase o name X.env (eval o X.env) = eval o X.env := by rfl)
    (hfew : ((backTo cpos (starEach (e :: es) X.env)).all (fun x => !x.1) && (backToKw cpos (keywordEach [] X.env)).all (fun x => x.1.isSome)
      && decide ((e :: es).length + ([] : List Keyword).length + (if ([] : List Keyword).isEmpty then 0 else 1) < 30)) = true := by rfl)
    (hline : (apos.endLine == cpos.line) = true := by rfl) (hs : starEach (e :: es) X.env = (false, eval e X.env) :: starEach es X.env := by rfl) (hplain : (backTo cpos (starEach es X.env)).any (·.1) = false := by rfl) :
    PE X (.Call (.Attribute o name apos) (e :: es) [] cpos) (tBM K T r to t) := h ▸ pe_bm pa slot hty hm ho ha hbase hfew hline hs hplain
end
end
theorem sv_nx {f : St → Hp → Prop} {rt : VK} {bk ct : St → Hp → Prop} {σ : St} {H : Hp} (h : f σ H) : ({ nx := f, rt := rt, bk := bk, ct := ct } : Ends).nx σ H := h
end L2
set_option Elab.async false
set_option linter.all false
set_option maxRecDepth 100000
set_option maxHeartbeats 4000000
namespace L2
open PySem PySem.Spec PyProof.Rows
section
variable {K : PySem.W.Frag} {σ : St} {G H : Hp} {α β γ : Type} [Rp α] [Rp β] [Rp γ] {ta tb te : TE} {rest t u : TS} {D : Ends} {i j : Nat}
end
end L2
set_option Elab.async false
set_option linter.all false
set_option maxRecDepth 100000
set_option maxHeartbeats 4000000
namespace L2
open PySem PySem.Spec PyProof.Rows
inductive D where
  | non
  | bl (b : Bool)
  | int (i : Int)
  | str (x : Str)
  | lst (l : List D)
  | tup (l : List D)
  | dic
mutual
inductive RelD (K : PySem.W.Frag) (H : Hp) : V → D → Prop where
  | non : RelD K H .non .non
  | bl (b : Bool) : RelD K H (.bl b) (.bl b)
  | int (i : Int) : RelD K H (.int i) (.int i)
  | str (x : Str) (z : x.length ≤ sizeLine) : RelD K H (.str x) (.str x)
  | lst {a : Addr} {xs : List V} {ds : List D} (h : Rd H a (.lst xs)) (z : xs.length ≤ sizeLine) (r : RelDs K H xs ds) : RelD K H (.ref a) (.lst ds)
  | tup {a : Addr} {xs : List V} {ds : List D} (h : SqT K H a xs) (z : xs.length ≤ sizeLine) (r : RelDs K H xs ds) : RelD K H (.ref a) (.tup ds)
  | dK {a : Addr} {kvs : List (Key × V)} (h : Rd H a (.dK kvs)) : RelD K H (.ref a) .dic
inductive RelDs (K : PySem.W.Frag) (H : Hp) : List V → List D → Prop where
  | nil : RelDs K H [] []
  | cons {x : V} {d : D} {xs : List V} {ds : List D} (h : RelD K H x d) (t : RelDs K H xs ds) : RelDs K H (x :: xs) (d :: ds)
end
mutual
theorem RelD.mono {K : PySem.W.Frag} {H H' : Hp} (s : Same H H') : ∀ {v : V} {d : D}, RelD K H v d → RelD K H' v d
  | _, _, .non => .non
  | _, _, .bl b => .bl b
  | _, _, .int i => .int i
  | _, _, .str x z => .str x z
  | _, _, .lst h z r => .lst (s.rd h) z (RelDs.mono s r)
  | _, _, .tup h z r => .tup (s.tup h) z (RelDs.mono s r)
  | _, _, .dK h => .dK (s.rd h)
theorem RelDs.mono {K : PySem.W.Frag} {H H' : Hp} (s : Same H H') : ∀ {v : List V} {d : List D}, RelDs K H v d → RelDs K H' v d
  | _, _, .nil => .nil
  | _, _, .cons h t => .cons (RelD.mono s h) (RelDs.mono s t)
end
noncomputable instance rpD : Rp D := ⟨RelD, fun s h => RelD.mono s h⟩
theorem of_relDs {K : PySem.W.Frag} {H : Hp} : ∀ {xs : List V} {ds : List D}, RelDs K H xs ds → Paired (Rp.rel K H) xs ds
  | _, _, .nil => .nil
  | _, _, .cons h t => .cons h (of_relDs t)
class ToD (α : Type) [Rp α] where
  to : α → D
  rel : ∀ {K : PySem.W.Frag} {H : Hp} {v : V} {a : α}, Rp.rel K H v a → RelD K H v (to a)
theorem toDs {K : PySem.W.Frag} {H : Hp} {α : Type} [Rp α] [ToD α] : ∀ {xs : List V} {as : List α}, Paired (Rp.rel K H) xs as → Paired (Rp.rel (α := D) K H) xs (as.map ToD.to)
  | _, _, .nil => .nil
  | _, _, .cons h t => .cons (ToD.rel h) (toDs t)
noncomputable instance tdInt : ToD Int := ⟨.int, fun h => by cases h; exact .int _⟩
noncomputable instance tdBool : ToD Bool := ⟨.bl, fun h => by cases h; exact .bl _⟩
noncomputable instance tdStr : ToD Str := ⟨.str, fun h => by obtain ⟨rfl, z⟩ := h; exact .str _ z⟩
noncomputable instance tdUnit : ToD Unit := ⟨fun _ => .non, fun h => by cases h; exact .non⟩
noncomputable def dk : D → String
  | .non => "NoneType"
  | .bl _ => "bool"
  | .int _ => "int"
  | .str _ => "str"
  | .lst _ => "list"
  | .tup _ => "tuple"
  | .dic => "dict"
section
variable {K : PySem.W.Frag} {σ : St} {G : Hp} {α β : Type} [Rp α] [Rp β] {ta tb te : TE} {md : Option D}
theorem RelD.ty {H : Hp} {v : V} {d : D} (r : RelD K H v d) : TyS K H v (dk d) := by
  cases r with
  | non => exact .non
  | bl => exact .bl _
  | int => exact .int _
  | str => exact .str _
  | lst h => exact .lst (.inl h)
  | tup h => exact .tup h
  | dK h => exact .dK h
theorem RelDs.len {H : Hp} {xs : List V} {ds : List D} (r : RelDs K H xs ds) : xs.length = ds.length := Paired.length (of_relDs r)
end
end L2
set_option Elab.async false
set_option linter.all false
set_option maxRecDepth 100000
set_option maxHeartbeats 4000000
namespace L2
open PySem PySem.Spec PyProof.Rows
section
variable {K : PySem.W.Frag} {σ : St} {G : Hp} {ta : TE}
end
end L2
set_option Elab.async false
set_option linter.all false
set_option maxRecDepth 100000
set_option maxHeartbeats 4000000
namespace L2
open PySem PySem.Spec PyProof.Rows
noncomputable def OK {α : Type} (m : Option α) (P : α → Prop) : Prop := ∃ a, m = some a ∧ P a
section
variable {α β S ρ : Type} {m : Option α} {P Q : α → Prop} {R : β → Prop}
theorem OK.mono (h : OK m P) (k : ∀ a, P a → Q a) : OK m Q := let ⟨a, e, p⟩ := h; ⟨a, e, k a p⟩
theorem ok_some {a : α} (h : P a) : OK (some a) P := ⟨a, rfl, h⟩
theorem ok_bind {f : α → Option β} (h : OK m fun a => OK (f a) R) : OK (m.bind f) R := by
  obtain ⟨a, rfl, h⟩ := h
  exact h
theorem ok_bC {f : α → Option β} (a : α) (e : m = some a) (h : OK (f a) R) : OK (m.bind f) R := ok_bind ⟨a, e, h⟩
theorem ok_by {f : α → Option β} (h : OK m P) (k : ∀ a, P a → OK (f a) R) : OK (m.bind f) R := ok_bind (h.mono k)
theorem ok_cond {b : Bool} {x y : Option α} (h1 : b = true → OK x P) (h2 : b = false → OK y P) : OK (cond b x y) P := by
  cases b with
  | true => exact h1 rfl
  | false => exact h2 rfl
theorem OK.eq {a : α} (h : OK m fun b => b = a) : m = some a := by obtain ⟨b, e, rfl⟩ := h; exact e
theorem OK.of {a : α} (e : m = some a) (h : P a) : OK m P := ⟨a, e, h⟩
theorem bindS {α β : Type} (a : α) (f : α → Option β) : (some a).bind f = f a := by rw [Option.bind_some]
theorem bind_self {α : Type} (m : Option α) : (m.bind fun x => some x) = m := by cases m <;> rfl
theorem ok_mod {a b : Int} {P : Int → Prop} (hb : 0 < b) (h : P (a % b)) : OK (modO a b) P := ⟨_, if_pos hb, h⟩
theorem ok_mul {a b : Int} {P : Int → Prop} (hb : CMul a b) (h : P (a * b)) : OK (mulO a b) P := ⟨_, if_pos hb, h⟩
theorem ok_catL {a b : List α} {P : List α → Prop} (hb : a.length + b.length ≤ sizeLine) (h : P (a ++ b)) : OK (catL a b) P := ⟨_, if_pos hb, h⟩
theorem ok_push {a : List α} {b : α} {P : List α → Prop} (hb : a.length < sizeLine) (h : P (a ++ [b])) : OK (pushO a b) P := ⟨_, if_pos hb, h⟩
theorem ok_rng {lo hi : Int} {n : Nat} {P : List Int → Prop} (hn : hi - lo = n) (h0 : -1000000000 ≤ lo ∧ lo ≤ 1000000000) (h1 : n ≤ sizeLine) (h : P ((List.range n).map fun (i : Nat) => lo + (i : Int))) : OK (rngO lo hi) P := by
  have hs : sizeLine = 16777216 := sizeLine_eq
  have e : (hi - lo).toNat = n := by omega
  refine ⟨_, if_pos ⟨⟨by omega, by omega, by omega, by omega⟩, by omega⟩, ?_⟩
  rw [e]
  exact h
theorem ok_at {a : List α} {i : Int} (h0 : 0 ≤ i) (h1 : i < a.length) (h : ∀ x, a[i.toNat]? = some x → P x) : OK (atI a i) P := by
  obtain ⟨k, rfl⟩ := Int.eq_ofNat_of_zero_le h0
  have hk : k < a.length := by omega
  refine ⟨a[k], atI_nat (by simp [hk]), h _ ?_⟩
  rw [Int.toNat_natCast]
  simp [hk]
theorem ok_for {f : α → S → Option (Fl S ρ)} {as : List α} {s0 : S} (I : Nat → S → Prop) (J : S → Prop) (R : ρ → Prop) {P : Fl S ρ → Prop} (h0 : I 0 s0)
    (hs : ∀ (i : Nat) a s, as[i]? = some a → I i s → OK (f a s) fun fl => match fl with | .nx s' => I (i + 1) s' | .bk s' => J s' | .rt r => R r)
    (hn : ∀ s, I as.length s → P (.nx s)) (hj : ∀ s, J s → P (.nx s)) (hr : ∀ r, R r → P (.rt r)) : OK (forO f as s0) P := by
  have key : ∀ (n i : Nat) (s : S), n = as.length - i → i ≤ as.length → I i s → OK (forO f (as.drop i) s) P := by
    intro n
    induction n with
    | zero =>
      intro i s hn0 hi hI
      have e : i = as.length := by omega
      subst e
      rw [List.drop_length]
      exact ok_some (hn s hI)
    | succ n ih =>
      intro i s hn0 hi hI
      have hlt : i < as.length := by omega
      rw [List.drop_eq_getElem_cons hlt]
      obtain ⟨fl, e, h⟩ := hs i as[i] s (by simp [hlt]) hI
      show OK ((f as[i] s).bind _) P
      rw [e]
      cases fl with
      | nx s' => exact ih (i + 1) s' (by omega) hlt h
      | bk s' => exact ok_some (hj s' h)
      | rt r => exact ok_some (hr r h)
  exact key as.length 0 s0 (by omega) (Nat.zero_le _) h0
theorem ok_for' {f : α → S → Option (Fl S ρ)} {as : List α} {s0 : S} (I : Nat → S → Prop) {P : Fl S ρ → Prop} (h0 : I 0 s0)
    (hs : ∀ (i : Nat) a s, as[i]? = some a → I i s → OK (f a s) fun fl => ∃ s', fl = .nx s' ∧ I (i + 1) s') (hn : ∀ s, I as.length s → P (.nx s)) : OK (forO f as s0) P :=
  ok_for I (fun _ => False) (fun _ => False) h0 (fun i a s ha hI => (hs i a s ha hI).mono fun fl ⟨s', e, h⟩ => by subst e; exact h) hn (fun _ h => h.elim) fun _ h => h.elim
theorem ok_map {f : α → Option β} {g : α → β} {P : List β → Prop} : ∀ {as : List α}, (∀ a ∈ as, f a = some (g a)) → P (as.map g) → OK (mapO f as) P := by
  intro as
  have key : ∀ as : List α, (∀ a ∈ as, f a = some (g a)) → mapO f as = some (as.map g) := by
    intro as
    induction as with
    | nil => intro _; rfl
    | cons a r ih =>
      intro h
      show ((f a).bind fun y => (mapO f r).bind fun ys => some (y :: ys)) = _
      rw [h a List.mem_cons_self, ih fun x hx => h x (List.mem_cons_of_mem _ hx)]
      rfl
  exact fun h p => ⟨_, key as h, p⟩
theorem ok_comp {fc : α → Option Bool} {fe : α → Option β} {c : α → Bool} {g : α → β} {P : List β → Prop} {as : List α} (hc : ∀ a ∈ as, fc a = some (c a)) (he : ∀ a ∈ as, c a = true → fe a = some (g a)) (p : P ((as.filter c).map g)) : OK (compO fc fe as) P := by
  have key : ∀ as : List α, (∀ a ∈ as, fc a = some (c a)) → (∀ a ∈ as, c a = true → fe a = some (g a)) → compO fc fe as = some ((as.filter c).map g) := by
    intro as
    induction as with
    | nil => intro _ _; rfl
    | cons a r ih =>
      intro h1 h2
      have i := ih (fun x hx => h1 x (List.mem_cons_of_mem _ hx)) fun x hx => h2 x (List.mem_cons_of_mem _ hx)
      show ((fc a).bind fun b => cond b ((fe a).bind fun y => (compO fc fe r).bind fun ys => some (y :: ys)) (compO fc fe r)) = _
      rw [h1 a List.mem_cons_self, i]
      cases hb : c a with
      | true =>
        show ((fe a).bind fun y => _) = _
        rw [h2 a List.mem_cons_self hb]
        simp [hb]
      | false => simp [hb]
  exact ⟨_, key as hc he, p⟩
end
end L2
set_option Elab.async false
set_option linter.all false
set_option maxRecDepth 100000
namespace Lasso
variable {α β : Type}
end Lasso
set_option Elab.async false
set_option linter.all false
set_option maxRecDepth 100000
namespace Lasso
variable {α : Type} [DecidableEq α]
end Lasso
set_option Elab.async false
set_option linter.all false
set_option maxRecDepth 100000
set_option maxHeartbeats 4000000
namespace L2
open PySem PySem.Spec PyProof.Rows
section
variable {K : PySem.W.Frag} {σ : St} {G H G0 H0 Gx G1 H1 G2 H2 : Hp} {α β : Type} [Rp α] [Rp β] {ta tb tc te : TE} {tt : TT} {t u rest : TS} {D : Ends} {i j : Nat} {v : V}
end
end L2
set_option Elab.async false
set_option linter.all false
set_option maxRecDepth 100000
set_option maxHeartbeats 4000000
namespace L2
open PySem PySem.Spec PyProof.Rows
noncomputable def popO {α : Type} : List α → Option (α × List α)
  | [] => none
  | [a] => some (a, [])
  | a :: b :: r => (popO (b :: r)).bind fun p => some (p.1, a :: p.2)
theorem Paired.last {α β : Type} {R : α → β → Prop} : ∀ {vs : List α} {as : List β} {a : β} {as' : List β}, Paired R vs as → popO as = some (a, as') → ∃ w, vs[vs.length - 1]? = some w ∧ R w a ∧ Paired R vs.dropLast as'
  | _, _, _, _, .nil, hp => by cases hp
  | _, _, _, _, .cons h .nil, hp => by
    cases hp
    exact ⟨_, rfl, h, .nil⟩
  | _, _, _, _, .cons h (.cons h2 t), hp => by
    obtain ⟨q, hq, e⟩ := Option.bind_eq_some_iff.mp hp
    cases e
    obtain ⟨w, hw, r, pr⟩ := Paired.last (.cons h2 t) hq
    exact ⟨w, by simpa using hw, r, .cons h pr⟩
section
variable {X : Cx} {K : PySem.W.Frag} {o : Expr} {to : TE} {name : Str} {apos cpos : Pos} {T id : String} {r : V → List V → Hp → VK → Prop}
end
section
variable {K : PySem.W.Frag} {σ : St} {G H G1 H1 G0 H0 : Hp} {α β : Type} [Rp α] [Rp β] {te ti : TE} {tt : TT} {t u rest : TS} {D : Ends} {i j : Nat} {a : α} {m : Option α} {as : List α} {v : V} {p q : Addr} {vs : List V}
end
end L2
set_option Elab.async false
set_option linter.all false
set_option maxRecDepth 100000
set_option maxHeartbeats 4000000
namespace L2
open PySem PySem.Spec PyProof.Rows
inductive Nt where
  | txt (x : Str)
  | tup (l : List Nt)
  | int (n : Int)
mutual
noncomputable def Nt.dec : (a b : Nt) → Decidable (a = b)
  | .txt x, .txt y => if h : x = y then .isTrue (by rw [h]) else .isFalse fun e => h (by cases e; rfl)
  | .txt _, .tup _ => .isFalse fun e => by cases e
  | .tup _, .txt _ => .isFalse fun e => by cases e
  | .int m, .int n => if h : m = n then .isTrue (by rw [h]) else .isFalse fun e => h (by cases e; rfl)
  | .int _, .txt _ => .isFalse fun e => by cases e
  | .int _, .tup _ => .isFalse fun e => by cases e
  | .txt _, .int _ => .isFalse fun e => by cases e
  | .tup _, .int _ => .isFalse fun e => by cases e
  | .tup l, .tup m => match Nt.decs l m with
    | .isTrue h => .isTrue (by rw [h])
    | .isFalse h => .isFalse fun e => h (by cases e; rfl)
noncomputable def Nt.decs : (l m : List Nt) → Decidable (l = m)
  | [], [] => .isTrue rfl
  | [], _ :: _ => .isFalse fun e => by cases e
  | _ :: _, [] => .isFalse fun e => by cases e
  | a :: l, b :: m => match Nt.dec a b with
    | .isFalse h => .isFalse fun e => h (by cases e; rfl)
    | .isTrue h => match Nt.decs l m with
      | .isTrue h2 => .isTrue (by rw [h, h2])
      | .isFalse h2 => .isFalse fun e => h2 (by cases e; rfl)
end
noncomputable instance ntDec : DecidableEq Nt := Nt.dec
mutual
noncomputable def Nt.dep : Nt → Nat
  | .txt _ => 0
  | .int _ => 0
  | .tup l => Nt.deps l + 1
noncomputable def Nt.deps : List Nt → Nat
  | [] => 0
  | a :: l => max (Nt.dep a) (Nt.deps l)
end
mutual
inductive RelN (K : PySem.W.Frag) (H : Hp) : V → Nt → Prop where
  | txt (x : Str) (z : x.length ≤ sizeLine) : RelN K H (.str x) (.txt x)
  | int (n : Int) : RelN K H (.int n) (.int n)
  | tup {a : Addr} {xs : List V} {ds : List Nt} (h : SqT K H a xs) (z : xs.length ≤ sizeLine) (r : RelNs K H xs ds) (l : ds[0]? = some (.txt "lamp") → H a = some (.tup xs)) : RelN K H (.ref a) (.tup ds)
inductive RelNs (K : PySem.W.Frag) (H : Hp) : List V → List Nt → Prop where
  | nil : RelNs K H [] []
  | cons {x : V} {d : Nt} {xs : List V} {ds : List Nt} (h : RelN K H x d) (t : RelNs K H xs ds) : RelNs K H (x :: xs) (d :: ds)
end
mutual
theorem RelN.mono {K : PySem.W.Frag} {H H' : Hp} (s : Same H H') : ∀ {v : V} {d : Nt}, RelN K H v d → RelN K H' v d
  | _, _, .txt x z => .txt x z
  | _, _, .int n => .int n
  | _, _, .tup h z r l => .tup (s.tup h) z (RelNs.mono s r) fun e => s _ _ (l e)
theorem RelNs.mono {K : PySem.W.Frag} {H H' : Hp} (s : Same H H') : ∀ {v : List V} {d : List Nt}, RelNs K H v d → RelNs K H' v d
  | _, _, .nil => .nil
  | _, _, .cons h t => .cons (RelN.mono s h) (RelNs.mono s t)
end
noncomputable instance rpN : Rp Nt := ⟨RelN, fun s h => RelN.mono s h⟩
theorem SqT.keep {K : PySem.W.Frag} {H H' : Hp} {a : Addr} {xs : List V} (s : TupK H H') (h : SqT K H a xs) : SqT K H' a xs := by
  rcases h with h | h
  · exact .inl (s.rd _ _ h)
  · exact .inr h
mutual
theorem RelN.keep {K : PySem.W.Frag} {H H' : Hp} (s : TupK H H') : ∀ {v : V} {d : Nt}, RelN K H v d → RelN K H' v d
  | _, _, .txt x z => .txt x z
  | _, _, .int n => .int n
  | _, _, .tup h z r l => .tup (SqT.keep s h) z (RelNs.keep s r) fun e => s.eq _ _ (l e)
theorem RelNs.keep {K : PySem.W.Frag} {H H' : Hp} (s : TupK H H') : ∀ {v : List V} {d : List Nt}, RelNs K H v d → RelNs K H' v d
  | _, _, .nil => .nil
  | _, _, .cons h t => .cons (RelN.keep s h) (RelNs.keep s t)
end
noncomputable instance imN : Imm Nt := ⟨fun s h => RelN.keep s h⟩
noncomputable def isTxt : Hp → V → Nt → Prop := fun _ v a => (∃ x, v = .str x ∧ a = .txt x) ∨ ∃ n, v = .int n ∧ a = .int n
noncomputable def isU (K : PySem.W.Frag) (R : Hp → V → Nt → Prop) : Hp → V → Nt → Prop := fun H v a => isTxt H v a ∨ ∃ t xs l, v = .ref t ∧ SqT K H t xs ∧ a = .tup l ∧ Paired (R H) xs l
section
variable {K : PySem.W.Frag} {σ : St} {G : Hp} {ta tb te : TE} {m1 m2 md : Option Nt}
end
end L2
set_option Elab.async false
set_option linter.all false
set_option maxRecDepth 100000
set_option maxHeartbeats 4000000
namespace L2
open PySem PySem.Spec PyProof.Rows
section
variable {X : Cx} {K : PySem.W.Frag}
theorem sl_tupK (h : X.K = K) : SlR X (rSlT K) := h ▸ sl_tup
end
section
variable {K : PySem.W.Frag} {σ : St} {G : Hp} {α : Type} [Rp α] {ta tb tc te : TE} {t1 t2 : TO} {ia ib ic : Option Int} {m1 m2 : Option (Option Int)}
noncomputable def cutT? {α : Type} (l : List α) (lo hi : Option Int) : Option (Tp α) := if ¬ (HT.sIx l.length 0 lo = 0 ∧ HT.sIx l.length l.length hi = l.length) then some ⟨cutA l lo hi⟩ else none
theorem ev_sliceT {ma : Option (Tp α)} (ea : EV K ta σ G ma) (e1 : OV t1 σ G m1) (e2 : OV t2 σ G m2) : EV K (tSl (rSlT K) ta t1 t2) σ G (ma.bind fun a => m1.bind fun lo => m2.bind fun hi => cutT? a.l lo hi) := by
  intro G1 s1 c hc H sH Q k
  obtain ⟨a, ha, hc⟩ := Option.bind_eq_some_iff.mp hc
  obtain ⟨lo, hlo, hc⟩ := Option.bind_eq_some_iff.mp hc
  obtain ⟨hi, hhi, hc⟩ := Option.bind_eq_some_iff.mp hc
  obtain ⟨hw, rfl⟩ := ite_some hc
  refine ea G1 s1 a ha H sH _ fun v G2 H2 x2 r2 => ?_
  refine e1 G2 (s1.trans x2.gg) lo hlo H2 x2.gh _ fun G3 H3 x3 => ?_
  refine e2 G3 (s1.trans (x2.trans x3).gg) hi hhi H3 x3.gh _ fun G4 H4 x4 => ?_
  obtain ⟨l, xs, rfl, h, z, p⟩ := Rp.mono (x3.trans x4).gg r2
  have hl := Paired.length p
  refine ⟨l, xs, rfl, x4.gh.tup h, by rw [hl]; exact hw, fun q hq => ?_⟩
  have hg : G4 q = none := x4.gh.free hq
  refine k _ (upd G4 q (.tup (cutV xs lo hi))) _ (((x2.trans x3).trans x4).trans ⟨Same.new hg, fun b o e => ?_, Same.new hq, fun b h1 h2 => ?_⟩) ⟨q, _, rfl, .inl (.inl upd_same), Nat.le_trans (cutV_length _ _ _) z, Paired.imp' (fun _ _ r => Rp.mono (Same.new hg) r) (Paired.cut p lo hi)⟩
  · by_cases hb : b = q
    · subst hb
      rw [upd_same] at e ⊢
      exact e
    · rw [upd_ne hb] at e ⊢
      exact x4.gh b o e
  · have hb : b ≠ q := fun e => h2 (by rw [e]; exact hq)
    rw [upd_ne hb]
    exact h1
class Flat (α : Type) [Rp α] [DecidableEq α] : Prop where
  fl : ∀ {K : PySem.W.Frag} {H : Hp} {v : V} {a : α}, Rp.rel K H v a → flatV v = true
  eq : ∀ {K : PySem.W.Frag} {H H' : Hp} {v u : V} {a b : α}, Rp.rel K H v a → Rp.rel K H' u b → eqV v u = decide (a = b)
noncomputable instance flInt : Flat Int := ⟨fun h => by cases h; rfl, fun h h' => by cases h; cases h'; exact dec_beq _ _⟩
noncomputable instance flStr : Flat Str := ⟨fun h => by obtain ⟨rfl, _⟩ := h; rfl, fun h h' => by obtain ⟨rfl, _⟩ := h; obtain ⟨rfl, _⟩ := h'; exact dec_beq _ _⟩
noncomputable instance flBool : Flat Bool := ⟨fun h => by cases h; rfl, fun h h' => by cases h; cases h'; exact dec_beq _ _⟩
end
mutual
noncomputable def Nt.toD : Nt → D
  | .txt x => .str x
  | .int n => .int n
  | .tup l => .tup (Nt.toDs l)
noncomputable def Nt.toDs : List Nt → List D
  | [] => []
  | a :: l => Nt.toD a :: Nt.toDs l
end
mutual
theorem RelN.toD {K : PySem.W.Frag} {H : Hp} : ∀ {v : V} {a : Nt}, RelN K H v a → RelD K H v a.toD
  | _, _, .txt x z => by unfold Nt.toD; exact .str x z
  | _, _, .int n => by unfold Nt.toD; exact .int n
  | _, _, .tup h z r _ => by unfold Nt.toD; exact .tup h z (RelNs.toD r)
theorem RelNs.toD {K : PySem.W.Frag} {H : Hp} : ∀ {xs : List V} {l : List Nt}, RelNs K H xs l → RelDs K H xs (Nt.toDs l)
  | _, _, .nil => by unfold Nt.toDs; exact .nil
  | _, _, .cons h t => by unfold Nt.toDs; exact .cons (RelN.toD h) (RelNs.toD t)
end
noncomputable instance tdN : ToD Nt := ⟨Nt.toD, fun h => RelN.toD h⟩
end L2
set_option Elab.async false
set_option linter.all false
set_option maxRecDepth 100000
set_option maxHeartbeats 4000000
namespace L2
open PySem PySem.Spec PyProof.Rows
section
variable {K : PySem.W.Frag} {σ : St} {G H G1 H1 G0 H0 : Hp} {α β γ : Type} [Rp α] [Rp β] [Rp γ] {te ti : TE} {tt : TT} {t u rest : TS} {D : Ends} {i j : Nat} {as : List α} {bs : List β} {v w : V} {p q : Addr} {vs ws : List V}
theorem Own.over {o : HO} (h : Own K G H v p vs as) (ne : p ≠ q) (hq : G q = none) : Own K (upd G q o) H v p vs as :=
  ⟨h.v, by rw [upd_ne ne]; exact h.g, h.h, h.z, Paired.imp' (fun _ _ r => Rp.mono (Same.new hq) r) h.p⟩
end
end L2
set_option Elab.async false
set_option linter.all false
set_option maxRecDepth 100000
set_option maxHeartbeats 4000000
namespace L2
open PySem PySem.Spec PyProof.Rows
section
variable {K : PySem.W.Frag} {σ : St} {G H G1 H1 G2 H2 G0 H0 : Hp} {α β γ δ : Type} [Rp α] [Rp β] [Rp γ] [Rp δ] {te ta tb ti : TE} {t : TA} {tt : TT} {rest : TS} {D : Ends} {i j n : Nat} {as as' : List α} {v w : V} {p q : Addr} {vs ws : List V}
noncomputable def cutX (x : Scr) (lo hi : Option Int) : Option (List Int) := if x.l.length ≤ sizeLine then some (cutA x.l lo hi) else none
theorem paired_scr (H : Hp) : ∀ l : List Int, Paired (Rp.rel K H) (l.map V.int) l
  | [] => .nil
  | a :: r => .cons rfl (paired_scr H r)
theorem fv_sliceX {t1 t2 : TO} {m1 m2 : Option (Option Int)} {ma : Option Scr} (ea : EV K ta σ G ma) (e1 : OV t1 σ G m1) (e2 : OV t2 σ G m2) : FV K (tSl (rSl K) ta t1 t2) σ G (ma.bind fun a => m1.bind fun lo => m2.bind fun hi => cutX a lo hi) := by
  intro G1 s1 c hc H sH Q k
  obtain ⟨a, ha, hc⟩ := Option.bind_eq_some_iff.mp hc
  obtain ⟨lo, hlo, hc⟩ := Option.bind_eq_some_iff.mp hc
  obtain ⟨hi, hhi, hc⟩ := Option.bind_eq_some_iff.mp hc
  obtain ⟨z, rfl⟩ := ite_some hc
  refine ea G1 s1 a ha H sH _ fun v G2 H2 x2 r2 => ?_
  refine e1 G2 (s1.trans x2.gg) lo hlo H2 x2.gh _ fun G3 H3 x3 => ?_
  refine e2 G3 (s1.trans (x2.trans x3).gg) hi hhi H3 x3.gh _ fun G4 H4 x4 => ?_
  obtain ⟨l, rfl, h⟩ := Rp.mono (x3.trans x4).gg r2
  exact ⟨_, x4.gh.seq h, fv_of x4.gh (Nat.le_trans (cutV_length _ _ _) (by rw [List.length_map]; exact z)) (Paired.cut (paired_scr G4 a.l) lo hi) (FV.mono ((x2.trans x3).trans x4) k)⟩
end
end L2
set_option Elab.async false
set_option linter.all false
set_option maxRecDepth 100000
set_option maxHeartbeats 4000000
namespace L2
open PySem PySem.Spec PyProof.Rows
section
variable {K : PySem.W.Frag} {σ : St} {G : Hp} {ta : TE}
end
end L2
set_option Elab.async false
set_option linter.all false
set_option maxRecDepth 100000
set_option maxHeartbeats 4000000
namespace L2
open PySem PySem.Spec PyProof.Rows
theorem Inv.turned2 {X : Cx} {pins : List (Addr × Obj)} {σ : List (Option V)} {H : Hp} {s : Shared} {h' : Heap} {t' : Nat} {e it : Addr} (I : Inv X pins σ H s) (k : ∀ b o, b ≠ e → b ≠ it → s.heap.get? b = some o → h'.get? b = some o) (fe : FpOk X pins H e) (fi : FpOk X pins H it) :
    Inv X pins σ H { s with heap := h', toks := t' } := by
  have nit : ∀ b u, H b = some u → b ≠ e ∧ b ≠ it := fun b u q => ⟨fun z => (by rw [z, fe.1] at q; cases q), fun z => (by rw [z, fi.1] at q; cases q)⟩
  have nm : ∀ b, b ∉ [e, it] → b ≠ e ∧ b ≠ it := fun b hb => ⟨fun z => hb (by simp [z]), fun z => hb (by simp [z])⟩
  refine I.step (g' := s.gens) (d' := s.drawn) (ch := [e, it]) (fun b hb => ?_) (fun b o _ _ hc q _ => k b o (nm b hc).1 (nm b hc).2 q) (fun b o _ _ hc q _ => ⟨o.slots, k b o (nm b hc).1 (nm b hc).2 q⟩) (fun _ _ _ _ n => n)
    (fun b o hc q => ⟨o, k b o (nm b hc).1 (nm b hc).2 q⟩) (fun _ _ q => q) (fun _ _ _ q => q) (fun b ps q => ⟨#[], by rw [q]; simp⟩) (fun m hm => ?_) (fun b u q => ?_) I.bare
  · simp only [List.mem_cons, List.not_mem_nil, or_false] at hb
    rcases hb with z | z
    · subst z
      exact ⟨fe.2.2.2.1, fe.2.1, fe.2.2.2.2.1, fe.2.2.2.2.2⟩
    · subst z
      exact ⟨fi.2.2.2.1, fi.2.1, fi.2.2.2.2.1, fi.2.2.2.2.2⟩
  · obtain ⟨o, es, ep, ho, r⟩ := hm
    exact ⟨o, es, ep, k _ o (Ne.symm fe.2.1) (Ne.symm fi.2.1) ho, r⟩
  · refine (I.hok b u q).stay (fun c v hc z => ?_) (fun _ z => z) fun _ _ z => z
    rcases hc with y | y
    · rw [y] at z ⊢
      exact k b v (nit b u q).1 (nit b u q).2 z
    · exact k c v (nit c _ y).1 (nit c _ y).2 z
noncomputable def Itn (K : PySem.W.Frag) (a : Addr) : It :=
  ⟨fun i H => ∃ xs x, SqL K H a xs ∧ xs[i]? = some x, fun i H x H' => ∃ t v, x = .ref t ∧ H t = none ∧ H' = upd H t (.tup [.int i, v]) ∧ ∀ xs, SqL K H a xs → xs[i]? = some v, fun i H => ∃ xs, SqL K H a xs ∧ xs.length ≤ i⟩
theorem turn_enum {P : Program} {w : World} {K : PySem.W.Frag} {elts : List Expr} {x1 : _} {pos : Pos} (a e it : Addr) (ne : e ≠ it) : Turn P w K (.Tuple elts x1 pos) (Itn K a) [e, it] e (fun i h => (∃ old, IsEnum h e it i old) ∧ h.IsListIter it a i) where
  mem := by simp
  obj := fun i h st b hb => by
    obtain ⟨⟨old, he⟩, o, q, c, d⟩ := st
    simp only [List.mem_cons, List.not_mem_nil, or_false] at hb
    rcases hb with z | z
    · subst z
      exact ⟨_, he, fun v z => by
        have z' : Data.fields _ = Data.cell v := z
        cases z'⟩
    · subst z
      exact ⟨o, q, fun v z => by rw [d] at z; cases z⟩
  keep := fun i h h' st k => ⟨let ⟨old, he⟩ := st.1; ⟨old, k e (by simp) _ he⟩, st.2.at fun o q => k it (by simp) o q⟩
  item := by
    intro X hP hw hK hc i pins s σ H E I hf st hg
    subst hP hw hK
    obtain ⟨⟨old, he⟩, hit⟩ := st
    obtain ⟨xs, x, hq, hx⟩ := hg
    obtain ⟨its, rv, p, hz⟩ := I.list hq
    obtain ⟨u, hu, ru⟩ := rv.get hx
    have fe := hf e (by simp)
    have fi := hf it (by simp)
    refine wpAny_pyNext_enum_item he hit p.isList (x := u) (by simpa using hu) ne fun h1 heo hit1 ht1 hz1 hk1 => ?_
    refine ⟨_, rfl, wpAny_letOwnedTupleGo_enum heo fun h2 he2 hs2 => ?_⟩
    replace hs2 : Heap.SameBut e h1 h2 := hs2
    have heH : e < s.heap.objs.size := Heap.lt_size he
    have hiH : it < s.heap.objs.size := by obtain ⟨o, q, _⟩ := hit; exact Heap.lt_size q
    have ht2 : h2.get? s.heap.objs.size = some { cls := .type "tuple", data := .seq #[.int i s.toks, u] } := (hs2.2 _ (Nat.ne_of_gt heH)).trans ht1
    have I1 : Inv X pins σ (upd H s.heap.objs.size (.tup [.int i, x])) { s with heap := s.heap.push { cls := .type "tuple", data := .seq #[.int i s.toks, u] }, toks := s.toks } :=
      I.laid (fun b ob q => Heap.get?_push_of_some _ q) (Nat.le_refl _) ⟨by show 2 ≤ sizeLine; decide, [.int i s.toks, u], .cons ⟨_, rfl⟩ (.cons ru .nil), IsTup.new _ _⟩
    have fre : ∀ b, b ∈ [e, it] → b ≠ s.heap.objs.size := fun b hb => by
      simp only [List.mem_cons, List.not_mem_nil, or_false] at hb
      rcases hb with z | z
      · rw [z]; exact Nat.ne_of_lt heH
      · rw [z]; exact Nat.ne_of_lt hiH
    have fn : ∀ b ∈ [e, it], FpOk X pins (upd H s.heap.objs.size (.tup [.int i, x])) b := fun b hb => ⟨by rw [upd_ne (fre b hb)]; exact (hf b hb).1, (hf b hb).2⟩
    have I2 : Inv X pins σ (upd H s.heap.objs.size (.tup [.int i, x])) { s with heap := h2, toks := s.toks + 1 } := I1.turned2 (h' := h2) (t' := s.toks + 1) (fun b o h1' h2' q => by
      replace q : (s.heap.push { cls := .type "tuple", data := .seq #[.int i s.toks, u] }).get? b = some o := q
      by_cases hb : b = s.heap.objs.size
      · rw [hb] at q ⊢
        rw [Heap.get?_push_size _ rfl] at q
        rw [ht2]
        exact q
      · have q' : s.heap.get? b = some o := by rw [← q]; exact (Heap.get?_push_ne _ _ _ hb).symm
        exact (hs2.2 _ h1').trans (hk1 b o h1' h2' q')) (fn e (by simp)) (fn it (by simp))
    refine ⟨.ref s.heap.objs.size, _, I2, rfl, ⟨_, x, rfl, I.hok.fresh (Nat.le_refl _), rfl, fun ys hy => by rw [I.list_inj hy hq]; exact hx⟩, ⟨⟨u, ?_⟩, ?_⟩, fun b hb => (fn b hb).1⟩
    · have : ((i + 1 : Nat) : Int) = (i : Int) + 1 := by omega
      rw [this]
      exact he2
    · exact hit1.extBut hs2.extBut (Ne.symm ne)
  done := by
    intro X hP hw hK hc i pins s σ H E I hf st hg
    subst hP hw hK
    obtain ⟨⟨old, he⟩, hit⟩ := st
    obtain ⟨xs, hq, hx⟩ := hg
    obtain ⟨its, rv, p, hz⟩ := I.list hq
    obtain ⟨f0, f1, f2, f3, f4, f5⟩ := hf it (by simp)
    have hl := rv.length
    exact wpAny_pyNext_enum_end (I.ok.hd hc) he hit p.isList (by simp; omega) fun h' eb => ⟨rfl, I.turned (t' := s.toks) (fun b o hb q => eb b o hb q) f0 f1 f3 f4 f5⟩
  self := fun _ _ _ _ _ st h => by
    obtain ⟨⟨old, he⟩, _⟩ := st
    exact wpAny_pyIter_enum he h
noncomputable def iEnum (K : PySem.W.Frag) (ta : TA) : TI := fun σ H R => ta σ H fun vs H1 => ∃ a, vs = [.ref a] ∧ (∃ xs, SqL K H1 a xs) ∧ R (Itn K a) H1
theorem pi_enum {X : Cx} {K : PySem.W.Frag} {elts : List Expr} {x1 : _} {tp : Pos} {a : Expr} {ta : TA} {p pos : Pos} (hK : X.K = K) (hg : Gl X "enumerate") (hm : X.mg "enumerate" = none) (ha : PA X [a] ta) (hs : starEach [a] X.env = [(false, eval a X.env)] := by rfl) :
    PI X (.Tuple elts x1 tp) (.Call (.Name "enumerate" p) [a] [] pos) (iEnum K ta) := by
  subst hK
  intro pins s σ H R I h
  refine Call_ (ld_blt I hg hm boot_enumerate (PyProof.Rows.callWith_type1 (thn (ha pos pins s σ H _ I h) fun us s1 ⟨vs, H1, I1, r1, q1⟩ => ?_) hs rfl))
  obtain ⟨l, e, ⟨xs, hq⟩, q⟩ := q1
  subst e
  cases r1 with
  | cons r rr =>
    cases rr
    cases r
    obtain ⟨its, rv, pl, hz⟩ := I1.list hq
    refine call_enumerate_list pl.isList fun h' he hit hz' hk => ?_
    refine wpAny_pyIter_enum (s := { s1 with heap := h' }) he ?_
    have I2 : Inv X pins σ H1 { s1 with heap := h' } := I1.kept (t' := s1.toks) hk
    refine ⟨s1.heap.objs.size + 1, [s1.heap.objs.size + 1, s1.heap.objs.size], _, _, H1, rfl, I2, turn_enum l (s1.heap.objs.size + 1) s1.heap.objs.size (Nat.ne_of_gt (Nat.lt_succ_self _)), ⟨⟨_, he⟩, hit⟩, fun b hb => ?_, q⟩
    simp only [List.mem_cons, List.not_mem_nil, or_false] at hb
    rcases hb with z | z
    · subst z
      exact I1.fpOk (by omega) (I1.hok.fresh (by omega))
    · subst z
      exact I1.fpOk (Nat.le_refl _) (I1.hok.fresh (Nat.le_refl _))
noncomputable def enumI {α : Type} : Nat → List α → List (Int × α)
  | _, [] => []
  | n, a :: l => ((n : Int), a) :: enumI (n + 1) l
theorem enumI_get {α : Type} : ∀ (l : List α) (n i : Nat), (enumI n l)[i]? = (l[i]?).map fun a => (((n + i : Nat) : Int), a)
  | [], n, i => by simp [enumI]
  | a :: l, n, 0 => by simp [enumI]
  | a :: l, n, i + 1 => by
    show (enumI (n + 1) l)[i]? = _
    rw [enumI_get l (n + 1) i]
    have : n + 1 + i = n + (i + 1) := by omega
    rw [this]
    rfl
theorem enumI_length {α : Type} : ∀ (l : List α) (n : Nat), (enumI n l).length = l.length
  | [], _ => rfl
  | a :: l, n => by show (enumI (n + 1) l).length + 1 = _; rw [enumI_length l (n + 1)]; rfl
section
variable {K : PySem.W.Frag} {σ : St} {G H : Hp} {α β γ : Type} [Rp α] [Rp β] [Rp γ] {ta tb te : TE} {rest : TS} {D : Ends} {i j : Nat}
end
end L2
set_option Elab.async false
set_option linter.all false
set_option maxRecDepth 100000
set_option maxHeartbeats 4000000
namespace L2
open PySem PySem.Spec PyProof.Rows
noncomputable def isTps (K : PySem.W.Frag) {α : Type} (R : Hp → V → α → Prop) : Hp → V → Tp α → Prop := fun H x a => ∃ t xs, x = .ref t ∧ SqT K H t xs ∧ Paired (R H) xs a.l
theorem tp_dec {α : Type} [DecidableEq α] {as bs : Tp α} {n m : Nat} (hn : n = as.l.length) (hm : m = bs.l.length) : ((List.range (min n m)).all (fun j => decide (as.l[j]? = bs.l[j]?)) && n == m) = decide (as = bs) := by
  obtain ⟨as⟩ := as
  obtain ⟨bs⟩ := bs
  subst hn
  subst hm
  by_cases hl : as.length = bs.length
  · show ((List.range (min as.length bs.length)).all (fun j => decide (as[j]? = bs[j]?)) && as.length == bs.length) = _
    rw [← hl, Nat.min_self, beq_self_eq_true, Bool.and_true, all_dec as bs hl]
    exact decide_eq_decide.mpr ⟨fun e => by rw [e], fun e => by cases e; rfl⟩
  · have h : (as.length == bs.length) = false := by simpa using hl
    have ne : Tp.mk as ≠ Tp.mk bs := fun e => by
      cases e
      exact hl rfl
    show (_ && as.length == bs.length) = _
    rw [h, Bool.and_false, decide_eq_false ne]
theorem eqTp {K : PySem.W.Frag} {k : Nat} {α : Type} [DecidableEq α] {R : Hp → V → α → Prop} (E : EqTy K k R) : EqTy K (k + 1) (isTps K R) := by
  have fn : ∀ {X : Cx} {pins : List (Addr × Obj)} {σ : St} {H : Hp} {s : Shared} {x : V} {a b : Tp α}, X.K = K → Inv X pins σ H s → isTps K R H x a → isTps K R H x b → a = b := by
    intro X pins σ H s x a b hK I ha hb
    obtain ⟨a⟩ := a
    obtain ⟨b⟩ := b
    obtain ⟨l, xs, rfl, h1, p1⟩ := ha
    obtain ⟨l', ys, e, h2, p2⟩ := hb
    cases e
    subst hK
    have := I.tuple_inj h1 h2
    subst this
    exact congrArg Tp.mk (paired_fn (F := R H) (fun _ _ _ p q => E.fn rfl I p q) p1 p2)
  have rc : ∀ {X : Cx} {pins : List (Addr × Obj)} {σ : St} {H : Hp} {s : Shared} {x y : V} {u v : Value} {a b : Tp α} (A : Around), X.K = K → Inv X pins σ H s → A.units + (k + 1) < cLine → RelV x u → RelV y v → isTps K R H x a → isTps K R H y b →
      SeqAt.RcAt A s u v (decide (a = b)) ∧ SeqAt.RcNeAt A s u v (!decide (a = b)) := by
    intro X pins σ H s x y u v a b A hK I hu r1 r2 ha hb
    obtain ⟨l, xs, rfl, h1, p1⟩ := ha
    obtain ⟨l', ys, rfl, h2, p2⟩ := hb
    cases r1; cases r2
    subst hK
    obtain ⟨us, rx, plx, _⟩ := I.tuple h1
    obtain ⟨vs, ry, ply, _⟩ := I.tuple h2
    have lx := rx.length
    have ly := ry.length
    have lpx := Paired.length p1
    have lpy := Paired.length p2
    have it := items_eqAt E rfl I hu rx ry p1 p2
    rw [← tp_dec (as := a) (bs := b) (n := us.toArray.size) (m := vs.toArray.size) (by simp; omega) (by simp; omega)]
    exact ⟨SeqAt.RcAt.tuples plx ply (by omega) it, SeqAt.RcNeAt.tuples plx ply (by omega) it⟩
  refine ⟨fn, ?_, rc⟩
  intro X pins σ H s x y u v a b A hK I hu r1 r2 ha hb
  have h := (rc A hK I hu r1 r2 ha hb).1
  obtain ⟨l, xs, rfl, h1, p1⟩ := id ha
  obtain ⟨l', ys, rfl, h2, p2⟩ := id hb
  cases r1; cases r2
  by_cases e : l = l'
  · subst e
    have : a = b := fn hK I ha hb
    rw [decide_eq_true this]
    exact SeqAt.EqAt.same _
  · exact SeqAt.EqAt.of_refs e h
class NoN (α : Type) [Rp α] : Prop where
  no_non : ∀ {K : PySem.W.Frag} {H : Hp} {x : V} {a : α}, Rp.rel K H x a → x ≠ .non
  ne : ∀ {K : PySem.W.Frag} {X : Cx} {pins : List (Addr × Obj)} {σ : St} {H : Hp} {s : Shared} {x : V} {u : Value} {a : α} (A : Around), X.K = K → Inv X pins σ H s → A.units < cLine → RelV x u → Rp.rel K H x a →
    (SeqAt.EqAt A s .none u false ∧ SeqAt.RcAt A s .none u false ∧ SeqAt.RcNeAt A s .none u true) ∧ SeqAt.EqAt A s u .none false ∧ SeqAt.RcAt A s u .none false ∧ SeqAt.RcNeAt A s u .none true
noncomputable instance nnInt : NoN Int := ⟨fun h => (by cases h; exact fun z => (nomatch z)), fun A hK I hu r h => by
  cases h
  obtain ⟨t, rfl⟩ := r
  exact ⟨⟨SeqAt.EqAt.none_int _ _, SeqAt.RcAt.none_int _ _, SeqAt.RcNeAt.none_int _ _⟩, SeqAt.EqAt.int_none _ _, SeqAt.RcAt.int_none _ _, SeqAt.RcNeAt.int_none _ _⟩⟩
noncomputable instance nnPair {α β : Type} [Rp α] [Rp β] : NoN (α × β) := ⟨fun h => (by obtain ⟨_, _, _, rfl, _⟩ := h; exact fun z => (nomatch z)), fun A hK I hu r h => by
  obtain ⟨t, x, y, rfl, h, _⟩ := h
  cases r
  subst hK
  obtain ⟨us, rx, pl, _⟩ := I.tuple h
  exact ⟨⟨SeqAt.EqAt.none_tuple pl hu, SeqAt.RcAt.none_tuple pl hu, SeqAt.RcNeAt.none_tuple pl hu⟩, SeqAt.EqAt.tuple_none pl hu, SeqAt.RcAt.tuple_none pl hu, SeqAt.RcNeAt.tuple_none pl hu⟩⟩
class Fix (α : Type) [Rp α] : Prop where
  fx : ∀ {K : PySem.W.Frag} {G G' : Hp} {v : V} {a : α}, Rp.rel K G v a → Rp.rel K G' v a
noncomputable instance fxInt : Fix Int := ⟨fun h => h⟩
noncomputable instance fxBool : Fix Bool := ⟨fun h => h⟩
noncomputable instance fxStr : Fix Str := ⟨fun h => h⟩
section
variable {K : PySem.W.Frag} {σ : St} {G Gx H G1 H1 G0 H0 : Hp} {α β γ : Type} [Rp α] [Rp β] [Rp γ] {te ta tb tc ti : TE} {tt : TT} {t u rest : TS} {D : Ends} {i j : Nat} {as : List α} {bs : List β} {v w : V} {p q : Addr} {vs ws : List V}
variable {a : T3 α (List β) γ}
end
end L2
set_option Elab.async false
set_option linter.all false
set_option maxRecDepth 100000
set_option maxHeartbeats 4000000
namespace L2
open PySem PySem.Spec PyProof.Rows
section
variable {K : PySem.W.Frag} {σ : St} {G : Hp} {ta tb : TE}
end
end L2
set_option Elab.async false
set_option linter.all false
set_option maxRecDepth 100000
set_option maxHeartbeats 4000000
namespace L3
open PySem
section
variable {prog : Program} {w : World} {A : Around} {E : Value → Shared → Prop} {s : Shared}
end
section
variable {prog : Program} {w : World} {A : Around} {E : Value → Shared → Prop} {s : Shared}
end
end L3
set_option Elab.async false
set_option linter.all false
set_option maxRecDepth 100000
set_option maxHeartbeats 4000000
namespace L2
open PySem PySem.Spec PyProof.Rows
section
variable {K : PySem.W.Frag} {σ : St} {G : Hp} {ta tb : TE} {ia ib : Option Int}
end
end L2
set_option Elab.async false
set_option linter.all false
set_option maxRecDepth 100000
set_option maxHeartbeats 4000000
namespace L2
open PySem PySem.Spec PyProof.Rows
noncomputable def inner2 (cap : List Nat) (σ : St) : St := none :: none :: cap.map fun i => (σ[i]?).join
noncomputable abbrev gTwo (K : PySem.W.Frag) : TG := gTup K 2 (gCons (gName 0) (gCons (gName 1) gNil))
theorem gTwo_at {K : PySem.W.Frag} {v : V} {σ : St} {H : Hp} {Q : St → Hp → Prop} (h : gTwo K v σ H Q) : gTwo K v σ H fun σ2 H2 => (∃ v0 v1, σ2 = (σ.set 0 (some v0)).set 1 (some v1)) ∧ Q σ2 H2 := by
  obtain ⟨a, xs, e, hs, hl, v0, r, e1, v1, r', e2, e3, q⟩ := h
  exact ⟨a, xs, e, hs, hl, v0, r, e1, v1, r', e2, e3, ⟨v0, v1, rfl⟩, q⟩
noncomputable def tComp2 (K : PySem.W.Frag) (cap : List Nat) (wi : TI) (tc : TT) (te : TE) : TE := fun σ H Q => wi σ H fun J H1 => ∀ p, H1 p = none →
  ∃ W : Nat → Nat → List V → Hp → Prop, (∃ m, W 0 m [] (upd H1 p (.lst []))) ∧ ∀ i m xs H2, W i m xs H2 →
    (J.stop i H2 ∧ Q (.ref p) H2) ∨ (J.go i H2 ∧ ∃ N : List V → Hp → Prop, (∀ xs' H', N xs' H' → ∃ m', m' < m ∧ W (i + 1) m' xs' H') ∧
      ∀ x H3, J.yld i H2 x H3 → gTwo K x (inner2 cap σ) H3 fun σ2 H4 => tc σ2 H4 fun b H5 => if b = true then te σ2 H5 fun v H6 => H6 p = some (.lst xs) ∧ xs.length < sizeLine ∧ N (xs ++ [v]) (upd H6 p (.lst (xs ++ [v]))) else N xs H5)
section
variable {X : Cx} {pins : List (Addr × Obj)} {σ : St}
theorem comp_start2 {scope : Scope} {x x' : Str} {cn : List Str} {cap : List Nat} {s3 : Shared} {H3 : Hp} {fp : List Addr} {h₁ : Heap} {tk : Nat} {H2 : Hp} (S : CompScope X scope) (I : Inv X pins σ H3 s3) (hc : X.calm = true) (hcap : Caps X scope cn cap)
    (f2 : ∀ b ∈ fp, FpOk X pins H2 b) (lt : ∀ b ∈ fp, b < s3.heap.objs.size) (keep : ∀ b o, s3.heap.get? b = some o → h₁.get? b = some o) (hns : h₁.Ns s3.heap.objs.size fun _ => none) :
    Inv (cxComp X (x :: x' :: cn) scope s3.heap.objs.size s3 H3 fp) [] (inner2 cap σ) H3 { s3 with heap := h₁, toks := tk } := by
  have noS : ∀ b o, X.base.get? b = some o → b < X.s₀.heap.objs.size := fun b o e => Nat.lt_of_lt_of_le (Heap.lt_size e) I.ok.bsz
  refine ⟨⟨I.ok.mod, S.kind, I.ok.glob, I.ok.blt, Nat.le_refl _, fun y z c h1 h2 => I.ok.inj y z c (clOf_sub h1) (clOf_sub h2), fun y hy => ?_, fun y c h => ?_, fun _ => I.ok.hd hc, I.ok.frames, .inl rfl, fun b hb => ⟨Nat.ne_of_lt (lt b hb), fun y c h => (f2 b hb).2.2.2.2.1 y c (clOf_sub h)⟩,
    I.bs, Nat.le_trans I.ok.bsz I.sz, fun b o e hb => ?_, fun b hb z => ?_, I.stack, I.stkFree⟩, rfl, I.bare, Un.kept keep, ⟨_, hns, fun i y v e1 e2 e3 => ?_⟩, fun y c e => ?_, I.hok.fresh (Nat.le_refl _), fun y c e => I.freeC y c (clOf_sub e), fun p hp => absurd (show p ∈ ([] : List (Addr × Obj)) from hp) (by simp), I.hok.kept keep, ?_⟩
  · have m := relabel_free S.cell hy
    obtain ⟨c, hc'⟩ := I.ok.has y (S.free _ m rfl)
    exact ⟨c, clOf_has m hc'⟩
  · cases h
  · rcases (f2 b hb).2.2.2.1 with z | z
    · exact I.ok.noex b o e z
    · exact absurd (Nat.lt_of_lt_of_le (noS b o e) z) (Nat.lt_irrefl _)
  · rcases List.mem_cons.mp (I.stkSub b z) with e | e
    · exact (f2 b hb).2.1 e
    · exact (f2 b hb).2.2.1 e
  · cases i with
    | zero =>
      have e2 : (some none : Option (Option V)) = some (some v) := e2
      cases e2
    | succ j =>
     cases j with
     | zero =>
      have e2 : (some none : Option (Option V)) = some (some v) := e2
      cases e2
     | succ j =>
      have e1 : cn[j]? = some y := e1
      obtain ⟨k, hk, hN, hkind, hfr⟩ := hcap.at e1
      have e2 : (cap.map fun i => (σ[i]?).join)[j]? = some (some v) := e2
      rw [List.getElem?_map, hk] at e2
      have e2 : (σ[k]?).join = some v := Option.some.inj e2
      have e2 : σ[k]? = some (some v) := by
        cases q : σ[k]? with
        | none => rw [q] at e2; cases e2
        | some o => rw [q] at e2; cases o with
          | none => cases e2
          | some v' => have e2 : some v' = some v := e2; rw [e2]
      obtain ⟨m, hn, hl⟩ := I.loc
      obtain ⟨u, r, l⟩ := hl k y v hN e2 (.inr hkind)
      refine ⟨u, r, ?_⟩
      rcases l with ⟨kl, _⟩ | ⟨_, c, hc', o, ho, hd⟩
      · have kl : X.env.scope.names.lookup y = some .local := kl
        rw [kl] at hkind
        rcases hkind with z | z <;> cases z
      · refine .inr ⟨?_, c, clOf_has (PySem.mem_of_lookup hfr) hc', o, keep c o ho, hd⟩
        rcases e3 with z | z
        ·
          exfalso
          have z : (relabel scope X.env).names.lookup y = some .local := z
          have hm := PySem.mem_of_lookup z
          unfold relabel at hm
          obtain ⟨⟨n, k'⟩, hp, e⟩ := List.mem_map.mp hm
          dsimp only at e
          have hl2 : (y, NameKind.local) ∈ scope.names := by
            split at e
            · cases e
            · cases e; exact hp
          have := S.names _ hl2 rfl
          rw [hfr] at this
          cases this
        · exact z
  · obtain ⟨v, o, ho, hd⟩ := I.cell y c (clOf_sub e)
    exact ⟨v, o, keep c o ho, hd⟩
  · show (inner2 cap σ).length = (x :: x' :: cn).length
    unfold inner2
    rw [List.length_cons, List.length_cons, List.length_map, hcap.len, List.length_cons, List.length_cons]
theorem comp_core2 {scope : Scope} {x x' : Str} {px px' pt pos : Pos} {k0 : Nat} {elt iter : Expr} {ifs : List Expr} {cn : List Str} {cap : List Nat} {s2 : Shared} {H2 : Hp} {it : Addr} {fp : List Addr} {tn : Nat → Heap → Prop} {J : It} {tc : TT} {te : TE} {Q : VK} {RR : Value → Addr → Result → Shared → Prop} {E : Value → Shared → Prop}
    (S : CompScope X scope) (I2 : Inv X pins σ H2 s2) (hc : X.calm = true) (hcap : Caps X scope cn cap) (hx : scope.names.lookup x = some .local) (hx' : scope.names.lookup x' = some .local) (hnd : (x :: x' :: cn).Nodup)
    (T : Turn X.prog X.w X.K (.Tuple [.Name x px, .Name x' px'] k0 pt) J fp it tn) (st2 : tn 0 s2.heap) (f2 : ∀ b ∈ fp, FpOk X pins H2 b)
    (body : ∀ (C : Addr) (s : Shared) (H : Hp) (fp : List Addr), PTs (cxComp X (x :: x' :: cn) scope C s H fp) ifs tc ∧ PE (cxComp X (x :: x' :: cn) scope C s H fp) elt te)
    (q : ∀ p, H2 p = none → ∃ W : Nat → Nat → List V → Hp → Prop, (∃ m, W 0 m [] (upd H2 p (.lst []))) ∧ ∀ i m xs H3, W i m xs H3 →
      (J.stop i H3 ∧ Q (.ref p) H3) ∨ (J.go i H3 ∧ ∃ N : List V → Hp → Prop, (∀ xs' H', N xs' H' → ∃ m', m' < m ∧ W (i + 1) m' xs' H') ∧
        ∀ v H4, J.yld i H3 v H4 → gTwo X.K v (inner2 cap σ) H4 fun σ2 H4 => tc σ2 H4 fun b H5 => if b = true then te σ2 H5 fun v H6 => H6 p = some (.lst xs) ∧ xs.length < sizeLine ∧ N (xs ++ [v]) (upd H6 p (.lst (xs ++ [v]))) else N xs H5))
    (hRR : ∀ (p C : Addr) (s3 s' : Shared) (H3 Hf : Hp) (σ' : St), Inv X pins σ H3 s3 → s3.heap.objs.size = C → Inv (cxComp X (x :: x' :: cn) scope C s3 H3 fp) [] σ' Hf s' → Q (.ref p) Hf → RR (.ref p) C (.ok .next) s') :
    wpAny (model X.prog X.w) X.A (newList []) (fun acc s₃ => wpAny (model X.prog X.w) X.A (newFunctionEnv scope X.env.globals (clOf scope X.env) [] X.env.qual none .none (some X.env)) (fun cenv s₄ =>
      codeAny (model X.prog X.w) X.A (.compStart (.ListComp elt [⟨.Tuple [.Name x px, .Name x' px'] k0 pt, iter, ifs, 0⟩] scope pos) 0 (.ref it) acc { cenv with scope := relabel scope X.env }) (RR acc cenv.locals) s₄) E s₃) E s2 := by
  refine wpAny_newObj_type (wpAny_newFunctionEnv S.cell (by intro y hy; simp at hy) (fun h₁ hns₁ hsb₁ => ?_) S.kind)
  dsimp only at hns₁ hsb₁ ⊢
  have hfr : H2 s2.heap.objs.size = none := I2.hok.fresh (Nat.le_refl _)
  obtain ⟨W, ⟨m0, w0⟩, turn⟩ := q _ hfr
  have I3 : Inv X pins σ (upd H2 s2.heap.objs.size (.lst [])) { s2 with heap := s2.heap.push { cls := .type "list", data := .seq ([] : List Value).toArray } } :=
    I2.lnew (its := []) (t' := s2.toks) .nil (Nat.zero_le _)
  generalize hs3 : ({ s2 with heap := s2.heap.push { cls := .type "list", data := .seq ([] : List Value).toArray } } : Shared) = s3 at I3
  have hs3h : s3.heap = s2.heap.push { cls := .type "list", data := .seq ([] : List Value).toArray } := by rw [← hs3]
  have hst3 : tn 0 s3.heap := T.keep _ _ _ st2 fun b hb o e => by rw [hs3h]; exact Heap.get?_push_of_some _ e
  have ltf : ∀ b ∈ fp, b < s3.heap.objs.size := fun b hb => by
    obtain ⟨o, e, _⟩ := T.obj _ _ hst3 b hb
    exact Heap.lt_size e
  have hC : (s2.heap.push { cls := .type "list", dict := none, data := .seq ([] : List Value).toArray }).objs.size = s3.heap.objs.size := by rw [hs3h]
  rw [hC] at hns₁ hsb₁ ⊢
  have keep : ∀ b o, s3.heap.get? b = some o → h₁.get? b = some o := fun b o e => by
    refine hsb₁.extBut b o (Nat.ne_of_lt (Heap.lt_size e)) (Heap.get?_push_of_some _ ?_)
    rw [hs3h] at e
    exact e
  have J4 : Inv (cxComp X (x :: x' :: cn) scope s3.heap.objs.size s3 (upd H2 s2.heap.objs.size (.lst [])) fp) [] (inner2 cap σ) (upd H2 s2.heap.objs.size (.lst [])) { s3 with heap := h₁, toks := s2.toks + ([] : List (Str × Value)).length } :=
    comp_start2 S I3 hc hcap f2 ltf keep hns₁
  have st4 : tn 0 h₁ := T.keep _ _ _ hst3 fun b hb o e => keep b o e
  have fr4 : ∀ b ∈ fp, (upd H2 s2.heap.objs.size (.lst [])) b = none := fun b hb => by
    obtain ⟨o, e, _⟩ := T.obj _ _ st2 b hb
    rw [upd_ne (Nat.ne_of_lt (Heap.lt_size e))]
    exact (f2 b hb).1
  have hst : ({ s2 with heap := h₁, toks := s2.toks + ([] : List (Str × Value)).length } : Shared) = { s3 with heap := h₁, toks := s2.toks + ([] : List (Str × Value)).length } := by rw [← hs3]
  have loop : codeAny (model X.prog X.w) X.A (.compLoop (.ListComp elt [⟨.Tuple [.Name x px, .Name x' px'] k0 pt, iter, ifs, 0⟩] scope pos) 0 (.ref it) (.ref s2.heap.objs.size) (compEnvC scope (clOf scope X.env) s3.heap.objs.size X.env))
      (RR (.ref s2.heap.objs.size) s3.heap.objs.size) { s2 with heap := h₁, toks := s2.toks + ([] : List (Str × Value)).length } := by
    rw [hst]
    generalize hX' : cxComp X (x :: x' :: cn) scope s3.heap.objs.size s3 (upd H2 s2.heap.objs.size (.lst [])) fp = X' at J4
    have hfpk : ∀ {Hc : Hp}, (∀ b ∈ fp, Hc b = none) → ∀ b ∈ fp, FpOk X' [] Hc b := fun {Hc} hn b hb => by
      subst hX'
      refine ⟨hn b hb, (J4.ok.exf b hb).1, J4.ok.exfs b hb, .inl hb, (J4.ok.exf b hb).2, fun p hp => absurd (show p ∈ ([] : List (Addr × Obj)) from hp) (by simp)⟩
    refine compLoop_any (fun n s' => ∃ i xs Hc, Inv X' [] (inner2 cap σ) Hc s' ∧ tn i s'.heap ∧ (∀ b ∈ fp, Hc b = none) ∧ W i n xs Hc) ?_ m0 ⟨0, [], _, J4, st4, fr4, w0⟩
    rintro n s5 ⟨i, xs, Hc, I5, st5, fr5, w5⟩
    have B := body s3.heap.objs.size s3 (upd H2 s2.heap.objs.size (.lst [])) fp
    rcases turn i n xs Hc w5 with ⟨stop, qn⟩ | ⟨go, N, hN, step⟩
    · subst hX'
      refine thn (T.done (cxComp X (x :: x' :: cn) scope s3.heap.objs.size s3 (upd H2 s2.heap.objs.size (.lst [])) fp) rfl rfl rfl rfl i [] s5 (inner2 cap σ) Hc (fun _ _ => False) I5 (hfpk fr5) st5 stop) fun r s6 ⟨hr, I6⟩ => ?_
      subst hr
      exact hRR _ _ s3 s6 _ Hc _ I3 rfl I6 qn
    · subst hX'
      refine thn (T.item (cxComp X (x :: x' :: cn) scope s3.heap.objs.size s3 (upd H2 s2.heap.objs.size (.lst [])) fp) rfl rfl rfl rfl i [] s5 (inner2 cap σ) Hc (fun _ _ => False) I5 (hfpk fr5) st5 go) fun r s6 ⟨u, hr, h6⟩ => ?_
      subst hr
      refine thn h6 fun _ s7 ⟨v, H7, I7, r7, y7, st7, fr7⟩ => ?_
      have I7' := I7.pinned (hfpk fr7) (T.obj _ _ st7)
      have hlook : (relabel scope X.env).names.lookup x = some .local := lookup_relabel_local hx
      have hlook' : (relabel scope X.env).names.lookup x' = some .local := lookup_relabel_local hx'
      have hg : PG (cxComp X (x :: x' :: cn) scope s3.heap.objs.size s3 (upd H2 s2.heap.objs.size (.lst [])) fp) (.Tuple [.Name x px, .Name x' px'] k0 pt) (gTwo X.K) :=
        pg_tup rfl (pgs_cons (pg_name (i := 0) hnd rfl (.inl hlook) (.inr hlook)) (pgs_cons (pg_name (i := 1) hnd rfl (.inl hlook') (.inr hlook')) pgs_nil))
      refine thn (hg _ s7 _ H7 v u _ I7' r7 (gTwo_at (step v H7 y7))) fun _ s8 ⟨σ8, H8, I8, ⟨v0, v1, e8⟩, q8⟩ => ?_
      subst e8
      have again : ∀ {s9 : Shared} {H9 : Hp} {ys : List V}, Inv (cxComp X (x :: x' :: cn) scope s3.heap.objs.size s3 (upd H2 s2.heap.objs.size (.lst [])) fp) ([] ++ pinsAt fp s7.heap) (((inner2 cap σ).set 0 (some v0)).set 1 (some v1)) H9 s9 → N ys H9 →
          ∃ m, m < n ∧ ∃ i xs Hc, Inv (cxComp X (x :: x' :: cn) scope s3.heap.objs.size s3 (upd H2 s2.heap.objs.size (.lst [])) fp) [] (inner2 cap σ) Hc s9 ∧ tn i s9.heap ∧ (∀ b ∈ fp, Hc b = none) ∧ W i m xs Hc := fun {s9 H9 ys} I9 n9 => by
        obtain ⟨m', hm, w9⟩ := hN ys H9 n9
        refine ⟨m', hm, i + 1, ys, H9, (I9.unpinned (pins := [])).weak (by simp [inner2]) (fun j w e => ?_), T.keep _ _ _ st7 fun b hb o e => (I9.pin (b, o) (List.mem_append_right _ (List.mem_append_right _ (mem_pinsAt hb e)))).1, fun b hb => ?_, w9⟩
        · cases j with
          | zero =>
            have e : (some none : Option (Option V)) = some (some w) := e
            cases e
          | succ j =>
            cases j with
            | zero =>
              have e : (some none : Option (Option V)) = some (some w) := e
              cases e
            | succ j => exact e
        · obtain ⟨o, e, _⟩ := T.obj _ _ st7 b hb
          exact (I9.pin (b, o) (List.mem_append_right _ (List.mem_append_right _ (mem_pinsAt hb e)))).2.1
      refine thn (B.1 _ s8 _ H8 _ I8 q8) fun ok s9 ⟨H9, I9, q9⟩ => ?_
      cases ok with
      | false =>
        rw [if_neg Bool.false_ne_true] at q9 ⊢
        exact again I9 q9
      | true =>
        rw [if_pos rfl] at q9 ⊢
        refine thn (B.2 _ s9 _ H9 _ I9 q9) fun uy s10 ⟨y, H10, I10, r10, hp, hl, n10⟩ => ?_
        refine thn (mt_append _ s10 _ H10 (.ref s2.heap.objs.size) [y] (.ref s2.heap.objs.size) [uy] (fun _ H11 => N (xs ++ [y]) H11) I10 rfl (.cons r10 .nil) ⟨_, xs, y, rfl, rfl, hp, hl, n10⟩) fun _ s11 ⟨_, H11, I11, _, n11⟩ => ?_
        exact again I11 n11
  exact codeAny_compStart_list loop (T.self _ _ _ _ _ st4 loop)
theorem pe_comp2 {scope : Scope} {x x' : Str} {px px' pt pos : Pos} {k0 : Nat} {elt iter : Expr} {ifs : List Expr} {cn : List Str} {cap : List Nat} {wi : TI} {tc : TT} {te : TE}
    (hc : X.calm = true) (S : CompScope X scope) (hx : scope.names.lookup x = some .local) (hx' : scope.names.lookup x' = some .local) (hnd : (x :: x' :: cn).Nodup) (hcap : Caps X scope cn cap) (hi : PI X (.Tuple [.Name x px, .Name x' px'] k0 pt) iter wi)
    (body : ∀ (C : Addr) (s : Shared) (H : Hp) (fp : List Addr), PTs (cxComp X (x :: x' :: cn) scope C s H fp) ifs tc ∧ PE (cxComp X (x :: x' :: cn) scope C s H fp) elt te)
    (hs : ∀ x, foldedSetIterable iter X.env x = pure x := by intro _; rfl) : PE X (.ListComp elt [⟨.Tuple [.Name x px, .Name x' px'] k0 pt, iter, ifs, 0⟩] scope pos) (tComp2 X.K cap wi tc te) := by
  intro pins s σ H Q I h
  rw [eval_ListComp]
  refine wpAny_comprehension_free (use := none) rfl hs (S.clos I) S.kind S.names (thn (hi pins s σ H _ I h) fun xv s1 h1 => thn h1 fun itv s2 h2 => ?_)
  obtain ⟨it, fp, tn, J, H2, e, I2, T, st2, f2, q⟩ := h2
  subst e
  refine comp_core2 (RR := fun acc C => compPost (model X.prog X.w) X.A X.xe none (EP X pins σ Q) acc C) S I2 hc hcap hx hx' hnd T st2 f2 body q ?_
  intro p C s3 s' H3 Hf σ' I3 hC J' qf
  subst hC
  have I4 := comp_out I3 J' f2
  obtain ⟨m, hn, _⟩ := J'.loc
  refine ⟨m, hn, fun h' hs' => ?_⟩
  refine ⟨.ref p, Hf, ?_, rfl, qf⟩
  have f := I3.fpOk (H' := Hf) (Nat.le_refl _) J'.free
  exact I4.turned (t' := s'.toks) (it := s3.heap.objs.size) (fun b o hb e => (hs'.2 b hb).trans e) f.1 f.2.1 f.2.2.2.1 f.2.2.2.2.1 f.2.2.2.2.2
end
end L2
set_option Elab.async false
set_option linter.all false
set_option maxRecDepth 100000
set_option maxHeartbeats 4000000
namespace L2
open PySem PySem.Spec PyProof.Rows
structure YieldsE (J : It) (H : Hp) (xs : List V) : Prop where
  go : ∀ i H', Same H H' → i < xs.length → J.go i H'
  stop : ∀ H', Same H H' → J.stop xs.length H'
  yld : ∀ (i : Nat) (H' : Hp) (x : V) (H'' : Hp), Same H H' → i < xs.length → J.yld i H' x H'' → ∃ t v, x = .ref t ∧ H' t = none ∧ H'' = upd H' t (.tup [.int i, v]) ∧ xs[i]? = some v
section
variable {K : PySem.W.Frag} {σ : St} {G : Hp} {α β : Type} [Rp α] [Rp β] {ta : TE}
noncomputable def IF (K : PySem.W.Frag) {α : Type} [Rp α] (wi : TI) (σ : St) (G : Hp) (m : Option (List α)) : Prop :=
  ∀ G1, Same G G1 → ∀ a, m = some a → ∀ H, Same G1 H → ∀ R : It → Hp → Prop, (∀ J vs G2 H2, Ext G1 H G2 H2 → YieldsE J G2 vs → vs.length ≤ sizeLine → Paired (Rp.rel K G2) vs a → R J H2) → wi σ H R
theorem if_list {la : Option (List α)} (ea : EV K ta σ G la) : IF K (iEnum K (tCons ta tNil)) σ G la := by
  intro G1 s1 a ha H sH R k
  refine ea G1 s1 a ha H sH _ fun v G2 H2 x2 r2 => ?_
  obtain ⟨l, xs, rfl, h, z, p⟩ := r2
  refine ⟨l, rfl, ⟨xs, .inl (x2.gh.rd h)⟩, k _ xs G2 H2 x2 ⟨fun i H' s hi => ⟨xs, xs[i], .inl (s.rd h), by simp [hi]⟩, fun H' s => ⟨xs, .inl (s.rd h), Nat.le_refl _⟩, fun i H' y H'' s hi hy => ?_⟩ z p⟩
  obtain ⟨t, v, e1, e2, e3, e4⟩ := hy
  exact ⟨t, v, e1, e2, e3, e4 xs (.inl (s.rd h))⟩
theorem rel_i (G : Hp) (i : Int) : Rp.rel K G (V.int i) i := rfl
theorem fv_comp2 {cap : List Nat} {wi : TI} {tt : TT} {te : TE} {mi : Option (List α)} {fc : Int × α → Option Bool} {fe : Int × α → Option β} (ei : IF K wi σ G mi)
    (hb : ∀ (x : V) (a : Int × α) (G1 : Hp), Same G G1 → Rp.rel K G1 x a.2 → TV tt (((inner2 cap σ).set 0 (some (.int a.1))).set 1 (some x)) G1 (fc a) ∧ EV K te (((inner2 cap σ).set 0 (some (.int a.1))).set 1 (some x)) G1 (fe a)) :
    FV K (tComp2 K cap wi tt te) σ G (mi.bind fun as => compO fc fe (enumI 0 as)) := by
  intro G1 s1 c hc H sH Q k
  obtain ⟨as, has, hc⟩ := Option.bind_eq_some_iff.mp hc
  refine ei G1 s1 as has H sH _ fun J vs Ga Ha xa Y hz pr p hp => ?_
  have hla := Paired.length pr
  have hle := enumI_length as 0
  refine ⟨fun i m ys H2 => m = vs.length - i ∧ i ≤ vs.length ∧ ∃ G2 bs cs, Ext Ga Ha G2 H2 ∧ G2 p = none ∧ H2 p = some (.lst ys) ∧ ys.length ≤ i ∧ Paired (Rp.rel K G2) ys bs ∧ compO fc fe ((enumI 0 as).drop i) = some cs ∧ c = bs ++ cs,
    ⟨vs.length, by simp, Nat.zero_le _, Ga, [], c, .own xa.gh hp, xa.gh.free hp, upd_same, Nat.le_refl _, .nil, hc, rfl⟩, ?_⟩
  rintro i m ys H2 ⟨rfl, hi, G2, bs, cs, x2, hg, hh, hy, hpr, hcs, rfl⟩
  by_cases hlt : i < vs.length
  · refine .inr ⟨Y.go i _ (x2.gg.trans x2.gh) hlt, fun ys' H' => ∃ G2 bs' cs', Ext Ga Ha G2 H' ∧ G2 p = none ∧ H' p = some (.lst ys') ∧ ys'.length ≤ i + 1 ∧ Paired (Rp.rel K G2) ys' bs' ∧ compO fc fe ((enumI 0 as).drop (i + 1)) = some cs' ∧ bs ++ cs = bs' ++ cs',
      fun ys' H' ⟨G3, bs', cs', h⟩ => ⟨vs.length - (i + 1), by omega, rfl, hlt, G3, bs', cs', h⟩, fun x H3 y => ?_⟩
    obtain ⟨t, v, rfl, ht, rfl, hv⟩ := Y.yld i _ x H3 (x2.gg.trans x2.gh) hlt y
    obtain ⟨a, hai, ra⟩ := Paired.getR pr hv
    have hge : (enumI 0 as)[i]? = some ((i : Int), a) := by rw [enumI_get, hai]; simp
    have hd : (enumI 0 as).drop i = ((i : Int), a) :: (enumI 0 as).drop (i + 1) := by
      obtain ⟨h1, h2⟩ := List.getElem?_eq_some_iff.mp hge
      rw [List.drop_eq_getElem_cons h1, h2]
    rw [hd] at hcs
    obtain ⟨b, hbb, hcs⟩ := Option.bind_eq_some_iff.mp hcs
    have xn := Ext.new (o := .tup [.int i, v]) x2.gh ht
    have x2 := x2.trans xn
    have ne : p ≠ t := fun e => by rw [e, ht] at hh; cases hh
    have hh : (upd H2 t (.tup [.int i, v])) p = some (.lst ys) := by rw [upd_ne ne]; exact hh
    have hg : (upd G2 t (.tup [.int i, v])) p = none := by rw [upd_ne ne]; exact hg
    have hpr := Paired.imp' (fun _ _ r => Rp.mono xn.gg r) hpr
    have B := hb v ((i : Int), a) _ (s1.trans (xa.gg.trans x2.gg)) (Rp.mono x2.gg ra)
    refine ⟨t, _, rfl, SqT.of upd_same, rfl, _, _, rfl, _, _, rfl, rfl, ?_⟩
    refine B.1 _ (.refl _) b hbb _ x2.gh _ fun G5 H5 x5 => ?_
    have hp5 : H5 p = some (.lst ys) := x5.hh _ _ hh
    have hg5 : G5 p = none := x5.no p hg (by rw [hh]; exact fun z => nomatch z)
    cases b with
    | false =>
      rw [if_neg Bool.false_ne_true]
      exact ⟨G5, bs, cs, x2.trans x5, hg5, hp5, by omega, Paired.imp' (fun _ _ r => Rp.mono x5.gg r) hpr, hcs, rfl⟩
    | true =>
      rw [if_pos rfl]
      obtain ⟨z, hze, hcs⟩ := Option.bind_eq_some_iff.mp hcs
      obtain ⟨cs', hcs', hcs⟩ := Option.bind_eq_some_iff.mp hcs
      cases hcs
      refine B.2 G5 x5.gg z hze H5 x5.gh _ fun v G6 H6 x6 r6 => ?_
      have hp6 : H6 p = some (.lst ys) := x6.hh _ _ hp5
      have hg6 : G6 p = none := x6.no p hg5 (by rw [hp5]; exact fun z => nomatch z)
      refine ⟨hp6, by omega, G6, bs ++ [z], cs', ((x2.trans x5).trans x6).put hp hg6, hg6, upd_same, ?_, Paired.app (Paired.imp' (fun _ _ r => Rp.mono (x5.trans x6).gg r) hpr) (.cons r6 .nil), hcs', by simp⟩
      rw [List.length_append, List.length_singleton]
      omega
  · have e : i = vs.length := by omega
    subst e
    have hd : (enumI 0 as).drop vs.length = [] := List.drop_eq_nil_of_le (by omega)
    rw [hd] at hcs
    cases hcs
    refine .inl ⟨Y.stop _ (x2.gg.trans x2.gh), ?_⟩
    rw [List.append_nil] at k
    exact k p ys G2 H2 (xa.trans x2) (xa.hh.free hp) hg hh (by omega) hpr
end
end L2
set_option Elab.async false
set_option linter.all false
set_option maxRecDepth 100000
set_option maxHeartbeats 4000000
namespace L2
open PySem PySem.Spec PyProof.Rows
inductive SI where
  | s (x : Str)
  | i (n : Int)
  deriving DecidableEq
noncomputable def RelSI (v : V) : SI → Prop
  | .s x => v = .str x ∧ x.length ≤ sizeLine
  | .i n => v = .int n
noncomputable instance rpSI : Rp SI := ⟨fun _ _ v a => RelSI v a, fun _ h => h⟩
noncomputable instance imSI : Imm SI := ⟨fun _ h => h⟩
theorem eqSI {K : PySem.W.Frag} : EqTy K 0 (Rp.rel (α := SI) K) where
  fn := fun {X pins σ H s x a b} hK I h1 h2 => by
    cases a with
    | s y => cases b with
      | s z => obtain ⟨rfl, _⟩ := h1; obtain ⟨e, _⟩ := h2; cases e; rfl
      | i n => obtain ⟨rfl, _⟩ := h1; cases h2
    | i m => cases b with
      | s z => obtain ⟨rfl, _⟩ := h2; cases h1
      | i n =>
        have h1 : x = .int m := h1
        have h2 : x = .int n := h2
        subst h1
        cases h2
        rfl
  eq := fun {X pins σ H s x y u v a b} A hK I hu r1 r2 h1 h2 => by
    cases a with
    | s p => cases b with
      | s q =>
        obtain ⟨rfl, _⟩ := h1
        obtain ⟨rfl, _⟩ := h2
        have := eqStr.eq (K := K) (a := p) (b := q) A hK I hu r1 r2 rfl rfl
        rwa [show decide (SI.s p = SI.s q) = decide (p = q) from decide_eq_decide.mpr ⟨fun e => by cases e; rfl, fun e => by rw [e]⟩]
      | i n =>
        obtain ⟨rfl, _⟩ := h1
        have h2 : y = .int n := h2
        subst h2
        obtain ⟨t, rfl⟩ := r1
        obtain ⟨t', rfl⟩ := r2
        rw [decide_eq_false (fun e => by cases e)]
        exact SeqAt.EqAt.str_int _ _ _ _
    | i m => cases b with
      | s q =>
        obtain ⟨rfl, _⟩ := h2
        have h1 : x = .int m := h1
        subst h1
        obtain ⟨t, rfl⟩ := r1
        obtain ⟨t', rfl⟩ := r2
        rw [decide_eq_false (fun e => by cases e)]
        exact SeqAt.EqAt.int_str _ _ _ _
      | i n =>
        have := eqInt.eq (K := K) (a := m) (b := n) A hK I hu r1 r2 h1 h2
        rwa [show decide (SI.i m = SI.i n) = decide (m = n) from decide_eq_decide.mpr ⟨fun e => by cases e; rfl, fun e => by rw [e]⟩]
  rc := fun {X pins σ H s x y u v a b} A hK I hu r1 r2 h1 h2 => by
    cases a with
    | s p => cases b with
      | s q =>
        obtain ⟨rfl, _⟩ := h1
        obtain ⟨rfl, _⟩ := h2
        have := eqStr.rc (K := K) (a := p) (b := q) A hK I hu r1 r2 rfl rfl
        rwa [show decide (SI.s p = SI.s q) = decide (p = q) from decide_eq_decide.mpr ⟨fun e => by cases e; rfl, fun e => by rw [e]⟩]
      | i n =>
        obtain ⟨rfl, _⟩ := h1
        have h2 : y = .int n := h2
        subst h2
        obtain ⟨t, rfl⟩ := r1
        obtain ⟨t', rfl⟩ := r2
        rw [decide_eq_false (fun e => by cases e)]
        exact ⟨SeqAt.RcAt.str_int _ _ _ _, SeqAt.RcNeAt.str_int _ _ _ _⟩
    | i m => cases b with
      | s q =>
        obtain ⟨rfl, _⟩ := h2
        have h1 : x = .int m := h1
        subst h1
        obtain ⟨t, rfl⟩ := r1
        obtain ⟨t', rfl⟩ := r2
        rw [decide_eq_false (fun e => by cases e)]
        exact ⟨SeqAt.RcAt.int_str _ _ _ _, SeqAt.RcNeAt.int_str _ _ _ _⟩
      | i n =>
        have := eqInt.rc (K := K) (a := m) (b := n) A hK I hu r1 r2 h1 h2
        rwa [show decide (SI.i m = SI.i n) = decide (m = n) from decide_eq_decide.mpr ⟨fun e => by cases e; rfl, fun e => by rw [e]⟩]
theorem room_u {j : Nat} {A : Around} (hr : Room j A) : A.units + 1 < cLine := by
  have := hr.un
  omega
noncomputable def asS : SI → Option Str
  | .s x => some x
  | .i _ => none
noncomputable def asI : SI → Option Int
  | .s _ => none
  | .i n => some n
section
variable {K : PySem.W.Frag} {σ : St} {G H : Hp} {ta tb te td ti : TE} {α : Type} [Rp α] {md : Option SI} {rest : TS} {D : Ends} {i : Nat}
theorem ev_toS {m : Option Str} (e : EV K te σ G m) : EV K te σ G (m.bind fun x => some (SI.s x)) := by
  intro G1 s1 c hc H sH Q k
  obtain ⟨x, hx, hc⟩ := Option.bind_eq_some_iff.mp hc
  cases hc
  exact e G1 s1 x hx H sH Q fun v G2 H2 x2 r => k v G2 H2 x2 r
theorem ev_toI {m : Option Int} (e : EV K te σ G m) : EV K te σ G (m.bind fun x => some (SI.i x)) := by
  intro G1 s1 c hc H sH Q k
  obtain ⟨x, hx, hc⟩ := Option.bind_eq_some_iff.mp hc
  cases hc
  exact e G1 s1 x hx H sH Q fun v G2 H2 x2 r => k v G2 H2 x2 r
theorem ev_asS (e : EV K te σ G md) : EV K te σ G (md.bind fun d => asS d) := by
  intro G1 s1 c hc H sH Q k
  obtain ⟨d, hd, hc⟩ := Option.bind_eq_some_iff.mp hc
  refine e G1 s1 d hd H sH Q fun v G2 H2 x r => ?_
  cases d with
  | s y => cases hc; exact k _ _ _ x r
  | i n => cases hc
theorem ev_asI (e : EV K te σ G md) : EV K te σ G (md.bind fun d => asI d) := by
  intro G1 s1 c hc H sH Q k
  obtain ⟨d, hd, hc⟩ := Option.bind_eq_some_iff.mp hc
  refine e G1 s1 d hd H sH Q fun v G2 H2 x r => ?_
  cases d with
  | s y => cases hc
  | i n => cases hc; exact k _ _ _ x r
end
section
variable {K : PySem.W.Frag} {σ : St} {G H : Hp} {ta tb te td ti : TE} {α : Type} [Rp α]
end
theorem bt_sum : bootBuiltins "sum" = some (.builtin "sum") := by decide +kernel
noncomputable def sumO (ns : List Int) : Option Int := if ns.length ≤ 1000 ∧ ∀ n ∈ ns, 0 ≤ n ∧ n ≤ 1000000000 then some ns.sum else none
noncomputable def rSumI (K : PySem.W.Frag) : List V → Hp → VK → Prop := fun vs H Q => ∃ (l : Addr) (ns : List Int) (m : Int), vs = [.ref l] ∧ SqL K H l (ns.map V.int) ∧ sumO ns = some m ∧ Q (.int m) H
theorem ints_atF {ns : List Int} {its : List Value} (r : Vals (ns.map V.int) its) {i : Nat} {v : Value} (h : its.toArray[i]? = some v) : ∃ t, v = .int (ns.getD i 0) t := by
  have h : its[i]? = some v := by simpa using h
  have hl := r.length
  rw [List.length_map] at hl
  obtain ⟨hi, _⟩ := List.getElem?_eq_some_iff.mp h
  have e : (ns.map V.int)[i]? = some (V.int (ns.getD i 0)) := by
    have : i < ns.length := by omega
    simp [this]
  obtain ⟨u, hu, ru⟩ := r.get e
  rw [h] at hu
  cases hu
  exact ru
theorem preSum_take (ns : List Int) : ∀ j, j ≤ ns.length → preSum (fun i => ns.getD i 0) j = (ns.take j).sum
  | 0, _ => by simp [preSum]
  | j + 1, h => by
    have hj : j < ns.length := by omega
    show preSum (fun i => ns.getD i 0) j + ns.getD j 0 = _
    rw [preSum_take ns j (by omega), List.take_succ, List.sum_append]
    simp [hj]
theorem sum_bound : ∀ {ns : List Int}, (∀ n ∈ ns, 0 ≤ n ∧ n ≤ 1000000000) → 0 ≤ ns.sum ∧ ns.sum ≤ 1000000000 * (ns.length : Int)
  | [], _ => by simp
  | a :: r, h => by
    have h1 := h a List.mem_cons_self
    have h2 := sum_bound fun n hn => h n (List.mem_cons_of_mem _ hn)
    rw [List.sum_cons, List.length_cons]
    push_cast
    omega
theorem call_sumK {X : Cx} {K : PySem.W.Frag} (hc : X.calm = true) (h : X.K = K) : CallR X (.builtin "sum") (rSumI K) := by
  subst h
  intro pins s σ H vs us Q I r h
  obtain ⟨l, ns, m, rfl, hl, hm, q⟩ := h
  obtain ⟨⟨hn, hb⟩, rfl⟩ := ite_some hm
  obtain ⟨u, rfl, ru⟩ := vals1 r
  cases ru
  obtain ⟨its, rv, pl, _⟩ := I.list hl
  have hL := pl.isList
  have hlt : l < s.heap.objs.size := by obtain ⟨_, e, _⟩ := hL; exact Heap.lt_size e
  have hlen := rv.length
  rw [List.length_map] at hlen
  have tk : ∀ j, 0 ≤ (ns.take j).sum ∧ (ns.take j).sum ≤ 1000000000 * 1000 := fun j => by
    have h1 := sum_bound (ns := ns.take j) fun n hn => hb n (List.mem_of_mem_take hn)
    have h2 : (ns.take j).length ≤ 1000 := by rw [List.length_take]; omega
    omega
  refine call_sum_walk (wpAny_pyIter_list hL ?_)
  refine ⟨_, _, _, _, _, _, fun i => ns.getD i 0, rfl, Walks.list (A := X.A.in1) (I.ok.hd hc) _ l (Nat.ne_of_lt hlt) its.toArray, ⟨⟨_, Heap.get?_push_size _ rfl, rfl, rfl⟩, hL.push _⟩, ?_, ?_, ?_, fun h' tk' t' hk => ?_⟩
  · intro b hb'
    have : b = s.heap.objs.size ∨ b = l := by simpa using hb'
    rcases this with rfl | rfl
    · trace_state
      exact Heap.lt_size (Heap.get?_push_size _ rfl)
    · exact Nat.lt_trans hlt (Heap.lt_size (Heap.get?_push_size _ rfl))
  · intro i v hP
    exact ints_atF rv hP
  · intro j hj
    have hj : j < ns.length := by rw [List.size_toArray] at hj; omega
    have e1 : ns.getD j 0 ∈ ns := by simp [hj]
    have b1 := hb _ e1
    rw [preSum_take ns (j + 1) (by omega)]
    have := tk (j + 1)
    unfold InLong
    dsimp only
    omega
  · rw [preSum_take ns _ (by rw [List.size_toArray]; omega), List.take_of_length_le (by rw [List.size_toArray]; omega)]
    refine ⟨.int _, H, I.kept fun b o eb => ?_, ⟨t', rfl⟩, q⟩
    refine hk b o (fun hm => ?_) (Heap.get?_push_of_some _ eb)
    have : b = s.heap.objs.size := by simpa using hm
    exact absurd (this ▸ Heap.lt_size eb) (Nat.lt_irrefl _)
theorem paired_intsR {K : PySem.W.Frag} {H : Hp} : ∀ {xs : List V} {ns : List Int}, Paired (Rp.rel K H) xs ns → xs = ns.map V.int
  | _, _, .nil => rfl
  | _, _, .cons h t => by
    cases h
    rw [List.map_cons, paired_intsR t]
section
variable {K : PySem.W.Frag} {σ : St} {G H : Hp} {ta tb te td ti : TE} {α : Type} [Rp α]
theorem ev_sum {lb : Option (List Int)} (ea : EV K ta σ G lb) : EV K (tCB (rSumI K) (tCons ta tNil)) σ G (lb.bind fun ns => sumO ns) := by
  intro G1 s1 c hc H sH Q k
  obtain ⟨a, ha, hc⟩ := Option.bind_eq_some_iff.mp hc
  refine ea G1 s1 a ha H sH _ fun v G2 H2 x2 r2 => ?_
  obtain ⟨l, xs, rfl, h, z, p⟩ := r2
  have e := paired_intsR p
  subst e
  exact ⟨l, a, c, rfl, .inl (x2.gh.rd h), hc, k _ _ _ x2 rfl⟩
end
structure Mp (α : Type) where
  l : List (Int × α)
noncomputable def RelE (K : PySem.W.Frag) {α : Type} [Rp α] (H : Hp) (kv : Key × V) (q : Int × α) : Prop := kv.1 = .inl q.1 ∧ Rp.rel K H kv.2 q.2
noncomputable instance rpMp {α : Type} [Rp α] : Rp (Mp α) := ⟨fun K H v a => ∃ p kvs, v = .ref p ∧ H p = some (.dK kvs) ∧ Paired (RelE K H) kvs a.l,
  fun s ⟨p, kvs, e, h, pr⟩ => ⟨p, kvs, e, s _ _ h, Paired.imp' (fun _ _ r => ⟨r.1, Rp.mono s r.2⟩) pr⟩⟩
section
variable {K : PySem.W.Frag} {σ : St} {G H G1 H1 G0 H0 : Hp} {α β : Type} [Rp α] [Rp β] {td te ti : TE} {rest : TS} {D : Ends} {i : Nat} {a : Mp α} {v : V} {p q : Addr} {kvs : List (Key × V)}
end
section
variable {K : PySem.W.Frag} {σ : St} {G H : Hp} {α : Type} [Rp α] {te : TE} {rest : TS} {D : Ends} {i : Nat} {a : α} {m : Option α} {as : List α} {v : V} {p : Addr} {vs : List V}
end
end L2
set_option Elab.async false
set_option linter.all false
set_option maxRecDepth 100000
set_option maxHeartbeats 4000000
namespace L2
open PySem PySem.Spec PyProof.Rows
section
variable {X : Cx} {e : Expr} {te : TE} {lo hi : Option Expr} {se : Expr} {tl th ts : TO} {pos p2 : Pos}
end
section
variable {K : PySem.W.Frag} {σ : St} {G H : Hp} {ta t3 : TE} {t1 t2 : TO} {α : Type} [Rp α] {m1 m2 : Option (Option Int)} {c : Int}
end
end L2
set_option Elab.async false
set_option linter.all false
set_option maxRecDepth 100000
set_option maxHeartbeats 4000000
namespace L2
open PySem PySem.Spec PyProof.Rows
section
variable {K : PySem.W.Frag} {σ : St} {G : Hp} {α β γ : Type} [Rp α] [Rp β] [Rp γ] {ta tb : TE}
end
end L2
namespace L2
open PySem PySem.Spec PyProof.Rows
section
variable {K : PySem.W.Frag} {σ : St} {G H : Hp} {ta tb te : TE} {rest : TS} {D : Ends} {i : Nat} {v : V} {p : Addr} {vs : List V}
theorem paired_strsR {G : Hp} : ∀ {xs : List V} {ys : List Str}, Paired (Rp.rel K G) xs ys → xs = ys.map V.str
  | _, _, .nil => rfl
  | _, _, .cons h t => by
    obtain ⟨rfl, _⟩ := h
    rw [List.map_cons, paired_strsR t]
end
end L2
set_option Elab.async false
set_option linter.all false
set_option maxRecDepth 100000
set_option maxHeartbeats 4000000
namespace L2
open PySem PySem.Spec PyProof.Rows
noncomputable def leS (a b : Str) : Bool := !decide (b.cps.toList < a.cps.toList)
theorem leS_iff {a b : Str} : leS a b = true ↔ a.cps.toList ≤ b.cps.toList := by
  unfold leS
  rw [Bool.not_eq_true', decide_eq_false_iff_not]
  exact List.not_lt
theorem leS_trans (a b c : Str) (h1 : leS a b = true) (h2 : leS b c = true) : leS a c = true := leS_iff.mpr (List.le_trans (leS_iff.mp h1) (leS_iff.mp h2))
theorem leS_total (a b : Str) : (leS a b || leS b a) = true := by
  rw [Bool.or_eq_true, leS_iff, leS_iff]
  exact List.le_total _ _
theorem leS_anti {a b : Str} (h1 : leS a b = true) (h2 : leS b a = true) : a = b := by
  have := List.le_antisymm (leS_iff.mp h1) (leS_iff.mp h2)
  cases a
  cases b
  congr 1
  exact Array.toList_inj.mp this
noncomputable def sortS (ys : List Str) : List Str := ys.mergeSort leS
theorem sortS_perm (ys : List Str) : (sortS ys).Perm ys := List.mergeSort_perm ys leS
theorem rising_pw : ∀ (p : Str) (l : List Str), risingS p l = true → (p :: l).Pairwise fun a b => leS a b = true
  | p, [], _ => by simp
  | p, x :: r, h => by
    have h : (!ltCps x.cps.toList p.cps.toList && risingS x r) = true := h
    rw [Bool.and_eq_true, ltCps_eq] at h
    have h1 : leS p x = true := h.1
    have ih := rising_pw x r h.2
    refine List.pairwise_cons.mpr ⟨fun y hy => ?_, ih⟩
    rcases List.mem_cons.mp hy with rfl | hy
    · exact h1
    · exact leS_trans _ _ _ h1 (List.rel_of_pairwise_cons ih hy)
theorem sortS_of {ss ss' : List Str} (hp : ss'.Perm ss) (hs : sortedS ss' = true) : ss' = sortS ss := by
  have pw : ss'.Pairwise fun a b => leS a b = true := by
    cases ss' with
    | nil => exact .nil
    | cons x r => exact rising_pw x r hs
  exact List.Perm.eq_of_pairwise (fun a b _ _ h1 h2 => leS_anti h1 h2) pw (List.pairwise_mergeSort leS_trans leS_total ss) (hp.trans (sortS_perm ss).symm)
theorem vals_strs : ∀ {vs : List Value} {ss : List Str}, StrsAre vs ss → Vals (ss.map V.str) vs
  | _, _, .nil => .nil
  | _, _, .cons x t r => .cons ⟨t, rfl⟩ (vals_strs r)
theorem paired_len {K : PySem.W.Frag} {G : Hp} : ∀ {xs : List V} {ys : List Str}, Paired (Rp.rel K G) xs ys → ∀ y ∈ ys, y.length ≤ sizeLine
  | _, _, .nil => fun y hy => by cases hy
  | _, _, .cons h t => fun y hy => by
    rcases List.mem_cons.mp hy with rfl | hy
    · exact h.2
    · exact paired_len t y hy
section
variable {K : PySem.W.Frag} {σ : St} {G : Hp} {ta : TE}
end
end L2
set_option Elab.async false
set_option linter.all false
set_option maxRecDepth 100000
set_option maxHeartbeats 4000000
namespace L2
open PySem PySem.Spec PyProof.Rows
section
variable {K : PySem.W.Frag} {σ : St} {G : Hp} {α : Type} [Rp α] {ta tb : TE}
end
end L2
set_option Elab.async false
set_option linter.all false
set_option maxRecDepth 100000
namespace L2
open PySem PySem.Spec PyProof.Rows
section
variable {X : Cx} {pins : List (Addr × Obj)} {σ : St}
end
end L2
set_option Elab.async false
set_option linter.all false
set_option maxRecDepth 100000
set_option maxHeartbeats 4000000
namespace L2
open PySem PySem.Spec PyProof.Rows
noncomputable def Ris (xs : Array Nat) : Prop := ∀ i j, i < j → (hj : j < xs.size) → xs.getD i 0 < xs.getD j 0
theorem below_go (xs : Array Nat) (j : Nat) (hr : Ris xs) : ∀ fuel lo hi, lo ≤ hi → hi ≤ xs.size → hi - lo ≤ fuel → (∀ i, i < lo → xs.getD i 0 < j) → (∀ i, hi ≤ i → i < xs.size → j ≤ xs.getD i 0) →
    (SetTable.below.go xs j fuel lo hi ≤ xs.size ∧ (∀ i, i < SetTable.below.go xs j fuel lo hi → xs.getD i 0 < j) ∧ ∀ i, SetTable.below.go xs j fuel lo hi ≤ i → i < xs.size → j ≤ xs.getD i 0) := by
  intro fuel
  induction fuel with
  | zero =>
    intro lo hi h1 h2 h3 h4 h5
    have e : lo = hi := by omega
    subst e
    exact ⟨h2, h4, h5⟩
  | succ fuel ih =>
    intro lo hi h1 h2 h3 h4 h5
    unfold SetTable.below.go
    by_cases hlt : lo < hi
    · rw [if_pos hlt]
      dsimp only
      have hm1 : lo ≤ (lo + hi) / 2 := by omega
      have hm2 : (lo + hi) / 2 < hi := by omega
      generalize (lo + hi) / 2 = mid at hm1 hm2 ⊢
      have hms : mid < xs.size := by omega
      have e1 : xs.getD mid j = xs.getD mid 0 := by simp [Array.getD, hms]
      rw [e1]
      have mono : ∀ a b, a ≤ b → b < xs.size → xs.getD a 0 ≤ xs.getD b 0 := fun a b hab hb => by
        rcases Nat.lt_or_eq_of_le hab with h | h
        · exact Nat.le_of_lt (hr a b h hb)
        · rw [h]; exact Nat.le_refl _
      by_cases hc : xs.getD mid 0 < j
      · rw [if_pos hc]
        refine ih (mid + 1) hi (by omega) h2 (by omega) (fun i hi' => ?_) h5
        exact Nat.lt_of_le_of_lt (mono i mid (by omega) hms) hc
      · rw [if_neg hc]
        refine ih lo mid hm1 (by omega) (by omega) h4 fun i hi' hs => ?_
        exact Nat.le_trans (Nat.le_of_not_lt hc) (mono mid i hi' hs)
    · rw [if_neg hlt]
      have e : lo = hi := by omega
      subst e
      exact ⟨h2, h4, h5⟩
theorem below_ok {xs : Array Nat} (hr : Ris xs) (j : Nat) : SetTable.below xs j ≤ xs.size ∧ (∀ i, i < SetTable.below xs j → xs.getD i 0 < j) ∧ ∀ i, SetTable.below xs j ≤ i → i < xs.size → j ≤ xs.getD i 0 :=
  below_go xs j hr xs.size 0 xs.size (Nat.zero_le _) (Nat.le_refl _) (Nat.le_refl _) (fun i h => absurd h (Nat.not_lt_zero _)) fun i h h' => absurd h' (Nat.not_lt.mpr h)
theorem below_eq {xs : Array Nat} (hr : Ris xs) {j p : Nat} (hp : p ≤ xs.size) (h1 : ∀ i, i < p → xs.getD i 0 < j) (h2 : ∀ i, p ≤ i → i < xs.size → j ≤ xs.getD i 0) : SetTable.below xs j = p := by
  obtain ⟨a, b, c⟩ := below_ok hr j
  rcases Nat.lt_trichotomy (SetTable.below xs j) p with h | h | h
  · have := c _ (Nat.le_refl _) (by omega)
    have := h1 _ h
    omega
  · exact h
  · have := b _ h
    have := h2 p (Nat.le_refl _) (by omega)
    omega
theorem below_zero {xs : Array Nat} (hr : Ris xs) : SetTable.below xs 0 = 0 := below_eq hr (Nat.zero_le _) (fun i h => absurd h (Nat.not_lt_zero _)) fun i _ _ => Nat.zero_le _
theorem below_next {xs : Array Nat} (hr : Ris xs) {i : Nat} (hi : i < xs.size) : SetTable.below xs (xs.getD i 0 + 1) = i + 1 :=
  below_eq hr hi (fun k hk => by
    rcases Nat.lt_or_eq_of_le (Nat.le_of_lt_succ hk) with h | h
    · have := hr k i h hi; omega
    · rw [h]; exact Nat.lt_succ_self _) fun k hk hs => hr i k hk hs
theorem ris_of_pw {xs : Array Nat} (h : xs.toList.Pairwise (· < ·)) : Ris xs := fun i j hij hj => by
  have := List.pairwise_iff_getElem.mp h i j (by simpa using Nat.lt_trans hij hj) (by simpa using hj) hij
  simpa [Array.getD, hj, Nat.lt_trans hij hj] using this
theorem pw_of_ris {xs : Array Nat} (h : Ris xs) : xs.toList.Pairwise (· < ·) := by
  rw [List.pairwise_iff_getElem]
  intro i j hi hj hij
  have hi' : i < xs.size := by simpa using hi
  have hj' : j < xs.size := by simpa using hj
  have := h i j hij hj'
  simpa [Array.getD, hj', hi'] using this
theorem ris_insert {xs : Array Nat} (hr : Ris xs) {j : Nat} (hn : xs[SetTable.below xs j]? ≠ some j) : Ris (SetTable.insertAt xs (SetTable.below xs j) j) := by
  apply ris_of_pw
  rw [SetTable.toList_insertAt]
  obtain ⟨a, b, c⟩ := below_ok hr j
  have pw := pw_of_ris hr
  generalize hp : SetTable.below xs j = p at a b c hn
  have hA : ∀ x ∈ xs.toList.take p, x < j := fun x hx => by
    obtain ⟨i, hi, rfl⟩ := List.mem_iff_getElem.mp hx
    rw [List.length_take] at hi
    have h1 : i < p := by omega
    have h2 : i < xs.size := by rw [Array.length_toList] at hi; omega
    have := b i h1
    rw [List.getElem_take]
    simpa [Array.getD, h2] using this
  have hB : ∀ x ∈ xs.toList.drop p, j < x := fun x hx => by
    obtain ⟨i, hi, rfl⟩ := List.mem_iff_getElem.mp hx
    rw [List.length_drop, Array.length_toList] at hi
    have h2 : p + i < xs.size := by omega
    have hp2 : p < xs.size := by omega
    have h3 := c (p + i) (Nat.le_add_right _ _) h2
    rw [List.getElem_drop]
    have h4 : xs.getD (p + i) 0 ≠ j := fun e => by
      have h5 := c p (Nat.le_refl _) hp2
      have h6 : xs.getD p 0 ≤ xs.getD (p + i) 0 := by
        cases i with
        | zero => exact Nat.le_refl _
        | succ i => exact Nat.le_of_lt (hr p (p + (i + 1)) (by omega) h2)
      have h7 : xs.getD p 0 = j := by omega
      apply hn
      simp only [Array.getD, hp2, dite_true] at h7
      rw [Array.getElem?_eq_getElem hp2]
      exact congrArg some h7
    simp only [Array.getD, h2, dite_true] at h3 h4
    have e : xs.toList[p + i]'(by simpa using h2) = xs[p + i] := by simp
    rw [e]
    have h3' : j ≤ xs[p + i] := by simpa using h3
    have h4' : xs[p + i] ≠ j := by simpa using h4
    omega
  rw [List.pairwise_append]
  refine ⟨pw.take, List.pairwise_cons.mpr ⟨hB, pw.drop⟩, fun x hx y hy => ?_⟩
  have h1 := hA x hx
  rcases List.mem_cons.mp hy with rfl | hy
  · exact h1
  · exact Nat.lt_trans h1 (hB y hy)
structure RT (t : SetTable) : Prop where
  ris : Ris t.place
  dum : t.dummies = #[]
theorem has_empty (j : Nat) : SetTable.has #[] j = false := by
  unfold SetTable.has
  simp
theorem probe_go {t : SetTable} (hd : t.dummies = #[]) (f : Nat → Int) (h : Int) : ∀ fuel p j d, p.dummy = none → SetTable.probe.go t f h fuel p = some (.empty j d) → d = none ∧ t.place[SetTable.below t.place j]? ≠ some j := by
  intro fuel
  induction fuel with
  | zero => intro p j d _ e; cases e
  | succ fuel ih =>
    intro p j d hp e
    unfold SetTable.probe.go at e
    have hadv : (t.advance p).dummy = none := by
      unfold SetTable.advance
      split
      · exact hp
      · exact hp
    cases hs : t.slot p.j with
    | empty =>
      rw [hs] at e
      dsimp only at e
      cases e
      refine ⟨hp, fun hc => ?_⟩
      unfold SetTable.slot at hs
      dsimp only at hs
      rw [hc] at hs
      simp at hs
    | dummy =>
      unfold SetTable.slot at hs
      dsimp only at hs
      rw [hd, has_empty] at hs
      split at hs <;> simp at hs
    | live i =>
      rw [hs] at e
      dsimp only at e
      split at e
      · cases e
      · exact ih _ _ _ hadv e
theorem freeSlot_ok {t : SetTable} (hd : t.dummies = #[]) {h : Int} {j : Nat} {b : Bool} (e : t.freeSlot h = some (j, b)) : b = false ∧ t.place[SetTable.below t.place j]? ≠ some j := by
  unfold SetTable.freeSlot at e
  cases hp : t.probe (fun _ => h + 1) h (t.probeStart h) with
  | none => rw [hp] at e; cases e
  | some m =>
    rw [hp] at e
    cases m with
    | candidate _ _ _ => cases e
    | empty j' d =>
      obtain ⟨rfl, h2⟩ := probe_go hd _ _ _ _ _ _ rfl hp
      simp only [Option.getD_none, Option.isSome_none, Option.some.injEq, Prod.mk.injEq] at e
      obtain ⟨rfl, rfl⟩ := e
      exact ⟨rfl, h2⟩
theorem standIn_rt (t : SetTable) (n : Nat) : RT (t.standIn n) := ⟨ris_of_pw (by show (Array.range n).toList.Pairwise _; rw [Array.toList_range]; exact List.pairwise_lt_range), rfl⟩
theorem orStandIn_rt {t : SetTable} (h : RT t) (n : Nat) : RT (t.orStandIn n) := by
  unfold SetTable.orStandIn
  split
  · exact h
  · exact standIn_rt t n
theorem orStandIn_led (t : SetTable) (n : Nat) : (t.orStandIn n).led = t.led := by
  unfold SetTable.orStandIn
  split <;> rfl
theorem layNew_rt {t : SetTable} (ht : RT t) (es : Array (Int × Value)) (h : Int) (x : Value) : RT (layNew t es h x).2.1 ∧ (layNew t es h x).2.1.led = t.led := by
  unfold layNew
  split
  · rename_i slot wd e
    obtain ⟨_, h2⟩ := freeSlot_ok ht.dum e
    refine ⟨orStandIn_rt ⟨?_, ?_⟩ _, orStandIn_led _ _⟩
    · exact ris_insert ht.ris h2
    · show (if SetTable.has t.dummies slot then _ else t.dummies) = #[]
      rw [ht.dum, has_empty]
      rfl
  · exact ⟨standIn_rt _ _, rfl⟩
theorem filterMap_pw {β : Type} (f : Nat → Option β) : ∀ l : List Nat, l.Pairwise (· < ·) → ((l.filterMap fun j => (f j).map (j, ·)).map (·.1)).Pairwise (· < ·)
  | [], _ => .nil
  | a :: l, h => by
    have ih := filterMap_pw f l h.tail
    cases hf : f a with
    | none => rw [List.filterMap_cons_none (by rw [hf]; rfl)]; exact ih
    | some b =>
      rw [List.filterMap_cons_some (b := (a, b)) (by rw [hf]; rfl), List.map_cons]
      refine List.pairwise_cons.mpr ⟨fun y hy => ?_, ih⟩
      obtain ⟨⟨j, c⟩, hq, rfl⟩ := List.mem_map.mp hy
      obtain ⟨j', hj', e⟩ := List.mem_filterMap.mp hq
      cases hf' : f j' with
      | none => rw [hf'] at e; cases e
      | some c' =>
        rw [hf'] at e
        cases e
        exact List.rel_of_pairwise_cons h hj'
theorem laid_rt {mask finger moves : Nat} {led plain : Bool} {hs : Array Int} {t : SetTable} {o : Array Nat} (e : SetTable.laid mask finger moves led plain hs = some (t, o)) : RT t ∧ t.led = led ∧ t.plain = plain ∧ t.mask = mask := by
  unfold SetTable.laid at e
  cases hl : SetTable.layClean mask hs with
  | none => rw [hl] at e; cases e
  | some ow =>
    rw [hl] at e
    simp only [Option.pure_def, Option.bind_eq_bind, Option.bind_some, Option.some.injEq, Prod.mk.injEq] at e
    obtain ⟨rfl, rfl⟩ := e
    refine ⟨⟨ris_of_pw ?_, rfl⟩, rfl, rfl, rfl⟩
    exact filterMap_pw (fun j => ow.getD j none) _ List.pairwise_lt_range
theorem relayAll_rt (t : SetTable) (ht : RT t) (es : Array (Int × Value)) (wanted : Nat) : RT (relayAll t es wanted).2.1 ∧ (relayAll t es wanted).2.1.led = t.led := by
  unfold relayAll
  split
  · rename_i t' order e
    dsimp only
    split
    · unfold SetTable.relaid at e
      obtain ⟨a, b, _⟩ := laid_rt e
      exact ⟨a, b⟩
    · exact ⟨standIn_rt _ _, rfl⟩
  · exact ⟨standIn_rt _ _, rfl⟩
theorem erase_perm {α : Type} {l : List α} {i : Nat} (h : i < l.length) : (l[i] :: l.eraseIdx i).Perm l := by
  rw [List.eraseIdx_eq_take_drop_succ]
  have e : l = l.take i ++ l[i] :: l.drop (i + 1) := by rw [List.getElem_cons_drop, List.take_append_drop]
  exact List.perm_middle.symm.trans (List.Perm.of_eq e.symm)
theorem pick_go {α : Type} (next : Nat → Nat) : ∀ fuel k (left : List α) (out : Array α), left.length = fuel → (pickOrder.go next fuel k left out).toList.Perm (out.toList ++ left) := by
  intro fuel
  induction fuel with
  | zero =>
    intro k left out h
    have : left = [] := List.eq_nil_of_length_eq_zero h
    subst this
    unfold pickOrder.go
    rw [List.append_nil]
  | succ fuel ih =>
    intro k left out h
    unfold pickOrder.go
    have hlt : next k % left.length < left.length := Nat.mod_lt _ (by omega)
    rw [List.getElem?_eq_getElem hlt]
    dsimp only
    refine (ih (k + 1) _ _ (by rw [List.length_eraseIdx_of_lt hlt]; omega)).trans ?_
    rw [Array.toList_push, List.append_assoc]
    refine List.Perm.append_left _ ?_
    exact erase_perm hlt
theorem pick_perm {α : Type} (next : Nat → Nat) (xs : Array α) : (pickOrder next xs).toList.Perm xs.toList := by
  unfold pickOrder
  exact (pick_go next xs.size 0 xs.toList #[] (by simp)).trans (by simp)
end L2
set_option Elab.async false
set_option linter.all false
set_option maxRecDepth 100000
set_option maxHeartbeats 4000000
namespace L2
open PySem PySem.Spec PyProof.Rows
noncomputable def byT (w : World) : Bool := w.params.followText "set-order"
noncomputable def Ent (w : World) (e : Int × Value) (k : Key) : Prop := keyIs k e.2 = true ∧ e.1 = keyH w k
theorem key_scan {k : Key} {v : Value} (h : keyIs k v = true) : v.scannable = true := by
  rcases keyIs_shape h with ⟨i, t, rfl, rfl⟩ | ⟨x, t, rfl, rfl⟩ <;> rfl
structure SObj (w : World) (o : Obj) (es : Array (Int × Value)) (ep : Nat) (t : SetTable) (ks : List Key) : Prop where
  exact' : o.ExactSet
  data : o.data = .set es ep t
  ent : Paired (Ent w) es.toList ks
  few : ks.length < scanBound
  fit : t.fits es.size = true
  rt : RT t
  led : t.led = !byT w
noncomputable def SetIs (w : World) (h : Heap) (a : Addr) (ks : List Key) : Prop := ∃ o es ep t, h.get? a = some o ∧ SObj w o es ep t ks
theorem paired_len2 {α β : Type} {F : α → β → Prop} : ∀ {l₁ : List α} {l₂ : List β}, Paired F l₁ l₂ → l₁.length = l₂.length
  | _, _, .nil => rfl
  | _, _, .cons _ t => congrArg (· + 1) (paired_len2 t)
theorem SObj.size {w : World} {o es ep t ks} (S : SObj w o es ep t ks) : es.size = ks.length := by
  have := paired_len2 S.ent
  rwa [Array.length_toList] at this
theorem SObj.elems {prog : Program} {w : World} {o es ep t ks} (S : SObj w o es ep t ks) : ElemsOf (mixKind prog w) es.toList := by
  have : ∀ {l : List (Int × Value)} {ks : List Key}, Paired (Ent w) l ks → ElemsOf (mixKind prog w) l := by
    intro l ks p
    induction p with
    | nil => intro e he; cases he
    | cons hd _ ih =>
      intro e he
      rcases List.mem_cons.mp he with rfl | he
      · exact ⟨⟨_, hd.1, hd.2⟩, key_scan hd.1⟩
      · exact ih e he
  exact this S.ent
theorem paired_perm {α β : Type} {F : α → β → Prop} {l l' : List α} (hp : l'.Perm l) : ∀ {m : List β}, Paired F l m → ∃ m', m'.Perm m ∧ Paired F l' m' := by
  have := hp.symm
  clear hp
  induction this with
  | nil => intro m p; exact ⟨m, .rfl, p⟩
  | cons x _ ih =>
    intro m p
    cases p with
    | cons h t =>
      obtain ⟨m', e, q⟩ := ih t
      exact ⟨_, e.cons _, .cons h q⟩
  | swap x y l =>
    intro m p
    cases p with
    | cons h t => cases t with
      | cons h2 t2 => exact ⟨_, List.Perm.swap _ _ _, .cons h2 (.cons h t2)⟩
  | trans _ _ ih1 ih2 =>
    intro m p
    obtain ⟨m1, e1, q1⟩ := ih1 p
    obtain ⟨m2, e2, q2⟩ := ih2 q1
    exact ⟨m2, e2.trans e1, q2⟩
theorem ent_find {w : World} {k : Key} : ∀ {l : List (Int × Value)} {ks : List Key}, Paired (Ent w) l ks → ((∃ e ∈ l, keyIs k e.2 = true) ↔ k ∈ ks)
  | _, _, .nil => by simp
  | _, _, .cons (a := e) (b := k') h t => by
    have ih := ent_find (k := k) t
    have hk : keyIs k e.2 = true ↔ k = k' := ⟨fun q => (mixKind default w).inj _ _ _ q h.1, fun q => q ▸ h.1⟩
    constructor
    · rintro ⟨x, hx, q⟩
      rcases List.mem_cons.mp hx with rfl | hx
      · exact List.mem_cons.mpr (.inl (hk.mp q))
      · exact List.mem_cons.mpr (.inr (ih.mp ⟨x, hx, q⟩))
    · intro hm
      rcases List.mem_cons.mp hm with rfl | hm
      · exact ⟨e, List.mem_cons_self, h.1⟩
      · obtain ⟨x, hx, q⟩ := ih.mpr hm
        exact ⟨x, List.mem_cons_of_mem _ hx, q⟩
noncomputable def addK (ks : List Key) (k : Key) : List Key := if ks.any (fun y => decide (y = k)) then ks else ks ++ [k]
theorem any_mem {ks : List Key} {k : Key} : ks.any (fun y => decide (y = k)) = true ↔ k ∈ ks := by
  rw [List.any_eq_true]
  exact ⟨fun ⟨y, hy, e⟩ => (of_decide_eq_true e) ▸ hy, fun h => ⟨k, h, decide_eq_true rfl⟩⟩
theorem addK_in {ks : List Key} {k : Key} (h : k ∈ ks) : addK ks k = ks := by unfold addK; rw [if_pos (any_mem.mpr h)]
theorem addK_out {ks : List Key} {k : Key} (h : k ∉ ks) : addK ks k = ks ++ [k] := by unfold addK; rw [if_neg (fun q => h (any_mem.mp q))]
theorem rt_plain_off {t : SetTable} (h : RT t) : RT { t with plain := false } := ⟨h.ris, h.dum⟩
section
variable {prog : Program} {w : World} {A : Around} {E : Value → Shared → Prop} {s : Shared}
theorem wp_byText {Q : Bool → Shared → Prop} (h : Q (byT w) s) : wpAny (model prog w) A setsByText Q E s := by
  unfold setsByText
  exact wpAny_bind (wpAny_askSetting (wpAny_pure h))
theorem wp_choose {src : Source} {n : Nat} {Q : Nat → Shared → Prop} (hn : n ≠ 0) (h : ∀ i d, i < n → Q i { s with drawn := d }) : wpAny (model prog w) A (choose src n) Q E s :=
  fun Γ p hΓ => ⟨hn, h _ _ (Nat.mod_lt _ (Nat.pos_of_ne_zero hn))⟩
theorem store_set {a : Addr} {o : Obj} {es : Array (Int × Value)} {ep : Nat} {t : SetTable} {es' : Array (Int × Value)} {t' : SetTable} (ho : s.heap.get? a = some o) (hd : o.data = .set es ep t) :
    (s.heap.update a (Obj.putSet es' t')).get? a = some { o with data := .set es' (ep + 1) t' } := by
  have := Heap.get?_update_self (Obj.putSet es' t') ho (by rw [putSet_of es' t' hd]; rfl)
  rwa [putSet_of es' t' hd] at this
theorem few_line {n : Nat} (h : n < scanBound) : n ≤ sizeLine := fits_of_scanBound h
theorem add_tail {g : Bool → Sem Unit} (hg : ∀ (b : Bool) (s₁ : Shared) (Q' : Unit → Shared → Prop), Q' () s₁ → wpAny (model prog w) A (g b) Q' E s₁)
    {a : Addr} {o : Obj} {es : Array (Int × Value)} {ep : Nat} {t : SetTable} (gA : s.heap.get? a = some o) (xA : o.ExactSet) (dA : o.data = .set es ep t)
    {es1 : Array (Int × Value)} {t2 : SetTable} {ks : List Key} (p1 : Paired (Ent w) es1.toList ks) (f1 : ks.length < scanBound) (ft : t2.fits es1.size = true) (r2 : RT t2) (l2 : t2.led = !byT w) {wd : Bool} {R : Option Bool → Shared → Prop}
    (h : ∀ h' ks', Heap.SameBut a s.heap h' → SetIs w h' a ks' → ks'.Perm ks → R (some true) { s with heap := h' }) :
    wpAny (model prog w) A (do
        storeSet a es1 t2
        if (!wd && t2.tooFull) = true then do
            g (relayAll t2 es1 (SetTable.grown es1.size)).2.2; storeSet a (relayAll t2 es1 (SetTable.grown es1.size)).1 (relayAll t2 es1 (SetTable.grown es1.size)).2.1
            pure (some true)
          else pure (some true)) R E s := by
  have z1 : es1.size = ks.length := by have := paired_len2 p1; rwa [Array.length_toList] at this
  refine wpAny_bind (wpAny_storeSet_of gA dA ?_ (few_line (by rw [z1]; exact f1)))
  have g1 := store_set (es' := es1) (t' := t2) gA dA
  have b1 := Heap.SameBut.update s.heap a (Obj.putSet es1 t2)
  split
  · have hp := relayAll_perm t2 es1 (SetTable.grown es1.size)
    have hfr := relayAll_fits t2 es1 (SetTable.grown es1.size)
    obtain ⟨hrt, hld⟩ := relayAll_rt t2 r2 es1 (SetTable.grown es1.size)
    generalize relayAll t2 es1 (SetTable.grown es1.size) = Rl at hp hfr hrt hld ⊢
    obtain ⟨es2, t3, gave2⟩ := Rl
    dsimp only at hp hfr hrt hld ⊢
    obtain ⟨ks', e', p2⟩ := paired_perm hp p1
    have f2 : ks'.length < scanBound := by rw [e'.length_eq]; exact f1
    have z2 : es2.size = ks'.length := by have := paired_len2 p2; rwa [Array.length_toList] at this
    refine wpAny_bind (hg _ _ _ (wpAny_bind (wpAny_storeSet_of (o := { o with data := .set es1 (ep + 1) t2 }) g1 rfl ?_ (few_line (by rw [z2]; exact f2)))))
    have g2 := store_set (s := { s with heap := s.heap.update a (Obj.putSet es1 t2) }) (es' := es2) (t' := t3) g1 rfl
    exact wpAny_pure (h _ ks' (b1.trans (Heap.SameBut.update _ a _)) ⟨_, es2, _, t3, g2, ⟨xA, rfl, p2, f2, hfr, hrt, hld.trans l2⟩⟩ e')
  · exact wpAny_pure (h _ ks b1 ⟨_, es1, _, t2, g1, ⟨xA, rfl, p1, f1, ft, r2, l2⟩⟩ .rfl)
theorem add_ok {a : Addr} {ks : List Key} {k : Key} {x : Value} {Q : Bool → Shared → Prop} (hk : keyIs k x = true) (hS : SetIs w s.heap a ks) (hroom : ks.length + 1 < scanBound)
    (h : ∀ h' ks', Heap.SameBut a s.heap h' → SetIs w h' a ks' → ks'.Perm (addK ks k) → ∀ b, Q b { s with heap := h' }) :
    wpAny (model prog w) A (setAddHashed a x (keyH w k)) Q E s := by
  obtain ⟨o, es, ep, t, gA, S⟩ := hS
  have hel := S.elems (prog := prog)
  have hsz := S.size
  have hsc := key_scan hk
  unfold setAddHashed setAddHashedIn
  refine wpAny_holding (wpAny_bind (wpAny_setState_of gA S.data S.fit ?_)); dsimp only
  rw [byScan_of hsc (by rw [hsz]; exact S.few) hel]; simp only [↓reduceIte]
  unfold setAddByScan
  refine wpAny_bind (wpAny_bind (wpAny_rule (wpAny_bind (wpAny_setScan_of (knd := mixKind prog w) (k := k) hk gA S.data S.fit hel ?_))))
  have hf := ent_find (k := k) S.ent
  cases hr : List.findIdx? (fun e => (mixKind prog w).is k e.2) es.toList with
  | some j =>
    dsimp only
    obtain ⟨hj, hpj, _⟩ := List.findIdx?_eq_some_iff_getElem.mp hr
    have hm : k ∈ ks := hf.mp ⟨es.toList[j], List.getElem_mem hj, hpj⟩
    refine wpAny_pure (wpAny_pure ?_)
    have e : s = { s with heap := s.heap } := by cases s; rfl
    have q := h s.heap ks (Heap.SameBut.refl a s.heap) ⟨o, es, ep, t, gA, S⟩ (by rw [addK_in hm]) false
    rw [← e] at q
    exact q
  | none =>
    dsimp only
    have hm : k ∉ ks := fun hm => by
      obtain ⟨e, he, q⟩ := hf.mpr hm
      have := List.findIdx?_eq_none_iff.mp hr e he
      have q' : (mixKind prog w).is k e.2 = true := q
      rw [q'] at this
      exact Bool.noConfusion this
    have hgw : ∀ (b : Bool) {s₁ : Shared} {Q' : Unit → Shared → Prop}, Q' () s₁ → wpAny (model prog w) A (match b with | true => rule "set.scan.the-table-gave-way" | false => pure ()) Q' E s₁ := by
      intro b s₁ Q' hq
      cases b
      · exact wpAny_pure hq
      · exact wpAny_rule hq
    have hperm := layNew_perm t es (keyH w k) x
    have hfits := layNew_fits t es (keyH w k) x
    obtain ⟨hrt, hld⟩ := layNew_rt S.rt es (keyH w k) x
    generalize hL : layNew t es (keyH w k) x = L at hperm hfits hrt hld
    obtain ⟨es1, t1, wd, gave⟩ := L
    dsimp only at hperm hfits hrt hld ⊢
    rw [Array.toList_push] at hperm
    obtain ⟨ks1, e1, p1⟩ := paired_perm hperm (S.ent.snoc (b := k) (show Ent w (keyH w k, x) k from ⟨hk, rfl⟩))
    have f1 : ks1.length < scanBound := by rw [e1.length_eq, List.length_append]; exact hroom
    have fin : ∀ (h' : Heap) (ks' : List Key), Heap.SameBut a s.heap h' → SetIs w h' a ks' → ks'.Perm ks1 → Q true { s with heap := h' } := fun h' ks' b1 b2 b3 => h h' ks' b1 b2 (by rw [addK_out hm]; exact b3.trans e1) true
    refine wpAny_bind (hgw _ ?_)
    split
    · refine wpAny_bind ?_; rw [hashByValue_scannable 8 hsc]
      refine wpAny_pure (add_tail (fun b s₁ Q' hq => by cases b <;> first | exact wpAny_pure hq | exact wpAny_rule hq) gA S.exact' S.data p1 f1 ?_ ?_ ?_ fun h' ks' b1 b2 b3 => ?_)
      · split
        · exact hfits
        · exact SetTable.fits_plain_off hfits
      · split
        · exact hrt
        · exact rt_plain_off hrt
      · split
        · exact hld.trans S.led
        · exact hld.trans S.led
      · exact wpAny_pure (fin h' ks' b1 b2 b3)
    · refine wpAny_bind (wpAny_pure ?_); simp only [↓reduceIte]
      refine add_tail (fun b s₁ Q' hq => by cases b <;> first | exact wpAny_pure hq | exact wpAny_rule hq) gA S.exact' S.data p1 f1 hfits hrt (hld.trans S.led) fun h' ks' b1 b2 b3 => ?_
      exact wpAny_pure (fin h' ks' b1 b2 b3)
end
end L2
set_option Elab.async false
set_option linter.all false
set_option maxRecDepth 100000
set_option maxHeartbeats 4000000
namespace L2
open PySem PySem.Spec PyProof.Rows
noncomputable def dedK (ks : List Key) : List Key := ks.foldl addK []
theorem addK_perm {a b : List Key} (h : a.Perm b) (k : Key) : (addK a k).Perm (addK b k) := by
  by_cases hk : k ∈ b
  · rw [addK_in hk, addK_in (h.mem_iff.mpr hk)]; exact h
  · rw [addK_out hk, addK_out (fun q => hk (h.mem_iff.mp q))]; exact h.append_right _
theorem addK_len (a : List Key) (k : Key) : (addK a k).length ≤ a.length + 1 := by
  unfold addK
  split
  · exact Nat.le_succ _
  · rw [List.length_append]; exact Nat.le_refl _
theorem foldK_len (ks : List Key) : ∀ a : List Key, (ks.foldl addK a).length ≤ a.length + ks.length := by
  induction ks with
  | nil => intro a; exact Nat.le_refl _
  | cons k ks ih =>
    intro a
    have h1 := ih (addK a k)
    have h2 := addK_len a k
    rw [List.foldl_cons, List.length_cons]
    omega
theorem dedK_len (ks : List Key) : (dedK ks).length ≤ ks.length := by
  have := foldK_len ks []
  rw [List.length_nil] at this
  unfold dedK
  omega
theorem dedK_snoc (ks : List Key) (k : Key) : dedK (ks ++ [k]) = addK (dedK ks) k := by
  unfold dedK
  rw [List.foldl_append]
  rfl
noncomputable def SetP (w : World) (h : Heap) (a : Addr) (ks : List Key) : Prop := ∃ ks', SetIs w h a ks' ∧ ks'.Perm ks
theorem SetIs.at {w : World} {h h' : Heap} {a : Addr} {ks : List Key} (x : SetIs w h a ks) (k : ∀ o, h.get? a = some o → h'.get? a = some o) : SetIs w h' a ks := by
  obtain ⟨o, es, ep, t, g, S⟩ := x
  exact ⟨o, es, ep, t, k _ g, S⟩
theorem SetP.at {w : World} {h h' : Heap} {a : Addr} {ks : List Key} (x : SetP w h a ks) (k : ∀ o, h.get? a = some o → h'.get? a = some o) : SetP w h' a ks := by
  obtain ⟨ks', g, e⟩ := x
  exact ⟨ks', g.at k, e⟩
theorem SetP.lt {w : World} {h : Heap} {a : Addr} {ks : List Key} (x : SetP w h a ks) : a < h.objs.size := by
  obtain ⟨_, ⟨_, _, _, _, g, _⟩, _⟩ := x
  exact Heap.lt_size g
theorem SetP.type {w : World} {s : Shared} {a : Addr} {ks : List Key} (x : SetP w s.heap a ks) : s.TypeIs (.ref a) "set" := by
  obtain ⟨_, ⟨o, _, _, _, g, S⟩, _⟩ := x
  exact ⟨o, g, S.exact'.1⟩
noncomputable def freshSet (w : World) : Obj := { cls := .type "set", dict := none, data := .set #[] 0 (.fresh 0 0 (!byT w)) }
theorem fresh_is {w : World} {h : Heap} {a : Addr} (g : h.get? a = some (freshSet w)) : SetIs w h a [] :=
  ⟨_, #[], 0, _, g, ⟨⟨rfl, rfl, rfl⟩, rfl, .nil, by decide, rfl, ⟨fun i j _ hj => absurd hj (Nat.not_lt_zero _), rfl⟩, rfl⟩⟩
section
variable {prog : Program} {w : World} {A : Around} {R : Result → Shared → Prop} {I : Addr} {fp wr : List Addr} {G : Array GenState → Array GenState → Prop} {n : Nat} {P : Nat → Value → Prop} {St : Nat → Shared → Prop}
theorem upd_loop (W : WalksS prog w A.in1 I fp wr G n P St) (S : Addr) (nS : S ∉ fp) (val : List Key) (hn : val.length = n) (hv : ∀ i v, P i v → ∃ k, val[i]? = some k ∧ keyIs k v = true) (hb : n + 1 < scanBound) :
    ∀ (k i : Nat) (s : Shared), n - i = k → i ≤ n → St i s → SetP w s.heap S (dedK (val.take i)) →
      (∀ s', Moved (S :: wr) G s s' → SetP w s'.heap S (dedK val) → R (.ok (.ret .none)) s') →
      codeAny (model prog w) A (.builtin "set.update.loop" ⟨[.ref S, .ref I], []⟩) R s := by
  have nW : S ∉ wr := fun h => nS (W.sub _ h)
  have up : ∀ b ∈ wr, b ∈ S :: wr := fun b hb => List.mem_cons_of_mem _ hb
  intro k
  induction k with
  | zero =>
    intro i s e1 e2 st hS hR
    have ei : i = n := by omega
    subst ei
    refine codeAny_builtin PyProof.Rows.F.entry_set_update_loop ?_; rw [Around.under_plainId PyProof.Rows.F.plain_set_update_loop _]
    show wpAny _ A.in1 (pyNext (.ref I) >>= _) _ _ s; refine wpAny_bind (W.done s _ _ st fun s' hm => ?_)
    show wpAny _ A.in1 (ret Value.none) _ _ s'; refine wpAny_pure (hR s' (hm.mono up) ?_)
    rw [List.take_of_length_le (Nat.le_of_eq hn)] at hS
    exact hS.at fun o e => hm.heap S _ nW e
  | succ k ih =>
    intro i s e1 e2 st hS hR
    have hlt : i < n := by omega
    refine codeAny_builtin PyProof.Rows.F.entry_set_update_loop ?_; rw [Around.under_plainId PyProof.Rows.F.plain_set_update_loop _]
    show wpAny _ A.in1 (pyNext (.ref I) >>= _) _ _ s; refine wpAny_bind (W.item i s _ _ hlt st fun v s' hP st' hm => ?_)
    obtain ⟨kk, hkk, hi⟩ := hv i v hP
    obtain ⟨ks', hS', ep⟩ : SetP w s'.heap S (dedK (val.take i)) := hS.at fun o e => hm.heap S _ nW e
    show wpAny _ A.in1 (holding [v] (setAdd S v) >>= _) _ _ s'
    refine wpAny_bind (wpAny_holding ?_)
    unfold setAdd
    refine wpAny_holding (wpAny_bind ((mixKind prog w).pyHash (k := kk) hi ?_))
    have hl : ks'.length ≤ i := by
      rw [ep.length_eq]
      exact Nat.le_trans (dedK_len _) (by rw [List.length_take]; exact Nat.min_le_left _ _)
    refine add_ok (s := { s' with toks := s'.toks + 1 }) hi hS' (by omega) fun h' ks2 hsb hS2 e2' b => ?_
    have hnext : SetP w h' S (dedK (val.take (i + 1))) := by
      refine ⟨ks2, hS2, ?_⟩
      rw [List.take_add_one, hkk]
      show ks2.Perm (dedK (val.take i ++ [kk]))
      rw [dedK_snoc]
      exact e2'.trans (addK_perm ep kk)
    refine wpAny_pure ⟨plainId_quiet PyProof.Rows.F.plain_set_update_loop _, ih (i + 1) _ (by omega) hlt (W.frame _ s' _ _ st' (Nat.le_succ _) fun b hb o e => ?_) hnext fun s'' hm'' hS'' => ?_⟩
    · exact (hsb.2 b (fun h : b = S => nS (by rw [← h]; exact hb))).trans e
    · refine hR s'' (Moved.trans W.gtrans ((hm.mono up).then_heap (Nat.le_succ _) fun b o hb e => ?_) hm'') hS''
      exact (hsb.2 b (fun h : b = S => hb (by rw [h]; exact List.mem_cons_self))).trans e
end
noncomputable def Src (prog : Program) (w : World) (x : Value) (h0 : Heap) (n : Nat) (P : Nat → Value → Prop) : Prop :=
  ∀ s₁ : Shared, (∀ b o, h0.get? b = some o → s₁.heap.get? b = some o) → ∃ (oI : Obj) (fp : List Addr) (St : Nat → Heap → Prop), oI.isFreed = false ∧ (∀ b ∈ fp, b = s₁.heap.objs.size ∨ b < h0.objs.size) ∧ St 0 (s₁.heap.push oI) ∧
    (∀ (A' : Around) (Q : Value → Shared → Prop) (E : Value → Shared → Prop), A'.handled = none → Q (.ref s₁.heap.objs.size) { s₁ with heap := s₁.heap.push oI } → wpAny (model prog w) A' (pyIter x) Q E s₁) ∧
    ∀ A' : Around, A'.handled = none → Walks prog w A' s₁.heap.objs.size fp [s₁.heap.objs.size] n P St
section
variable {prog : Program} {w : World} {A : Around} {E : Value → Shared → Prop} {s : Shared}
theorem src_list {l : Addr} {items : Array Value} (hl : s.heap.IsList l items) : Src prog w (.ref l) s.heap items.size (fun i v => items[i]? = some v) := fun s₁ hk => by
  have hl1 : s₁.heap.IsList l items := hl.at fun o e => hk _ _ e
  obtain ⟨o0, ho0, _⟩ := hl
  have ne : l ≠ s₁.heap.objs.size := Nat.ne_of_lt (Heap.lt_size (hk _ _ ho0))
  refine ⟨{ cls := .type "list_iterator", data := .fields #[.ref l, .int 0 0] }, [s₁.heap.objs.size, l], _, rfl, fun b hb => ?_, ?_, fun A' Q E' hh q => wpAny_pyIter_list hl1 q, fun A' hh => Walks.list hh _ l ne items⟩
  · rcases List.mem_cons.mp hb with e | e
    · exact .inl e
    · rw [List.mem_singleton.mp e]; exact .inr (Heap.lt_size ho0)
  · exact ⟨⟨_, Heap.get?_push_size _ rfl, rfl, rfl⟩, hl1.push _⟩
theorem code_new_set (a : Value) {Q₁ : Value → Shared → Prop} (h : Q₁ (.ref s.heap.objs.size) { s with heap := s.heap.push (freshSet w) }) :
    codeAny (model prog w) A (.call (.builtin "set.__new__") ⟨[.type "set", a], []⟩) (wants Q₁ E) s := by
  refine codeAny_of_tree ?_
  show wpAny _ A.in1 (checkBuiltinCall "set.__new__" ⟨[.type "set", a], []⟩ >>= fun _ => again (.builtin "set.__new__" ⟨[.type "set", a], []⟩)) _ _ s
  refine wpAny_bind (wpAny_of_eq (PySem.F.newCall_set_1 a) (wpAny_pure ⟨plainId_quiet F.plain_set_new _, codeAny_builtin F.entry_set_new ?_⟩)); rw [Around.under_plainId F.plain_set_new _]
  unfold Builtin.«set.__new__» Builtin.Frozenset.newClass
  have hsub := sub_set_self
  obtain ⟨hp, g, d, tk, os⟩ := s
  dsimp only
  wp_walk
  refine wpAny_askSetting (wpAny_pure ?_); dsimp only
  simp only [newObj]
  exact wpAny_bind (wpAny_alloc (wpAny_pure (wpAny_pure h)))
end
end L2
set_option Elab.async false
set_option linter.all false
set_option maxRecDepth 100000
set_option maxHeartbeats 4000000
namespace L2
open PySem PySem.Spec PyProof.Rows
section
variable {prog : Program} {w : World} {A : Around} {E : Value → Shared → Prop} {s : Shared}
theorem call_set_src {x : Value} {T : String} {n : Nat} {P : Nat → Value → Prop} {val : List Key} {Q : Value → Shared → Prop} (hh : A.handled = none) (hx : Src prog w x s.heap n P)
    (tx : ∀ s₁ : Shared, (∀ b o, s.heap.get? b = some o → s₁.heap.get? b = some o) → s₁.TypeIs x T) (n1 : isSubtype (.type T) (.type "set") = pure false) (n2 : isSubtype (.type T) (.type "frozenset") = pure false) (n3 : (Value.type T == Value.type "dict") = false)
    (hn : val.length = n) (hv : ∀ i v, P i v → ∃ k, val[i]? = some k ∧ keyIs k v = true) (hb : n + 1 < scanBound)
    (h : ∀ (h' : Heap) (tk : Nat), SetP w h' s.heap.objs.size (dedK val) → (∀ b o, s.heap.get? b = some o → h'.get? b = some o) → Q (.ref s.heap.objs.size) { s with heap := h', toks := tk }) :
    wpAny (model prog w) A (call (.type "set") [x]) Q E s := by
  obtain ⟨c, tl, hmro⟩ := F.called_set.mro
  have hmade := F.called_set.made
  have hsub := F.called_set.sub
  refine wpAny_call (codeAny_of_tree ?_); show wpAny _ _ (callAny (.type "set") _) _ _ _
  refine wpAny_pure ⟨Code.quiet_builtin _ (by decide +kernel), codeAny_builtin F.entry_type_call ?_⟩; rw [Around.under_plain (weight_type_call_type "set" [x] []) rfl]
  have h1 := F.called_set.notType
  have h2 := F.called_set.canCreate
  have hct := PySem.F.typeCall_set_1 x
  repeat (any_goals (first | assumption | wp_step))
  refine codeAny_mono (code_new_set x (E := E) (Q₁ := fun obj s₁ => obj = .ref s.heap.objs.size ∧ s₁ = { s with heap := s.heap.push (freshSet w) }) ⟨rfl, rfl⟩) fun r s₁ hr => ?_
  cases r with
  | error e => exact hr
  | ok fl => cases fl with
    | ret obj =>
      obtain ⟨rfl, rfl⟩ := hr
      have gS : (s.heap.push (freshSet w)).get? s.heap.objs.size = some (freshSet w) := Heap.get?_push_size _ rfl
      have hT : Shared.TypeIs { s with heap := s.heap.push (freshSet w) } (.ref s.heap.objs.size) "set" := ⟨_, gS, rfl⟩
      have hli := F.called_set.init.lookup
      have hbi := F.called_set.init.bind (.ref s.heap.objs.size)
      repeat (any_goals (first | assumption | wp_step))
      refine codeAny_mono (codeAny_call_builtin (R := wants (fun r s₂ => r = .none ∧ ∃ h' tk, s₂ = { s with heap := h', toks := tk } ∧ SetP w h' s.heap.objs.size (dedK val) ∧ (∀ b o, s.heap.get? b = some o → h'.get? b = some o)) E) F.called_set.init.plain F.entry_set_init (check_set_init_1 hT ?_)) fun r₂ s₂ hr₂ => ?_
      · obtain ⟨hp, g, d, tk0, os⟩ := s
        dsimp only at *
        have kp : ∀ b o, hp.get? b = some o → (hp.push (freshSet w)).get? b = some o := fun b o e => Heap.get?_push_of_some _ e
        have hTx : Shared.TypeIs { heap := hp.push (freshSet w), gens := g, drawn := d, toks := tk0, os := os } x T := tx _ kp
        unfold Builtin.«set.__init__» noKeywords Builtin.Frozenset.updateFrom
        generalize hPI : pyIter = PI
        unfold freshSet at *
        wp_walk
        subst hPI
        obtain ⟨oI, fp, St, hf, hfp, st0, hit, hW⟩ := hx { heap := hp.push (freshSet w), gens := g, drawn := d, toks := tk0, os := os } kp
        refine hit _ _ _ (by simp [hh]) (wpAny_bind (wpAny_runValue ?_))
        have eS : (hp.push (freshSet w)).objs.size = hp.objs.size + 1 := size_push' _ _
        have nS : hp.objs.size ∉ fp := fun hm => by
          rcases hfp _ hm with e | e
          · rw [eS] at e; exact absurd e (Nat.ne_of_lt (Nat.lt_succ_self _))
          · exact Nat.lt_irrefl _ e
        refine upd_loop (hW _ (by simp [hh])).toS hp.objs.size nS val hn hv hb n 0 _ rfl (Nat.zero_le _) st0 ?_ fun s' hm hS' => ?_
        · exact ⟨[], fresh_is (Heap.get?_push_of_some _ gS), .rfl⟩
        · obtain ⟨h', g', d', tk', os'⟩ := s'
          obtain rfl : g' = g := hm.gens
          obtain rfl : d' = d := hm.drawn
          obtain rfl : os' = os := hm.os
          refine wpAny_pure ?_
          show wpAny _ _ (ret Value.none) _ _ _
          refine wpAny_pure ⟨rfl, h', tk', rfl, hS', fun b o e => ?_⟩
          have lb : b < hp.objs.size := Heap.lt_size e
          refine hm.heap b o (fun hmem => ?_) (Heap.get?_push_of_some _ (kp b o e))
          rcases List.mem_cons.mp hmem with q | q
          · exact absurd q (Nat.ne_of_lt lb)
          · have q := List.mem_singleton.mp q
            rw [eS] at q
            exact absurd q (Nat.ne_of_lt (Nat.lt_succ_of_lt lb))
      · cases r₂ with
        | error e => exact hr₂
        | ok fl₂ => cases fl₂ with
          | ret r =>
            obtain ⟨rfl, h', tk, rfl, hS', hk'⟩ := hr₂
            repeat (any_goals (first | assumption | wp_step))
            exact h _ _ hS' hk'
          | _ => exact hr₂.elim
    | _ => exact hr.elim
end
end L2
set_option Elab.async false
set_option linter.all false
set_option maxRecDepth 100000
set_option maxHeartbeats 4000000
namespace L2
open PySem PySem.Spec PyProof.Rows
theorem slot_si_next : Slot "set_iterator" "__next__" "set_iterator.__next__" :=
  .of (owner := "set_iterator") (n := "__next__") (by rw [typeLookup_type, builtinLookup_eq_fast]; kernel_rfl) (by decide +kernel) (by decide +kernel) (by decide +kernel) (by first | exact .inl (by decide +kernel) | exact .inr (by decide +kernel)) (by rw [isSubtype_type]; kernel_rfl)
theorem entry_si_next : entryFor table "set_iterator.__next__" = some Builtin.«set_iterator.__next__» := entryFor_of_tree (by kernel_rfl)
theorem args_si_next (a : Value) : argsOk "set_iterator.__next__" ⟨[a], []⟩ := by unfold argsOk; kernel_rfl
theorem entry_s_iter : entryFor table "set.__iter__" = some Builtin.«frozenset.__iter__» := entryFor_alias (id' := "frozenset.__iter__") (by kernel_rfl) rfl (by decide +kernel) (by kernel_rfl)
noncomputable def SIter (h : Heap) (I : Addr) (f : Value) (i : Nat) (a : Addr) (n ep : Nat) : Prop := ∃ o, h.get? I = some o ∧ o.cls = .type "set_iterator" ∧ o.data = .fields #[f, rawInt i, .ref a, rawInt n, rawInt ep]
theorem SIter.type {s : Shared} {I f i a n ep} (x : SIter s.heap I f i a n ep) : s.TypeIs (.ref I) "set_iterator" := by
  obtain ⟨o, g, c, _⟩ := x
  exact ⟨o, g, c⟩
noncomputable def SAt (w : World) (h : Heap) (a : Addr) (es : Array (Int × Value)) (ep : Nat) (t : SetTable) (ks : List Key) : Prop := ∃ o, h.get? a = some o ∧ SObj w o es ep t ks
section
variable {prog : Program} {w : World} {A : Around} {E : Value → Shared → Prop} {s : Shared}
theorem fld_upd {h : Heap} {I : Addr} {o : Obj} {fs : Array Value} (k : Nat) (v : Value) (g : h.get? I = some o) (d : o.data = .fields fs) :
    ∃ o', (h.update I (Obj.mapFields (·.setIfInBounds k v))).get? I = some o' ∧ o'.cls = o.cls ∧ o'.data = .fields (fs.setIfInBounds k v) :=
  ⟨_, Heap.get?_update_self _ g (Obj.isFreed_of_fields (Obj.data_mapFields d _)), Obj.cls_mapFields .., Obj.data_mapFields d _⟩
theorem next_item {I a : Addr} {sl i n ep : Nat} {es : Array (Int × Value)} {t : SetTable} {ks : List Key} {x : Value} {nx : Nat} {Q : Option Value → Shared → Prop} (it : SIter s.heap I (rawInt sl) i a n ep) (sa : SAt w s.heap a es ep t ks) (hn : es.size = n)
    (nxt : ∀ (A' : Around) (E' : Value → Shared → Prop) (Q' : Option (Value × Nat) → Shared → Prop), Q' (some (x, nx)) s → wpAny (model prog w) A' (setNext a sl i ep) Q' E' s)
    (h : ∀ h', SIter h' I (rawInt nx) (i + 1) a n ep → Heap.SameBut I s.heap h' → Q (some x) { s with heap := h' }) : wpAny (model prog w) A (pyNext (.ref I)) Q E s := by
  obtain ⟨o, g, c, dt⟩ := id it
  obtain ⟨os, gs, S⟩ := sa
  unfold pyNext
  refine wpAny_bind (wpAny_attempt (wpAny_callSpecial?_slot (name := Str.ofString "__next__") it.type slot_si_next (wpAny_call_entry slot_si_next it.type entry_si_next ?_ (args_si_next _))))
  unfold Builtin.«set_iterator.__next__»
  refine wpAny_bind (wpAny_pure ?_); dsimp only
  refine wpAny_bind (wpAny_fieldsOf g dt ?_); simp only [rawInt]
  refine wpAny_bind (wpAny_setEntries_of gs S.data S.fit ?_); rw [if_neg (by rw [hn]; simp)]
  simp only [Int.toNat_natCast]
  refine wpAny_bind (nxt _ _ _ ?_)
  dsimp only
  refine wpAny_bind (wpAny_setField g dt (by simp) ?_)
  obtain ⟨o1, g1, c1, d1⟩ := fld_upd 0 (Value.int (nx : Int) 0) g dt
  refine wpAny_bind (wpAny_setField (s := { s with heap := s.heap.update I (Obj.mapFields (·.setIfInBounds 0 (Value.int (nx : Int) 0))) }) g1 d1 (by simp) ?_)
  obtain ⟨o2, g2, c2, d2⟩ := fld_upd 1 (Value.int ((i : Int) + 1) 0) g1 d1
  refine wpAny_pure ⟨_, rfl, wpAny_pure (h _ ⟨o2, g2, c2.trans (c1.trans c), ?_⟩ ((Heap.SameBut.update _ I _).trans (Heap.SameBut.update _ I _)))⟩
  rw [d2]
  simp [rawInt]
theorem stop_here {I : Addr} {o : Obj} {fs : Array Value} {Q : Option Value → Shared → Prop} {Q1 : PySem.Fin → Shared → Prop} (hh : A.handled = none) (g : s.heap.get? I = some o) (dt : o.data = .fields fs) (hz : 2 < fs.size)
    (h : ∀ h', Heap.ExtBut I s.heap h' → Q none { s with heap := h' }) :
    wpAny (model prog w) A.in1 (setField (.ref I) 2 .none >>= fun _ => newExc (.type "StopIteration") [] >>= fun e => raiseNew e) Q1
      (fun e s' => wpAny (model prog w) A (isInstance e (.type "StopIteration") >>= fun b => if b = true then pure none else throw e) Q E s') s := by
  refine wpAny_bind (wpAny_setField g dt hz ?_)
  refine wpAny_bind ?_
  simp only [newExc, newTuple]
  refine wpAny_bind (wpAny_newObj_type ?_ (by size_fits)); refine wpAny_bind (m := firstArgMember _ _) (wpAny_of_eq (a := Value.none) (by first | rfl | (simp only [firstArgMember]; rfl)) ?_)
  refine wpAny_newObj_type ?_ (by size_fits); simp only [raiseNew]
  refine wpAny_bind (wpAny_handled ?_); rw [show A.in1.handled = none from hh]
  refine wpAny_bind (wpAny_pure (wpAny_throw ?_)); refine wpAny_bind (wpAny_isInstance (T := "StopIteration") (b := true) ⟨_, Heap.get?_push_size _ rfl, rfl⟩ isSubtype_stop ?_)
  exact wpAny_pure (h _ (((Heap.SameBut.update ..).extBut.push _).push _))
theorem next_end {I a : Addr} {sl i n ep : Nat} {es : Array (Int × Value)} {t : SetTable} {ks : List Key} {Q : Option Value → Shared → Prop} (hh : A.handled = none) (it : SIter s.heap I (rawInt sl) i a n ep) (sa : SAt w s.heap a es ep t ks) (hn : es.size = n)
    (nxt : ∀ (A' : Around) (E' : Value → Shared → Prop) (Q' : Option (Value × Nat) → Shared → Prop), Q' none s → wpAny (model prog w) A' (setNext a sl i ep) Q' E' s)
    (h : ∀ h', Heap.ExtBut I s.heap h' → Q none { s with heap := h' }) : wpAny (model prog w) A (pyNext (.ref I)) Q E s := by
  obtain ⟨o, g, c, dt⟩ := id it
  obtain ⟨os, gs, S⟩ := sa
  unfold pyNext
  refine wpAny_bind (wpAny_attempt (wpAny_callSpecial?_slot (name := Str.ofString "__next__") it.type slot_si_next (wpAny_call_entry slot_si_next it.type entry_si_next ?_ (args_si_next _))))
  unfold Builtin.«set_iterator.__next__»
  refine wpAny_bind (wpAny_pure ?_); dsimp only
  refine wpAny_bind (wpAny_fieldsOf g dt ?_); simp only [rawInt]
  refine wpAny_bind (wpAny_setEntries_of gs S.data S.fit ?_); rw [if_neg (by rw [hn]; simp)]
  simp only [Int.toNat_natCast]
  refine wpAny_bind (nxt _ _ _ ?_)
  dsimp only
  exact stop_here hh g dt (by simp) h
noncomputable def TupAt (h : Heap) (T : Addr) (ps : List Nat) : Prop := ∃ o n, h.get? T = some o ∧ o.data = .seq (ps.map fun (p : Nat) => rawInt p).toArray n
theorem nextD_item {I a T : Addr} {i n ep p : Nat} {ps : List Nat} {es : Array (Int × Value)} {t : SetTable} {ks : List Key} {e : Int × Value} {Q : Option Value → Shared → Prop} (it : SIter s.heap I (.ref T) i a n ep) (tp : TupAt s.heap T ps) (sa : SAt w s.heap a es ep t ks) (hn : es.size = n)
    (hp : ps[i]? = some p) (he : es[p]? = some e) (h : ∀ h', SIter h' I (.ref T) (i + 1) a n ep → Heap.SameBut I s.heap h' → Q (some e.2) { s with heap := h' }) : wpAny (model prog w) A (pyNext (.ref I)) Q E s := by
  obtain ⟨o, g, c, dt⟩ := id it
  obtain ⟨os, gs, S⟩ := sa
  obtain ⟨ot, nt, gt, dtt⟩ := tp
  unfold pyNext
  refine wpAny_bind (wpAny_attempt (wpAny_callSpecial?_slot (name := Str.ofString "__next__") it.type slot_si_next (wpAny_call_entry slot_si_next it.type entry_si_next ?_ (args_si_next _))))
  unfold Builtin.«set_iterator.__next__»
  refine wpAny_bind (wpAny_pure ?_); dsimp only
  refine wpAny_bind (wpAny_fieldsOf g dt ?_); simp only [rawInt]
  refine wpAny_bind (wpAny_setEntries_of gs S.data S.fit ?_); rw [if_neg (by rw [hn]; simp)]
  refine wpAny_bind (wpAny_seqItems gt dtt ?_)
  dsimp only
  have e1 : (ps.map fun (p : Nat) => rawInt p).toArray[((i : Int)).toNat]? = some (Value.int (p : Int) 0) := by simp [hp, rawInt]
  rw [e1]
  dsimp only
  unfold setNextDrawn
  simp only [Int.toNat_natCast]
  refine wpAny_bind (wpAny_bind (wpAny_setState_of gs S.data S.fit ?_))
  dsimp only
  rw [if_neg (by simp)]
  rw [he]
  refine wpAny_pure ?_
  refine wpAny_bind (wpAny_setField g dt (by simp) ?_)
  obtain ⟨o2, g2, c2, d2⟩ := fld_upd 1 (Value.int ((i : Int) + 1) 0) g dt
  refine wpAny_pure ⟨_, rfl, wpAny_pure (h _ ⟨o2, g2, c2.trans c, ?_⟩ (Heap.SameBut.update _ I _))⟩
  rw [d2]
  simp [rawInt]
theorem nextD_end {I a T : Addr} {i n ep : Nat} {ps : List Nat} {es : Array (Int × Value)} {t : SetTable} {ks : List Key} {Q : Option Value → Shared → Prop} (hh : A.handled = none) (it : SIter s.heap I (.ref T) i a n ep) (tp : TupAt s.heap T ps) (sa : SAt w s.heap a es ep t ks) (hn : es.size = n)
    (hp : ps[i]? = none) (h : ∀ h', Heap.ExtBut I s.heap h' → Q none { s with heap := h' }) : wpAny (model prog w) A (pyNext (.ref I)) Q E s := by
  obtain ⟨o, g, c, dt⟩ := id it
  obtain ⟨os, gs, S⟩ := sa
  obtain ⟨ot, nt, gt, dtt⟩ := tp
  unfold pyNext
  refine wpAny_bind (wpAny_attempt (wpAny_callSpecial?_slot (name := Str.ofString "__next__") it.type slot_si_next (wpAny_call_entry slot_si_next it.type entry_si_next ?_ (args_si_next _))))
  unfold Builtin.«set_iterator.__next__»
  refine wpAny_bind (wpAny_pure ?_); dsimp only
  refine wpAny_bind (wpAny_fieldsOf g dt ?_); simp only [rawInt]
  refine wpAny_bind (wpAny_setEntries_of gs S.data S.fit ?_); rw [if_neg (by rw [hn]; simp)]
  refine wpAny_bind (wpAny_seqItems gt dtt ?_)
  dsimp only
  have e1 : (ps.map fun (p : Nat) => rawInt p).toArray[((i : Int)).toNat]? = none := by
    have := List.getElem?_eq_none_iff.mp hp
    simp [this]
  rw [e1]
  dsimp only
  refine wpAny_bind (wpAny_setField g dt (by simp) ?_)
  obtain ⟨o1, g1, c1, d1⟩ := fld_upd 0 (Value.int 0 0) g dt
  refine stop_here (s := { s with heap := s.heap.update I (Obj.mapFields (·.setIfInBounds 0 (Value.int 0 0))) }) hh g1 d1 (by simp) fun h' q => h h' ?_
  exact fun b o hb e => q b o hb (((Heap.SameBut.update s.heap I _).2 b hb).trans e)
end
end L2
set_option Elab.async false
set_option linter.all false
set_option maxRecDepth 100000
set_option maxHeartbeats 4000000
namespace L2
open PySem PySem.Spec PyProof.Rows
theorem slot_si_iter : Slot "set_iterator" "__iter__" "set_iterator.__iter__" :=
  .of (owner := "set_iterator") (n := "__iter__") (by rw [typeLookup_type, builtinLookup_eq_fast]; kernel_rfl) (by decide +kernel) (by decide +kernel) (by decide +kernel) (by first | exact .inl (by decide +kernel) | exact .inr (by decide +kernel)) (by rw [isSubtype_type]; kernel_rfl)
theorem entry_si_iter : entryFor table "set_iterator.__iter__" = some Builtin.«dict_keyiterator.__iter__» := entryFor_alias (id' := "dict_keyiterator.__iter__") (by kernel_rfl) rfl (by decide +kernel) (by kernel_rfl)
theorem args_si_iter (a : Value) : argsOk "set_iterator.__iter__" ⟨[a], []⟩ := by unfold argsOk; kernel_rfl
theorem SAt.at {w : World} {h h' : Heap} {a : Addr} {es ep t ks} (x : SAt w h a es ep t ks) (k : ∀ o, h.get? a = some o → h'.get? a = some o) : SAt w h' a es ep t ks := by
  obtain ⟨o, g, S⟩ := x
  exact ⟨o, k _ g, S⟩
theorem SIter.at {h h' : Heap} {I f i a n ep} (x : SIter h I f i a n ep) (k : ∀ o, h.get? I = some o → h'.get? I = some o) : SIter h' I f i a n ep := by
  obtain ⟨o, g, r⟩ := x
  exact ⟨o, k _ g, r⟩
theorem TupAt.at {h h' : Heap} {T ps} (x : TupAt h T ps) (k : ∀ o, h.get? T = some o → h'.get? T = some o) : TupAt h' T ps := by
  obtain ⟨o, n, g, r⟩ := x
  exact ⟨o, n, k _ g, r⟩
section
variable {prog : Program} {w : World} {A : Around} {E : Value → Shared → Prop} {s : Shared} {I a T : Addr} {es xs : Array (Int × Value)} {ep : Nat} {t : SetTable} {ks : List Key}
theorem iter_self {f : Value} {i n : Nat} {Q : Value → Shared → Prop} (it : SIter s.heap I f i a n ep) (h : Q (.ref I) s) : wpAny (model prog w) A (pyIter (.ref I)) Q E s := by
  refine wpAny_pyIter_slot it.type slot_si_iter (wpAny_call_entry slot_si_iter it.type entry_si_iter ?_ (args_si_iter _))
  show wpAny _ _ (ret (.ref I)) _ _ s; exact wpAny_pure ⟨_, rfl, "set_iterator", _, it.type, slot_si_next.lookup, h⟩
theorem walk_int (hne : a ≠ I) (sl : Nat → Nat) (hx : xs.size = es.size)
    (nx : ∀ (i : Nat) (s : Shared) (A' : Around) (E' : Value → Shared → Prop) (Q' : Option (Value × Nat) → Shared → Prop), SAt w s.heap a es ep t ks → i ≤ es.size → Q' ((xs[i]?).map fun e => (e.2, sl (i + 1))) s → wpAny (model prog w) A' (setNext a (sl i) i ep) Q' E' s) (hh : A.handled = none) :
    Walks prog w A I [I, a] [I] es.size (fun i v => ∃ e, xs[i]? = some e ∧ e.2 = v) (fun i h => SIter h I (rawInt (sl i)) i a es.size ep ∧ SAt w h a es ep t ks) where
  sub := fun b hb => by simp at hb; simp [hb]
  frame := fun _ _ _ st hk => ⟨st.1.at fun o e => hk I (by simp) o e, st.2.at fun o e => hk a (by simp) o e⟩
  item := fun i s Q E hi st hQ => by
    have hi' : i < xs.size := by rw [hx]; exact hi
    refine next_item (x := xs[i].2) (nx := sl (i + 1)) st.1 st.2 rfl (fun A' E' Q' q => nx i s A' E' Q' st.2 (Nat.le_of_lt hi) ?_) fun h' it' hs => ?_
    · rw [Array.getElem?_eq_getElem hi']; exact q
    · exact hQ _ h' s.toks ⟨xs[i], Array.getElem?_eq_getElem hi', rfl⟩ ⟨it', st.2.at fun o e => (hs.2 a hne).trans e⟩ fun b o hb e => (hs.2 b (fun q => hb (by simp [q]))).trans e
  done := fun s Q E st hQ => by
    refine next_end hh st.1 st.2 rfl (fun A' E' Q' q => nx es.size s A' E' Q' st.2 (Nat.le_refl _) ?_) fun h' hs => hQ h' s.toks fun b o hb e => hs b o (fun q => hb (by simp [q])) e
    rw [Array.getElem?_eq_none (by rw [hx]; exact Nat.le_refl _)]; exact q
  self := fun i s Q E st q => iter_self st.1 q
theorem walk_drawn (hne : a ≠ I) (hT : T ≠ I) (ps : List Nat) (hp : ps.length = es.size) (hb : ∀ p ∈ ps, p < es.size) (hh : A.handled = none) :
    Walks prog w A I [I, a, T] [I] es.size (fun i v => ∃ p e, ps[i]? = some p ∧ es[p]? = some e ∧ e.2 = v) (fun i h => SIter h I (.ref T) i a es.size ep ∧ SAt w h a es ep t ks ∧ TupAt h T ps) where
  sub := fun b hb => by simp at hb; simp [hb]
  frame := fun _ _ _ st hk => ⟨st.1.at fun o e => hk I (by simp) o e, st.2.1.at fun o e => hk a (by simp) o e, st.2.2.at fun o e => hk T (by simp) o e⟩
  item := fun i s Q E hi st hQ => by
    have hi' : i < ps.length := by rw [hp]; exact hi
    have h1 : ps[i]? = some ps[i] := List.getElem?_eq_getElem hi'
    have h2 : ps[i] < es.size := hb _ (List.getElem_mem hi')
    have h3 : es[ps[i]]? = some es[ps[i]] := Array.getElem?_eq_getElem h2
    refine nextD_item st.1 st.2.2 st.2.1 rfl h1 h3 fun h' it' hs => ?_
    exact hQ _ h' s.toks ⟨_, _, h1, h3, rfl⟩ ⟨it', st.2.1.at fun o e => (hs.2 a hne).trans e, st.2.2.at fun o e => (hs.2 T hT).trans e⟩ fun b o hb e => (hs.2 b (fun q => hb (by simp [q]))).trans e
  done := fun s Q E st hQ => nextD_end hh st.1 st.2.2 st.2.1 rfl (List.getElem?_eq_none (by rw [hp]; exact Nat.le_refl _)) fun h' hs => hQ h' s.toks fun b o hb e => hs b o (fun q => hb (by simp [q])) e
  self := fun i s Q E st q => iter_self st.1 q
theorem nxt_text (hb : byT w = true) {sl i : Nat} {Q : Option (Value × Nat) → Shared → Prop} (sa : SAt w s.heap a es ep t ks) (h : Q (((pickOrder (w.params.setOrder a ep) es)[i]?).map fun e => (e.2, sl)) s) : wpAny (model prog w) A (setNext a sl i ep) Q E s := by
  obtain ⟨o, g, S⟩ := sa
  unfold setNext
  refine wpAny_bind (wpAny_setState_of g S.data S.fit (wpAny_bind (wp_byText ?_))); dsimp only
  rw [hb, if_pos rfl, if_neg (by simp)]
  refine wpAny_bind ?_
  unfold setWalk
  refine wpAny_bind (wpAny_setState_of g S.data S.fit (wpAny_bind (wp_byText ?_)))
  rw [hb, if_pos rfl]
  refine wpAny_bind (wpAny_askSetting (wpAny_pure (wpAny_pure ?_)))
  exact h
noncomputable def slP (t : SetTable) : Nat → Nat
  | 0 => 0
  | i + 1 => t.place.getD i 0 + 1
theorem below_slP {t : SetTable} (hr : RT t) : ∀ {i : Nat}, i ≤ t.place.size → SetTable.below t.place (slP t i) = i
  | 0, _ => below_zero hr.ris
  | i + 1, h => below_next hr.ris h
theorem nxt_place (hb : byT w = false) (hd : t.plain = true ∨ es.size ≤ 1) {i : Nat} {Q : Option (Value × Nat) → Shared → Prop} (sa : SAt w s.heap a es ep t ks) (hi : i ≤ es.size) (h : Q ((es[i]?).map fun e => (e.2, slP t (i + 1))) s) : wpAny (model prog w) A (setNext a (slP t i) i ep) Q E s := by
  obtain ⟨o, g, S⟩ := sa
  have hps : t.place.size = es.size := by
    have := S.fit
    simp only [SetTable.fits, Bool.and_eq_true, beq_iff_eq] at this
    exact this.1
  unfold setNext
  refine wpAny_bind (wpAny_setState_of g S.data S.fit (wpAny_bind (wp_byText ?_))); dsimp only
  rw [hb, if_neg Bool.false_ne_true]
  refine wpAny_ite_split (fun hab => ?_) fun _ => ?_
  · have q : (!t.plain && decide (es.size > 1)) = true := hab
    rw [Bool.and_eq_true, decide_eq_true_eq] at q
    rcases hd with e | e
    · rw [e] at q; exact absurd q.1 (by simp)
    · omega
  · refine wpAny_bind ?_
    show wpAny _ _ (if (!t.led && !es.isEmpty) = true then unsupported "set:maker-not-led" else pure ()) _ _ _
    rw [S.led, hb]
    simp only [Bool.not_false, Bool.not_true, Bool.false_and, Bool.false_eq_true, if_false]
    refine wpAny_pure (wpAny_pure ?_)
    rw [below_slP S.rt (by rw [hps]; exact hi)]
    rcases Nat.lt_or_eq_of_le hi with hl | hl
    · have e1 : es[i]? = some es[i] := Array.getElem?_eq_getElem hl
      have e2 : t.place[i]? = some (t.place.getD i 0) := by
        have : i < t.place.size := by rw [hps]; exact hl
        simp [Array.getD, this]
      rw [e1] at h ⊢
      rw [e2]
      exact h
    · have e1 : es[i]? = none := Array.getElem?_eq_none (by omega)
      rw [e1] at h ⊢
      exact h
theorem draw_order {α : Type} {Q : List α → Shared → Prop} : ∀ (xs : List α) (s : Shared), (∀ ys d, ys.Perm xs → Q ys { s with drawn := d }) → wpAny (model prog w) A (drawOrder xs.length xs) Q E s := by
  intro xs
  generalize hn : xs.length = n
  induction n generalizing xs Q with
  | zero =>
    intro s h
    have : xs = [] := List.eq_nil_of_length_eq_zero hn
    subst this
    unfold drawOrder
    exact wpAny_pure (h [] s.drawn .rfl)
  | succ n ih =>
    intro s h
    match xs, hn with
    | x :: r, hn =>
      unfold drawOrder
      refine wpAny_bind (wp_choose (by simp) fun i d hi => ?_)
      rw [List.getElem?_eq_getElem hi]
      dsimp only
      refine wpAny_bind (ih _ (by rw [List.length_eraseIdx_of_lt hi]; omega) _ fun ys d' hp => wpAny_pure (h _ d' ?_))
      exact (hp.cons _).trans (erase_perm hi)
theorem iter_walk {Q : Value → Shared → Prop} (sa : SAt w s.heap a es ep t ks)
    (h : ∀ (s' : Shared) (I : Addr) (xs : Array (Int × Value)) (fp : List Addr) (St : Nat → Heap → Prop), xs.toList.Perm es.toList → (∀ b o, s.heap.get? b = some o → s'.heap.get? b = some o) → s'.gens = s.gens → s'.os = s.os → s'.toks = s.toks →
      s.heap.objs.size ≤ I → (∀ b ∈ fp, b < s'.heap.objs.size ∧ (b = a ∨ s.heap.objs.size ≤ b)) → (∀ A' : Around, A'.handled = none → Walks prog w A' I fp [I] es.size (fun i v => ∃ e, xs[i]? = some e ∧ e.2 = v) St) → St 0 s'.heap → Q (.ref I) s') :
    wpAny (model prog w) A (pyIter (.ref a)) Q E s := by
  obtain ⟨o, g, S⟩ := id sa
  have la : a < s.heap.objs.size := Heap.lt_size g
  have hT : s.TypeIs (.ref a) "set" := ⟨o, g, S.exact'.1⟩
  refine wpAny_pyIter_slot hT F.slot_set_iter (wpAny_call_entry F.slot_set_iter hT entry_s_iter ?_ (F.args_set_iter_1 _))
  unfold Builtin.«frozenset.__iter__» Builtin.Frozenset.slot0 Builtin.Frozenset.sizeOf
  refine wpAny_bind (wpAny_bind (wpAny_pure (wpAny_pure ?_)))
  refine wpAny_bind (wpAny_bind (wpAny_setEntries_of g S.data S.fit (wpAny_pure ?_)))
  refine wpAny_bind ?_
  unfold setDrawn
  refine wpAny_bind (wpAny_setState_of g S.data S.fit (wpAny_bind (wp_byText (wpAny_pure ?_))))
  have fin : ∀ (d : Drawn) (sl : Nat → Nat) (xs : Array (Int × Value)), sl 0 = 0 → xs.size = es.size → xs.toList.Perm es.toList →
      (∀ (i : Nat) (s : Shared) (A' : Around) (E' : Value → Shared → Prop) (Q' : Option (Value × Nat) → Shared → Prop), SAt w s.heap a es ep t ks → i ≤ es.size → Q' ((xs[i]?).map fun e => (e.2, sl (i + 1))) s → wpAny (model prog w) A' (setNext a (sl i) i ep) Q' E' s) →
      wpAny (model prog w) A.in1 (setEpoch a >>= fun e => newFields "set_iterator" [rawInt 0, rawInt 0, .ref a, rawInt es.size, rawInt e] >>= fun v => ret v) (fun fin s' => ∃ v, fin = .done (.ret v) ∧ ∃ T' r, s'.TypeIs v T' ∧ typeLookup (.type T') "__next__" = pure (some r) ∧ Q v s') E { s with drawn := d } := by
    intro d sl xs e0 ex hp nx
    refine wpAny_bind (wpAny_setEpoch_of g S.data S.fit (wpAny_bind (wpAny_newObj_type (wpAny_pure ⟨_, rfl, "set_iterator", _, ⟨_, Heap.get?_push_size _ rfl, rfl⟩, slot_si_next.lookup, ?_⟩))))
    refine h { s with drawn := d, heap := s.heap.push { cls := .type "set_iterator", data := .fields #[rawInt 0, rawInt 0, .ref a, rawInt es.size, rawInt ep] } } s.heap.objs.size xs [s.heap.objs.size, a] _ hp (fun b o e => Heap.get?_push_of_some _ e) rfl rfl rfl (Nat.le_refl _) (fun b hb => ?_) (fun A' hh => walk_int (Nat.ne_of_lt la) sl ex nx hh) ?_
    · show b < (s.heap.push _).objs.size ∧ _
      rw [size_push']
      rcases List.mem_cons.mp hb with e | e
      · rw [e]; exact ⟨Nat.lt_succ_self _, .inr (Nat.le_refl _)⟩
      · rw [List.mem_singleton.mp e]; exact ⟨Nat.lt_succ_of_lt la, .inl rfl⟩
    · refine ⟨⟨_, Heap.get?_push_size _ rfl, rfl, ?_⟩, sa.at fun o e => Heap.get?_push_of_some _ e⟩
      rw [e0]; rfl
  dsimp only
  have hps : t.place.size = es.size := by
    have := S.fit
    simp only [SetTable.fits, Bool.and_eq_true, beq_iff_eq] at this
    exact this.1
  have fewE : es.size ≤ sizeLine := few_line (by rw [S.size]; exact S.few)
  refine wpAny_ite_split (fun hab => ?_) (fun hab => ?_)
  · have key := draw_order (prog := prog) (w := w) (A := A.in1) (E := E) (List.range es.size) s (Q := fun ys s' => wpAny (model prog w) A.in1 (newTuple (ys.map fun (i : Nat) => rawInt i) >>= fun first => setEpoch a >>= fun e => newFields "set_iterator" [first, rawInt 0, .ref a, rawInt es.size, rawInt e] >>= fun v => ret v) (fun fin s' => ∃ v, fin = .done (.ret v) ∧ ∃ T' r, s'.TypeIs v T' ∧ typeLookup (.type T') "__next__" = pure (some r) ∧ Q v s') E s') fun ys d hp => ?_
    · rw [List.length_range] at key
      exact wpAny_bind key
    · have hl : ys.length = es.size := by rw [hp.length_eq, List.length_range]
      have hlt : ∀ p ∈ ys, p < es.size := fun p h => List.mem_range.mp (hp.mem_iff.mp h)
      refine wpAny_bind (wpAny_newTuple ?_ (by rw [List.length_map, hl]; exact fewE))
      have gt : (s.heap.push (seqObj "tuple" (ys.map fun (i : Nat) => rawInt i).toArray 0)).get? s.heap.objs.size = some (seqObj "tuple" (ys.map fun (i : Nat) => rawInt i).toArray 0) := Heap.get?_push_size _ rfl
      refine wpAny_bind (wpAny_setEpoch_of (s := { s with drawn := d, heap := s.heap.push (seqObj "tuple" (ys.map fun (i : Nat) => rawInt i).toArray 0) }) (Heap.get?_push_of_some _ g) S.data S.fit (wpAny_bind (wpAny_newObj_type (wpAny_pure ⟨_, rfl, "set_iterator", _, ⟨_, Heap.get?_push_size _ rfl, rfl⟩, slot_si_next.lookup, ?_⟩))))
      have z1 : (s.heap.push (seqObj "tuple" (ys.map fun (i : Nat) => rawInt i).toArray 0)).objs.size = s.heap.objs.size + 1 := size_push' _ _
      have W : ∀ A' : Around, A'.handled = none → Walks prog w A' (s.heap.objs.size + 1) [s.heap.objs.size + 1, a, s.heap.objs.size] [s.heap.objs.size + 1] es.size (fun i v => ∃ e, (ys.filterMap (es[·]?)).toArray[i]? = some e ∧ e.2 = v) (fun i h => SIter h (s.heap.objs.size + 1) (.ref s.heap.objs.size) i a es.size ep ∧ SAt w h a es ep t ks ∧ TupAt h s.heap.objs.size ys) := fun A' hh => by
        have W0 := walk_drawn (prog := prog) (w := w) (A := A') (I := s.heap.objs.size + 1) (a := a) (T := s.heap.objs.size) (es := es) (ep := ep) (t := t) (ks := ks) (Nat.ne_of_lt (Nat.lt_succ_of_lt la)) (Nat.ne_of_lt (Nat.lt_succ_self _)) ys hl hlt hh
        refine ⟨W0.sub, W0.frame, fun i s Q E hi st hQ => W0.item i s Q E hi st fun v h' tk hP => hQ v h' tk ?_, W0.done, W0.self⟩
        obtain ⟨p, e, h1, h2, h3⟩ := hP
        refine ⟨e, ?_, h3⟩
        have : ∀ (l : List Nat) (i : Nat), (∀ p ∈ l, p < es.size) → (l.filterMap (es[·]?))[i]? = (l[i]?).bind (es[·]?) := by
          intro l
          induction l with
          | nil => intro i _; simp
          | cons q l ih =>
            intro i hq
            have lq : q < es.size := hq q List.mem_cons_self
            have e0 : es[q]? = some es[q] := Array.getElem?_eq_getElem lq
            rw [List.filterMap_cons_some e0]
            cases i with
            | zero => simp [e0]
            | succ i => simpa using ih i fun p hp => hq p (List.mem_cons_of_mem _ hp)
        rw [List.getElem?_toArray, this ys i hlt, h1]
        show es[p]? = some e
        exact h2
      show Q (.ref (s.heap.push (seqObj "tuple" (ys.map fun (i : Nat) => rawInt i).toArray 0)).objs.size) _
      rw [z1]
      refine h { s with drawn := d, heap := (s.heap.push (seqObj "tuple" (ys.map fun (i : Nat) => rawInt i).toArray 0)).push { cls := .type "set_iterator", data := .fields #[.ref s.heap.objs.size, rawInt 0, .ref a, rawInt es.size, rawInt ep] } } (s.heap.objs.size + 1) _ _ _ ?_ (fun b o e => Heap.get?_push_of_some _ (Heap.get?_push_of_some _ e)) rfl rfl rfl (Nat.le_succ _) (fun b hb => ?_) W ?_
      · show (ys.filterMap (es[·]?)).Perm es.toList
        exact (hp.filterMap _).trans (by rw [filterMap_getElem?_range])
      · show b < ((s.heap.push _).push _).objs.size ∧ _
        rw [size_push', size_push']
        rcases List.mem_cons.mp hb with e | e
        · rw [e]; exact ⟨Nat.lt_succ_self _, .inr (Nat.le_succ _)⟩
        · rcases List.mem_cons.mp e with e | e
          · rw [e]; exact ⟨Nat.lt_succ_of_lt (Nat.lt_succ_of_lt la), .inl rfl⟩
          · rw [List.mem_singleton.mp e]; exact ⟨Nat.lt_succ_of_lt (Nat.lt_succ_self _), .inr (Nat.le_refl _)⟩
      · refine ⟨⟨{ cls := .type "set_iterator", data := .fields #[.ref s.heap.objs.size, rawInt 0, .ref a, rawInt es.size, rawInt ep] }, ?_, rfl, rfl⟩, sa.at fun o e => Heap.get?_push_of_some _ (Heap.get?_push_of_some _ e), ⟨_, _, Heap.get?_push_of_some _ gt, rfl⟩⟩
        rw [← z1]
        exact Heap.get?_push_size _ rfl
  · refine wpAny_bind (wpAny_pure ?_)
    cases hb : byT w with
    | true => exact fin s.drawn (fun _ => 0) (pickOrder (w.params.setOrder a ep) es) rfl (by rw [← Array.length_toList, (pick_perm _ es).length_eq, Array.length_toList]) (pick_perm _ es) fun i s' A' E' Q' sa' hi q => nxt_text hb sa' q
    | false =>
      have hd : t.plain = true ∨ es.size ≤ 1 := by
        have q : ¬ (!byT w && (!t.plain && decide (es.size > 1))) = true := hab
        rw [hb] at q
        cases hp : t.plain with
        | true => exact .inl rfl
        | false =>
          rw [hp] at q
          simp at q
          exact .inr q
      exact fin s.drawn (slP t) es rfl rfl .rfl fun i s' A' E' Q' sa' hi q => nxt_place hb hd sa' hi q
end
end L2
set_option Elab.async false
set_option linter.all false
set_option maxRecDepth 100000
set_option maxHeartbeats 4000000
namespace L2
open PySem PySem.Spec PyProof.Rows
section
variable {prog : Program} {w : World} {A : Around} {E : Value → Shared → Prop} {s : Shared} {a : Addr} {es : Array (Int × Value)} {ep : Nat} {t : SetTable} {ks : List Key}
theorem hint_set (hT : s.TypeIs (.ref a) "set") {Q : Bool → Shared → Prop} (h : Q false s) : wpAny (model prog w) A (Builtin.List.listLengthHint (.ref a)) Q E s := by
  unfold Builtin.List.listLengthHint
  refine wpAny_bind (wpAny_specialOf hT PySem.F.slot_set_len.lookup ?_)
  generalize hid : ("set.__len__" : String) = id0
  wp_delta
  rw [show splitId id0 = some ("set", "__len__") from by subst hid; decide +kernel]
  subst hid
  refine wpAny_bind (wpAny_isInstance (T := "set") (b := true) hT (by rw [isSubtype_type]; kernel_rfl) ?_); refine wpAny_ite_split (fun hab => absurd hab (by decide)) (fun _ => ?_)
  refine wpAny_ite_split (fun _ => ?_) (fun hab => absurd (by decide +kernel) hab); exact wpAny_bind (wpAny_typeOf hT (wpAny_pure h))
noncomputable def KeysAre (vs : List Value) (ks : List Key) : Prop := Paired (fun v k => keyIs k v = true) vs ks
theorem keysAre_of {w : World} {ps : Array (Int × Value)} {es : Array (Int × Value)} {ks : List Key} {acc : Array Value} (hp : ps.toList.Perm es.toList) (he : Paired (Ent w) es.toList ks) (hi : ItemsOf (fun i v => ∃ e, ps[i]? = some e ∧ e.2 = v) acc es.size) :
    ∃ ks', ks'.Perm ks ∧ KeysAre acc.toList ks' := by
  obtain ⟨ks', e1, p1⟩ := paired_perm hp he
  refine ⟨ks', e1, ?_⟩
  have e2 : acc.toList = ps.toList.map (·.2) := by
    apply List.ext_getElem?
    intro i
    rw [Array.getElem?_toList, List.getElem?_map, Array.getElem?_toList]
    have hz : acc.size = es.size := hi.1
    have hz2 : ps.size = es.size := by rw [← Array.length_toList, hp.length_eq, Array.length_toList]
    by_cases hl : i < es.size
    · have h1 : acc[i]? = some (acc[i]'(by omega)) := Array.getElem?_eq_getElem (by omega)
      obtain ⟨e, h2, h3⟩ := hi.2 i _ h1
      rw [h1, h2, ← h3]
      rfl
    · rw [Array.getElem?_eq_none (by omega), Array.getElem?_eq_none (by omega)]
      rfl
  rw [e2]
  have : ∀ {l : List (Int × Value)} {ks : List Key}, Paired (Ent w) l ks → KeysAre (l.map (·.2)) ks := by
    intro l ks p
    induction p with
    | nil => exact .nil
    | cons h _ ih => exact .cons h.1 ih
  exact this p1
theorem collect_set {R : List Value → Shared → Prop} (hh : A.handled = none) (sa : SetP w s.heap a ks)
    (h : ∀ (s' : Shared) (vs : List Value) (ks' : List Key), (∀ b o, s.heap.get? b = some o → s'.heap.get? b = some o) → s'.gens = s.gens → s'.os = s.os → s.heap.objs.size ≤ s'.heap.objs.size → ks'.Perm ks → KeysAre vs ks' → R vs s') :
    wpAny (model prog w) A (collect (.ref a)) R E s := by
  obtain ⟨ks0, ⟨o, es, ep, t, g, S⟩, ek⟩ := sa
  have la : a < s.heap.objs.size := Heap.lt_size g
  have hn : es.size ≤ sizeLine := few_line (by rw [S.size]; exact S.few)
  unfold collect
  refine wpAny_bind (wpAny_runValue (codeAny_builtin entry_proto_collect' ?_)); rw [Around.under_plainId PySem.F.plain_proto_collect _]
  show wpAny _ A.in1 (newList [] >>= fun l => again (.builtin "list.__iadd__" ⟨[l, .ref a], []⟩)) _ _ s; refine wpAny_bind (wpAny_newObj_type ?_)
  refine wpAny_pure ⟨plainId_quiet PySem.F.plain_list_iadd _, codeAny_builtin entry_list_iadd' ?_⟩; rw [Around.under_plainId PySem.F.plain_list_iadd _]
  have gL : (s.heap.push { cls := .type "list", data := .seq ([] : List Value).toArray }).get? s.heap.objs.size = some { cls := .type "list", data := .seq #[] } := Heap.get?_push_size _ rfl
  have zL : (s.heap.push { cls := .type "list", data := .seq ([] : List Value).toArray }).objs.size = s.heap.objs.size + 1 := size_push' _ _
  show wpAny _ A.in1 (Builtin.List.listExtendWith (.ref s.heap.objs.size) (.ref a) (.ref s.heap.objs.size)) _ _ _
  have gA : (s.heap.push { cls := .type "list", data := .seq ([] : List Value).toArray }).get? a = some o := Heap.get?_push_of_some _ g
  have hTa : Shared.TypeIs { s with heap := s.heap.push { cls := .type "list", data := .seq ([] : List Value).toArray } } (.ref a) "set" := ⟨o, gA, S.exact'.1⟩
  unfold Builtin.List.listExtendWith
  refine wpAny_bind (wpAny_typeOf (T := "set") hTa ?_)
  have ne : s.heap.objs.size ≠ a := Nat.ne_of_gt la
  have h1 : Builtin.List.listSameRef (.ref s.heap.objs.size) (.ref a) = false := by simp [Builtin.List.listSameRef, ne]
  have h2 : (Value.type "set" == Value.type "list") = false := by decide
  have h3 : (Value.type "set" == Value.type "tuple") = false := by decide
  simp only [h1, h2, h3, Bool.or_false, Bool.false_eq_true, if_false]
  refine wpAny_bind (iter_walk (s := { s with heap := s.heap.push { cls := .type "list", data := .seq ([] : List Value).toArray } }) ⟨o, gA, S⟩ fun s1 I ps fp St hp hk eg eo et lI hfp W st => ?_)
  have gL1 : s1.heap.get? s.heap.objs.size = some { cls := .type "list", data := .seq #[] } := hk _ _ gL
  have nL : s.heap.objs.size ∉ fp := fun hm => by
    rcases (hfp _ hm).2 with q | q
    · exact ne q
    · exact absurd q (by show ¬ (s.heap.push _).objs.size ≤ _; rw [zL]; exact Nat.not_succ_le_self _)
  have hTa1 : s1.TypeIs (.ref a) "set" := ⟨o, hk _ _ gA, S.exact'.1⟩
  refine wpAny_bind (wpAny_holding (hint_set hTa1 ?_))
  have key : ∀ (hp' : Heap) (c₁ : Nat), St 0 hp' → (∀ b o, b ≠ s.heap.objs.size → s1.heap.get? b = some o → hp'.get? b = some o) → hp'.get? s.heap.objs.size = some { cls := .type "list", data := .seq #[] c₁ } →
      codeAny (model prog w) A (.builtin "list.extend.loop" ⟨[.ref s.heap.objs.size, .ref I, .ref s.heap.objs.size], []⟩) (fun x s' => ∃ acc c', x = .ok (.ret (.ref s.heap.objs.size)) ∧ (∀ b o, s.heap.get? b = some o → s'.heap.get? b = some o) ∧ s'.gens = s.gens ∧ s'.os = s.os ∧
        s'.heap.get? s.heap.objs.size = some { cls := .type "list", dict := none, data := .seq acc c', slots := #[] } ∧ ItemsOf (fun i v => ∃ e, ps[i]? = some e ∧ e.2 = v) acc es.size) { s1 with heap := hp' } := by
    intro hp' c₁ st' hk' gL'
    refine codeAny_extend_loopS (W A.in1 hh).toS hn s.heap.objs.size nL _ es.size 0 _ #[] c₁ rfl (Nat.zero_le _) st' gL' (ItemsOf.nil _) fun s' acc c' hm gL'' hi => ?_
    refine ⟨acc, c', rfl, fun b o e => ?_, hm.gens.trans eg, hm.os.trans eo, gL'', hi⟩
    have lb : b < s.heap.objs.size := Heap.lt_size e
    refine hm.heap b o (fun hmem => ?_) (hk' b o (Nat.ne_of_lt lb) (hk b o (Heap.get?_push_of_some _ e)))
    rcases List.mem_cons.mp hmem with q | q
    · exact absurd q (Nat.ne_of_lt lb)
    · have q := List.mem_singleton.mp q
      have lI' : s.heap.objs.size + 1 ≤ I := by rw [← zL]; exact lI
      rw [q] at lb
      exact absurd lb (Nat.not_lt.mpr (Nat.le_of_succ_le lI'))
  have last : ∀ (x : Result) (s' : Shared), (∃ acc c', x = .ok (.ret (.ref s.heap.objs.size)) ∧ (∀ b o, s.heap.get? b = some o → s'.heap.get? b = some o) ∧ s'.gens = s.gens ∧ s'.os = s.os ∧
      s'.heap.get? s.heap.objs.size = some { cls := .type "list", dict := none, data := .seq acc c', slots := #[] } ∧ ItemsOf (fun i v => ∃ e, ps[i]? = some e ∧ e.2 = v) acc es.size) → ∃ v, x = .ok (.ret v) ∧ wpAny (model prog w) A (match v with
      | Value.ref a => do
        match (← load a).data with
          | Data.seq xs _ => pure xs.toList
          | _ => unsupported "internal:collect"
      | _ => unsupported "internal:collect") R E s' := by
    intro x s' q
    obtain ⟨acc, c', rfl, k1, k2, k3, k4, k5⟩ := q
    refine ⟨_, rfl, ?_⟩
    show wpAny _ A (load s.heap.objs.size >>= _) _ _ _; refine wpAny_bind (wpAny_load k4 (wpAny_pure ?_))
    obtain ⟨ks', e1, e2⟩ := keysAre_of hp S.ent k5
    exact h s' acc.toList ks' k1 k2 k3 (Nat.le_of_lt (Heap.lt_size k4)) (e1.trans ek) e2
  refine wpAny_ite_split (fun _ => ?_) (fun _ => ?_)
  · refine wpAny_bind (wpAny_rule (wpAny_bind ?_))
    show wpAny _ _ (updateSeq s.heap.objs.size (·.push .none) >>= fun _ => updateSeq s.heap.objs.size (·.pop)) _ _ _
    refine wpAny_bind (wpAny_updateSeq gL1 rfl ?_)
    have gL2 := Heap.get?_update_self (Obj.mapSeq (·.push Value.none)) gL1 rfl
    refine wpAny_updateSeq (hz := by seq_fits) gL2 rfl ?_
    have gL3 := Heap.get?_update_self (Obj.mapSeq (·.pop)) gL2 rfl
    refine wpAny_pure ⟨plainId_quiet PySem.F.plain_extend_loop _, codeAny_mono (key _ _ ?_ (fun b o hb e => ?_) gL3) fun x s' q => ?_⟩
    · refine (W A.in1 hh).frame 0 _ _ st fun b hb o e => ?_
      have hbS : b ≠ s.heap.objs.size := fun q => nL (q ▸ hb)
      exact (Heap.get?_update_other _ _ (Ne.symm hbS)).trans ((Heap.get?_update_other _ _ (Ne.symm hbS)).trans e)
    · exact (Heap.get?_update_other _ _ (Ne.symm hb)).trans ((Heap.get?_update_other _ _ (Ne.symm hb)).trans e)
    · obtain ⟨v, rfl, q'⟩ := last x s' q
      exact q'
  · refine wpAny_pure ⟨plainId_quiet PySem.F.plain_extend_loop _, codeAny_mono (key s1.heap 0 st (fun b o _ e => e) gL1) fun x s' q => ?_⟩
    obtain ⟨v, rfl, q'⟩ := last x s' q
    exact q'
theorem intsK {ns : List Int} : ∀ {vs : List Value}, KeysAre vs (ns.map Sum.inl) → IntsAre vs ns := by
  induction ns with
  | nil => intro vs p; cases p; exact .nil
  | cons n ns ih =>
    intro vs p
    cases p with
    | cons h r =>
      rcases keyIs_shape h with ⟨i, t, e, rfl⟩ | ⟨x, t, e, rfl⟩
      · cases e; exact .cons _ _ (ih r)
      · cases e
theorem strsK {ss : List Str} : ∀ {vs : List Value}, KeysAre vs (ss.map Sum.inr) → StrsAre vs ss := by
  induction ss with
  | nil => intro vs p; cases p; exact .nil
  | cons n ns ih =>
    intro vs p
    cases p with
    | cons h r =>
      rcases keyIs_shape h with ⟨i, t, e, rfl⟩ | ⟨x, t, e, rfl⟩
      · cases e
      · cases e; exact .cons _ _ (ih r)
theorem perm_map_inv {α : Type} {f : α → Key} : ∀ {l : List α} {ks : List Key}, ks.Perm (l.map f) → ∃ l' : List α, l'.Perm l ∧ ks = l'.map f := by
  have : ∀ {ks ks' : List Key}, ks'.Perm ks → ∀ {l : List α}, ks' = l.map f → ∃ l' : List α, l'.Perm l ∧ ks = l'.map f := by
    intro ks ks' hp
    induction hp with
    | nil => intro l e; exact ⟨l, .rfl, e⟩
    | cons x _ ih =>
      intro l e
      match l, e with
      | y :: l, e =>
        rw [List.map_cons] at e
        injection e with e1 e2
        obtain ⟨l', h1, h2⟩ := ih e2
        exact ⟨y :: l', h1.cons _, by rw [List.map_cons, ← h2, e1]⟩
    | swap x y _ =>
      intro l e
      match l, e with
      | a :: b :: l, e =>
        simp only [List.map_cons, List.cons.injEq] at e
        obtain ⟨e1, e2, e3⟩ := e
        exact ⟨b :: a :: l, List.Perm.swap _ _ _, by simp [e1, e2, e3]⟩
    | trans _ _ ih1 ih2 =>
      intro l e
      obtain ⟨l1, h1, h2⟩ := ih1 e
      obtain ⟨l2, h3, h4⟩ := ih2 h2
      exact ⟨l2, h3.trans h1, h4⟩
  intro l ks hp
  exact this hp.symm rfl
theorem sorted_setS {ns : List Str} {Q : Value → Shared → Prop} (hh : A.handled = none) (sa : SetP w s.heap a (ns.map Sum.inr)) (h64 : ns.length < 64)
    (h : ∀ (s' : Shared) (D n : Nat) (out : Array Value) (ns' : List Str), (∀ b o, s.heap.get? b = some o → s'.heap.get? b = some o) → s'.gens = s.gens → s'.os = s.os → s.heap.objs.size ≤ D → s'.heap.get? D = some (seqObj "list" out n) → StrsAre out.toList ns' → ns'.Perm ns → sortedS ns' = true → Q (.ref D) s') :
    wpAny (model prog w) A (call (.builtin "sorted") [.ref a]) Q E s := by
  refine Calls.call_function_entry kind_sorted plain_sorted entry_sorted (args_sorted1 _) ?_; unfold Builtin.«sorted»
  refine wpAny_bind (m := checkCount "sorted" 1 1 _) (wpAny_pure (wpAny_bind (collect_set (A := A.in1) hh sa fun s1 vs ks' hk eg eo ez ep kv => ?_)))
  obtain ⟨ns1, p1, rfl⟩ := perm_map_inv ep
  have hi := strsK kv
  have hl : vs.length < 64 := by
    have : vs.length = ns1.length := by
      have := paired_len2 kv
      rwa [List.length_map] at this
    rw [this, p1.length_eq]
    exact h64
  refine wpAny_bind (wpAny_newList ?_ (by rw [sizeLine_eq]; omega))
  have gD : (s1.heap.push (seqObj "list" vs.toArray 0)).get? s1.heap.objs.size = some (seqObj "list" vs.toArray 0) := Heap.get?_push_size _ rfl
  refine wpAny_bind (wpAny_holding (wpAny_call_entry slot_list_sort ⟨_, gD, rfl⟩ entry_list_sort (list_sort_treeK (s := { s1 with heap := s1.heap.push (seqObj "list" vs.toArray 0) }) strKind_oneLt gD hi.keysOf (fun v₁ v₂ rest e => keyKind_strs (by rw [← e]; exact hi)) hl fun st' b1 b2 => ⟨_, rfl, ?_⟩) (args_list_sort _)))
  obtain ⟨ns', a1, a2, a3⟩ := sorted_out_str hi b1 b2
  have lD : ∀ b o, s.heap.get? b = some o → b < s1.heap.objs.size := fun b o e => Heap.lt_size (hk b o e)
  obtain ⟨n, gO⟩ : ∃ n, (sortedHeap (s1.heap.push (seqObj "list" vs.toArray 0)) s1.heap.objs.size vs ((arrOf st').map (·.2))).get? s1.heap.objs.size = some (seqObj "list" ((arrOf st').map (·.2)) n) := sortedHeap_at gD
  refine wpAny_pure ⟨_, rfl, h _ s1.heap.objs.size n _ ns' (fun b o e => ?_) eg eo ez gO a1 (a2.trans p1) a3⟩
  have lb := lD b o e
  exact (sortedHeap_old (Nat.ne_of_lt lb) (by rw [size_push']; exact Nat.lt_succ_of_lt lb)).trans (Heap.get?_push_of_some _ (hk b o e))
end
end L2
set_option Elab.async false
set_option linter.all false
set_option maxRecDepth 100000
set_option maxHeartbeats 4000000
namespace L2
open PySem PySem.Spec PyProof.Rows
noncomputable def SetO (w : World) (p : Addr) (ks : List Key) : HO := .ext fun h => SetP w h p ks
theorem setO_ok {P : Program} {w : World} {H : Hp} {h : Heap} {p : Addr} {ks : List Key} (x : SetP w h p ks) : ObjOk P w H h p (SetO w p ks) := by
  refine ⟨x, ?_, fun h1 h2 a b => a.at b⟩
  obtain ⟨_, ⟨o, _, _, _, g, _⟩, _⟩ := x
  exact ⟨o, g⟩
theorem setO_get {P : Program} {w : World} {H : Hp} {h : Heap} {p : Addr} {ks : List Key} (x : HOk P w H h) (e : H p = some (SetO w p ks)) : SetP w h p ks := (x p _ e).1
section
variable {X : Cx} {pins : List (Addr × Obj)} {σ : List (Option V)} {H : Hp} {s s' : Shared}
theorem Inv.same (I : Inv X pins σ H s) (e1 : s'.heap = s.heap) (e2 : s'.gens = s.gens) (e3 : s'.os = s.os) : Inv X pins σ H s' := by
  obtain ⟨h, g, d, t, o⟩ := s
  obtain ⟨h', g', d', t', o'⟩ := s'
  dsimp only at e1 e2 e3
  subst e1; subst e2; subst e3
  exact ⟨I.ok, I.os, I.bare, I.base, I.loc, I.cell, I.free, I.freeC, I.pin, I.hok, I.len⟩
theorem Inv.laid' {a : Addr} {o : HO} (I : Inv X pins σ H s) (k : ∀ b u, s.heap.get? b = some u → s'.heap.get? b = some u) (hp : s.heap.objs.size ≤ a) (new : ObjOk X.prog X.w (upd H a o) s'.heap a o) (e2 : s'.gens = s.gens) (e3 : s'.os = s.os) :
    Inv X pins σ (upd H a o) s' := (I.laid (t' := s.toks) k hp new).same rfl e2 e3
end
theorem rel_key : ∀ {k : Key} {u : Value}, RelV (kV k) u → keyIs k u = true
  | .inl i, u, h => by obtain ⟨t, rfl⟩ := h; exact keyIs_int i t
  | .inr x, u, h => by obtain ⟨t, rfl⟩ := h; exact keyIs_str x t
theorem vals_key {ks : List Key} : ∀ {us : List Value}, Vals (ks.map kV) us → ∀ (i : Nat) (v : Value), us[i]? = some v → ∃ k, ks[i]? = some k ∧ keyIs k v = true := by
  induction ks with
  | nil => intro us r i v e; cases r; cases e
  | cons k ks ih =>
    intro us r i v e
    rw [List.map_cons] at r
    cases r with
    | cons h t => cases i with
      | zero =>
        cases e
        exact ⟨k, rfl, rel_key h⟩
      | succ i => exact ih t i v e
noncomputable def rSetK (w : World) (K : PySem.W.Frag) : List V → Hp → VK → Prop := fun vs H Q => ∃ (l : Addr) (ks : List Key), vs = [.ref l] ∧ SqL K H l (ks.map kV) ∧ ks.length < 4000 ∧ ∀ p, H p = none → Q (.ref p) (upd H p (SetO w p (dedK ks)))
theorem call_setL {X : Cx} {w : World} {K : PySem.W.Frag} (hc : X.calm = true) (hw : X.w = w) (hK : X.K = K) : CallR X (.type "set") (rSetK w K) := by
  subst hK
  subst hw
  intro pins s σ H vs us Q I r h
  obtain ⟨l, ks, rfl, hl, hz, q⟩ := h
  obtain ⟨u, rfl, ru⟩ := vals1 r
  cases ru
  obtain ⟨its, rv, pl, _⟩ := I.list hl
  have hlen := rv.length
  rw [List.length_map] at hlen
  have il := pl.isList
  refine call_set_src (val := ks) (T := "list") (I.ok.hd hc) (src_list il) (fun s1 k => (il.at fun o e => k _ _ e).typeIs) PySem.F.sub_list_set PySem.F.sub_list_frozenset (by decide) ?_ (fun i v e => vals_key rv i v (by rw [List.getElem?_toArray] at e; exact e)) ?_ fun h' tk hS hk => ?_
  · rw [List.size_toArray]; exact hlen
  · rw [List.size_toArray, ← hlen]; unfold scanBound; omega
  · exact ⟨.ref s.heap.objs.size, _, I.laid' (s' := { s with heap := h', toks := tk }) (fun b o e => hk b o e) (Nat.le_refl _) (setO_ok hS) rfl rfl, rfl, q _ (I.hok.fresh (Nat.le_refl _))⟩
noncomputable def leZ (a b : Int) : Bool := decide (a ≤ b)
noncomputable def sortZ (ys : List Int) : List Int := ys.mergeSort leZ
theorem sortZ_of {ss ss' : List Int} (hp : ss'.Perm ss) (hs : ss'.Pairwise (· ≤ ·)) : ss' = sortZ ss := by
  refine List.Perm.eq_of_pairwise (le := fun a b => leZ a b = true) (fun a b _ _ h1 h2 => Int.le_antisymm (of_decide_eq_true h1) (of_decide_eq_true h2)) (hs.imp fun h => decide_eq_true h) (List.pairwise_mergeSort (le := leZ) (fun a b c h1 h2 => decide_eq_true (Int.le_trans (of_decide_eq_true h1) (of_decide_eq_true h2))) (fun a b => ?_) ss) (hp.trans (List.mergeSort_perm ss leZ).symm)
  unfold leZ
  rcases Int.le_total a b with h | h <;> simp [h]
theorem vals_ints' : ∀ {vs : List Value} {ss : List Int}, IntsAre vs ss → Vals (ss.map V.int) vs
  | _, _, .nil => .nil
  | _, _, .cons x t r => .cons ⟨t, rfl⟩ (vals_ints' r)
noncomputable def rSortPS (w : World) : List V → Hp → VK → Prop := fun vs H Q => ∃ (l : Addr) (ys : List Str), vs = [.ref l] ∧ H l = some (SetO w l (ys.map Sum.inr)) ∧ ys.length < 64 ∧ ∀ p, H p = none → Q (.ref p) (upd H p (.lst ((sortS ys).map V.str)))
theorem call_sortPS {X : Cx} {w : World} (hc : X.calm = true) (hw : X.w = w) : CallR X (.builtin "sorted") (rSortPS w) := by
  subst hw
  intro pins s σ H vs us Q I r h
  obtain ⟨l, ys, rfl, hl, h64, q⟩ := h
  obtain ⟨u, rfl, ru⟩ := vals1 r
  cases ru
  refine sorted_setS (I.ok.hd hc) (setO_get I.hok hl) h64 fun s' D n out ns' hk eg eo lD gD a1 a2 a3 => ?_
  have e := sortS_of a2 a3
  subst e
  refine ⟨.ref D, _, I.laid' (o := .lst ((sortS ys).map V.str)) hk lD ⟨?_, out.toList, n, vals_strs a1, gD⟩ eg eo, rfl, q _ (I.hok.fresh lD)⟩
  rw [List.length_map, (sortS_perm ys).length_eq, sizeLine_eq]
  omega
noncomputable def addA {α : Type} [DecidableEq α] (ks : List α) (k : α) : List α := if ks.any (fun y => decide (y = k)) then ks else ks ++ [k]
noncomputable def dedA {α : Type} [DecidableEq α] (ks : List α) : List α := ks.foldl addA []
theorem addA_map {α : Type} [DecidableEq α] {f : α → Key} (hf : ∀ a b, f a = f b → a = b) (ks : List α) (k : α) : addK (ks.map f) (f k) = (addA ks k).map f := by
  have e : (ks.map f).any (fun y => decide (y = f k)) = ks.any (fun y => decide (y = k)) := by
    rw [List.any_map]
    congr 1
    funext y
    show decide (f y = f k) = decide (y = k)
    by_cases h : y = k
    · rw [h, decide_eq_true rfl, decide_eq_true rfl]
    · rw [decide_eq_false h, decide_eq_false (fun q => h (hf _ _ q))]
  unfold addK addA
  rw [e]
  split
  · rfl
  · rw [List.map_append]; rfl
theorem dedA_map {α : Type} [DecidableEq α] {f : α → Key} (hf : ∀ a b, f a = f b → a = b) (ks : List α) : dedK (ks.map f) = (dedA ks).map f := by
  have : ∀ (ks acc : List α), (ks.map f).foldl addK (acc.map f) = (ks.foldl addA acc).map f := by
    intro ks
    induction ks with
    | nil => intro acc; rfl
    | cons k ks ih => intro acc; rw [List.map_cons, List.foldl_cons, List.foldl_cons, addA_map hf, ih]
  exact this ks []
theorem inr_inj (a b : Str) (h : (Sum.inr a : Key) = Sum.inr b) : a = b := Sum.inr.inj h
theorem inl_inj (a b : Int) (h : (Sum.inl a : Key) = Sum.inl b) : a = b := Sum.inl.inj h
noncomputable def sortSetS (ys : List Str) : Option (List Str) := if ys.length < 4000 ∧ (dedA ys).length < 64 then some (sortS (dedA ys)) else none
theorem mem_addA {α : Type} [DecidableEq α] {ks : List α} {k x : α} : x ∈ addA ks k ↔ x ∈ ks ∨ x = k := by
  unfold addA
  split
  · rename_i h
    obtain ⟨y, hy, e⟩ := List.any_eq_true.mp h
    have e := of_decide_eq_true e
    constructor
    · exact .inl
    · rintro (h | rfl)
      · exact h
      · exact e ▸ hy
  · rw [List.mem_append, List.mem_singleton]
theorem mem_dedA {α : Type} [DecidableEq α] {ks : List α} {x : α} : x ∈ dedA ks ↔ x ∈ ks := by
  have : ∀ (ks acc : List α), x ∈ ks.foldl addA acc ↔ x ∈ acc ∨ x ∈ ks := by
    intro ks
    induction ks with
    | nil => intro acc; simp
    | cons k ks ih => intro acc; rw [List.foldl_cons, ih, mem_addA, List.mem_cons, or_assoc]
  rw [dedA, this]
  simp
theorem nodup_dedA {α : Type} [DecidableEq α] (ks : List α) : (dedA ks).Nodup := by
  have : ∀ (ks acc : List α), acc.Nodup → (ks.foldl addA acc).Nodup := by
    intro ks
    induction ks with
    | nil => intro acc h; exact h
    | cons k ks ih =>
      intro acc h
      rw [List.foldl_cons]
      refine ih _ ?_
      unfold addA
      split
      · exact h
      · rename_i hn
        refine List.nodup_append.mpr ⟨h, by simp, fun a ha b hb e => hn ?_⟩
        rw [List.mem_singleton] at hb
        exact List.any_eq_true.mpr ⟨a, ha, decide_eq_true (e.trans hb)⟩
  exact this ks [] List.nodup_nil
section
variable {K : PySem.W.Frag} {σ : St} {G : Hp} {ta tb : TE} {w : World}
theorem strs_keys (a : List Str) : a.map V.str = (a.map (Sum.inr : Str → Key)).map kV := by rw [List.map_map]; rfl
theorem strs_rel {G2 : Hp} (zs : List Str) (h : ∀ y ∈ zs, y.length ≤ sizeLine) : Paired (Rp.rel K G2) (zs.map V.str) zs := by
  induction zs with
  | nil => exact .nil
  | cons y zs ih => exact .cons ⟨rfl, h y List.mem_cons_self⟩ (ih fun w hw => h w (List.mem_cons_of_mem _ hw))
theorem fv_sortSetS {la : Option (List Str)} (ea : EV K ta σ G la) : FV K (tCB (rSortPS w) (tCons (tCB (rSetK w K) (tCons ta tNil)) tNil)) σ G (la.bind fun ys => sortSetS ys) := by
  intro G1 s1 c hc H sH Q k
  obtain ⟨a, ha, hc⟩ := Option.bind_eq_some_iff.mp hc
  obtain ⟨⟨h4, h64⟩, rfl⟩ := ite_some hc
  refine ea G1 s1 a ha H sH _ fun v G2 H2 x2 r2 => ?_
  obtain ⟨l, xs, rfl, h, z, p⟩ := r2
  have e := paired_strsR p
  subst e
  refine ⟨l, a.map Sum.inr, rfl, ?_, by rw [List.length_map]; exact h4, fun q hq => ?_⟩
  · rw [← strs_keys]; exact .inl (x2.gh.rd h)
  · rw [dedA_map inr_inj]
    refine ⟨q, dedA a, rfl, upd_same, h64, ?_⟩
    have x3 : Ext G2 H2 G2 (upd H2 q (SetO w q ((dedA a).map Sum.inr))) := .own x2.gh hq
    refine fv_of x3.gh ?_ (strs_rel _ fun y hy => paired_len p y (mem_dedA.mp ((sortS_perm _).mem_iff.mp hy))) (FV.mono (x2.trans x3) k)
    rw [List.length_map, (sortS_perm _).length_eq, sizeLine_eq]
    omega
end
end L2
set_option Elab.async false
set_option linter.all false
set_option maxRecDepth 100000
set_option maxHeartbeats 4000000
namespace L2
open PySem PySem.Spec PyProof.Rows
noncomputable def lcg : Nat → Nat → Nat
  | 0, x => x
  | n + 1, x => lcg n (5 * x + 1)
noncomputable def sumP : Nat → Nat
  | 0 => 0
  | n + 1 => sumP n + 5 ^ n
theorem lcg_eq : ∀ n x, lcg n x = 5 ^ n * x + sumP n
  | 0, x => by simp [lcg, sumP]
  | n + 1, x => by
    rw [lcg, lcg_eq n, sumP, Nat.pow_succ]
    grind
theorem lcg_add : ∀ m n x, lcg (m + n) x = lcg n (lcg m x)
  | 0, n, x => by rw [Nat.zero_add]; rfl
  | m + 1, n, x => by
    have e : m + 1 + n = (m + n) + 1 := by omega
    rw [e, lcg, lcg, lcg_add m n]
theorem sumP_add (m : Nat) : ∀ n, sumP (m + n) = sumP m + 5 ^ m * sumP n
  | 0 => by simp [sumP]
  | n + 1 => by
    rw [← Nat.add_assoc, sumP, sumP, sumP_add m n, Nat.pow_add]
    grind
theorem pow5 : ∀ k : Nat, (∃ d, 5 ^ (2 ^ k) = 1 + 4 * 2 ^ k * d) ∧ ∃ e, sumP (2 ^ k) = 2 ^ k + 2 * 2 ^ k * e
  | 0 => ⟨⟨1, rfl⟩, ⟨0, rfl⟩⟩
  | k + 1 => by
    obtain ⟨⟨d, hd⟩, ⟨e, he⟩⟩ := pow5 k
    have e2 : 2 ^ (k + 1) = 2 ^ k + 2 ^ k := by rw [Nat.pow_succ]; omega
    refine ⟨⟨d + 2 * 2 ^ k * d * d, ?_⟩, ⟨e + 2 ^ k * d + 2 * e * 2 ^ k * d, ?_⟩⟩
    · rw [e2, Nat.pow_add, hd]
      generalize 2 ^ k = q
      grind
    · rw [e2, sumP_add, hd, he]
      generalize 2 ^ k = q
      grind
theorem lcg_turn (k x : Nat) : ∃ c, lcg (2 ^ k) x = x + 2 ^ k + 2 * 2 ^ k * c := by
  obtain ⟨⟨d, hd⟩, ⟨e, he⟩⟩ := pow5 k
  refine ⟨2 * d * x + e, ?_⟩
  rw [lcg_eq, hd, he]
  generalize 2 ^ k = q
  grind
theorem lcg_reach : ∀ k x j : Nat, ∃ n, n < 2 ^ k ∧ lcg n x % 2 ^ k = j % 2 ^ k
  | 0, x, j => ⟨0, by simp, by simp [Nat.mod_one]⟩
  | k + 1, x, j => by
    obtain ⟨n, hn, e⟩ := lcg_reach k x j
    have e2 : 2 ^ (k + 1) = 2 ^ k * 2 := Nat.pow_succ 2 k
    have hq : 0 < 2 ^ k := Nat.two_pow_pos k
    obtain ⟨c, hc⟩ := lcg_turn k (lcg n x)
    generalize hy : lcg n x = y at e hc
    generalize 2 ^ k = q at e2 hq hn e hc
    have hM : ∀ z, z % (q * 2) = z % q + q * (z / q % 2) := fun z => Nat.mod_mul
    have h2 : (y + q + 2 * q * c) % (q * 2) = (y + q) % (q * 2) := by
      rw [show y + q + 2 * q * c = y + q + q * 2 * c by rw [Nat.mul_comm 2 q], Nat.add_mul_mod_self_left]
    have hdiv : (y + q) / q = y / q + 1 := Nat.add_div_right y hq
    have hmod : (y + q) % q = y % q := Nat.add_mod_right y q
    rw [e2]
    by_cases hc2 : y / q % 2 = j / q % 2
    · exact ⟨n, by omega, by rw [hy, hM, hM, e, hc2]⟩
    · refine ⟨n + q, by omega, ?_⟩
      have : ∀ u : Nat, lcg (n + q) x = u → u % (q * 2) = j % (q * 2) → lcg (n + q) x % (q * 2) = j % (q * 2) := fun u h1 h3 => by rw [h1]; exact h3
      rw [lcg_add, hy, hc, h2, hM, hM, hmod, hdiv, e]
      have : (y / q + 1) % 2 = j / q % 2 := by omega
      rw [this]
end L2
set_option Elab.async false
set_option linter.all false
set_option maxRecDepth 100000
set_option maxHeartbeats 4000000
namespace L2
open PySem PySem.Spec PyProof.Rows
noncomputable def leaps (mask : Nat) : Nat → Nat × Nat → Nat × Nat
  | 0, p => p
  | n + 1, p => leaps mask n (SetTable.leap mask p.1 p.2)
theorem leaps_add (mask : Nat) : ∀ m n p, leaps mask (m + n) p = leaps mask n (leaps mask m p)
  | 0, n, p => by rw [Nat.zero_add]; rfl
  | m + 1, n, p => by
    have e : m + 1 + n = (m + n) + 1 := by omega
    rw [e, leaps, leaps, leaps_add mask m n]
theorem leaps_snd (mask : Nat) : ∀ n p, (leaps mask n p).2 = p.2 / 32 ^ n
  | 0, p => by simp [leaps]
  | n + 1, p => by
    rw [leaps, leaps_snd mask n]
    show p.2 / 32 / 32 ^ n = _
    rw [Nat.div_div_eq_div_mul, Nat.pow_succ, Nat.mul_comm]
theorem leaps_fst_lt {mask : Nat} : ∀ n p, p.1 < mask + 1 → (leaps mask n p).1 < mask + 1
  | 0, p, h => h
  | n + 1, p, h => by
    rw [leaps]
    exact leaps_fst_lt n _ (Nat.mod_lt _ (Nat.succ_pos _))
theorem leaps_lcg {mask : Nat} : ∀ n i, i < mask + 1 → (leaps mask n (i, 0)).1 = lcg n i % (mask + 1)
  | 0, i, h => (Nat.mod_eq_of_lt h).symm
  | n + 1, i, h => by
    rw [leaps, lcg]
    have e : SetTable.leap mask i 0 = ((i * 5 + 1) % (mask + 1), 0) := by unfold SetTable.leap; simp
    show (leaps mask n (SetTable.leap mask i 0)).1 = _
    rw [e, leaps_lcg n _ (Nat.mod_lt _ (Nat.succ_pos _))]
    rw [lcg_eq, lcg_eq, Nat.add_mod, Nat.mul_mod, Nat.mod_mod, ← Nat.mul_mod, ← Nat.add_mod, Nat.mul_comm i 5]
theorem leaps_reach {mask k : Nat} (hm : mask + 1 = 2 ^ k) {i p j : Nat} (hi : i < mask + 1) (hp : p < 2 ^ 64) (hj : j < mask + 1) : ∃ n, n < mask + 15 ∧ (leaps mask n (i, p)).1 = j := by
  have h0 : (leaps mask 13 (i, p)).2 = 0 := by
    rw [leaps_snd]
    exact Nat.div_eq_of_lt (Nat.lt_of_lt_of_le hp (by decide))
  have h1 := leaps_fst_lt (mask := mask) 13 (i, p) hi
  generalize hx : leaps mask 13 (i, p) = x at h0 h1
  obtain ⟨a, b⟩ := x
  dsimp only at h0 h1
  subst h0
  obtain ⟨n, hn, e⟩ := lcg_reach k a j
  refine ⟨13 + n, by omega, ?_⟩
  rw [leaps_add, hx, leaps_lcg n a h1, hm, e, ← hm]
  exact Nat.mod_eq_of_lt hj
theorem free_reach (mask : Nat) (owner : Array (Option Nat)) : ∀ n fuel i p, n < fuel → (owner.getD (leaps mask n (i, p)).1 (some 0)).isNone = true → ∃ j, SetTable.layClean.free mask owner fuel i p = some j ∧ (owner.getD j (some 0)).isNone = true := by
  intro n
  induction n with
  | zero =>
    intro fuel i p h e
    obtain ⟨fuel, rfl⟩ : ∃ f, fuel = f + 1 := ⟨fuel - 1, by omega⟩
    unfold SetTable.layClean.free
    cases hf : (List.range (SetTable.runEnd mask i + 1 - i)).find? fun k => (owner.getD (i + k) (some 0)).isNone with
    | some k => exact ⟨i + k, rfl, by have := List.find?_some hf; exact this⟩
    | none =>
      have h0 : 0 ∈ List.range (SetTable.runEnd mask i + 1 - i) := by
        rw [List.mem_range]
        unfold SetTable.runEnd
        split <;> omega
      have := List.find?_eq_none.mp hf 0 h0
      rw [Nat.add_zero] at this
      exact absurd e this
  | succ n ih =>
    intro fuel i p h e
    obtain ⟨fuel, rfl⟩ : ∃ f, fuel = f + 1 := ⟨fuel - 1, by omega⟩
    unfold SetTable.layClean.free
    cases hf : (List.range (SetTable.runEnd mask i + 1 - i)).find? fun k => (owner.getD (i + k) (some 0)).isNone with
    | some k => exact ⟨i + k, rfl, by have := List.find?_some hf; exact this⟩
    | none =>
      dsimp only
      rw [leaps] at e
      exact ih fuel _ _ (by omega) e
theorem bits_lt (h : Int) : SetTable.bits h < 2 ^ 64 := by
  unfold SetTable.bits
  have h1 := Int.emod_nonneg h (show (2 ^ 64 : Int) ≠ 0 by decide)
  have h2 := Int.emod_lt_of_pos h (show (0 : Int) < 2 ^ 64 by decide)
  omega
structure LaidTo (mask n : Nat) (ow : Array (Option Nat)) : Prop where
  size : ow.size = mask + 1
  perm : (ow.toList.filterMap id).Perm (List.range n)
theorem fm_set : ∀ (l : List (Option Nat)) (j k : Nat) (h : j < l.length), l[j] = none → ((l.set j (some k)).filterMap id).Perm (k :: l.filterMap id) := by
  intro l
  induction l with
  | nil => intro j k h; exact absurd h (Nat.not_lt_zero _)
  | cons x l ih =>
    intro j k h e
    cases j with
    | zero =>
      have e : x = none := e
      subst e
      exact .rfl
    | succ j =>
      have q := ih j k (by simpa using h) (by simpa using e)
      rw [List.set_cons_succ]
      cases x with
      | none => exact q
      | some y =>
        show (y :: (l.set j (some k)).filterMap id).Perm (k :: y :: l.filterMap id)
        exact (q.cons y).trans (List.Perm.swap _ _ _)
theorem fm_len : ∀ l : List (Option Nat), (l.filterMap id).length < l.length → ∃ j, ∃ h : j < l.length, l[j] = none := by
  intro l
  induction l with
  | nil => intro h; exact absurd h (Nat.not_lt_zero _)
  | cons x l ih =>
    intro h
    cases x with
    | none => exact ⟨0, Nat.succ_pos _, rfl⟩
    | some y =>
      obtain ⟨j, hj, e⟩ := ih (by
        have h : (y :: l.filterMap id).length < (some y :: l).length := h
        simp only [List.length_cons] at h
        omega)
      exact ⟨j + 1, by simpa using hj, e⟩
theorem lay_go {mask k : Nat} (hm : mask + 1 = 2 ^ k) : ∀ (hs : List Int) (ow : Array (Option Nat)) (n : Nat), LaidTo mask n ow → n + hs.length ≤ mask →
    ∃ ow', (hs.foldl (init := some (ow, n)) fun acc h => do
      let (owner, k) ← acc
      let j ← SetTable.layClean.free mask owner (SetTable.turns mask) (SetTable.bits h % (mask + 1)) (SetTable.bits h)
      pure (owner.setIfInBounds j (some k), k + 1)) = some (ow', n + hs.length) ∧ LaidTo mask (n + hs.length) ow' := by
  intro hs
  induction hs with
  | nil => intro ow n L _; exact ⟨ow, rfl, L⟩
  | cons h hs ih =>
    intro ow n L hn
    rw [List.length_cons] at hn
    have hlen : (ow.toList.filterMap id).length = n := by rw [L.perm.length_eq, List.length_range]
    obtain ⟨j0, hj0, e0⟩ := fm_len ow.toList (by rw [hlen, Array.length_toList, L.size]; omega)
    rw [Array.length_toList] at hj0
    have e0' : ow.getD j0 (some 0) = none := by simp only [Array.getD, hj0, dite_true]; simpa using e0
    obtain ⟨m, hm1, hm2⟩ := leaps_reach hm (i := SetTable.bits h % (mask + 1)) (p := SetTable.bits h) (j := j0) (Nat.mod_lt _ (Nat.succ_pos _)) (bits_lt h) (by rw [← L.size]; exact hj0)
    obtain ⟨j, hf, hj⟩ := free_reach mask ow m (SetTable.turns mask) (SetTable.bits h % (mask + 1)) (SetTable.bits h) hm1 (by rw [hm2, e0']; rfl)
    have hjl : j < ow.size := by
      rcases Nat.lt_or_ge j ow.size with q | q
      · exact q
      · have : ow.getD j (some 0) = some 0 := by simp [Array.getD, Nat.not_lt.mpr q]
        rw [this] at hj; cases hj
    have hjn : ow.toList[j]'(by simpa using hjl) = none := by
      have : ow.getD j (some 0) = ow[j] := by simp [Array.getD, hjl]
      rw [this, Option.isNone_iff_eq_none] at hj
      simpa using hj
    have L' : LaidTo mask (n + 1) (ow.setIfInBounds j (some n)) := by
      refine ⟨by rw [Array.size_setIfInBounds]; exact L.size, ?_⟩
      rw [Array.toList_setIfInBounds]
      refine (fm_set _ j n (by simpa using hjl) hjn).trans ((L.perm.cons n).trans ?_)
      rw [List.range_succ]
      exact (List.perm_append_singleton n _).symm
    obtain ⟨ow', e1, e2⟩ := ih _ (n + 1) L' (by omega)
    refine ⟨ow', ?_, ?_⟩
    · rw [List.foldl_cons]
      simp only [Option.bind_eq_bind, Option.bind_some, hf, Option.pure_def] at e1 ⊢
      rw [e1, List.length_cons]
      congr 2
      omega
    · rw [List.length_cons, show n + (hs.length + 1) = n + 1 + hs.length by omega]; exact e2
theorem lay_ok {mask k : Nat} (hm : mask + 1 = 2 ^ k) (hs : Array Int) (hn : hs.size ≤ mask) : ∃ ow, SetTable.layClean mask hs = some ow ∧ LaidTo mask hs.size ow := by
  have L0 : LaidTo mask 0 (Array.replicate (mask + 1) none) := by
    refine ⟨Array.size_replicate, ?_⟩
    rw [Array.toList_replicate]
    have : ∀ n, (List.replicate n (none : Option Nat)).filterMap id = [] := fun n => by
      induction n with
      | zero => rfl
      | succ n ih => rw [List.replicate_succ, List.filterMap_cons_none rfl, ih]
    rw [this]
    exact .rfl
  obtain ⟨ow, e1, e2⟩ := lay_go hm hs.toList _ 0 L0 (by rw [Array.length_toList]; omega)
  rw [Nat.zero_add, Array.length_toList] at e1 e2
  refine ⟨ow, ?_, e2⟩
  unfold SetTable.layClean
  rw [← Array.foldl_toList]
  rw [e1]
  rfl
theorem laid_ok {mask k finger moves : Nat} {led plain : Bool} (hm : mask + 1 = 2 ^ k) (hs : Array Int) (hn : hs.size ≤ mask) :
    ∃ t order, SetTable.laid mask finger moves led plain hs = some (t, order) ∧ order.toList.Perm (List.range hs.size) ∧ t.place.size = hs.size := by
  obtain ⟨ow, e, L⟩ := lay_ok hm hs hn
  have hl : ∀ (l : List (Option Nat)) (d : Nat) (f : Nat → Option Nat), (∀ i, i < l.length → f (d + i) = l.getD i none) → (((List.range' d l.length).filterMap fun j => (f j).map (j, ·)).map (·.2)) = l.filterMap id := by
    intro l
    induction l with
    | nil => intro d f _; rfl
    | cons x l ih =>
      intro d f hf
      rw [List.length_cons, List.range'_succ]
      have h0 := hf 0 (Nat.succ_pos _)
      rw [Nat.add_zero] at h0
      have h0 : f d = x := h0
      have ih' := ih (d + 1) f fun i hi => by
        have := hf (i + 1) (by rw [List.length_cons]; omega)
        rw [show d + 1 + i = d + (i + 1) by omega, this]
        rfl
      cases x with
      | none => rw [List.filterMap_cons_none (by rw [h0]; rfl), ih']; rfl
      | some y => rw [List.filterMap_cons_some (b := (d, y)) (by rw [h0]; rfl), List.map_cons, ih']; rfl
  have e2 : (((List.range (mask + 1)).filterMap fun j => (ow.getD j none).map (j, ·)).map (·.2)) = ow.toList.filterMap id := by
    have := hl ow.toList 0 (fun j => ow.getD j none) fun i hi => by
      rw [Nat.zero_add]
      simp [Array.getD, List.getD]
      split <;> simp_all
    rw [Array.length_toList, L.size] at this
    rw [← this, List.range_eq_range']
  refine ⟨_, _, by unfold SetTable.laid; rw [e]; rfl, ?_, ?_⟩
  · show (((List.range (mask + 1)).filterMap fun j => (ow.getD j none).map (j, ·)).map (·.2)).Perm _
    rw [e2]
    exact L.perm
  · show ((((List.range (mask + 1)).filterMap fun j => (ow.getD j none).map (j, ·)).map (·.1)).toArray).size = _
    rw [List.size_toArray, List.length_map]
    have := congrArg List.length e2
    rw [List.length_map, L.perm.length_eq, List.length_range] at this
    exact this
theorem size_above_go : ∀ fuel (size n : Nat), (∃ k, size = 2 ^ k) → 0 < size → n < size * 2 ^ fuel → (∃ k, SetTable.sizeAbove.go n fuel size = 2 ^ k) ∧ n < SetTable.sizeAbove.go n fuel size := by
  intro fuel
  induction fuel with
  | zero => intro size n h _ hn; exact ⟨h, by show n < size; simpa using hn⟩
  | succ fuel ih =>
    intro size n h hp hn
    unfold SetTable.sizeAbove.go
    split
    · obtain ⟨k, rfl⟩ := h
      exact ih _ _ ⟨k + 1, by rw [Nat.pow_succ]⟩ (by omega) (by rw [Nat.pow_succ] at hn; rw [Nat.mul_assoc, Nat.mul_comm 2]; exact hn)
    · rename_i q
      exact ⟨h, by omega⟩
theorem size_above {n : Nat} (h : n < 2 ^ 60) : (∃ k, SetTable.sizeAbove n = 2 ^ k) ∧ n < SetTable.sizeAbove n :=
  size_above_go 64 8 n ⟨3, rfl⟩ (by decide) (Nat.lt_of_lt_of_le h (by decide))
end L2
set_option Elab.async false
set_option linter.all false
set_option maxRecDepth 100000
set_option maxHeartbeats 4000000
namespace L2
open PySem PySem.Spec PyProof.Rows
noncomputable def Pw (t : SetTable) : Prop := ∃ k, t.mask + 1 = 2 ^ k
noncomputable def SetM (w : World) (h : Heap) (a : Addr) (ks : List Key) : Prop := ∃ o es ep t, h.get? a = some o ∧ SObj w o es ep t ks ∧ (ks = [] → Pw t)
theorem SetM.is {w : World} {h : Heap} {a : Addr} {ks : List Key} (x : SetM w h a ks) : SetIs w h a ks := by
  obtain ⟨o, es, ep, t, g, S, _⟩ := x
  exact ⟨o, es, ep, t, g, S⟩
theorem SetM.of {w : World} {h : Heap} {a : Addr} {ks : List Key} (x : SetIs w h a ks) (hn : ks ≠ []) : SetM w h a ks := by
  obtain ⟨o, es, ep, t, g, S⟩ := x
  exact ⟨o, es, ep, t, g, S, fun e => absurd e hn⟩
theorem fresh_m {w : World} {h : Heap} {a : Addr} (g : h.get? a = some (freshSet w)) : SetM w h a [] := by
  obtain ⟨o, es, ep, t, g', S⟩ := fresh_is g
  rw [g] at g'
  cases g'
  refine ⟨_, es, ep, t, g, S, fun _ => ⟨3, ?_⟩⟩
  have := S.data
  cases this
  rfl
section
variable {prog : Program} {w : World} {A : Around} {E : Value → Shared → Prop} {s : Shared}
theorem fills {t : SetTable} {n : Nat} (h : t.fits n = true) (r : RT t) : t.fill = n ∧ t.place.size = n := by
  simp only [SetTable.fits, Bool.and_eq_true, beq_iff_eq] at h
  refine ⟨?_, h.1⟩
  unfold SetTable.fill
  rw [h.1, r.dum]
  rfl
theorem reord {es : Array (Int × Value)} {order : Array Nat} (hp : order.toList.Perm (List.range es.size)) : (order.filterMap (es[·]?)).toList.Perm es.toList ∧ (order.filterMap (es[·]?)).size = es.size := by
  have h1 : (order.filterMap (es[·]?)).toList.Perm es.toList := by
    rw [Array.toList_filterMap]
    exact (hp.filterMap _).trans (by rw [filterMap_getElem?_range])
  exact ⟨h1, by rw [← Array.length_toList, h1.length_eq, Array.length_toList]⟩
theorem relay_ok {a : Addr} {ks : List Key} {wanted : Nat} {Q : Unit → Shared → Prop} (x : SetIs w s.heap a ks) (hw : ks.length ≤ wanted) (hb : wanted < 100000)
    (h : ∀ h' ks', Heap.SameBut a s.heap h' → ks'.Perm ks → (∃ o es ep t, h'.get? a = some o ∧ SObj w o es ep t ks' ∧ Pw t ∧ wanted ≤ t.mask) → Q () { s with heap := h' }) : wpAny (model prog w) A (setRelay a wanted) Q E s := by
  obtain ⟨o, es, ep, t, g, S⟩ := x
  obtain ⟨⟨k, hk⟩, hlt⟩ := size_above (n := wanted) (Nat.lt_of_lt_of_le hb (by decide))
  have hk1 : SetTable.sizeAbove wanted - 1 + 1 = 2 ^ k := by omega
  have hsz : es.size = ks.length := S.size
  unfold setRelay
  refine wpAny_bind (wpAny_setState_of g S.data S.fit ?_); dsimp only
  have hup : SetTable.sizeAbove wanted ≤ sizeLine := by
    have : ∀ fuel size, size ≤ 2 * wanted + 8 → SetTable.sizeAbove.go wanted fuel size ≤ 2 * wanted + 8 := by
      intro fuel
      induction fuel with
      | zero => intro size h; exact h
      | succ fuel ih =>
        intro size h
        unfold SetTable.sizeAbove.go
        split
        · exact ih _ (by omega)
        · exact h
    have := this 64 8 (by omega)
    rw [sizeLine_eq]
    unfold SetTable.sizeAbove
    omega
  rw [if_neg (Nat.not_lt.mpr hup)]
  obtain ⟨t', order, e1, e2, e3⟩ := laid_ok (mask := SetTable.sizeAbove wanted - 1) (finger := t.finger) (moves := t.movedTo (SetTable.sizeAbove wanted - 1)) (led := t.led) (plain := t.plain) hk1 (es.map (·.1)) (by rw [Array.size_map, hsz]; omega)
  rw [Array.size_map] at e2 e3
  obtain ⟨r1, r2⟩ := reord e2
  obtain ⟨q1, q2, q3, q4⟩ := laid_rt e1
  have e1' : t.relaid (es.map (·.1)) wanted = some (t', order) := e1
  rw [e1']
  refine wpAny_bind ?_
  show wpAny _ _ (if ((order.filterMap (es[·]?)).size != es.size) = true then unsupported "internal:set-table-lost-an-element" >>= fun _ => pure (order.filterMap (es[·]?), t') else pure (order.filterMap (es[·]?), t')) _ _ _
  rw [if_neg (by rw [r2]; simp)]
  refine wpAny_pure ?_
  dsimp only
  obtain ⟨ks', p1, p2⟩ := paired_perm r1 S.ent
  have few' : ks'.length < scanBound := by rw [p1.length_eq]; exact S.few
  refine wpAny_storeSet_of g S.data ?_ (few_line (by rw [r2, hsz]; exact S.few))
  have g1 := store_set (es' := order.filterMap (es[·]?)) (t' := t') g S.data
  refine h _ ks' (Heap.SameBut.update s.heap a _) p1 ⟨_, _, _, _, g1, ⟨S.exact', rfl, p2, few', ?_, q1, q2.trans S.led⟩, ⟨k, by rw [q4]; exact hk1⟩, by rw [q4]; omega⟩
  simp only [SetTable.fits, SetTable.fill, q1.dum, e3, r2, q4, Bool.and_eq_true, beq_iff_eq, decide_eq_true_eq]
  refine ⟨trivial, ?_⟩
  show es.size + (#[] : Array Nat).size ≤ _
  simp only [List.size_toArray, List.length_nil]
  omega
theorem room_ok {a : Addr} {ks : List Key} {more : Nat} {Q : Unit → Shared → Prop} (x : SetM w s.heap a ks) (hb : ks.length + more < 4096)
    (h : ∀ h' ks', Heap.SameBut a s.heap h' → ks'.Perm ks → (∃ o es ep t, h'.get? a = some o ∧ SObj w o es ep t ks' ∧ (ks' = [] → Pw t ∧ more ≤ t.mask)) → Q () { s with heap := h' }) : wpAny (model prog w) A (setRoomFor a more) Q E s := by
  obtain ⟨o, es, ep, t, g, S, pw⟩ := x
  unfold setRoomFor
  refine wpAny_bind (wpAny_setState_of g S.data S.fit ?_); dsimp only
  obtain ⟨f1, f2⟩ := fills S.fit S.rt
  have hsz : es.size = ks.length := S.size
  unfold SetTable.roomFor
  by_cases hc : (t.fill + more) * 5 ≥ t.mask * 3
  · rw [if_pos hc]
    dsimp only
    refine relay_ok ⟨o, es, ep, t, g, S⟩ (by rw [f2, hsz]; omega) (by rw [f2, hsz]; omega) fun h' ks' hs hp ⟨o', es', ep', t', g', S', pw', hm⟩ => h h' ks' hs hp ⟨o', es', ep', t', g', S', fun _ => ⟨pw', by rw [f2] at hm; omega⟩⟩
  · rw [if_neg hc]
    dsimp only
    refine wpAny_pure ?_
    have e : s = { s with heap := s.heap } := by cases s; rfl
    have q := h s.heap ks (Heap.SameBut.refl a s.heap) .rfl ⟨o, es, ep, t, g, S, fun e => ⟨pw e, by omega⟩⟩
    rw [← e] at q
    exact q
end
end L2
set_option Elab.async false
set_option linter.all false
set_option maxRecDepth 100000
set_option maxHeartbeats 4000000
namespace L2
open PySem PySem.Spec PyProof.Rows
theorem ent_noref {w : World} {l : List (Int × Value)} {ks : List Key} (p : Paired (Ent w) l ks) : ∀ e ∈ l, ∀ a, e.2 ≠ .ref a := by
  induction p with
  | nil => intro e he; cases he
  | cons h _ ih =>
    intro e he a
    rcases List.mem_cons.mp he with rfl | he
    · rcases keyIs_shape h.1 with ⟨i, t, _, q⟩ | ⟨x, t, _, q⟩ <;> rw [q] <;> intro c <;> cases c
    · exact ih e he a
section
variable {prog : Program} {w : World} {A : Around} {E : Value → Shared → Prop} {s : Shared}
theorem quiet_one {a : Addr} {ks : List Key} (x : SetIs w s.heap a ks) {β γ : Type} {b0 : β} {f : (Int × Value) → β → Sem (ForInStep β)} {k : β → Sem γ} (hf : ∀ e b, (∀ a, e.2 ≠ .ref a) → f e b = pure (.yield b0)) {Q : γ → Shared → Prop} (h : wpAny (model prog w) A (k b0) Q E s) :
    wpAny (model prog w) A (setEntries a >>= fun es => forIn es b0 f >>= k) Q E s := by
  obtain ⟨o, es, ep, t, g, S⟩ := x
  refine wpAny_bind (wpAny_setEntries_of g S.data S.fit (wpAny_bind ?_))
  have hn := ent_noref S.ent
  refine wpAny_forIn_array' f (fun l b s' => (∀ e ∈ l, ∀ a, e.2 ≠ .ref a) ∧ b = b0 ∧ s' = s) _ (fun x rest b s' hI => ?_) (fun b s' hI => by obtain ⟨_, rfl, rfl⟩ := hI; exact h) es b0 ⟨hn, rfl, rfl⟩
  obtain ⟨h1, rfl, rfl⟩ := hI
  rw [hf x b (h1 x List.mem_cons_self)]
  exact wpAny_pure ⟨fun e he => h1 e (List.mem_cons_of_mem _ he), rfl, rfl⟩
theorem quiet_ok {a b : Addr} {ka kb : List Key} (x : SetIs w s.heap a ka) (y : SetIs w s.heap b kb) {Q : Bool → Shared → Prop} (h : Q true s) : wpAny (model prog w) A (setsQuiet [a, b]) Q E s := by
  unfold setsQuiet
  simp only [List.forIn_cons, List.forIn_nil]
  refine wpAny_bind (wpAny_bind (quiet_one x (fun e b hn => ?_) ?_))
  · obtain ⟨i, v⟩ := e
    cases v <;> first | rfl | exact absurd rfl (hn _)
  · refine wpAny_pure ?_
    dsimp only
    refine wpAny_bind (quiet_one y (fun e b hn => ?_) ?_)
    · obtain ⟨i, v⟩ := e
      cases v <;> first | rfl | exact absurd rfl (hn _)
    · exact wpAny_pure (wpAny_pure (wpAny_pure h))
theorem unseen_ok {o f : Addr} {eo : Array (Int × Value)} {po : Nat} {to : SetTable} {ko kf : List Key} (x : SAt w s.heap o eo po to ko) (y : SetIs w s.heap f kf) (ne : f ≠ o) {Q : Array (Int × Value) → Shared → Prop}
    (h : ∀ h' ps, ps.toList.Perm eo.toList → Heap.SameBut f s.heap h' → SetIs w h' f kf → Q ps { s with heap := h' }) : wpAny (model prog w) A (setWalkUnseen o [f] (some f)) Q E s := by
  obtain ⟨ob, g, S⟩ := id x
  have hs : s = { s with heap := s.heap } := by cases s; rfl
  have base : ∀ ps : Array (Int × Value), ps.toList.Perm eo.toList → Q ps s := fun ps hp => by
    have q := h s.heap ps hp (Heap.SameBut.refl f s.heap) y
    rwa [← hs] at q
  unfold setWalkUnseen
  refine wpAny_bind (wpAny_setState_of g S.data S.fit (wpAny_bind (wp_byText ?_))); dsimp only
  refine wpAny_ite_split (fun hc => ?_) (fun hc => ?_)
  · unfold setWalk
    refine wpAny_bind (wpAny_setState_of g S.data S.fit (wpAny_bind (wp_byText ?_)))
    cases hb : byT w with
    | true =>
      rw [if_pos rfl]
      exact wpAny_bind (wpAny_askSetting (wpAny_pure (base _ (pick_perm _ eo))))
    | false =>
      rw [if_neg Bool.false_ne_true]
      rw [hb] at hc
      have hc' : ((to.led && to.plain) || decide (eo.size ≤ 1)) = true := by simpa using hc
      refine wpAny_ite_split (fun hab => ?_) fun _ => ?_
      · have q : (!to.plain && decide (eo.size > 1)) = true := hab
        rw [Bool.and_eq_true, decide_eq_true_eq, Bool.not_eq_true'] at q
        rw [Bool.or_eq_true, Bool.and_eq_true, decide_eq_true_eq, q.1] at hc'
        rcases hc' with h1 | h1
        · exact absurd h1.2 Bool.false_ne_true
        · omega
      · refine wpAny_bind ?_
        show wpAny _ _ (if (!to.led && decide (eo.size > 1)) = true then unsupported "set:maker-not-led" else pure ()) _ _ _
        rw [S.led, hb]
        simp only [Bool.not_false, Bool.not_true, Bool.false_and, Bool.false_eq_true, if_false]
        exact wpAny_pure (wpAny_pure (base eo .rfl))
  · refine wpAny_bind (quiet_ok ⟨ob, eo, po, to, g, S⟩ y ?_)
    rw [if_neg (by simp)]
    refine wpAny_bind (wpAny_rule ?_)
    obtain ⟨of, ef, pf, tf, gf, F⟩ := y
    refine wpAny_bind (wpAny_setState_of gf F.data F.fit ?_); dsimp only
    refine wpAny_ite_split (fun _ => ?_) (fun _ => wpAny_pure (base eo .rfl))
    refine wpAny_bind (wpAny_storeSet_of gf F.data ?_ (few_line (by rw [F.size]; exact F.few)))
    have g1 := store_set (es' := ef) (t' := { tf with led := tf.led && to.led, plain := tf.plain && to.plain }) gf F.data
    refine wpAny_pure (h _ eo .rfl (Heap.SameBut.update s.heap f _) ⟨_, ef, _, _, g1, ⟨F.exact', rfl, F.ent, F.few, F.fit, ⟨F.rt.ris, F.rt.dum⟩, ?_⟩⟩)
    show (tf.led && to.led) = _
    rw [F.led, S.led]
    simp
end
end L2
set_option Elab.async false
set_option linter.all false
set_option maxRecDepth 100000
set_option maxHeartbeats 4000000
namespace L2
open PySem PySem.Spec PyProof.Rows
theorem mem_addK {ks : List Key} {k x : Key} : x ∈ addK ks k ↔ x ∈ ks ∨ x = k := by
  by_cases h : k ∈ ks
  · rw [addK_in h]
    exact ⟨.inl, fun q => q.elim id fun e => e ▸ h⟩
  · rw [addK_out h, List.mem_append, List.mem_singleton]
theorem nodup_addK {ks : List Key} {k : Key} (hn : ks.Nodup) : (addK ks k).Nodup := by
  by_cases h : k ∈ ks
  · rw [addK_in h]; exact hn
  · rw [addK_out h]
    refine List.nodup_append.mpr ⟨hn, by simp, fun a ha b hb e => h ?_⟩
    rw [List.mem_singleton] at hb
    exact hb ▸ e ▸ ha
theorem nodup_dedK (ks : List Key) : (dedK ks).Nodup := by
  have : ∀ (ks acc : List Key), acc.Nodup → (ks.foldl addK acc).Nodup := by
    intro ks
    induction ks with
    | nil => intro acc h; exact h
    | cons k ks ih => intro acc h; exact ih _ (nodup_addK h)
  exact this ks [] List.nodup_nil
section
variable {prog : Program} {w : World} {A : Around} {E : Value → Shared → Prop} {s : Shared}
theorem merge_ok {a o : Addr} {ks ko : List Key} {each : Sem Unit} {Q : Unit → Shared → Prop} (x : SetM w s.heap a ks) (y : SetIs w s.heap o ko) (ne : a ≠ o) (n1 : ks.Nodup) (n2 : ko.Nodup) (hb : ks.length + ko.length + 1 < 4096)
    (he : ∀ (s' : Shared) (Q' : Unit → Shared → Prop), (∀ ob, s.heap.get? o = some ob → s'.heap.get? o = some ob) → Q' () s' → wpAny (model prog w) A each Q' E s')
    (h : ∀ h' ks', Heap.SameBut a s.heap h' → SetM w h' a ks' → ks'.Nodup → (∀ k, k ∈ ks' ↔ k ∈ ks ∨ k ∈ ko) → Q () { s with heap := h' }) : wpAny (model prog w) A (setMerge a o each) Q E s := by
  obtain ⟨oo, eo, po, to, go, O⟩ := y
  have hs : s = { s with heap := s.heap } := by cases s; rfl
  have zo : eo.size = ko.length := O.size
  unfold setMerge
  rw [if_neg (by simpa using ne)]
  refine wpAny_bind (wpAny_setState_of go O.data O.fit ?_); dsimp only
  refine wpAny_ite_split (fun hem => ?_) (fun hem => ?_)
  · have e0 : ko = [] := by
      rw [Array.isEmpty_iff] at hem
      apply List.eq_nil_of_length_eq_zero
      rw [← zo, hem]
      rfl
    subst e0
    refine wpAny_pure ?_
    have q := h s.heap ks (Heap.SameBut.refl a s.heap) x n1 (fun k => by simp)
    rwa [← hs] at q
  · have hne : ko ≠ [] := fun e => hem (by
      subst e
      rw [Array.isEmpty_iff]
      exact Array.eq_empty_of_size_eq_zero zo)
    refine wpAny_bind (room_ok x (by rw [zo]; omega) fun h1 ks1 s1 p1 ⟨oa, ea, pa, ta, ga, Sa, pw⟩ => ?_)
    have go1 : h1.get? o = some oo := (s1.2 o (Ne.symm ne)).trans go
    have O1 : SAt w h1 o eo po to ko := ⟨oo, go1, O⟩
    refine wpAny_bind (wpAny_setState_of (s := { s with heap := h1 }) ga Sa.data Sa.fit ?_); dsimp only
    obtain ⟨f1, f2⟩ := fills Sa.fit Sa.rt
    have za : ea.size = ks1.length := Sa.size
    have fin0 : ∀ (es : Array (Int × Value)) (t : SetTable) (k2 : List Key), ks1 = [] → k2.Perm ko → Paired (Ent w) es.toList k2 → t.fits es.size = true → RT t → t.led = (!byT w) → wpAny (model prog w) A (storeSet a es t) Q E { s with heap := h1 } := by
      intro es t k2 e1 p2 pr ft rt ld
      have few2 : k2.length < scanBound := by rw [p2.length_eq]; unfold scanBound; omega
      have z2 : es.size = k2.length := by have := paired_len2 pr; rwa [Array.length_toList] at this
      refine wpAny_storeSet_of ga Sa.data ?_ (few_line (by rw [z2]; exact few2))
      have g1 := store_set (s := { s with heap := h1 }) (es' := es) (t' := t) ga Sa.data
      have ek : ks = [] := by
        rw [e1] at p1
        exact List.Perm.eq_nil p1.symm
      refine h _ k2 (s1.trans (Heap.SameBut.update h1 a _)) (SetM.of ⟨_, es, _, t, g1, ⟨Sa.exact', rfl, pr, few2, ft, rt, ld⟩⟩ ?_) (p2.nodup_iff.mpr n2) (fun k => ?_)
      · intro e
        rw [e] at p2
        exact hne (List.Perm.eq_nil p2.symm)
      · rw [p2.mem_iff, ek]
        simp
    cases hr : ta.road to with
    | slotForSlot =>
      dsimp only
      have hfz : ta.fill = 0 := by
        unfold SetTable.road at hr
        split at hr
        · cases hr
        · rename_i q
          simpa using q
      have e1 : ks1 = [] := List.eq_nil_of_length_eq_zero (by omega)
      refine fin0 eo _ ko e1 .rfl O.ent O.fit ⟨O.rt.ris, O.rt.dum⟩ ?_
      show (ta.led && to.led) = _
      rw [Sa.led, O.led]
      simp
    | clean =>
      dsimp only
      have hfz : ta.fill = 0 := by
        unfold SetTable.road at hr
        split at hr
        · cases hr
        · rename_i q
          simpa using q
      have e1 : ks1 = [] := List.eq_nil_of_length_eq_zero (by omega)
      obtain ⟨⟨k, hk⟩, hm⟩ := pw e1
      obtain ⟨t', order, l1, l2, l3⟩ := laid_ok (mask := ta.mask) (finger := ta.finger) (moves := ta.moves) (led := ta.led && to.led) (plain := ta.plain && to.plain) hk (eo.map (·.1)) (by rw [Array.size_map]; exact hm)
      rw [Array.size_map] at l2 l3
      obtain ⟨r1, r2⟩ := reord l2
      obtain ⟨q1, q2, q3, q4⟩ := laid_rt l1
      rw [l1]
      refine wpAny_bind ?_
      show wpAny _ _ (if ((order.filterMap (eo[·]?)).size != eo.size) = true then unsupported "internal:set-table-lost-an-element" >>= fun _ => pure (order.filterMap (eo[·]?), t') else pure (order.filterMap (eo[·]?), t')) _ _ _
      rw [if_neg (by rw [r2]; simp)]
      refine wpAny_pure ?_
      dsimp only
      obtain ⟨k2, p2, pr⟩ := paired_perm r1 O.ent
      refine fin0 _ t' k2 e1 p2 pr ?_ q1 ?_
      · simp only [SetTable.fits, SetTable.fill, q1.dum, l3, r2, q4, Bool.and_eq_true, beq_iff_eq, decide_eq_true_eq]
        refine ⟨trivial, ?_⟩
        show eo.size + (#[] : Array Nat).size ≤ _
        simp only [List.size_toArray, List.length_nil]
        omega
      · rw [q2, Sa.led, O.led]
        simp
    | oneByOne =>
      dsimp only
      refine wpAny_bind (unseen_ok (s := { s with heap := h1 }) O1 ⟨oa, ea, pa, ta, ga, Sa⟩ ne fun h2 ps pp s2 S2 => ?_)
      obtain ⟨kp, pk, pr⟩ := paired_perm pp O.ent
      have n1' : ks1.Nodup := p1.nodup_iff.mpr n1
      refine wpAny_bind (wpAny_forIn_array' _ (fun (l : List (Int × Value)) (b : PUnit) s' => ∃ h' kc kr, s' = { s with heap := h' } ∧ Heap.SameBut a s.heap h' ∧ SetIs w h' a kc ∧ kc.Nodup ∧ Paired (Ent w) l kr ∧ (∀ k, (k ∈ kc ∨ k ∈ kr) ↔ k ∈ ks ∨ k ∈ ko) ∧ kc.length + kr.length ≤ ks.length + ko.length) _ (fun e rest b s' hI => ?_) (fun b s' hI => ?_) ps _ ?_)
      · obtain ⟨h', kc, kr, rfl, sb, SC, nc, pl, mm, ll⟩ := hI
        cases pl with
        | cons he1 pl =>
          rename_i kk kr
          obtain ⟨hx, vx⟩ := e
          rw [List.length_cons] at ll
          refine wpAny_bind (wpAny_holding ?_)
          have e1 : hx = keyH w kk := he1.2
          subst e1
          refine add_ok (s := { s with heap := h' }) he1.1 SC (by unfold scanBound; omega) fun h3 k3 s3 S3 p3 bb => ?_
          have sb3 : Heap.SameBut a s.heap h3 := sb.trans s3
          have go3 : h3.get? o = some oo := (sb3.2 o (Ne.symm ne)).trans go
          refine wpAny_bind (he _ _ (fun ob e => (sb3.2 o (Ne.symm ne)).trans e) ?_)
          refine wpAny_bind (wpAny_setState_of (s := { s with heap := h3 }) go3 O.data O.fit ?_); dsimp only
          rw [if_neg (by simp)]
          refine wpAny_pure ⟨h3, k3, kr, rfl, sb3, S3, p3.nodup_iff.mpr (nodup_addK nc), pl, fun k => ?_, ?_⟩
          · rw [← mm k, p3.mem_iff, mem_addK, List.mem_cons, or_assoc]
          · have := addK_len kc kk
            rw [p3.length_eq]
            omega
      · obtain ⟨h', kc, kr, rfl, sb, SC, nc, pl, mm, ll⟩ := hI
        cases pl
        refine wpAny_pure (h h' kc sb (SetM.of SC fun e => ?_) nc fun k => by rw [← mm k]; simp)
        obtain ⟨k0, hk0⟩ := List.exists_mem_of_ne_nil ko hne
        have := (mm k0).mpr (.inr hk0)
        rw [e] at this
        simp at this
      · refine ⟨h2, ks1, kp, rfl, s1.trans s2, S2, n1', pr, fun k => by rw [p1.mem_iff, pk.mem_iff], ?_⟩
        rw [p1.length_eq, pk.length_eq]
        exact Nat.le_refl _
end
end L2
set_option Elab.async false
set_option linter.all false
set_option maxRecDepth 100000
set_option maxHeartbeats 4000000
namespace L2
open PySem PySem.Spec PyProof.Rows
theorem entry_s_or : entryFor table "set.__or__" = some Builtin.«frozenset.__or__» := entryFor_alias (id' := "frozenset.__or__") (by kernel_rfl) rfl (by decide +kernel) (by kernel_rfl)
section
variable {prog : Program} {w : World} {A : Around} {E : Value → Shared → Prop} {s : Shared}
theorem isSet_ok {a : Addr} {ks : List Key} {Q : Bool → Shared → Prop} (x : SetIs w s.heap a ks) (h : Q true s) : wpAny (model prog w) A (Builtin.Frozenset.isAnySet (.ref a)) Q E s := by
  obtain ⟨o, es, ep, t, g, S⟩ := x
  have hT : s.TypeIs (.ref a) "set" := ⟨o, g, S.exact'.1⟩
  unfold Builtin.Frozenset.isAnySet
  refine wpAny_bind (wpAny_isInstance hT sub_set_self ?_)
  exact wpAny_pure h
theorem copy_ok {a : Addr} {ks : List Key} {Q : Value → Shared → Prop} (x : SetIs w s.heap a ks) (n : ks.Nodup) (hb : ks.length + 1 < 4096)
    (h : ∀ h' ks', (∀ b o, s.heap.get? b = some o → h'.get? b = some o) → SetM w h' s.heap.objs.size ks' → ks'.Nodup → (∀ k, k ∈ ks' ↔ k ∈ ks) → Q (.ref s.heap.objs.size) { s with heap := h' }) : wpAny (model prog w) A (Builtin.Frozenset.copyOf a) Q E s := by
  obtain ⟨o, es, ep, t, g, S⟩ := id x
  have hT : s.TypeIs (.ref a) "set" := ⟨o, g, S.exact'.1⟩
  unfold Builtin.Frozenset.copyOf Builtin.Frozenset.baseOf
  refine wpAny_bind (wpAny_bind (wpAny_isInstance hT sub_set_self (wpAny_pure ?_)))
  rw [if_pos rfl]
  unfold newSet
  refine wpAny_bind (wpAny_bind (wp_byText ?_)); dsimp only
  simp only [newObj]
  refine wpAny_bind (wpAny_alloc (wpAny_pure ?_))
  have g1 : (s.heap.push (freshSet w)).get? s.heap.objs.size = some (freshSet w) := Heap.get?_push_size _ rfl
  have la : a < s.heap.objs.size := Heap.lt_size g
  show wpAny _ _ (Builtin.Frozenset.addrOf (.ref s.heap.objs.size) >>= _) _ _ { s with heap := s.heap.push (freshSet w) }
  refine wpAny_bind (wpAny_pure (wpAny_bind (merge_ok (s := { s with heap := s.heap.push (freshSet w) }) (ks := []) (ko := ks) (fresh_m g1) (x.at fun o e => Heap.get?_push_of_some _ e) (Nat.ne_of_gt la) List.nodup_nil n (by rw [List.length_nil]; omega) (fun s' Q' _ q => wpAny_pure q) fun h' ks' sb SM nd mm => ?_)))
  refine wpAny_pure (h h' ks' (fun b o e => (sb.2 b (Nat.ne_of_lt (Heap.lt_size e))).trans (Heap.get?_push_of_some _ e)) SM nd fun k => ?_)
  rw [mm k]
  simp
theorem or_ok {a b : Addr} {ka kb : List Key} {Q : Value → Shared → Prop} (x : SetIs w s.heap a ka) (y : SetIs w s.heap b kb) (ne : a ≠ b) (n1 : ka.Nodup) (n2 : kb.Nodup) (hb : ka.length + kb.length + 1 < 4096)
    (h : ∀ h' ks', (∀ b o, s.heap.get? b = some o → h'.get? b = some o) → SetIs w h' s.heap.objs.size ks' → ks'.Nodup → (∀ k, k ∈ ks' ↔ k ∈ ka ∨ k ∈ kb) → Q (.ref s.heap.objs.size) { s with heap := h' }) : wpAny (model prog w) A (binaryOp .BitOr (.ref a) (.ref b)) Q E s := by
  obtain ⟨oa, ea, pa, ta, ga, Sa⟩ := id x
  obtain ⟨ob, eb, pb, tb, gb, Sb⟩ := id y
  have hTa : s.TypeIs (.ref a) "set" := ⟨oa, ga, Sa.exact'.1⟩
  have hTb : s.TypeIs (.ref b) "set" := ⟨ob, gb, Sb.exact'.1⟩
  refine wpAny_binaryOp_same (op := .BitOr) (T := "set") hTa hTb F.fills_set_or F.slot_set_or (wpAny_call_entry F.slot_set_or hTa entry_s_or ?_ (F.args_set_or_2 _ _))
  unfold Builtin.«frozenset.__or__»
  wp_delta
  refine wpAny_bind (wpAny_pure ?_)
  dsimp only
  rw [if_neg Bool.false_ne_true]
  dsimp only
  refine wpAny_bind (wpAny_bind (isSet_ok x ?_))
  refine isSet_ok y ?_
  rw [if_neg (by simp)]
  refine wpAny_bind (wpAny_pure (wpAny_bind ?_))
  wp_delta
  refine wpAny_bind (copy_ok x n1 (by omega) fun h1 k1 kp SM nd mm => ?_)
  have hl : k1.length = ka.length := ((List.perm_ext_iff_of_nodup nd n1).mpr mm).length_eq
  have la : b < s.heap.objs.size := Heap.lt_size gb
  rw [if_pos (by simpa using Ne.symm ne)]
  refine wpAny_bind (wpAny_pure (wpAny_bind (wpAny_holding ?_)))
  unfold Builtin.Frozenset.updateFrom Builtin.Frozenset.merge
  have y1 : SetIs w h1 b kb := y.at fun o e => kp _ _ e
  refine wpAny_bind (isSet_ok (s := { s with heap := h1 }) y1 ?_)
  rw [if_pos rfl]
  refine wpAny_bind (wpAny_pure (wpAny_bind (wpAny_setEpoch_of (s := { s with heap := h1 }) (kp _ _ gb) Sb.data Sb.fit ?_)))
  refine merge_ok (s := { s with heap := h1 }) SM y1 (Nat.ne_of_gt la) nd n2 (by omega) (fun s' Q' k q => ?_) fun h2 k2 sb SM2 nd2 mm2 => ?_
  · unfold Builtin.Frozenset.unchanged
    refine wpAny_bind (wpAny_setEpoch_of (k _ (kp _ _ gb)) Sb.data Sb.fit ?_)
    rw [if_neg (by simp)]
    exact wpAny_pure q
  · refine wpAny_pure ?_
    show wpAny _ _ (ret (Value.ref s.heap.objs.size)) _ _ _
    refine wpAny_pure ⟨_, rfl, fun c => ?_, h h2 k2 (fun c o e => (sb.2 c (Nat.ne_of_lt (Heap.lt_size e))).trans (kp _ _ e)) SM2.is nd2 fun k => ?_⟩
    · cases c
    · rw [mm2 k, mm k]
end
end L2
set_option Elab.async false
set_option linter.all false
set_option maxRecDepth 100000
set_option maxHeartbeats 4000000
namespace L2
open PySem PySem.Spec PyProof.Rows
theorem mem_dedK {ks : List Key} {x : Key} : x ∈ dedK ks ↔ x ∈ ks := by
  have : ∀ (ks acc : List Key), x ∈ ks.foldl addK acc ↔ x ∈ acc ∨ x ∈ ks := by
    intro ks
    induction ks with
    | nil => intro acc; simp
    | cons k ks ih => intro acc; rw [List.foldl_cons, ih, mem_addK, List.mem_cons, or_assoc]
  rw [dedK, this]
  simp
noncomputable def rOrK (w : World) : R2 := fun x y H Q => ∃ (p q : Addr) (ka kb : List Key), x = .ref p ∧ y = .ref q ∧ p ≠ q ∧ H p = some (SetO w p ka) ∧ H q = some (SetO w q kb) ∧ ka.Nodup ∧ kb.Nodup ∧ ka.length + kb.length < 4000 ∧ ∀ r, H r = none → Q (.ref r) (upd H r (SetO w r (dedK (ka ++ kb))))
theorem op_orK {X : Cx} {w : World} (hw : X.w = w) : OpR X (binaryOp .BitOr) (rOrK w) := by
  subst hw
  intro pins s σ H x y v u Q I rx ry h
  obtain ⟨p, q, ka, kb, rfl, rfl, ne, hp, hq, n1, n2, hz, k⟩ := h
  cases rx
  cases ry
  obtain ⟨ka', Sa, pa⟩ := setO_get I.hok hp
  obtain ⟨kb', Sb, pb⟩ := setO_get I.hok hq
  refine or_ok Sa Sb ne (pa.nodup_iff.mpr n1) (pb.nodup_iff.mpr n2) (by rw [pa.length_eq, pb.length_eq]; omega) fun h' ks' hk S nd mm => ?_
  have hP : ks'.Perm (dedK (ka ++ kb)) := (List.perm_ext_iff_of_nodup nd (nodup_dedK _)).mpr fun k => by rw [mm k, mem_dedK, List.mem_append, pa.mem_iff, pb.mem_iff]
  exact ⟨.ref s.heap.objs.size, _, I.laid' (s' := { s with heap := h' }) hk (Nat.le_refl _) (setO_ok ⟨ks', S, hP⟩) rfl rfl, rfl, k _ (I.hok.fresh (Nat.le_refl _))⟩
theorem dedA_len {α : Type} [DecidableEq α] (ks : List α) : (dedA ks).length ≤ ks.length := by
  have : ∀ (ks acc : List α), (ks.foldl addA acc).length ≤ acc.length + ks.length := by
    intro ks
    induction ks with
    | nil => intro acc; exact Nat.le_refl _
    | cons k ks ih =>
      intro acc
      have h1 := ih (addA acc k)
      have h2 : (addA acc k).length ≤ acc.length + 1 := by
        unfold addA
        split
        · exact Nat.le_succ _
        · rw [List.length_append]; exact Nat.le_refl _
      rw [List.foldl_cons, List.length_cons]
      omega
  have := this ks []
  rw [List.length_nil] at this
  unfold dedA
  omega
theorem dedK_twice {α : Type} [DecidableEq α] {f : α → Key} (hf : ∀ a b, f a = f b → a = b) (xs ys : List α) : (dedK ((dedA xs).map f ++ (dedA ys).map f)).Perm ((dedA (xs ++ ys)).map f) := by
  rw [← dedA_map hf (xs ++ ys)]
  refine (List.perm_ext_iff_of_nodup (nodup_dedK _) (nodup_dedK _)).mpr fun k => ?_
  rw [mem_dedK, mem_dedK, List.map_append, List.mem_append, List.mem_append, ← dedA_map hf xs, ← dedA_map hf ys, mem_dedK, mem_dedK]
theorem SetO_perm {w : World} {p : Addr} {a b : List Key} (h : a.Perm b) : SetO w p a = SetO w p b := by
  unfold SetO
  congr 1
  funext hh
  refine propext ⟨fun ⟨ks, S, e⟩ => ⟨ks, S, e.trans h⟩, fun ⟨ks, S, e⟩ => ⟨ks, S, e.trans h.symm⟩⟩
section
variable {K : PySem.W.Frag} {σ : St} {G : Hp} {ta tb : TE} {w : World}
theorem ints_keys (a : List Int) : a.map V.int = (a.map (Sum.inl : Int → Key)).map kV := by rw [List.map_map]; rfl
theorem ints_rel {G2 : Hp} : ∀ zs : List Int, Paired (Rp.rel K G2) (zs.map V.int) zs
  | [] => .nil
  | z :: zs => .cons rfl (ints_rel zs)
theorem sortZ_len (ys : List Int) : (sortZ ys).length = ys.length := (List.mergeSort_perm ys leZ).length_eq
end
end L2
set_option Elab.async false
set_option linter.all false
set_option maxRecDepth 100000
set_option maxHeartbeats 4000000
namespace L2
open PySem PySem.Spec PyProof.Rows
section
variable {K : PySem.W.Frag} {σ : St} {G H G0 H0 : Hp} {α β : Type} [Rp α] [Rp β] {ta td ti : TE} {rest : TS} {D : Ends} {i : Nat} {a : Mp α} {v : V} {p : Addr} {kvs : List (Key × V)}
end
section
variable {K : PySem.W.Frag} {σ : St} {G : Hp} {α : Type} [Rp α] {ta : TE}
end
end L2
set_option Elab.async false
set_option linter.all false
set_option maxRecDepth 100000
set_option maxHeartbeats 4000000
namespace L2
open PySem PySem.Spec PyProof.Rows
section
variable {K : PySem.W.Frag} {σ : St} {G H : Hp} {α : Type} [Rp α] {rest : TS} {D : Ends} {i : Nat} {as as' : List α} {v : V} {p : Addr} {vs : List V}
end
end L2
set_option Elab.async false
set_option linter.all false
set_option maxRecDepth 100000
set_option maxHeartbeats 4000000
namespace L2
open PySem PySem.Spec PyProof.Rows
section
variable {K : PySem.W.Frag} {σ : St} {G H : Hp} {α : Type} [Rp α] {te : TE} {rest : TS} {D : Ends} {i : Nat} {m : Option (Tp α)} {b : Tp α} {as as' : List α} {v : V} {p : Addr} {vs : List V}
end
structure MpS (α : Type) where
  l : List (Str × α)
noncomputable def RelS (K : PySem.W.Frag) {α : Type} [Rp α] (H : Hp) (kv : Key × V) (q : Str × α) : Prop := kv.1 = .inr q.1 ∧ Rp.rel K H kv.2 q.2
noncomputable instance rpMpS {α : Type} [Rp α] : Rp (MpS α) := ⟨fun K H v a => ∃ p kvs, v = .ref p ∧ H p = some (.dK kvs) ∧ Paired (RelS K H) kvs a.l,
  fun s ⟨p, kvs, e, h, pr⟩ => ⟨p, kvs, e, s _ _ h, Paired.imp' (fun _ _ r => ⟨r.1, Rp.mono s r.2⟩) pr⟩⟩
section
variable {K : PySem.W.Frag} {σ : St} {G H G1 H1 G0 H0 : Hp} {α β : Type} [Rp α] [Rp β] {td te ti : TE} {rest : TS} {D : Ends} {i : Nat} {a : MpS α} {v : V} {p q : Addr} {kvs : List (Key × V)}
end
section
variable {X : Cx} {i o : Expr} {ty td : TE} {pos : Pos}
end
end L2
set_option Elab.async false
set_option linter.all false
set_option maxRecDepth 100000
set_option maxHeartbeats 4000000
namespace L2
open PySem PySem.Spec PyProof.Rows
section
variable {prog : Program} {w : World} {A : Around} {E : Value → Shared → Prop} {s : Shared}
end
end L2
set_option Elab.async false
set_option linter.all false
set_option maxRecDepth 100000
set_option maxHeartbeats 4000000
namespace L2
open PySem PySem.Spec PyProof.Rows
section
variable {prog : Program} {w : World} {A : Around} {E : Value → Shared → Prop} {s : Shared} {z TI TO : Addr} {f0 f1 : Value}
end
end L2
set_option Elab.async false
set_option linter.all false
set_option maxRecDepth 100000
set_option maxHeartbeats 4000000
namespace L2
open PySem PySem.Spec PyProof.Rows
section
variable {prog : Program} {w : World} {A : Around} {E : Value → Shared → Prop} {s : Shared}
end
end L2
set_option Elab.async false
set_option linter.all false
set_option maxRecDepth 100000
set_option maxHeartbeats 4000000
namespace L2
open PySem PySem.Spec PyProof.Rows
section
variable {prog : Program} {w : World} {A : Around} {E : Value → Shared → Prop} {s : Shared}
end
end L2
set_option Elab.async false
set_option linter.all false
set_option maxRecDepth 100000
set_option maxHeartbeats 4000000
namespace L2
open PySem PySem.Spec PyProof.Rows
section
variable {K : PySem.W.Frag} {σ : St} {G H G0 H0 : Hp} {α β : Type} [Rp α] [Rp β] {ta tb : TE}
end
end L2
set_option Elab.async false
set_option linter.all false
set_option maxRecDepth 100000
set_option maxHeartbeats 4000000
namespace L2
open PySem PySem.Spec PyProof.Rows
section
variable {X : Cx} {i o : Expr} {ty : TE} {pos : Pos} {a : Addr} {w : World} {K : PySem.W.Frag} {l : List (Str × Int)}
end
section
variable {K : PySem.W.Frag} {σ : St} {G : Hp} {ty : TE} {l : List (Str × Int)}
end
end L2
set_option Elab.async false
set_option linter.all false
set_option maxRecDepth 100000
set_option maxHeartbeats 4000000
namespace HT
open PySem PySem.Spec PyProof.Rows
section
variable {prog : Program} {w : World} {A : Around} {E : Value → Shared → Prop} {s : Shared}
end
end HT
namespace L2
open PySem PySem.Spec PyProof.Rows
section
variable {K : PySem.W.Frag} {σ : St} {G : Hp} {α : Type} [Rp α] {ta tb tc te : TE} {t1 t2 : TO} {sa sb sc : Option Str} {m1 m2 : Option (Option Int)}
end
end L2
set_option Elab.async false
set_option linter.all false
set_option maxRecDepth 100000
set_option maxHeartbeats 4000000
namespace L2
open PySem PySem.Spec PyProof.Rows
section
variable {prog : Program} {w : World} {A : Around} {E : Value → Shared → Prop} {s : Shared}
end
end L2
set_option Elab.async false
set_option linter.all false
set_option maxRecDepth 100000
set_option maxHeartbeats 4000000
namespace L2
open PySem PySem.Spec PyProof.Rows
section
variable {prog : Program} {w : World} {A : Around} {E : Value → Shared → Prop} {s : Shared}
end
end L2
set_option Elab.async false
set_option linter.all false
set_option maxRecDepth 100000
set_option maxHeartbeats 4000000
namespace L2
open PySem PySem.Spec PyProof.Rows
section
variable {prog : Program} {w : World} {A : Around} {E : Value → Shared → Prop} {s : Shared}
end
end L2
set_option Elab.async false
set_option linter.all false
set_option maxRecDepth 100000
set_option maxHeartbeats 4000000
namespace L2
open PySem PySem.Spec PyProof.Rows
section
variable {K : PySem.W.Frag} {σ : St} {G H : Hp} {α β : Type} [Rp α] [Rp β] {ta tb : TE}
end
end L2
set_option Elab.async false
set_option linter.all false
set_option maxRecDepth 100000
set_option maxHeartbeats 4000000
namespace L2
open PySem PySem.Spec PyProof.Rows
section
variable {K : PySem.W.Frag} {σ : St} {G H : Hp} {ta tb te : TE} {rest : TS} {D : Ends} {i : Nat} {v : V} {p : Addr} {vs : List V} {β : Type} [Rp β]
end
end L2
set_option Elab.async false
set_option linter.all false
set_option maxRecDepth 100000
set_option maxHeartbeats 4000000
namespace L2
open PySem PySem.Spec PyProof.Rows
section
variable {K : PySem.W.Frag} {σ : St} {G : Hp} {α : Type} [Rp α] [DecidableEq α] {ta tb : TE} {ma : Option α} {ml : Option (List α)}
end
end L2
set_option Elab.async false
set_option linter.all false
set_option maxRecDepth 100000
set_option maxHeartbeats 4000000
namespace L2
open PySem PySem.Spec PyProof.Rows
section
variable {X : Cx} {es : List Expr} {t : TA} {te : TE} {p : Pos}
end
end L2
set_option Elab.async false
set_option linter.all false
set_option maxRecDepth 100000
set_option maxHeartbeats 4000000
namespace L2
open PySem PySem.Spec PyProof.Rows
noncomputable def siK : SI → Key
  | .s x => .inr x
  | .i n => .inl n
theorem siK_inj : ∀ {a b : SI}, siK a = siK b → a = b
  | .s x, .s y, e => by rw [Sum.inr.inj e]
  | .s _, .i _, e => nomatch e
  | .i _, .s _, e => nomatch e
  | .i m, .i n, e => by rw [Sum.inl.inj e]
theorem keys_inj : ∀ {l m : List SI}, l.map siK = m.map siK → l = m
  | [], [], _ => rfl
  | [], _ :: _, e => nomatch e
  | _ :: _, [], e => nomatch e
  | a :: l, b :: m, e => by
    rw [List.map_cons, List.map_cons] at e
    obtain ⟨h1, h2⟩ := List.cons.inj e
    rw [siK_inj h1, keys_inj h2]
noncomputable def rowK (r : Tp SI) : List Key := r.l.map siK
theorem rowK_inj {a b : Tp SI} (e : rowK a = rowK b) : a = b := by
  cases a
  cases b
  exact congrArg Tp.mk (keys_inj e)
structure Rk where
  l : List SI
noncomputable instance rpRk : Rp Rk := ⟨fun K H v r => ∃ t xs, v = .ref t ∧ H t = some (.tup xs) ∧ xs.length ≤ sizeLine ∧ Paired (Rp.rel K H) xs r.l,
  fun s ⟨t, xs, e, h, z, p⟩ => ⟨t, xs, e, s _ _ h, z, Paired.imp' (fun _ _ r => Rp.mono s r) p⟩⟩
noncomputable def Rk.tp (r : Rk) : Tp SI := ⟨r.l⟩
noncomputable def Rk.of (r : Tp SI) : Rk := ⟨r.l⟩
theorem Rk.rel {K : PySem.W.Frag} {H : Hp} {v : V} {r : Rk} (h : Rp.rel K H v r) : Rp.rel K H v r.tp :=
  let ⟨t, xs, e, h, z, p⟩ := h
  ⟨t, xs, e, SqT.of h, z, p⟩
theorem sis_eq {K : PySem.W.Frag} {H : Hp} : ∀ {xs : List V} {l : List SI}, Paired (Rp.rel K H) xs l → xs = (l.map siK).map kV
  | _, _, .nil => rfl
  | _, _, .cons (b := .s x) h t => by
    rw [List.map_cons, List.map_cons, ← sis_eq t]
    exact congrArg (· :: _) h.1
  | _, _, .cons (b := .i n) h t => by
    rw [List.map_cons, List.map_cons, ← sis_eq t]
    exact congrArg (· :: _) (show _ = V.int n from h)
section
variable {K : PySem.W.Frag} {σ : St} {G H G1 H1 G0 H0 : Hp} {D : Ends} {p q l : Addr} {xs : List V} {rows : List (Tp SI)}
end
section
variable {K : PySem.W.Frag} {σ : St} {G H : Hp} {α B A : Type} [Rp α] [Rp B] [RpA A] {rest : TS} {D : Ends} {i : Nat} {as : List α} {v : V} {p : Addr} {vs : List V}
end
end L2
set_option Elab.async false
set_option linter.all false
set_option maxRecDepth 100000
set_option maxHeartbeats 4000000
namespace L2
open PySem PySem.Spec PyProof.Rows
section
variable {K : PySem.W.Frag} {σ : St} {G : Hp} {α : Type} [Rp α] {ta : TE}
end
end L2
set_option Elab.async false
set_option linter.all false
set_option maxRecDepth 100000
set_option maxHeartbeats 4000000
namespace L2
open PySem PySem.Spec PyProof.Rows
section
variable {prog : Program} {w : World} {A : Around} {E : Value → Shared → Prop} {s : Shared}
end
section
variable {K : PySem.W.Frag} {σ : St} {G : Hp} {α : Type} [Rp α] {ta tb : TE}
end
section
variable {prog : Program} {w : World} {A : Around} {E : Value → Shared → Prop} {s : Shared}
end
section
variable {K : PySem.W.Frag} {σ : St} {G : Hp} {α : Type} [Rp α] {ta tb : TE}
end
noncomputable def maxO : List Int → Option Int
  | [] => none
  | a :: l => some (l.foldl max a)
theorem foldl_max : ∀ (l : List Int) (a : Int), (l.foldl max a = a ∨ l.foldl max a ∈ l) ∧ a ≤ l.foldl max a ∧ ∀ b ∈ l, b ≤ l.foldl max a
  | [], a => ⟨.inl rfl, Int.le_refl _, fun _ h => by cases h⟩
  | b :: l, a => by
    obtain ⟨h1, h2, h3⟩ := foldl_max l (max a b)
    rw [List.foldl_cons]
    have ha := Int.le_max_left a b
    have hb := Int.le_max_right a b
    refine ⟨?_, Int.le_trans ha h2, fun c hc => ?_⟩
    · rcases h1 with h1 | h1
      · rw [h1]
        by_cases q : a ≤ b
        · rw [Int.max_eq_right q]; exact .inr List.mem_cons_self
        · rw [Int.max_eq_left (by omega)]; exact .inl rfl
      · exact .inr (List.mem_cons_of_mem _ h1)
    · rcases List.mem_cons.mp hc with e | e
      · rw [e]; exact Int.le_trans hb h2
      · exact h3 c e
theorem maxO_of {ns : List Int} {M : Int} (h : M ∈ ns) (h2 : ∀ a ∈ ns, a ≤ M) : maxO ns = some M := by
  cases ns with
  | nil => cases h
  | cons a l =>
    obtain ⟨q1, q2, q3⟩ := foldl_max l a
    show some (l.foldl max a) = some M
    congr 1
    have k1 : l.foldl max a ≤ M := by
      rcases q1 with q | q
      · rw [q]; exact h2 a List.mem_cons_self
      · exact h2 _ (List.mem_cons_of_mem _ q)
    have k2 : M ≤ l.foldl max a := by
      rcases List.mem_cons.mp h with q | q
      · rw [q]; exact q2
      · exact q3 M q
    omega
noncomputable def rMaxI (K : PySem.W.Frag) : List V → Hp → VK → Prop := fun us H Q => ∃ l ns m, us = [.ref l] ∧ SqL K H l (ns.map V.int) ∧ maxO ns = some m ∧ Q (.int m) H
theorem call_maxLK {X : Cx} {K : PySem.W.Frag} (hc : X.calm = true) (h : X.K = K) : CallR X (.builtin "max") (rMaxI K) := by
  subst h
  intro pins s σ H vs us Q I r h
  obtain ⟨l, ns, m, rfl, hl, hm, q⟩ := h
  obtain ⟨u, rfl, ru⟩ := vals1 r
  cases ru
  obtain ⟨its, rv, pl, _⟩ := I.list hl
  have hL := pl.isList
  have hlt : l < s.heap.objs.size := by obtain ⟨_, e, _⟩ := hL; exact Heap.lt_size e
  have hlen := rv.length
  rw [List.length_map] at hlen
  have hne : 0 < ns.length := by
    cases ns with
    | nil => cases hm
    | cons _ _ => exact Nat.succ_pos _
  refine call_max_walk (wpAny_pyIter_list hL ?_)
  refine ⟨_, _, _, _, _, _, _, rfl, Walks.list (A := X.A.in1) (I.ok.hd hc) _ l (Nat.ne_of_lt hlt) its.toArray, ⟨⟨_, Heap.get?_push_size _ rfl, rfl, rfl⟩, hL.push _⟩, ?_, by rw [List.size_toArray]; omega, CmpOf.ints_gt (fun i => ns.getD i 0) (fun i v hP => ints_atF rv hP), fun v h' tk' hP hk => ?_⟩
  · intro b hb'
    have : b = s.heap.objs.size ∨ b = l := by simpa using hb'
    rcases this with rfl | rfl
    · exact Heap.lt_size (Heap.get?_push_size _ rfl)
    · exact Nat.lt_trans hlt (Heap.lt_size (Heap.get?_push_size _ rfl))
  · obtain ⟨t, rfl⟩ := ints_atF rv hP
    obtain ⟨h1, h2⟩ := argBest_gt (fun i => ns.getD i 0) (its.toArray.size - 1)
    have hsz : its.toArray.size = ns.length := by rw [List.size_toArray]; omega
    have e : some m = some (ns.getD (argBest (fun i j => decide (ns.getD i 0 > ns.getD j 0)) (its.toArray.size - 1)) 0) := hm.symm.trans (maxO_of (by
      rw [List.getD_eq_getElem?_getD, List.getElem?_eq_getElem (by omega)]
      exact List.getElem_mem _) fun a ha => by
        obtain ⟨j, hj, rfl⟩ := List.getElem_of_mem ha
        have := h2 j (by omega)
        rw [List.getD_eq_getElem?_getD, List.getElem?_eq_getElem hj] at this
        exact this)
    cases e
    refine ⟨.int _, H, I.kept fun b o eb => ?_, ⟨t, rfl⟩, q⟩
    refine hk b o (fun hm => ?_) (Heap.get?_push_of_some _ eb)
    have : b = s.heap.objs.size := by simpa using hm
    exact absurd (this ▸ Heap.lt_size eb) (Nat.lt_irrefl _)
section
variable {K : PySem.W.Frag} {σ : St} {G : Hp} {ta tb : TE}
theorem ev_maxL {lb : Option (List Int)} (ea : EV K ta σ G lb) : EV K (tCB (rMaxI K) (tCons ta tNil)) σ G (lb.bind fun ns => maxO ns) := by
  intro G1 s1 c hc H sH Q k
  obtain ⟨a, ha, hc⟩ := Option.bind_eq_some_iff.mp hc
  refine ea G1 s1 a ha H sH _ fun v G2 H2 x2 r2 => ?_
  obtain ⟨l, xs, rfl, h, z, p⟩ := r2
  have e := paired_intsR p
  subst e
  exact ⟨l, a, c, rfl, .inl (x2.gh.rd h), hc, k _ _ _ x2 rfl⟩
end
end L2
set_option Elab.async false
set_option linter.all false
set_option maxRecDepth 100000
set_option maxHeartbeats 4000000
namespace L2
open PySem PySem.Spec PyProof.Rows
theorem Rk.eq {a b : Rk} (e : a.tp = b.tp) : a = b := by
  cases a
  cases b
  cases e
  rfl
noncomputable instance rkDec : DecidableEq Rk := fun a b => if h : a.l = b.l then .isTrue (by cases a; cases b; cases h; rfl) else .isFalse fun e => h (by rw [e])
theorem EqTy.pull {K : PySem.W.Frag} {k : Nat} {α β : Type} [DecidableEq α] [DecidableEq β] {R : Hp → V → β → Prop} (f : α → β) (inj : ∀ a b, f a = f b → a = b) (E : EqTy K k R) : EqTy K k (fun H v a => R H v (f a)) := by
  have d : ∀ a b : α, decide (f a = f b) = decide (a = b) := fun a b => decide_eq_decide.mpr ⟨inj a b, fun e => by rw [e]⟩
  refine ⟨fun hK I a b => inj _ _ (E.fn hK I a b), ?_, ?_⟩
  · intro X pins σ H s x y u v a b A hK I hu r1 r2 h1 h2
    rw [← d]
    exact E.eq A hK I hu r1 r2 h1 h2
  · intro X pins σ H s x y u v a b A hK I hu r1 r2 h1 h2
    rw [← d]
    exact E.rc A hK I hu r1 r2 h1 h2
noncomputable instance reRk : RpE Rk := ⟨1, fun K => ((eqTp (K := K) (eqSI (K := K))).pull Rk.tp fun _ _ => Rk.eq).imp fun _ _ _ ⟨l, xs, e, h, _, p⟩ => ⟨l, xs, e, SqT.of h, p⟩⟩
theorem sis_keep {K : PySem.W.Frag} {H H' : Hp} : ∀ {xs : List V} {l : List SI}, Paired (Rp.rel K H) xs l → Paired (Rp.rel K H') xs l
  | _, _, .nil => .nil
  | _, _, .cons (b := .s x) h t => .cons h (sis_keep t)
  | _, _, .cons (b := .i n) h t => .cons h (sis_keep t)
noncomputable instance imRk : Imm Rk := ⟨fun s ⟨t, xs, e, h, z, p⟩ => ⟨t, xs, e, s.eq _ _ h, z, sis_keep p⟩⟩
noncomputable def siN : SI → Nt
  | .s x => .txt x
  | .i n => .int n
theorem siN_rel {K : PySem.W.Frag} {H : Hp} {v : V} : ∀ {a : SI}, Rp.rel K H v a → Rp.rel K H v (siN a)
  | .s x, ⟨e, z⟩ => by subst e; exact .txt x z
  | .i n, e => by
    have e : v = .int n := e
    subst e
    exact .int n
noncomputable instance tdSI : ToD SI := ⟨fun a => ToD.to (siN a), fun h => ToD.rel (siN_rel h)⟩
section
variable {K : PySem.W.Frag} {σ : St} {G : Hp} {te ta tb : TE}
theorem ev_rkT {m : Option Rk} (e : EV K te σ G m) : EV K te σ G (m.bind fun r => some r.tp) := by
  intro G1 s1 c hc H sH Q k
  obtain ⟨x, hx, hc⟩ := Option.bind_eq_some_iff.mp hc
  cases hc
  exact e G1 s1 x hx H sH Q fun v G2 H2 x2 r => k v G2 H2 x2 (Rk.rel r)
theorem ev_tupRk {t : TA} {n : Nat} {ml : Option (List SI)} (e : LV K t σ G n ml) (z : n ≤ sizeLine := by decide) : EV K (tTup t) σ G (ml.bind fun l => some (Rk.mk l)) :=
  fun G1 s1 c hc H sH Q k => by
    obtain ⟨l, hl, hc⟩ := Option.bind_eq_some_iff.mp hc
    cases hc
    refine e G1 s1 l hl H sH _ fun vs G2 H2 x2 hl hp => ⟨by omega, fun p h => ?_⟩
    exact k _ _ _ (x2.trans (.new x2.gh h)) ⟨p, vs, rfl, upd_same, by omega, Paired.imp' (fun _ _ r => Rp.mono (Same.new (x2.gh.free h)) r) hp⟩
end
end L2
set_option Elab.async false
set_option linter.all false
set_option maxRecDepth 100000
set_option maxHeartbeats 4000000
namespace L2
open PySem PySem.Spec PyProof.Rows
section
variable {K : PySem.W.Frag} {σ : St} {G : Hp} {te ta : TE}
end
end L2
set_option Elab.async false
set_option linter.all false
set_option maxRecDepth 100000
set_option maxHeartbeats 4000000
namespace L2
open PySem PySem.Spec PyProof.Rows
noncomputable instance rtRk : RpT Rk := ⟨"tuple", fun h => by obtain ⟨l, xs, rfl, h, _⟩ := h; exact .tup (SqT.of h)⟩
end L2
set_option Elab.async false
set_option linter.all false
set_option maxRecDepth 100000
set_option maxHeartbeats 4000000
namespace L2
open PySem PySem.Spec PyProof.Rows
section
variable {K : PySem.W.Frag} {σ : St} {G H : Hp} {α : Type} [Rp α] {tk : TE} {rest : TS} {D : Ends} {i : Nat} {b : Tp α} {as as' : List α} {v : V} {p : Addr} {vs : List V}
end
end L2
set_option Elab.async false
set_option linter.all false
set_option maxRecDepth 100000
namespace L2
open PySem PySem.Spec PyProof.Rows
noncomputable def gal : Bool → Keyed → Array Keyed → Nat → Nat → Nat → StateT SortSt Sem (Option Nat) := sortPriv% PySem.Builtin.gallop
section
variable {κ : PyProof.Rows.KeyKind}
noncomputable def ky (κ : PyProof.Rows.KeyKind) (p : Keyed) : κ.α := (κ.keyOf p.1).getD κ.dflt
noncomputable def Kd (κ : PyProof.Rows.KeyKind) (p : Keyed) : Prop := ∃ a, κ.keyOf p.1 = some a
variable {prog : Program} {w : World} {A : Around} {E : Value → Shared → Prop} {s : Shared}
theorem s_lt (hO : κ.OneLt) {st : SortSt} {x y : Keyed} {Q : Option Bool → SortSt → Prop} (hk : kindOf st = oneType') (hx : Kd κ x) (hy : Kd κ y) (h : Q (some (κ.blt (ky κ x) (ky κ y))) st) :
    wpS (model prog w) A E s (lt' x y) Q st := by
  obtain ⟨a, ha⟩ := hx
  obtain ⟨b, hb⟩ := hy
  have e1 : ky κ x = a := by unfold ky; rw [ha]; rfl
  have e2 : ky κ y = b := by unfold ky; rw [hb]; rfl
  rw [e1, e2] at h
  rw [lt'_eq]
  refine wpS_bind (wpS_get ?_)
  rw [hk, keyLt'_oneType]
  refine wpS_bind (wpS_lift (wpAny_attempt (hO prog w A _ s x.1 y.1 a b ha hb ⟨rfl, ?_⟩)))
  exact wpS_pure h
theorem s_el {arr : Array Keyed} {i : Nat} {p : Keyed} {st : SortSt} {Q : Keyed → SortSt → Prop} (e : arr[i]? = some p) (h : Q p st) : wpS (model prog w) A E s (elem' arr i) Q st := by
  rw [elem'_eq, e]
  exact wpS_pure h
noncomputable def bey (κ : PyProof.Rows.KeyKind) (left : Bool) (key p : Keyed) : Bool := if left then κ.blt (ky κ p) (ky κ key) else !κ.blt (ky κ key) (ky κ p)
theorem s_bey (hO : κ.OneLt) {left : Bool} {key p : Keyed} {arr : Array Keyed} {j : Nat} {b : Bool} {st : SortSt} {Q : Option Bool → SortSt → Prop} (hk : kindOf st = oneType') (hkey : Kd κ key) (he : arr[j]? = some p) (hp : Kd κ p) (hb : bey κ left key p = b) (h : Q (some b) st) :
    wpS (model prog w) A E s (do let x ← elem' arr j; if left = true then lt' x key else (do let r ← lt' key x; pure (Option.map (fun x => !x) r))) Q st := by
  refine wpS_bind (s_el he ?_)
  cases left with
  | true =>
    rw [if_pos rfl]
    refine s_lt hO hk hp hkey ?_
    have e : κ.blt (ky κ p) (ky κ key) = b := hb
    rw [e]
    exact h
  | false =>
    rw [if_neg Bool.false_ne_true]
    refine wpS_bind (s_lt hO hk hkey hp (wpS_pure ?_))
    have e : (!κ.blt (ky κ key) (ky κ p)) = b := hb
    show Q (some (!κ.blt (ky κ key) (ky κ p))) st
    rw [e]
    exact h
theorem s_bin {n c lo hi : Nat} {st : SortSt} {Q : Option Nat → SortSt → Prop} {f : Nat → Option (Option Nat) × Nat × Nat → StateT SortSt Sem (ForInStep (Option (Option Nat) × Nat × Nat))} {g : Option (Option Nat) × Nat × Nat → StateT SortSt Sem (Option Nat)}
    (hf : ∀ (i lo hi : Nat) (R : ForInStep (Option (Option Nat) × Nat × Nat) → SortSt → Prop), hi ≤ n → (lo ≥ hi → R (.done (none, lo, hi)) st) → (lo < hi → lo + (hi - lo) / 2 < c → R (.yield (none, lo + (hi - lo) / 2 + 1, hi)) st) → (lo < hi → ¬ lo + (hi - lo) / 2 < c → R (.yield (none, lo, lo + (hi - lo) / 2)) st) → wpS (model prog w) A E s (f i (none, lo, hi)) R st)
    (hg : ∀ lo, wpS (model prog w) A E s (g (none, lo, c)) Q st) (h1 : lo ≤ c) (h2 : c ≤ hi) (h3 : hi ≤ n) : wpS (model prog w) A E s (forIn [:n] (none, lo, hi) f >>= g) Q st := by
  refine wpS_bind (wpS_mono (wpS_forRange (I := fun i z st' => st' = st ∧ z.1 = none ∧ z.2.1 ≤ c ∧ c ≤ z.2.2 ∧ z.2.2 ≤ n ∧ (z.2.2 - z.2.1) + i ≤ n) (Q := fun z st' => st' = st ∧ z.1 = none ∧ z.2.2 = c) ?_ ?_ ⟨rfl, rfl, h1, h2, h3, by dsimp only; omega⟩) ?_)
  · rintro i ⟨o, lo, hi⟩ st' _ hi' ⟨rfl, h0, q1, q2, q3, q4⟩
    dsimp only at h0 q1 q2 q3 q4
    subst h0
    refine hf i lo hi _ q3 (fun h => ⟨rfl, rfl, by dsimp only; omega⟩) (fun h h' => ⟨rfl, rfl, by dsimp only; omega, by dsimp only; omega, by dsimp only; omega, by dsimp only; omega⟩) fun h h' => ⟨rfl, rfl, by dsimp only; omega, by dsimp only; omega, by dsimp only; omega, by dsimp only; omega⟩
  · rintro ⟨o, lo, hi⟩ st' ⟨rfl, h0, q1, q2, q3, q4⟩
    dsimp only at h0 q1 q2 q3 q4 ⊢
    exact ⟨rfl, h0, by omega⟩
  · rintro ⟨o, lo, hi⟩ st' ⟨rfl, h0, q⟩
    dsimp only at h0 q ⊢
    subst h0
    subst q
    exact hg lo
theorem s_gal (hO : κ.OneLt) {left : Bool} {key : Keyed} {arr : Array Keyed} {base n hint c : Nat} {st : SortSt} {Q : Option Nat → SortSt → Prop} (hk : kindOf st = oneType') (hkey : Kd κ key)
    (hel : ∀ i, i < n → ∃ p, arr[base + i]? = some p ∧ Kd κ p ∧ bey κ left key p = decide (i < c)) (hh : hint < n) (hc : c ≤ n) (h : Q (some c) st) :
    wpS (model prog w) A E s (gal left key arr base n hint) Q st := by
  unfold gal
  have go : ∀ {i : Nat} {R : Option Bool → SortSt → Prop}, i < n → R (some (decide (i < c))) st → wpS (model prog w) A E s (do let x ← elem' arr (base + i); if left = true then lt' x key else (do let r ← lt' key x; pure (Option.map (fun x => !x) r))) R st := fun hi hR => by
    obtain ⟨p, e, hp, hb⟩ := hel _ hi
    exact s_bey hO hk hkey e hp hb hR
  refine wpS_bind (go hh ?_)
  dsimp only
  by_cases hr : hint < c
  · rw [decide_eq_true hr, if_pos rfl]
    refine wpS_bind (wpS_mono (wpS_forRange (I := fun i z st' => st' = st ∧ z.1 = none ∧ hint + z.2.1 < c ∧ z.2.1 < z.2.2 ∧ i + 1 ≤ z.2.2) (Q := fun z st' => st' = st ∧ z.1 = none ∧ hint + z.2.1 < c ∧ z.2.1 < z.2.2 ∧ (n - hint ≤ z.2.2 ∨ c ≤ hint + z.2.2)) ?_ ?_ ⟨rfl, rfl, hr, by decide, by decide⟩) ?_)
    · rintro i ⟨o, la, ofs⟩ st' _ hi' ⟨rfl, h0, q1, q2, q3⟩
      dsimp only at h0 q1 q2 q3 ⊢
      by_cases hge : ofs ≥ n - hint
      · rw [if_pos hge]
        exact wpS_pure ⟨rfl, rfl, q1, q2, .inl hge⟩
      · rw [if_neg hge]
        refine wpS_bind (go (by omega) ?_)
        dsimp only
        by_cases hm : hint + ofs < c
        · rw [decide_eq_true hm]
          exact wpS_pure ⟨rfl, rfl, hm, by dsimp only; omega, by dsimp only; omega⟩
        · rw [decide_eq_false hm]
          exact wpS_pure ⟨rfl, rfl, q1, q2, .inr (by dsimp only; omega)⟩
    · rintro ⟨o, la, ofs⟩ st' ⟨rfl, h0, q1, q2, q3⟩
      dsimp only at h0 q1 q2 q3 ⊢
      exact ⟨rfl, h0, q1, q2, .inl (by omega)⟩
    · rintro ⟨o, la, ofs⟩ st' ⟨rfl, h0, q1, q2, q3⟩
      dsimp only at h0 q1 q2 q3 ⊢
      subst h0
      show wpS _ _ _ _ (forIn [:n] (none, hint + la + 1, hint + min ofs (n - hint)) _ >>= _) Q _
      refine s_bin (c := c) (fun i lo hi R q3 r1 r2 r3 => ?_) (fun lo => wpS_pure h) (by omega) (by omega) (by omega)
      dsimp only
      by_cases hge : lo ≥ hi
      · rw [if_pos hge]
        exact wpS_pure (r1 hge)
      · rw [if_neg hge]
        refine wpS_bind (go (by omega) ?_)
        dsimp only
        by_cases hm : lo + (hi - lo) / 2 < c
        · rw [decide_eq_true hm, if_pos rfl]
          exact wpS_pure (r2 (by omega) hm)
        · rw [decide_eq_false hm, if_neg Bool.false_ne_true]
          exact wpS_pure (r3 (by omega) hm)
  · rw [decide_eq_false hr, if_neg Bool.false_ne_true]
    refine wpS_bind (wpS_mono (wpS_forRange (I := fun i z st' => st' = st ∧ z.1 = none ∧ c ≤ hint - z.2.1 ∧ z.2.1 ≤ hint ∧ z.2.1 < z.2.2 ∧ i + 1 ≤ z.2.2) (Q := fun z st' => st' = st ∧ z.1 = none ∧ c ≤ hint - z.2.1 ∧ z.2.1 ≤ hint ∧ z.2.1 < z.2.2 ∧ (hint + 1 ≤ z.2.2 ∨ hint - z.2.2 < c)) ?_ ?_ ⟨rfl, rfl, by dsimp only; omega, Nat.zero_le _, by decide, by decide⟩) ?_)
    · rintro i ⟨o, la, ofs⟩ st' _ hi' ⟨rfl, h0, q1, q2, q3, q4⟩
      dsimp only at h0 q1 q2 q3 q4 ⊢
      by_cases hge : ofs ≥ hint + 1
      · rw [if_pos hge]
        exact wpS_pure ⟨rfl, rfl, q1, q2, q3, .inl hge⟩
      · rw [if_neg hge]
        refine wpS_bind (go (by omega) ?_)
        dsimp only
        by_cases hm : hint - ofs < c
        · rw [decide_eq_true hm, if_pos rfl]
          exact wpS_pure ⟨rfl, rfl, q1, q2, q3, .inr hm⟩
        · rw [decide_eq_false hm, if_neg Bool.false_ne_true]
          exact wpS_pure ⟨rfl, rfl, by dsimp only; omega, by dsimp only; omega, by dsimp only; omega, by dsimp only; omega⟩
    · rintro ⟨o, la, ofs⟩ st' ⟨rfl, h0, q1, q2, q3, q4⟩
      dsimp only at h0 q1 q2 q3 q4 ⊢
      exact ⟨rfl, h0, q1, q2, q3, .inl (by omega)⟩
    · rintro ⟨o, la, ofs⟩ st' ⟨rfl, h0, q1, q2, q3, q4⟩
      dsimp only at h0 q1 q2 q3 q4 ⊢
      subst h0
      show wpS _ _ _ _ (forIn [:n] (none, hint + 1 - min ofs (hint + 1), hint - la) _ >>= _) Q _
      refine s_bin (c := c) (fun i lo hi R q3 r1 r2 r3 => ?_) (fun lo => wpS_pure h) (by omega) (by omega) (by omega)
      dsimp only
      by_cases hge : lo ≥ hi
      · rw [if_pos hge]
        exact wpS_pure (r1 hge)
      · rw [if_neg hge]
        refine wpS_bind (go (by omega) ?_)
        dsimp only
        by_cases hm : lo + (hi - lo) / 2 < c
        · rw [decide_eq_true hm, if_pos rfl]
          exact wpS_pure (r2 (by omega) hm)
        · rw [decide_eq_false hm, if_neg Bool.false_ne_true]
          exact wpS_pure (r3 (by omega) hm)
end
end L2
set_option Elab.async false
set_option linter.all false
set_option maxRecDepth 100000
namespace L2
open PySem PySem.Spec PyProof.Rows
section
variable {κ : PyProof.Rows.KeyKind}
noncomputable def kl (κ : PyProof.Rows.KeyKind) (x y : Keyed) : Prop := κ.kle (ky κ x) (ky κ y)
theorem kl_trans {x y z : Keyed} (h : kl κ x y) (g : kl κ y z) : kl κ x z := KeyOrd.kle_trans h g
theorem kl_of_lt {x y : Keyed} (h : κ.blt (ky κ x) (ky κ y) = true) : kl κ x y := KeyOrd.kle_of_klt h
theorem kl_of_not {x y : Keyed} (h : κ.blt (ky κ x) (ky κ y) = false) : kl κ y x := h
noncomputable abbrev Srt (κ : PyProof.Rows.KeyKind) (l : List Keyed) : Prop := l.Pairwise (kl κ)
structure Mg (κ : PyProof.Rows.KeyKind) (C o da db : List Keyed) : Prop where
  p : (o ++ (da ++ db)).Perm C
  so : Srt κ o
  sa : Srt κ da
  sb : Srt κ db
  le : ∀ x ∈ o, ∀ y ∈ da ++ db, kl κ x y
theorem Mg.addA {C o p q db : List Keyed} (h : Mg κ C o (p ++ q) db) (hp : ∀ x ∈ p, ∀ y ∈ db, kl κ x y) : Mg κ C (o ++ p) q db := by
  obtain ⟨h1, h2, h3, h4, h5⟩ := h
  obtain ⟨p1, p2, p3⟩ := List.pairwise_append.mp h3
  refine ⟨by simpa [List.append_assoc] using h1, List.pairwise_append.mpr ⟨h2, p1, fun x hx y hy => h5 x hx y (List.mem_append_left _ (List.mem_append_left _ hy))⟩, p2, h4, fun x hx y hy => ?_⟩
  rcases List.mem_append.mp hx with hx | hx
  · refine h5 x hx y ?_
    rcases List.mem_append.mp hy with hy | hy
    · exact List.mem_append_left _ (List.mem_append_right _ hy)
    · exact List.mem_append_right _ hy
  · rcases List.mem_append.mp hy with hy | hy
    · exact p3 x hx y hy
    · exact hp x hx y hy
theorem Mg.addB {C o p q da : List Keyed} (h : Mg κ C o da (p ++ q)) (hp : ∀ x ∈ p, ∀ y ∈ da, kl κ x y) : Mg κ C (o ++ p) da q := by
  obtain ⟨h1, h2, h3, h4, h5⟩ := h
  obtain ⟨p1, p2, p3⟩ := List.pairwise_append.mp h4
  refine ⟨?_, List.pairwise_append.mpr ⟨h2, p1, fun x hx y hy => h5 x hx y (List.mem_append_right _ (List.mem_append_left _ hy))⟩, h3, p2, fun x hx y hy => ?_⟩
  · refine List.Perm.trans ?_ h1
    rw [List.append_assoc]
    refine List.Perm.append_left o ?_
    rw [← List.append_assoc, ← List.append_assoc]
    exact List.Perm.append_right q List.perm_append_comm
  · rcases List.mem_append.mp hx with hx | hx
    · refine h5 x hx y ?_
      rcases List.mem_append.mp hy with hy | hy
      · exact List.mem_append_left _ hy
      · exact List.mem_append_right _ (List.mem_append_right _ hy)
    · rcases List.mem_append.mp hy with hy | hy
      · exact hp x hx y hy
      · exact p3 x hx y hy
theorem Mg.endB {C o da : List Keyed} (h : Mg κ C o da []) : (o ++ da).Perm C ∧ Srt κ (o ++ da) :=
  ⟨by simpa using h.p, List.pairwise_append.mpr ⟨h.so, h.sa, fun x hx y hy => h.le x hx y (List.mem_append_left _ hy)⟩⟩
theorem Mg.endA {C o da db : List Keyed} (h : Mg κ C o da db) (hl : ∀ x ∈ db, ∀ y ∈ da, kl κ x y) : (o ++ db ++ da).Perm C ∧ Srt κ (o ++ db ++ da) := by
  refine ⟨List.Perm.trans ?_ h.p, ?_⟩
  · rw [List.append_assoc]
    exact List.Perm.append_left o List.perm_append_comm
  · rw [List.append_assoc]
    refine List.pairwise_append.mpr ⟨h.so, List.pairwise_append.mpr ⟨h.sb, h.sa, hl⟩, fun x hx y hy => h.le x hx y ?_⟩
    rcases List.mem_append.mp hy with hy | hy
    · exact List.mem_append_right _ hy
    · exact List.mem_append_left _ hy
theorem cnt_ex (P : Keyed → Bool) : ∀ {l : List Keyed}, Srt κ l → (∀ x y, kl κ x y → P y = true → P x = true) → ∃ c, c ≤ l.length ∧ ∀ i p, l[i]? = some p → P p = decide (i < c)
  | [], _, _ => ⟨0, Nat.le_refl _, fun i p h => by simp at h⟩
  | x :: l, h, hP => by
    obtain ⟨h1, h2⟩ := List.pairwise_cons.mp h
    cases hx : P x with
    | false =>
      refine ⟨0, Nat.zero_le _, fun i p hp => ?_⟩
      cases i with
      | zero => cases hp; exact hx
      | succ i =>
        cases hq : P p with
        | false => rfl
        | true =>
          have := hP x p (h1 p (List.mem_of_getElem? hp)) hq
          rw [hx] at this
          cases this
    | true =>
      obtain ⟨c, hc, h3⟩ := cnt_ex P h2 hP
      refine ⟨c + 1, by rw [List.length_cons]; omega, fun i p hp => ?_⟩
      cases i with
      | zero => cases hp; rw [hx, decide_eq_true (by omega)]
      | succ i =>
        rw [h3 i p hp]
        exact decide_eq_decide.mpr (by omega)
theorem bey_down (left : Bool) (key : Keyed) : ∀ x y, kl κ x y → bey κ left key y = true → bey κ left key x = true := by
  intro x y hxy h
  cases left with
  | true =>
    have h : κ.blt (ky κ y) (ky κ key) = true := h
    show κ.blt (ky κ x) (ky κ key) = true
    rcases κ.negTrans (ky κ y) (ky κ x) (ky κ key) h with q | q
    · have hxy : κ.blt (ky κ y) (ky κ x) = false := hxy
      rw [hxy] at q
      cases q
    · exact q
  | false =>
    have h : (!κ.blt (ky κ key) (ky κ y)) = true := h
    show (!κ.blt (ky κ key) (ky κ x)) = true
    rw [Bool.not_eq_true'] at h ⊢
    exact KeyOrd.kle_trans (O := κ.toKeyOrd) hxy h
theorem bey_le {key p : Keyed} (h : bey κ false key p = true) : kl κ p key := by
  have h : (!κ.blt (ky κ key) (ky κ p)) = true := h
  rw [Bool.not_eq_true'] at h
  exact h
theorem bey_gt {key p : Keyed} (h : bey κ false key p = false) : κ.blt (ky κ key) (ky κ p) = true := by
  have h : (!κ.blt (ky κ key) (ky κ p)) = false := h
  simpa using h
theorem bey_lt {key p : Keyed} (h : bey κ true key p = true) : κ.blt (ky κ p) (ky κ key) = true := h
theorem bey_ge {key p : Keyed} (h : bey κ true key p = false) : kl κ key p := h
end
end L2
set_option Elab.async false
set_option linter.all false
set_option maxRecDepth 100000
namespace L2
open PySem PySem.Spec PyProof.Rows
noncomputable def mlo : Array Keyed → Array Keyed → StateT SortSt Sem (Array Keyed) := sortPriv% PySem.Builtin.mergeLo
noncomputable def smg : Nat → StateT SortSt Sem Unit := sortPriv% PySem.Builtin.setMinGallop
noncomputable def sg (st : SortSt) (g : Nat) : SortSt := SortSt.mk' (kindOf st) (arrOf st) (pendingOf st) g (failedOf st)
section
variable {κ : PyProof.Rows.KeyKind} {prog : Program} {w : World} {A : Around} {E : Value → Shared → Prop} {s : Shared}
theorem s_smg {st : SortSt} {g g0 : Nat} {Q : Unit → SortSt → Prop} (h : Q () (sg st g)) : wpS (model prog w) A E s (smg g) Q (sg st g0) := by
  unfold smg
  exact wpS_modify h
theorem drop_c {l : List Keyed} {i : Nat} {x : Keyed} (h : l[i]? = some x) : l.drop i = [x] ++ l.drop (i + 1) := by
  obtain ⟨h1, h2⟩ := List.getElem?_eq_some_iff.mp h
  rw [List.drop_eq_getElem_cons h1, h2]
  rfl
theorem drop_k (l : List Keyed) (i k : Nat) : l.drop i = (l.drop i).take k ++ l.drop (i + k) := by
  rw [← List.drop_drop, List.take_append_drop]
theorem ext_l (a : Array Keyed) (i j : Nat) : (a.extract i j).toList = (a.toList.drop i).take (j - i) := by simp
theorem ext_all (a : Array Keyed) (i : Nat) : (a.extract i).toList = a.toList.drop i := by
  rw [ext_l, List.take_of_length_le]
  rw [List.length_drop, Array.length_toList]
  exact Nat.le_refl _
structure Mi (κ : PyProof.Rows.KeyKind) (a b out : Array Keyed) (ia ib : Nat) : Prop where
  m : Mg κ (a.toList ++ b.toList) out.toList (a.toList.drop ia) (b.toList.drop ib)
  a : ia + 1 < a.size
  b : ib < b.size
structure Me (κ : PyProof.Rows.KeyKind) (a b : Array Keyed) : Prop where
  ka : ∀ p ∈ a.toList, Kd κ p
  kb : ∀ p ∈ b.toList, Kd κ p
  l : ∀ y ∈ b.toList, ∀ x, a.toList[a.size - 1]? = some x → kl κ y x
noncomputable def Gm (κ : PyProof.Rows.KeyKind) (a b r : Array Keyed) : Prop := r.toList.Perm (a.toList ++ b.toList) ∧ Srt κ r.toList
variable {a b out : Array Keyed} {ia ib : Nat}
theorem Mg.size {o : Array Keyed} {i j : Nat} (h : Mg κ (a.toList ++ b.toList) o.toList (a.toList.drop i) (b.toList.drop j)) : o.size + (a.size - i) + (b.size - j) = a.size + b.size := by
  have := h.p.length_eq
  simp only [List.length_append, List.length_drop, Array.length_toList] at this
  omega
theorem Me.done {o : Array Keyed} {i j : Nat} (h : Mg κ (a.toList ++ b.toList) o.toList (a.toList.drop i) (b.toList.drop j)) (hj : j = b.size) : Gm κ a b (o ++ a.extract i ++ b.extract j) := by
  have e : b.toList.drop j = [] := List.drop_eq_nil_of_le (by rw [Array.length_toList]; omega)
  rw [e] at h
  have q := h.endB
  unfold Gm
  rw [Array.toList_append, Array.toList_append, ext_all, ext_all, e, List.append_nil]
  exact q
theorem Me.doneA {o : Array Keyed} {i j : Nat} (h : Mg κ (a.toList ++ b.toList) o.toList (a.toList.drop i) (b.toList.drop j)) (hi : i = a.size) : Gm κ a b (o ++ a.extract i ++ b.extract j) := by
  have e : a.toList.drop i = [] := List.drop_eq_nil_of_le (by rw [Array.length_toList]; omega)
  rw [e] at h
  have q := h.endA fun x _ y hy => nomatch hy
  unfold Gm
  rw [Array.toList_append, Array.toList_append, ext_all, ext_all, e, List.append_nil]
  rw [List.append_nil] at q
  exact q
theorem Me.last (M : Me κ a b) {o : Array Keyed} {i j : Nat} (h : Mg κ (a.toList ++ b.toList) o.toList (a.toList.drop i) (b.toList.drop j)) (hi : i + 1 = a.size) : Gm κ a b (o ++ b.extract j ++ a.extract i) := by
  have q := h.endA fun x hx y hy => M.l x (List.mem_of_mem_drop hx) y (by
    have hl : i < a.toList.length := by rw [Array.length_toList]; omega
    rw [List.drop_eq_getElem_cons hl, List.drop_eq_nil_of_le (by rw [Array.length_toList]; omega)] at hy
    rw [List.mem_singleton.mp hy, show a.size - 1 = i from by omega]
    exact List.getElem?_eq_getElem hl)
  unfold Gm
  rw [Array.toList_append, Array.toList_append, ext_all, ext_all]
  exact q
theorem Mg.pushA {C db : List Keyed} {o : Array Keyed} {i : Nat} {x : Keyed} (h : Mg κ C o.toList (a.toList.drop i) db) (hx : a[i]? = some x) (hp : ∀ y ∈ db, kl κ x y) : Mg κ C (o.push x).toList (a.toList.drop (i + 1)) db := by
  rw [Array.toList_push]
  refine Mg.addA (by rw [← drop_c (by simpa using hx)]; exact h) fun z hz y hy => ?_
  rw [List.mem_singleton.mp hz]
  exact hp y hy
theorem Mg.pushB {C da : List Keyed} {o : Array Keyed} {j : Nat} {x : Keyed} (h : Mg κ C o.toList da (b.toList.drop j)) (hx : b[j]? = some x) (hp : ∀ y ∈ da, kl κ x y) : Mg κ C (o.push x).toList da (b.toList.drop (j + 1)) := by
  rw [Array.toList_push]
  refine Mg.addB (by rw [← drop_c (by simpa using hx)]; exact h) fun z hz y hy => ?_
  rw [List.mem_singleton.mp hz]
  exact hp y hy
theorem Mg.extA {C db : List Keyed} {o : Array Keyed} {i k : Nat} (h : Mg κ C o.toList (a.toList.drop i) db) (hp : ∀ x ∈ (a.toList.drop i).take k, ∀ y ∈ db, kl κ x y) : Mg κ C (o ++ a.extract i (i + k)).toList (a.toList.drop (i + k)) db := by
  rw [Array.toList_append, ext_l, Nat.add_sub_cancel_left]
  exact Mg.addA (by rw [← drop_k]; exact h) hp
theorem Mg.extB {C da : List Keyed} {o : Array Keyed} {j k : Nat} (h : Mg κ C o.toList da (b.toList.drop j)) (hp : ∀ x ∈ (b.toList.drop j).take k, ∀ y ∈ da, kl κ x y) : Mg κ C (o ++ b.extract j (j + k)).toList da (b.toList.drop (j + k)) := by
  rw [Array.toList_append, ext_l, Nat.add_sub_cancel_left]
  exact Mg.addB (by rw [← drop_k]; exact h) hp
theorem hd_le {l : List Keyed} {i : Nat} {x : Keyed} (h : l[i]? = some x) (hs : Srt κ (l.drop i)) : ∀ y ∈ l.drop i, kl κ x y := fun y hy => by
  rw [drop_c h] at hs hy
  rcases List.mem_append.mp hy with hy | hy
  · rw [List.mem_singleton.mp hy]
    exact KeyOrd.kle_refl _
  · exact (List.pairwise_append.mp hs).2.2 x (List.mem_singleton.mpr rfl) y hy
theorem s_galT (hO : κ.OneLt) {left : Bool} {key : Keyed} {arr : Array Keyed} {i : Nat} {st : SortSt} {Q : Option Nat → SortSt → Prop} (hk : kindOf st = oneType') (hkey : Kd κ key) (hs : Srt κ (arr.toList.drop i)) (hK : ∀ p ∈ arr.toList, Kd κ p) (hi : i < arr.size)
    (h : ∀ c, i + c ≤ arr.size → (∀ x ∈ (arr.toList.drop i).take c, bey κ left key x = true) → (∀ x ∈ arr.toList.drop (i + c), bey κ left key x = false) → Q (some c) st) : wpS (model prog w) A E s (gal left key arr i (arr.size - i) 0) Q st := by
  obtain ⟨c, hc, hP⟩ := cnt_ex (bey κ left key) hs (bey_down left key)
  rw [List.length_drop, Array.length_toList] at hc
  refine s_gal hO hk hkey (c := c) (fun j hj => ?_) (by omega) hc (h c (by omega) (fun x hx => ?_) fun x hx => ?_)
  · have hl : i + j < arr.toList.length := by rw [Array.length_toList]; omega
    have e : (arr.toList.drop i)[j]? = some arr.toList[i + j] := by rw [List.getElem?_drop]; exact List.getElem?_eq_getElem hl
    exact ⟨arr.toList[i + j], by rw [← Array.getElem?_toList]; exact List.getElem?_eq_getElem hl, hK _ (List.getElem_mem hl), hP j _ e⟩
  · obtain ⟨j, hj⟩ := List.getElem?_of_mem hx
    have hlt := (List.getElem?_eq_some_iff.mp hj).1
    rw [List.length_take] at hlt
    rw [List.getElem?_take_of_lt (by omega)] at hj
    rw [hP j x hj, decide_eq_true (by omega)]
  · obtain ⟨j, hj⟩ := List.getElem?_of_mem hx
    rw [List.getElem?_drop, Nat.add_assoc, ← List.getElem?_drop] at hj
    rw [hP _ x hj, decide_eq_false (by omega)]
end
end L2
set_option Elab.async false
set_option linter.all false
set_option maxRecDepth 100000
set_option maxHeartbeats 2000000
namespace L2
open PySem PySem.Spec PyProof.Rows
section
variable {κ : PyProof.Rows.KeyKind} {prog : Program} {w : World} {A : Around} {E : Value → Shared → Prop} {s : Shared}
theorem s_mlo (hO : κ.OneLt) {a b : Array Keyed} {st : SortSt} {Q : Array Keyed → SortSt → Prop} (hk : kindOf st = oneType') (M : Me κ a b) (sa : Srt κ a.toList) (sb : Srt κ b.toList) (ha : 0 < a.size) (hb : 0 < b.size)
    (h0 : ∀ y, b[0]? = some y → ∀ x ∈ a.toList, kl κ y x) (h : ∀ r g, Gm κ a b r → Q r (sg st g)) : wpS (model prog w) A E s (mlo a b) Q st := by
  have eA : ∀ {i : Nat}, i < a.size → ∃ x, a[i]? = some x ∧ x ∈ a.toList ∧ Kd κ x := fun hi => ⟨a[_], Array.getElem?_eq_getElem hi, by simp, M.ka _ (by simp)⟩
  have eB : ∀ {i : Nat}, i < b.size → ∃ x, b[i]? = some x ∧ x ∈ b.toList ∧ Kd κ x := fun hi => ⟨b[_], Array.getElem?_eq_getElem hi, by simp, M.kb _ (by simp)⟩
  have st0 : st = sg st (gallopOf st) := rfl
  unfold mlo
  refine wpS_bind (wpS_lift (wpAny_rule ⟨rfl, ?_⟩))
  dsimp only
  obtain ⟨y0, ey0, my0, ky0⟩ := eB hb
  refine wpS_bind (s_el ey0 ?_)
  have m0 : Mg κ (a.toList ++ b.toList) (#[] : Array Keyed).toList (a.toList.drop 0) (b.toList.drop 0) := ⟨by simp, .nil, by simpa using sa, by simpa using sb, fun x hx => by simp at hx⟩
  have m1 : Mg κ (a.toList ++ b.toList) #[y0].toList (a.toList.drop 0) (b.toList.drop 1) := m0.pushB ey0 fun y hy => h0 y0 ey0 y (by simpa using hy)
  by_cases hb1 : 1 = b.size
  · rw [if_pos (by simpa using hb1)]
    exact wpS_pure (h _ (gallopOf st) (Me.done m1 hb1))
  rw [if_neg (by simpa using hb1)]
  by_cases ha1 : 0 + 1 = a.size
  · rw [if_pos (by simpa using ha1)]
    exact wpS_pure (h _ (gallopOf st) (M.last m1 ha1))
  rw [if_neg (by simpa using ha1)]
  refine wpS_bind (wpS_get ?_)
  refine wpS_bind (wpS_mono (wpS_forRange (I := fun n z st' => z.1 = none ∧ Mi κ a b z.2.1 z.2.2.1 z.2.2.2.1 ∧ n + 1 ≤ z.2.1.size ∧ ∃ g, st' = sg st g) (Q := fun z st' => ∃ r, z.1 = some r ∧ Gm κ a b r ∧ ∃ g, st' = sg st g) ?_ ?_ ⟨rfl, ⟨m1, by dsimp only; omega, by dsimp only; omega⟩, by simp, gallopOf st, rfl⟩) ?_)
  · rintro n ⟨o, out, ia, ib, mg⟩ st' _ hn ⟨q0, qm, qn, g, rfl⟩
    dsimp only at q0 qm qn ⊢
    refine wpS_bind (wpS_mono (wpS_forRange (I := fun i z st' => z.1 = none ∧ Mi κ a b z.2.1 z.2.2.1 z.2.2.2.1 ∧ n + 1 + i ≤ z.2.1.size ∧ st' = sg st g) (Q := fun z st' => ((∃ r, z.1 = some r ∧ Gm κ a b r) ∨ (z.1 = none ∧ Mi κ a b z.2.1 z.2.2.1 z.2.2.2.1 ∧ n + 2 ≤ z.2.1.size)) ∧ st' = sg st g) ?_ ?_ ⟨rfl, qm, by dsimp only; omega, rfl⟩) ?_)
    · rintro i ⟨o1, out, ia, ib, ac, bc⟩ st' _ hi ⟨p0, pm, pn, rfl⟩
      dsimp only at p0 pm pn ⊢
      obtain ⟨y, ey, my, ky⟩ := eB pm.b
      obtain ⟨x, ex, mx, kx⟩ := eA (show ia < a.size from by have := pm.a; omega)
      refine wpS_bind (s_el ey (wpS_bind (s_el ex (wpS_bind (s_lt hO hk ky kx ?_)))))
      dsimp only
      have exL : a.toList[ia]? = some x := by simpa using ex
      have eyL : b.toList[ib]? = some y := by simpa using ey
      cases hlt : κ.blt (L2.ky κ y) (L2.ky κ x) with
      | true =>
        rw [if_pos rfl]
        refine wpS_bind (s_el ey ?_)
        have m2 := pm.m.pushB ey fun z hz => kl_trans (kl_of_lt hlt) (hd_le exL pm.m.sa z hz)
        by_cases e1 : ib + 1 = b.size
        · rw [if_pos (by simpa using e1)]
          exact wpS_pure ⟨.inl ⟨_, rfl, Me.done m2 e1⟩, rfl⟩
        · rw [if_neg (by simpa using e1)]
          have mi : Mi κ a b (out.push y) ia (ib + 1) := ⟨m2, pm.a, by have := pm.b; omega⟩
          split
          · exact wpS_pure ⟨.inr ⟨rfl, mi, by dsimp only; rw [Array.size_push]; omega⟩, rfl⟩
          · exact wpS_pure ⟨rfl, mi, by dsimp only; rw [Array.size_push]; omega, rfl⟩
      | false =>
        rw [if_neg Bool.false_ne_true]
        refine wpS_bind (s_el ex ?_)
        have m2 := pm.m.pushA ex fun z hz => kl_trans (kl_of_not hlt) (hd_le eyL pm.m.sb z hz)
        by_cases e1 : ia + 1 + 1 = a.size
        · rw [if_pos (by simpa using e1)]
          exact wpS_pure ⟨.inl ⟨_, rfl, M.last m2 e1⟩, rfl⟩
        · rw [if_neg (by simpa using e1)]
          have mi : Mi κ a b (out.push x) (ia + 1) ib := ⟨m2, by have := pm.a; omega, pm.b⟩
          split
          · exact wpS_pure ⟨.inr ⟨rfl, mi, by dsimp only; rw [Array.size_push]; omega⟩, rfl⟩
          · exact wpS_pure ⟨rfl, mi, by dsimp only; rw [Array.size_push]; omega, rfl⟩
    · rintro ⟨o1, out, ia, ib, ac, bc⟩ st' ⟨p0, pm, pn, rfl⟩
      dsimp only at p0 pm pn ⊢
      exact ⟨.inr ⟨p0, pm, by omega⟩, rfl⟩
    · rintro ⟨o1, out, ia, ib, ac, bc⟩ st' ⟨⟨r, e, gr⟩ | ⟨e, pm, pn⟩, rfl⟩
      · dsimp only at e ⊢
        subst e
        exact wpS_pure ⟨r, rfl, gr, g, rfl⟩
      · dsimp only at e pm pn ⊢
        subst e
        refine wpS_bind (wpS_lift (wpAny_rule ⟨rfl, ?_⟩))
        refine wpS_bind (wpS_mono (wpS_forRange (I := fun i z st' => z.1 = none ∧ Mi κ a b z.2.1 z.2.2.1 z.2.2.2.1 ∧ n + 2 ≤ z.2.1.size ∧ ∃ g, st' = sg st g) (Q := fun z st' => ((∃ r, z.1 = some r ∧ Gm κ a b r) ∨ (z.1 = none ∧ Mi κ a b z.2.1 z.2.2.1 z.2.2.2.1 ∧ n + 2 ≤ z.2.1.size)) ∧ ∃ g, st' = sg st g) ?_ ?_ ⟨rfl, pm, pn, g, rfl⟩) ?_)
        · rintro i ⟨o1, out, ia, ib, mg2, ac, bc⟩ st' _ hi ⟨p0, pm, pn, g2, rfl⟩
          dsimp only at p0 pm pn ⊢
          by_cases hmg : mg2 > 1
          case' pos => rw [if_pos hmg]
          case' neg => rw [if_neg hmg]
          all_goals
            refine wpS_bind (s_smg ?_)
            obtain ⟨y, ey, my, ky⟩ := eB pm.b
            have eyL : b.toList[ib]? = some y := by simpa using ey
            refine wpS_bind (s_el ey (wpS_bind (s_galT hO (by exact hk) ky pm.m.sa M.ka (by have := pm.a; omega) fun c hc h1 h2 => ?_)))
            dsimp only
            have mk := pm.m.extA (k := c) fun x hx z hz => kl_trans (bey_le (h1 x hx)) (hd_le eyL pm.m.sb z hz)
            have ylt : ∀ x ∈ a.toList.drop (ia + c), kl κ y x := fun x hx => kl_of_lt (bey_gt (h2 x hx))
            have hpa := pm.a
            have hpb := pm.b
            by_cases hc0 : c > 0
            case' pos =>
              rw [if_pos hc0]
              by_cases e1 : ia + c + 1 = a.size
              · rw [if_pos (by simpa using e1)]
                exact wpS_pure ⟨.inl ⟨_, rfl, M.last mk e1⟩, _, rfl⟩
              rw [if_neg (by simpa using e1)]
              by_cases e2 : ia + c = a.size
              · rw [if_pos (by simpa using e2)]
                exact wpS_pure ⟨.inl ⟨_, rfl, Me.doneA mk e2⟩, _, rfl⟩
              rw [if_neg (by simpa using e2)]
              have i1 : ia + c + 1 < a.size := by omega
              have on : n + 2 ≤ (out ++ a.extract ia (ia + c)).size := by rw [Array.size_append]; omega
              generalize out ++ a.extract ia (ia + c) = o at mk on ⊢
              generalize ia + c = i at mk ylt i1 ⊢
            case' neg =>
              rw [if_neg hc0]
              have c0 : c = 0 := by omega
              have i1 : ia + 1 < a.size := hpa
              have on : n + 2 ≤ out.size := pn
              have mk := pm.m
              rw [c0, Nat.add_zero] at ylt
              generalize out = o at mk on ⊢
              generalize ia = i at mk ylt i1 ⊢
            all_goals
              refine wpS_bind (s_el ey ?_)
              have m2 := mk.pushB ey fun z hz => ylt z hz
              by_cases e3 : ib + 1 = b.size
              · rw [if_pos (by simpa using e3)]
                exact wpS_pure ⟨.inl ⟨_, rfl, Me.done m2 e3⟩, _, rfl⟩
              rw [if_neg (by simpa using e3)]
              obtain ⟨x, ex, mx, kx⟩ := eA (show i < a.size from by omega)
              have exL : a.toList[i]? = some x := by simpa using ex
              refine wpS_bind (s_el ex (wpS_bind (s_galT hO (by exact hk) kx m2.sb M.kb (by omega) fun d hd g1 g2' => ?_)))
              dsimp only
              have mk2 := m2.extB (k := d) fun z hz z' hz' => kl_trans (kl_of_lt (bey_lt (g1 z hz))) (hd_le exL m2.sa z' hz')
              have xle : ∀ z ∈ b.toList.drop (ib + 1 + d), kl κ x z := fun z hz => bey_ge (g2' z hz)
              by_cases hd0 : d > 0
              case' pos =>
                rw [if_pos hd0]
                by_cases e4 : ib + 1 + d = b.size
                · rw [if_pos (by simpa using e4)]
                  exact wpS_pure ⟨.inl ⟨_, rfl, Me.done mk2 e4⟩, _, rfl⟩
                rw [if_neg (by simpa using e4)]
                have j1 : ib + 1 + d < b.size := by omega
                have on2 : n + 2 ≤ (o.push y ++ b.extract (ib + 1) (ib + 1 + d)).size := by rw [Array.size_append, Array.size_push]; omega
                generalize o.push y ++ b.extract (ib + 1) (ib + 1 + d) = o2 at mk2 on2 ⊢
                generalize ib + 1 + d = j at mk2 xle j1 ⊢
              case' neg =>
                rw [if_neg hd0]
                have d0 : d = 0 := by omega
                have j1 : ib + 1 < b.size := by omega
                have on2 : n + 2 ≤ (o.push y).size := by rw [Array.size_push]; omega
                have mk2 := m2
                rw [d0, Nat.add_zero] at xle
                generalize o.push y = o2 at mk2 on2 ⊢
                generalize ib + 1 = j at mk2 xle j1 ⊢
              all_goals
                refine wpS_bind (s_el ex ?_)
                have m3 := mk2.pushA ex fun z hz => xle z hz
                by_cases e5 : i + 1 + 1 = a.size
                · rw [if_pos (by simpa using e5)]
                  exact wpS_pure ⟨.inl ⟨_, rfl, M.last m3 e5⟩, _, rfl⟩
                rw [if_neg (by simpa using e5)]
                have mi : Mi κ a b (o2.push x) (i + 1) j := ⟨m3, by omega, j1⟩
                split
                · exact wpS_pure ⟨.inr ⟨rfl, mi, by dsimp only; rw [Array.size_push]; omega⟩, _, rfl⟩
                · exact wpS_pure ⟨rfl, mi, by dsimp only; rw [Array.size_push]; omega, _, rfl⟩
        · rintro ⟨o1, out, ia, ib, mg2, ac, bc⟩ st' ⟨p0, pm, pn, g2, rfl⟩
          exact ⟨.inr ⟨p0, pm, pn⟩, g2, rfl⟩
        · rintro ⟨o1, out, ia, ib, mg2, ac, bc⟩ st' ⟨⟨r, e, gr⟩ | ⟨e, pm, pn⟩, g2, rfl⟩
          · dsimp only at e ⊢
            subst e
            exact wpS_pure ⟨r, rfl, gr, g2, rfl⟩
          · dsimp only at e pm pn ⊢
            subst e
            refine wpS_bind (s_smg (wpS_pure ⟨rfl, pm, by dsimp only; omega, _, rfl⟩))
  · rintro ⟨o, out, ia, ib, mg⟩ st' ⟨q0, qm, qn, g, rfl⟩
    dsimp only at q0 qm qn
    have := qm.m.size
    have h1 := qm.a
    have h2 := qm.b
    omega
  · rintro ⟨o, out, ia, ib, mg⟩ st' ⟨r, e, gr, g, rfl⟩
    dsimp only at e ⊢
    subst e
    exact wpS_pure (h r g gr)
end
end L2
set_option Elab.async false
set_option linter.all false
set_option maxRecDepth 100000
set_option maxHeartbeats 2000000
namespace L2
open PySem PySem.Spec PyProof.Rows
noncomputable def mhi : Array Keyed → Array Keyed → StateT SortSt Sem (Array Keyed) := sortPriv% PySem.Builtin.mergeHi
section
variable {κ : PyProof.Rows.KeyKind} {prog : Program} {w : World} {A : Around} {E : Value → Shared → Prop} {s : Shared}
structure Mr (κ : PyProof.Rows.KeyKind) (C da db o : List Keyed) : Prop where
  p : (da ++ (db ++ o)).Perm C
  so : Srt κ o
  sa : Srt κ da
  sb : Srt κ db
  le : ∀ x ∈ da ++ db, ∀ y ∈ o, kl κ x y
theorem Mr.addA {C p q db o : List Keyed} (h : Mr κ C (q ++ p) db o) (hp : ∀ x ∈ p, ∀ y ∈ db, kl κ y x) : Mr κ C q db (p ++ o) := by
  obtain ⟨h1, h2, h3, h4, h5⟩ := h
  obtain ⟨p1, p2, p3⟩ := List.pairwise_append.mp h3
  refine ⟨List.Perm.trans ?_ h1, List.pairwise_append.mpr ⟨p2, h2, fun x hx y hy => h5 x (List.mem_append_left _ (List.mem_append_right _ hx)) y hy⟩, p1, h4, fun x hx y hy => ?_⟩
  · rw [List.append_assoc]
    refine List.Perm.append_left q ?_
    rw [← List.append_assoc, ← List.append_assoc]
    exact List.Perm.append_right o List.perm_append_comm
  · rcases List.mem_append.mp hy with hy | hy
    · rcases List.mem_append.mp hx with hx | hx
      · exact p3 x hx y hy
      · exact hp y hy x hx
    · refine h5 x ?_ y hy
      rcases List.mem_append.mp hx with hx | hx
      · exact List.mem_append_left _ (List.mem_append_left _ hx)
      · exact List.mem_append_right _ hx
theorem Mr.addB {C p q da o : List Keyed} (h : Mr κ C da (q ++ p) o) (hp : ∀ x ∈ p, ∀ y ∈ da, kl κ y x) : Mr κ C da q (p ++ o) := by
  obtain ⟨h1, h2, h3, h4, h5⟩ := h
  obtain ⟨p1, p2, p3⟩ := List.pairwise_append.mp h4
  refine ⟨by simpa [List.append_assoc] using h1, List.pairwise_append.mpr ⟨p2, h2, fun x hx y hy => h5 x (List.mem_append_right _ (List.mem_append_right _ hx)) y hy⟩, h3, p1, fun x hx y hy => ?_⟩
  rcases List.mem_append.mp hy with hy | hy
  · rcases List.mem_append.mp hx with hx | hx
    · exact hp y hy x hx
    · exact p3 x hx y hy
  · refine h5 x ?_ y hy
    rcases List.mem_append.mp hx with hx | hx
    · exact List.mem_append_left _ hx
    · exact List.mem_append_right _ (List.mem_append_left _ hx)
theorem Mr.end0 {C da db o : List Keyed} (h : Mr κ C da db o) (hl : ∀ x ∈ da, ∀ y ∈ db, kl κ x y) : (da ++ db ++ o).Perm C ∧ Srt κ (da ++ db ++ o) := by
  refine ⟨by rw [List.append_assoc]; exact h.p, ?_⟩
  exact List.pairwise_append.mpr ⟨List.pairwise_append.mpr ⟨h.sa, h.sb, hl⟩, h.so, h.le⟩
theorem Mr.end1 {C da db o : List Keyed} (h : Mr κ C da db o) (hl : ∀ x ∈ db, ∀ y ∈ da, kl κ x y) : (db ++ da ++ o).Perm C ∧ Srt κ (db ++ da ++ o) := by
  refine ⟨List.Perm.trans ?_ h.p, ?_⟩
  · rw [← List.append_assoc]
    exact List.Perm.append_right o List.perm_append_comm
  · refine List.pairwise_append.mpr ⟨List.pairwise_append.mpr ⟨h.sb, h.sa, hl⟩, h.so, fun x hx y hy => h.le x ?_ y hy⟩
    rcases List.mem_append.mp hx with hx | hx
    · exact List.mem_append_right _ hx
    · exact List.mem_append_left _ hx
theorem take_c {l : List Keyed} {n : Nat} {x : Keyed} (h : l[n]? = some x) : l.take (n + 1) = l.take n ++ [x] := by
  rw [List.take_succ, h]
  rfl
theorem take_k (l : List Keyed) {c n : Nat} (h : c ≤ n) : l.take n = l.take c ++ (l.drop c).take (n - c) := by
  have e := (List.take_append_drop c (l.take n)).symm
  rw [List.take_take, Nat.min_eq_left h, List.drop_take] at e
  exact e
theorem ext_0 (a : Array Keyed) (n : Nat) : (a.extract 0 n).toList = a.toList.take n := by rw [ext_l]; simp
variable {a b out : Array Keyed}
noncomputable abbrev MH (κ : PyProof.Rows.KeyKind) (a b out : Array Keyed) (na nb : Nat) : Prop := Mr κ (a.toList ++ b.toList) (a.toList.take na) (b.toList.take nb) out.toList.reverse
theorem Mr.pushA {C db : List Keyed} {o : Array Keyed} {n : Nat} {x : Keyed} (h : Mr κ C (a.toList.take (n + 1)) db o.toList.reverse) (hx : a[n]? = some x) (hp : ∀ y ∈ db, kl κ y x) : Mr κ C (a.toList.take n) db (o.push x).toList.reverse := by
  rw [Array.toList_push, List.reverse_append]
  rw [take_c (by simpa using hx)] at h
  exact h.addA fun z hz y hy => by rw [List.mem_singleton.mp hz]; exact hp y hy
theorem Mr.pushB {C da : List Keyed} {o : Array Keyed} {n : Nat} {x : Keyed} (h : Mr κ C da (b.toList.take (n + 1)) o.toList.reverse) (hx : b[n]? = some x) (hp : ∀ y ∈ da, kl κ y x) : Mr κ C da (b.toList.take n) (o.push x).toList.reverse := by
  rw [Array.toList_push, List.reverse_append]
  rw [take_c (by simpa using hx)] at h
  exact h.addB fun z hz y hy => by rw [List.mem_singleton.mp hz]; exact hp y hy
theorem Mr.extA {C db : List Keyed} {o : Array Keyed} {c n : Nat} (h : Mr κ C (a.toList.take n) db o.toList.reverse) (hc : c ≤ n) (hp : ∀ x ∈ (a.toList.drop c).take (n - c), ∀ y ∈ db, kl κ y x) : Mr κ C (a.toList.take c) db (o ++ (a.extract c n).reverse).toList.reverse := by
  rw [Array.toList_append, List.reverse_append, Array.toList_reverse, List.reverse_reverse, ext_l]
  rw [take_k _ hc] at h
  exact h.addA hp
theorem Mr.extB {C da : List Keyed} {o : Array Keyed} {c n : Nat} (h : Mr κ C da (b.toList.take n) o.toList.reverse) (hc : c ≤ n) (hp : ∀ x ∈ (b.toList.drop c).take (n - c), ∀ y ∈ da, kl κ y x) : Mr κ C da (b.toList.take c) (o ++ (b.extract c n).reverse).toList.reverse := by
  rw [Array.toList_append, List.reverse_append, Array.toList_reverse, List.reverse_reverse, ext_l]
  rw [take_k _ hc] at h
  exact h.addB hp
theorem MH.done {o : Array Keyed} {i j : Nat} (h : MH κ a b o i j) (hl : i = 0 ∨ j = 0) : Gm κ a b (a.extract 0 i ++ b.extract 0 j ++ o.reverse) := by
  have q := h.end0 fun x hx y hy => by
    rcases hl with rfl | rfl
    · simp at hx
    · simp at hy
  unfold Gm
  rw [Array.toList_append, Array.toList_append, ext_0, ext_0, Array.toList_reverse]
  exact q
theorem MH.first {o : Array Keyed} {i j : Nat} (h : MH κ a b o i j) (h0 : ∀ y, b[0]? = some y → ∀ x ∈ a.toList, kl κ y x) (hj : j = 1) : Gm κ a b (b.extract 0 j ++ a.extract 0 i ++ o.reverse) := by
  subst hj
  have q := h.end1 fun x hx y hy => by
    cases hb : b.toList with
    | nil => rw [hb] at hx; simp at hx
    | cons z l =>
      rw [hb] at hx
      have e : x = z := by simpa using hx
      rw [e]
      exact h0 z (by rw [← Array.getElem?_toList, hb]; rfl) y (List.mem_of_mem_take hy)
  unfold Gm
  rw [Array.toList_append, Array.toList_append, ext_0, ext_0, Array.toList_reverse]
  exact q
theorem lst_ge {l : List Keyed} {n : Nat} {x : Keyed} (h : l[n]? = some x) (hs : Srt κ (l.take (n + 1))) : ∀ y ∈ l.take (n + 1), kl κ y x := fun y hy => by
  rw [take_c h] at hs hy
  rcases List.mem_append.mp hy with hy | hy
  · exact (List.pairwise_append.mp hs).2.2 y hy x (List.mem_singleton.mpr rfl)
  · rw [List.mem_singleton.mp hy]
    exact KeyOrd.kle_refl _
theorem Mr.size {o : Array Keyed} {i j : Nat} (h : MH κ a b o i j) (hi : i ≤ a.size) (hj : j ≤ b.size) : o.size + i + j = a.size + b.size := by
  have := h.p.length_eq
  simp only [List.length_append, List.length_take, Array.length_toList, List.length_reverse] at this
  omega
theorem s_galH (hO : κ.OneLt) {left : Bool} {key : Keyed} {arr : Array Keyed} {n : Nat} {st : SortSt} {Q : Option Nat → SortSt → Prop} (hk : kindOf st = oneType') (hkey : Kd κ key) (hs : Srt κ (arr.toList.take (n + 1))) (hK : ∀ p ∈ arr.toList, Kd κ p) (hn : n + 1 ≤ arr.size)
    (h : ∀ c, c ≤ n + 1 → (∀ x ∈ arr.toList.take c, bey κ left key x = true) → (∀ x ∈ (arr.toList.drop c).take (n + 1 - c), bey κ left key x = false) → Q (some c) st) : wpS (model prog w) A E s (gal left key arr 0 (n + 1) n) Q st := by
  obtain ⟨c, hc, hP⟩ := cnt_ex (bey κ left key) hs (bey_down left key)
  rw [List.length_take, Array.length_toList] at hc
  refine s_gal hO hk hkey (c := c) (fun j hj => ?_) (by omega) (by omega) (h c (by omega) (fun x hx => ?_) fun x hx => ?_)
  · have hl : j < arr.toList.length := by rw [Array.length_toList]; omega
    have e : (arr.toList.take (n + 1))[j]? = some arr.toList[j] := by rw [List.getElem?_take_of_lt hj]; exact List.getElem?_eq_getElem hl
    refine ⟨arr.toList[j], by rw [Nat.zero_add, ← Array.getElem?_toList]; exact List.getElem?_eq_getElem hl, hK _ (List.getElem_mem hl), hP j _ e⟩
  · obtain ⟨j, hj⟩ := List.getElem?_of_mem hx
    have hlt := (List.getElem?_eq_some_iff.mp hj).1
    rw [List.length_take] at hlt
    rw [List.getElem?_take_of_lt (by omega)] at hj
    rw [hP j x (by rw [List.getElem?_take_of_lt (by omega)]; exact hj), decide_eq_true (by omega)]
  · obtain ⟨j, hj⟩ := List.getElem?_of_mem hx
    have hlt := (List.getElem?_eq_some_iff.mp hj).1
    rw [List.length_take] at hlt
    rw [List.getElem?_take_of_lt (by omega), List.getElem?_drop] at hj
    rw [hP (c + j) x (by rw [List.getElem?_take_of_lt (by omega)]; exact hj), decide_eq_false (by omega)]
end
end L2
set_option Elab.async false
set_option linter.all false
set_option maxRecDepth 100000
set_option maxHeartbeats 2000000
namespace L2
open PySem PySem.Spec PyProof.Rows
section
variable {κ : PyProof.Rows.KeyKind} {prog : Program} {w : World} {A : Around} {E : Value → Shared → Prop} {s : Shared}
structure Mj (κ : PyProof.Rows.KeyKind) (a b : Array Keyed) (na nb : Nat) (out : Array Keyed) : Prop where
  m : MH κ a b out na nb
  la : 1 ≤ na
  a2 : na ≤ a.size
  lb : 2 ≤ nb
  b2 : nb ≤ b.size
theorem s_mhi (hO : κ.OneLt) {a b : Array Keyed} {st : SortSt} {Q : Array Keyed → SortSt → Prop} (hk : kindOf st = oneType') (M : Me κ a b) (sa : Srt κ a.toList) (sb : Srt κ b.toList) (ha : 0 < a.size) (hb : 0 < b.size)
    (h0 : ∀ y, b[0]? = some y → ∀ x ∈ a.toList, kl κ y x) (h : ∀ r g, Gm κ a b r → Q r (sg st g)) : wpS (model prog w) A E s (mhi a b) Q st := by
  have eA : ∀ {i : Nat}, i < a.size → ∃ x, a[i]? = some x ∧ x ∈ a.toList ∧ Kd κ x := fun hi => ⟨a[_], Array.getElem?_eq_getElem hi, by simp, M.ka _ (by simp)⟩
  have eB : ∀ {i : Nat}, i < b.size → ∃ x, b[i]? = some x ∧ x ∈ b.toList ∧ Kd κ x := fun hi => ⟨b[_], Array.getElem?_eq_getElem hi, by simp, M.kb _ (by simp)⟩
  unfold mhi
  refine wpS_bind (wpS_lift (wpAny_rule ⟨rfl, ?_⟩))
  dsimp only
  obtain ⟨p, hp⟩ : ∃ p, a.size = p + 1 := ⟨a.size - 1, by omega⟩
  obtain ⟨x0, ex0, mx0, kx0⟩ := eA (show p < a.size from by omega)
  simp only [hp, Nat.add_sub_cancel]
  refine wpS_bind (s_el ex0 ?_)
  have lp : a.toList.length = p + 1 := by rw [Array.length_toList]; exact hp
  have m0 : MH κ a b #[] (p + 1) b.size := ⟨by rw [← lp, List.take_length, ← Array.length_toList, List.take_length]; simp, .nil, by rw [← lp, List.take_length]; exact sa, by rw [← Array.length_toList, List.take_length]; exact sb, fun x _ y hy => by simp at hy⟩
  have m1 : MH κ a b #[x0] p b.size := m0.pushA ex0 fun y hy => M.l y (List.mem_of_mem_take hy) x0 (by rw [show a.size - 1 = p from by omega]; simpa using ex0)
  by_cases ha1 : p = 0
  · rw [if_pos (by simpa using ha1)]
    exact wpS_pure (h _ (gallopOf st) (MH.done m1 (.inl ha1)))
  rw [if_neg (by simpa using ha1)]
  by_cases hb1 : b.size = 1
  · rw [if_pos (by simpa using hb1)]
    exact wpS_pure (h _ (gallopOf st) (MH.first m1 h0 hb1))
  rw [if_neg (by simpa using hb1)]
  refine wpS_bind (wpS_get ?_)
  refine wpS_bind (wpS_mono (wpS_forRange (I := fun n z st' => z.1 = none ∧ Mj κ a b z.2.1 z.2.2.1 z.2.2.2.1 ∧ n + 1 ≤ z.2.2.2.1.size ∧ ∃ g, st' = sg st g) (Q := fun z st' => ∃ r, z.1 = some r ∧ Gm κ a b r ∧ ∃ g, st' = sg st g) ?_ ?_ ⟨rfl, ⟨m1, by dsimp only; omega, by dsimp only; omega, by dsimp only; omega, by dsimp only; omega⟩, by simp, gallopOf st, rfl⟩) ?_)
  · rintro n ⟨o, na, nb, out, mg⟩ st' _ hn ⟨q0, qm, qn, g, rfl⟩
    dsimp only at q0 qm qn ⊢
    refine wpS_bind (wpS_mono (wpS_forRange (I := fun i z st' => z.1 = none ∧ Mj κ a b z.2.1 z.2.2.1 z.2.2.2.1 ∧ n + 1 + i ≤ z.2.2.2.1.size ∧ st' = sg st g) (Q := fun z st' => ((∃ r, z.1 = some r ∧ Gm κ a b r) ∨ (z.1 = none ∧ Mj κ a b z.2.1 z.2.2.1 z.2.2.2.1 ∧ n + 2 ≤ z.2.2.2.1.size)) ∧ st' = sg st g) ?_ ?_ ⟨rfl, qm, by dsimp only; omega, rfl⟩) ?_)
    · rintro i ⟨o1, na, nb, out, ac, bc⟩ st' _ hi ⟨p0, pm, pn, rfl⟩
      dsimp only at p0 pm pn ⊢
      have j1 := pm.la
      have j2 := pm.a2
      have j3 := pm.lb
      have j4 := pm.b2
      obtain ⟨u, rfl⟩ : ∃ u, na = u + 1 := ⟨na - 1, by omega⟩
      obtain ⟨v, rfl⟩ : ∃ v, nb = v + 1 := ⟨nb - 1, by omega⟩
      simp only [Nat.add_sub_cancel]
      obtain ⟨y, ey, my, ky⟩ := eB (show v < b.size from by omega)
      obtain ⟨x, ex, mx, kx⟩ := eA (show u < a.size from by omega)
      refine wpS_bind (s_el ey (wpS_bind (s_el ex (wpS_bind (s_lt hO hk ky kx ?_)))))
      dsimp only
      have exL : a.toList[u]? = some x := by simpa using ex
      have eyL : b.toList[v]? = some y := by simpa using ey
      cases hlt : κ.blt (L2.ky κ y) (L2.ky κ x) with
      | true =>
        rw [if_pos rfl]
        refine wpS_bind (s_el ex ?_)
        have m2 := pm.m.pushA ex fun z hz => kl_trans (lst_ge eyL pm.m.sb z hz) (kl_of_lt hlt)
        by_cases e1 : u = 0
        · rw [if_pos (by simpa using e1)]
          exact wpS_pure ⟨.inl ⟨_, rfl, MH.done m2 (.inl e1)⟩, rfl⟩
        · rw [if_neg (by simpa using e1)]
          have mi : Mj κ a b u (v + 1) (out.push x) := ⟨m2, by omega, by omega, j3, j4⟩
          split
          · exact wpS_pure ⟨.inr ⟨rfl, mi, by dsimp only; rw [Array.size_push]; omega⟩, rfl⟩
          · exact wpS_pure ⟨rfl, mi, by dsimp only; rw [Array.size_push]; omega, rfl⟩
      | false =>
        rw [if_neg Bool.false_ne_true]
        refine wpS_bind (s_el ey ?_)
        have m2 := pm.m.pushB ey fun z hz => kl_trans (lst_ge exL pm.m.sa z hz) (kl_of_not hlt)
        by_cases e1 : v = 1
        · rw [if_pos (by simpa using e1)]
          exact wpS_pure ⟨.inl ⟨_, rfl, MH.first m2 h0 e1⟩, rfl⟩
        · rw [if_neg (by simpa using e1)]
          have mi : Mj κ a b (u + 1) v (out.push y) := ⟨m2, j1, j2, by omega, by omega⟩
          split
          · exact wpS_pure ⟨.inr ⟨rfl, mi, by dsimp only; rw [Array.size_push]; omega⟩, rfl⟩
          · exact wpS_pure ⟨rfl, mi, by dsimp only; rw [Array.size_push]; omega, rfl⟩
    · rintro ⟨o1, na, nb, out, ac, bc⟩ st' ⟨p0, pm, pn, rfl⟩
      dsimp only at p0 pm pn ⊢
      exact ⟨.inr ⟨p0, pm, by omega⟩, rfl⟩
    · rintro ⟨o1, na, nb, out, ac, bc⟩ st' ⟨⟨r, e, gr⟩ | ⟨e, pm, pn⟩, rfl⟩
      · dsimp only at e ⊢
        subst e
        exact wpS_pure ⟨r, rfl, gr, g, rfl⟩
      · dsimp only at e pm pn ⊢
        subst e
        refine wpS_bind (wpS_lift (wpAny_rule ⟨rfl, ?_⟩))
        refine wpS_bind (wpS_mono (wpS_forRange (I := fun i z st' => z.1 = none ∧ Mj κ a b z.2.1 z.2.2.1 z.2.2.2.1 ∧ n + 2 ≤ z.2.2.2.1.size ∧ ∃ g, st' = sg st g) (Q := fun z st' => ((∃ r, z.1 = some r ∧ Gm κ a b r) ∨ (z.1 = none ∧ Mj κ a b z.2.1 z.2.2.1 z.2.2.2.1 ∧ n + 2 ≤ z.2.2.2.1.size)) ∧ ∃ g, st' = sg st g) ?_ ?_ ⟨rfl, pm, pn, g, rfl⟩) ?_)
        · rintro i ⟨o1, na, nb, out, mg2, ac, bc⟩ st' _ hi ⟨p0, pm, pn, g2, rfl⟩
          dsimp only at p0 pm pn ⊢
          have j1 := pm.la
          have j2 := pm.a2
          have j3 := pm.lb
          have j4 := pm.b2
          obtain ⟨u, rfl⟩ : ∃ u, na = u + 1 := ⟨na - 1, by omega⟩
          obtain ⟨v, rfl⟩ : ∃ v, nb = v + 1 := ⟨nb - 1, by omega⟩
          by_cases hmg : mg2 > 1
          case' pos => rw [if_pos hmg]
          case' neg => rw [if_neg hmg]
          all_goals
            simp only [show v + 1 - 1 = v from rfl]
            refine wpS_bind (s_smg ?_)
            obtain ⟨y, ey, my, ky⟩ := eB (show v < b.size from by omega)
            have eyL : b.toList[v]? = some y := by simpa using ey
            refine wpS_bind (s_el ey (wpS_bind (s_galH hO (by exact hk) ky pm.m.sa M.ka j2 fun c hc h1 h2 => ?_)))
            dsimp only
            have mk := pm.m.extA hc fun x hx z hz => kl_trans (lst_ge eyL pm.m.sb z hz) (kl_of_lt (bey_gt (h2 x hx)))
            have xle : ∀ x ∈ a.toList.take c, kl κ x y := fun x hx => bey_le (h1 x hx)
            by_cases hc0 : u + 1 - c > 0
            case' pos =>
              rw [if_pos hc0]
              by_cases e1 : c = 0
              · rw [if_pos (by simpa using e1)]
                exact wpS_pure ⟨.inl ⟨_, rfl, MH.done mk (.inl e1)⟩, _, rfl⟩
              rw [if_neg (by simpa using e1)]
              have i1 : 1 ≤ c := by omega
              have i2 : c ≤ a.size := by omega
              have on : n + 2 ≤ (out ++ (a.extract c (u + 1)).reverse).size := by rw [Array.size_append]; omega
              generalize out ++ (a.extract c (u + 1)).reverse = o at mk on ⊢
              generalize u + 1 - c = kk
              generalize c = i at mk xle i1 i2 ⊢
            case' neg =>
              rw [if_neg hc0]
              have c0 : c = u + 1 := by omega
              have i1 : 1 ≤ u + 1 := j1
              have i2 : u + 1 ≤ a.size := j2
              have on : n + 2 ≤ out.size := pn
              have mk := pm.m
              rw [c0] at xle
              generalize out = o at mk on ⊢
              generalize u + 1 - c = kk
              generalize u + 1 = i at mk xle i1 i2 ⊢
            all_goals
              refine wpS_bind (s_el ey ?_)
              have m2 := mk.pushB ey fun z hz => xle z hz
              by_cases e3 : v = 1
              · rw [if_pos (by simpa using e3)]
                exact wpS_pure ⟨.inl ⟨_, rfl, MH.first m2 h0 e3⟩, _, rfl⟩
              rw [if_neg (by simpa using e3)]
              obtain ⟨t, rfl⟩ : ∃ t, i = t + 1 := ⟨i - 1, by omega⟩
              obtain ⟨r, rfl⟩ : ∃ r, v = r + 1 := ⟨v - 1, by omega⟩
              simp only [show t + 1 - 1 = t from rfl]
              obtain ⟨x, ex, mx, kx⟩ := eA (show t < a.size from by omega)
              have exL : a.toList[t]? = some x := by simpa using ex
              refine wpS_bind (s_el ex (wpS_bind (s_galH hO (by exact hk) kx m2.sb M.kb (by omega) fun d hd g1 g2' => ?_)))
              dsimp only
              have mk2 := m2.extB hd fun z hz z' hz' => kl_trans (lst_ge exL m2.sa z' hz') (bey_ge (g2' z hz))
              have zlt : ∀ z ∈ b.toList.take d, kl κ z x := fun z hz => kl_of_lt (bey_lt (g1 z hz))
              by_cases hd0 : r + 1 - d > 0
              case' pos =>
                rw [if_pos hd0]
                by_cases e4 : d = 1
                · rw [if_pos (by simpa using e4)]
                  exact wpS_pure ⟨.inl ⟨_, rfl, MH.first mk2 h0 e4⟩, _, rfl⟩
                rw [if_neg (by simpa using e4)]
                by_cases e6 : d = 0
                · rw [if_pos (by simpa using e6)]
                  exact wpS_pure ⟨.inl ⟨_, rfl, MH.done mk2 (.inr e6)⟩, _, rfl⟩
                rw [if_neg (by simpa using e6)]
                have l1 : 2 ≤ d := by omega
                have l2 : d ≤ b.size := by omega
                have on2 : n + 2 ≤ (o.push y ++ (b.extract d (r + 1)).reverse).size := by rw [Array.size_append, Array.size_push]; omega
                generalize o.push y ++ (b.extract d (r + 1)).reverse = o2 at mk2 on2 ⊢
                generalize r + 1 - d = kk2
                generalize d = j at mk2 zlt l1 l2 ⊢
              case' neg =>
                rw [if_neg hd0]
                have d0 : d = r + 1 := by omega
                have l1 : 2 ≤ r + 1 := by omega
                have l2 : r + 1 ≤ b.size := by omega
                have on2 : n + 2 ≤ (o.push y).size := by rw [Array.size_push]; omega
                have mk2 := m2
                rw [d0] at zlt
                generalize o.push y = o2 at mk2 on2 ⊢
                generalize r + 1 - d = kk2
                generalize r + 1 = j at mk2 zlt l1 l2 ⊢
              all_goals
                refine wpS_bind (s_el ex ?_)
                have m3 := mk2.pushA ex fun z hz => zlt z hz
                by_cases e5 : t = 0
                · rw [if_pos (by simpa using e5)]
                  exact wpS_pure ⟨.inl ⟨_, rfl, MH.done m3 (.inl e5)⟩, _, rfl⟩
                rw [if_neg (by simpa using e5)]
                have mi : Mj κ a b t j (o2.push x) := ⟨m3, by omega, by omega, l1, l2⟩
                split
                · exact wpS_pure ⟨.inr ⟨rfl, mi, by dsimp only; rw [Array.size_push]; omega⟩, _, rfl⟩
                · exact wpS_pure ⟨rfl, mi, by dsimp only; rw [Array.size_push]; omega, _, rfl⟩
        · rintro ⟨o1, na, nb, out, mg2, ac, bc⟩ st' ⟨p0, pm, pn, g2, rfl⟩
          exact ⟨.inr ⟨p0, pm, pn⟩, g2, rfl⟩
        · rintro ⟨o1, na, nb, out, mg2, ac, bc⟩ st' ⟨⟨r, e, gr⟩ | ⟨e, pm, pn⟩, g2, rfl⟩
          · dsimp only at e ⊢
            subst e
            exact wpS_pure ⟨r, rfl, gr, g2, rfl⟩
          · dsimp only at e pm pn ⊢
            subst e
            refine wpS_bind (s_smg (wpS_pure ⟨rfl, pm, by dsimp only; omega, _, rfl⟩))
  · rintro ⟨o, na, nb, out, mg⟩ st' ⟨q0, qm, qn, g, rfl⟩
    dsimp only at q0 qm qn
    have := qm.m.size qm.a2 qm.b2
    have h1 := qm.la
    have h2 := qm.lb
    omega
  · rintro ⟨o, na, nb, out, mg⟩ st' ⟨r, e, gr, g, rfl⟩
    dsimp only at e ⊢
    subst e
    exact wpS_pure (h r g gr)
end
end L2
set_option Elab.async false
set_option linter.all false
set_option maxRecDepth 100000
set_option maxHeartbeats 2000000
namespace L2
open PySem PySem.Spec PyProof.Rows
section
variable {κ : PyProof.Rows.KeyKind} {prog : Program} {w : World} {A : Around} {E : Value → Shared → Prop} {s : Shared}
structure Fx (a X : Array Keyed) (lo hi : Nat) : Prop where
  p : X.Perm a
  f : ∀ k, (k < lo ∨ hi ≤ k) → X[k]? = a[k]?
noncomputable def Up (κ : PyProof.Rows.KeyKind) (X : Array Keyed) (lo hi : Nat) : Prop := ∀ i j, lo ≤ i → i ≤ j → j < hi → κ.kle (KK κ X i) (KK κ X j)
noncomputable def Dw (κ : PyProof.Rows.KeyKind) (X : Array Keyed) (lo hi : Nat) : Prop := ∀ i j, lo ≤ i → i ≤ j → j < hi → κ.kle (KK κ X j) (KK κ X i)
theorem Fx.rfl' {a : Array Keyed} {lo hi : Nat} : Fx a a lo hi := ⟨Array.Perm.refl _, fun _ _ => rfl⟩
theorem Fx.tr {a X Y : Array Keyed} {lo hi : Nat} (h : Fx a X lo hi) (g : Fx X Y lo hi) : Fx a Y lo hi := ⟨g.p.trans h.p, fun k hk => (g.f k hk).trans (h.f k hk)⟩
theorem Fx.sz {a X : Array Keyed} {lo hi : Nat} (h : Fx a X lo hi) : X.size = a.size := h.p.size_eq
theorem Fx.ks {a X : Array Keyed} {lo hi : Nat} (h : Fx a X lo hi) (h0 : KeysOf κ a) : KeysOf κ X := fun p hp => h0 p ((Array.perm_iff_toList_perm.mp h.p).mem_iff.mp hp)
theorem Fx.mir {a : Array Keyed} {lo hi i j : Nat} (h1 : lo ≤ i) (h2 : j ≤ hi) (h3 : j ≤ a.size) : Fx a (mirror a i j ((j - i) / 2)) lo hi :=
  ⟨mirror_perm _ _ _ _, fun k hk => by rw [getElem?_mirror_all h3, if_neg (by omega)]⟩
theorem Fx.bub {a : Array Keyed} {lo hi i d : Nat} (h1 : lo ≤ i - d) (h4 : d ≤ i) (h2 : i < hi) (h3 : i < a.size) : Fx a (bubble a i d) lo hi :=
  ⟨bubble_perm _ _ _, fun k hk => by rw [getElem?_bubble h3 d h4, if_neg (by omega), if_neg (by omega)]⟩
theorem Up.one {X : Array Keyed} {lo hi : Nat} (h : hi ≤ lo + 1) : Up κ X lo hi := fun i j h1 h2 h3 => by
  have : i = j := by omega
  subst this
  exact KeyOrd.kle_refl _
theorem Up.snoc {X : Array Keyed} {lo n : Nat} (h : Up κ X lo n) (hn : lo < n) (hl : κ.kle (KK κ X (n - 1)) (KK κ X n)) : Up κ X lo (n + 1) := fun i j h1 h2 h3 => by
  by_cases hj : j < n
  · exact h i j h1 h2 hj
  · have hj : j = n := by omega
    subst hj
    by_cases hi : i = j
    · subst hi
      exact KeyOrd.kle_refl _
    · exact KeyOrd.kle_trans (h i (j - 1) h1 (by omega) (by omega)) hl
theorem Dw.snoc {X : Array Keyed} {lo n : Nat} (h : Dw κ X lo n) (hn : lo < n) (hl : κ.kle (KK κ X n) (KK κ X (n - 1))) : Dw κ X lo (n + 1) := fun i j h1 h2 h3 => by
  by_cases hj : j < n
  · exact h i j h1 h2 hj
  · have hj : j = n := by omega
    subst hj
    by_cases hi : i = j
    · subst hi
      exact KeyOrd.kle_refl _
    · exact KeyOrd.kle_trans hl (h i (j - 1) h1 (by omega) (by omega))
theorem Dw.cg {X Y : Array Keyed} {lo n : Nat} (h : Dw κ X lo n) (e : ∀ k, KK κ Y k = KK κ X k) : Dw κ Y lo n := fun i j h1 h2 h3 => by rw [e, e]; exact h i j h1 h2 h3
theorem s_at (hO : κ.OneLt) {st : SortSt} {i j : Nat} {Q : Option Bool → SortSt → Prop} (hk : kindOf st = oneType') (h0 : KeysOf κ (arrOf st)) (hi : i < (arrOf st).size) (hj : j < (arrOf st).size)
    (h : Q (some (κ.blt (KK κ (arrOf st) i) (KK κ (arrOf st) j))) st) : wpS (model prog w) A E s (ltAt' i j) Q st := by
  have ei : (arrOf st)[i]? = some (arrOf st)[i] := Array.getElem?_eq_getElem hi
  have ej : (arrOf st)[j]? = some (arrOf st)[j] := Array.getElem?_eq_getElem hj
  have f : ∀ {k : Nat} {p : Keyed}, (arrOf st)[k]? = some p → KK κ (arrOf st) k = ky κ p := fun e => by unfold KK; rw [e]; rfl
  rw [f ei, f ej] at h
  rw [ltAt'_eq]
  refine wpS_bind (wpS_get ?_)
  exact wpS_bind (s_el ei (wpS_bind (s_el ej (s_lt hO hk (h0 _ (by simp)) (h0 _ (by simp)) h))))
theorem s_asc {st : SortSt} {X : Array Keyed} {a nrem lo : Nat} {Q : Option Nat → SortSt → Prop} {f : Nat → Option (Option Nat) × Nat → StateT SortSt Sem (ForInStep (Option (Option Nat) × Nat))} {g : Option (Option Nat) × Nat → StateT SortSt Sem (Option Nat)}
    (hf : ∀ (x n : Nat) (R : ForInStep (Option (Option Nat) × Nat) → SortSt → Prop), 1 ≤ n → n < nrem → (κ.blt (KK κ X (lo + n)) (KK κ X (lo + n - 1)) = true → R (.done (none, n)) st) → (κ.blt (KK κ X (lo + n)) (KK κ X (lo + n - 1)) = false → R (.yield (none, n + 1)) st) → wpS (model prog w) A E s (f x (none, n)) R st)
    (ha : 1 ≤ a) (han : a ≤ nrem) (hs : Up κ X lo (lo + a))
    (h : ∀ n, a ≤ n → n ≤ nrem → Up κ X lo (lo + n) → (n = nrem ∨ κ.klt (KK κ X (lo + n)) (KK κ X (lo + n - 1))) → wpS (model prog w) A E s (g (none, n)) Q st) :
    wpS (model prog w) A E s (forIn [a:nrem] (none, a) f >>= g) Q st := by
  refine wpS_bind (wpS_forRange (I := fun x z st' => st' = st ∧ z = (none, x) ∧ Up κ X lo (lo + x)) ?_ ?_ ⟨rfl, rfl, hs⟩)
  · rintro x z st' h1 h2 ⟨rfl, rfl, h3⟩
    exact hf x x _ (by omega) h2 (fun q => h x h1 (by omega) h3 (.inr q)) fun q => ⟨rfl, rfl, h3.snoc (by omega) q⟩
  · rintro z st' ⟨rfl, rfl, h3⟩
    rw [show max a nrem = nrem from by omega] at h3 ⊢
    exact h nrem han (Nat.le_refl _) h3 (.inl rfl)
end
end L2
set_option Elab.async false
set_option linter.all false
set_option maxRecDepth 100000
set_option maxHeartbeats 2000000
namespace L2
open PySem PySem.Spec PyProof.Rows
section
variable {κ : PyProof.Rows.KeyKind} {prog : Program} {w : World} {A : Around} {E : Value → Shared → Prop} {s : Shared}
theorem s_run (hO : κ.OneLt) {st : SortSt} {X0 : Array Keyed} {lo nrem : Nat} {Q : Option Nat → SortSt → Prop} (hk : kindOf st = oneType') (h0 : KeysOf κ X0) (h1 : 1 ≤ nrem) (hn : lo + nrem ≤ X0.size)
    (h : ∀ m X, Fx X0 X lo (lo + nrem) → 1 ≤ m → m ≤ nrem → Up κ X lo (lo + m) → Q (some m) (setArr st X)) : wpS (model prog w) A E s (countRun' lo nrem) Q (setArr st X0) := by
  rw [countRun'_eq]
  dsimp only
  refine s_asc (κ := κ) (X := X0) (lo := lo) (fun x n R q1 q2 r1 r2 => ?_) (Nat.le_refl 1) h1 (Up.one (Nat.le_refl _)) fun n q1 q2 q3 q4 => ?_
  · dsimp only
    refine wpS_bind (s_at hO hk h0 (by show _ < X0.size; omega) (by show _ < X0.size; omega) ?_)
    dsimp only
    cases hb : κ.blt (KK κ X0 (lo + n)) (KK κ X0 (lo + n - 1)) with
    | true => exact wpS_pure (r1 hb)
    | false => exact wpS_pure (r2 hb)
  dsimp only
  by_cases hnn : n = nrem
  · rw [if_pos (by simpa using hnn)]
    exact wpS_pure (h n X0 Fx.rfl' q1 q2 q3)
  rw [if_neg (by simpa using hnn)]
  have hlt : κ.klt (KK κ X0 (lo + n)) (KK κ X0 (lo + n - 1)) := q4.resolve_left hnn
  by_cases hgt : n > 1
  case' pos =>
    rw [if_pos hgt]
    refine wpS_bind (s_at hO hk h0 (by show _ < X0.size; omega) (by show _ < X0.size; omega) ?_)
    dsimp only
    cases hb : κ.blt (KK κ X0 lo) (KK κ X0 (lo + n - 1)) with
    | true =>
      rw [if_pos rfl]
      exact wpS_pure (h n X0 Fx.rfl' q1 q2 q3)
    | false => ?_
    rw [if_neg Bool.false_ne_true]
    refine wpS_bind (wpS_reverse ?_)
    have hal : ∀ k, lo ≤ k → k < lo + n → KK κ X0 k = KK κ X0 (lo + n - 1) := fun k k1 k2 =>
      KeyOrd.kle_antisymm (q3 k (lo + n - 1) k1 (by omega) (by omega)) (KeyOrd.kle_trans (O := κ.toKeyOrd) hb (q3 lo k (Nat.le_refl _) k1 k2))
    have me := KK_mirror_equal (κ := κ) (xs := X0) (i := lo) (j := lo + n) (by omega) hal
    have F1 : Fx X0 (mirror X0 lo (lo + n) ((lo + n - lo) / 2)) lo (lo + nrem) := Fx.mir (Nat.le_refl _) (by omega) (by omega)
    have D1 : Dw κ (mirror X0 lo (lo + n) ((lo + n - lo) / 2)) lo (lo + n + 1) := by
      refine Dw.snoc (fun i j i1 i2 i3 => ?_) (by omega) (by rw [me, me]; exact KeyOrd.kle_of_klt hlt)
      rw [me, me, hal i i1 (by omega), hal j (by omega) i3]
      exact KeyOrd.kle_refl _
    show wpS _ _ _ _ _ Q (setArr st (mirror X0 lo (lo + n) ((lo + n - lo) / 2)))
    generalize mirror X0 lo (lo + n) ((lo + n - lo) / 2) = X1 at F1 D1 ⊢
  case' neg =>
    rw [if_neg hgt]
    have F1 : Fx X0 X0 lo (lo + nrem) := Fx.rfl'
    have D1 : Dw κ X0 lo (lo + n + 1) := by
      refine Dw.snoc (fun i j i1 i2 i3 => ?_) (by omega) (KeyOrd.kle_of_klt hlt)
      have : i = j := by omega
      subst this
      exact KeyOrd.kle_refl _
    obtain ⟨X1, hX, F1, D1⟩ : ∃ X1, X0 = X1 ∧ Fx X0 X1 lo (lo + nrem) ∧ Dw κ X1 lo (lo + n + 1) := ⟨X0, rfl, F1, D1⟩
    rw [hX]
  all_goals
    refine wpS_bind (wpS_lift (wpAny_rule ⟨rfl, ?_⟩))
    refine wpS_bind (wpS_mono (wpS_forRange (I := fun x z st' => ∃ X, z.1 = none ∧ z.2.1 = x ∧ st' = setArr st X ∧ Fx X1 X lo (lo + nrem) ∧ Dw κ X lo (lo + x) ∧ z.2.2 + 1 ≤ x ∧ ∀ i, lo + x - (z.2.2 + 1) ≤ i → i < lo + x → KK κ X i = KK κ X (lo + x - 1))
      (Q := fun z st' => ∃ X, z.1 = none ∧ 1 ≤ z.2.1 ∧ z.2.1 ≤ nrem ∧ st' = setArr st X ∧ Fx X1 X lo (lo + nrem) ∧ Dw κ X lo (lo + z.2.1) ∧ z.2.2 + 1 ≤ z.2.1 ∧ ∀ i, lo + z.2.1 - (z.2.2 + 1) ≤ i → i < lo + z.2.1 → KK κ X i = KK κ X (lo + z.2.1 - 1)) ?_ ?_
      ⟨X1, rfl, rfl, rfl, Fx.rfl', D1, by dsimp only; omega, fun i i1 i2 => by dsimp only at i1; rw [show lo + (n + 1) - 1 = i from by omega]⟩) ?_)
    · rintro x ⟨o, m, neq⟩ st' x1 x2 ⟨X, rfl, rfl, rfl, hF, hD, hq, he⟩
      dsimp only at hq he x2 x1 hD ⊢
      have sz : X.size = X0.size := (F1.tr hF).sz
      have kX := (F1.tr hF).ks h0
      refine wpS_bind (s_at hO hk kX (by show _ < X.size; omega) (by show _ < X.size; omega) ?_)
      dsimp only
      cases hb : κ.blt (KK κ X (lo + m)) (KK κ X (lo + m - 1)) with
      | true =>
        rw [if_pos rfl]
        have D2 : Dw κ X lo (lo + (m + 1)) := hD.snoc (by omega) (KeyOrd.kle_of_klt hb)
        by_cases hne : neq > 0
        · rw [if_pos hne]
          have ee := KK_mirror_equal (κ := κ) (xs := X) (i := lo + m - (neq + 1)) (j := lo + m) (by omega) he
          refine wpS_bind (wpS_reverse (wpS_pure ⟨_, rfl, rfl, rfl, hF.tr (Fx.mir (by omega) (by omega) (by omega)), D2.cg ee, by dsimp only; omega, fun i i1 i2 => ?_⟩))
          dsimp only at i1
          rw [show lo + (m + 1) - 1 = i from by omega]
        · rw [if_neg hne]
          refine wpS_pure ⟨X, rfl, rfl, rfl, hF, D2, by dsimp only; omega, fun i i1 i2 => ?_⟩
          dsimp only at i1
          rw [show lo + (m + 1) - 1 = i from by omega]
      | false =>
        rw [if_neg Bool.false_ne_true]
        refine wpS_bind (s_at hO hk kX (by show _ < X.size; omega) (by show _ < X.size; omega) ?_)
        dsimp only
        cases hc : κ.blt (KK κ X (lo + m - 1)) (KK κ X (lo + m)) with
        | true =>
          rw [if_pos rfl]
          exact wpS_pure ⟨X, rfl, by dsimp only; omega, by dsimp only; omega, rfl, hF, hD, hq, he⟩
        | false =>
          rw [if_neg Bool.false_ne_true]
          have eq1 : KK κ X (lo + m) = KK κ X (lo + m - 1) := KeyOrd.kle_antisymm (O := κ.toKeyOrd) hc hb
          refine wpS_pure ⟨X, rfl, rfl, rfl, hF, hD.snoc (by omega) hc, by dsimp only; omega, fun i i1 i2 => ?_⟩
          dsimp only at i1
          rw [show lo + (m + 1) - 1 = lo + m from by omega]
          by_cases him : i = lo + m
          · rw [him]
          · rw [eq1]
            exact he i (by omega) (by omega)
    · rintro ⟨o, m, neq⟩ st' ⟨X, rfl, rfl, rfl, hF, hD, hq, he⟩
      dsimp only at hq he hD ⊢
      rw [show max (n + 1) nrem = nrem from by omega] at hD hq he ⊢
      exact ⟨X, rfl, h1, Nat.le_refl _, rfl, hF, hD, hq, he⟩
    · rintro ⟨o, m, neq⟩ st' ⟨X, rfl, m1, m2, rfl, hF, hD, hq, he⟩
      dsimp only at m1 m2 hq he hD ⊢
      have hF := F1.tr hF
      have sz : X.size = X0.size := hF.sz
      by_cases hne : neq > 0
      case' pos =>
        rw [if_pos hne]
        have ee := KK_mirror_equal (κ := κ) (xs := X) (i := lo + m - (neq + 1)) (j := lo + m) (by omega) he
        refine wpS_bind (wpS_reverse ?_)
        have hF := hF.tr (Fx.mir (i := lo + m - (neq + 1)) (j := lo + m) (lo := lo) (hi := lo + nrem) (by omega) (by omega) (by omega))
        have hD := hD.cg ee
        show wpS _ _ _ _ _ Q (setArr st (mirror X (lo + m - (neq + 1)) (lo + m) ((lo + m - (lo + m - (neq + 1))) / 2)))
        generalize mirror X (lo + m - (neq + 1)) (lo + m) ((lo + m - (lo + m - (neq + 1))) / 2) = X at hF hD ⊢
      case' neg =>
        rw [if_neg hne]
      all_goals
        have sz : X.size = X0.size := hF.sz
        refine wpS_bind (wpS_reverse ?_)
        show wpS _ _ _ _ _ Q (setArr st (mirror X lo (lo + m) ((lo + m - lo) / 2)))
        have hU : Up κ (mirror X lo (lo + m) ((lo + m - lo) / 2)) lo (lo + m) := fun i j i1 i2 i3 => by
          rw [KK_mirror (by omega), KK_mirror (by omega), if_pos ⟨i1, by omega⟩, if_pos ⟨by omega, i3⟩]
          exact hD _ _ (by omega) (by omega) (by omega)
        have hF := hF.tr (Fx.mir (i := lo) (j := lo + m) (lo := lo) (hi := lo + nrem) (Nat.le_refl _) (by omega) (by omega))
        generalize mirror X lo (lo + m) ((lo + m - lo) / 2) = Y at hF hU ⊢
        have kY := hF.ks h0
        have sY : Y.size = X0.size := hF.sz
        refine s_asc (κ := κ) (X := Y) (lo := lo) (fun x n R q1 q2 r1 r2 => ?_) m1 m2 hU fun n q1 q2 q3 q4 => wpS_pure (h n Y hF (by omega) q2 q3)
        dsimp only
        refine wpS_bind (s_at hO hk kY (by show _ < Y.size; omega) (by show _ < Y.size; omega) ?_)
        dsimp only
        cases hb : κ.blt (KK κ Y (lo + n)) (KK κ Y (lo + n - 1)) with
        | true => exact wpS_pure (r1 hb)
        | false => exact wpS_pure (r2 hb)
end
end L2
set_option Elab.async false
set_option linter.all false
set_option maxRecDepth 100000
set_option maxHeartbeats 2000000
namespace L2
open PySem PySem.Spec PyProof.Rows
section
variable {κ : PyProof.Rows.KeyKind} {prog : Program} {w : World} {A : Around} {E : Value → Shared → Prop} {s : Shared}
theorem s_ins (hO : κ.OneLt) {st : SortSt} {X0 : Array Keyed} {lo n ok : Nat} {Q : Bool → SortSt → Prop} (hk : kindOf st = oneType') (h0 : KeysOf κ X0) (hok : ok ≤ n) (hn : lo + n ≤ X0.size) (hs : Up κ X0 lo (lo + ok))
    (h : ∀ X, Fx X0 X lo (lo + n) → Up κ X lo (lo + n) → Q true (setArr st X)) : wpS (model prog w) A E s (binarySort' lo n ok) Q (setArr st X0) := by
  rw [binarySort'_eq]
  refine wpS_bind (wpS_mono (wpS_forRange (I := fun k z st' => ∃ X, z = (none, ()) ∧ st' = setArr st X ∧ Fx X0 X lo (lo + n) ∧ Up κ X lo (lo + min k n)) (Q := fun z st' => ∃ X, z = (none, ()) ∧ st' = setArr st X ∧ Fx X0 X lo (lo + n) ∧ Up κ X lo (lo + n)) ?_ ?_ ⟨X0, rfl, rfl, Fx.rfl', ?_⟩) ?_)
  · rintro k z st' k1 k2 ⟨X, rfl, rfl, hF, hU⟩
    rw [show min k n = k from by omega] at hU
    have sz : X.size = X0.size := hF.sz
    have kX := hF.ks h0
    refine wpS_bind (wpS_mono (wpS_forRange (I := fun x z st' => st' = setArr st X ∧ z.1 = none ∧ z.2.1 ≤ z.2.2 ∧ z.2.2 ≤ k ∧ z.2.2 - z.2.1 + x ≤ k ∧ (∀ i, lo ≤ i → i < lo + z.2.1 → κ.kle (KK κ X i) (KK κ X (lo + k))) ∧ ∀ i, lo + z.2.2 ≤ i → i < lo + k → κ.kle (KK κ X (lo + k)) (KK κ X i))
      (Q := fun z st' => st' = setArr st X ∧ z.1 = none ∧ z.2.1 ≤ k ∧ (∀ i, lo ≤ i → i < lo + z.2.1 → κ.kle (KK κ X i) (KK κ X (lo + k))) ∧ ∀ i, lo + z.2.1 ≤ i → i < lo + k → κ.kle (KK κ X (lo + k)) (KK κ X i)) ?_ ?_ ⟨rfl, rfl, by dsimp only; omega, by dsimp only; omega, by dsimp only; omega, fun i i1 i2 => by dsimp only at i2; omega, fun i i1 i2 => by dsimp only at i1; omega⟩) ?_)
    · rintro x ⟨o, l, r⟩ st' _ x2 ⟨rfl, rfl, g1, g2, g3, g4, g5⟩
      dsimp only at g1 g2 g3 g4 g5 ⊢
      by_cases hge : l ≥ r
      · rw [if_pos hge]
        have : l = r := by omega
        subst this
        exact wpS_pure ⟨rfl, rfl, g2, g4, g5⟩
      · rw [if_neg hge]
        refine wpS_bind (s_at hO hk kX (by show _ < X.size; omega) (by show _ < X.size; omega) ?_)
        dsimp only
        cases hb : κ.blt (KK κ X (lo + k)) (KK κ X (lo + (l + r) / 2)) with
        | true =>
          rw [if_pos rfl]
          exact wpS_pure ⟨rfl, rfl, by dsimp only; omega, by dsimp only; omega, by dsimp only; omega, g4, fun i i1 i2 => KeyOrd.kle_trans (KeyOrd.kle_of_klt hb) (hU (lo + (l + r) / 2) i (by omega) i1 i2)⟩
        | false =>
          rw [if_neg Bool.false_ne_true]
          exact wpS_pure ⟨rfl, rfl, by dsimp only; omega, by dsimp only; omega, by dsimp only; omega, fun i i1 i2 => by dsimp only at i2; exact KeyOrd.kle_trans (O := κ.toKeyOrd) (hU i (lo + (l + r) / 2) i1 (by omega) (by omega)) hb, g5⟩
    · rintro ⟨o, l, r⟩ st' ⟨rfl, rfl, g1, g2, g3, g4, g5⟩
      dsimp only at g1 g2 g3 g4 g5 ⊢
      have : l = r := by omega
      subst this
      exact ⟨rfl, rfl, g2, g4, g5⟩
    · rintro ⟨o, l, r⟩ st' ⟨rfl, rfl, g2, g4, g5⟩
      dsimp only at g2 g4 g5 ⊢
      rw [moveDown'_eq]
      have ed : lo + k - (lo + k - (lo + l)) = lo + l := by omega
      refine wpS_bind (wpS_modify (wpS_pure ⟨_, rfl, rfl, hF.tr (Fx.bub (a := X) (i := lo + k) (d := lo + k - (lo + l)) (by omega) (by omega) (by omega) (by omega)), fun i j i1 i2 i3 => ?_⟩))
      have kb := KK_bubble (κ := κ) (xs := X) (src := lo + k) (d := lo + k - (lo + l)) (by omega) (by omega)
      rw [ed] at kb
      show κ.kle (KK κ (bubble X (lo + k) (lo + k - (lo + l))) i) (KK κ (bubble X (lo + k) (lo + k - (lo + l))) j)
      rw [kb, kb]
      repeat' split
      all_goals first
        | (exfalso; omega)
        | exact KeyOrd.kle_refl _
        | exact g4 _ (by omega) (by omega)
        | exact g5 _ (by omega) (by omega)
        | exact hU _ _ (by omega) (by omega) (by omega)
  · rintro z st' ⟨X, rfl, rfl, hF, hU⟩
    rw [show min (max (max ok 1) n) n = n from by omega] at hU
    exact ⟨X, rfl, rfl, hF, hU⟩
  · by_cases h1 : ok = 0
    · exact Up.one (by omega)
    · rw [show min (max ok 1) n = ok from by omega]
      exact hs
  · rintro z st' ⟨X, rfl, rfl, hF, hU⟩
    exact wpS_pure (h X hF hU)
end
end L2
set_option Elab.async false
set_option linter.all false
set_option maxRecDepth 100000
set_option maxHeartbeats 2000000
namespace L2
open PySem PySem.Spec PyProof.Rows
section
variable {κ : PyProof.Rows.KeyKind} {prog : Program} {w : World} {A : Around} {E : Value → Shared → Prop} {s : Shared}
theorem s_set {σ : Type} {M : Model} {Q : PUnit → σ → Prop} {st st' : σ} (h : Q ⟨⟩ st') : wpS M A E s (set st' : StateT σ Sem PUnit) Q st := by
  unfold wpS
  rw [StateT.run_set]
  exact wpAny_pure ⟨rfl, h⟩
noncomputable def seg (X : Array Keyed) (lo n : Nat) : List Keyed := (X.toList.drop lo).take n
theorem seg_at {X : Array Keyed} {lo n i : Nat} (hi : i < n) : (seg X lo n)[i]? = X[lo + i]? := by
  unfold seg
  rw [List.getElem?_take_of_lt hi, List.getElem?_drop, Array.getElem?_toList]
theorem seg_len {X : Array Keyed} {lo n : Nat} (h : lo + n ≤ X.size) : (seg X lo n).length = n := by
  unfold seg
  rw [List.length_take, List.length_drop, Array.length_toList]
  omega
theorem kk_ky {X : Array Keyed} {i : Nat} {p : Keyed} (e : X[i]? = some p) : KK κ X i = ky κ p := by unfold KK; rw [e]; rfl
theorem Up.srt {X : Array Keyed} {lo n : Nat} (hU : Up κ X lo (lo + n)) (h : lo + n ≤ X.size) : Srt κ (seg X lo n) := by
  refine List.pairwise_iff_getElem.mpr fun i j hi hj hij => ?_
  rw [seg_len h] at hi hj
  have e1 : X[lo + i]? = some ((seg X lo n)[i]'(by rw [seg_len h]; exact hi)) := by rw [← seg_at hi]; exact List.getElem?_eq_getElem _
  have e2 : X[lo + j]? = some ((seg X lo n)[j]'(by rw [seg_len h]; exact hj)) := by rw [← seg_at hj]; exact List.getElem?_eq_getElem _
  have q := hU (lo + i) (lo + j) (by omega) (by omega) (by omega)
  rw [kk_ky e1, kk_ky e2] at q
  exact q
theorem Up.of {X : Array Keyed} {lo n : Nat} (hs : Srt κ (seg X lo n)) (h : lo + n ≤ X.size) : Up κ X lo (lo + n) := by
  intro i j h1 h2 h3
  by_cases hij : i = j
  · subst hij
    exact KeyOrd.kle_refl _
  obtain ⟨u, rfl⟩ : ∃ u, i = lo + u := ⟨i - lo, by omega⟩
  obtain ⟨v, rfl⟩ : ∃ v, j = lo + v := ⟨j - lo, by omega⟩
  have lu : u < (seg X lo n).length := by rw [seg_len h]; omega
  have lv : v < (seg X lo n).length := by rw [seg_len h]; omega
  have q := List.pairwise_iff_getElem.mp hs u v lu lv (by omega)
  have e1 : X[lo + u]? = some (seg X lo n)[u] := by rw [← seg_at (by omega : u < n)]; exact List.getElem?_eq_getElem _
  have e2 : X[lo + v]? = some (seg X lo n)[v] := by rw [← seg_at (by omega : v < n)]; exact List.getElem?_eq_getElem _
  rw [kk_ky e1, kk_ky e2]
  exact q
theorem Up.keep {X Y : Array Keyed} {lo hi a b : Nat} (h : Up κ X a b) (F : Fx X Y lo hi) (hd : b ≤ lo ∨ hi ≤ a) : Up κ Y a b := fun i j h1 h2 h3 => by
  rw [KK_congr (F.f i (by omega)), KK_congr (F.f j (by omega))]
  exact h i j h1 h2 h3
theorem wr_l : ∀ (l : List Keyed) (X : Array Keyed) (lo k : Nat), lo + k + l.length ≤ X.size →
    ((l.zipIdx k).foldl (fun (a : Array Keyed) (x : Keyed × Nat) => a.setIfInBounds (lo + x.2) x.1) X).toList = X.toList.take (lo + k) ++ (l ++ X.toList.drop (lo + k + l.length))
  | [], X, lo, k, _ => by simp
  | p :: l, X, lo, k, h => by
    rw [List.length_cons] at h
    rw [List.zipIdx_cons, List.foldl_cons, wr_l l _ lo (k + 1) (by rw [Array.size_setIfInBounds]; omega), Array.toList_setIfInBounds]
    dsimp only
    rw [List.take_set, List.drop_set_of_lt (by omega), ← Nat.add_assoc, List.length_cons, show lo + k + 1 + l.length = lo + k + (l.length + 1) from by omega]
    have hl : lo + k < X.toList.length := by rw [Array.length_toList]; omega
    rw [List.take_succ_eq_append_getElem hl, List.set_append_right _ _ (by rw [List.length_take]; omega), List.length_take, Nat.min_eq_left (by omega), Nat.sub_self]
    simp
theorem mrg_ok {B A1 A2 B1 B2 r : List Keyed} (sA : Srt κ (A1 ++ A2)) (sB : Srt κ (B1 ++ B2)) (h1 : ∀ x ∈ A1, ∀ y ∈ B1 ++ B2, kl κ x y) (h2 : ∀ x ∈ A2, ∀ y ∈ B2, kl κ x y) (pr : r.Perm (A2 ++ B1)) (sr : Srt κ r) : Srt κ (A1 ++ (r ++ B2)) := by
  obtain ⟨a1, a2, a3⟩ := List.pairwise_append.mp sA
  obtain ⟨b1, b2, b3⟩ := List.pairwise_append.mp sB
  refine List.pairwise_append.mpr ⟨a1, List.pairwise_append.mpr ⟨sr, b2, fun x hx y hy => ?_⟩, fun x hx y hy => ?_⟩
  · rcases List.mem_append.mp (pr.mem_iff.mp hx) with q | q
    · exact h2 x q y hy
    · exact b3 x q y hy
  · rcases List.mem_append.mp hy with q | q
    · rcases List.mem_append.mp (pr.mem_iff.mp q) with q | q
      · exact a3 x hx y q
      · exact h1 x hx y (List.mem_append_left _ q)
    · exact h1 x hx y (List.mem_append_right _ q)
noncomputable def Ch (κ : PyProof.Rows.KeyKind) (X : Array Keyed) : Nat → List (Nat × Nat × Nat) → Nat → Prop
  | a, [], b => a = b
  | a, p :: t, b => p.1 = a ∧ 1 ≤ p.2.1 ∧ Up κ X a (a + p.2.1) ∧ Ch κ X (a + p.2.1) t b
theorem Ch.len {X : Array Keyed} : ∀ {l : List (Nat × Nat × Nat)} {a b : Nat}, Ch κ X a l b → a + l.length ≤ b
  | [], a, b, h => by have h : a = b := h; subst h; exact Nat.le_refl _
  | p :: t, a, b, h => by
    have := Ch.len h.2.2.2
    have := h.2.1
    rw [List.length_cons]
    omega
theorem Ch.app {X : Array Keyed} : ∀ {l m : List (Nat × Nat × Nat)} {a c : Nat}, Ch κ X a (l ++ m) c ↔ ∃ b, Ch κ X a l b ∧ Ch κ X b m c
  | [], m, a, c => ⟨fun h => ⟨a, rfl, h⟩, fun ⟨b, h1, h2⟩ => by have h1 : a = b := h1; subst h1; exact h2⟩
  | p :: t, m, a, c => by
    refine ⟨fun h => ?_, fun ⟨b, h1, h2⟩ => ⟨h1.1, h1.2.1, h1.2.2.1, Ch.app.mpr ⟨b, h1.2.2.2, h2⟩⟩⟩
    obtain ⟨b, q1, q2⟩ := Ch.app.mp h.2.2.2
    exact ⟨b, ⟨h.1, h.2.1, h.2.2.1, q1⟩, q2⟩
theorem Ch.keep {X Y : Array Keyed} {lo hi : Nat} (F : Fx X Y lo hi) : ∀ {l : List (Nat × Nat × Nat)} {a b : Nat}, Ch κ X a l b → (b ≤ lo ∨ hi ≤ a) → Ch κ Y a l b
  | [], a, b, h, _ => h
  | p :: t, a, b, h, hd => by
    have := Ch.len h.2.2.2
    exact ⟨h.1, h.2.1, h.2.2.1.keep F (by omega), Ch.keep F h.2.2.2 (by omega)⟩
theorem Ch.mod {X : Array Keyed} (f : Nat × Nat × Nat → Nat × Nat × Nat) (hf : ∀ p, (f p).1 = p.1 ∧ (f p).2.1 = p.2.1) : ∀ {l : List (Nat × Nat × Nat)} {a b k : Nat}, Ch κ X a l b → Ch κ X a (l.modify k f) b
  | [], a, b, k, h => by simpa using h
  | p :: t, a, b, 0, h => by
    rw [List.modify_zero_cons]
    have := hf p
    unfold Ch at h ⊢
    rw [this.1, this.2]
    exact h
  | p :: t, a, b, k + 1, h => by
    rw [List.modify_succ_cons]
    exact ⟨h.1, h.2.1, h.2.2.1, Ch.mod f hf h.2.2.2⟩
end
end L2
set_option Elab.async false
set_option linter.all false
set_option maxRecDepth 100000
set_option maxHeartbeats 2000000
namespace L2
open PySem PySem.Spec PyProof.Rows
section
variable {κ : PyProof.Rows.KeyKind} {prog : Program} {w : World} {A : Around} {E : Value → Shared → Prop} {s : Shared}
theorem seg_add (X : Array Keyed) (lo m n : Nat) : seg X lo (m + n) = seg X lo m ++ seg X (lo + m) n := by
  unfold seg
  rw [List.take_add, List.drop_drop]
theorem seg_mem {X : Array Keyed} {lo n : Nat} {x : Keyed} (h : x ∈ seg X lo n) : ∃ i, i < n ∧ X[lo + i]? = some x := by
  obtain ⟨i, hi⟩ := List.mem_iff_getElem?.mp h
  have hl : i < (seg X lo n).length := (List.getElem?_eq_some_iff.mp hi).1
  have hn : i < n := by
    unfold seg at hl
    rw [List.length_take] at hl
    omega
  exact ⟨i, hn, by rw [← seg_at hn]; exact hi⟩
theorem lay_on {X W : Array Keyed} {P M N R : List Keyed} {lo hi : Nat} (eX : X.toList = P ++ (M ++ R)) (eW : W.toList = P ++ (N ++ R)) (pm : N.Perm M) (lp : P.length = lo) (ln : lo + N.length = hi) : Fx X W lo hi := by
  refine ⟨Array.perm_iff_toList_perm.mpr ?_, fun k hk => ?_⟩
  · rw [eX, eW]
    exact List.Perm.append_left P (List.Perm.append_right R pm)
  · rw [← Array.getElem?_toList, ← Array.getElem?_toList, eX, eW]
    have := pm.length_eq
    rcases hk with hk | hk
    · rw [List.getElem?_append_left (by omega), List.getElem?_append_left (by omega)]
    · rw [List.getElem?_append_right (by omega), List.getElem?_append_right (by omega), List.getElem?_append_right (by omega), List.getElem?_append_right (by omega), this]
noncomputable abbrev mk (X : Array Keyed) (p : Array (Nat × Nat × Nat)) (g : Nat) : SortSt := SortSt.mk' oneType' X p g none
theorem s_mat (hO : κ.OneLt) {X0 : Array Keyed} {p : Array (Nat × Nat × Nat)} {g i sa na pw sb nb pw2 : Nat} {Q : Bool → SortSt → Prop} (h0 : KeysOf κ X0) (e1 : p[i]? = some (sa, na, pw)) (e2 : p[i + 1]? = some (sb, nb, pw2))
    (hb : sb = sa + na) (hna : 1 ≤ na) (hnb : 1 ≤ nb) (hsz : sb + nb ≤ X0.size) (uA : Up κ X0 sa sb) (uB : Up κ X0 sb (sb + nb))
    (h : ∀ X g', Fx X0 X sa (sb + nb) → Up κ X sa (sb + nb) → Q true (mk X ((p.setIfInBounds i (sa, na + nb, pw)).eraseIdxIfInBounds (i + 1)) g')) : wpS (model prog w) A E s (mergeAt' i) Q (mk X0 p g) := by
  unfold mergeAt'
  refine wpS_bind (wpS_get ?_)
  dsimp only
  rw [e1, e2]
  dsimp only
  refine wpS_bind (s_set ?_)
  generalize (p.setIfInBounds i (sa, na + nb, pw)).eraseIdxIfInBounds (i + 1) = p2 at h ⊢
  show wpS _ _ _ _ _ Q (mk X0 p2 g)
  have kd : ∀ {i : Nat} {x : Keyed}, X0[i]? = some x → Kd κ x := fun e => h0 _ (List.mem_of_getElem? (by rw [Array.getElem?_toList]; exact e))
  have at' : ∀ {i : Nat}, i < X0.size → ∃ x, X0[i]? = some x := fun hi => ⟨_, Array.getElem?_eq_getElem hi⟩
  have uA' : Up κ X0 sa (sa + na) := by rw [← hb]; exact uA
  have sA := uA'.srt (by omega)
  have sB := uB.srt hsz
  obtain ⟨y0, ey0⟩ := at' (show sb < X0.size from by omega)
  obtain ⟨z, ez⟩ := at' (show sb - 1 < X0.size from by omega)
  have allU : (∀ x ∈ seg X0 sa na, ∀ y ∈ seg X0 sb nb, kl κ x y) → Q true (mk X0 p2 g) := fun hh => by
    refine h X0 g Fx.rfl' ?_
    have e : sb + nb = sa + (na + nb) := by omega
    rw [e]
    refine Up.of ?_ (by omega)
    rw [seg_add, ← hb]
    exact List.pairwise_append.mpr ⟨sA, sB, hh⟩
  have y0le : ∀ y ∈ seg X0 sb nb, kl κ y0 y := fun y hy => by
    obtain ⟨i, hi, e⟩ := seg_mem hy
    have := uB sb (sb + i) (Nat.le_refl _) (by omega) (by omega)
    rw [kk_ky ey0, kk_ky e] at this
    exact this
  have zge : ∀ x ∈ seg X0 sa na, kl κ x z := fun x hx => by
    obtain ⟨i, hi, e⟩ := seg_mem hx
    have := uA (sa + i) (sb - 1) (by omega) (by omega) (by omega)
    rw [kk_ky ez, kk_ky e] at this
    exact this
  obtain ⟨c, hc, hP⟩ := cnt_ex (bey κ false y0) sA (bey_down false y0)
  rw [seg_len (by omega)] at hc
  refine wpS_bind (s_el ey0 (wpS_bind (s_gal hO rfl (kd ey0) (c := c) (fun i hi => ?_) (by omega) hc ?_)))
  · obtain ⟨x, ex⟩ := at' (show sa + i < X0.size from by omega)
    exact ⟨x, ex, kd ex, hP i x (by rw [seg_at hi]; exact ex)⟩
  dsimp only
  have a1 : ∀ x ∈ seg X0 sa c, kl κ x y0 := fun x hx => by
    obtain ⟨i, hi, e⟩ := seg_mem hx
    have := hP i x (by rw [seg_at (by omega)]; exact e)
    rw [decide_eq_true hi] at this
    exact bey_le this
  have a2 : ∀ x ∈ seg X0 (sa + c) (na - c), kl κ y0 x := fun x hx => by
    obtain ⟨i, hi, e⟩ := seg_mem hx
    have := hP (c + i) x (by rw [seg_at (by omega), ← Nat.add_assoc]; exact e)
    rw [decide_eq_false (by omega)] at this
    exact kl_of_lt (bey_gt this)
  by_cases h1 : na - c = 0
  · rw [if_pos (by simpa using h1)]
    refine wpS_pure (allU fun x hx y hy => kl_trans (a1 x ?_) (y0le y hy))
    rw [show c = na from by omega]
    exact hx
  rw [if_neg (by simpa using h1)]
  rw [show sa + c + (na - c) - 1 = sb - 1 from by omega]
  obtain ⟨d, hd, hR⟩ := cnt_ex (bey κ true z) sB (bey_down true z)
  rw [seg_len (by omega)] at hd
  refine wpS_bind (s_el ez (wpS_bind (s_gal hO rfl (kd ez) (c := d) (fun i hi => ?_) (by omega) hd ?_)))
  · obtain ⟨x, ex⟩ := at' (show sb + i < X0.size from by omega)
    exact ⟨x, ex, kd ex, hR i x (by rw [seg_at hi]; exact ex)⟩
  dsimp only
  have b1 : ∀ y ∈ seg X0 sb d, kl κ y z := fun x hx => by
    obtain ⟨i, hi, e⟩ := seg_mem hx
    have := hR i x (by rw [seg_at (by omega)]; exact e)
    rw [decide_eq_true hi] at this
    exact kl_of_lt (bey_lt this)
  have b2 : ∀ y ∈ seg X0 (sb + d) (nb - d), kl κ z y := fun x hx => by
    obtain ⟨i, hi, e⟩ := seg_mem hx
    have := hR (d + i) x (by rw [seg_at (by omega), ← Nat.add_assoc]; exact e)
    rw [decide_eq_false (by omega)] at this
    exact bey_ge this
  have eA : seg X0 sa na = seg X0 sa c ++ seg X0 (sa + c) (na - c) := by rw [← seg_add, show c + (na - c) = na from by omega]
  have eB : seg X0 sb nb = seg X0 sb d ++ seg X0 (sb + d) (nb - d) := by rw [← seg_add, show d + (nb - d) = nb from by omega]
  by_cases h2 : d = 0
  · rw [if_pos (by simpa using h2)]
    refine wpS_pure (allU fun x hx y hy => kl_trans (zge x hx) (b2 y ?_))
    rw [h2]
    exact hy
  rw [if_neg (by simpa using h2)]
  have ex : (X0.extract (sa + c) sb).toList = seg X0 (sa + c) (na - c) := by rw [ext_l, show sb - (sa + c) = na - c from by omega]; rfl
  have ey : (X0.extract sb (sb + d)).toList = seg X0 sb d := by rw [ext_l, show sb + d - sb = d from by omega]; rfl
  have sx : (X0.extract (sa + c) sb).size = na - c := by rw [← Array.length_toList, ex, seg_len (by omega)]
  have sy : (X0.extract sb (sb + d)).size = d := by rw [← Array.length_toList, ey, seg_len (by omega)]
  rw [eA] at sA
  rw [eB] at sB
  obtain ⟨_, sA2, _⟩ := List.pairwise_append.mp sA
  obtain ⟨sB1, _, _⟩ := List.pairwise_append.mp sB
  have M : Me κ (X0.extract (sa + c) sb) (X0.extract sb (sb + d)) := by
    refine ⟨fun q hq => ?_, fun q hq => ?_, fun y hy x hx => ?_⟩
    · rw [ex] at hq
      obtain ⟨i, _, e⟩ := seg_mem hq
      exact kd e
    · rw [ey] at hq
      obtain ⟨i, _, e⟩ := seg_mem hq
      exact kd e
    · rw [ey] at hy
      rw [ex, sx, seg_at (by omega), show sa + c + (na - c - 1) = sb - 1 from by omega, ez] at hx
      cases hx
      exact b1 y hy
  have hh : ∀ y, (X0.extract sb (sb + d))[0]? = some y → ∀ x ∈ (X0.extract (sa + c) sb).toList, kl κ y x := fun y hy x hx => by
    rw [← Array.getElem?_toList, ey, seg_at (by omega), Nat.add_zero, ey0] at hy
    cases hy
    rw [ex] at hx
    exact a2 x hx
  have fin : ∀ (r : Array Keyed) (g' : Nat), Gm κ (X0.extract (sa + c) sb) (X0.extract sb (sb + d)) r → Q true (mk (r.toList.zipIdx.foldl (fun (a : Array Keyed) (x : Keyed × Nat) => a.setIfInBounds (sa + c + x.2) x.1) X0) p2 g') := by
    rintro r g' ⟨pr, sr⟩
    rw [ex, ey] at pr
    have lr : r.toList.length = na - c + d := by rw [pr.length_eq, List.length_append, seg_len (by omega), seg_len (by omega)]
    have eW := wr_l r.toList X0 (sa + c) 0 (by rw [lr]; omega)
    generalize r.toList.zipIdx.foldl (fun (a : Array Keyed) (x : Keyed × Nat) => a.setIfInBounds (sa + c + x.2) x.1) X0 = W at eW ⊢
    rw [Nat.add_zero, lr, show sa + c + (na - c + d) = sb + d from by omega, List.take_add] at eW
    have eR : X0.toList.drop (sb + d) = seg X0 (sb + d) (nb - d) ++ X0.toList.drop (sb + nb) := by
      rw [drop_k X0.toList (sb + d) (nb - d), show sb + d + (nb - d) = sb + nb from by omega]
      rfl
    have eW2 : W.toList = X0.toList.take sa ++ ((seg X0 sa c ++ (r.toList ++ seg X0 (sb + d) (nb - d))) ++ X0.toList.drop (sb + nb)) := by
      rw [eW, eR]
      simp only [seg, List.append_assoc]
    have eX : X0.toList = X0.toList.take sa ++ ((seg X0 sa c ++ ((seg X0 (sa + c) (na - c) ++ seg X0 sb d) ++ seg X0 (sb + d) (nb - d))) ++ X0.toList.drop (sb + nb)) := by
      have q1 : seg X0 sa c ++ ((seg X0 (sa + c) (na - c) ++ seg X0 sb d) ++ seg X0 (sb + d) (nb - d)) = seg X0 sa (na + nb) := by
        rw [seg_add, eA, ← hb, eB]
        simp only [List.append_assoc]
      rw [q1]
      unfold seg
      rw [show sb + nb = sa + (na + nb) from by omega, ← List.drop_drop, List.take_append_drop, List.take_append_drop]
    have lP : (X0.toList.take sa).length = sa := by rw [List.length_take, Array.length_toList]; omega
    have lN : (seg X0 sa c ++ (r.toList ++ seg X0 (sb + d) (nb - d))).length = na + nb := by
      rw [List.length_append, List.length_append, seg_len (by omega), seg_len (by omega), lr]
      omega
    have hF : Fx X0 W sa (sb + nb) := lay_on eX eW2 (List.Perm.append_left _ (List.Perm.append_right _ pr)) lP (by rw [lN]; omega)
    refine h W g' hF ?_
    rw [show sb + nb = sa + (na + nb) from by omega]
    refine Up.of ?_ (by rw [hF.sz]; omega)
    have eS : seg W sa (na + nb) = seg X0 sa c ++ (r.toList ++ seg X0 (sb + d) (nb - d)) := by
      show (W.toList.drop sa).take (na + nb) = _
      rw [eW2, List.drop_left' lP, List.take_left' lN]
    rw [eS]
    refine mrg_ok (B := []) sA sB (fun x hx y hy => kl_trans (a1 x hx) (y0le y (by rw [eB]; exact hy))) (fun x hx y hy => kl_trans (zge x (by rw [eA]; exact List.mem_append_right _ hx)) (b2 y hy)) pr sr
  by_cases h3 : na - c ≤ d
  · rw [if_pos h3]
    refine wpS_bind (s_mlo hO rfl M (by rw [ex]; exact sA2) (by rw [ey]; exact sB1) (by omega) (by omega) hh fun r g' hr => ?_)
    refine wpS_bind (wpS_modify (wpS_bind (wpS_get (wpS_pure ?_))))
    exact fin r g' hr
  · rw [if_neg h3]
    refine wpS_bind (s_mhi hO rfl M (by rw [ex]; exact sA2) (by rw [ey]; exact sB1) (by omega) (by omega) hh fun r g' hr => ?_)
    refine wpS_bind (wpS_modify (wpS_bind (wpS_get (wpS_pure ?_))))
    exact fin r g' hr
end
end L2
set_option Elab.async false
set_option linter.all false
set_option maxRecDepth 100000
set_option maxHeartbeats 2000000
namespace L2
open PySem PySem.Spec PyProof.Rows
section
variable {κ : PyProof.Rows.KeyKind} {prog : Program} {w : World} {A : Around} {E : Value → Shared → Prop} {s : Shared}
theorem Fx.wide {X Y : Array Keyed} {a b c d : Nat} (h : Fx X Y a b) (h1 : c ≤ a) (h2 : b ≤ d) : Fx X Y c d := ⟨h.p, fun k hk => h.f k (by omega)⟩
theorem s_matC (hO : κ.OneLt) {X0 : Array Keyed} {p : Array (Nat × Nat × Nat)} {g i lo : Nat} {Q : Bool → SortSt → Prop} (h0 : KeysOf κ X0) (hc : Ch κ X0 0 p.toList lo) (hlo : lo ≤ X0.size) (hi : i + 1 < p.size)
    (h : ∀ X p' g', Fx X0 X 0 lo → Ch κ X 0 p'.toList lo → p'.size + 1 = p.size → Q true (mk X p' g')) : wpS (model prog w) A E s (mergeAt' i) Q (mk X0 p g) := by
  have hl : i + 1 < p.toList.length := by rw [Array.length_toList]; exact hi
  obtain ⟨l1, u, v, l2, e, hl1⟩ : ∃ l1 u v l2, p.toList = l1 ++ u :: v :: l2 ∧ l1.length = i := by
    refine ⟨p.toList.take i, p.toList[i], p.toList[i + 1], p.toList.drop (i + 2), ?_, by rw [List.length_take]; omega⟩
    rw [← List.drop_eq_getElem_cons hl, ← List.drop_eq_getElem_cons (by omega), List.take_append_drop]
  obtain ⟨sa, na, pw⟩ := u
  obtain ⟨sb, nb, pw2⟩ := v
  have e1 : p[i]? = some (sa, na, pw) := by rw [← Array.getElem?_toList, e, ← hl1]; simp
  have e2 : p[i + 1]? = some (sb, nb, pw2) := by rw [← Array.getElem?_toList, e, ← hl1]; simp
  rw [e] at hc
  obtain ⟨b, c1, c2⟩ := Ch.app.mp hc
  obtain ⟨f1, f2, f3, f4, f5, f6, f7⟩ := c2
  dsimp only at f1 f2 f3 f4 f5 f6 f7
  subst f1
  have := f7.len
  have := c1.len
  refine s_mat hO h0 e1 e2 f4 f2 f5 (by omega) (by rw [f4]; exact f3) (by rw [f4]; exact f6) fun X g' hF hU => ?_
  have e3 : ((p.setIfInBounds i (sa, na + nb, pw)).eraseIdxIfInBounds (i + 1)).toList = l1 ++ (sa, na + nb, pw) :: l2 := by
    rw [Array.toList_eraseIdxIfInBounds, Array.toList_setIfInBounds, e, ← hl1]
    simp [List.eraseIdx_append_of_length_le]
  refine h X _ g' (hF.wide (Nat.zero_le _) (by omega)) ?_ ?_
  · rw [e3]
    refine Ch.app.mpr ⟨sa, c1.keep hF (.inl (Nat.le_refl _)), rfl, by dsimp only; omega, ?_, ?_⟩
    · dsimp only
      rw [show sa + (na + nb) = sb + nb from by omega]
      exact hU
    · dsimp only
      rw [show sa + (na + nb) = sa + na + nb from by omega]
      exact f7.keep hF (.inr (by omega))
  · rw [← Array.length_toList, e3, ← Array.length_toList, e]
    simp only [List.length_append, List.length_cons]
    omega
theorem s_sort (hO : κ.OneLt) {a : Array Keyed} {Q : Unit → SortSt → Prop} (h0 : KeysOf κ a)
    (h : ∀ X p g, X.Perm a → SortedToK κ X a.size → Q () (mk X p g)) : wpS (model prog w) A E s sortRuns' Q (mk a #[] 7) := by
  rw [sortRuns'_eq]
  refine wpS_bind (wpS_get ?_)
  dsimp only
  have hsz : (arrOf (mk a #[] 7)).size = a.size := rfl
  simp only [hsz]
  generalize minRun' a.size a.size 0 = mr
  refine wpS_bind (wpS_mono (wpS_forRange (I := fun x z st' => ∃ X p g, st' = mk X p g ∧ z.1 = none ∧ X.Perm a ∧ Ch κ X 0 p.toList z.2 ∧ z.2 ≤ a.size ∧ x ≤ z.2)
    (Q := fun z st' => ∃ X p g, st' = mk X p g ∧ z.1 = none ∧ X.Perm a ∧ Ch κ X 0 p.toList a.size) ?_ ?_ ⟨a, #[], 7, rfl, rfl, Array.Perm.refl _, by exact (rfl : (0 : Nat) = 0), Nat.zero_le _, Nat.zero_le _⟩) ?_)
  · rintro x ⟨o, lo⟩ st' _ hx ⟨X, p, g, rfl, rfl, hp, hC, hlo, hxl⟩
    dsimp only at hC hlo hxl ⊢
    by_cases hge : lo ≥ a.size
    · rw [if_pos hge]
      have : lo = a.size := by omega
      subst this
      exact wpS_pure ⟨X, p, g, rfl, rfl, hp, hC⟩
    rw [if_neg hge]
    have sX : X.size = a.size := hp.size_eq
    have ks : ∀ {Y : Array Keyed}, Y.Perm a → KeysOf κ Y := fun hY q hq => h0 q ((Array.perm_iff_toList_perm.mp hY).mem_iff.mp hq)
    refine wpS_bind (s_run (st := mk X p g) hO rfl (ks hp) (by omega) (by omega) fun m X1 hF hm1 hm2 hU => ?_)
    dsimp only
    have hC1 := hC.keep hF (.inl (Nat.le_refl _))
    have hp1 := hF.p.trans hp
    have sX1 : X1.size = a.size := hp1.size_eq
    show wpS _ _ _ _ _ _ (mk X1 p g)
    by_cases hlt : m < mr
    case' pos =>
      rw [if_pos hlt]
      refine wpS_bind (wpS_lift (wpAny_rule ⟨rfl, ?_⟩))
      refine wpS_bind (s_ins (st := mk X1 p g) (X0 := X1) hO rfl (ks hp1) (by omega) (by omega) hU fun X2 hF2 hU2 => ?_)
      have hC1 := hC1.keep hF2 (.inl (Nat.le_refl _))
      have hp1 := hF2.p.trans hp1
      have n1 : 1 ≤ min (a.size - lo) mr := by omega
      have n2 : lo + min (a.size - lo) mr ≤ a.size := by omega
      rw [if_neg (by simp)]
      show wpS _ _ _ _ _ _ (mk X2 p g)
      generalize min (a.size - lo) mr = n at n1 n2 hU2 ⊢
      have hU := hU2
    case' neg =>
      rw [if_neg hlt]
      have n1 : 1 ≤ m := hm1
      have n2 : lo + m ≤ a.size := by omega
      obtain ⟨n, rfl⟩ : ∃ n, n = m := ⟨m, rfl⟩
      obtain ⟨X2, rfl⟩ : ∃ X2, X2 = X1 := ⟨X1, rfl⟩
    all_goals
      have pushed : ∀ (X : Array Keyed) (p : Array (Nat × Nat × Nat)) (g : Nat), X.Perm a → Ch κ X 0 p.toList lo → Up κ X lo (lo + n) → ∃ X' p' g', mk X (p.push (lo, n, 0)) g = mk X' p' g' ∧ X'.Perm a ∧ Ch κ X' 0 p'.toList (lo + n) := fun X p g q1 q2 q3 => by
        refine ⟨X, p.push (lo, n, 0), g, rfl, q1, ?_⟩
        rw [Array.toList_push]
        exact Ch.app.mpr ⟨lo, q2, rfl, n1, q3, rfl⟩
      refine wpS_bind (wpS_get ?_)
      show wpS _ _ _ _ (match p.back? with | some (s1, n1, snd) => _ | x => _) _ _
      cases hbk : p.back? with
      | none =>
        refine wpS_bind (wpS_modify (wpS_pure ?_))
        obtain ⟨X', p', g', e, r1, r2⟩ := pushed X2 p g hp1 hC1 hU
        exact ⟨X', p', g', e, rfl, r1, r2, by dsimp only; omega, by dsimp only; omega⟩
      | some t =>
        obtain ⟨s1, l1, t3⟩ := t
        dsimp only
        generalize power' a.size (2 * s1 + l1) (2 * s1 + l1 + l1 + n) a.size = pw
        refine wpS_bind (wpS_mono (wpS_forRange (I := fun x z st' => ∃ X p g, st' = mk X p g ∧ z = (none, ()) ∧ X.Perm a ∧ Ch κ X 0 p.toList lo ∧ Up κ X lo (lo + n))
          (Q := fun z st' => ∃ X p g, st' = mk X p g ∧ z = (none, ()) ∧ X.Perm a ∧ Ch κ X 0 p.toList lo ∧ Up κ X lo (lo + n)) ?_ (fun _ _ q => q) ⟨X2, p, g, rfl, rfl, hp1, hC1, hU⟩) ?_)
        · rintro y z st' _ _ ⟨X, p, g, rfl, rfl, q1, q2, q3⟩
          refine wpS_bind (wpS_get ?_)
          show wpS _ _ _ _ (match (if p.size > 1 then p[p.size - 2]? else none) with | some (_, _, older) => _ | x => _) _ _
          have sz : X.size = a.size := q1.size_eq
          by_cases hp1 : p.size > 1
          · rw [if_pos hp1]
            obtain ⟨⟨u1, u2, u3⟩, hu⟩ : ∃ u, p[p.size - 2]? = some u := ⟨_, Array.getElem?_eq_getElem (by omega)⟩
            rw [hu]
            dsimp only
            by_cases hle : u3 ≤ pw
            · rw [if_pos hle]
              exact wpS_pure ⟨X, p, g, rfl, rfl, q1, q2, q3⟩
            · rw [if_neg hle]
              refine wpS_bind (s_matC hO (ks q1) q2 (by omega) (by show p.size - 2 + 1 < p.size; omega) fun X' p' g' r1 r2 r3 => ?_)
              rw [if_neg (by simp)]
              exact wpS_pure ⟨X', p', g', rfl, rfl, r1.p.trans q1, r2, q3.keep r1 (.inr (Nat.le_refl _))⟩
          · rw [if_neg hp1]
            exact wpS_pure ⟨X, p, g, rfl, rfl, q1, q2, q3⟩
        · rintro z st' ⟨X, p, g, rfl, rfl, q1, q2, q3⟩
          dsimp only
          refine wpS_bind (wpS_modify (wpS_bind (wpS_modify (wpS_pure ?_))))
          have hM : Ch κ X 0 (p.modify (p.size - 1) fun x => (x.1, x.2.1, pw)).toList lo := by
            rw [Array.toList_modify]
            exact Ch.mod (fun x => (x.1, x.2.1, pw)) (fun _ => ⟨rfl, rfl⟩) q2
          obtain ⟨X', p', g', e, r1, r2⟩ := pushed X _ g q1 hM q3
          exact ⟨X', p', g', e, rfl, r1, r2, by dsimp only; omega, by dsimp only; omega⟩
  · rintro ⟨o, lo⟩ st' ⟨X, p, g, rfl, rfl, hp, hC, hlo, hxl⟩
    dsimp only at hC hlo hxl ⊢
    have : lo = a.size := by omega
    subst this
    exact ⟨X, p, g, rfl, rfl, hp, hC⟩
  · rintro ⟨o, lo⟩ st' ⟨X, p, g, rfl, rfl, hp, hC⟩
    dsimp only
    have hl := hC.len
    rw [Array.length_toList] at hl
    refine wpS_bind (wpS_mono (wpS_forRange (I := fun x z st' => ∃ X p g, st' = mk X p g ∧ z = (none, ()) ∧ X.Perm a ∧ Ch κ X 0 p.toList a.size ∧ (p.size ≤ 1 ∨ p.size + x ≤ a.size))
      (Q := fun z st' => ∃ X p g, st' = mk X p g ∧ z = (none, ()) ∧ X.Perm a ∧ Ch κ X 0 p.toList a.size ∧ p.size ≤ 1) ?_ ?_ ⟨X, p, g, rfl, rfl, hp, hC, .inr (by omega)⟩) ?_)
    · rintro y z st' _ hy ⟨X, p, g, rfl, rfl, q1, q2, q3⟩
      refine wpS_bind (wpS_get ?_)
      show wpS _ _ _ _ (if p.size ≤ 1 then _ else _) _ _
      have sz : X.size = a.size := q1.size_eq
      by_cases hle : p.size ≤ 1
      · rw [if_pos hle]
        exact wpS_pure ⟨X, p, g, rfl, rfl, q1, q2, hle⟩
      · rw [if_neg hle]
        refine wpS_bind (s_matC hO (fun q hq => h0 q ((Array.perm_iff_toList_perm.mp q1).mem_iff.mp hq)) q2 (by omega) (by
          have key : ∀ (b : Prop) [Decidable b], (if b then p.size - 2 - 1 else p.size - 2) + 1 < p.size := fun b _ => by split <;> omega
          exact key _) fun X' p' g' r1 r2 r3 => ?_)
        rw [if_neg (by simp)]
        exact wpS_pure ⟨X', p', g', rfl, rfl, r1.p.trans q1, r2, .inr (by omega)⟩
    · rintro z st' ⟨X, p, g, rfl, rfl, q1, q2, q3⟩
      exact ⟨X, p, g, rfl, rfl, q1, q2, by omega⟩
    · rintro z st' ⟨X, p, g, rfl, rfl, q1, q2, q3⟩
      refine wpS_pure (h X p g q1 ?_)
      rw [← Array.length_toList] at q3
      intro i j hij hj
      match hh : p.toList, q2, q3 with
      | [], q2, _ =>
        have q2 : 0 = a.size := q2
        omega
      | [u], q2, _ =>
        obtain ⟨_, _, q, e⟩ := q2
        have e : 0 + u.2.1 = a.size := e
        rw [e] at q
        exact q i j (Nat.zero_le _) hij hj
      | _ :: _ :: _, _, q3 =>
        simp at q3
end
end L2
set_option Elab.async false
set_option linter.all false
set_option maxRecDepth 100000
set_option maxHeartbeats 2000000
namespace L2
open PySem PySem.Spec PyProof.Rows
section
variable {κ : PyProof.Rows.KeyKind} {prog : Program} {w : World} {A : Around} {E : Value → Shared → Prop} {s : Shared}
theorem sort_any (hO : κ.OneLt) {a : Addr} {vs : List Value} {n : Nat} {P : Fin → Shared → Prop} (ho : s.heap.get? a = some (seqObj "list" vs.toArray n)) (h0 : KeysOf κ (pairsOf vs))
    (hkk : ∀ v₁ v₂ rest, vs = v₁ :: v₂ :: rest → keyKind' (v₁ :: v₂ :: rest).toArray = pure oneType') (hle : vs.length < 4000)
    (h : ∀ X : Array Keyed, X.Perm (pairsOf vs) → SortedToK κ X (pairsOf vs).size → P (.done (.ret .none)) { s with heap := sortedHeap s.heap a vs (X.map (·.2)) }) :
    wpAny (model prog w) A (Builtin.«list.sort» ⟨[.ref a], []⟩) P E s := by
  by_cases h64 : vs.length < 64
  · exact list_sort_treeK hO ho h0 hkk h64 fun st' p q => h _ p q
  have lz : vs.toArray.size = vs.length := by simp
  have ln : ¬ vs.toArray.size < 2 := by omega
  rw [list_sort_plain]
  have la := Heap.lt_size ho
  refine wpAny_bind (listItems_at ho rfl (wpAny_bind (listUpdate_at ho rfl ?_ (by rw [lz, sizeLine_eq]; omega) (Nat.zero_le _))))
  obtain ⟨ep, g1⟩ : ∃ ep, (s.heap.update a (Obj.mapSeq fun _ => #[])).get? a = some (seqObj "list" #[] ep) := ⟨_, get?_update_seq ho fun _ => #[]⟩
  refine wpAny_bind (seqEpoch_at g1 rfl (wpAny_bind (wpAny_newTuple (wpAny_bind (wpAny_newList (wpAny_holding ?_))) (by rw [sizeLine_eq]; show vs.length ≤ _; omega))))
  have g3 : (((s.heap.update a (Obj.mapSeq fun _ => #[])).push (seqObj "tuple" vs.toArray 0)).push (seqObj "list" #[] 0)).get? a = some (seqObj "list" #[] ep) :=
    Heap.get?_push_of_some _ (Heap.get?_push_of_some _ g1)
  show wpAny (model prog w) A _ P E { s with heap := ((s.heap.update a (Obj.mapSeq fun _ => #[])).push (seqObj "tuple" vs.toArray 0)).push (seqObj "list" #[] 0) }
  dsimp only
  rw [if_neg ln, if_neg ln]
  obtain ⟨v₁, v₂, rest, e⟩ : ∃ v₁ v₂ rest, vs = v₁ :: v₂ :: rest := by
    match vs, h64 with
    | [], h64 => exact absurd (by simp) h64
    | [_], h64 => exact absurd (by simp) h64
    | v₁ :: v₂ :: rest, _ => exact ⟨v₁, v₂, rest, rfl⟩
  have hk2 : keyKind' vs.toArray = pure oneType' := by rw [e]; exact hkk _ _ _ e
  rw [hk2]
  refine wpAny_bind (wpAny_pure (wpAny_bind (wpAny_mono (s_sort (κ := κ) hO (a := pairsOf vs) (Q := fun _ st' => (arrOf st').Perm (pairsOf vs) ∧ failedOf st' = none ∧ SortedToK κ (arrOf st') (pairsOf vs).size) h0 fun X p g p1 p2 => ⟨p1, rfl, p2⟩) ?_ fun _ _ q => q)))
  rintro ⟨⟨⟩, st'⟩ s' ⟨rfl, hp, hf, hs⟩
  dsimp only
  have l2 : ((arrOf st').map (·.2)).size = vs.length := (Array.size_map ..).trans (hp.size_eq.trans (pairsOf_size _))
  refine wpAny_bind (seqEpoch_at g3 rfl (wpAny_bind (listUpdate_at g3 rfl ?_ (Nat.zero_le _) (by rw [l2, sizeLine_eq]; omega))))
  rw [hf]
  simp only [bne_self_eq_false, Bool.false_eq_true, if_false]
  exact wpAny_pure (h _ hp hs)
theorem sorted_any (hO : κ.OneLt) {l : Addr} {vs : List Value} {Q : Value → Shared → Prop} (hl : s.heap.IsList l vs.toArray) (h0 : KeysOf κ (pairsOf vs)) (hkk : ∀ v₁ v₂ rest, vs = v₁ :: v₂ :: rest → keyKind' (v₁ :: v₂ :: rest).toArray = pure oneType') (hle : vs.length < 4000)
    (h : ∀ X : Array Keyed, X.Perm (pairsOf vs) → SortedToK κ X (pairsOf vs).size → Q (.ref (s.heap.objs.size + 1)) { s with heap := sortedAll s.heap vs (X.map (·.2)) }) :
    wpAny (model prog w) A (call (.builtin "sorted") [.ref l]) Q E s := by
  have lz : vs.length ≤ sizeLine := by rw [sizeLine_eq]; omega
  refine Calls.call_function_entry kind_sorted plain_sorted entry_sorted (args_sorted1 _) ?_
  unfold Builtin.«sorted»
  refine wpAny_bind (m := checkCount "sorted" 1 1 _) (wpAny_pure (wpAny_bind (collect_list hl (wpAny_bind (wpAny_newList ?_ lz)) lz)))
  have ez : ((s.heap.push (seqObj "list" #[] 0)).update s.heap.objs.size (Obj.mapSeq (· ++ vs.toArray))).objs.size = s.heap.objs.size + 1 := by
    rw [Heap.size_update, size_push']
  have gL : (((s.heap.push (seqObj "list" #[] 0)).update s.heap.objs.size (Obj.mapSeq (· ++ vs.toArray))).push (seqObj "list" vs.toArray 0)).get? (s.heap.objs.size + 1) = some (seqObj "list" vs.toArray 0) := by
    rw [← ez]
    exact Heap.get?_push_size _ rfl
  show wpAny _ _ _ _ _ { s with heap := ((s.heap.push (seqObj "list" #[] 0)).update s.heap.objs.size (Obj.mapSeq (· ++ vs.toArray))).push (seqObj "list" vs.toArray 0) }
  rw [ez]
  refine wpAny_bind (wpAny_holding (wpAny_call_entry slot_list_sort ⟨_, gL, rfl⟩ entry_list_sort (sort_any hO gL h0 hkk hle fun X p q => ⟨_, rfl, ?_⟩) (args_list_sort _)))
  exact wpAny_pure ⟨_, rfl, h X p q⟩
theorem sorted_strsB {l : Addr} {vs : List Value} {ss : List Str} {Q : Value → Shared → Prop} (hl : s.heap.IsList l vs.toArray) (hS : StrsAre vs ss) (hle : vs.length < 4000)
    (h : ∀ (out : Array Value) (ss' : List Str), StrsAre out.toList ss' → ss'.Perm ss → sortedS ss' = true → Q (.ref (s.heap.objs.size + 1)) { s with heap := sortedAll s.heap vs out }) :
    wpAny (model prog w) A (call (.builtin "sorted") [.ref l]) Q E s := by
  refine sorted_any strKind_oneLt hl hS.keysOf (fun v₁ v₂ rest e => keyKind_strs (by rw [← e]; exact hS)) hle fun X p q => ?_
  obtain ⟨ss', h1, h2, h3⟩ := sorted_out_str hS p q
  exact h _ ss' h1 h2 h3
@[reducible] noncomputable def zKind : PyProof.Rows.KeyKind where
  α := Int
  blt a b := decide (a < b)
  irrefl a := by simp
  trans a b c h g := by simp only [decide_eq_true_eq] at h g ⊢; omega
  negTrans a b c h := by simp only [decide_eq_true_eq] at h ⊢; omega
  total a b h g := by simp only [decide_eq_false_iff_not] at h g; omega
  keyOf | .int n _ => some n | _ => none
  dflt := 0
theorem zKind_lt : zKind.OneLt := by
  intro prog w A E s x y a b Q hx hy h
  match x, hx with
  | .int n t, hx =>
    cases hx
    match y, hy with
    | .int m u, hy =>
      cases hy
      exact oneLt_int h
theorem zKind_KK (xs : Array Keyed) (i : Nat) : KK zKind xs i = K xs i := by
  unfold KK K
  cases xs[i]? with
  | none => rfl
  | some p =>
    dsimp only
    cases p.1 <;> rfl
theorem zKind_keys {vs : List Value} {ns : List Int} (hI : IntsAre vs ns) : KeysOf zKind (pairsOf vs) := fun p hp => by
  obtain ⟨n, t, e⟩ := hI.intKeys p hp
  exact ⟨n, by rw [e]⟩
theorem sort_ints {a : Addr} {vs : List Value} {ns : List Int} {n : Nat} {P : Fin → Shared → Prop} (ho : s.heap.get? a = some (seqObj "list" vs.toArray n)) (hI : IntsAre vs ns) (hle : vs.length < 4000)
    (h : ∀ (out : Array Value) (ns' : List Int), IntsAre out.toList ns' → ns'.Perm ns → ns'.Pairwise (· ≤ ·) → P (.done (.ret .none)) { s with heap := sortedHeap s.heap a vs out }) :
    wpAny (model prog w) A (Builtin.«list.sort» ⟨[.ref a], []⟩) P E s := by
  refine sort_any zKind_lt ho (zKind_keys hI) (fun v₁ v₂ rest e => keyKind_ints (by rw [← e]; exact hI)) hle fun X p q => ?_
  obtain ⟨ns', h1, h2, h3⟩ := sorted_out hI p fun i j hij hj => by
    have := q i j hij hj
    rw [zKind_KK, zKind_KK] at this
    have this : decide (K X j < K X i) = false := this
    rw [decide_eq_false_iff_not] at this
    omega
  exact h _ ns' h1 h2 h3
end
end L2
set_option Elab.async false
set_option linter.all false
set_option maxRecDepth 100000
set_option maxHeartbeats 4000000
namespace L2
open PySem PySem.Spec PyProof.Rows
noncomputable def sortOB (ys : List Str) : Option (List Str) := if ys.length < 4000 then some (sortS ys) else none
noncomputable def rSortSB (K : PySem.W.Frag) : List V → Hp → VK → Prop := fun vs H Q => ∃ (l : Addr) (ys : List Str), vs = [.ref l] ∧ SqL K H l (ys.map V.str) ∧ ys.length < 4000 ∧ ∀ p, H p = none → Q (.ref p) (upd H p (.lst ((sortS ys).map V.str)))
theorem call_sortedSB {X : Cx} {K : PySem.W.Frag} (h : X.K = K) : CallR X (.builtin "sorted") (rSortSB K) := by
  subst h
  intro pins s σ H vs us Q I r h
  obtain ⟨l, ys, rfl, hl, hle, q⟩ := h
  obtain ⟨u, rfl, ru⟩ := vals1 r
  cases ru
  obtain ⟨its, rv, pl, _⟩ := I.list hl
  have hlen := rv.length
  rw [List.length_map] at hlen
  refine sorted_strsB pl.isList (strsAre_of rv) (by omega) fun out ss' a1 a2 a3 => ?_
  have e := sortS_of a2 a3
  subst e
  obtain ⟨n, he⟩ := sortedAll_at s.heap its out
  refine ⟨.ref (s.heap.objs.size + 1), _, I.laid (a := s.heap.objs.size + 1) (t' := s.toks) (o := .lst ((sortS ys).map V.str)) (fun b ob q => sortedAll_old q) (Nat.le_succ _) ?_, rfl, q _ (I.hok.fresh (Nat.le_succ _))⟩
  refine ⟨?_, out.toList, n, vals_strs a1, he⟩
  rw [List.length_map, (sortS_perm ys).length_eq, sizeLine_eq]
  omega
section
variable {K : PySem.W.Frag} {σ : St} {G : Hp} {ta : TE}
theorem fv_sortSB {la : Option (List Str)} (ea : EV K ta σ G la) : FV K (tCB (rSortSB K) (tCons ta tNil)) σ G (la.bind fun ys => sortOB ys) := by
  intro G1 s1 c hc H sH Q k
  obtain ⟨a, ha, hc⟩ := Option.bind_eq_some_iff.mp hc
  obtain ⟨hle, rfl⟩ := ite_some hc
  refine ea G1 s1 a ha H sH _ fun v G2 H2 x2 r2 => ?_
  obtain ⟨l, xs, rfl, h, z, p⟩ := r2
  have e := paired_strsR p
  subst e
  refine ⟨l, a, rfl, .inl (x2.gh.rd h), hle, ?_⟩
  refine fv_of x2.gh ?_ ?_ (FV.mono x2 k)
  · rw [List.length_map, (sortS_perm a).length_eq, sizeLine_eq]
    omega
  · have hl : ∀ y ∈ a, y.length ≤ sizeLine := fun y hy => by
      have := paired_len p y hy
      exact this
    have : ∀ zs : List Str, (∀ y ∈ zs, y.length ≤ sizeLine) → Paired (Rp.rel K G2) (zs.map V.str) zs := fun zs => by
      induction zs with
      | nil => intro _; exact .nil
      | cons y zs ih => intro h; exact .cons ⟨rfl, h y List.mem_cons_self⟩ (ih fun w hw => h w (List.mem_cons_of_mem _ hw))
    exact this _ fun y hy => hl y ((sortS_perm a).mem_iff.mp hy)
end
end L2
set_option Elab.async false
set_option linter.all false
set_option maxRecDepth 100000
set_option maxHeartbeats 4000000
namespace L2
open PySem PySem.Spec PyProof.Rows
section
variable {prog : Program} {w : World} {A : Around} {E : Value → Shared → Prop} {s : Shared} {a : Addr}
theorem sorted_setIB {ns : List Int} {Q : Value → Shared → Prop} (hh : A.handled = none) (sa : SetP w s.heap a (ns.map Sum.inl)) (hle : ns.length < 4000)
    (h : ∀ (s' : Shared) (D n : Nat) (out : Array Value) (ns' : List Int), (∀ b o, s.heap.get? b = some o → s'.heap.get? b = some o) → s'.gens = s.gens → s'.os = s.os → s.heap.objs.size ≤ D → s'.heap.get? D = some (seqObj "list" out n) → IntsAre out.toList ns' → ns'.Perm ns → ns'.Pairwise (· ≤ ·) → Q (.ref D) s') :
    wpAny (model prog w) A (call (.builtin "sorted") [.ref a]) Q E s := by
  refine Calls.call_function_entry kind_sorted plain_sorted entry_sorted (args_sorted1 _) ?_; unfold Builtin.«sorted»
  refine wpAny_bind (m := checkCount "sorted" 1 1 _) (wpAny_pure (wpAny_bind (collect_set (A := A.in1) hh sa fun s1 vs ks' hk eg eo ez ep kv => ?_)))
  obtain ⟨ns1, p1, rfl⟩ := perm_map_inv ep
  have hi := intsK kv
  have hl : vs.length < 4000 := by rw [hi.length, p1.length_eq]; exact hle
  refine wpAny_bind (wpAny_newList ?_ (by rw [sizeLine_eq]; omega))
  have gD : (s1.heap.push (seqObj "list" vs.toArray 0)).get? s1.heap.objs.size = some (seqObj "list" vs.toArray 0) := Heap.get?_push_size _ rfl
  refine wpAny_bind (wpAny_holding (wpAny_call_entry slot_list_sort ⟨_, gD, rfl⟩ entry_list_sort (sort_ints (s := { s1 with heap := s1.heap.push (seqObj "list" vs.toArray 0) }) gD hi hl fun out ns' a1 a2 a3 => ⟨_, rfl, ?_⟩) (args_list_sort _)))
  have lD : ∀ b o, s.heap.get? b = some o → b < s1.heap.objs.size := fun b o e => Heap.lt_size (hk b o e)
  obtain ⟨n, gO⟩ : ∃ n, (sortedHeap (s1.heap.push (seqObj "list" vs.toArray 0)) s1.heap.objs.size vs out).get? s1.heap.objs.size = some (seqObj "list" out n) := sortedHeap_at gD
  refine wpAny_pure ⟨_, rfl, h _ s1.heap.objs.size n out ns' (fun b o e => ?_) eg eo ?_ gO a1 (a2.trans p1) a3⟩
  · have lb := lD b o e
    refine (sortedHeap_old (Nat.ne_of_lt lb) (by rw [size_push']; exact Nat.lt_succ_of_lt lb)).trans (Heap.get?_push_of_some _ (hk b o e))
  · exact ez
end
noncomputable def rSortPJ (w : World) : List V → Hp → VK → Prop := fun vs H Q => ∃ (l : Addr) (ys : List Int), vs = [.ref l] ∧ H l = some (SetO w l (ys.map Sum.inl)) ∧ ys.length < 4000 ∧ ∀ p, H p = none → Q (.ref p) (upd H p (.lst ((sortZ ys).map V.int)))
theorem call_sortPJ {X : Cx} {w : World} (hc : X.calm = true) (hw : X.w = w) : CallR X (.builtin "sorted") (rSortPJ w) := by
  subst hw
  intro pins s σ H vs us Q I r h
  obtain ⟨l, ys, rfl, hl, hle, q⟩ := h
  obtain ⟨u, rfl, ru⟩ := vals1 r
  cases ru
  refine sorted_setIB (I.ok.hd hc) (setO_get I.hok hl) hle fun s' D n out ns' hk eg eo lD gD a1 a2 a3 => ?_
  have e := sortZ_of a2 a3
  subst e
  refine ⟨.ref D, _, I.laid' (o := .lst ((sortZ ys).map V.int)) hk lD ⟨?_, out.toList, n, vals_ints' a1, gD⟩ eg eo, rfl, q _ (I.hok.fresh lD)⟩
  rw [List.length_map, show (sortZ ys).length = ys.length from (List.mergeSort_perm ys leZ).length_eq, sizeLine_eq]
  omega
noncomputable def sortOrJ (xs ys : List Int) : Option (List Int) := if xs.length < 1900 ∧ ys.length < 1900 then some (sortZ (dedA (xs ++ ys))) else none
section
variable {K : PySem.W.Frag} {σ : St} {G : Hp} {ta tb : TE} {w : World}
theorem fv_sortOrJ {la lb : Option (List Int)} (ea : EV K ta σ G la) (eb : EV K tb σ G lb) :
    FV K (tCB (rSortPJ w) (tCons (tOp (rOrK w) (tCB (rSetK w K) (tCons ta tNil)) (tCB (rSetK w K) (tCons tb tNil))) tNil)) σ G (la.bind fun xs => lb.bind fun ys => sortOrJ xs ys) := by
  intro G1 s1 c hc H sH Q k
  obtain ⟨a, ha, hc⟩ := Option.bind_eq_some_iff.mp hc
  obtain ⟨b, hb, hc⟩ := Option.bind_eq_some_iff.mp hc
  obtain ⟨⟨h4, h5⟩, rfl⟩ := ite_some hc
  refine ea G1 s1 a ha H sH _ fun v G2 H2 x2 r2 => ?_
  obtain ⟨l, xs, rfl, h, z, p⟩ := r2
  have e := paired_intsR p
  subst e
  refine ⟨l, a.map Sum.inl, rfl, ?_, by rw [List.length_map]; omega, fun q hq => ?_⟩
  · rw [← ints_keys]; exact .inl (x2.gh.rd h)
  · have x3 : Ext G2 H2 G2 (upd H2 q (SetO w q (dedK (a.map Sum.inl)))) := .own x2.gh hq
    have g2q : G2 q = none := x2.gh.free hq
    refine eb G2 (s1.trans x2.gg) b hb _ x3.gh _ fun u G4 H4 x4 r4 => ?_
    obtain ⟨l2, ys, rfl, h2, z2, p2⟩ := r4
    have e := paired_intsR p2
    subst e
    refine ⟨l2, b.map Sum.inl, rfl, ?_, by rw [List.length_map]; omega, fun q2 hq2 => ?_⟩
    · rw [← ints_keys]; exact .inl (x4.gh.rd h2)
    · have x5 : Ext G4 H4 G4 (upd H4 q2 (SetO w q2 (dedK (b.map Sum.inl)))) := .own x4.gh hq2
      have h4q : H4 q = some (SetO w q (dedK (a.map Sum.inl))) := x4.hh _ _ upd_same
      have ne : q ≠ q2 := fun e => by rw [← e, h4q] at hq2; cases hq2
      have l1 := dedA_len a
      have l2 := dedA_len b
      have l3 := dedA_len (a ++ b)
      rw [List.length_append] at l3
      rw [dedA_map inl_inj a] at h4q
      rw [dedA_map inl_inj b] at x5 ⊢
      refine ⟨q, q2, (dedA a).map Sum.inl, (dedA b).map Sum.inl, rfl, rfl, ne, ?_, upd_same, ?_, ?_, ?_, fun q3 hq3 => ?_⟩
      · rw [upd_ne ne]; exact h4q
      · rw [← dedA_map inl_inj]; exact nodup_dedK _
      · rw [← dedA_map inl_inj]; exact nodup_dedK _
      · rw [List.length_map, List.length_map]; omega
      · have x6 : Ext G4 (upd H4 q2 (SetO w q2 ((dedA b).map Sum.inl))) G4 (upd (upd H4 q2 (SetO w q2 ((dedA b).map Sum.inl))) q3 (SetO w q3 ((dedA (a ++ b)).map Sum.inl))) := .own x5.gh hq3
        rw [SetO_perm (dedK_twice inl_inj a b)]
        refine ⟨q3, dedA (a ++ b), rfl, upd_same, by omega, ?_⟩
        refine fv_of x6.gh ?_ (ints_rel _) (FV.mono (x2.trans (x3.trans (x4.trans (x5.trans x6)))) k)
        rw [List.length_map, sortZ_len, sizeLine_eq]
        omega
end
end L2
set_option Elab.async false
set_option linter.all false
set_option maxRecDepth 100000
set_option maxHeartbeats 4000000
namespace L2
open PySem PySem.Spec PyProof.Rows
noncomputable def sortSetJ (ys : List Int) : Option (List Int) := if ys.length < 4000 then some (sortZ (dedA ys)) else none
section
variable {K : PySem.W.Frag} {σ : St} {G : Hp} {ta : TE} {w : World}
theorem fv_sortSetJ {la : Option (List Int)} (ea : EV K ta σ G la) : FV K (tCB (rSortPJ w) (tCons (tCB (rSetK w K) (tCons ta tNil)) tNil)) σ G (la.bind fun ys => sortSetJ ys) := by
  intro G1 s1 c hc H sH Q k
  obtain ⟨a, ha, hc⟩ := Option.bind_eq_some_iff.mp hc
  obtain ⟨h4, rfl⟩ := ite_some hc
  have hl := dedA_len a
  refine ea G1 s1 a ha H sH _ fun v G2 H2 x2 r2 => ?_
  obtain ⟨l, xs, rfl, h, z, p⟩ := r2
  have e := paired_intsR p
  subst e
  refine ⟨l, a.map Sum.inl, rfl, ?_, by rw [List.length_map]; exact h4, fun q hq => ?_⟩
  · rw [← ints_keys]; exact .inl (x2.gh.rd h)
  · rw [dedA_map inl_inj]
    refine ⟨q, dedA a, rfl, upd_same, by omega, ?_⟩
    have x3 : Ext G2 H2 G2 (upd H2 q (SetO w q ((dedA a).map Sum.inl))) := .own x2.gh hq
    refine fv_of x3.gh ?_ (ints_rel _) (FV.mono (x2.trans x3) k)
    rw [List.length_map, sortZ_len, sizeLine_eq]
    omega
end
structure MpR (α : Type) where
  l : List (Rk × α)
noncomputable def putRM {α : Type} (l : List (Rk × α)) (k : Rk) (a : α) : List (Rk × α) := if (l.any fun q => decide (q.1 = k)) = true then l.map (fun q => if q.1 = k then (q.1, a) else q) else l ++ [(k, a)]
noncomputable def putRO {α : Type} (m : MpR α) (k : Rk) (a : α) : Option (MpR α) := if m.l.length < sizeLine then some ⟨putRM m.l k a⟩ else none
noncomputable def hasR {α : Type} (l : List (Rk × α)) (k : Rk) : Bool := l.any fun q => decide (q.1 = k)
noncomputable def RelR (K : PySem.W.Frag) {α : Type} [Rp α] (H : Hp) (kv : List Key × V) (q : Rk × α) : Prop := kv.1 = rowK q.1.tp ∧ Rp.rel K H kv.2 q.2
noncomputable instance rpMpR {α : Type} [Rp α] : Rp (MpR α) := ⟨fun K H v a => ∃ p kvs, v = .ref p ∧ H p = some (.dT kvs) ∧ Paired (RelR K H) kvs a.l,
  fun s ⟨p, kvs, e, h, pr⟩ => ⟨p, kvs, e, s _ _ h, Paired.imp' (fun _ _ r => ⟨r.1, Rp.mono s r.2⟩) pr⟩⟩
structure OwnR (K : PySem.W.Frag) {α : Type} [Rp α] (G H : Hp) (v : V) (p : Addr) (kvs : List (List Key × V)) (a : MpR α) : Prop where
  v : v = .ref p
  g : G p = none
  h : H p = some (.dT kvs)
  p : Paired (RelR K G) kvs a.l
theorem rkK_inj {a b : Rk} (e : rowK a.tp = rowK b.tp) : a = b := by
  have h := rowK_inj e
  cases a
  cases b
  cases h
  rfl
theorem rk_key {K : PySem.W.Frag} {H : Hp} {v : V} {r : Rk} (h : Rp.rel K H v r) : ∃ t, v = .ref t ∧ H t = some (.tup ((rowK r.tp).map kV)) := by
  obtain ⟨t, xs, e, h, _, p⟩ := h
  rw [sis_eq p] at h
  exact ⟨t, e, h⟩
section
variable {K : PySem.W.Frag} {σ : St} {G H G1 H1 G0 H0 : Hp} {α β : Type} [Rp α] [Rp β] {td te ti : TE} {rest : TS} {D : Ends} {i : Nat} {a : MpR α} {v : V} {p q : Addr} {kvs : List (List Key × V)}
theorem OwnR.ext (o : OwnR K G H v p kvs a) (x : Ext G H G1 H1) : OwnR K G1 H1 v p kvs a :=
  ⟨o.v, x.no p o.g (by rw [o.h]; exact fun z => nomatch z), x.hh _ _ o.h, Paired.imp' (fun _ _ r => ⟨r.1, Rp.mono x.gg r.2⟩) o.p⟩
theorem OwnR.put {ho : HO} (o : OwnR K G H v p kvs a) (h : p ≠ q) : OwnR K G (upd H q ho) v p kvs a := ⟨o.v, o.g, by rw [upd_ne h]; exact o.h, o.p⟩
theorem OwnR.tell (o : OwnR K G H v p kvs a) : Rp.rel K (upd G p (.dT kvs)) v a := ⟨p, kvs, o.v, upd_same, Paired.imp' (fun _ _ r => ⟨r.1, Rp.mono (Same.new o.g) r.2⟩) o.p⟩
theorem OwnR.over {o : HO} (h : OwnR K G H v p kvs a) (ne : p ≠ q) (hq : G q = none) : OwnR K (upd G q o) H v p kvs a :=
  ⟨h.v, by rw [upd_ne ne]; exact h.g, h.h, Paired.imp' (fun _ _ r => ⟨r.1, Rp.mono (Same.new hq) r.2⟩) h.p⟩
theorem OwnR.same (o : OwnR K G H v p kvs a) (s : Same G H) : Same (upd G p (.dT kvs)) H := fun b ho e => by
  by_cases hb : b = p
  · subst hb
    rw [upd_same] at e
    cases e
    exact o.h
  · rw [upd_ne hb] at e
    exact s _ _ e
theorem TV.runR {tt : TT} {mb : Option Bool} {b : Bool} {Q : Bool → Hp → Prop} (o : OwnR K G H v p kvs a) (e : TV tt σ (upd G p (.dT kvs)) mb) (hm : mb = some b) (s : Same G H) (k : ∀ G2 H2, Ext G H G2 H2 → Q b H2) : tt σ H Q :=
  e.run hm (o.same s) fun G2 H2 x => k (del G2 p) H2 (x.del o.g)
theorem sv_ifR {tt : TT} {t u : TS} {b : Bool} {m : Option Bool} (o : OwnR K G H v p kvs a) (e : TV tt σ (upd G p (.dT kvs)) m) (hm : m = some b) (s : Same G H) (k : ∀ G2 H2, Ext G H G2 H2 → if b = true then t { D with nx := rest D } σ H2 else u { D with nx := rest D } σ H2) :
    tSeq (tIfS tt t u) rest D σ H := TV.runR o e hm s k
theorem pairedR_any {G : Hp} {k : Rk} : ∀ {kvs : List (List Key × V)} {l : List (Rk × α)}, Paired (RelR K G) kvs l → (kvs.any fun kv => decide (kv.1 = rowK k.tp)) = l.any fun q => decide (q.1 = k)
  | _, _, .nil => rfl
  | kv :: kvs, q :: l, .cons h t => by
    rw [List.any_cons, List.any_cons, pairedR_any t, h.1]
    congr 1
    exact decide_eq_decide.mpr ⟨fun e => rkK_inj e, fun e => by rw [e]⟩
theorem pairedR_repl {G : Hp} {k : Rk} {w : V} {b : α} (r : Rp.rel K G w b) : ∀ {kvs : List (List Key × V)} {l : List (Rk × α)}, Paired (RelR K G) kvs l → Paired (RelR K G) (kvs.map fun kv => if kv.1 = rowK k.tp then (kv.1, w) else kv) (l.map fun q => if q.1 = k then (q.1, b) else q)
  | _, _, .nil => .nil
  | kv :: kvs, q :: l, .cons h t => by
    rw [List.map_cons, List.map_cons]
    refine .cons ?_ (pairedR_repl r t)
    by_cases e : q.1 = k
    · rw [if_pos e, if_pos (by rw [h.1, e])]
      exact ⟨h.1, r⟩
    · rw [if_neg e, if_neg (fun z => e (by rw [h.1] at z; exact rkK_inj z))]
      exact h
theorem pairedR_put {G : Hp} {k : Rk} {w : V} {b : α} {l : List (Rk × α)} (r : Rp.rel K G w b) (h : Paired (RelR K G) kvs l) : Paired (RelR K G) (putK kvs (rowK k.tp) w) (putRM l k b) := by
  unfold putK putRM
  rw [pairedR_any h]
  by_cases e : (l.any fun q => decide (q.1 = k)) = true
  · rw [if_pos e, if_pos e]
    exact pairedR_repl r h
  · rw [if_neg e, if_neg e]
    exact Paired.app h (.cons ⟨rfl, r⟩ .nil)
theorem sv_ownR {b : MpR α} (hm : (some (MpR.mk []) : Option (MpR α)) = some b) (s : Same G H) (k : ∀ p kvs G2 H2, Ext G H G2 H2 → H p = none → OwnR K G2 H2 (.ref p) p kvs b → rest D (σ.set i (some (.ref p))) H2) : tSeq (tAsg tDNewT (gName i)) rest D σ H := by
  cases hm
  exact fun p hp => k p [] G _ (.own s hp) hp ⟨rfl, s.free hp, upd_same, .nil⟩
theorem sv_dputR {b : α} {m : Option α} {mi : Option Rk} {k' : Rk} {a' : MpR α} (hσ : σ[i]? = some (some v)) (o : OwnR K G H v p kvs a) (e : EV K te σ G m) (hm : m = some b) (ei : EV K ti σ G mi) (hi : mi = some k') (hs : putRO a k' b = some a') (s : Same G H)
    (k : ∀ G2 H2 w, Ext G H G2 H2 → OwnR K G2 (upd H2 p (.dT (putK kvs (rowK k'.tp) w))) v p (putK kvs (rowK k'.tp) w) a' → rest D σ (upd H2 p (.dT (putK kvs (rowK k'.tp) w)))) : tSeq (sDPut (tVar i) ti te) rest D σ H := by
  obtain ⟨hl, rfl⟩ := ite_some hs
  have hlen := Paired.length o.p
  refine e.run hm s fun w G2 H2 x r => ?_
  have o2 := o.ext x
  refine ⟨v, hσ, ?_⟩
  refine ei G2 x.gg k' hi H2 x.gh _ fun u G3 H3 x3 r3 => ?_
  obtain ⟨t, rfl, ht⟩ := rk_key r3
  have o3 := o2.ext x3
  refine ⟨p, _, o3.v, DPut.t o3.h (x3.gh _ _ ht) (by omega), ?_⟩
  exact k G3 H3 w (x.trans x3) ⟨o3.v, o3.g, upd_same, pairedR_put (Rp.mono x3.gg r) o3.p⟩
theorem pairedR_has {G : Hp} {k : Rk} {l : List (Rk × α)} (h : Paired (RelR K G) kvs l) : (valV kvs (rowK k.tp)).isSome = hasR l k := by
  unfold valV hasR
  rw [Option.isSome_map, List.isSome_find?, pairedR_any h]
theorem ev_notInR {md : Option (MpR α)} {mi : Option Rk} (ei : EV K ti σ G mi) (ed : EV K td σ G md) : EV K (tDNotIn ti td) σ G (mi.bind fun k => md.bind fun d => some (!hasR d.l k)) := by
  intro G1 s1 c hc H sH Q k
  obtain ⟨j, hj, hc⟩ := Option.bind_eq_some_iff.mp hc
  obtain ⟨d, hd, hc⟩ := Option.bind_eq_some_iff.mp hc
  cases hc
  refine ei G1 s1 j hj H sH _ fun u G2 H2 x2 r2 => ?_
  refine ed G2 (s1.trans x2.gg) d hd H2 x2.gh _ fun v G3 H3 x3 r3 => ?_
  obtain ⟨t, rfl, ht⟩ := rk_key (Rp.mono x3.gg r2)
  obtain ⟨p, kvs, rfl, h, pr⟩ := r3
  refine ⟨p, valV kvs (rowK j.tp), rfl, DGet.t (x3.gh _ _ h) (x3.gh _ _ ht), ?_⟩
  rw [pairedR_has pr]
  exact k _ _ _ (x2.trans x3) rfl
end
section
variable {X : Cx} {i o : Expr} {ty td : TE} {pos : Pos}
theorem pt_cmpDN (hu : X.A.units + 1 < cLine) (hi : PE X i ty) (ho : PE X o td) (hm : behindInMarks .NotIn o = false) : PT X (.Compare i [.NotIn] [o] pos) (tTest (tDNotIn ty td)) := pt_cmp (pc_dnotin hu hi ho) hm
end
end L2
set_option Elab.async false
set_option linter.all false
set_option maxRecDepth 100000
set_option maxHeartbeats 4000000
namespace My
open PySem PySem.Spec PyProof.Rows L2
noncomputable def m_law_part (number_ : Int) (many_ : Int) : Option Int :=
  (some (decide ((number_ % (3 : Int)) = (0 : Int)))).bind fun b1 => cond b1
    ((((some (number_ / (3 : Int))).bind fun t6 => (some (if many_ < (2 : Int) then many_ else (2 : Int))).bind fun t7 => modO t6 t7).bind fun t8 => (some ((many_ - (1 : Int)) - t8))))
    (((some (number_ / (3 : Int))).bind fun t14 => (some many_).bind fun t15 => modO t14 t15))
noncomputable abbrev mm_law_part (x : Int × Int × Unit) : Option Int := m_law_part x.1 x.2.1
noncomputable def m_law_row (number_ : Int) (many_ : Int) : Option Rk :=
  (some (number_ % (11 : Int))).bind fun kind_ =>
  (some (decide (kind_ = (0 : Int)))).bind fun b7 => cond b7
    ((some (Rk.mk [(SI.s ("yes" : Str))])))
    ((some ((decide (kind_ < (3 : Int))) || (decide (many_ = (0 : Int))))).bind fun b17 => cond b17
      (((((((some ("abcdefghijklmnopqrstuvwxyz" : Str)).bind fun t22 => (some ((number_ / (11 : Int)) % (26 : Int))).bind fun t23 => (atI t22.cps.toList t23).bind fun z => some (⟨#[z]⟩ : Str)).bind fun t24 => (some (SI.s t24))).bind fun t25 => (some [t25])).bind fun t26 => (some ((SI.s ("lamp" : Str)) :: t26))).bind fun t27 => (some (Rk.mk t27))))
      (((some (number_ / (11 : Int))).bind fun t33 => (some many_).bind fun t34 => m_law_part t33 t34).bind fun one_ =>
      (some (decide (kind_ < (5 : Int)))).bind fun b41 => cond b41
        ((some (Rk.mk [(SI.s ("not" : Str)), (SI.i one_)])))
        ((some (decide (kind_ < (7 : Int)))).bind fun b51 => cond b51
          ((some (Rk.mk [(SI.s ("next" : Str)), (SI.i one_)])))
          (((some (((number_ / (11 : Int)) * (48271 : Int)) % (10007 : Int))).bind fun t61 => (some many_).bind fun t62 => m_law_part t61 t62).bind fun other_ =>
          (((((some [("and" : Str), ("until" : Str)]).bind fun t69 => (some (kind_ % (2 : Int))).bind fun t70 => atI t69 t70).bind fun t71 => (some (SI.s t71))).bind fun t72 => (some [t72, (SI.i one_), (SI.i other_)])).bind fun t73 => (some (Rk.mk t73)))))))
noncomputable abbrev mm_law_row (x : Int × Int × Unit) : Option Rk := m_law_row x.1 x.2.1
noncomputable def m_law_size (row_here_ : Rk) (sizes_ : (List (Int × Int))) : Option (Int × Int) :=
  ((((some row_here_.tp).bind fun t3 => (some (0 : Int)).bind fun t4 => atI t3.l t4).bind fun t5 => asS t5).bind fun t6 => (some (decide (t6 = ("lamp" : Str))))).bind fun b7 => cond b7
    ((some ((1 : Int), (1 : Int))))
    ((((((some row_here_.tp).bind fun t17 => (some (some (1 : Int))).bind fun t18 => (some none).bind fun t19 => cutT? t17.l t18 t19).bind fun t20 => (some t20.l)).bind fun t28 => mapO (fun (number_ : SI) => ((some sizes_).bind fun t26 => ((some number_).bind fun t25 => asI t25).bind fun t27 => atI t26 t27)) t28).bind fun t29 => (some [((0 : Int), (0 : Int))]).bind fun t30 => catL t29 t30).bind fun some_ =>
    (((((some some_).bind fun t41 => mapO (fun (size_here_ : (Int × Int)) => (some size_here_.1)) t41).bind fun t42 => sumO t42).bind fun t43 => (some ((1 : Int) + t43))).bind fun t51 => ((((some some_).bind fun t48 => mapO (fun (size_here_ : (Int × Int)) => (some size_here_.2)) t48).bind fun t49 => maxO t49).bind fun t50 => (some ((1 : Int) + t50))).bind fun t52 => (some (t51, t52))))
noncomputable abbrev mm_law_size (x : Rk × (List (Int × Int)) × Unit) : Option (Int × Int) := m_law_size x.1 x.2.1
noncomputable def m_law_book (numbers_here_ : (List Int)) : Option (List Rk) :=
  (some ([] : List Rk)).bind fun rows_ =>
  (some ([] : List (Int × Int))).bind fun sizes_ =>
  (some (MpR.mk ([] : List (Rk × Bool)))).bind fun seen_ =>
  (some numbers_here_).bind fun as25 => (forO (S := ((List Rk) × (List (Int × Int)) × (MpR Bool))) (ρ := (List Rk)) (fun (number_ : Int) s32 =>
      ((some number_).bind fun t49 => (some (s32.1.length : Int)).bind fun t50 => m_law_row t49 t50).bind fun row_here_ =>
      ((some row_here_).bind fun t59 => (some s32.2.1).bind fun t60 => m_law_size t59 t60).bind fun size_here_ =>
      (some ((!hasR s32.2.2.l row_here_) && ((decide (size_here_.1 ≤ (200 : Int))) && (decide (size_here_.2 ≤ (90 : Int)))))).bind fun b67 => cond b67
        ((some true).bind fun a72 => (some row_here_).bind fun k74 => (putRO s32.2.2 k74 a72).bind fun z82 =>
        (some row_here_).bind fun a83 => (pushO s32.1 a83).bind fun z91 =>
        (some size_here_).bind fun a92 => (pushO s32.2.1 a92).bind fun z100 =>
        some (Fl.nx (z91, z100, z82)))
        (some (Fl.nx (s32.1, s32.2.1, s32.2.2)))) as25 (rows_, sizes_, seen_)).bind fun fl27 => match fl27 with
    | .nx s32 =>
      (some s32.1)
    | .rt r => some r
    | .bk _ => none
noncomputable abbrev mm_law_book (x : (List Int) × Unit) : Option (List Rk) := m_law_book x.1
noncomputable def m_law_cell_at (script_ : Scr) (k_ : Int) : Option Int :=
  (some (decide (k_ < (script_.l.length : Int)))).bind fun b1 => cond b1
    (((some script_).bind fun t6 => (some k_).bind fun t7 => atI t6.l t7))
    ((some (0 : Int)))
noncomputable abbrev mm_law_cell_at (x : Scr × Int × Unit) : Option Int := m_law_cell_at x.1 x.2.1
noncomputable def m_hopes (rows_ : (List Rk)) : Option (List Int) :=
  ((some rows_).bind fun t12 => compO (fun (pc5 : (Int × Rk)) => ((((some pc5.2.tp).bind fun t8 => (some (0 : Int)).bind fun t9 => atI t8.l t9).bind fun t10 => asS t10).bind fun t11 => (some (decide (t11 = ("until" : Str)))))) (fun (pc5 : (Int × Rk)) => (some pc5.1)) (enumI 0 t12))
noncomputable abbrev mm_hopes (x : (List Rk) × Unit) : Option (List Int) := m_hopes x.1
noncomputable def m_waits (rows_ : (List Rk)) : Option (List Int) :=
  ((some rows_).bind fun t14 => compO (fun (row_ : Rk) => ((((some row_.tp).bind fun t10 => (some (0 : Int)).bind fun t11 => atI t10.l t11).bind fun t12 => asS t12).bind fun t13 => (some (decide (t13 = ("next" : Str)))))) (fun (row_ : Rk) => (((some row_.tp).bind fun t5 => (some (1 : Int)).bind fun t6 => atI t5.l t6).bind fun t7 => asI t7)) t14).bind fun under_next_ =>
  (((some rows_).bind fun t21 => m_hopes t21).bind fun t22 => (some under_next_).bind fun t23 => sortOrJ t22 t23)
noncomputable abbrev mm_waits (x : (List Rk) × Unit) : Option (List Int) := m_waits x.1
noncomputable def m_lamps_in (rows_ : (List Rk)) : Option Str :=
  ((some ("" : Str)).bind fun t29 => (((some rows_).bind fun t27 => compO (fun (row_ : Rk) => ((((some row_.tp).bind fun t23 => (some (0 : Int)).bind fun t24 => atI t23.l t24).bind fun t25 => asS t25).bind fun t26 => (some (decide (t26 = ("lamp" : Str)))))) (fun (row_ : Rk) => (((some row_.tp).bind fun t18 => (some (1 : Int)).bind fun t19 => atI t18.l t19).bind fun t20 => asS t20)) t27).bind fun t28 => sortSetS t28).bind fun t30 => joinO t29 t30)
noncomputable abbrev mm_lamps_in (x : (List Rk) × Unit) : Option Str := m_lamps_in x.1
noncomputable def m_law_waits (rows_ : (List Rk)) : Option (List Int) :=
  ((some rows_).bind fun t14 => compO (fun (row_here_ : Rk) => ((((some row_here_.tp).bind fun t10 => (some (0 : Int)).bind fun t11 => atI t10.l t11).bind fun t12 => asS t12).bind fun t13 => (some (decide (t13 = ("next" : Str)))))) (fun (row_here_ : Rk) => (((some row_here_.tp).bind fun t5 => (some (1 : Int)).bind fun t6 => atI t5.l t6).bind fun t7 => asI t7)) t14).bind fun asked_here_ =>
  ((some asked_here_).bind fun t39 => (((some (rows_.length : Int)).bind fun t21 => rngO 0 t21).bind fun t38 => compO (fun (k_ : Int) => ((((((some rows_).bind fun t31 => (some k_).bind fun t32 => atI t31 t32).bind fun t33 => (some t33.tp)).bind fun t34 => (some (0 : Int)).bind fun t35 => atI t34.l t35).bind fun t36 => asS t36).bind fun t37 => (some (decide (t37 = ("until" : Str)))))) (fun (k_ : Int) => (some k_)) t38).bind fun t40 => catL t39 t40).bind fun asked_here_ =>
  ((some asked_here_).bind fun t47 => sortSetJ t47)
noncomputable abbrev mm_law_waits (x : (List Rk) × Unit) : Option (List Int) := m_law_waits x.1
noncomputable def m_law_numbers_alike (some_ : (List Int)) (due_ : (List Int)) : Option Bool :=
  (some ((!true) || (!decide (some_ = due_)))).bind fun b1 => cond b1
    ((some false))
    (((((some some_).bind fun t15 => compO (fun (one_ : Int) => (some (true && (!false)))) (fun (one_ : Int) => (some one_)) t15).bind fun t16 => (some (t16.length : Int))).bind fun t17 => (some (decide (t17 = (due_.length : Int))))))
noncomputable abbrev mm_law_numbers_alike (x : (List Int) × (List Int) × Unit) : Option Bool := m_law_numbers_alike x.1 x.2.1
noncomputable def m_law_asked (rows_ : (List Rk)) (cell_ : Int) : Option Bool :=
  (some rows_).bind fun handed_ =>
  (((some (rows_.length : Int)).bind fun t7 => rngO 0 t7).bind fun t24 => compO (fun (k_ : Int) => ((((((some rows_).bind fun t17 => (some k_).bind fun t18 => atI t17 t18).bind fun t19 => (some t19.tp)).bind fun t20 => (some (0 : Int)).bind fun t21 => atI t20.l t21).bind fun t22 => asS t22).bind fun t23 => (some (decide (t23 = ("until" : Str)))))) (fun (k_ : Int) => (some k_)) t24).bind fun due_ =>
  ((some ("" : Str)).bind fun t59 => (((some rows_).bind fun t57 => compO (fun (row_here_ : Rk) => ((((some row_here_.tp).bind fun t53 => (some (0 : Int)).bind fun t54 => atI t53.l t54).bind fun t55 => asS t55).bind fun t56 => (some (decide (t56 = ("lamp" : Str)))))) (fun (row_here_ : Rk) => (((some row_here_.tp).bind fun t48 => (some (1 : Int)).bind fun t49 => atI t48.l t49).bind fun t50 => asS t50)) t57).bind fun t58 => sortOB t58).bind fun t60 => joinO t59 t60).bind fun lamps_ =>
  ((some (2 : Int)).bind fun t67 => rngO 0 t67).bind fun as68 => (forO (S := Unit) (ρ := Bool) (fun (k_ : Int) s75 =>
      (some (decide (((cell_ + k_) % (2 : Int)) = (0 : Int)))).bind fun b89 => cond b89
        (((some handed_).bind fun t94 => m_waits t94).bind fun some_ =>
        (((some some_).bind fun t108 => ((some rows_).bind fun t107 => m_law_waits t107).bind fun t109 => m_law_numbers_alike t108 t109).bind fun t110 => (some (!t110))).bind fun b111 => cond b111
          ((some false).bind fun rr121 => some (Fl.rt rr121))
          ((some (3 : Int)).bind fun a123 => (pushO some_ a123).bind fun z131 =>
          some (Fl.nx ())))
        (((some handed_).bind fun t132 => m_hopes t132).bind fun some_ =>
        (((some some_).bind fun t144 => (some due_).bind fun t145 => m_law_numbers_alike t144 t145).bind fun t146 => (some (!t146))).bind fun b147 => cond b147
          ((some false).bind fun rr157 => some (Fl.rt rr157))
          ((some (3 : Int)).bind fun a159 => (pushO some_ a159).bind fun z167 =>
          some (Fl.nx ())))) as68 ()).bind fun fl70 => match fl70 with
    | .nx s75 =>
      (((((some handed_).bind fun t173 => m_lamps_in t173).bind fun t174 => (some true)).bind fun t175 => (some (!t175))).bind fun t178 => cond t178 (some true) (((some handed_).bind fun t176 => m_lamps_in t176).bind fun t177 => (some (!decide (t177 = lamps_))))).bind fun b179 => cond b179
        ((some false))
        (((some (decide (handed_ = rows_))).bind fun t197 => cond t197 ((((some rows_).bind fun t189 => m_waits t189).bind fun t192 => ((some rows_).bind fun t191 => m_law_waits t191).bind fun t193 => (some (decide (t192 = t193)))).bind fun t196 => cond t196 (((some rows_).bind fun t194 => m_hopes t194).bind fun t195 => (some (decide (t195 = due_)))) (some false)) (some false)))
    | .rt r => some r
    | .bk _ => none
noncomputable abbrev mm_law_asked (x : (List Rk) × Int × Unit) : Option Bool := m_law_asked x.1 x.2.1
noncomputable def m_law_stream (cell_ : Int) (many_ : Int) : Option (List Int) :=
  (some ([] : List Int)).bind fun numbers_here_ =>
  (some ((cell_ % (2147483647 : Int)) + (48271 : Int))).bind fun number_ =>
  ((some many_).bind fun t15 => rngO 0 t15).bind fun as16 => (forO (S := ((List Int) × Int)) (ρ := (List Int)) (fun (k_ : Int) s23 =>
      (((((some s23.2).bind fun t38 => (some s23.2).bind fun t39 => mulO t38 t39).bind fun t40 => (some (t40 + ((48271 : Int) * s23.2)))).bind fun t41 => (some (t41 + k_))).bind fun t42 => (some (t42 % (2147483647 : Int)))).bind fun number_ =>
      (some number_).bind fun a49 => (pushO s23.1 a49).bind fun z57 =>
      some (Fl.nx (z57, number_))) as16 (numbers_here_, number_)).bind fun fl18 => match fl18 with
    | .nx s23 =>
      (some s23.1)
    | .rt r => some r
    | .bk _ => none
noncomputable abbrev mm_law_stream (x : Int × Int × Unit) : Option (List Int) := m_law_stream x.1 x.2.1
noncomputable def m_law_numbers (script_ : Scr) : Option (List Int) :=
  ((some script_).bind fun t1 => (some (0 : Int)).bind fun t2 => m_law_cell_at t1 t2).bind fun cell_ =>
  (some (decide ((cell_ % (2 : Int)) = (0 : Int)))).bind fun b9 => cond b9
    ((((some script_).bind fun t14 => (some (some (1 : Int))).bind fun t15 => (some (some (41 : Int))).bind fun t16 => cutX t14 t15 t16).bind fun t21 => mapO (fun (number_ : Int) => (some (number_ % 1000000000))) t21))
    ((((some script_).bind fun t27 => (some (1 : Int)).bind fun t28 => m_law_cell_at t27 t28).bind fun t31 => ((some [((cell_ / (8 : Int)) % (41 : Int)), ((cell_ / (8 : Int)) % (201 : Int))]).bind fun t29 => (some ((cell_ / (2 : Int)) % (2 : Int))).bind fun t30 => atI t29 t30).bind fun t32 => m_law_stream t31 t32))
noncomputable abbrev mm_law_numbers (x : Scr × Unit) : Option (List Int) := m_law_numbers x.1
noncomputable def m_law (script_ : Scr) : Option Bool :=
  (((some script_).bind fun t1 => m_law_numbers t1).bind fun t2 => m_law_book t2).bind fun rows_ =>
  ((some script_).bind fun t9 => (some (2 : Int)).bind fun t10 => m_law_cell_at t9 t10).bind fun cell_ =>
  (((some rows_).bind fun t17 => (some cell_).bind fun t18 => m_law_asked t17 t18).bind fun t19 => (some (!t19))).bind fun b20 => cond b20
    ((some false))
    (((((((some cell_).bind fun t30 => (some ((rows_.length : Int) + (1 : Int))).bind fun t31 => modO t30 t31).bind fun t32 => (some (some t32))).bind fun t33 => (some (cutA rows_ none t33))).bind fun t34 => (some (cell_ / (2 : Int))).bind fun t35 => m_law_asked t34 t35).bind fun t36 => (some (!t36))).bind fun b37 => cond b37
      ((some false))
      (((some rows_).bind fun t47 => (some (cell_ / (4 : Int))).bind fun t48 => m_law_asked t47 t48)))
noncomputable abbrev mm_law (x : Scr × Unit) : Option Bool := m_law x.1
end My
set_option Elab.async false
set_option linter.all false
set_option maxRecDepth 100000
set_option maxHeartbeats 4000000
namespace My
open PySem PySem.Spec PyProof.Rows L2
noncomputable def top (i : Nat) : Stmt := PySem.Challenge.pw_lassoscribe_k18_waits_and_hopes.main.body.getD i (.Pass ⟨0, 0, 0, 0⟩)
noncomputable abbrev s_lamps_in : Stmt := top 1
noncomputable abbrev s_waits : Stmt := top 2
noncomputable abbrev s_hopes : Stmt := top 3
noncomputable abbrev s_law_cell_at : Stmt := top 5
noncomputable abbrev s_law_stream : Stmt := top 6
noncomputable abbrev s_law_part : Stmt := top 7
noncomputable abbrev s_law_row : Stmt := top 8
noncomputable abbrev s_law_size : Stmt := top 9
noncomputable abbrev s_law_book : Stmt := top 10
noncomputable abbrev s_law_numbers : Stmt := top 11
noncomputable abbrev s_law_waits : Stmt := top 12
noncomputable abbrev s_law_numbers_alike : Stmt := top 13
noncomputable abbrev s_law_asked : Stmt := top 14
noncomputable abbrev s_law : Stmt := top 15
structure Txt (mg : Str → Option Value) : Prop where
  bool_ : mg "bool" = none
  enumerate_ : mg "enumerate" = none
  int_ : mg "int" = none
  isinstance_ : mg "isinstance" = none
  len_ : mg "len" = none
  list_ : mg "list" = none
  max_ : mg "max" = none
  min_ : mg "min" = none
  range_ : mg "range" = none
  set_ : mg "set" = none
  sorted_ : mg "sorted" = none
  str_ : mg "str" = none
  sum_ : mg "sum" = none
theorem sc_lamps_in : FnScope ["rows"] ["rows"] (defScope s_lamps_in) := ⟨rfl, rfl, rfl, by decide +kernel, rfl, by decide +kernel, by decide +kernel⟩
theorem sc_waits : FnScope ["rows", "under_next"] ["rows"] (defScope s_waits) := ⟨rfl, rfl, rfl, by decide +kernel, rfl, by decide +kernel, by decide +kernel⟩
theorem sc_hopes : FnScope ["rows"] ["rows"] (defScope s_hopes) := ⟨rfl, rfl, rfl, by decide +kernel, rfl, by decide +kernel, by decide +kernel⟩
theorem sc_law_cell_at : FnScope ["_law_script", "_law_k"] ["_law_script", "_law_k"] (defScope s_law_cell_at) := ⟨rfl, rfl, rfl, by decide +kernel, rfl, by decide +kernel, by decide +kernel⟩
theorem sc_law_stream : FnScope ["_law_cell", "_law_many", "_law_numbers_here", "_law_number", "_law_k"] ["_law_cell", "_law_many"] (defScope s_law_stream) := ⟨rfl, rfl, rfl, by decide +kernel, rfl, by decide +kernel, by decide +kernel⟩
theorem sc_law_part : FnScope ["_law_number", "_law_many"] ["_law_number", "_law_many"] (defScope s_law_part) := ⟨rfl, rfl, rfl, by decide +kernel, rfl, by decide +kernel, by decide +kernel⟩
theorem sc_law_row : FnScope ["_law_number", "_law_many", "_law_kind", "_law_one", "_law_other"] ["_law_number", "_law_many"] (defScope s_law_row) := ⟨rfl, rfl, rfl, by decide +kernel, rfl, by decide +kernel, by decide +kernel⟩
theorem sc_law_size : FnScope ["_law_row_here", "_law_sizes", "_law_some"] ["_law_row_here", "_law_sizes"] (defScope s_law_size) := ⟨rfl, rfl, rfl, by decide +kernel, rfl, by decide +kernel, by decide +kernel⟩
theorem sc_law_book : FnScope ["_law_numbers_here", "_law_rows", "_law_sizes", "_law_seen", "_law_number", "_law_row_here", "_law_size_here"] ["_law_numbers_here"] (defScope s_law_book) := ⟨rfl, rfl, rfl, by decide +kernel, rfl, by decide +kernel, by decide +kernel⟩
theorem sc_law_numbers : FnScope ["_law_script", "_law_cell"] ["_law_script"] (defScope s_law_numbers) := ⟨rfl, rfl, rfl, by decide +kernel, rfl, by decide +kernel, by decide +kernel⟩
theorem sc_law_waits : FnScope ["_law_rows", "_law_asked_here"] ["_law_rows"] (defScope s_law_waits) := ⟨rfl, rfl, rfl, by decide +kernel, rfl, by decide +kernel, by decide +kernel⟩
theorem sc_law_numbers_alike : FnScope ["_law_some", "_law_due"] ["_law_some", "_law_due"] (defScope s_law_numbers_alike) := ⟨rfl, rfl, rfl, by decide +kernel, rfl, by decide +kernel, by decide +kernel⟩
theorem sc_law_asked : FnScope ["_law_rows", "_law_cell", "_law_handed", "_law_due", "_law_lamps", "_law_k", "_law_some"] ["_law_rows", "_law_cell"] (defScope s_law_asked) := ⟨rfl, rfl, rfl, by decide +kernel, rfl, by decide +kernel, by decide +kernel⟩
theorem sc_law : FnScope ["_law_script", "_law_rows", "_law_cell"] ["_law_script"] (defScope s_law) := ⟨rfl, rfl, rfl, by decide +kernel, rfl, by decide +kernel, by decide +kernel⟩
noncomputable def sp_law (K : PySem.W.Frag) : Sp := fun vs H Q _ => ∃ (a : Addr) (ns : List Int), vs = [.ref a] ∧ SqL K H a (ns.map V.int) ∧ ns.length ≤ 63 ∧ ∀ H', Q (.bl true) H'
section
variable {P : Program} {w : World} {K : PySem.W.Frag} {mg : Str → Option Value} {base : Heap}
theorem ok_law_part {f : Addr} {fd : FuncData} (F : Fun K "_law_part" "_law_part" s_law_part f fd) (T : Txt mg) : FnOk P w K mg base CX0 1 f fd ["_law_number", "_law_many"] (spM K mm_law_part) := by
  refine F.ok sc_law_part (fun vs H Q E h => (spM_len h).trans rfl) (fun cdv A outer s H0 vs Q E hr h => ?_)
  obtain ⟨G0, ⟨number_, ⟨many_, ⟨⟩⟩⟩, res, sg0, ⟨v_number_, _, rfl, r_number_, ⟨v_many_, _, rfl, r_many_, rfl⟩⟩, hm, q⟩ := h
  replace r_number_ : Rp.rel K G0 v_number_ number_ := r_number_
  replace r_many_ : Rp.rel K G0 v_many_ many_ := r_many_
  replace hm : m_law_part number_ many_ = some res := hm
  unfold m_law_part at hm
  have xt : Ext G0 H0 G0 H0 := Ext.refl sg0
  refine ⟨_, (pss_cons (ps_if (pt_cmpR op_eq (pe_op op_mod (pv 0) pe_int) pe_int (nomark _)) (pss_cons (ps_ret (pe_op op_sub (pe_op op_sub (pv 1) pe_int) (pe_op op_mod (pe_op op_fdiv (pv 0) pe_int) (pe_callB (call_min2 rfl) (by rfl) T.min_ bt_min (pa_cons pe_int (pa_cons (pv 1) pa_nil))))))
      pss_nil) pss_nil)
      (pss_cons (ps_ret (pe_op op_mod (pe_op op_fdiv (pv 0) pe_int) (pv 1)))
      pss_nil)), ?_⟩
  refine bE hm fun b1 h2 hm => ?_
  refine sv_if (tv_test (K := K) (ev_eqI (ev_modR (ev_var rfl r_number_)) ev_i)) h2 xt.gh fun G3 H4 x5 => ?_
  have xt := xt.trans x5
  have r_number_ := Rp.mono x5.gg r_number_
  have r_many_ := Rp.mono x5.gg r_many_
  cases b1 with
  | true =>
    replace hm := cT hm
    refine iteT ?_
    exact sv_ret (K := K) (ev_sub (ev_sub (ev_var rfl r_many_) ev_i) (ev_mod (ev_divR (ev_var rfl r_number_)) (ev_min ev_i (ev_var rfl r_many_)))) hm xt.gh fun v9 G10 H11 x12 r13 => q v9 G10 H11 (xt.trans x12) r13
  | false =>
    replace hm := cF hm
    refine iteF ?_
    exact sv_ret (K := K) (ev_mod (ev_divR (ev_var rfl r_number_)) (ev_var rfl r_many_)) hm xt.gh fun v16 G17 H18 x19 r20 => q v16 G17 H18 (xt.trans x19) r20
theorem ok_law_row {f : Addr} {fd : FuncData} (F : Fun K "_law_row" "_law_row" s_law_row f fd) (T : Txt mg) (D_law_part : DefOk P w K mg base "_law_part" 1 ["_law_number", "_law_many"] (spM K mm_law_part)) : FnOk P w K mg base CX0 2 f fd ["_law_number", "_law_many"] (spM K mm_law_row) := by
  refine F.ok sc_law_row (fun vs H Q E h => (spM_len h).trans rfl) (fun cdv A outer s H0 vs Q E hr h => ?_)
  obtain ⟨G0, ⟨number_, ⟨many_, ⟨⟩⟩⟩, res, sg0, ⟨v_number_, _, rfl, r_number_, ⟨v_many_, _, rfl, r_many_, rfl⟩⟩, hm, q⟩ := h
  replace r_number_ : Rp.rel K G0 v_number_ number_ := r_number_
  replace r_many_ : Rp.rel K G0 v_many_ many_ := r_many_
  replace hm : m_law_row number_ many_ = some res := hm
  unfold m_law_row at hm
  have xt : Ext G0 H0 G0 H0 := Ext.refl sg0
  refine ⟨_, (pss_cons (ps_set (i := 2) sc_law_row.nd rfl (Or.inl rfl) (pe_op op_mod (pv 0) pe_int))
      (pss_cons (ps_if (pt_cmpR op_eq (pv 2) pe_int (nomark _)) (pss_cons (ps_ret (pe_tup (pa_cons pe_str pa_nil)))
      pss_nil) pss_nil)
      (pss_cons (ps_if (PW.pt (pw_or (pt_cmpR op_ltU (pv 2) pe_int (nomark _)) (pw_or1 (pt_cmpR op_eq (pv 1) pe_int (nomark _))))) (pss_cons (ps_ret (pe_tup (pa_cons pe_str (pa_cons (pe_ix (ix_anyK (K := K) rfl) pe_str (pe_op op_mod (pe_op op_fdiv (pv 0) pe_int) pe_int) (fun _ _ => rfl)) pa_nil))))
      pss_nil) pss_nil)
      (pss_cons (ps_set (i := 3) sc_law_row.nd rfl (Or.inl rfl) (pe_def D_law_part hr (by decide) rfl (pa_cons (pe_op op_fdiv (pv 0) pe_int) (pa_cons (pv 1) pa_nil))))
      (pss_cons (ps_if (pt_cmpR op_ltU (pv 2) pe_int (nomark _)) (pss_cons (ps_ret (pe_tup (pa_cons pe_str (pa_cons (pv 3) pa_nil))))
      pss_nil) pss_nil)
      (pss_cons (ps_if (pt_cmpR op_ltU (pv 2) pe_int (nomark _)) (pss_cons (ps_ret (pe_tup (pa_cons pe_str (pa_cons (pv 3) pa_nil))))
      pss_nil) pss_nil)
      (pss_cons (ps_set (i := 4) sc_law_row.nd rfl (Or.inl rfl) (pe_def D_law_part hr (by decide) rfl (pa_cons (pe_op op_mod (pe_op (op_mulK (K := K) rfl) (pe_op op_fdiv (pv 0) pe_int) pe_int) pe_int) (pa_cons (pv 1) pa_nil))))
      (pss_cons (ps_ret (pe_tup (pa_cons (pe_ix (ix_anyK (K := K) rfl) (pe_lst (pa_cons pe_str (pa_cons pe_str pa_nil))) (pe_op op_mod (pv 2) pe_int) (fun _ _ => rfl)) (pa_cons (pv 3) (pa_cons (pv 4) pa_nil)))))
      pss_nil)))))))), ?_⟩
  refine bE hm fun kind_ h6 hm => ?_
  refine sv_set (K := K) (ev_modR (ev_var rfl r_number_)) h6 xt.gh fun v1 G2 H3 x4 r5 => ?_
  have xt := xt.trans x4
  have r_number_ := Rp.mono x4.gg r_number_
  have r_many_ := Rp.mono x4.gg r_many_
  refine bE hm fun b7 h8 hm => ?_
  refine sv_if (tv_test (K := K) (ev_eqI (ev_var rfl r5) ev_i)) h8 xt.gh fun G9 H10 x11 => ?_
  have xt := xt.trans x11
  have r_number_ := Rp.mono x11.gg r_number_
  have r_many_ := Rp.mono x11.gg r_many_
  have r5 := Rp.mono x11.gg r5
  cases b7 with
  | true =>
    replace hm := cT hm
    refine iteT ?_
    exact sv_ret (K := K) (rest := tNext) (σ := [some v_number_, some v_many_, some v1, none, none]) (ev_tupRk (lv_cons (ev_toS ev_s) (lv_nil (α := SI)))) hm xt.gh fun v12 G13 H14 x15 r16 => q v12 G13 H14 (xt.trans x15) r16
  | false =>
    replace hm := cF hm
    refine iteF ?_
    refine bE hm fun b17 h18 hm => ?_
    refine sv_if (tv_orP (tv_test (K := K) (ev_ord (ev_var rfl r5) ev_i)) (tv_test (K := K) (ev_eqI (ev_var rfl r_many_) ev_i))) h18 xt.gh fun G19 H20 x21 => ?_
    have xt := xt.trans x21
    have r_number_ := Rp.mono x21.gg r_number_
    have r_many_ := Rp.mono x21.gg r_many_
    have r5 := Rp.mono x21.gg r5
    cases b17 with
    | true =>
      replace hm := cT hm
      refine iteT ?_
      exact sv_ret (K := K) (ev_tupRk (lv_cons (ev_toS ev_s) (lv_cons (ev_toS (ev_atS ev_s (ev_modR (ev_divR (ev_var rfl r_number_))))) (lv_nil (α := SI))))) hm xt.gh fun v28 G29 H30 x31 r32 => q v28 G29 H30 (xt.trans x31) r32
    | false =>
      replace hm := cF hm
      refine iteF ?_
      refine bE hm fun one_ h40 hm => ?_
      refine sv_set (K := K) (ev_def2 (m := mm_law_part) (ev_divR (ev_var rfl r_number_)) (ev_var rfl r_many_)) h40 xt.gh fun v35 G36 H37 x38 r39 => ?_
      have xt := xt.trans x38
      have r_number_ := Rp.mono x38.gg r_number_
      have r_many_ := Rp.mono x38.gg r_many_
      have r5 := Rp.mono x38.gg r5
      refine bE hm fun b41 h42 hm => ?_
      refine sv_if (tv_test (K := K) (ev_ord (ev_var rfl r5) ev_i)) h42 xt.gh fun G43 H44 x45 => ?_
      have xt := xt.trans x45
      have r_number_ := Rp.mono x45.gg r_number_
      have r_many_ := Rp.mono x45.gg r_many_
      have r5 := Rp.mono x45.gg r5
      have r39 := Rp.mono x45.gg r39
      cases b41 with
      | true =>
        replace hm := cT hm
        refine iteT ?_
        exact sv_ret (K := K) (ev_tupRk (lv_cons (ev_toS ev_s) (lv_cons (ev_toI (ev_var rfl r39)) (lv_nil (α := SI))))) hm xt.gh fun v46 G47 H48 x49 r50 => q v46 G47 H48 (xt.trans x49) r50
      | false =>
        replace hm := cF hm
        refine iteF ?_
        refine bE hm fun b51 h52 hm => ?_
        refine sv_if (tv_test (K := K) (ev_ord (ev_var rfl r5) ev_i)) h52 xt.gh fun G53 H54 x55 => ?_
        have xt := xt.trans x55
        have r_number_ := Rp.mono x55.gg r_number_
        have r_many_ := Rp.mono x55.gg r_many_
        have r5 := Rp.mono x55.gg r5
        have r39 := Rp.mono x55.gg r39
        cases b51 with
        | true =>
          replace hm := cT hm
          refine iteT ?_
          exact sv_ret (K := K) (ev_tupRk (lv_cons (ev_toS ev_s) (lv_cons (ev_toI (ev_var rfl r39)) (lv_nil (α := SI))))) hm xt.gh fun v56 G57 H58 x59 r60 => q v56 G57 H58 (xt.trans x59) r60
        | false =>
          replace hm := cF hm
          refine iteF ?_
          refine bE hm fun other_ h68 hm => ?_
          refine sv_set (K := K) (ev_def2 (m := mm_law_part) (ev_modR (ev_mulR (ev_divR (ev_var rfl r_number_)))) (ev_var rfl r_many_)) h68 xt.gh fun v63 G64 H65 x66 r67 => ?_
          have xt := xt.trans x66
          have r_number_ := Rp.mono x66.gg r_number_
          have r_many_ := Rp.mono x66.gg r_many_
          have r5 := Rp.mono x66.gg r5
          have r39 := Rp.mono x66.gg r39
          exact sv_ret (K := K) (ev_tupRk (lv_cons (ev_toS (ev_at (FV.ev (fv_lst (lv_cons ev_s (lv_cons ev_s (lv_nil (α := Str)))))) (ev_modR (ev_var rfl r5)))) (lv_cons (ev_toI (ev_var rfl r39)) (lv_cons (ev_toI (ev_var rfl r67)) (lv_nil (α := SI)))))) hm xt.gh fun v74 G75 H76 x77 r78 => q v74 G75 H76 (xt.trans x77) r78
theorem ok_law_size {f : Addr} {fd : FuncData} (F : Fun K "_law_size" "_law_size" s_law_size f fd) (T : Txt mg) : FnOk P w K mg base CX0 1 f fd ["_law_row_here", "_law_sizes"] (spM K mm_law_size) := by
  refine F.ok sc_law_size (fun vs H Q E h => (spM_len h).trans rfl) (fun cdv A outer s H0 vs Q E hr h => ?_)
  obtain ⟨G0, ⟨row_here_, ⟨sizes_, ⟨⟩⟩⟩, res, sg0, ⟨v_row_here_, _, rfl, r_row_here_, ⟨v_sizes_, _, rfl, r_sizes_, rfl⟩⟩, hm, q⟩ := h
  replace r_row_here_ : Rp.rel K G0 v_row_here_ row_here_ := r_row_here_
  replace r_sizes_ : Rp.rel K G0 v_sizes_ sizes_ := r_sizes_
  replace hm : m_law_size row_here_ sizes_ = some res := hm
  unfold m_law_size at hm
  have xt : Ext G0 H0 G0 H0 := Ext.refl sg0
  refine ⟨_, (pss_cons (ps_if (pt_cmpR op_eq (pe_ix (ix_anyK (K := K) rfl) (pv 0) pe_int (fun _ _ => rfl)) pe_str (nomark _)) (pss_cons (ps_ret (pe_tup (pa_cons pe_int (pa_cons pe_int pa_nil))))
      pss_nil) pss_nil)
      (pss_cons (ps_set (i := 2) sc_law_size.nd rfl (Or.inl rfl) (pe_op (op_plusK (K := K) rfl) (pe_comp (cn := ["_law_sizes"]) (cap := [1]) rfl ⟨by decide +kernel, rfl, by decide +kernel, free_of rfl⟩ rfl (by decide +kernel) ⟨⟨rfl, .inl rfl, rfl⟩, trivial⟩ (pi_anyK (K := K) rfl (pe_slice (sl_tupK (K := K) rfl) (pv 0) (po_some pe_int) po_none)) (fun C s0 H0 fp => ⟨pts_nil, (pe_ix (ix_anyK (K := K) rfl) (pv 1) (pv 0) (fun _ _ => rfl))⟩)) (pe_lst (pa_cons (pe_tup (pa_cons pe_int (pa_cons pe_int pa_nil))) pa_nil))))
      (pss_cons (ps_ret (pe_tup (pa_cons (pe_op (op_plusK (K := K) rfl) pe_int (pe_callB (call_sumK (K := K) rfl rfl) (by rfl) T.sum_ bt_sum (pa_cons (pe_comp (cn := []) (cap := []) rfl ⟨by decide +kernel, rfl, by decide +kernel, free_of rfl⟩ rfl (by decide +kernel) trivial (pi_anyK (K := K) rfl (pv 2)) (fun C s0 H0 fp => ⟨pts_nil, (pe_ix (ix_anyK (K := K) rfl) (pv 0) pe_int (fun _ _ => rfl))⟩)) pa_nil))) (pa_cons (pe_op (op_plusK (K := K) rfl) pe_int (pe_callB (call_maxLK (K := K) rfl rfl) (by rfl) T.max_ bt_max (pa_cons (pe_comp (cn := []) (cap := []) rfl ⟨by decide +kernel, rfl, by decide +kernel, free_of rfl⟩ rfl (by decide +kernel) trivial (pi_anyK (K := K) rfl (pv 2)) (fun C s0 H0 fp => ⟨pts_nil, (pe_ix (ix_anyK (K := K) rfl) (pv 0) pe_int (fun _ _ => rfl))⟩)) pa_nil))) pa_nil))))
      pss_nil))), ?_⟩
  refine bE hm fun b7 h8 hm => ?_
  refine sv_if (tv_test (K := K) (ev_eqS (ev_asS (ev_atT (ev_rkT (ev_var rfl r_row_here_)) ev_i)) ev_s)) h8 xt.gh fun G9 H10 x11 => ?_
  have xt := xt.trans x11
  have r_row_here_ := Rp.mono x11.gg r_row_here_
  have r_sizes_ := Rp.mono x11.gg r_sizes_
  cases b7 with
  | true =>
    replace hm := cT hm
    refine iteT ?_
    exact sv_ret (K := K) (rest := tNext) (σ := [some v_row_here_, some v_sizes_, none]) (ev_tup2 ev_i ev_i) hm xt.gh fun v12 G13 H14 x15 r16 => q v12 G13 H14 (xt.trans x15) r16
  | false =>
    replace hm := cF hm
    refine iteF ?_
    refine bE hm fun some_ h36 hm => ?_
    refine sv_set (K := K) (FV.ev (fv_cat (FV.ev (fv_map (cap := [1]) (fe := fun (number_ : SI) => ((some sizes_).bind fun t26 => ((some number_).bind fun t25 => asI t25).bind fun t27 => atI t26 t27)) (iw_tup (ev_sliceT (ev_rkT (ev_var rfl r_row_here_)) (ov_some (K := K) ev_i) ov_none)) fun xc24 number_ Gc21 sc22 rc23 => (ev_at (ev_var rfl (Rp.mono sc22 r_sizes_)) (ev_asI (ev_var rfl rc23))))) (FV.ev (fv_lst (lv_cons (ev_tup2 ev_i ev_i) (lv_nil (α := (Int × Int)))))))) h36 xt.gh fun v31 G32 H33 x34 r35 => ?_
    have xt := xt.trans x34
    have r_row_here_ := Rp.mono x34.gg r_row_here_
    have r_sizes_ := Rp.mono x34.gg r_sizes_
    exact sv_ret (K := K) (ev_tup2 (ev_add ev_i (ev_sum (FV.ev (fv_map (cap := []) (fe := fun (size_here_ : (Int × Int)) => (some size_here_.1)) (iw_list (ev_var rfl r35)) fun xc40 size_here_ Gc37 sc38 rc39 => (ev_fst (ev_var rfl rc39)))))) (ev_add ev_i (ev_maxL (FV.ev (fv_map (cap := []) (fe := fun (size_here_ : (Int × Int)) => (some size_here_.2)) (iw_list (ev_var rfl r35)) fun xc47 size_here_ Gc44 sc45 rc46 => (ev_snd (ev_var rfl rc46))))))) hm xt.gh fun v53 G54 H55 x56 r57 => q v53 G54 H55 (xt.trans x56) r57
theorem ok_law_book {f : Addr} {fd : FuncData} (F : Fun K "_law_book" "_law_book" s_law_book f fd) (T : Txt mg) (D_law_row : DefOk P w K mg base "_law_row" 2 ["_law_number", "_law_many"] (spM K mm_law_row)) (D_law_size : DefOk P w K mg base "_law_size" 1 ["_law_row_here", "_law_sizes"] (spM K mm_law_size)) : FnOk P w K mg base CX0 3 f fd ["_law_numbers_here"] (spM K mm_law_book) := by
  refine F.ok sc_law_book (fun vs H Q E h => (spM_len h).trans rfl) (fun cdv A outer s H0 vs Q E hr h => ?_)
  obtain ⟨G0, ⟨numbers_here_, ⟨⟩⟩, res, sg0, ⟨v_numbers_here_, _, rfl, r_numbers_here_, rfl⟩, hm, q⟩ := h
  replace r_numbers_here_ : Rp.rel K G0 v_numbers_here_ numbers_here_ := r_numbers_here_
  replace hm : m_law_book numbers_here_ = some res := hm
  unfold m_law_book at hm
  have xt : Ext G0 H0 G0 H0 := Ext.refl sg0
  refine ⟨_, (pss_cons (ps_set (i := 1) sc_law_book.nd rfl (Or.inl rfl) (pe_lst pa_nil))
      (pss_cons (ps_set (i := 2) sc_law_book.nd rfl (Or.inl rfl) (pe_lst pa_nil))
      (pss_cons (ps_set (i := 3) sc_law_book.nd rfl (Or.inl rfl) pe_dnewT)
      (pss_cons (ps_for PassesOwn.never rfl (pi_anyK (K := K) rfl (pv 0)) (pg_name (i := 4) sc_law_book.nd rfl (Or.inl rfl)) (pss_cons (ps_set (i := 5) sc_law_book.nd rfl (Or.inl rfl) (pe_def D_law_row hr (by decide) rfl (pa_cons (pv 4) (pa_cons (pe_callB (call_lenK (K := K) rfl) (by rfl) T.len_ bt_len (pa_cons (pv 1) pa_nil)) pa_nil))))
      (pss_cons (ps_set (i := 6) sc_law_book.nd rfl (Or.inl rfl) (pe_def D_law_size hr (by decide) rfl (pa_cons (pv 5) (pa_cons (pv 2) pa_nil))))
      (pss_cons (ps_if (PW.pt (pw_and (pt_cmpDN (room_u hr) (pv 5) (pv 3) rfl) (pw_and (pt_cmpR op_leU (pe_ix (ix_anyK (K := K) rfl) (pv 6) pe_int (fun _ _ => rfl)) pe_int (nomark _)) (pw_and1 (pt_cmpR op_leU (pe_ix (ix_anyK (K := K) rfl) (pv 6) pe_int (fun _ _ => rfl)) pe_int (nomark _)))))) (pss_cons (ps_dput (room_u hr) (pv 3) (pv 5) pe_bl rfl)
      (pss_cons (ps_expr (pe_bmK (K := K) rfl PySem.F.plainAttrs_list PySem.F.slot_list_append PySem.F.type_list_append mt_append (pv 1) (pa_cons (pv 5) pa_nil)))
      (pss_cons (ps_expr (pe_bmK (K := K) rfl PySem.F.plainAttrs_list PySem.F.slot_list_append PySem.F.type_list_append mt_append (pv 2) (pa_cons (pv 6) pa_nil)))
      pss_nil))) pss_nil)
      pss_nil))))
      (pss_cons (ps_ret (pv 1))
      pss_nil))))), ?_⟩
  refine bE hm fun rows_ h8 hm => ?_
  refine sv_own (K := K) (fv_lst (lv_nil (α := Rk))) h8 xt.gh fun p1 vs2 G3 H4 x5 hz6 o7 => ?_
  have hz6 := xt.hh.free hz6
  have xt := xt.trans x5
  have r_numbers_here_ := Rp.mono x5.gg r_numbers_here_
  refine bE hm fun sizes_ h16 hm => ?_
  refine sv_own (K := K) (fv_lst (lv_nil (α := (Int × Int)))) h16 xt.gh fun p9 vs10 G11 H12 x13 hz14 o15 => ?_
  have ne_p1_p9 : p1 ≠ p9 := ne_of_none o7.h hz14
  have hz14 := xt.hh.free hz14
  have xt := xt.trans x13
  have r_numbers_here_ := Rp.mono x13.gg r_numbers_here_
  have o7 := o7.ext x13
  refine bE hm fun seen_ h24 hm => ?_
  refine sv_ownR (K := K) h24 xt.gh fun p17 vs18 G19 H20 x21 hz22 o23 => ?_
  have ne_p1_p17 : p1 ≠ p17 := ne_of_none o7.h hz22
  have ne_p9_p17 : p9 ≠ p17 := ne_of_none o15.h hz22
  have hz22 := xt.hh.free hz22
  have xt := xt.trans x21
  have r_numbers_here_ := Rp.mono x21.gg r_numbers_here_
  have o7 := o7.ext x21
  have o15 := o15.ext x21
  refine bE hm fun as25 h26 hm => ?_
  refine bE hm fun fl27 h28 hm => ?_
  refine sv_for (K := K) (RR := fun r v G' H' => Ext G0 H0 G' H' ∧ Rp.rel K G' v r) (iw_list (ev_var rfl r_numbers_here_)) h26 h28 xt.gh fun G29 H30 x31 => ⟨fun s32 S' G' H' => ∃ (v33 : Option V) (v34 : Option V) (v35 : Option V), Ext G0 H0 G' H' ∧ Same G29 G' ∧ S' = [some v_numbers_here_, some (V.ref p1), some (V.ref p9), some (V.ref p17), v33, v34, v35] ∧ (∃ vs, Own K G' H' (V.ref p1) p1 vs s32.1) ∧ (∃ vs, Own K G' H' (V.ref p9) p9 vs s32.2.1) ∧ (∃ vs, OwnR K G' H' (V.ref p17) p17 vs s32.2.2), ?_, ?_, ?_, ?_, ?_⟩
  · have xt := xt.trans x31
    have r_numbers_here_ := Rp.mono x31.gg r_numbers_here_
    have o7 := o7.ext x31
    have o15 := o15.ext x31
    have o23 := o23.ext x31
    exact ⟨_, _, _, xt, (Same.refl _), rfl, ⟨_, o7⟩, ⟨_, o15⟩, ⟨_, o23⟩⟩
  · rintro _ S' G' H' ⟨v33, v34, v35, xt, mk36, rfl, ⟨vs2, o7⟩, ⟨vs10, o15⟩, ⟨vs18, o23⟩⟩
    exact ⟨mk36, xt.gh⟩
  · rintro xv37 a38 s32 _ G41 H42 fl39 - ⟨v33, v34, v35, xt, mk36, rfl, ⟨vs2, o7⟩, ⟨vs10, o15⟩, ⟨vs18, o23⟩⟩ rx40 hm D' kN43 kC44 kB45 kR46
    have r_numbers_here_ := Rp.mono (x31.gg.trans mk36) r_numbers_here_
    refine sv_turn ?_
    refine bE hm fun row_here_ h56 hm => ?_
    refine sv_setB (K := K) o7 (ev_def2 (m := mm_law_row) (ev_var rfl (Rp.mono (Same.new o7.g) rx40)) (ev_len (ev_var rfl o7.tell))) h56 xt.gh fun v51 G52 H53 x54 r55 => ?_
    have xt := xt.trans x54
    have mk36 := mk36.trans x54.gg
    have r_numbers_here_ := Rp.mono x54.gg r_numbers_here_
    have o7 := o7.ext x54
    have o15 := o15.ext x54
    have o23 := o23.ext x54
    have rx40 := Rp.mono x54.gg rx40
    refine bE hm fun size_here_ h66 hm => ?_
    refine sv_setB (K := K) o15 (ev_def2 (m := mm_law_size) (ev_var rfl (Rp.mono (Same.new o15.g) r55)) (ev_var rfl o15.tell)) h66 xt.gh fun v61 G62 H63 x64 r65 => ?_
    have xt := xt.trans x64
    have mk36 := mk36.trans x64.gg
    have r_numbers_here_ := Rp.mono x64.gg r_numbers_here_
    have o7 := o7.ext x64
    have o15 := o15.ext x64
    have o23 := o23.ext x64
    have rx40 := Rp.mono x64.gg rx40
    have r55 := Rp.mono x64.gg r55
    refine bE hm fun b67 h68 hm => ?_
    refine sv_ifR o23 (tv_andP (tv_test (K := K) (ev_notInR (ev_var rfl (Rp.mono (Same.new o23.g) r55)) (ev_var rfl o23.tell))) (tv_andP (tv_test (K := K) (ev_ord (ev_fst (ev_var rfl (Rp.mono (Same.new o23.g) r65))) ev_i)) (tv_test (K := K) (ev_ord (ev_snd (ev_var rfl (Rp.mono (Same.new o23.g) r65))) ev_i)))) h68 xt.gh fun G69 H70 x71 => ?_
    have xt := xt.trans x71
    have mk36 := mk36.trans x71.gg
    have r_numbers_here_ := Rp.mono x71.gg r_numbers_here_
    have o7 := o7.ext x71
    have o15 := o15.ext x71
    have o23 := o23.ext x71
    have rx40 := Rp.mono x71.gg rx40
    have r55 := Rp.mono x71.gg r55
    have r65 := Rp.mono x71.gg r65
    cases b67 with
    | true =>
      replace hm := cT hm
      refine iteT ?_
      refine bE hm fun a72 h73 hm => ?_
      refine bE hm fun k74 h75 hm => ?_
      refine bE hm fun z82 h76 hm => ?_
      refine sv_dputR (K := K) rfl o23 ev_b h73 (ev_var rfl r55) h75 h76 xt.gh fun G77 H78 w79 x80 o81 => ?_
      have xt : Ext G0 H0 G77 (upd H78 p17 (.dT (putK vs18 (rowK k74.tp) w79))) := (xt.trans x80).put hz22 o81.g
      have mk36 := mk36.trans x80.gg
      have r_numbers_here_ := Rp.mono x80.gg r_numbers_here_
      have o7 := (o7.ext x80).put (q := p17) (ho := .dT (putK vs18 (rowK k74.tp) w79)) (by first | assumption | exact Ne.symm (by assumption))
      have o15 := (o15.ext x80).put (q := p17) (ho := .dT (putK vs18 (rowK k74.tp) w79)) (by first | assumption | exact Ne.symm (by assumption))
      have rx40 := Rp.mono x80.gg rx40
      have r55 := Rp.mono x80.gg r55
      have r65 := Rp.mono x80.gg r65
      refine bE hm fun a83 h84 hm => ?_
      refine bE hm fun z91 h85 hm => ?_
      refine sv_append (K := K) rfl o7 (ev_var rfl r55) h84 h85 xt.gh fun G86 H87 w88 x89 o90 => ?_
      have xt : Ext G0 H0 G86 (upd H87 p1 (.lst (vs2 ++ [w88]))) := (xt.trans x89).put hz6 o90.g
      have mk36 := mk36.trans x89.gg
      have r_numbers_here_ := Rp.mono x89.gg r_numbers_here_
      have o15 := (o15.ext x89).put (q := p1) (ho := .lst (vs2 ++ [w88])) (by first | assumption | exact Ne.symm (by assumption))
      have o81 := (o81.ext x89).put (q := p1) (ho := .lst (vs2 ++ [w88])) (by first | assumption | exact Ne.symm (by assumption))
      have rx40 := Rp.mono x89.gg rx40
      have r55 := Rp.mono x89.gg r55
      have r65 := Rp.mono x89.gg r65
      refine bE hm fun a92 h93 hm => ?_
      refine bE hm fun z100 h94 hm => ?_
      refine sv_append (K := K) rfl o15 (ev_var rfl r65) h93 h94 xt.gh fun G95 H96 w97 x98 o99 => ?_
      have xt : Ext G0 H0 G95 (upd H96 p9 (.lst (vs10 ++ [w97]))) := (xt.trans x98).put hz14 o99.g
      have mk36 := mk36.trans x98.gg
      have r_numbers_here_ := Rp.mono x98.gg r_numbers_here_
      have o90 := (o90.ext x98).put (q := p9) (ho := .lst (vs10 ++ [w97])) (by first | assumption | exact Ne.symm (by assumption))
      have o81 := (o81.ext x98).put (q := p9) (ho := .lst (vs10 ++ [w97])) (by first | assumption | exact Ne.symm (by assumption))
      have rx40 := Rp.mono x98.gg rx40
      have r55 := Rp.mono x98.gg r55
      have r65 := Rp.mono x98.gg r65
      cases hm
      exact kN43 _ _ _ _ rfl ⟨_, _, _, xt, mk36, rfl, ⟨_, o90⟩, ⟨_, o99⟩, ⟨_, o81⟩⟩
    | false =>
      replace hm := cF hm
      refine iteF ?_
      cases hm
      exact kN43 _ _ _ _ rfl ⟨_, _, _, xt, mk36, rfl, ⟨_, o7⟩, ⟨_, o15⟩, ⟨_, o23⟩⟩
  · rintro s32 _ G105 H106 rfl ⟨v101, v102, v103, xt, mk104, rfl, ⟨vs2, o7⟩, ⟨vs10, o15⟩, ⟨vs18, o23⟩⟩
    refine sv_nx ?_
    have r_numbers_here_ := Rp.mono (x31.gg.trans mk104) r_numbers_here_
    have sf := Same.new (o := .lst vs2) o7.g
    have xt := xt.frz hz6 o7.g o7.h
    have r107 := o7.tell
    have r_numbers_here_ := Rp.mono sf r_numbers_here_
    have o15 := o15.over (o := .lst vs2) (by first | assumption | exact Ne.symm (by assumption)) o7.g
    have o23 := o23.over (o := .lst vs2) (by first | assumption | exact Ne.symm (by assumption)) o7.g
    exact sv_ret (K := K) (ev_var rfl r107) hm xt.gh fun v108 G109 H110 x111 r112 => q v108 G109 H110 (xt.trans x111) r112
  · rintro r' v' G' H' rfl rl
    cases hm
    exact q v' G' H' rl.1 rl.2
theorem ok_law_cell_at {f : Addr} {fd : FuncData} (F : Fun K "_law_cell_at" "_law_cell_at" s_law_cell_at f fd) (T : Txt mg) : FnOk P w K mg base CX0 1 f fd ["_law_script", "_law_k"] (spM K mm_law_cell_at) := by
  refine F.ok sc_law_cell_at (fun vs H Q E h => (spM_len h).trans rfl) (fun cdv A outer s H0 vs Q E hr h => ?_)
  obtain ⟨G0, ⟨script_, ⟨k_, ⟨⟩⟩⟩, res, sg0, ⟨v_script_, _, rfl, r_script_, ⟨v_k_, _, rfl, r_k_, rfl⟩⟩, hm, q⟩ := h
  replace r_script_ : Rp.rel K G0 v_script_ script_ := r_script_
  replace r_k_ : Rp.rel K G0 v_k_ k_ := r_k_
  replace hm : m_law_cell_at script_ k_ = some res := hm
  unfold m_law_cell_at at hm
  have xt : Ext G0 H0 G0 H0 := Ext.refl sg0
  refine ⟨_, (pss_cons (ps_if (pt_cmpR op_ltU (pv 1) (pe_callB (call_lenK (K := K) rfl) (by rfl) T.len_ bt_len (pa_cons (pv 0) pa_nil)) (nomark _)) (pss_cons (ps_ret (pe_ix (ix_anyK (K := K) rfl) (pv 0) (pv 1) (fun _ _ => rfl)))
      pss_nil) pss_nil)
      (pss_cons (ps_ret pe_int)
      pss_nil)), ?_⟩
  refine bE hm fun b1 h2 hm => ?_
  refine sv_if (tv_test (K := K) (ev_ord (ev_var rfl r_k_) (ev_lenX (ev_var rfl r_script_)))) h2 xt.gh fun G3 H4 x5 => ?_
  have xt := xt.trans x5
  have r_script_ := Rp.mono x5.gg r_script_
  have r_k_ := Rp.mono x5.gg r_k_
  cases b1 with
  | true =>
    replace hm := cT hm
    refine iteT ?_
    exact sv_ret (K := K) (ev_atX (ev_var rfl r_script_) (ev_var rfl r_k_)) hm xt.gh fun v8 G9 H10 x11 r12 => q v8 G9 H10 (xt.trans x11) r12
  | false =>
    replace hm := cF hm
    refine iteF ?_
    exact sv_ret (K := K) (rest := tNext) (σ := [some v_script_, some v_k_]) ev_i hm xt.gh fun v13 G14 H15 x16 r17 => q v13 G14 H15 (xt.trans x16) r17
theorem ok_hopes {f : Addr} {fd : FuncData} (F : Fun K "hopes" "hopes" s_hopes f fd) (T : Txt mg) : FnOk P w K mg base CX0 1 f fd ["rows"] (spL K mm_hopes) := by
  refine F.ok sc_hopes (fun vs H Q E h => (spL_len h).trans rfl) (fun cdv A outer s H0 vs Q E hr h => ?_)
  obtain ⟨G0, ⟨rows_, ⟨⟩⟩, res, sg0, ⟨v_rows_, _, rfl, r_rows_, rfl⟩, hm, q⟩ := h
  replace r_rows_ : Rp.rel K G0 v_rows_ rows_ := r_rows_
  replace hm : m_hopes rows_ = some res := hm
  unfold m_hopes at hm
  have xt : Ext G0 H0 G0 H0 := Ext.refl sg0
  refine ⟨_, (pss_cons (ps_ret (pe_comp2 (cn := []) (cap := []) rfl ⟨by decide +kernel, rfl, by decide +kernel, free_of rfl⟩ rfl rfl (by decide +kernel) trivial (pi_enum (K := K) rfl rfl T.enumerate_ (pa_cons (pv 0) pa_nil)) (fun C s0 H0 fp => ⟨(pts_one (pt_cmpR op_eq (pe_ix (ix_anyK (K := K) rfl) (pv 1) pe_int (fun _ _ => rfl)) pe_str (nomark _))), (pv 0)⟩)))
      pss_nil), ?_⟩
  exact sv_retL (K := K) (fv_comp2 (cap := []) (fc := fun (pc5 : (Int × Rk)) => ((((some pc5.2.tp).bind fun t8 => (some (0 : Int)).bind fun t9 => atI t8.l t9).bind fun t10 => asS t10).bind fun t11 => (some (decide (t11 = ("until" : Str)))))) (fe := fun (pc5 : (Int × Rk)) => (some pc5.1)) (if_list (ev_var rfl r_rows_)) fun xc4 pc5 Gc1 sc2 rc3 => ⟨(tv_test (K := K) (ev_eqS (ev_asS (ev_atT (ev_rkT (ev_var rfl rc3)) ev_i)) ev_s)), (ev_var rfl (rel_i (K := K) Gc1 pc5.1))⟩) hm xt.gh fun p13 vs14 G15 H16 x17 h18 o19 => q _ _ _ _ (xt.trans x17) (xt.hh.free h18) o19
theorem ok_waits {f : Addr} {fd : FuncData} (F : Fun K "waits" "waits" s_waits f fd) (T : Txt mg) (D_hopes : DefOk P w K mg base "hopes" 1 ["rows"] (spL K mm_hopes)) : FnOk P w K mg base CX0 2 f fd ["rows"] (spL K mm_waits) := by
  refine F.ok sc_waits (fun vs H Q E h => (spL_len h).trans rfl) (fun cdv A outer s H0 vs Q E hr h => ?_)
  obtain ⟨G0, ⟨rows_, ⟨⟩⟩, res, sg0, ⟨v_rows_, _, rfl, r_rows_, rfl⟩, hm, q⟩ := h
  replace r_rows_ : Rp.rel K G0 v_rows_ rows_ := r_rows_
  replace hm : m_waits rows_ = some res := hm
  unfold m_waits at hm
  have xt : Ext G0 H0 G0 H0 := Ext.refl sg0
  refine ⟨_, (pss_cons (ps_setcomp (i := 1) sc_waits.nd rfl (Or.inl rfl) (cn := []) (cap := []) rfl ⟨by decide +kernel, rfl, by decide +kernel, free_of rfl⟩ rfl (by decide +kernel) trivial (pi_anyK (K := K) rfl (pv 0)) (fun C s0 H0 fp => ⟨(pts_one (pt_cmpR op_eq (pe_ix (ix_anyK (K := K) rfl) (pv 0) pe_int (fun _ _ => rfl)) pe_str (nomark _))), (pe_ix (ix_anyK (K := K) rfl) (pv 0) pe_int (fun _ _ => rfl))⟩))
      (pss_cons (ps_ret (pe_callB (call_sortPJ (w := w) rfl rfl) (by rfl) T.sorted_ bt_sorted (pa_cons (pe_op (op_orK (w := w) rfl) (pe_callTy (call_setL (K := K) (w := w) rfl rfl rfl) (by rfl) T.set_ bt_set (pa_cons (pe_def D_hopes hr (by decide) rfl (pa_cons (pv 0) pa_nil)) pa_nil)) (pe_callTy (call_setL (K := K) (w := w) rfl rfl rfl) (by rfl) T.set_ bt_set (pa_cons (pv 1) pa_nil))) pa_nil)))
      pss_nil)), ?_⟩
  refine bE hm fun under_next_ h20 hm => ?_
  refine sv_set (K := K) (FV.ev (fv_comp (cap := []) (fc := fun (row_ : Rk) => ((((some row_.tp).bind fun t10 => (some (0 : Int)).bind fun t11 => atI t10.l t11).bind fun t12 => asS t12).bind fun t13 => (some (decide (t13 = ("next" : Str)))))) (fe := fun (row_ : Rk) => (((some row_.tp).bind fun t5 => (some (1 : Int)).bind fun t6 => atI t5.l t6).bind fun t7 => asI t7)) (iw_list (ev_var rfl r_rows_)) fun xc4 row_ Gc1 sc2 rc3 => ⟨(tv_test (K := K) (ev_eqS (ev_asS (ev_atT (ev_rkT (ev_var rfl rc3)) ev_i)) ev_s)), (ev_asI (ev_atT (ev_rkT (ev_var rfl rc3)) ev_i))⟩)) h20 xt.gh fun v15 G16 H17 x18 r19 => ?_
  have xt := xt.trans x18
  have r_rows_ := Rp.mono x18.gg r_rows_
  exact sv_retL (K := K) (fv_sortOrJ (w := w) (FV.ev (fv_def1 (m := mm_hopes) (ev_var rfl r_rows_))) (ev_var rfl r19)) hm xt.gh fun p24 vs25 G26 H27 x28 h29 o30 => q _ _ _ _ (xt.trans x28) (xt.hh.free h29) o30
theorem ok_lamps_in {f : Addr} {fd : FuncData} (F : Fun K "lamps_in" "lamps_in" s_lamps_in f fd) (T : Txt mg) : FnOk P w K mg base CX0 1 f fd ["rows"] (spM K mm_lamps_in) := by
  refine F.ok sc_lamps_in (fun vs H Q E h => (spM_len h).trans rfl) (fun cdv A outer s H0 vs Q E hr h => ?_)
  obtain ⟨G0, ⟨rows_, ⟨⟩⟩, res, sg0, ⟨v_rows_, _, rfl, r_rows_, rfl⟩, hm, q⟩ := h
  replace r_rows_ : Rp.rel K G0 v_rows_ rows_ := r_rows_
  replace hm : m_lamps_in rows_ = some res := hm
  unfold m_lamps_in at hm
  have xt : Ext G0 H0 G0 H0 := Ext.refl sg0
  refine ⟨_, (pss_cons (ps_ret (pe_bmK (K := K) rfl PySem.F.plainAttrs_str PySem.F.slot_str_join PySem.F.type_str_join (mt_joinK (K := K) rfl) pe_str (pa_cons (pe_callB (call_sortPS (w := w) rfl rfl) (by rfl) T.sorted_ bt_sorted (pa_cons (pe_callTy (call_setL (K := K) (w := w) rfl rfl rfl) (by rfl) T.set_ bt_set (pa_cons (pe_comp (cn := []) (cap := []) rfl ⟨by decide +kernel, rfl, by decide +kernel, free_of rfl⟩ rfl (by decide +kernel) trivial (pi_anyK (K := K) rfl (pv 0)) (fun C s0 H0 fp => ⟨(pts_one (pt_cmpR op_eq (pe_ix (ix_anyK (K := K) rfl) (pv 0) pe_int (fun _ _ => rfl)) pe_str (nomark _))), (pe_ix (ix_anyK (K := K) rfl) (pv 0) pe_int (fun _ _ => rfl))⟩)) pa_nil)) pa_nil)) pa_nil)))
      pss_nil), ?_⟩
  exact sv_ret (K := K) (ev_join ev_s (FV.ev (fv_sortSetS (w := w) (FV.ev (fv_comp (cap := []) (fc := fun (row_ : Rk) => ((((some row_.tp).bind fun t23 => (some (0 : Int)).bind fun t24 => atI t23.l t24).bind fun t25 => asS t25).bind fun t26 => (some (decide (t26 = ("lamp" : Str)))))) (fe := fun (row_ : Rk) => (((some row_.tp).bind fun t18 => (some (1 : Int)).bind fun t19 => atI t18.l t19).bind fun t20 => asS t20)) (iw_list (ev_var rfl r_rows_)) fun xc17 row_ Gc14 sc15 rc16 => ⟨(tv_test (K := K) (ev_eqS (ev_asS (ev_atT (ev_rkT (ev_var rfl rc16)) ev_i)) ev_s)), (ev_asS (ev_atT (ev_rkT (ev_var rfl rc16)) ev_i))⟩))))) hm xt.gh fun v31 G32 H33 x34 r35 => q v31 G32 H33 (xt.trans x34) r35
theorem ok_law_waits {f : Addr} {fd : FuncData} (F : Fun K "_law_waits" "_law_waits" s_law_waits f fd) (T : Txt mg) : FnOk P w K mg base CX0 1 f fd ["_law_rows"] (spM K mm_law_waits) := by
  refine F.ok sc_law_waits (fun vs H Q E h => (spM_len h).trans rfl) (fun cdv A outer s H0 vs Q E hr h => ?_)
  obtain ⟨G0, ⟨rows_, ⟨⟩⟩, res, sg0, ⟨v_rows_, _, rfl, r_rows_, rfl⟩, hm, q⟩ := h
  replace r_rows_ : Rp.rel K G0 v_rows_ rows_ := r_rows_
  replace hm : m_law_waits rows_ = some res := hm
  unfold m_law_waits at hm
  have xt : Ext G0 H0 G0 H0 := Ext.refl sg0
  refine ⟨_, (pss_cons (ps_setcomp (i := 1) sc_law_waits.nd rfl (Or.inl rfl) (cn := []) (cap := []) rfl ⟨by decide +kernel, rfl, by decide +kernel, free_of rfl⟩ rfl (by decide +kernel) trivial (pi_anyK (K := K) rfl (pv 0)) (fun C s0 H0 fp => ⟨(pts_one (pt_cmpR op_eq (pe_ix (ix_anyK (K := K) rfl) (pv 0) pe_int (fun _ _ => rfl)) pe_str (nomark _))), (pe_ix (ix_anyK (K := K) rfl) (pv 0) pe_int (fun _ _ => rfl))⟩))
      (pss_cons (ps_set (i := 1) sc_law_waits.nd rfl (Or.inl rfl) (pe_op (op_plusK (K := K) rfl) (pv 1) (pe_comp (cn := ["_law_rows"]) (cap := [0]) rfl ⟨by decide +kernel, rfl, by decide +kernel, free_of rfl⟩ rfl (by decide +kernel) ⟨⟨rfl, .inl rfl, rfl⟩, trivial⟩ (pi_range1 rfl T.range_ (pa_cons (pe_callB (call_lenK (K := K) rfl) (by rfl) T.len_ bt_len (pa_cons (pv 0) pa_nil)) pa_nil)) (fun C s0 H0 fp => ⟨(pts_one (pt_cmpR op_eq (pe_ix (ix_anyK (K := K) rfl) (pe_ix (ix_anyK (K := K) rfl) (pv 1) (pv 0) (fun _ _ => rfl)) pe_int (fun _ _ => rfl)) pe_str (nomark _))), (pv 0)⟩))))
      (pss_cons (ps_ret (pe_callB (call_sortPJ (w := w) rfl rfl) (by rfl) T.sorted_ bt_sorted (pa_cons (pe_callTy (call_setL (K := K) (w := w) rfl rfl rfl) (by rfl) T.set_ bt_set (pa_cons (pv 1) pa_nil)) pa_nil)))
      pss_nil))), ?_⟩
  refine bE hm fun asked_here_ h20 hm => ?_
  refine sv_set (K := K) (FV.ev (fv_comp (cap := []) (fc := fun (row_here_ : Rk) => ((((some row_here_.tp).bind fun t10 => (some (0 : Int)).bind fun t11 => atI t10.l t11).bind fun t12 => asS t12).bind fun t13 => (some (decide (t13 = ("next" : Str)))))) (fe := fun (row_here_ : Rk) => (((some row_here_.tp).bind fun t5 => (some (1 : Int)).bind fun t6 => atI t5.l t6).bind fun t7 => asI t7)) (iw_list (ev_var rfl r_rows_)) fun xc4 row_here_ Gc1 sc2 rc3 => ⟨(tv_test (K := K) (ev_eqS (ev_asS (ev_atT (ev_rkT (ev_var rfl rc3)) ev_i)) ev_s)), (ev_asI (ev_atT (ev_rkT (ev_var rfl rc3)) ev_i))⟩)) h20 xt.gh fun v15 G16 H17 x18 r19 => ?_
  have xt := xt.trans x18
  have r_rows_ := Rp.mono x18.gg r_rows_
  refine bE hm fun asked_here_ h46 hm => ?_
  refine sv_set (K := K) (FV.ev (fv_cat (ev_var rfl r19) (FV.ev (fv_comp (cap := [0]) (fc := fun (k_ : Int) => ((((((some rows_).bind fun t31 => (some k_).bind fun t32 => atI t31 t32).bind fun t33 => (some t33.tp)).bind fun t34 => (some (0 : Int)).bind fun t35 => atI t34.l t35).bind fun t36 => asS t36).bind fun t37 => (some (decide (t37 = ("until" : Str)))))) (fe := fun (k_ : Int) => (some k_)) (iw_rng1 (ev_len (ev_var rfl r_rows_))) fun xc25 k_ Gc22 sc23 rc24 => ⟨(tv_test (K := K) (ev_eqS (ev_asS (ev_atT (ev_rkT (ev_at (ev_var rfl (Rp.mono sc23 r_rows_)) (ev_var rfl rc24))) ev_i)) ev_s)), (ev_var rfl rc24)⟩)))) h46 xt.gh fun v41 G42 H43 x44 r45 => ?_
  have xt := xt.trans x44
  have r_rows_ := Rp.mono x44.gg r_rows_
  have r19 := Rp.mono x44.gg r19
  exact sv_ret (K := K) (FV.ev (fv_sortSetJ (w := w) (ev_var rfl r45))) hm xt.gh fun v48 G49 H50 x51 r52 => q v48 G49 H50 (xt.trans x51) r52
theorem ok_law_numbers_alike {f : Addr} {fd : FuncData} (F : Fun K "_law_numbers_alike" "_law_numbers_alike" s_law_numbers_alike f fd) (T : Txt mg) : FnOk P w K mg base CX0 1 f fd ["_law_some", "_law_due"] (spM K mm_law_numbers_alike) := by
  refine F.ok sc_law_numbers_alike (fun vs H Q E h => (spM_len h).trans rfl) (fun cdv A outer s H0 vs Q E hr h => ?_)
  obtain ⟨G0, ⟨some_, ⟨due_, ⟨⟩⟩⟩, res, sg0, ⟨v_some_, _, rfl, r_some_, ⟨v_due_, _, rfl, r_due_, rfl⟩⟩, hm, q⟩ := h
  replace r_some_ : Rp.rel K G0 v_some_ some_ := r_some_
  replace r_due_ : Rp.rel K G0 v_due_ due_ := r_due_
  replace hm : m_law_numbers_alike some_ due_ = some res := hm
  unfold m_law_numbers_alike at hm
  have xt : Ext G0 H0 G0 H0 := Ext.refl sg0
  refine ⟨_, (pss_cons (ps_if (PW.pt (pw_or (pt_not (pt_truthK (K := K) rfl (pe_callB (call_instK (K := K) rfl) (by rfl) T.isinstance_ bt_isinstance (pa_cons (pv 0) (pa_cons (pe_bltn (v := .ty "list") rfl T.list_ bt_list rfl) pa_nil))) (fun _ => rfl))) (pw_or1 (pt_cmpR (op_neK (K := K) rfl (List Int) hr (by decide)) (pv 0) (pv 1) (nomark _))))) (pss_cons (ps_ret pe_bl)
      pss_nil) pss_nil)
      (pss_cons (ps_ret (pe_cmpR op_eq (pe_callB (call_lenK (K := K) rfl) (by rfl) T.len_ bt_len (pa_cons (pe_comp (cn := []) (cap := []) rfl ⟨by decide +kernel, rfl, by decide +kernel, free_of rfl⟩ rfl (by decide +kernel) trivial (pi_anyK (K := K) rfl (pv 0)) (fun C s0 H0 fp => ⟨(pts_one (PW.pt (pw_and (pt_truthK (K := K) rfl (pe_callB (call_instK (K := K) rfl) (by rfl) T.isinstance_ bt_isinstance (pa_cons (pv 0) (pa_cons (pe_bltn (v := .ty "int") rfl T.int_ bt_int rfl) pa_nil))) (fun _ => rfl)) (pw_and1 (pt_not (pt_truthK (K := K) rfl (pe_callB (call_instK (K := K) rfl) (by rfl) T.isinstance_ bt_isinstance (pa_cons (pv 0) (pa_cons (pe_bltn (v := .ty "bool") rfl T.bool_ bt_bool rfl) pa_nil))) (fun _ => rfl))))))), (pv 0)⟩)) pa_nil)) (pe_callB (call_lenK (K := K) rfl) (by rfl) T.len_ bt_len (pa_cons (pv 1) pa_nil)) (nomark _)))
      pss_nil)), ?_⟩
  refine bE hm fun b1 h2 hm => ?_
  refine sv_if (tv_orP (tv_not (tv_b (K := K) (ev_inst (b := true) (by decide +kernel) (ev_var rfl r_some_)))) (tv_test (K := K) (ev_ne (ev_var rfl r_some_) (ev_var rfl r_due_)))) h2 xt.gh fun G3 H4 x5 => ?_
  have xt := xt.trans x5
  have r_some_ := Rp.mono x5.gg r_some_
  have r_due_ := Rp.mono x5.gg r_due_
  cases b1 with
  | true =>
    replace hm := cT hm
    refine iteT ?_
    exact sv_ret (K := K) (rest := tNext) (σ := [some v_some_, some v_due_]) ev_b hm xt.gh fun v6 G7 H8 x9 r10 => q v6 G7 H8 (xt.trans x9) r10
  | false =>
    replace hm := cF hm
    refine iteF ?_
    exact sv_ret (K := K) (ev_eqI (ev_len (FV.ev (fv_comp (cap := []) (fc := fun (one_ : Int) => (some (true && (!false)))) (fe := fun (one_ : Int) => (some one_)) (iw_list (ev_var rfl r_some_)) fun xc14 one_ Gc11 sc12 rc13 => ⟨(tv_andP (tv_b (K := K) (ev_inst (b := true) (by decide +kernel) (ev_var rfl rc13))) (tv_not (tv_b (K := K) (ev_inst (b := false) (by decide +kernel) (ev_var rfl rc13))))), (ev_var rfl rc13)⟩))) (ev_len (ev_var rfl r_due_))) hm xt.gh fun v18 G19 H20 x21 r22 => q v18 G19 H20 (xt.trans x21) r22
theorem ok_law_asked {f : Addr} {fd : FuncData} (F : Fun K "_law_asked" "_law_asked" s_law_asked f fd) (T : Txt mg) (D_waits : DefOk P w K mg base "waits" 2 ["rows"] (spL K mm_waits)) (D_hopes : DefOk P w K mg base "hopes" 1 ["rows"] (spL K mm_hopes)) (D_lamps_in : DefOk P w K mg base "lamps_in" 1 ["rows"] (spM K mm_lamps_in)) (D_law_waits : DefOk P w K mg base "_law_waits" 1 ["_law_rows"] (spM K mm_law_waits)) (D_law_numbers_alike : DefOk P w K mg base "_law_numbers_alike" 1 ["_law_some", "_law_due"] (spM K mm_law_numbers_alike)) : FnOk P w K mg base CX0 3 f fd ["_law_rows", "_law_cell"] (spM K mm_law_asked) := by
  refine F.ok sc_law_asked (fun vs H Q E h => (spM_len h).trans rfl) (fun cdv A outer s H0 vs Q E hr h => ?_)
  obtain ⟨G0, ⟨rows_, ⟨cell_, ⟨⟩⟩⟩, res, sg0, ⟨v_rows_, _, rfl, r_rows_, ⟨v_cell_, _, rfl, r_cell_, rfl⟩⟩, hm, q⟩ := h
  replace r_rows_ : Rp.rel K G0 v_rows_ rows_ := r_rows_
  replace r_cell_ : Rp.rel K G0 v_cell_ cell_ := r_cell_
  replace hm : m_law_asked rows_ cell_ = some res := hm
  unfold m_law_asked at hm
  have xt : Ext G0 H0 G0 H0 := Ext.refl sg0
  refine ⟨_, (pss_cons (ps_set (i := 2) sc_law_asked.nd rfl (Or.inl rfl) (pe_callTy (call_listK (K := K) rfl) (by rfl) T.list_ bt_list (pa_cons (pv 0) pa_nil)))
      (pss_cons (ps_setcomp (i := 3) sc_law_asked.nd rfl (Or.inl rfl) (cn := ["_law_rows"]) (cap := [0]) rfl ⟨by decide +kernel, rfl, by decide +kernel, free_of rfl⟩ rfl (by decide +kernel) ⟨⟨rfl, .inl rfl, rfl⟩, trivial⟩ (pi_range1 rfl T.range_ (pa_cons (pe_callB (call_lenK (K := K) rfl) (by rfl) T.len_ bt_len (pa_cons (pv 0) pa_nil)) pa_nil)) (fun C s0 H0 fp => ⟨(pts_one (pt_cmpR op_eq (pe_ix (ix_anyK (K := K) rfl) (pe_ix (ix_anyK (K := K) rfl) (pv 1) (pv 0) (fun _ _ => rfl)) pe_int (fun _ _ => rfl)) pe_str (nomark _))), (pv 0)⟩))
      (pss_cons (ps_set (i := 4) sc_law_asked.nd rfl (Or.inl rfl) (pe_bmK (K := K) rfl PySem.F.plainAttrs_str PySem.F.slot_str_join PySem.F.type_str_join (mt_joinK (K := K) rfl) pe_str (pa_cons (pe_callB (call_sortedSB (K := K) rfl) (by rfl) T.sorted_ bt_sorted (pa_cons (pe_comp (cn := []) (cap := []) rfl ⟨by decide +kernel, rfl, by decide +kernel, free_of rfl⟩ rfl (by decide +kernel) trivial (pi_anyK (K := K) rfl (pv 0)) (fun C s0 H0 fp => ⟨(pts_one (pt_cmpR op_eq (pe_ix (ix_anyK (K := K) rfl) (pv 0) pe_int (fun _ _ => rfl)) pe_str (nomark _))), (pe_ix (ix_anyK (K := K) rfl) (pv 0) pe_int (fun _ _ => rfl))⟩)) pa_nil)) pa_nil)))
      (pss_cons (ps_for PassesOwn.never rfl (pi_range1 rfl T.range_ (pa_cons pe_int pa_nil)) (pg_name (i := 5) sc_law_asked.nd rfl (Or.inl rfl)) (pss_cons (ps_if (pt_cmpR op_eq (pe_op op_mod (pe_op (op_plusK (K := K) rfl) (pv 1) (pv 5)) pe_int) pe_int (nomark _)) (pss_cons (ps_set (i := 6) sc_law_asked.nd rfl (Or.inl rfl) (pe_def D_waits hr (by decide) rfl (pa_cons (pv 2) pa_nil)))
      (pss_cons (ps_if (pt_not (pt_truthK (K := K) rfl (pe_def D_law_numbers_alike hr (by decide) rfl (pa_cons (pv 6) (pa_cons (pe_def D_law_waits hr (by decide) rfl (pa_cons (pv 0) pa_nil)) pa_nil))) (fun _ => rfl))) (pss_cons (ps_ret pe_bl)
      pss_nil) pss_nil)
      pss_nil)) (pss_cons (ps_set (i := 6) sc_law_asked.nd rfl (Or.inl rfl) (pe_def D_hopes hr (by decide) rfl (pa_cons (pv 2) pa_nil)))
      (pss_cons (ps_if (pt_not (pt_truthK (K := K) rfl (pe_def D_law_numbers_alike hr (by decide) rfl (pa_cons (pv 6) (pa_cons (pv 3) pa_nil))) (fun _ => rfl))) (pss_cons (ps_ret pe_bl)
      pss_nil) pss_nil)
      pss_nil)))
      (pss_cons (ps_expr (pe_bmK (K := K) rfl PySem.F.plainAttrs_list PySem.F.slot_list_append PySem.F.type_list_append mt_append (pv 6) (pa_cons pe_int pa_nil)))
      pss_nil)))
      (pss_cons (ps_if (PW.pt (pw_or (pt_not (pt_truthK (K := K) rfl (pe_callB (call_instK (K := K) rfl) (by rfl) T.isinstance_ bt_isinstance (pa_cons (pe_def D_lamps_in hr (by decide) rfl (pa_cons (pv 2) pa_nil)) (pa_cons (pe_bltn (v := .ty "str") rfl T.str_ bt_str rfl) pa_nil))) (fun _ => rfl))) (pw_or1 (pt_cmpR op_ne (pe_def D_lamps_in hr (by decide) rfl (pa_cons (pv 2) pa_nil)) (pv 4) (nomark _))))) (pss_cons (ps_ret pe_bl)
      pss_nil) pss_nil)
      (pss_cons (ps_ret (pe_and (pe_cmpR (op_eqK (K := K) rfl (List Rk) hr (by decide)) (pv 2) (pv 0) (nomark _)) (pe_and (pe_cmpR (op_eqK (K := K) rfl (List Int) hr (by decide)) (pe_def D_waits hr (by decide) rfl (pa_cons (pv 0) pa_nil)) (pe_def D_law_waits hr (by decide) rfl (pa_cons (pv 0) pa_nil)) (nomark _)) (pe_one (pe_cmpR (op_eqK (K := K) rfl (List Int) hr (by decide)) (pe_def D_hopes hr (by decide) rfl (pa_cons (pv 0) pa_nil)) (pv 3) (nomark _))))))
      pss_nil)))))), ?_⟩
  refine bE hm fun handed_ h6 hm => ?_
  refine sv_set (K := K) (FV.ev (fv_list (ev_var rfl r_rows_))) h6 xt.gh fun v1 G2 H3 x4 r5 => ?_
  have xt := xt.trans x4
  have r_rows_ := Rp.mono x4.gg r_rows_
  have r_cell_ := Rp.mono x4.gg r_cell_
  refine bE hm fun due_ h30 hm => ?_
  refine sv_set (K := K) (FV.ev (fv_comp (cap := [0]) (fc := fun (k_ : Int) => ((((((some rows_).bind fun t17 => (some k_).bind fun t18 => atI t17 t18).bind fun t19 => (some t19.tp)).bind fun t20 => (some (0 : Int)).bind fun t21 => atI t20.l t21).bind fun t22 => asS t22).bind fun t23 => (some (decide (t23 = ("until" : Str)))))) (fe := fun (k_ : Int) => (some k_)) (iw_rng1 (ev_len (ev_var rfl r_rows_))) fun xc11 k_ Gc8 sc9 rc10 => ⟨(tv_test (K := K) (ev_eqS (ev_asS (ev_atT (ev_rkT (ev_at (ev_var rfl (Rp.mono sc9 r_rows_)) (ev_var rfl rc10))) ev_i)) ev_s)), (ev_var rfl rc10)⟩)) h30 xt.gh fun v25 G26 H27 x28 r29 => ?_
  have xt := xt.trans x28
  have r_rows_ := Rp.mono x28.gg r_rows_
  have r_cell_ := Rp.mono x28.gg r_cell_
  have r5 := Rp.mono x28.gg r5
  refine bE hm fun lamps_ h66 hm => ?_
  refine sv_set (K := K) (ev_join ev_s (FV.ev (fv_sortSB (FV.ev (fv_comp (cap := []) (fc := fun (row_here_ : Rk) => ((((some row_here_.tp).bind fun t53 => (some (0 : Int)).bind fun t54 => atI t53.l t54).bind fun t55 => asS t55).bind fun t56 => (some (decide (t56 = ("lamp" : Str)))))) (fe := fun (row_here_ : Rk) => (((some row_here_.tp).bind fun t48 => (some (1 : Int)).bind fun t49 => atI t48.l t49).bind fun t50 => asS t50)) (iw_list (ev_var rfl r_rows_)) fun xc47 row_here_ Gc44 sc45 rc46 => ⟨(tv_test (K := K) (ev_eqS (ev_asS (ev_atT (ev_rkT (ev_var rfl rc46)) ev_i)) ev_s)), (ev_asS (ev_atT (ev_rkT (ev_var rfl rc46)) ev_i))⟩))))) h66 xt.gh fun v61 G62 H63 x64 r65 => ?_
  have xt := xt.trans x64
  have r_rows_ := Rp.mono x64.gg r_rows_
  have r_cell_ := Rp.mono x64.gg r_cell_
  have r5 := Rp.mono x64.gg r5
  have r29 := Rp.mono x64.gg r29
  refine bE hm fun as68 h69 hm => ?_
  refine bE hm fun fl70 h71 hm => ?_
  refine sv_for (K := K) (RR := fun r v G' H' => Ext G0 H0 G' H' ∧ Rp.rel K G' v r) (iw_rng1 ev_i) h69 h71 xt.gh fun G72 H73 x74 => ⟨fun s75 S' G' H' => ∃ (v76 : Option V) (v77 : Option V), Ext G0 H0 G' H' ∧ Same G72 G' ∧ S' = [some v_rows_, some v_cell_, some v1, some v25, some v61, v76, v77], ?_, ?_, ?_, ?_, ?_⟩
  · have xt := xt.trans x74
    have r_rows_ := Rp.mono x74.gg r_rows_
    have r_cell_ := Rp.mono x74.gg r_cell_
    have r5 := Rp.mono x74.gg r5
    have r29 := Rp.mono x74.gg r29
    have r65 := Rp.mono x74.gg r65
    exact ⟨_, _, xt, (Same.refl _), rfl⟩
  · rintro _ S' G' H' ⟨v76, v77, xt, mk78, rfl⟩
    exact ⟨mk78, xt.gh⟩
  · rintro xv79 a80 s75 _ G83 H84 fl81 - ⟨v76, v77, xt, mk78, rfl⟩ rx82 hm D' kN85 kC86 kB87 kR88
    have r_rows_ := Rp.mono (x74.gg.trans mk78) r_rows_
    have r_cell_ := Rp.mono (x74.gg.trans mk78) r_cell_
    have r5 := Rp.mono (x74.gg.trans mk78) r5
    have r29 := Rp.mono (x74.gg.trans mk78) r29
    have r65 := Rp.mono (x74.gg.trans mk78) r65
    refine sv_turn ?_
    refine bE hm fun b89 h90 hm => ?_
    refine sv_if (tv_test (K := K) (ev_eqI (ev_modR (ev_add (ev_var rfl r_cell_) (ev_var rfl rx82))) ev_i)) h90 xt.gh fun G91 H92 x93 => ?_
    have xt := xt.trans x93
    have mk78 := mk78.trans x93.gg
    have r_rows_ := Rp.mono x93.gg r_rows_
    have r_cell_ := Rp.mono x93.gg r_cell_
    have r5 := Rp.mono x93.gg r5
    have r29 := Rp.mono x93.gg r29
    have r65 := Rp.mono x93.gg r65
    have rx82 := Rp.mono x93.gg rx82
    cases b89 with
    | true =>
      replace hm := cT hm
      refine iteT ?_
      refine bE hm fun some_ h102 hm => ?_
      refine sv_own (K := K) (fv_def1 (m := mm_waits) (ev_var rfl r5)) h102 xt.gh fun p95 vs96 G97 H98 x99 hz100 o101 => ?_
      have hz100 := xt.hh.free hz100
      have xt := xt.trans x99
      have mk78 := mk78.trans x99.gg
      have r_rows_ := Rp.mono x99.gg r_rows_
      have r_cell_ := Rp.mono x99.gg r_cell_
      have r5 := Rp.mono x99.gg r5
      have r29 := Rp.mono x99.gg r29
      have r65 := Rp.mono x99.gg r65
      have rx82 := Rp.mono x99.gg rx82
      refine bE hm fun b111 h112 hm => ?_
      refine sv_ifB o101 (tv_not (tv_b (K := K) (ev_def2 (m := mm_law_numbers_alike) (ev_var rfl o101.tell) (ev_def1 (m := mm_law_waits) (ev_var rfl (Rp.mono (Same.new o101.g) r_rows_)))))) h112 xt.gh fun G113 H114 x115 => ?_
      have xt := xt.trans x115
      have mk78 := mk78.trans x115.gg
      have r_rows_ := Rp.mono x115.gg r_rows_
      have r_cell_ := Rp.mono x115.gg r_cell_
      have r5 := Rp.mono x115.gg r5
      have r29 := Rp.mono x115.gg r29
      have r65 := Rp.mono x115.gg r65
      have rx82 := Rp.mono x115.gg rx82
      have o101 := o101.ext x115
      cases b111 with
      | true =>
        replace hm := cT hm
        refine iteT ?_
        refine bE hm fun rr121 h122 hm => ?_
        cases hm
        exact sv_ret (K := K) (rest := tNext) (σ := [some v_rows_, some v_cell_, some v1, some v25, some v61, some xv79, some (V.ref p95)]) ev_b h122 xt.gh fun v116 G117 H118 x119 r120 => kR88 _ v116 G117 H118 rfl ⟨xt.trans x119, r120⟩
      | false =>
        replace hm := cF hm
        refine iteF ?_
        refine bE hm fun a123 h124 hm => ?_
        refine bE hm fun z131 h125 hm => ?_
        refine sv_append (K := K) rfl o101 ev_i h124 h125 xt.gh fun G126 H127 w128 x129 o130 => ?_
        have xt : Ext G0 H0 G126 (upd H127 p95 (.lst (vs96 ++ [w128]))) := (xt.trans x129).put hz100 o130.g
        have mk78 := mk78.trans x129.gg
        have r_rows_ := Rp.mono x129.gg r_rows_
        have r_cell_ := Rp.mono x129.gg r_cell_
        have r5 := Rp.mono x129.gg r5
        have r29 := Rp.mono x129.gg r29
        have r65 := Rp.mono x129.gg r65
        have rx82 := Rp.mono x129.gg rx82
        cases hm
        exact kN85 _ _ _ _ rfl ⟨_, _, xt, mk78, rfl⟩
    | false =>
      replace hm := cF hm
      refine iteF ?_
      refine bE hm fun some_ h140 hm => ?_
      refine sv_own (K := K) (fv_def1 (m := mm_hopes) (ev_var rfl r5)) h140 xt.gh fun p133 vs134 G135 H136 x137 hz138 o139 => ?_
      have hz138 := xt.hh.free hz138
      have xt := xt.trans x137
      have mk78 := mk78.trans x137.gg
      have r_rows_ := Rp.mono x137.gg r_rows_
      have r_cell_ := Rp.mono x137.gg r_cell_
      have r5 := Rp.mono x137.gg r5
      have r29 := Rp.mono x137.gg r29
      have r65 := Rp.mono x137.gg r65
      have rx82 := Rp.mono x137.gg rx82
      refine bE hm fun b147 h148 hm => ?_
      refine sv_ifB o139 (tv_not (tv_b (K := K) (ev_def2 (m := mm_law_numbers_alike) (ev_var rfl o139.tell) (ev_var rfl (Rp.mono (Same.new o139.g) r29))))) h148 xt.gh fun G149 H150 x151 => ?_
      have xt := xt.trans x151
      have mk78 := mk78.trans x151.gg
      have r_rows_ := Rp.mono x151.gg r_rows_
      have r_cell_ := Rp.mono x151.gg r_cell_
      have r5 := Rp.mono x151.gg r5
      have r29 := Rp.mono x151.gg r29
      have r65 := Rp.mono x151.gg r65
      have rx82 := Rp.mono x151.gg rx82
      have o139 := o139.ext x151
      cases b147 with
      | true =>
        replace hm := cT hm
        refine iteT ?_
        refine bE hm fun rr157 h158 hm => ?_
        cases hm
        exact sv_ret (K := K) (rest := tNext) (σ := [some v_rows_, some v_cell_, some v1, some v25, some v61, some xv79, some (V.ref p133)]) ev_b h158 xt.gh fun v152 G153 H154 x155 r156 => kR88 _ v152 G153 H154 rfl ⟨xt.trans x155, r156⟩
      | false =>
        replace hm := cF hm
        refine iteF ?_
        refine bE hm fun a159 h160 hm => ?_
        refine bE hm fun z167 h161 hm => ?_
        refine sv_append (K := K) rfl o139 ev_i h160 h161 xt.gh fun G162 H163 w164 x165 o166 => ?_
        have xt : Ext G0 H0 G162 (upd H163 p133 (.lst (vs134 ++ [w164]))) := (xt.trans x165).put hz138 o166.g
        have mk78 := mk78.trans x165.gg
        have r_rows_ := Rp.mono x165.gg r_rows_
        have r_cell_ := Rp.mono x165.gg r_cell_
        have r5 := Rp.mono x165.gg r5
        have r29 := Rp.mono x165.gg r29
        have r65 := Rp.mono x165.gg r65
        have rx82 := Rp.mono x165.gg rx82
        cases hm
        exact kN85 _ _ _ _ rfl ⟨_, _, xt, mk78, rfl⟩
  · rintro s75 _ G171 H172 rfl ⟨v168, v169, xt, mk170, rfl⟩
    refine sv_nx ?_
    have r_rows_ := Rp.mono (x74.gg.trans mk170) r_rows_
    have r_cell_ := Rp.mono (x74.gg.trans mk170) r_cell_
    have r5 := Rp.mono (x74.gg.trans mk170) r5
    have r29 := Rp.mono (x74.gg.trans mk170) r29
    have r65 := Rp.mono (x74.gg.trans mk170) r65
    refine bE hm fun b179 h180 hm => ?_
    refine sv_if (tv_or (tv_not (tv_b (K := K) (ev_inst (b := true) (by decide +kernel) (ev_def1 (m := mm_lamps_in) (ev_var rfl r5))))) (tv_test (K := K) (ev_neS (ev_def1 (m := mm_lamps_in) (ev_var rfl r5)) (ev_var rfl r65)))) h180 xt.gh fun G181 H182 x183 => ?_
    have xt := xt.trans x183
    have r_rows_ := Rp.mono x183.gg r_rows_
    have r_cell_ := Rp.mono x183.gg r_cell_
    have r5 := Rp.mono x183.gg r5
    have r29 := Rp.mono x183.gg r29
    have r65 := Rp.mono x183.gg r65
    cases b179 with
    | true =>
      replace hm := cT hm
      refine iteT ?_
      exact sv_ret (K := K) (rest := tNext) (σ := [some v_rows_, some v_cell_, some v1, some v25, some v61, v168, v169]) ev_b hm xt.gh fun v184 G185 H186 x187 r188 => q v184 G185 H186 (xt.trans x187) r188
    | false =>
      replace hm := cF hm
      refine iteF ?_
      exact sv_ret (K := K) (ev_and (ev_eq (ev_var rfl r5) (ev_var rfl r_rows_)) (ev_and (ev_eq (FV.ev (fv_def1 (m := mm_waits) (ev_var rfl r_rows_))) (ev_def1 (m := mm_law_waits) (ev_var rfl r_rows_))) (ev_eq (FV.ev (fv_def1 (m := mm_hopes) (ev_var rfl r_rows_))) (ev_var rfl r29)))) hm xt.gh fun v198 G199 H200 x201 r202 => q v198 G199 H200 (xt.trans x201) r202
  · rintro r' v' G' H' rfl rl
    cases hm
    exact q v' G' H' rl.1 rl.2
theorem ok_law_stream {f : Addr} {fd : FuncData} (F : Fun K "_law_stream" "_law_stream" s_law_stream f fd) (T : Txt mg) : FnOk P w K mg base CX0 1 f fd ["_law_cell", "_law_many"] (spM K mm_law_stream) := by
  refine F.ok sc_law_stream (fun vs H Q E h => (spM_len h).trans rfl) (fun cdv A outer s H0 vs Q E hr h => ?_)
  obtain ⟨G0, ⟨cell_, ⟨many_, ⟨⟩⟩⟩, res, sg0, ⟨v_cell_, _, rfl, r_cell_, ⟨v_many_, _, rfl, r_many_, rfl⟩⟩, hm, q⟩ := h
  replace r_cell_ : Rp.rel K G0 v_cell_ cell_ := r_cell_
  replace r_many_ : Rp.rel K G0 v_many_ many_ := r_many_
  replace hm : m_law_stream cell_ many_ = some res := hm
  unfold m_law_stream at hm
  have xt : Ext G0 H0 G0 H0 := Ext.refl sg0
  refine ⟨_, (pss_cons (ps_set (i := 2) sc_law_stream.nd rfl (Or.inl rfl) (pe_lst pa_nil))
      (pss_cons (ps_set (i := 3) sc_law_stream.nd rfl (Or.inl rfl) (pe_op (op_plusK (K := K) rfl) (pe_op op_mod (pv 0) pe_int) pe_int))
      (pss_cons (ps_for PassesOwn.never rfl (pi_range1 rfl T.range_ (pa_cons (pv 1) pa_nil)) (pg_name (i := 4) sc_law_stream.nd rfl (Or.inl rfl)) (pss_cons (ps_set (i := 3) sc_law_stream.nd rfl (Or.inl rfl) (pe_op op_mod (pe_op (op_plusK (K := K) rfl) (pe_op (op_plusK (K := K) rfl) (pe_op (op_mulK (K := K) rfl) (pv 3) (pv 3)) (pe_op (op_mulK (K := K) rfl) pe_int (pv 3))) (pv 4)) pe_int))
      (pss_cons (ps_expr (pe_bmK (K := K) rfl PySem.F.plainAttrs_list PySem.F.slot_list_append PySem.F.type_list_append mt_append (pv 2) (pa_cons (pv 3) pa_nil)))
      pss_nil)))
      (pss_cons (ps_ret (pv 2))
      pss_nil)))), ?_⟩
  refine bE hm fun numbers_here_ h8 hm => ?_
  refine sv_own (K := K) (fv_lst (lv_nil (α := Int))) h8 xt.gh fun p1 vs2 G3 H4 x5 hz6 o7 => ?_
  have hz6 := xt.hh.free hz6
  have xt := xt.trans x5
  have r_cell_ := Rp.mono x5.gg r_cell_
  have r_many_ := Rp.mono x5.gg r_many_
  refine bE hm fun number_ h14 hm => ?_
  refine sv_set (K := K) (ev_add (ev_modR (ev_var rfl r_cell_)) ev_i) h14 xt.gh fun v9 G10 H11 x12 r13 => ?_
  have xt := xt.trans x12
  have r_cell_ := Rp.mono x12.gg r_cell_
  have r_many_ := Rp.mono x12.gg r_many_
  have o7 := o7.ext x12
  refine bE hm fun as16 h17 hm => ?_
  refine bE hm fun fl18 h19 hm => ?_
  refine sv_for (K := K) (RR := fun r v G' H' => Ext G0 H0 G' H' ∧ Rp.rel K G' v r) (iw_rng1 (ev_var rfl r_many_)) h17 h19 xt.gh fun G20 H21 x22 => ⟨fun s23 S' G' H' => ∃ (v24 : V) (v25 : Option V), Ext G0 H0 G' H' ∧ Same G20 G' ∧ S' = [some v_cell_, some v_many_, some (V.ref p1), some v24, v25] ∧ (∃ vs, Own K G' H' (V.ref p1) p1 vs s23.1) ∧ Rp.rel K G' v24 (s23.2 : Int), ?_, ?_, ?_, ?_, ?_⟩
  · have xt := xt.trans x22
    have r_cell_ := Rp.mono x22.gg r_cell_
    have r_many_ := Rp.mono x22.gg r_many_
    have o7 := o7.ext x22
    have r13 := Rp.mono x22.gg r13
    exact ⟨v9, _, xt, (Same.refl _), rfl, ⟨_, o7⟩, r13⟩
  · rintro _ S' G' H' ⟨v24, v25, xt, mk26, rfl, ⟨vs2, o7⟩, r27⟩
    exact ⟨mk26, xt.gh⟩
  · rintro xv28 a29 s23 _ G32 H33 fl30 - ⟨v24, v25, xt, mk26, rfl, ⟨vs2, o7⟩, r27⟩ rx31 hm D' kN34 kC35 kB36 kR37
    have r_cell_ := Rp.mono (x22.gg.trans mk26) r_cell_
    have r_many_ := Rp.mono (x22.gg.trans mk26) r_many_
    refine sv_turn ?_
    refine bE hm fun number_ h48 hm => ?_
    refine sv_set (K := K) (ev_modR (ev_add (ev_add (ev_mul (ev_var rfl r27) (ev_var rfl r27)) (ev_mulL (ev_var rfl r27))) (ev_var rfl rx31))) h48 xt.gh fun v43 G44 H45 x46 r47 => ?_
    have xt := xt.trans x46
    have mk26 := mk26.trans x46.gg
    have r_cell_ := Rp.mono x46.gg r_cell_
    have r_many_ := Rp.mono x46.gg r_many_
    have o7 := o7.ext x46
    have r27 := Rp.mono x46.gg r27
    have rx31 := Rp.mono x46.gg rx31
    refine bE hm fun a49 h50 hm => ?_
    refine bE hm fun z57 h51 hm => ?_
    refine sv_append (K := K) rfl o7 (ev_var rfl r47) h50 h51 xt.gh fun G52 H53 w54 x55 o56 => ?_
    have xt : Ext G0 H0 G52 (upd H53 p1 (.lst (vs2 ++ [w54]))) := (xt.trans x55).put hz6 o56.g
    have mk26 := mk26.trans x55.gg
    have r_cell_ := Rp.mono x55.gg r_cell_
    have r_many_ := Rp.mono x55.gg r_many_
    have r47 := Rp.mono x55.gg r47
    have rx31 := Rp.mono x55.gg rx31
    cases hm
    exact kN34 _ _ _ _ rfl ⟨v43, _, xt, mk26, rfl, ⟨_, o56⟩, r47⟩
  · rintro s23 _ G62 H63 rfl ⟨v58, v59, xt, mk60, rfl, ⟨vs2, o7⟩, r61⟩
    refine sv_nx ?_
    have r_cell_ := Rp.mono (x22.gg.trans mk60) r_cell_
    have r_many_ := Rp.mono (x22.gg.trans mk60) r_many_
    have sf := Same.new (o := .lst vs2) o7.g
    have xt := xt.frz hz6 o7.g o7.h
    have r64 := o7.tell
    have r_cell_ := Rp.mono sf r_cell_
    have r_many_ := Rp.mono sf r_many_
    have r61 := Rp.mono sf r61
    exact sv_ret (K := K) (ev_var rfl r64) hm xt.gh fun v65 G66 H67 x68 r69 => q v65 G66 H67 (xt.trans x68) r69
  · rintro r' v' G' H' rfl rl
    cases hm
    exact q v' G' H' rl.1 rl.2
theorem ok_law_numbers {f : Addr} {fd : FuncData} (F : Fun K "_law_numbers" "_law_numbers" s_law_numbers f fd) (T : Txt mg) (D_law_cell_at : DefOk P w K mg base "_law_cell_at" 1 ["_law_script", "_law_k"] (spM K mm_law_cell_at)) (D_law_stream : DefOk P w K mg base "_law_stream" 1 ["_law_cell", "_law_many"] (spM K mm_law_stream)) : FnOk P w K mg base CX0 2 f fd ["_law_script"] (spM K mm_law_numbers) := by
  refine F.ok sc_law_numbers (fun vs H Q E h => (spM_len h).trans rfl) (fun cdv A outer s H0 vs Q E hr h => ?_)
  obtain ⟨G0, ⟨script_, ⟨⟩⟩, res, sg0, ⟨v_script_, _, rfl, r_script_, rfl⟩, hm, q⟩ := h
  replace r_script_ : Rp.rel K G0 v_script_ script_ := r_script_
  replace hm : m_law_numbers script_ = some res := hm
  unfold m_law_numbers at hm
  have xt : Ext G0 H0 G0 H0 := Ext.refl sg0
  refine ⟨_, (pss_cons (ps_set (i := 1) sc_law_numbers.nd rfl (Or.inl rfl) (pe_def D_law_cell_at hr (by decide) rfl (pa_cons (pv 0) (pa_cons pe_int pa_nil))))
      (pss_cons (ps_if (pt_cmpR op_eq (pe_op op_mod (pv 1) pe_int) pe_int (nomark _)) (pss_cons (ps_ret (pe_comp (cn := []) (cap := []) rfl ⟨by decide +kernel, rfl, by decide +kernel, free_of rfl⟩ rfl (by decide +kernel) trivial (pi_anyK (K := K) rfl (pe_slice (sl_anyK (K := K) rfl) (pv 0) (po_some pe_int) (po_some pe_int))) (fun C s0 H0 fp => ⟨pts_nil, (pe_op op_mod (pv 0) (pe_op op_pow pe_int pe_int))⟩)))
      pss_nil) pss_nil)
      (pss_cons (ps_ret (pe_def D_law_stream hr (by decide) rfl (pa_cons (pe_def D_law_cell_at hr (by decide) rfl (pa_cons (pv 0) (pa_cons pe_int pa_nil))) (pa_cons (pe_ix (ix_anyK (K := K) rfl) (pe_lst (pa_cons (pe_op op_mod (pe_op op_fdiv (pv 1) pe_int) pe_int) (pa_cons (pe_op op_mod (pe_op op_fdiv (pv 1) pe_int) pe_int) pa_nil))) (pe_op op_mod (pe_op op_fdiv (pv 1) pe_int) pe_int) (fun _ _ => rfl)) pa_nil))))
      pss_nil))), ?_⟩
  refine bE hm fun cell_ h8 hm => ?_
  refine sv_set (K := K) (ev_def2 (m := mm_law_cell_at) (ev_var rfl r_script_) ev_i) h8 xt.gh fun v3 G4 H5 x6 r7 => ?_
  have xt := xt.trans x6
  have r_script_ := Rp.mono x6.gg r_script_
  refine bE hm fun b9 h10 hm => ?_
  refine sv_if (tv_test (K := K) (ev_eqI (ev_modR (ev_var rfl r7)) ev_i)) h10 xt.gh fun G11 H12 x13 => ?_
  have xt := xt.trans x13
  have r_script_ := Rp.mono x13.gg r_script_
  have r7 := Rp.mono x13.gg r7
  cases b9 with
  | true =>
    replace hm := cT hm
    refine iteT ?_
    exact sv_ret (K := K) (FV.ev (fv_map (cap := []) (fe := fun (number_ : Int) => (some (number_ % 1000000000))) (iw_list (FV.ev (fv_sliceX (ev_var rfl r_script_) (ov_some (K := K) ev_i) (ov_some (K := K) ev_i)))) fun xc20 number_ Gc17 sc18 rc19 => (ev_modC (ev_var rfl rc19) (EV.of (m' := some (1000000000 : Int)) (ev_pow (ev_i (i := 10)) (ev_i (i := 9))) (by decide +kernel)) (by decide +kernel)))) hm xt.gh fun v22 G23 H24 x25 r26 => q v22 G23 H24 (xt.trans x25) r26
  | false =>
    replace hm := cF hm
    refine iteF ?_
    exact sv_ret (K := K) (ev_def2 (m := mm_law_stream) (ev_def2 (m := mm_law_cell_at) (ev_var rfl r_script_) ev_i) (ev_at (FV.ev (fv_lst (lv_cons (ev_modR (ev_divR (ev_var rfl r7))) (lv_cons (ev_modR (ev_divR (ev_var rfl r7))) (lv_nil (α := Int)))))) (ev_modR (ev_divR (ev_var rfl r7))))) hm xt.gh fun v33 G34 H35 x36 r37 => q v33 G34 H35 (xt.trans x36) r37
theorem ok_law {f : Addr} {fd : FuncData} (F : Fun K "law" "law" s_law f fd) (T : Txt mg) (D_law_book : DefOk P w K mg base "_law_book" 3 ["_law_numbers_here"] (spM K mm_law_book)) (D_law_cell_at : DefOk P w K mg base "_law_cell_at" 1 ["_law_script", "_law_k"] (spM K mm_law_cell_at)) (D_law_asked : DefOk P w K mg base "_law_asked" 3 ["_law_rows", "_law_cell"] (spM K mm_law_asked)) (D_law_numbers : DefOk P w K mg base "_law_numbers" 2 ["_law_script"] (spM K mm_law_numbers)) : FnOk P w K mg base CX0 4 f fd ["_law_script"] (spM K mm_law) := by
  refine F.ok sc_law (fun vs H Q E h => (spM_len h).trans rfl) (fun cdv A outer s H0 vs Q E hr h => ?_)
  obtain ⟨G0, ⟨script_, ⟨⟩⟩, res, sg0, ⟨v_script_, _, rfl, r_script_, rfl⟩, hm, q⟩ := h
  replace r_script_ : Rp.rel K G0 v_script_ script_ := r_script_
  replace hm : m_law script_ = some res := hm
  unfold m_law at hm
  have xt : Ext G0 H0 G0 H0 := Ext.refl sg0
  refine ⟨_, (pss_cons (ps_set (i := 1) sc_law.nd rfl (Or.inl rfl) (pe_def D_law_book hr (by decide) rfl (pa_cons (pe_def D_law_numbers hr (by decide) rfl (pa_cons (pv 0) pa_nil)) pa_nil)))
      (pss_cons (ps_set (i := 2) sc_law.nd rfl (Or.inl rfl) (pe_def D_law_cell_at hr (by decide) rfl (pa_cons (pv 0) (pa_cons pe_int pa_nil))))
      (pss_cons (ps_if (pt_not (pt_truthK (K := K) rfl (pe_def D_law_asked hr (by decide) rfl (pa_cons (pv 1) (pa_cons (pv 2) pa_nil))) (fun _ => rfl))) (pss_cons (ps_ret pe_bl)
      pss_nil) pss_nil)
      (pss_cons (ps_if (pt_not (pt_truthK (K := K) rfl (pe_def D_law_asked hr (by decide) rfl (pa_cons (pe_slice (sl_anyK (K := K) rfl) (pv 1) po_none (po_some (pe_op op_mod (pv 2) (pe_op (op_plusK (K := K) rfl) (pe_callB (call_lenK (K := K) rfl) (by rfl) T.len_ bt_len (pa_cons (pv 1) pa_nil)) pe_int)))) (pa_cons (pe_op op_fdiv (pv 2) pe_int) pa_nil))) (fun _ => rfl))) (pss_cons (ps_ret pe_bl)
      pss_nil) pss_nil)
      (pss_cons (ps_ret (pe_def D_law_asked hr (by decide) rfl (pa_cons (pv 1) (pa_cons (pe_op op_fdiv (pv 2) pe_int) pa_nil))))
      pss_nil))))), ?_⟩
  refine bE hm fun rows_ h8 hm => ?_
  refine sv_set (K := K) (ev_def1 (m := mm_law_book) (ev_def1 (m := mm_law_numbers) (ev_var rfl r_script_))) h8 xt.gh fun v3 G4 H5 x6 r7 => ?_
  have xt := xt.trans x6
  have r_script_ := Rp.mono x6.gg r_script_
  refine bE hm fun cell_ h16 hm => ?_
  refine sv_set (K := K) (ev_def2 (m := mm_law_cell_at) (ev_var rfl r_script_) ev_i) h16 xt.gh fun v11 G12 H13 x14 r15 => ?_
  have xt := xt.trans x14
  have r_script_ := Rp.mono x14.gg r_script_
  have r7 := Rp.mono x14.gg r7
  refine bE hm fun b20 h21 hm => ?_
  refine sv_if (tv_not (tv_b (K := K) (ev_def2 (m := mm_law_asked) (ev_var rfl r7) (ev_var rfl r15)))) h21 xt.gh fun G22 H23 x24 => ?_
  have xt := xt.trans x24
  have r_script_ := Rp.mono x24.gg r_script_
  have r7 := Rp.mono x24.gg r7
  have r15 := Rp.mono x24.gg r15
  cases b20 with
  | true =>
    replace hm := cT hm
    refine iteT ?_
    exact sv_ret (K := K) (rest := tNext) (σ := [some v_script_, some v3, some v11]) ev_b hm xt.gh fun v25 G26 H27 x28 r29 => q v25 G26 H27 (xt.trans x28) r29
  | false =>
    replace hm := cF hm
    refine iteF ?_
    refine bE hm fun b37 h38 hm => ?_
    refine sv_if (tv_not (tv_b (K := K) (ev_def2 (m := mm_law_asked) (FV.ev (fv_slice (ev_var rfl r7) ov_none (ov_some (K := K) (ev_mod (ev_var rfl r15) (ev_add (ev_len (ev_var rfl r7)) ev_i))))) (ev_divR (ev_var rfl r15))))) h38 xt.gh fun G39 H40 x41 => ?_
    have xt := xt.trans x41
    have r_script_ := Rp.mono x41.gg r_script_
    have r7 := Rp.mono x41.gg r7
    have r15 := Rp.mono x41.gg r15
    cases b37 with
    | true =>
      replace hm := cT hm
      refine iteT ?_
      exact sv_ret (K := K) (rest := tNext) (σ := [some v_script_, some v3, some v11]) ev_b hm xt.gh fun v42 G43 H44 x45 r46 => q v42 G43 H44 (xt.trans x45) r46
    | false =>
      replace hm := cF hm
      refine iteF ?_
      exact sv_ret (K := K) (ev_def2 (m := mm_law_asked) (ev_var rfl r7) (ev_divR (ev_var rfl r15))) hm xt.gh fun v49 G50 H51 x52 r53 => q v49 G50 H51 (xt.trans x52) r53
end
end My
set_option Elab.async false
set_option linter.all false
set_option maxRecDepth 100000
set_option maxHeartbeats 4000000
namespace My
open PySem PySem.Spec PyProof.Rows L2
noncomputable def abcN : List Nat := List.range' 97 26
noncomputable def one (c : Nat) : Str := ⟨#[c]⟩
theorem abc_cps : ("abcdefghijklmnopqrstuvwxyz" : Str).cps.toList = abcN := by decide +kernel
theorem abc_pw : abcN.Pairwise (· < ·) := List.pairwise_lt_range'
theorem one_inj {a b : Nat} (h : one a = one b) : a = b := by
  have := congrArg (fun x : Str => x.cps.toList) h
  simpa [one] using this
theorem join_mom (cs : List Nat) (h : cs.length ≤ 1000) : joinO "" (cs.map one) = some (Txt.join "" (cs.map one)) := by
  refine if_pos ?_
  have e : ("" : Str).length = 0 := by decide
  have : ((cs.map one).map (·.length)).sum = cs.length := sum_ones cs
  rw [e, Nat.mul_zero, this]
  omega
theorem leS_one {a b : Nat} (h : a ≤ b) : leS (one a) (one b) = true := by
  unfold leS one
  rw [Bool.not_eq_true', decide_eq_false_iff_not]
  intro q
  have := (sing_lt b a).mp q
  omega
theorem sortS_eq {ys zs : List Str} (hp : zs.Perm ys) (hz : zs.Pairwise fun a b => leS a b = true) : sortS ys = zs :=
  (List.Perm.eq_of_pairwise (fun a b _ _ h1 h2 => leS_anti h1 h2) hz (List.pairwise_mergeSort leS_trans leS_total ys) (hp.trans (sortS_perm ys).symm)).symm
theorem sort_ded {ys : List Str} {cs : List Nat} (hc : cs.Pairwise (· < ·)) (h : ∀ y, y ∈ ys ↔ ∃ c ∈ cs, y = one c) : sortS (dedA ys) = cs.map one ∧ (dedA ys).length = cs.length := by
  have nd : (cs.map one).Nodup := by
    rw [List.nodup_iff_pairwise_ne]
    exact List.Pairwise.map _ (fun a b q e => absurd (one_inj e) (Nat.ne_of_lt q)) hc
  have hp : (cs.map one).Perm (dedA ys) := (List.perm_ext_iff_of_nodup nd (nodup_dedA ys)).mpr fun y => by
    rw [mem_dedA, h y, List.mem_map]
    exact ⟨fun ⟨c, hc, e⟩ => ⟨c, hc, e.symm⟩, fun ⟨c, hc, e⟩ => ⟨c, hc, e.symm⟩⟩
  refine ⟨sortS_eq hp (List.Pairwise.map _ (fun a b q => leS_one (Nat.le_of_lt q)) hc), ?_⟩
  rw [← hp.length_eq, List.length_map]
theorem cut_tailA {α : Type} (a : α) (l : List α) : cutT? (a :: l) (some 1) none = some ⟨l⟩ := by
  have h1 : HT.sIx (a :: l).length 0 (some (1 : Int)) = 1 := by
    unfold HT.sIx
    simp
    try omega
  have h2 : HT.sIx (a :: l).length (a :: l).length none = (a :: l).length := rfl
  unfold cutT?
  rw [if_pos (by rw [h1]; exact fun z => absurd z.1 (by decide))]
  unfold cutA
  rw [h1, h2]
  simp
theorem cut_hi {α : Type} (xs : List α) (k : Nat) : cutA xs none (some (k : Int)) = xs.take k := by
  unfold cutA
  rw [HT.sIx_none, HT.sIx_nat, List.drop_zero, Nat.sub_zero]
  by_cases h : k ≤ xs.length
  · rw [Nat.min_eq_left h]
  · rw [Nat.min_eq_right (by omega), List.take_length, List.take_of_length_le (by omega)]
theorem cell_at_ok (s : Scr) (k : Int) (hk : 0 ≤ k) {P : Int → Prop} (hp : ∀ n, P n) : OK (m_law_cell_at s k) P := by
  unfold m_law_cell_at
  simp only [Option.bind_assoc, bindS, bind_self]
  exact ok_cond (fun h => ok_at hk (of_decide_eq_true h) fun x _ => hp x) fun _ => ok_some (hp 0)
theorem stream_ok (c many : Int) (hm : 0 ≤ many ∧ many ≤ 200) {P : List Int → Prop} (hp : ∀ l : List Int, (l.length : Int) = many → P l) : OK (m_law_stream c many) P := by
  have hs : sizeLine = 16777216 := sizeLine_eq
  obtain ⟨n, rfl⟩ := Int.eq_ofNat_of_zero_le hm.1
  unfold m_law_stream
  simp only [Option.bind_assoc, bindS, bind_self]
  refine ok_bind (ok_rng (n := n) (by omega) (by omega) (by omega) ?_)
  refine ok_bind (ok_for' (fun i (s : List Int × Int) => s.1.length = i ∧ 0 ≤ s.2 ∧ s.2 < 4294967296) ⟨rfl, by dsimp only; omega, by dsimp only; omega⟩ (fun i a s ha hI => ?_) fun s hI => ?_)
  · have hi : i < n := by simpa using (List.getElem?_eq_some_iff.mp ha).1
    refine ok_bind (ok_mul (.inl ⟨by omega, by omega⟩) (ok_bind (ok_push (by omega) (ok_some ⟨_, rfl, by rw [List.length_append, hI.1]; rfl, ?_, ?_⟩))))
    · exact Int.emod_nonneg _ (by decide)
    · have := Int.emod_lt_of_pos (s.2 * s.2 + 48271 * s.2 + a) (b := 2147483647) (by decide)
      dsimp only
      omega
  · refine ok_some (hp _ ?_)
    have := hI.1
    simp at this
    omega
theorem part_ok (n : Int) (m : Nat) (hm : 0 < m) : OK (m_law_part n (m : Int)) fun p => ∃ i : Nat, p = (i : Int) ∧ i < m := by
  unfold m_law_part
  simp only [Option.bind_assoc, bindS, bind_self]
  have fin : ∀ p : Int, 0 ≤ p → p < m → ∃ i : Nat, p = (i : Int) ∧ i < m := fun p h1 h2 => ⟨p.toNat, by omega, by omega⟩
  refine ok_cond (fun _ => ?_) fun _ => ?_
  · have h1 : (0 : Int) < (if (m : Int) < 2 then (m : Int) else 2) := by split <;> omega
    have h2 : (if (m : Int) < 2 then (m : Int) else 2) ≤ m := by split <;> omega
    refine ok_bind (ok_mod h1 (ok_some (fin _ ?_ ?_)))
    · have := Int.emod_lt_of_pos (n / 3) h1
      omega
    · have := Int.emod_nonneg (n / 3) (b := (if (m : Int) < 2 then (m : Int) else 2)) (by omega)
      omega
  · exact ok_mod (by omega) (fin _ (Int.emod_nonneg _ (by omega)) (Int.emod_lt_of_pos _ (by omega)))
theorem nl : (("yes" : Str) ≠ "lamp" ∧ ("not" : Str) ≠ "lamp" ∧ ("next" : Str) ≠ "lamp") ∧ ("and" : Str) ≠ "lamp" ∧ ("until" : Str) ≠ "lamp" := by decide +kernel
theorem nn : (("yes" : Str) ≠ "next" ∧ ("not" : Str) ≠ "next" ∧ ("lamp" : Str) ≠ "next") ∧ ("and" : Str) ≠ "next" ∧ ("until" : Str) ≠ "next" := by decide +kernel
theorem lampd : decide (("lamp" : Str) = "lamp") = true := by decide +kernel
theorem abc_size : (("abcdefghijklmnopqrstuvwxyz" : Str).cps.toList).length = 26 := by decide +kernel
inductive Rw (n : Nat) : Rk → Prop where
  | yes : Rw n ⟨[.s "yes"]⟩
  | lamp {c : Nat} : c ∈ abcN → Rw n ⟨[.s "lamp", .s (one c)]⟩
  | neg {i : Nat} : i < n → Rw n ⟨[.s "not", .i (i : Int)]⟩
  | next {i : Nat} : i < n → Rw n ⟨[.s "next", .i (i : Int)]⟩
  | and {i j : Nat} : i < n → j < n → Rw n ⟨[.s "and", .i (i : Int), .i (j : Int)]⟩
  | unt {i j : Nat} : i < n → j < n → Rw n ⟨[.s "until", .i (i : Int), .i (j : Int)]⟩
noncomputable def wd (r : Rk) : Str := ((r.l.head?).bind asS).getD ""
theorem Rw.word {n : Nat} {r : Rk} (h : Rw n r) : atI r.tp.l (0 : Int) = some (.s (wd r)) := by
  cases h <;> exact atI_nat (j := 0) rfl
noncomputable def numOfR (r : Rk) : Int := ((r.l[1]?).bind asI).getD 0
noncomputable def letOfR (r : Rk) : Str := ((r.l[1]?).bind asS).getD ""
theorem Rw.nx {n : Nat} {r : Rk} (h : Rw n r) (hw : wd r = "next") : ∃ i : Nat, i < n ∧ r = ⟨[.s "next", .i (i : Int)]⟩ := by
  cases h with
  | yes => exact absurd hw nn.1.1
  | lamp _ => exact absurd hw nn.1.2.2
  | neg _ => exact absurd hw nn.1.2.1
  | next h => exact ⟨_, h, rfl⟩
  | and _ _ => exact absurd hw nn.2.1
  | unt _ _ => exact absurd hw nn.2.2
theorem Rw.lm {n : Nat} {r : Rk} (h : Rw n r) (hw : wd r = "lamp") : ∃ c, c ∈ abcN ∧ r = ⟨[.s "lamp", .s (one c)]⟩ := by
  cases h with
  | yes => exact absurd hw nl.1.1
  | lamp h => exact ⟨_, h, rfl⟩
  | neg _ => exact absurd hw nl.1.2.1
  | next _ => exact absurd hw nl.1.2.2
  | and _ _ => exact absurd hw nl.2.1
  | unt _ _ => exact absurd hw nl.2.2
theorem row_ok (n : Int) (m : Nat) : OK (m_law_row n (m : Int)) (Rw m) := by
  have n0 := Int.emod_nonneg (n / 11) (b := 26) (by decide)
  have n1 := Int.emod_lt_of_pos (n / 11) (b := 26) (by decide)
  unfold m_law_row
  simp only [Option.bind_assoc, bindS, bind_self]
  refine ok_cond (fun _ => ok_some .yes) fun _ => ok_cond (fun _ => ?_) fun h => ?_
  · refine ok_bind (ok_at n0 (by rw [abc_size]; omega) fun z hz => ok_some (Rw.lamp (c := z) ?_))
    rw [abc_cps] at hz
    exact List.mem_of_getElem? hz
  · rw [Bool.or_eq_false_iff] at h
    have hm : 0 < m := by have := of_decide_eq_false h.2; omega
    refine ok_by (part_ok _ m hm) fun p ⟨i, hp, hi⟩ => ?_
    subst hp
    refine ok_cond (fun _ => ok_some (.neg hi)) fun _ => ok_cond (fun _ => ok_some (.next hi)) fun _ => ?_
    refine ok_by (part_ok _ m hm) fun q ⟨j, hq, hj⟩ => ?_
    subst hq
    have k0 := Int.emod_nonneg (n % 11) (b := 2) (by decide)
    have k1 := Int.emod_lt_of_pos (n % 11) (b := 2) (by decide)
    refine ok_bind (ok_at k0 (by show n % 11 % 2 < 2; exact k1) fun w hw => ok_some ?_)
    have := List.mem_of_getElem? hw
    rcases List.mem_cons.mp this with e | e
    · subst e
      exact .and hi hj
    · cases List.mem_singleton.mp e
      exact .unt hi hj
noncomputable def Sz (p : Int × Int) : Prop := 0 ≤ p.1 ∧ p.1 ≤ 200 ∧ 0 ≤ p.2
theorem at_s0 (w : Str) (l : List SI) : atI (SI.s w :: l) (0 : Int) = some (SI.s w) := atI_nat (j := 0) rfl
theorem sum_ok {l : List Int} {P : Int → Prop} (h1 : l.length ≤ 10) (h2 : ∀ n ∈ l, 0 ≤ n ∧ n ≤ 200) (h : 0 ≤ l.sum → P l.sum) : OK (sumO l) P :=
  ⟨_, if_pos ⟨by omega, fun n hn => by have := h2 n hn; omega⟩, h (by
    clear h h1
    induction l with
    | nil => exact Int.le_refl _
    | cons a l ih =>
      have := h2 a List.mem_cons_self
      have := ih fun n hn => h2 n (List.mem_cons_of_mem _ hn)
      rw [List.sum_cons]
      omega)⟩
theorem size_ok {r : Rk} {sizes : List (Int × Int)} (hr : Rw sizes.length r) (hb : ∀ p ∈ sizes, Sz p) : OK (m_law_size r sizes) fun p => 0 ≤ p.1 ∧ 0 ≤ p.2 := by
  have hz : sizeLine = 16777216 := sizeLine_eq
  have one : ∀ {i : Nat}, i < sizes.length → ∃ p, atI sizes (i : Int) = some p ∧ Sz p := fun hi => by
    have h : sizes[_]? = some _ := List.getElem?_eq_getElem hi
    exact ⟨_, atI_nat h, hb _ (List.mem_of_getElem? h)⟩
  have fin : ∀ ps : List (Int × Int), ps.length ≤ 2 → (∀ p ∈ ps, Sz p) → OK ((catL ps [((0 : Int), (0 : Int))]).bind fun some_ =>
      ((mapO (fun (size_here_ : (Int × Int)) => (some size_here_.1)) some_).bind fun y => (sumO y).bind fun t43 => (mapO (fun (size_here_ : (Int × Int)) => (some size_here_.2)) some_).bind fun y => (maxO y).bind fun t50 => some ((1 : Int) + t43, (1 : Int) + t50))) fun p => 0 ≤ p.1 ∧ 0 ≤ p.2 := fun ps hl hp => by
    refine ok_bind (ok_catL (by show ps.length + 1 ≤ sizeLine; omega) (ok_bind (ok_map (g := fun p => p.1) (fun _ _ => rfl) (ok_bind (sum_ok ?_ (fun n hn => ?_) fun h0 => ok_bind (ok_map (g := fun p => p.2) (fun _ _ => rfl) ?_))))))
    · rw [List.length_map, List.length_append]
      show ps.length + 1 ≤ 10
      omega
    · obtain ⟨q, hq, rfl⟩ := List.mem_map.mp hn
      rcases List.mem_append.mp hq with hq | hq
      · exact ⟨(hp q hq).1, (hp q hq).2.1⟩
      · rw [List.mem_singleton.mp hq]
        decide
    · have : ∀ l : List (Int × Int), l ≠ [] → (∀ p ∈ l, 0 ≤ p.2) → OK (maxO (l.map fun p => p.2)) fun m => 0 ≤ m := fun l hl h => by
        match l, hl with
        | p :: l, _ =>
          refine ⟨_, rfl, ?_⟩
          have h1 := (foldl_max (l.map fun p => p.2) p.2).2.1
          have h2 := h p List.mem_cons_self
          dsimp only at h1 ⊢
          omega
      refine ok_by (this _ (by simp) fun q hq => ?_) fun m hm => ok_some ⟨by dsimp only; omega, by dsimp only; omega⟩
      rcases List.mem_append.mp hq with hq | hq
      · exact (hp q hq).2.2
      · rw [List.mem_singleton.mp hq]
        decide
  unfold m_law_size
  simp only [Option.bind_assoc, bindS, bind_self]
  cases hr with
  | yes =>
    simp only [Rk.tp, at_s0, bindS, asS, decide_eq_false nl.1.1, cond_false, cut_tailA, mapO]
    exact fin [] (by decide) fun p hp => nomatch hp
  | lamp _ =>
    simp only [Rk.tp, at_s0, bindS, asS, lampd, cond_true]
    exact ok_some ⟨by decide, by decide⟩
  | neg hi =>
    obtain ⟨x, ex, sx⟩ := one hi
    simp only [Rk.tp, at_s0, bindS, asS, asI, decide_eq_false nl.1.2.1, cond_false, cut_tailA, mapO, ex]
    exact fin [x] (by simp) fun p hp => by rw [List.mem_singleton.mp hp]; exact sx
  | next hi =>
    obtain ⟨x, ex, sx⟩ := one hi
    simp only [Rk.tp, at_s0, bindS, asS, asI, decide_eq_false nl.1.2.2, cond_false, cut_tailA, mapO, ex]
    exact fin [x] (by simp) fun p hp => by rw [List.mem_singleton.mp hp]; exact sx
  | and hi hj =>
    obtain ⟨x, ex, sx⟩ := one hi
    obtain ⟨y, ey, sy⟩ := one hj
    simp only [Rk.tp, at_s0, bindS, asS, asI, decide_eq_false nl.2.1, cond_false, cut_tailA, mapO, ex, ey]
    refine fin [x, y] (by simp) fun p hp => ?_
    simp only [List.mem_cons, List.not_mem_nil, or_false] at hp
    rcases hp with rfl | rfl
    · exact sx
    · exact sy
  | unt hi hj =>
    obtain ⟨x, ex, sx⟩ := one hi
    obtain ⟨y, ey, sy⟩ := one hj
    simp only [Rk.tp, at_s0, bindS, asS, asI, decide_eq_false nl.2.2, cond_false, cut_tailA, mapO, ex, ey]
    refine fin [x, y] (by simp) fun p hp => ?_
    simp only [List.mem_cons, List.not_mem_nil, or_false] at hp
    rcases hp with rfl | rfl
    · exact sx
    · exact sy
structure Book (rows : List Rk) : Prop where
  b : ∀ (k : Nat) r, rows[k]? = some r → Rw k r
  d : rows.Nodup
  l : rows.length ≤ 200
theorem Book.mem {rows : List Rk} (h : Book rows) {r : Rk} (hr : r ∈ rows) : ∃ k, Rw k r := by
  obtain ⟨i, hi⟩ := List.mem_iff_getElem?.mp hr
  exact ⟨i, h.b i r hi⟩
theorem Book.take {rows : List Rk} (h : Book rows) (n : Nat) : Book (rows.take n) := by
  refine ⟨fun k r hk => ?_, h.d.sublist (List.take_sublist _ _), by rw [List.length_take]; have := h.l; omega⟩
  rw [List.getElem?_take] at hk
  split at hk
  · exact h.b k r hk
  · cases hk
theorem book_ok (l : List Int) (hl : l.length ≤ 200) : OK (m_law_book l) Book := by
  have hz : sizeLine = 16777216 := sizeLine_eq
  unfold m_law_book
  simp only [Option.bind_assoc, bindS, bind_self]
  refine ok_bind (ok_for' (fun i (s : List Rk × List (Int × Int) × MpR Bool) => (∀ (k : Nat) r, s.1[k]? = some r → Rw k r) ∧ s.1.Nodup ∧ s.1.length ≤ i ∧ s.2.1.length = s.1.length ∧ (∀ p ∈ s.2.1, Sz p) ∧ s.2.2.l.map (·.1) = s.1)
    ⟨fun k r h => by simp at h, List.nodup_nil, Nat.zero_le _, rfl, (fun p hp => nomatch hp), rfl⟩ (fun i a s ha hI => ?_) fun s hI => ok_some ⟨hI.1, hI.2.1, by have := hI.2.2.1; omega⟩)
  obtain ⟨rows, sizes, seen⟩ := s
  obtain ⟨h1, h2, h3, h4, h5, h6⟩ := hI
  dsimp only at h1 h2 h3 h4 h5 h6 ⊢
  have hi : i < l.length := (List.getElem?_eq_some_iff.mp ha).1
  have h7 : seen.l.length = rows.length := by rw [← h6, List.length_map]
  refine ok_by (row_ok a rows.length) fun r hr => ?_
  refine ok_by (size_ok (by rw [h4]; exact hr) h5) fun sz hs => ?_
  refine ok_cond (fun h => ?_) fun _ => ok_some ⟨_, rfl, h1, h2, by dsimp only; omega, h4, h5, h6⟩
  rw [Bool.and_eq_true, Bool.and_eq_true, decide_eq_true_eq, decide_eq_true_eq, Bool.not_eq_true'] at h
  obtain ⟨g1, g2, g3⟩ := h
  have nr : r ∉ rows := fun hm => by
    rw [← h6] at hm
    obtain ⟨q, hq, e⟩ := List.mem_map.mp hm
    have : hasR seen.l r = true := List.any_eq_true.mpr ⟨q, hq, decide_eq_true e⟩
    rw [this] at g1
    cases g1
  have pm : putRM seen.l r true = seen.l ++ [(r, true)] := if_neg (by
    have g1 : (seen.l.any fun q => decide (q.1 = r)) = false := g1
    rw [g1]
    exact Bool.false_ne_true)
  refine ok_bC _ (if_pos (by omega)) (ok_bind (ok_push (by omega) (ok_bind (ok_push (by omega) (ok_some ⟨_, rfl, fun k q hk => ?_, ?_, ?_, ?_, fun p hp => ?_, ?_⟩)))))
  · dsimp only at hk
    rcases Nat.lt_or_ge k rows.length with hk' | hk'
    · rw [List.getElem?_append_left hk'] at hk
      exact h1 k q hk
    · rw [List.getElem?_append_right hk'] at hk
      have hk2 : k - rows.length = 0 := by
        have := (List.getElem?_eq_some_iff.mp hk).1
        rw [List.length_singleton] at this
        omega
      rw [hk2] at hk
      cases hk
      rw [show k = rows.length from by omega]
      exact hr
  · dsimp only
    rw [List.nodup_append]
    refine ⟨h2, by simp, fun x hx y hy e => ?_⟩
    rw [List.mem_singleton] at hy
    rw [e, hy] at hx
    exact nr hx
  · dsimp only
    rw [List.length_append, List.length_singleton]
    omega
  · dsimp only
    rw [List.length_append, List.length_append, h4]
    rfl
  · rcases List.mem_append.mp hp with hp | hp
    · exact h5 p hp
    · rw [List.mem_singleton.mp hp]
      exact ⟨hs.1, g2, hs.2⟩
  · dsimp only
    rw [pm, List.map_append, h6]
    rfl
theorem numbers_ok (s : Scr) (hs : s.l.length ≤ 63) {P : List Int → Prop} (hp : ∀ l : List Int, l.length ≤ 200 → P l) : OK (m_law_numbers s) P := by
  have hz : sizeLine = 16777216 := sizeLine_eq
  unfold m_law_numbers
  simp only [Option.bind_assoc, bindS, bind_self]
  refine ok_bind (cell_at_ok s 0 (by decide) fun c => ok_cond (fun _ => ?_) fun _ => ok_bind (cell_at_ok s 1 (by decide) fun c1 => ?_))
  · refine ok_bC _ (if_pos (by omega)) (ok_map (g := fun n => n % 1000000000) (fun a _ => rfl) (hp _ ?_))
    rw [List.length_map]
    unfold cutA
    rw [List.length_take, List.length_drop]
    omega
  · have k0 := Int.emod_nonneg (c / 2) (b := 2) (by decide)
    have k1 := Int.emod_lt_of_pos (c / 2) (b := 2) (by decide)
    refine ok_bind (ok_at k0 (by show c / 2 % 2 < 2; exact k1) fun m hm => ?_)
    have : 0 ≤ m ∧ m ≤ 200 := by
      have hm := List.mem_of_getElem? hm
      simp only [List.mem_cons, List.not_mem_nil, or_false] at hm
      omega
    exact stream_ok c1 m this fun l hl => hp l (by omega)
noncomputable def isU (rows : List Rk) (k : Nat) : Bool := decide (wd (rows.getD k ⟨[]⟩) = "until")
noncomputable def hs (rows : List Rk) : List Int := ((List.range rows.length).filter (isU rows)).map fun (k : Nat) => (k : Int)
noncomputable def un (rows : List Rk) : List Int := (rows.filter fun r => decide (wd r = "next")).map numOfR
noncomputable def ls (rows : List Rk) : List Str := (rows.filter fun r => decide (wd r = "lamp")).map letOfR
theorem hs_len (rows : List Rk) : (hs rows).length ≤ rows.length := by
  unfold hs
  rw [List.length_map]
  exact Nat.le_trans (List.length_filter_le _ _) (by rw [List.length_range]; exact Nat.le_refl _)
theorem un_len (rows : List Rk) : (un rows).length ≤ rows.length := by
  unfold un
  rw [List.length_map]
  exact List.length_filter_le _ _
theorem ls_len (rows : List Rk) : (ls rows).length ≤ rows.length := by
  unfold ls
  rw [List.length_map]
  exact List.length_filter_le _ _
theorem enumI_rows (rows : List Rk) : enumI 0 rows = (List.range rows.length).map fun (k : Nat) => ((k : Int), rows.getD k ⟨[]⟩) := by
  refine List.ext_getElem? fun i => ?_
  rw [enumI_get, List.getElem?_map]
  by_cases h : i < rows.length
  · simp [h]
  · rw [List.getElem?_eq_none (by omega), List.getElem?_eq_none (by rw [List.length_range]; omega)]
    rfl
theorem hopes_eq (rows : List Rk) (hb : Book rows) : m_hopes rows = some (hs rows) := by
  refine OK.eq ?_
  unfold m_hopes
  simp only [Option.bind_assoc, bindS, bind_self]
  refine ok_comp (c := fun p : Int × Rk => decide (wd p.2 = "until")) (g := fun p => p.1) (fun p hp => ?_) (fun _ _ _ => rfl) ?_
  · obtain ⟨i, hi⟩ := List.mem_iff_getElem?.mp hp
    rw [enumI_get] at hi
    obtain ⟨r, hr, rfl⟩ := Option.map_eq_some_iff.mp hi
    simp only [(hb.b i r hr).word, asS, bindS]
  · rw [enumI_rows, List.filter_map, List.map_map]
    rfl
theorem due_ok (rows : List Rk) (hb : Book rows) {P : List Int → Prop} (hp : P (hs rows)) : OK ((rngO 0 (rows.length : Int)).bind fun t24 => compO (fun (k_ : Int) => (atI rows k_).bind fun t33 => (atI t33.tp.l (0 : Int)).bind fun y => (asS y).bind fun t37 => some (decide (t37 = ("until" : Str)))) (fun (k_ : Int) => (some k_)) t24) P := by
  have hz : sizeLine = 16777216 := sizeLine_eq
  have := hb.l
  refine ok_bind (ok_rng (n := rows.length) (by omega) (by decide) (by omega) (ok_comp (c := fun k : Int => isU rows k.toNat) (g := id) (fun a ha => ?_) (fun _ _ _ => rfl) ?_))
  · obtain ⟨k, hk, rfl⟩ := List.mem_map.mp ha
    have hk := List.mem_range.mp hk
    have hg : rows[k]? = some rows[k] := List.getElem?_eq_getElem hk
    rw [Int.zero_add]
    simp only [atI_nat hg, bindS, (hb.b k _ hg).word, asS]
    unfold isU
    rw [Int.toNat_natCast, List.getD_eq_getElem?_getD, hg]
    rfl
  · rw [List.map_id, List.filter_map]
    have : (fun (i : Nat) => (0 : Int) + (i : Int)) = fun (i : Nat) => (i : Int) := funext fun i => Int.zero_add _
    rw [this]
    exact hp
theorem un_ok (rows : List Rk) (hb : Book rows) {P : List Int → Prop} (hp : P (un rows)) : OK (compO (fun (row_ : Rk) => (atI row_.tp.l (0 : Int)).bind fun y => (asS y).bind fun t13 => some (decide (t13 = ("next" : Str)))) (fun (row_ : Rk) => (atI row_.tp.l (1 : Int)).bind fun t7 => asI t7) rows) P := by
  refine ok_comp (c := fun r => decide (wd r = "next")) (g := numOfR) (fun r hr => ?_) (fun r hr hc => ?_) hp
  · obtain ⟨k, hk⟩ := hb.mem hr
    simp only [hk.word, asS, bindS]
  · obtain ⟨k, hk⟩ := hb.mem hr
    obtain ⟨i, _, rfl⟩ := hk.nx (of_decide_eq_true hc)
    rfl
theorem ls_ok (rows : List Rk) (hb : Book rows) {P : List Str → Prop} (hp : P (ls rows)) : OK (compO (fun (row_ : Rk) => (atI row_.tp.l (0 : Int)).bind fun y => (asS y).bind fun t13 => some (decide (t13 = ("lamp" : Str)))) (fun (row_ : Rk) => (atI row_.tp.l (1 : Int)).bind fun t7 => asS t7) rows) P := by
  refine ok_comp (c := fun r => decide (wd r = "lamp")) (g := letOfR) (fun r hr => ?_) (fun r hr hc => ?_) hp
  · obtain ⟨k, hk⟩ := hb.mem hr
    simp only [hk.word, asS, bindS]
  · obtain ⟨k, hk⟩ := hb.mem hr
    obtain ⟨c, _, rfl⟩ := hk.lm (of_decide_eq_true hc)
    rfl
noncomputable def ws (rows : List Rk) : List Int := sortZ (dedA (hs rows ++ un rows))
theorem waits_eq (rows : List Rk) (hb : Book rows) : m_waits rows = some (ws rows) := by
  have h1 := hs_len rows
  have h2 := un_len rows
  have h3 := hb.l
  refine OK.eq ?_
  unfold m_waits
  simp only [Option.bind_assoc, bindS, bind_self, hopes_eq rows hb]
  exact ok_bind (un_ok rows hb ⟨_, if_pos ⟨by omega, by omega⟩, rfl⟩)
theorem sortZ_perm {a b : List Int} (h : a.Perm b) : sortZ a = sortZ b :=
  sortZ_of ((List.mergeSort_perm a leZ).trans h) (by
    have := List.pairwise_mergeSort (le := leZ) (fun a b c h g => by unfold leZ at *; simp only [decide_eq_true_eq] at *; omega) (fun a b => by unfold leZ; rcases Int.le_total a b with h | h <;> simp [h]) a
    exact this.imp fun h => by unfold leZ at h; exact of_decide_eq_true h)
theorem law_waits_eq (rows : List Rk) (hb : Book rows) : m_law_waits rows = some (ws rows) := by
  have hz : sizeLine = 16777216 := sizeLine_eq
  have h1 := hs_len rows
  have h2 := un_len rows
  have h3 := hb.l
  refine OK.eq ?_
  unfold m_law_waits
  simp only [Option.bind_assoc, bindS, bind_self]
  refine ok_bind (un_ok rows hb ?_)
  have := due_ok rows hb (P := fun d => OK ((catL (un rows) d).bind fun t => sortSetJ t) fun b => b = ws rows) (ok_bind (ok_catL (by omega) ⟨_, if_pos (by rw [List.length_append]; omega), sortZ_perm ?_⟩))
  · obtain ⟨d, e1, e2⟩ := this
    obtain ⟨t, e3, e4⟩ := Option.bind_eq_some_iff.mp e1
    rw [e3, bindS, e4, bindS]
    exact e2
  · refine (List.perm_ext_iff_of_nodup (nodup_dedA _) (nodup_dedA _)).mpr fun y => ?_
    rw [mem_dedA, mem_dedA, List.mem_append, List.mem_append]
    exact or_comm
theorem alike_self (l : List Int) : m_law_numbers_alike l l = some true := by
  refine OK.eq ?_
  unfold m_law_numbers_alike
  simp only [Option.bind_assoc, bindS, bind_self]
  refine ok_cond (fun h => by simp at h) fun _ => ?_
  refine ok_bind (ok_comp (c := fun _ => true) (g := id) (fun _ _ => rfl) (fun _ _ _ => rfl) (ok_some ?_))
  rw [List.map_id, List.filter_eq_self.mpr fun _ _ => rfl]
  exact decide_eq_true rfl
noncomputable def lamps (rows : List Rk) : Str := Txt.join "" (sortS (ls rows))
theorem lamps_two (rows : List Rk) (hb : Book rows) : m_lamps_in rows = some (lamps rows) ∧ joinO "" (sortS (ls rows)) = some (lamps rows) := by
  have h1 := ls_len rows
  have h3 := hb.l
  have hm : ∀ y, y ∈ ls rows ↔ ∃ c ∈ abcN.filter (fun c => decide (one c ∈ ls rows)), y = one c := fun y => by
    constructor
    · intro hy
      obtain ⟨r, hr, e⟩ := List.mem_map.mp hy
      obtain ⟨g1, g2⟩ := List.mem_filter.mp hr
      obtain ⟨k, hk⟩ := hb.mem g1
      obtain ⟨c, hc, rfl⟩ := hk.lm (of_decide_eq_true g2)
      have e : one c = y := e
      subst e
      exact ⟨c, List.mem_filter.mpr ⟨hc, decide_eq_true hy⟩, rfl⟩
    · rintro ⟨c, hc, rfl⟩
      exact of_decide_eq_true (List.mem_filter.mp hc).2
  have hpw : (abcN.filter (fun c => decide (one c ∈ ls rows))).Pairwise (· < ·) := abc_pw.sublist List.filter_sublist
  have hl : (abcN.filter (fun c => decide (one c ∈ ls rows))).length ≤ 26 := List.length_filter_le _ abcN
  obtain ⟨e1, e2⟩ := sort_ded hpw hm
  have nd : (ls rows).Nodup := by
    unfold ls
    have : (rows.filter fun r => decide (wd r = "lamp")).Nodup := hb.d.sublist List.filter_sublist
    rw [List.nodup_iff_pairwise_ne] at this ⊢
    refine List.pairwise_map.mpr ?_
    refine List.Pairwise.imp_of_mem ?_ this
    intro a b ha hb' hne e
    obtain ⟨a1, a2⟩ := List.mem_filter.mp ha
    obtain ⟨b1, b2⟩ := List.mem_filter.mp hb'
    obtain ⟨k, hk⟩ := hb.mem a1
    obtain ⟨k', hk'⟩ := hb.mem b1
    obtain ⟨c, _, rfl⟩ := hk.lm (of_decide_eq_true a2)
    obtain ⟨c', _, rfl⟩ := hk'.lm (of_decide_eq_true b2)
    have e : one c = one c' := e
    rw [one_inj e] at hne
    exact hne rfl
  have ep : (dedA (ls rows)).Perm (ls rows) := (List.perm_ext_iff_of_nodup (nodup_dedA _) nd).mpr fun y => mem_dedA
  have es : sortS (ls rows) = (abcN.filter (fun c => decide (one c ∈ ls rows))).map one := by
    rw [← e1]
    refine sortS_eq ((sortS_perm _).trans ep) (List.pairwise_mergeSort leS_trans leS_total _)
  have ej : joinO "" (sortS (ls rows)) = some (lamps rows) := by
    unfold lamps
    rw [es]
    exact join_mom _ (by omega)
  refine ⟨?_, ej⟩
  refine OK.eq ?_
  unfold m_lamps_in
  simp only [Option.bind_assoc, bindS, bind_self]
  refine ok_bind (ls_ok rows hb (ok_bC _ (if_pos ⟨by omega, by omega⟩) ?_))
  try dsimp only
  rw [e1, ← es, ej]
  exact ok_some rfl
theorem asked_ok (rows : List Rk) (hb : Book rows) (c : Int) : m_law_asked rows c = some true := by
  have hz : sizeLine = 16777216 := sizeLine_eq
  have h1 := hs_len rows
  have h2 := un_len rows
  have h4 := ls_len rows
  have h3 := hb.l
  have h5 : (ws rows).length ≤ 400 := by
    unfold ws
    rw [sortZ_len]
    have := dedA_len (hs rows ++ un rows)
    rw [List.length_append] at this
    omega
  refine OK.eq ?_
  unfold m_law_asked
  simp only [Option.bind_assoc, bindS, bind_self, waits_eq rows hb, law_waits_eq rows hb, hopes_eq rows hb, alike_self, (lamps_two rows hb).1]
  obtain ⟨d, e1, e2⟩ := due_ok rows hb (P := fun d => d = hs rows) rfl
  obtain ⟨t, e3, e4⟩ := Option.bind_eq_some_iff.mp e1
  rw [e3, bindS, e4, bindS, e2]
  refine ok_bind (ls_ok rows hb (ok_bC _ (if_pos (by omega)) ?_))
  try dsimp only
  rw [(lamps_two rows hb).2, bindS]
  refine ok_bind (ok_rng (n := 2) (by decide) (by decide) (by omega) (ok_bind (ok_for' (fun _ _ => True) trivial (fun i a s ha _ => ?_) fun s _ => ?_)))
  · simp only [alike_self, bindS]
    refine ok_cond (fun _ => ok_cond (fun h => by cases h) fun _ => ok_bind (ok_push (by omega) (ok_some ⟨_, rfl, trivial⟩))) fun _ => ok_cond (fun h => by cases h) fun _ => ok_bind (ok_push (by omega) (ok_some ⟨_, rfl, trivial⟩))
  · dsimp only
    refine ok_by (P := fun b : Bool => b = false) (ok_cond (fun h => by cases h) fun _ => ok_some (by simp)) fun b hb' => ?_
    subst hb'
    refine ok_cond (fun h => by cases h) fun _ => ?_
    simp only [decide_true, cond_true]
    exact ok_some rfl
theorem law_true (ns : List Int) (hl : ns.length ≤ 63) : m_law ⟨ns⟩ = some true := by
  refine OK.eq ?_
  unfold m_law
  simp only [Option.bind_assoc, bindS, bind_self]
  refine ok_bind (numbers_ok _ hl fun l hl => ok_by (book_ok l hl) fun rows hb => ok_bind (cell_at_ok _ 2 (by decide) fun c => ?_))
  rw [asked_ok rows hb, bindS]
  refine ok_cond (fun h => by cases h) fun _ => ?_
  refine ok_bind (ok_mod (by omega) ?_)
  have h0 := Int.emod_nonneg c (b := (rows.length : Int) + 1) (by omega)
  obtain ⟨k, hk⟩ := Int.eq_ofNat_of_zero_le h0
  rw [hk, cut_hi, asked_ok _ (hb.take k), asked_ok rows hb, bindS]
  exact ok_some rfl
end My
set_option Elab.async false
set_option linter.all false
set_option maxRecDepth 100000
set_option maxHeartbeats 4000000
namespace My
open PySem PySem.Spec PyProof.Rows L2
theorem law_imp {K : PySem.W.Frag} {vs : List V} {H : Hp} {Q : VK} {E : XK} (h : sp_law K vs H Q E) : spM K mm_law vs H Q E := by
  obtain ⟨a, ns, rfl, hS, hl, q⟩ := h
  exact ⟨H, (⟨ns⟩, ()), true, Same.refl H, ⟨.ref a, [], rfl, ⟨a, rfl, hS⟩, rfl⟩, law_true ns hl, fun v G2 H2 x r => by cases r; exact q H2⟩
theorem _root_.L2.Fun.bn1 {K : PySem.W.Frag} {x qual : Str} {st : Stmt} {f : Addr} {fd : FuncData} {p0 : Str} (F : Fun K x qual st f fd) (h : ∀ (kV doc pm : Value) (an : Option Addr) (cdv ct : Value) (a0 : Value), bindArgs (PySem.W.fnOf x qual (defArgs st) (defBody st) (defScope st) .none kV doc pm an cdv ct) ⟨[a0], []⟩ = pure (List.zip [p0] [a0])) : Binds K fd [p0] [] := F.binds fun kV doc pm an cdv ct us hl => match us, hl with | [a0], _ => h kV doc pm an cdv ct a0
theorem _root_.L2.Fun.bn2 {K : PySem.W.Frag} {x qual : Str} {st : Stmt} {f : Addr} {fd : FuncData} {p0 p1 : Str} (F : Fun K x qual st f fd) (h : ∀ (kV doc pm : Value) (an : Option Addr) (cdv ct : Value) (a0 a1 : Value), bindArgs (PySem.W.fnOf x qual (defArgs st) (defBody st) (defScope st) .none kV doc pm an cdv ct) ⟨[a0, a1], []⟩ = pure (List.zip [p0, p1] [a0, a1])) : Binds K fd [p0, p1] [] := F.binds fun kV doc pm an cdv ct us hl => match us, hl with | [a0, a1], _ => h kV doc pm an cdv ct a0 a1
set_option maxHeartbeats 1000000 in
theorem all_mk {l : PySem.W.OpenLaw} {w : World} {K : PySem.W.Frag} {h : Heap} {mg : Str → Option Value} {fa : Addr} (X : K.In h) (G : h.Ns mainGlobals mg) (hfa : mg "law" = some (.ref fa))
    {f0 f1 f2 f3 f4 f5 f6 f7 f8 f9 f10 f11 f12 f13 : Addr} {od0 an0 od1 an1 od2 an2 od3 an3 od4 an4 od5 an5 od6 an6 od7 an7 od8 an8 od9 an9 od10 an10 od11 an11 od12 an12 od13 an13 : Option Addr} {sl0 sl1 sl2 sl3 sl4 sl5 sl6 sl7 sl8 sl9 sl10 sl11 sl12 sl13 : Array (Option Value)} {oc0 kV0 dc0 pm0 cd0 ct0 oc1 kV1 dc1 pm1 cd1 ct1 oc2 kV2 dc2 pm2 cd2 ct2 oc3 kV3 dc3 pm3 cd3 ct3 oc4 kV4 dc4 pm4 cd4 ct4 oc5 kV5 dc5 pm5 cd5 ct5 oc6 kV6 dc6 pm6 cd6 ct6 oc7 kV7 dc7 pm7 cd7 ct7 oc8 kV8 dc8 pm8 cd8 ct8 oc9 kV9 dc9 pm9 cd9 ct9 oc10 kV10 dc10 pm10 cd10 ct10 oc11 kV11 dc11 pm11 cd11 ct11 oc12 kV12 dc12 pm12 cd12 ct12 oc13 kV13 dc13 pm13 cd13 ct13 : Value}
    (a0 : PySem.W.nsIn K mainGlobals "lamps_in" = some (some (.ref f0))) (l0 : K.lookup f0 = some ⟨oc0, od0, .func (PySem.W.fnOf "lamps_in" "lamps_in" (defArgs s_lamps_in) (defBody s_lamps_in) (defScope s_lamps_in) .none kV0 dc0 pm0 an0 cd0 ct0), sl0⟩) (c0 : PySem.W.codeIn K cd0 "lamps_in" = true) (k0 : PySem.W.keepIn K (.ref f0) = true)
    (a1 : PySem.W.nsIn K mainGlobals "waits" = some (some (.ref f1))) (l1 : K.lookup f1 = some ⟨oc1, od1, .func (PySem.W.fnOf "waits" "waits" (defArgs s_waits) (defBody s_waits) (defScope s_waits) .none kV1 dc1 pm1 an1 cd1 ct1), sl1⟩) (c1 : PySem.W.codeIn K cd1 "waits" = true) (k1 : PySem.W.keepIn K (.ref f1) = true)
    (a2 : PySem.W.nsIn K mainGlobals "hopes" = some (some (.ref f2))) (l2 : K.lookup f2 = some ⟨oc2, od2, .func (PySem.W.fnOf "hopes" "hopes" (defArgs s_hopes) (defBody s_hopes) (defScope s_hopes) .none kV2 dc2 pm2 an2 cd2 ct2), sl2⟩) (c2 : PySem.W.codeIn K cd2 "hopes" = true) (k2 : PySem.W.keepIn K (.ref f2) = true)
    (a3 : PySem.W.nsIn K mainGlobals "_law_cell_at" = some (some (.ref f3))) (l3 : K.lookup f3 = some ⟨oc3, od3, .func (PySem.W.fnOf "_law_cell_at" "_law_cell_at" (defArgs s_law_cell_at) (defBody s_law_cell_at) (defScope s_law_cell_at) .none kV3 dc3 pm3 an3 cd3 ct3), sl3⟩) (c3 : PySem.W.codeIn K cd3 "_law_cell_at" = true) (k3 : PySem.W.keepIn K (.ref f3) = true)
    (a4 : PySem.W.nsIn K mainGlobals "_law_stream" = some (some (.ref f4))) (l4 : K.lookup f4 = some ⟨oc4, od4, .func (PySem.W.fnOf "_law_stream" "_law_stream" (defArgs s_law_stream) (defBody s_law_stream) (defScope s_law_stream) .none kV4 dc4 pm4 an4 cd4 ct4), sl4⟩) (c4 : PySem.W.codeIn K cd4 "_law_stream" = true) (k4 : PySem.W.keepIn K (.ref f4) = true)
    (a5 : PySem.W.nsIn K mainGlobals "_law_part" = some (some (.ref f5))) (l5 : K.lookup f5 = some ⟨oc5, od5, .func (PySem.W.fnOf "_law_part" "_law_part" (defArgs s_law_part) (defBody s_law_part) (defScope s_law_part) .none kV5 dc5 pm5 an5 cd5 ct5), sl5⟩) (c5 : PySem.W.codeIn K cd5 "_law_part" = true) (k5 : PySem.W.keepIn K (.ref f5) = true)
    (a6 : PySem.W.nsIn K mainGlobals "_law_row" = some (some (.ref f6))) (l6 : K.lookup f6 = some ⟨oc6, od6, .func (PySem.W.fnOf "_law_row" "_law_row" (defArgs s_law_row) (defBody s_law_row) (defScope s_law_row) .none kV6 dc6 pm6 an6 cd6 ct6), sl6⟩) (c6 : PySem.W.codeIn K cd6 "_law_row" = true) (k6 : PySem.W.keepIn K (.ref f6) = true)
    (a7 : PySem.W.nsIn K mainGlobals "_law_size" = some (some (.ref f7))) (l7 : K.lookup f7 = some ⟨oc7, od7, .func (PySem.W.fnOf "_law_size" "_law_size" (defArgs s_law_size) (defBody s_law_size) (defScope s_law_size) .none kV7 dc7 pm7 an7 cd7 ct7), sl7⟩) (c7 : PySem.W.codeIn K cd7 "_law_size" = true) (k7 : PySem.W.keepIn K (.ref f7) = true)
    (a8 : PySem.W.nsIn K mainGlobals "_law_book" = some (some (.ref f8))) (l8 : K.lookup f8 = some ⟨oc8, od8, .func (PySem.W.fnOf "_law_book" "_law_book" (defArgs s_law_book) (defBody s_law_book) (defScope s_law_book) .none kV8 dc8 pm8 an8 cd8 ct8), sl8⟩) (c8 : PySem.W.codeIn K cd8 "_law_book" = true) (k8 : PySem.W.keepIn K (.ref f8) = true)
    (a9 : PySem.W.nsIn K mainGlobals "_law_numbers" = some (some (.ref f9))) (l9 : K.lookup f9 = some ⟨oc9, od9, .func (PySem.W.fnOf "_law_numbers" "_law_numbers" (defArgs s_law_numbers) (defBody s_law_numbers) (defScope s_law_numbers) .none kV9 dc9 pm9 an9 cd9 ct9), sl9⟩) (c9 : PySem.W.codeIn K cd9 "_law_numbers" = true) (k9 : PySem.W.keepIn K (.ref f9) = true)
    (a10 : PySem.W.nsIn K mainGlobals "_law_waits" = some (some (.ref f10))) (l10 : K.lookup f10 = some ⟨oc10, od10, .func (PySem.W.fnOf "_law_waits" "_law_waits" (defArgs s_law_waits) (defBody s_law_waits) (defScope s_law_waits) .none kV10 dc10 pm10 an10 cd10 ct10), sl10⟩) (c10 : PySem.W.codeIn K cd10 "_law_waits" = true) (k10 : PySem.W.keepIn K (.ref f10) = true)
    (a11 : PySem.W.nsIn K mainGlobals "_law_numbers_alike" = some (some (.ref f11))) (l11 : K.lookup f11 = some ⟨oc11, od11, .func (PySem.W.fnOf "_law_numbers_alike" "_law_numbers_alike" (defArgs s_law_numbers_alike) (defBody s_law_numbers_alike) (defScope s_law_numbers_alike) .none kV11 dc11 pm11 an11 cd11 ct11), sl11⟩) (c11 : PySem.W.codeIn K cd11 "_law_numbers_alike" = true) (k11 : PySem.W.keepIn K (.ref f11) = true)
    (a12 : PySem.W.nsIn K mainGlobals "_law_asked" = some (some (.ref f12))) (l12 : K.lookup f12 = some ⟨oc12, od12, .func (PySem.W.fnOf "_law_asked" "_law_asked" (defArgs s_law_asked) (defBody s_law_asked) (defScope s_law_asked) .none kV12 dc12 pm12 an12 cd12 ct12), sl12⟩) (c12 : PySem.W.codeIn K cd12 "_law_asked" = true) (k12 : PySem.W.keepIn K (.ref f12) = true)
    (a13 : PySem.W.nsIn K mainGlobals "law" = some (some (.ref f13))) (l13 : K.lookup f13 = some ⟨oc13, od13, .func (PySem.W.fnOf "law" "law" (defArgs s_law) (defBody s_law) (defScope s_law) .none kV13 dc13 pm13 an13 cd13 ct13), sl13⟩) (c13 : PySem.W.codeIn K cd13 "law" = true) (k13 : PySem.W.keepIn K (.ref f13) = true)
    (z0 : PySem.W.nsIn K mainGlobals "bool" = some none)
    (z1 : PySem.W.nsIn K mainGlobals "enumerate" = some none)
    (z2 : PySem.W.nsIn K mainGlobals "int" = some none)
    (z3 : PySem.W.nsIn K mainGlobals "isinstance" = some none)
    (z4 : PySem.W.nsIn K mainGlobals "len" = some none)
    (z5 : PySem.W.nsIn K mainGlobals "list" = some none)
    (z6 : PySem.W.nsIn K mainGlobals "max" = some none)
    (z7 : PySem.W.nsIn K mainGlobals "min" = some none)
    (z8 : PySem.W.nsIn K mainGlobals "range" = some none)
    (z9 : PySem.W.nsIn K mainGlobals "set" = some none)
    (z10 : PySem.W.nsIn K mainGlobals "sorted" = some none)
    (z11 : PySem.W.nsIn K mainGlobals "str" = some none)
    (z12 : PySem.W.nsIn K mainGlobals "sum" = some none) :
    ∃ fd : FuncData, (∀ (s : Shared) (v : Value), BindsTo s fd ⟨[v], []⟩ [("_law_script", v)]) ∧ ∀ base : Heap, K.In base → base.Ns mainGlobals mg → FnOk l.prog w K mg base CX0 4 fa fd ["_law_script"] (sp_law K) := by
  have e := hfa.symm.trans (PySem.W.mg_of X G a13)
  cases e
  have T : Txt mg := ⟨PySem.W.mg_none_of X G z0, PySem.W.mg_none_of X G z1, PySem.W.mg_none_of X G z2, PySem.W.mg_none_of X G z3, PySem.W.mg_none_of X G z4, PySem.W.mg_none_of X G z5, PySem.W.mg_none_of X G z6, PySem.W.mg_none_of X G z7, PySem.W.mg_none_of X G z8, PySem.W.mg_none_of X G z9, PySem.W.mg_none_of X G z10, PySem.W.mg_none_of X G z11, PySem.W.mg_none_of X G z12⟩
  have F0 := fun_mk (st := s_lamps_in) l0 c0 k0
  have b0 := F0.bn1 (p0 := "rows") fun _ _ _ _ _ _ _ => rfl
  have F1 := fun_mk (st := s_waits) l1 c1 k1
  have b1 := F1.bn1 (p0 := "rows") fun _ _ _ _ _ _ _ => rfl
  have F2 := fun_mk (st := s_hopes) l2 c2 k2
  have b2 := F2.bn1 (p0 := "rows") fun _ _ _ _ _ _ _ => rfl
  have F3 := fun_mk (st := s_law_cell_at) l3 c3 k3
  have b3 := F3.bn2 (p0 := "_law_script") (p1 := "_law_k") fun _ _ _ _ _ _ _ _ => rfl
  have F4 := fun_mk (st := s_law_stream) l4 c4 k4
  have b4 := F4.bn2 (p0 := "_law_cell") (p1 := "_law_many") fun _ _ _ _ _ _ _ _ => rfl
  have F5 := fun_mk (st := s_law_part) l5 c5 k5
  have b5 := F5.bn2 (p0 := "_law_number") (p1 := "_law_many") fun _ _ _ _ _ _ _ _ => rfl
  have F6 := fun_mk (st := s_law_row) l6 c6 k6
  have b6 := F6.bn2 (p0 := "_law_number") (p1 := "_law_many") fun _ _ _ _ _ _ _ _ => rfl
  have F7 := fun_mk (st := s_law_size) l7 c7 k7
  have b7 := F7.bn2 (p0 := "_law_row_here") (p1 := "_law_sizes") fun _ _ _ _ _ _ _ _ => rfl
  have F8 := fun_mk (st := s_law_book) l8 c8 k8
  have b8 := F8.bn1 (p0 := "_law_numbers_here") fun _ _ _ _ _ _ _ => rfl
  have F9 := fun_mk (st := s_law_numbers) l9 c9 k9
  have b9 := F9.bn1 (p0 := "_law_script") fun _ _ _ _ _ _ _ => rfl
  have F10 := fun_mk (st := s_law_waits) l10 c10 k10
  have b10 := F10.bn1 (p0 := "_law_rows") fun _ _ _ _ _ _ _ => rfl
  have F11 := fun_mk (st := s_law_numbers_alike) l11 c11 k11
  have b11 := F11.bn2 (p0 := "_law_some") (p1 := "_law_due") fun _ _ _ _ _ _ _ _ => rfl
  have F12 := fun_mk (st := s_law_asked) l12 c12 k12
  have b12 := F12.bn2 (p0 := "_law_rows") (p1 := "_law_cell") fun _ _ _ _ _ _ _ _ => rfl
  have F13 := fun_mk (st := s_law) l13 c13 k13
  refine ⟨PySem.W.fnOf "law" "law" (defArgs s_law) (defBody s_law) (defScope s_law) .none kV13 dc13 pm13 an13 cd13 ct13, fun s v => .of_eq rfl, fun base _ _ => ?_⟩
  have D_law_part : DefOk l.prog w K mg base "_law_part" 1 ["_law_number", "_law_many"] (spM K mm_law_part) := def_of F5 (PySem.W.mg_of X G a5) b5 (ok_law_part F5 T)
  have D_law_row : DefOk l.prog w K mg base "_law_row" 2 ["_law_number", "_law_many"] (spM K mm_law_row) := def_of F6 (PySem.W.mg_of X G a6) b6 (ok_law_row F6 T D_law_part)
  have D_law_size : DefOk l.prog w K mg base "_law_size" 1 ["_law_row_here", "_law_sizes"] (spM K mm_law_size) := def_of F7 (PySem.W.mg_of X G a7) b7 (ok_law_size F7 T)
  have D_law_book : DefOk l.prog w K mg base "_law_book" 3 ["_law_numbers_here"] (spM K mm_law_book) := def_of F8 (PySem.W.mg_of X G a8) b8 (ok_law_book F8 T D_law_row D_law_size)
  have D_law_cell_at : DefOk l.prog w K mg base "_law_cell_at" 1 ["_law_script", "_law_k"] (spM K mm_law_cell_at) := def_of F3 (PySem.W.mg_of X G a3) b3 (ok_law_cell_at F3 T)
  have D_hopes : DefOk l.prog w K mg base "hopes" 1 ["rows"] (spL K mm_hopes) := def_of F2 (PySem.W.mg_of X G a2) b2 (ok_hopes F2 T)
  have D_waits : DefOk l.prog w K mg base "waits" 2 ["rows"] (spL K mm_waits) := def_of F1 (PySem.W.mg_of X G a1) b1 (ok_waits F1 T D_hopes)
  have D_lamps_in : DefOk l.prog w K mg base "lamps_in" 1 ["rows"] (spM K mm_lamps_in) := def_of F0 (PySem.W.mg_of X G a0) b0 (ok_lamps_in F0 T)
  have D_law_waits : DefOk l.prog w K mg base "_law_waits" 1 ["_law_rows"] (spM K mm_law_waits) := def_of F10 (PySem.W.mg_of X G a10) b10 (ok_law_waits F10 T)
  have D_law_numbers_alike : DefOk l.prog w K mg base "_law_numbers_alike" 1 ["_law_some", "_law_due"] (spM K mm_law_numbers_alike) := def_of F11 (PySem.W.mg_of X G a11) b11 (ok_law_numbers_alike F11 T)
  have D_law_asked : DefOk l.prog w K mg base "_law_asked" 3 ["_law_rows", "_law_cell"] (spM K mm_law_asked) := def_of F12 (PySem.W.mg_of X G a12) b12 (ok_law_asked F12 T D_waits D_hopes D_lamps_in D_law_waits D_law_numbers_alike)
  have D_law_stream : DefOk l.prog w K mg base "_law_stream" 1 ["_law_cell", "_law_many"] (spM K mm_law_stream) := def_of F4 (PySem.W.mg_of X G a4) b4 (ok_law_stream F4 T)
  have D_law_numbers : DefOk l.prog w K mg base "_law_numbers" 2 ["_law_script"] (spM K mm_law_numbers) := def_of F9 (PySem.W.mg_of X G a9) b9 (ok_law_numbers F9 T D_law_cell_at D_law_stream)
  exact (ok_law F13 T D_law_book D_law_cell_at D_law_asked D_law_numbers).imp fun _ _ _ _ h => law_imp h
theorem walk {l : PySem.W.OpenLaw} {q : Program} {loose : List Str} {XP : (Str → Option Value) → Heap → Prop} {YP : World → Heap → Prop} {d : DefRec} {K : Params → PySem.W.Frag} (hn : l.most = some 63) (hdf : d.params.defaults = [])
    (hY : ∀ (w : World) (h : Heap), YP w h → (K w.params).In h)
    (F : ∀ (w : World) (mg : Str → Option Value) (fa : Addr) (h : Heap), (K w.params).In h → h.Ns mainGlobals mg → mg d.name = some (.ref fa) →
      ∃ fd : FuncData, (∀ (s : Shared) (u : Value), BindsTo s fd ⟨[u], []⟩ [("_law_script", u)]) ∧ ∀ base : Heap, (K w.params).In base → base.Ns mainGlobals mg → FnOk l.prog w (K w.params) mg base CX0 4 fa fd ["_law_script"] (sp_law (K w.params))) :
    PySem.W.WalkO q loose XP YP l.row.toRowW d [] (fun f vs => PySem.call f vs) :=
  L2.walk_of (n := 63) (k := 4) (x := "_law_script") (CX := fun _ => CX0) (sp := fun w => sp_law (K w.params)) hn (by decide) hdf ⟨rfl, by decide, by decide⟩ hY F (fun _ _ a ns hl _ hS => ⟨a, ns, rfl, hS, hl, fun _ => rfl⟩) fun _ _ _ _ _ z => z
end My
open PySem PySem.W PyProof.Rows
theorem PySem.W.Fast.te17026822758139433251 : True := trivial
set_option maxRecDepth 100000 in
set_option maxHeartbeats 0 in
theorem PySem.Challenge.cw_lassoscribe_k18_waits_and_hopes_holds : PySem.Challenge.rw_lassoscribe_k18_waits_and_hopes.Holds := by
  w_on; o_law; k_head; (case hw => w_witness2)
  k_fill
  refine My.walk (l := PySem.Challenge.rw_lassoscribe_k18_waits_and_hopes) rfl rfl (fun w h Y => PySem.W.kIn_of Y) ?F
  case F =>
    intro w mg fa h KX G hmg
    refine' My.all_mk KX G hmg ?a0 ?l0 ?c0 ?k0 ?a1 ?l1 ?c1 ?k1 ?a2 ?l2 ?c2 ?k2 ?a3 ?l3 ?c3 ?k3 ?a4 ?l4 ?c4 ?k4 ?a5 ?l5 ?c5 ?k5 ?a6 ?l6 ?c6 ?k6 ?a7 ?l7 ?c7 ?k7 ?a8 ?l8 ?c8 ?k8 ?a9 ?l9 ?c9 ?k9 ?a10 ?l10 ?c10 ?k10 ?a11 ?l11 ?c11 ?k11 ?a12 ?l12 ?c12 ?k12 ?a13 ?l13 ?c13 ?k13 ?z0 ?z1 ?z2 ?z3 ?z4 ?z5 ?z6 ?z7 ?z8 ?z9 ?z10 ?z11 ?z12
    (case a0 => k_is)
    (case l0 => k_is)
    (case c0 => k_is)
    (case k0 => k_is)
    (case a1 => k_is)
    (case l1 => k_is)
    (case c1 => k_is)
    (case k1 => k_is)
    (case a2 => k_is)
    (case l2 => k_is)
    (case c2 => k_is)
    (case k2 => k_is)
    (case a3 => k_is)
    (case l3 => k_is)
    (case c3 => k_is)
    (case k3 => k_is)
    (case a4 => k_is)
    (case l4 => k_is)
    (case c4 => k_is)
    (case k4 => k_is)
    (case a5 => k_is)
    (case l5 => k_is)
    (case c5 => k_is)
    (case k5 => k_is)
    (case a6 => k_is)
    (case l6 => k_is)
    (case c6 => k_is)
    (case k6 => k_is)
    (case a7 => k_is)
    (case l7 => k_is)
    (case c7 => k_is)
    (case k7 => k_is)
    (case a8 => k_is)
    (case l8 => k_is)
    (case c8 => k_is)
    (case k8 => k_is)
    (case a9 => k_is)
    (case l9 => k_is)
    (case c9 => k_is)
    (case k9 => k_is)
    (case a10 => k_is)
    (case l10 => k_is)
    (case c10 => k_is)
    (case k10 => k_is)
    (case a11 => k_is)
    (case l11 => k_is)
    (case c11 => k_is)
    (case k11 => k_is)
    (case a12 => k_is)
    (case l12 => k_is)
    (case c12 => k_is)
    (case k12 => k_is)
    (case a13 => k_is)
    (case l13 => k_is)
    (case c13 => k_is)
    (case k13 => k_is)
    (case z0 => k_is)
    (case z1 => k_is)
    (case z2 => k_is)
    (case z3 => k_is)
    (case z4 => k_is)
    (case z5 => k_is)
    (case z6 => k_is)
    (case z7 => k_is)
    (case z8 => k_is)
    (case z9 => k_is)
    (case z10 => k_is)
    (case z11 => k_is)
    (case z12 => k_is)
