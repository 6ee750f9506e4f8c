import PyProof.Rows.All
import Wide.All
import OpenK.AllK
import Wide.FinOn
import Lean
import PyProof.EqAt
import PyProof.EqKinds
import PyProof.TupleCall
import PyProof.NeKinds
import PyProof.EnumFor
import PyProof.EnumMake
import PyProof.Rows.EnumRows
import PyProof.Rows.Range3
import PyProof.NoPylong
import PyProof.ListRange
import PyProof.TupleOfSeq
import PyProof.TupleOfStr
import PyProof.Draws
import PyProof.ZipIter
import PyProof.Rows.ZipGen
import PyProof.Rows.SortStr
import PyProof.Rows.TupAdd
import PyProof.SetRoads
import PyProof.Rows.SetFrom
import PyProof.StrWalks
import PyProof.CollectWalk
import KE.KDictList
import PyProof.Tail
import PyProof.TupleIter
import PyProof.AttrMiss
import KE.KDictOf
import OpenK.KTop
import PyProof.Rows.SortRev
import PyProof.Rows.CallKwBuiltin
import PyProof.Rows.CallKw2
import KE.KRevIter
import PyProof.SumWalkG
import PySem.Challenge.RW_lassoscribe_k11_is_sentence
theorem bE {α β : Type} {o : Option α} {f : α → Option β} {b : β} {C : Prop} (h : o.bind f = some b) (k : ∀ a, o = some a → f a = some b → C) : C := by
  obtain ⟨a, h1, h2⟩ := Option.bind_eq_some_iff.mp h
  exact k a h1 h2
set_option Elab.async false
set_option linter.all false
set_option maxRecDepth 100000
namespace L2
open PySem PySem.Spec PyProof.Rows
noncomputable abbrev Key := Sum Int Str
noncomputable def keyIs : Key → Value → Bool
  | .inl k, v => Value.isInt k v
  | .inr x, v => Value.isStrOf x v
noncomputable def keyH (w : World) : Key → Int
  | .inl k => hashInt k
  | .inr x => hashStr w x
theorem keyIs_shape : ∀ {k : Key} {v : Value}, keyIs k v = true → (∃ i t, k = Sum.inl i ∧ v = Value.int i t) ∨ (∃ x t, k = Sum.inr x ∧ v = Value.str x t)
  | .inl i, v, h => by
    obtain ⟨t, e⟩ := Value.isInt_shape (k := i) (v := v) h
    exact .inl ⟨i, t, rfl, e⟩
  | .inr x, v, h => by
    obtain ⟨t, e⟩ := Value.isStrOf_shape (x := x) (v := v) h
    exact .inr ⟨x, t, rfl, e⟩
theorem keyIs_int (i : Int) (t : Tok) : keyIs (.inl i) (.int i t) = true := by simp [keyIs, Value.isInt]
theorem keyIs_str (x : Str) (t : Tok) : keyIs (.inr x) (.str x t) = true := by simp [keyIs, Value.isStrOf]
theorem key_ll (a b : Int) : decide ((Sum.inl a : Key) = Sum.inl b) = (a == b) := by
  by_cases e : a = b
  · subst e; simp
  · have h : ¬ (Sum.inl a : Key) = Sum.inl b := fun q => e (Sum.inl.inj q)
    rw [decide_eq_false h]
    exact (beq_eq_false_iff_ne.mpr e).symm
theorem key_rr (a b : Str) : decide ((Sum.inr a : Key) = Sum.inr b) = decide (a = b) := by
  by_cases e : a = b
  · subst e; simp
  · have h : ¬ (Sum.inr a : Key) = Sum.inr b := fun q => e (Sum.inr.inj q)
    rw [decide_eq_false h, decide_eq_false e]
theorem key_lr (a : Int) (b : Str) : decide ((Sum.inl a : Key) = Sum.inr b) = false := decide_eq_false (fun q => nomatch q)
theorem key_rl (a : Str) (b : Int) : decide ((Sum.inr a : Key) = Sum.inl b) = false := decide_eq_false (fun q => nomatch q)
noncomputable def mixKind (prog : Program) (w : World) : PySem.KeyKind prog w Key where
  is := keyIs
  hash := keyH w
  inj := fun v a b ha hb => by
    rcases keyIs_shape ha with ⟨i, t, rfl, rfl⟩ | ⟨x, t, rfl, rfl⟩
    · rcases keyIs_shape hb with ⟨j, u, rfl, e⟩ | ⟨y, u, rfl, e⟩
      · injection e with e1 _; rw [e1]
      · exact nomatch e
    · rcases keyIs_shape hb with ⟨j, u, rfl, e⟩ | ⟨y, u, rfl, e⟩
      · exact nomatch e
      · injection e with e1 _; rw [e1]
  byValue := fun k v h => by
    rcases keyIs_shape h with ⟨i, t, rfl, rfl⟩ | ⟨x, t, rfl, rfl⟩ <;> rfl
  pyHash := fun hv h => by
    rcases keyIs_shape hv with ⟨i, t, rfl, rfl⟩ | ⟨x, t, rfl, rfl⟩
    · exact wpAny_pyHash_int h
    · exact wpAny_pyHash_str h
  eqBool := fun hu hv h => by
    rcases keyIs_shape hu with ⟨i, t, rfl, rfl⟩ | ⟨x, t, rfl, rfl⟩
    · rcases keyIs_shape hv with ⟨j, u, rfl, rfl⟩ | ⟨y, u, rfl, rfl⟩
      · rw [key_ll] at h; exact wpAny_eqBool_int h
      · rw [key_lr] at h; exact SeqAt.EqAt.int_str i t y u _ _ _ _ h
    · rcases keyIs_shape hv with ⟨j, u, rfl, rfl⟩ | ⟨y, u, rfl, rfl⟩
      · rw [key_rl] at h; exact SeqAt.EqAt.str_int x t j u _ _ _ _ h
      · rw [key_rr] at h; exact wpAny_eqBool_str h
  «strs» := fun k x t v h => by
    rcases keyIs_shape h with ⟨i, u, rfl, e⟩ | ⟨y, u, rfl, e⟩
    · exact nomatch e
    · injection e with e1 _
      subst e1
      cases v <;> rfl
theorem mixKind_int (prog : Program) (w : World) (i : Int) (t : Tok) : (mixKind prog w).is (.inl i) (.int i t) = true := keyIs_int i t
theorem mixKind_str (prog : Program) (w : World) (x : Str) (t : Tok) : (mixKind prog w).is (.inr x) (.str x t) = true := keyIs_str x t
end L2
namespace L2
open PySem PySem.Spec PyProof.Rows
inductive V where
  | non | bl (b : Bool) | int (i : Int) | str (x : Str) | byt (b : Array UInt8) | flt (b : UInt64) | ref (a : Addr) | ty (n : String)
  deriving DecidableEq
noncomputable def RelV : V → Value → Prop
  | .non, u => u = Value.none
  | .bl b, u => u = Value.bool b
  | .int i, u => ∃ t, u = Value.int i t
  | .str x, u => ∃ t, u = Value.str x t
  | .byt b, u => ∃ t, u = Value.bytes b t
  | .flt b, u => ∃ t, u = Value.float b t
  | .ref a, u => u = Value.ref a
  | .ty n, u => u = Value.type n
noncomputable abbrev Vals : List V → List Value → Prop := Paired RelV
theorem Vals.length {xs : List V} {us : List Value} (r : Vals xs us) : xs.length = us.length := Paired.length r
theorem Vals.get : ∀ {xs : List V} {us : List Value} {i : Nat} {x : V}, Vals xs us → xs[i]? = some x → ∃ u, us[i]? = some u ∧ RelV x u
  | _, _, _, _, .nil, e => by simp at e
  | _, _, 0, _, .cons r _, e => by simp at e; subst e; exact ⟨_, rfl, r⟩
  | _, _, i + 1, x, .cons _ t, e => by
    obtain ⟨u, h1, h2⟩ := Vals.get (i := i) (x := x) t (by simpa using e)
    exact ⟨u, by simpa using h1, h2⟩
theorem Vals.set {x : V} {u : Value} (r : RelV x u) : ∀ {xs : List V} {us : List Value} (i : Nat), Vals xs us → Vals (xs.set i x) (us.set i u)
  | _, _, _, .nil => .nil
  | _, _, 0, .cons _ t => .cons r t
  | _, _, i + 1, .cons q t => .cons q (Vals.set r i t)
theorem Vals.append : ∀ {xs ys : List V} {us ws : List Value}, Vals xs us → Vals ys ws → Vals (xs ++ ys) (us ++ ws)
  | _, _, _, _, .nil, s => s
  | _, _, _, _, .cons r t, s => .cons r (Vals.append t s)
theorem Vals.take : ∀ {xs : List V} {us : List Value} (n : Nat), Vals xs us → Vals (xs.take n) (us.take n)
  | _, _, 0, _ => .nil
  | _, _, _ + 1, .nil => .nil
  | _, _, n + 1, .cons r t => .cons r (Vals.take n t)
theorem Vals.drop : ∀ {xs : List V} {us : List Value} (n : Nat), Vals xs us → Vals (xs.drop n) (us.drop n)
  | _, _, 0, r => r
  | _, _, _ + 1, .nil => .nil
  | _, _, n + 1, .cons _ t => Vals.drop n t
noncomputable def RelO : Option V → Option Value → Prop
  | some v, some u => RelV v u
  | none, none => True
  | _, _ => False
noncomputable def KV {κ : Type} : List (κ × V) → List (κ × Value) → Prop := Paired fun (p : κ × V) (q : κ × Value) => p.1 = q.1 ∧ RelV p.2 q.2
noncomputable def kV : Key → V
  | .inl i => .int i
  | .inr x => .str x
inductive HO where
  | lst (xs : List V)
  | tup (xs : List V)
  | dK (kvs : List (Key × V)) | dT (kvs : List (List Key × V))
  | set (S : Int → Bool) (n : Nat)
  | ins (C dx : Addr) (fs : List (Str × V))
  | own (x : Addr)
  | xd (fs : List (Str × V))
  | met (f x : Addr)
  | rng (lo hi : Int)
  | frz (o : Obj) (u : HO)
  | tbl (ps : Array Value)
  | ext (φ : Heap → Prop)
noncomputable abbrev Hp := Addr → Option HO
noncomputable def upd (H : Hp) (a : Addr) (o : HO) : Hp := fun b => if b = a then some o else H b
theorem upd_same {H : Hp} {a : Addr} {o : HO} : upd H a o a = some o := by unfold upd; rw [if_pos rfl]
theorem upd_ne {H : Hp} {a b : Addr} {o : HO} (h : b ≠ a) : upd H a o b = H b := by unfold upd; rw [if_neg h]
theorem ne_of_none {H : Hp} {a b : Addr} {o : HO} (h : H a = some o) (h' : H b = none) : a ≠ b := by
  intro e; subst e; rw [h] at h'; cases h'
section
variable (P : Program) (w : World)
noncomputable def ObjOk (H : Hp) (h : Heap) (a : Addr) : HO → Prop
  | .lst xs => xs.length ≤ sizeLine ∧ ∃ (its : List Value) (n : Nat), Vals xs its ∧ h.get? a = some { cls := .type "list", data := .seq its.toArray n }
  | .tup xs => xs.length ≤ sizeLine ∧ ∃ its : List Value, Vals xs its ∧ IsTup h a its.toArray
  | .dK kvs => kvs.length ≤ sizeLine ∧ (a == sysModules) = false ∧ ∃ vs, KV kvs vs ∧ h.DictOf (mixKind P w) a vs
  | .dT kvs => kvs.length ≤ sizeLine ∧ (a == sysModules) = false ∧ ∃ xs : List (List Key × Addr × Value),
      Paired (fun (p : List Key × V) (q : List Key × Addr × Value) => p.1 = q.1 ∧ H q.2.1 = some (.tup (p.1.map kV)) ∧ RelV p.2 q.2.2) kvs xs ∧
      ∃ o es ep, h.get? a = some o ∧ o.ExactDict ∧ o.data = .dict es ep ∧ es.toList = xs.map (entryOfKey (tupleKind (mixKind P w))) ∧ (xs.map (·.1)).Nodup
  | .set S n => h.SetOf (intKind P w) a S n
  | .ins C dx fs => H dx = some (.own a) ∧ fs.length ≤ 1000 ∧ dx ≠ a ∧ h.get? a = some (PySem.W.instObj C dx) ∧
      ∃ mA, h.Ns1 dx mA ∧ (∀ f, RelO (fs.lookup f) (mA f)) ∧ PySem.Within mA (fs.map (·.1))
  | .own _ => ∃ o, h.get? a = some o
  | .xd fs => ∃ mA, h.Ns1 a mA ∧ ∀ f, RelO (fs.lookup f) (mA f)
  | .rng lo hi => ∃ t u v, h.get? a = some { cls := .type "range", data := .fields #[.int lo t, .int hi u, .int 1 v] }
  | .frz o u => h.get? a = some o ∧ ObjOk H h a u
  | .tbl ps => h.get? a = some { cls := .none, data := .fields ps }
  | .met f x => h.get? a = some (PySem.W.methodObj (.ref f) (.ref x))
  | .ext φ => φ h ∧ (∃ o, h.get? a = some o) ∧ ∀ h1 h2 : Heap, φ h1 → (∀ o, h1.get? a = some o → h2.get? a = some o) → φ h2
noncomputable def HOk (H : Hp) (h : Heap) : Prop := ∀ a o, H a = some o → ObjOk P w H h a o
end
section
variable {P : Program} {w : World} {H H' : Hp} {h h' : Heap} {a : Addr} {o : HO}
theorem ObjOk.lt (x : ObjOk P w H h a o) : a < h.objs.size := by
  cases o with
  | lst xs => obtain ⟨_, _, _, _, e⟩ := x; exact Heap.lt_size e
  | tup xs => obtain ⟨_, _, _, p⟩ := x; exact p.lt
  | dK kvs => obtain ⟨_, _, _, _, o, _, _, e, _⟩ := x; exact Heap.lt_size e
  | dT kvs => obtain ⟨_, _, _, _, o, _, _, e, _⟩ := x; exact Heap.lt_size e
  | set S n => obtain ⟨o, _, _, _, e, _⟩ := x; exact Heap.lt_size e
  | ins C dx fs => obtain ⟨_, _, _, e, _⟩ := x; exact Heap.lt_size e
  | own y => obtain ⟨_, e⟩ := x; exact Heap.lt_size e
  | xd fs => obtain ⟨_, ⟨_, _, _, e, _⟩, _⟩ := x; exact Heap.lt_size e
  | rng lo hi => obtain ⟨_, _, _, e⟩ := x; exact Heap.lt_size e
  | frz ob u => obtain ⟨e, _⟩ := x; exact Heap.lt_size e
  | tbl ps => exact Heap.lt_size (show h.get? a = some _ from x)
  | met f y => exact Heap.lt_size (show h.get? a = some _ from x)
  | ext φ => obtain ⟨_, ⟨_, e⟩, _⟩ := x; exact Heap.lt_size e
theorem Paired.mapP {α β : Type} {F G : α → β → Prop} : ∀ {l₁ : List α} {l₂ : List β}, Paired F l₁ l₂ → (∀ a b, F a b → G a b) → Paired G l₁ l₂
  | _, _, .nil, _ => .nil
  | _, _, .cons r t, f => .cons (f _ _ r) (Paired.mapP t f)
theorem Paired.imp' {α β : Type} {F G : α → β → Prop} (f : ∀ a b, F a b → G a b) {l₁ : List α} {l₂ : List β} (r : Paired F l₁ l₂) : Paired G l₁ l₂ := Paired.mapP r f
theorem ObjOk.stay (x : ObjOk P w H h a o) (k : ∀ b u, (b = a ∨ H b = some (.own a)) → h.get? b = some u → h'.get? b = some u)
    (ho : ∀ b, H b = some (.own a) → H' b = some (.own a)) (ht : ∀ b xs, H b = some (.tup xs) → H' b = some (.tup xs)) : ObjOk P w H' h' a o := by
  induction o with
  | lst xs => obtain ⟨z, its, n, r, e⟩ := x; exact ⟨z, its, n, r, k _ _ (.inl rfl) e⟩
  | tup xs => obtain ⟨z, its, r, ob, e, c⟩ := x; exact ⟨z, its, r, ob, k _ _ (.inl rfl) e, c⟩
  | dK kvs => obtain ⟨z, y, vs, r, ob, es, ep, e, c⟩ := x; exact ⟨z, y, vs, r, ob, es, ep, k _ _ (.inl rfl) e, c⟩
  | dT kvs =>
    obtain ⟨z, y, xs, r, ob, es, ep, e, c⟩ := x
    exact ⟨z, y, xs, Paired.mapP r fun p q z => ⟨z.1, ht _ _ z.2.1, z.2.2⟩, ob, es, ep, k _ _ (.inl rfl) e, c⟩
  | set S n => obtain ⟨ob, es, ep, t, e, c⟩ := x; exact ⟨ob, es, ep, t, k _ _ (.inl rfl) e, c⟩
  | ins C dx fs =>
    obtain ⟨d, z, ne, e, mA, ⟨od, es, ep, e2, c⟩, r⟩ := x
    exact ⟨ho _ d, z, ne, k _ _ (.inl rfl) e, mA, ⟨od, es, ep, k _ _ (.inr d) e2, c⟩, r⟩
  | own y => obtain ⟨ob, e⟩ := x; exact ⟨ob, k _ _ (.inl rfl) e⟩
  | xd fs => obtain ⟨mA, ⟨od, es, ep, e, c⟩, r⟩ := x; exact ⟨mA, ⟨od, es, ep, k _ _ (.inl rfl) e, c⟩, r⟩
  | rng lo hi => obtain ⟨t, u, v, e⟩ := x; exact ⟨t, u, v, k _ _ (.inl rfl) e⟩
  | frz ob u ih => obtain ⟨e, q⟩ := x; exact ⟨k _ _ (.inl rfl) e, ih q⟩
  | tbl ps =>
    have e : h.get? a = some { cls := .none, data := .fields ps } := x
    show h'.get? a = some { cls := .none, data := .fields ps }
    exact k a _ (.inl rfl) e
  | met f y =>
    have e : h.get? a = some (PySem.W.methodObj (.ref f) (.ref y)) := x
    show h'.get? a = some (PySem.W.methodObj (.ref f) (.ref y))
    exact k a _ (.inl rfl) e
  | ext φ => obtain ⟨p, ⟨o, e⟩, st⟩ := x; exact ⟨st _ _ p fun o q => k _ _ (.inl rfl) q, ⟨o, k _ _ (.inl rfl) e⟩, st⟩
theorem HOk.lt (x : HOk P w H h) (e : H a = some o) : a < h.objs.size := (x a o e).lt
theorem HOk.fresh (x : HOk P w H h) (e : h.objs.size ≤ a) : H a = none := by
  cases q : H a with
  | none => rfl
  | some u => exact absurd (Nat.lt_of_lt_of_le (x.lt q) e) (Nat.lt_irrefl _)
theorem HOk.kept (x : HOk P w H h) (k : ∀ b u, h.get? b = some u → h'.get? b = some u) : HOk P w H h' := fun a o e =>
  (x a o e).stay (fun b u _ q => k b u q) (fun _ q => q) fun _ _ q => q
theorem HOk.laid (x : HOk P w H h) (k : ∀ b u, h.get? b = some u → h'.get? b = some u) (hp : h.objs.size ≤ a) (new : ObjOk P w (upd H a o) h' a o) : HOk P w (upd H a o) h' := fun b u e => by
  have hn := x.fresh hp
  by_cases hb : b = a
  · subst hb; rw [upd_same] at e; cases e; exact new
  · rw [upd_ne hb] at e
    exact (x b u e).stay (fun c v _ q => k c v q) (fun c q => by rw [upd_ne (ne_of_none q hn)]; exact q) fun c xs q => by rw [upd_ne (ne_of_none q hn)]; exact q
end
noncomputable def Rd (H : Hp) (a : Addr) (u : HO) : Prop := H a = some u ∨ ∃ o, H a = some (.frz o u)
theorem Rd.of {H : Hp} {a : Addr} {u : HO} (h : H a = some u) : Rd H a u := .inl h
theorem Rd.ok {P : Program} {w : World} {H : Hp} {h : Heap} {a : Addr} {u : HO} (r : Rd H a u) (x : HOk P w H h) : ObjOk P w H h a u := by
  rcases r with r | ⟨o, r⟩
  · exact x a u r
  · obtain ⟨_, q⟩ := x a _ r
    exact q
noncomputable def Mut : Option HO → Prop
  | some (.lst _) => True
  | some (.dK _) => True
  | some (.dT _) => True
  | some (.set _ _) => True
  | some (.ins _ _ _) => True
  | some (.ext _) => True
  | _ => False
section
variable {P : Program} {w : World} {H : Hp} {h h' : Heap} {x e : Addr} {o' : HO}
theorem HOk.write (ok : HOk P w H h) (mu : Mut (H x)) (he : e = x ∨ H e = some (.own x)) (k : ∀ b u, b ≠ e → h.get? b = some u → h'.get? b = some u) (heo : ∃ u, h'.get? e = some u)
    (new : ObjOk P w (upd H x o') h' x o') : HOk P w (upd H x o') h' := fun b u q => by
  have nown : ∀ c y, H c = some (.own y) → c ≠ x := fun c y r z => by subst z; rw [r] at mu; exact mu
  have ntup : ∀ c xs, H c = some (.tup xs) → c ≠ x := fun c xs r z => by subst z; rw [r] at mu; exact mu
  by_cases hb : b = x
  · subst hb; rw [upd_same] at q; cases q; exact new
  · rw [upd_ne hb] at q
    by_cases hbe : b = e
    · have q' : H b = some (.own x) := by
        rcases he with z | z
        · exact absurd (hbe.trans z) hb
        · rw [hbe]; exact z
      rw [q] at q'; cases q'
      obtain ⟨v, hv⟩ := heo
      exact ⟨v, by rw [hbe]; exact hv⟩
    · refine (ok b u q).stay (fun c v hc r => k c v ?_ r) (fun c r => by rw [upd_ne (nown c b r)]; exact r) fun c xs r => by rw [upd_ne (ntup c xs r)]; exact r
      rcases hc with rfl | hc
      · exact hbe
      · rintro rfl
        rcases he with z | z
        · exact nown c b hc z
        · rw [hc] at z; cases z; exact hb rfl
end
structure Un (fs ex : List Addr) (H H' : Hp) (h h' : Heap) : Prop where
  keep : ∀ b o, h.get? b = some o → H b = none → b ∉ fs → b ∉ ex → h'.get? b = some o
  slot : ∀ b o, h.get? b = some o → H b = none → b ∈ fs → b ∉ ex → ∃ sl, h'.get? b = some { o with slots := sl }
  free : ∀ b o, h.get? b = some o → H b = none → b ∉ ex → H' b = none
  there : ∀ b o, h.get? b = some o → b ∉ ex → ∃ o', h'.get? b = some o'
  tups : ∀ b xs, H b = some (.tup xs) → H' b = some (.tup xs)
  frzs : ∀ b o u, H b = some (.frz o u) → H' b = some (.frz o u)
  tbls : ∀ b ps, H b = some (.tbl ps) → ∃ more, H' b = some (.tbl (ps ++ more))
section
variable {fs fs' ex ex' : List Addr} {H H1 H2 : Hp} {h h1 h2 h' : Heap} {a x e : Addr} {o : HO}
theorem Un.any (u : Un fs ex H H1 h h1) {b : Addr} {ob : Obj} (q : h.get? b = some ob) (n : H b = none) (hx : b ∉ ex) : ∃ sl, h1.get? b = some { ob with slots := sl } := by
  by_cases hb : b ∈ fs
  · exact u.slot b ob q n hb hx
  · exact ⟨ob.slots, u.keep b ob q n hb hx⟩
theorem Un.trans (a : Un fs ex H H1 h h1) (b : Un fs ex H1 H2 h1 h2) : Un fs ex H H2 h h2 where
  keep := fun c ob q n hc hx => b.keep c ob (a.keep c ob q n hc hx) (a.free c ob q n hx) hc hx
  slot := fun c ob q n hc hx => by
    obtain ⟨sl, e1⟩ := a.slot c ob q n hc hx
    obtain ⟨sl', e2⟩ := b.slot c _ e1 (a.free c ob q n hx) hc hx
    exact ⟨sl', e2⟩
  free := fun c ob q n hx => by
    obtain ⟨o', e1⟩ := a.there c ob q hx
    exact b.free c o' e1 (a.free c ob q n hx) hx
  there := fun c ob q hx => by
    obtain ⟨o', e1⟩ := a.there c ob q hx
    exact b.there c o' e1 hx
  tups := fun c xs q => b.tups c xs (a.tups c xs q)
  frzs := fun c ob xs q => b.frzs c ob xs (a.frzs c ob xs q)
  tbls := fun c ps q => by
    obtain ⟨m1, e1⟩ := a.tbls c ps q
    obtain ⟨m2, e2⟩ := b.tbls c _ e1
    exact ⟨m1 ++ m2, by rw [e2, Array.append_assoc]⟩
theorem Un.kept (k : ∀ b u, h.get? b = some u → h'.get? b = some u) : Un fs ex H H h h' :=
  ⟨fun b ob q _ _ _ => k b ob q, fun b ob q _ _ _ => ⟨ob.slots, k b ob q⟩, fun _ _ _ n _ => n, fun b ob q _ => ⟨ob, k b ob q⟩, fun _ _ q => q, fun _ _ _ q => q, fun _ ps q => ⟨#[], by rw [q]; simp⟩⟩
theorem Un.refl : Un fs ex H H h h := Un.kept fun _ _ q => q
theorem Un.laid (k : ∀ b u, h.get? b = some u → h'.get? b = some u) (hp : h.objs.size ≤ a) (hn : H a = none) : Un fs ex H (upd H a o) h h' where
  keep := fun b u q _ _ _ => k b u q
  slot := fun b u q _ _ _ => ⟨u.slots, k b u q⟩
  free := fun b u q n _ => by rw [upd_ne (Nat.ne_of_lt (Nat.lt_of_lt_of_le (Heap.lt_size q) hp))]; exact n
  there := fun b u q _ => ⟨u, k b u q⟩
  tups := fun b xs q => by rw [upd_ne (ne_of_none q hn)]; exact q
  frzs := fun b u xs q => by rw [upd_ne (ne_of_none q hn)]; exact q
  tbls := fun b ps q => ⟨#[], by rw [upd_ne (ne_of_none q hn), q]; simp⟩
theorem Un.write (mu : Mut (H x)) (he : e = x ∨ H e = some (.own x)) (k : ∀ b u, b ≠ e → h.get? b = some u → h'.get? b = some u) (heo : ∃ u, h'.get? e = some u) : Un fs ex H (upd H x o) h h' := by
  have hx : ∀ b, H b = none → b ≠ x := fun b n z => by subst z; rw [n] at mu; exact mu
  have hb : ∀ b, H b = none → b ≠ e := fun b n z => by
    subst z
    rcases he with r | r
    · exact hx b n r
    · rw [n] at r; cases r
  have hm : ∀ b u, H b = some u → ¬ Mut (some u) → b ≠ x := fun b u q nm z => by subst z; rw [q] at mu; exact nm mu
  refine ⟨fun b u q n _ _ => k b u (hb b n) q, fun b u q n _ _ => ⟨u.slots, k b u (hb b n) q⟩, fun b u q n _ => by rw [upd_ne (hx b n)]; exact n, fun b u q _ => ?_,
    fun b xs q => by rw [upd_ne (hm b _ q fun z => z)]; exact q, fun b u xs q => by rw [upd_ne (hm b _ q fun z => z)]; exact q, fun b ps q => ⟨#[], by rw [upd_ne (hm b _ q fun z => z), q]; simp⟩⟩
  by_cases hbe : b = e
  · subst hbe; exact heo
  · exact ⟨u, k b u hbe q⟩
theorem Un.mono (u : Un fs ex H H1 h h1) (hs : ∀ b ∈ fs, b ∈ fs') (hx : ∀ b ∈ ex, b ∈ ex') : Un fs' ex' H H1 h h1 :=
  ⟨fun b ob q n hb he => u.keep b ob q n (fun z => hb (hs b z)) fun z => he (hx b z), fun _ _ q n _ he => u.any q n fun z => he (hx _ z), fun b ob q n he => u.free b ob q n fun z => he (hx b z), fun b ob q he => u.there b ob q fun z => he (hx b z), u.tups, u.frzs, u.tbls⟩
end
noncomputable def trk (h : Heap) (H : Hp) : List Addr := (List.range h.objs.size).filter fun a => (H a).isSome
noncomputable def hidT (h : Heap) (H : Hp) : Heap := PySem.W.hideAll h (trk h H)
theorem hidT_size (h : Heap) (H : Hp) : (hidT h H).objs.size = h.objs.size := PySem.W.hideAll_size _ _
theorem hidT_get {h : Heap} {H : Hp} {b : Addr} {o : Obj} (e : h.get? b = some o) (n : H b = none) : (hidT h H).get? b = some o :=
  PySem.W.hideAll_get _ e fun hm => by
    have q : (H b).isSome = true := (List.mem_filter.mp hm).2
    rw [n] at q; simp at q
theorem of_hidT {h : Heap} {H : Hp} {b : Addr} {o : Obj} (e : (hidT h H).get? b = some o) : h.get? b = some o ∧ H b = none := by
  have e' : h.get? b = some o := PySem.W.of_hideAll (trk h H) e
  refine ⟨e', ?_⟩
  cases q : H b with
  | none => rfl
  | some x =>
    have hm : b ∈ trk h H := List.mem_filter.mpr ⟨List.mem_range.mpr (Heap.lt_size e'), by simp [q]⟩
    have z : (hidT h H).get? b = none := PySem.W.hideAll_none (trk h H) hm
    rw [z] at e; cases e
noncomputable def allNews (g h : Heap) (L : Addr) : List (Addr × Obj) := (List.range h.objs.size).filterMap fun a => if a = L ∨ (g.get? a).isSome = true then none else (h.get? a).map fun o => (a, o)
noncomputable def rest (g h : Heap) (L d : Addr) : List (Addr × Obj) := (allNews g h L).filter fun p => decide (p.1 ≠ d)
end L2
namespace L2
open PySem PySem.Spec PyProof.Rows
structure Mod (K : PySem.W.Frag) (mg : Str → Option Value) (base : Heap) : Prop where
  kin : K.In base
  glob : base.Ns mainGlobals mg
  blt : ∃ mb, base.Ns builtinsNs mb ∧ ∀ x : Str, x ≠ "__name__" → mb x = bootBuiltins x
  nolimit : base.NoLimit
structure Cx where
  prog : Program
  w : World
  K : PySem.W.Frag
  mg : Str → Option Value
  base : Heap
  A : Around
  N : List Str
  s₀ : Shared
  H₀ : Hp
  env : Env
  outer : List Env
  stack : List Env
  ex : List Addr
  fn : Str → Bool
  calm : Bool
  pn : List (Addr × Obj)
  xe : Value → Shared → Prop
noncomputable def frs (l : List Env) : List Addr := l.filterMap (·.frame)
noncomputable abbrev Cx.fs (X : Cx) : List Addr := frs X.outer
noncomputable def Vis (sc : Scope) (x : Str) : Prop := sc.names.lookup x = some .local ∨ sc.names.lookup x = some .cell ∨ sc.names.lookup x = some .free
noncomputable def Loc (sc : Scope) (x : Str) : Prop := sc.names.lookup x = some .local ∨ sc.names.lookup x = some .cell
noncomputable def Look (env : Env) (h : Heap) (m : Str → Option Value) (x : Str) (u : Value) : Prop :=
  (env.kindOf x = some .local ∧ m x = some u) ∨ ((env.kindOf x = some .cell ∨ env.kindOf x = some .free) ∧ ∃ c, env.cells.lookup x = some c ∧ h.IsCell c (some u))
structure Cx.Ok (X : Cx) : Prop where
  mod : Mod X.K X.mg X.base
  kind : X.env.scope.kind = .function
  glob : X.env.globals = mainGlobals
  blt : X.env.builtins = builtinsNs
  above : X.s₀.heap.objs.size ≤ X.env.locals
  inj : ∀ x y c, X.env.cells.lookup x = some c → X.env.cells.lookup y = some c → x = y
  has : ∀ x, (X.env.kindOf x = some .cell ∨ X.env.kindOf x = some .free) → ∃ c, X.env.cells.lookup x = some c
  cab : ∀ x c, X.fn x = true → X.env.cells.lookup x = some c → X.s₀.heap.objs.size ≤ c
  hd : X.calm = true → X.A.handled = none
  frames : X.A.frames = some X.stack
  stk : X.stack = X.outer ∨ (X.stack = X.env :: X.outer ∧ X.env.frame = some X.env.locals)
  exf : ∀ b ∈ X.ex, b ≠ X.env.locals ∧ ∀ x c, X.env.cells.lookup x = some c → c ≠ b
  bs : ∀ b o, X.base.get? b = some o → X.s₀.heap.get? b = some o ∧ X.H₀ b = none
  bsz : X.base.objs.size ≤ X.s₀.heap.objs.size
  noex : ∀ b o, X.base.get? b = some o → b ∉ X.ex
  exfs : ∀ b ∈ X.ex, b ∉ X.fs
  funs : X.s₀.heap.FunFrames X.base X.outer
  frf : ∀ b ∈ X.fs, X.H₀ b = none
structure Inv (X : Cx) (pins : List (Addr × Obj)) (σ : List (Option V)) (H : Hp) (s : Shared) : Prop where
  ok : X.Ok
  os : s.os = X.s₀.os
  bare : AllBare s.gens
  base : Un X.fs X.ex X.H₀ H X.s₀.heap s.heap
  loc : ∃ m, s.heap.Ns X.env.locals m ∧ ∀ (i : Nat) (x : Str) (v : V), X.N[i]? = some x → σ[i]? = some (some v) → Vis X.env.scope x → ∃ u, RelV v u ∧ Look X.env s.heap m x u
  cell : ∀ x c, X.env.cells.lookup x = some c → ∃ v, s.heap.IsCell c v
  free : H X.env.locals = none
  freeC : ∀ x c, X.env.cells.lookup x = some c → H c = none
  pin : ∀ p ∈ X.pn ++ pins, s.heap.get? p.1 = some p.2 ∧ H p.1 = none ∧ p.1 ≠ X.env.locals ∧ p.1 ∉ X.fs ∧ ∀ v, p.2.data ≠ .cell v
  hok : HOk X.prog X.w H s.heap
  len : σ.length = X.N.length
section
variable {X : Cx} {pins : List (Addr × Obj)} {σ : List (Option V)} {H H' : Hp} {s : Shared} {h' : Heap}
theorem Cx.Ok.nofr (ok : X.Ok) {b : Addr} {o : Obj} (e : X.base.get? b = some o) : b ∉ X.fs := fun hb => by
  have := (ok.funs.mem hb).1
  rw [e] at this; cases this
theorem Inv.bs (I : Inv X pins σ H s) : ∀ b o, X.base.get? b = some o → s.heap.get? b = some o ∧ H b = none := fun b o e =>
  ⟨I.base.keep b o (I.ok.bs b o e).1 (I.ok.bs b o e).2 (I.ok.nofr e) (I.ok.noex b o e), I.base.free b o (I.ok.bs b o e).1 (I.ok.bs b o e).2 (I.ok.noex b o e)⟩
theorem Inv.bk (I : Inv X pins σ H s) : ∀ b o, X.base.get? b = some o → s.heap.get? b = some o := fun b o e => (I.bs b o e).1
theorem Inv.mod (I : Inv X pins σ H s) : Mod X.K X.mg X.base := I.ok.mod
theorem Inv.kIn (I : Inv X pins σ H s) : X.K.In s.heap := I.ok.mod.kin.keeps I.bk
theorem Inv.nolimit (I : Inv X pins σ H s) : s.heap.NoLimit := I.ok.mod.nolimit.keeps I.bk
theorem Inv.lt (I : Inv X pins σ H s) : X.env.locals < s.heap.objs.size := let ⟨_, hn, _⟩ := I.loc; hn.lt
theorem Inv.sz (I : Inv X pins σ H s) : X.s₀.heap.objs.size ≤ s.heap.objs.size := Nat.le_trans I.ok.above (Nat.le_of_lt I.lt)
theorem Inv.nofs (I : Inv X pins σ H s) {a : Addr} (h : s.heap.objs.size ≤ a) : a ∉ X.fs := fun hb => by
  obtain ⟨_, o, ho, _⟩ := I.ok.funs.mem hb
  exact absurd (Nat.lt_of_lt_of_le (Heap.lt_size ho) (Nat.le_trans I.sz h)) (Nat.lt_irrefl _)
theorem Inv.cne (I : Inv X pins σ H s) : ∀ x c, X.env.cells.lookup x = some c → c ≠ X.env.locals := fun x c e z => by
  obtain ⟨v, o, ho, hd⟩ := I.cell x c e
  obtain ⟨m, ⟨o', es, ep, ho', hd', _⟩, _⟩ := I.loc
  rw [z, ho'] at ho; cases ho; rw [hd'] at hd; cases hd
theorem Inv.funs (I : Inv X pins σ H s) : s.heap.FunFrames X.base X.outer := by
  have all : ∀ (l : List Env), (∀ b ∈ frs l, b ∈ X.fs) → X.s₀.heap.FunFrames X.base l → s.heap.FunFrames X.base l := by
    intro l
    induction l with
    | nil => intro _ _; trivial
    | cons env r ih =>
      intro hs hl
      obtain ⟨hk, ⟨L, o, hf, hn, ho, hd⟩, hr⟩ := hl
      have hL : L ∈ X.fs := hs L (by unfold frs; rw [List.filterMap_cons, hf]; exact List.mem_cons_self)
      obtain ⟨sl, e⟩ := I.base.slot L o ho (I.ok.frf L hL) hL fun z => I.ok.exfs L z hL
      exact ⟨hk, ⟨L, _, hf, hn, e, hd⟩, ih (fun b hb => hs b (by unfold frs; rw [List.filterMap_cons, hf]; exact List.mem_cons_of_mem _ hb)) hr⟩
  exact all X.outer (fun _ hb => hb) I.ok.funs
theorem Inv.stack (I : Inv X pins σ H s) : s.heap.FunFrames X.base X.stack := by
  rcases I.ok.stk with e | ⟨e, hf⟩
  · rw [e]; exact I.funs
  · rw [e]
    obtain ⟨m, hn, _⟩ := I.loc
    refine .cons (by rw [I.ok.kind]; decide) hf hn ?_ I.funs
    exact Heap.get?_none_of_le (Nat.le_trans I.ok.bsz I.ok.above)
theorem Inv.stkSub (I : Inv X pins σ H s) : ∀ b ∈ frs X.stack, b ∈ X.env.locals :: X.fs := fun b hb => by
  rcases I.ok.stk with e | ⟨e, hf⟩
  · rw [e] at hb; exact List.mem_cons_of_mem _ hb
  · rw [e] at hb
    unfold frs at hb
    rw [List.filterMap_cons, hf] at hb
    exact hb
theorem Inv.stkFree (I : Inv X pins σ H s) : ∀ b ∈ frs X.stack, H b = none := fun b hb => by
  rcases List.mem_cons.mp (I.stkSub b hb) with e | hb
  · rw [e]; exact I.free
  · obtain ⟨_, o, ho, _⟩ := I.ok.funs.mem hb
    exact I.base.free b o ho (I.ok.frf b hb) fun z => I.ok.exfs b z hb
theorem Inv.step {g' : Array GenState} {t' : Nat} {d' : Drawn} {ch : List Addr} (I : Inv X pins σ H s)
    (hch : ∀ b ∈ ch, (b ∈ X.ex ∨ X.s₀.heap.objs.size ≤ b) ∧ b ≠ X.env.locals ∧ (∀ x c, X.env.cells.lookup x = some c → c ≠ b) ∧ ∀ p ∈ X.pn ++ pins, p.1 ≠ b)
    (keep : ∀ b o, b ≠ X.env.locals → b ∉ X.fs → b ∉ ch → s.heap.get? b = some o → H b = none → h'.get? b = some o)
    (slot : ∀ b o, b ≠ X.env.locals → b ∈ X.fs → b ∉ ch → s.heap.get? b = some o → H b = none → ∃ sl, h'.get? b = some { o with slots := sl }) (free : ∀ b o, b ∉ ch → s.heap.get? b = some o → H b = none → H' b = none)
    (there : ∀ b o, b ∉ ch → s.heap.get? b = some o → ∃ o', h'.get? b = some o')
    (tups : ∀ b xs, H b = some (.tup xs) → H' b = some (.tup xs)) (frzs : ∀ b o u, H b = some (.frz o u) → H' b = some (.frz o u)) (tbls : ∀ b ps, H b = some (.tbl ps) → ∃ more, H' b = some (.tbl (ps ++ more)))
    (ns : ∀ m, s.heap.Ns X.env.locals m → h'.Ns X.env.locals m) (hok : HOk X.prog X.w H' h') (hg : AllBare g') :
    Inv X pins σ H' { s with heap := h', gens := g', drawn := d', toks := t' } := by
  have neL : ∀ b o, X.s₀.heap.get? b = some o → b ≠ X.env.locals := fun b o e => Nat.ne_of_lt (Nat.lt_of_lt_of_le (Heap.lt_size e) I.ok.above)
  have neC : ∀ b o, X.s₀.heap.get? b = some o → b ∉ X.ex → b ∉ ch := fun b o e hx hb => by
    rcases (hch b hb).1 with z | z
    · exact hx z
    · exact absurd (Nat.lt_of_lt_of_le (Heap.lt_size e) z) (Nat.lt_irrefl _)
  have cellK : ∀ x c, X.env.cells.lookup x = some c → ∀ v, s.heap.IsCell c v → h'.IsCell c v := fun x c e v ⟨o, ho, hd⟩ => by
    have nch : c ∉ ch := fun z => (hch c z).2.2.1 x c e rfl
    by_cases hc : c ∈ X.fs
    · obtain ⟨sl, q⟩ := slot c o (I.cne x c e) hc nch ho (I.freeC x c e)
      exact ⟨_, q, hd⟩
    · exact ⟨o, keep c o (I.cne x c e) hc nch ho (I.freeC x c e), hd⟩
  refine ⟨I.ok, I.os, hg, ⟨fun b o e n hb hx => ?_, fun b o e n hb hx => ?_, fun b o e n hx => ?_, fun b o e hx => ?_, fun b xs e => tups b xs (I.base.tups b xs e), fun b o xs e => frzs b o xs (I.base.frzs b o xs e), fun b ps e => ?_⟩, ?_, fun x c e => ?_, ?_, fun x c e => ?_, fun p hp => ?_, hok, I.len⟩
  · exact keep b o (neL b o e) hb (neC b o e hx) (I.base.keep b o e n hb hx) (I.base.free b o e n hx)
  · obtain ⟨sl, e1⟩ := I.base.slot b o e n hb hx
    obtain ⟨sl', e2⟩ := slot b _ (neL b o e) hb (neC b o e hx) e1 (I.base.free b o e n hx)
    exact ⟨sl', e2⟩
  · obtain ⟨o', e1⟩ := I.base.there b o e hx
    exact free b o' (neC b o e hx) e1 (I.base.free b o e n hx)
  · obtain ⟨o', e1⟩ := I.base.there b o e hx
    exact there b o' (neC b o e hx) e1
  · obtain ⟨m1, e1⟩ := I.base.tbls b ps e
    obtain ⟨m2, e2⟩ := tbls b _ e1
    exact ⟨m1 ++ m2, by rw [e2, Array.append_assoc]⟩
  · obtain ⟨m, hn, hl⟩ := I.loc
    refine ⟨m, ns m hn, fun i x v e1 e2 e3 => ?_⟩
    obtain ⟨u, r, l⟩ := hl i x v e1 e2 e3
    refine ⟨u, r, ?_⟩
    rcases l with l | ⟨k, c, e, z⟩
    · exact .inl l
    · exact .inr ⟨k, c, e, cellK x c e _ z⟩
  · obtain ⟨v, z⟩ := I.cell x c e
    exact ⟨v, cellK x c e v z⟩
  · obtain ⟨m, ⟨o, _, _, ho, _⟩, _⟩ := I.loc
    exact free _ o (fun z => (hch _ z).2.1 rfl) ho I.free
  · obtain ⟨v, o, ho, hd⟩ := I.cell x c e
    exact free c o (fun z => (hch c z).2.2.1 x c e rfl) ho (I.freeC x c e)
  · obtain ⟨e, n, ne, nf, d⟩ := I.pin p hp
    have nch : p.1 ∉ ch := fun z => (hch p.1 z).2.2.2 p hp rfl
    exact ⟨keep p.1 p.2 ne nf nch e n, free p.1 p.2 nch e n, ne, nf, d⟩
theorem Inv.un {t' : Nat} (I : Inv X pins σ H s) (u : Un X.fs [] H H' s.heap h') (hok : HOk X.prog X.w H' h') : Inv X pins σ H' { s with heap := h', toks := t' } := by
  obtain ⟨m, ⟨o, es, ep, ho, r⟩, _⟩ := id I.loc
  obtain ⟨sl, hL⟩ := u.any ho I.free (by simp)
  exact I.step (g' := s.gens) (d' := s.drawn) (ch := []) (fun _ z => nomatch z) (fun b o _ hb _ e n => u.keep b o e n hb (by simp)) (fun b o _ hb _ e n => u.slot b o e n hb (by simp)) (fun b o _ e n => u.free b o e n (by simp)) (fun b o _ e => u.there b o e (by simp)) u.tups u.frzs u.tbls (fun m' hm => by
    obtain ⟨o', es', ep', ho', r'⟩ := hm
    rw [ho] at ho'; cases ho'
    exact ⟨_, es', ep', hL, r'⟩) hok I.bare
theorem Inv.call {g' : Array GenState} {t' : Nat} {d' : Drawn} {ch : List Addr} (I : Inv X pins σ H s) (u : Un (frs X.stack) ch H H' s.heap h') (hok : HOk X.prog X.w H' h') (hg : AllBare g')
    (hch : ∀ b ∈ ch, (b ∈ X.ex ∨ X.s₀.heap.objs.size ≤ b) ∧ b ≠ X.env.locals ∧ (∀ x c, X.env.cells.lookup x = some c → c ≠ b) ∧ ∀ p ∈ X.pn ++ pins, p.1 ≠ b) :
    Inv X pins σ H' { s with heap := h', gens := g', drawn := d', toks := t' } := by
  obtain ⟨m, ⟨o, es, ep, ho, r⟩, _⟩ := id I.loc
  obtain ⟨sl, hL⟩ := u.any ho I.free fun z => (hch _ z).2.1 rfl
  exact I.step (ch := ch) hch (fun b o hL hb hc e n => u.keep b o e n (fun z => (List.mem_cons.mp (I.stkSub b z)).elim hL hb) hc) (fun b o _ _ hc e n => u.any e n hc) (fun b o hc e n => u.free b o e n hc) (fun b o hc e => u.there b o e hc) u.tups u.frzs u.tbls (fun m' hm => by
    obtain ⟨o', es', ep', ho', r'⟩ := hm
    rw [ho] at ho'; cases ho'
    exact ⟨_, es', ep', hL, r'⟩) hok hg
theorem Inv.turned {t' : Nat} {it : Addr} (I : Inv X pins σ H s) (k : ∀ b o, b ≠ it → s.heap.get? b = some o → h'.get? b = some o) (hn : H it = none) (hL : it ≠ X.env.locals)
    (h1 : it ∈ X.ex ∨ X.s₀.heap.objs.size ≤ it) (h2 : ∀ x c, X.env.cells.lookup x = some c → c ≠ it) (h3 : ∀ p ∈ X.pn ++ pins, p.1 ≠ it) : Inv X pins σ H { s with heap := h', toks := t' } := by
  have nit : ∀ b u, H b = some u → b ≠ it := fun b u e z => by rw [z, hn] at e; cases e
  refine I.step (g' := s.gens) (d' := s.drawn) (ch := [it]) (fun b hb => ?_) (fun b o _ _ hc e _ => k b o (fun z => hc (by simp [z])) e) (fun b o _ _ hc e _ => ⟨o.slots, k b o (fun z => hc (by simp [z])) e⟩) (fun _ _ _ _ n => n)
    (fun b o hc e => ⟨o, k b o (fun z => hc (by simp [z])) e⟩) (fun _ _ e => e) (fun _ _ _ e => e) (fun b ps e => ⟨#[], by rw [e]; simp⟩) (fun m hm => ?_) (fun b u e => ?_) I.bare
  · have e : b = it := by simpa using hb
    subst e
    exact ⟨h1, hL, h2, h3⟩
  · obtain ⟨o, es, ep, ho, r⟩ := hm
    exact ⟨o, es, ep, k _ o (Ne.symm hL) ho, r⟩
  · refine (I.hok b u e).stay (fun c v hc q => k c v ?_ q) (fun _ q => q) fun _ _ q => q
    rcases hc with z | z
    · rw [z]; exact nit b u e
    · exact nit c _ z
theorem Inv.tok (I : Inv X pins σ H s) (t : Nat) : Inv X pins σ H { s with toks := t } := I.un (h' := s.heap) (t' := t) Un.refl I.hok
theorem Inv.kept {t' : Nat} (I : Inv X pins σ H s) (k : ∀ b u, s.heap.get? b = some u → h'.get? b = some u) : Inv X pins σ H { s with heap := h', toks := t' } := I.un (Un.kept k) (I.hok.kept k)
theorem Inv.laid {a : Addr} {o : HO} {t' : Nat} (I : Inv X pins σ H s) (k : ∀ b u, s.heap.get? b = some u → h'.get? b = some u) (hp : s.heap.objs.size ≤ a) (new : ObjOk X.prog X.w (upd H a o) h' a o) :
    Inv X pins σ (upd H a o) { s with heap := h', toks := t' } := I.un (Un.laid k hp (I.hok.fresh hp)) (I.hok.laid k hp new)
theorem Inv.write {x e : Addr} {o : HO} {t' : Nat} (I : Inv X pins σ H s) (mu : Mut (H x)) (he : e = x ∨ H e = some (.own x)) (k : ∀ b u, b ≠ e → s.heap.get? b = some u → h'.get? b = some u) (heo : ∃ u, h'.get? e = some u)
    (new : ObjOk X.prog X.w (upd H x o) h' x o) : Inv X pins σ (upd H x o) { s with heap := h', toks := t' } := I.un (Un.write mu he k heo) (I.hok.write mu he k heo new)
theorem Inv.weak {σ' : List (Option V)} (I : Inv X pins σ H s) (hl : σ'.length = σ.length) (w : ∀ (i : Nat) v, σ'[i]? = some (some v) → σ[i]? = some (some v)) : Inv X pins σ' H s :=
  ⟨I.ok, I.os, I.bare, I.base, let ⟨m, hn, hl'⟩ := I.loc; ⟨m, hn, fun i x v e1 e2 e3 => hl' i x v e1 (w i v e2) e3⟩, I.cell, I.free, I.freeC, I.pin, I.hok, hl.trans I.len⟩
theorem Inv.pins_of {pins' : List (Addr × Obj)} (I : Inv X pins σ H s) (h : ∀ p ∈ pins', s.heap.get? p.1 = some p.2 ∧ H p.1 = none ∧ p.1 ≠ X.env.locals ∧ p.1 ∉ X.fs ∧ ∀ v, p.2.data ≠ .cell v) : Inv X pins' σ H s :=
  ⟨I.ok, I.os, I.bare, I.base, I.loc, I.cell, I.free, I.freeC, fun p hp => (List.mem_append.mp hp).elim (fun z => I.pin p (List.mem_append_left _ z)) (h p), I.hok, I.len⟩
theorem nodup_ix {N : List Str} (hN : N.Nodup) {i j : Nat} {x : Str} (a : N[i]? = some x) (b : N[j]? = some x) : i = j := by
  obtain ⟨h1, e1⟩ := List.getElem?_eq_some_iff.mp a
  obtain ⟨h2, e2⟩ := List.getElem?_eq_some_iff.mp b
  exact (List.getElem_inj hN).mp (e1.trans e2.symm)
theorem store_ok2 {M : Model} {A : Around} {E : Value → Shared → Prop} {i : Nat} {x : Str} {v : V} {u : Value} {Q : Unit → Shared → Prop} (I : Inv X pins σ H s) (hN : X.N.Nodup) (hi : X.N[i]? = some x) (hx : Loc X.env.scope x) (r : RelV v u)
    (h : ∀ s', Inv X pins (σ.set i (some v)) H s' → (∃ a, Heap.SameBut a s.heap s'.heap ∧ (a = X.env.locals ∨ X.env.cells.lookup x = some a)) → Q () s') (hf : X.fn x = true ∨ X.env.scope.names.lookup x = some .local := by first | exact .inl rfl | exact .inr rfl | assumption) : wpAny M A (storeName X.env x u) Q E s := by
  obtain ⟨m, hn, hl⟩ := id I.loc
  have hcls : (X.env.scope.kind == .class || (X.env.scope.kind == .module && X.env.locals != X.env.globals)) = false := by rw [I.ok.kind]; rfl
  have hiσ : i < σ.length := by rw [I.len]; exact (List.getElem?_eq_some_iff.mp hi).1
  have cne := I.cne
  have tracked : ∀ {a : Addr} {h' : Heap}, (∃ o, s.heap.get? a = some o ∧ H a = none) → Heap.SameBut a s.heap h' → HOk X.prog X.w H h' := fun {a h'} ha hs b ob e => by
    obtain ⟨_, _, hfree⟩ := ha
    refine (I.hok b ob e).stay (fun c w' hc q => (hs.2 c ?_).trans q) (fun _ q => q) fun _ _ q => q
    rintro rfl
    rcases hc with rfl | hc
    · rw [hfree] at e; cases e
    · rw [hfree] at hc; cases hc
  rcases hx with hk | hk
  · refine wpAny_storeName_local hk hn (fun h' hn' hs => ?_) hcls
    obtain ⟨oL, _, _, hoL, _⟩ := id hn
    refine h _ ⟨I.ok, I.os, I.bare, ⟨fun b o e n hb hx => ?_, fun b o e n hb hx => ?_, I.base.free, fun b o e hx => ?_, I.base.tups, I.base.frzs, I.base.tbls⟩, ⟨_, hn', fun j y v' e1 e2 e3 => ?_⟩, fun y c e => ?_, I.free, I.freeC, fun p hp => ?_, tracked ⟨oL, hoL, I.free⟩ hs, by simpa using I.len⟩ ⟨_, hs, .inl rfl⟩
    · exact (hs.2 b (Nat.ne_of_lt (Nat.lt_of_lt_of_le (Heap.lt_size e) I.ok.above))).trans (I.base.keep b o e n hb hx)
    · obtain ⟨sl, e1⟩ := I.base.slot b o e n hb hx
      exact ⟨sl, (hs.2 b (Nat.ne_of_lt (Nat.lt_of_lt_of_le (Heap.lt_size e) I.ok.above))).trans e1⟩
    · obtain ⟨o', e1⟩ := I.base.there b o e hx
      exact ⟨o', (hs.2 b (Nat.ne_of_lt (Nat.lt_of_lt_of_le (Heap.lt_size e) I.ok.above))).trans e1⟩
    · by_cases hj : j = i
      · subst hj
        rw [hi] at e1; cases e1
        rw [List.getElem?_set_self hiσ] at e2
        cases e2
        exact ⟨u, r, .inl ⟨hk, by simp⟩⟩
      · rw [List.getElem?_set_ne (Ne.symm hj)] at e2
        obtain ⟨u', r', q⟩ := hl j y v' e1 e2 e3
        refine ⟨u', r', ?_⟩
        rcases q with ⟨k, e⟩ | ⟨k, c, e, z⟩
        · refine .inl ⟨k, ?_⟩
          have : y ≠ x := fun e => hj (nodup_ix hN e1 (e ▸ hi))
          simp [this, e]
        · exact .inr ⟨k, c, e, z.sameBut hs (cne y c e)⟩
    · obtain ⟨w', z⟩ := I.cell y c e
      exact ⟨w', z.sameBut hs (cne y c e)⟩
    · obtain ⟨e, n, ne, nf, d⟩ := I.pin p hp
      exact ⟨(hs.2 p.1 ne).trans e, n, ne, nf, d⟩
  · have hfn : X.fn x = true := by
      rcases hf with z | z
      · exact z
      · rw [z] at hk; cases hk
    obtain ⟨c, hc⟩ := I.ok.has x (.inl hk)
    obtain ⟨w', z⟩ := I.cell x c hc
    refine wpAny_storeName_cell I.ok.kind hk hc z (fun h' hc' hs => ?_)
    obtain ⟨oc, hoc, hocd⟩ := id z
    refine h { s with heap := h' } ⟨I.ok, I.os, I.bare, ⟨fun b o e n hb hx => ?_, fun b o e n hb hx => ?_, I.base.free, fun b o e hx => ?_, I.base.tups, I.base.frzs, I.base.tbls⟩, ⟨m, hn.sameBut hs (Ne.symm (cne x c hc)), fun j y v' e1 e2 e3 => ?_⟩, fun y c' e => ?_, I.free, I.freeC, fun p hp => ?_, tracked ⟨oc, hoc, I.freeC x c hc⟩ hs, by simpa using I.len⟩ ⟨c, hs, .inr hc⟩
    · exact (hs.2 b (Nat.ne_of_lt (Nat.lt_of_lt_of_le (Heap.lt_size e) (I.ok.cab x c hfn hc)))).trans (I.base.keep b o e n hb hx)
    · obtain ⟨sl, e1⟩ := I.base.slot b o e n hb hx
      exact ⟨sl, (hs.2 b (Nat.ne_of_lt (Nat.lt_of_lt_of_le (Heap.lt_size e) (I.ok.cab x c hfn hc)))).trans e1⟩
    · obtain ⟨o', e1⟩ := I.base.there b o e hx
      exact ⟨o', (hs.2 b (Nat.ne_of_lt (Nat.lt_of_lt_of_le (Heap.lt_size e) (I.ok.cab x c hfn hc)))).trans e1⟩
    · by_cases hj : j = i
      · subst hj
        rw [hi] at e1; cases e1
        rw [List.getElem?_set_self hiσ] at e2
        cases e2
        exact ⟨u, r, .inr ⟨.inl hk, c, hc, hc'⟩⟩
      · rw [List.getElem?_set_ne (Ne.symm hj)] at e2
        obtain ⟨u', r', q⟩ := hl j y v' e1 e2 e3
        refine ⟨u', r', ?_⟩
        rcases q with q | ⟨k, c', e, z'⟩
        · exact .inl q
        · refine .inr ⟨k, c', e, z'.sameBut hs ?_⟩
          rintro rfl
          exact hj (nodup_ix hN e1 (I.ok.inj _ _ _ e hc ▸ hi))
    · by_cases hcc : c' = c
      · subst hcc; exact ⟨_, hc'⟩
      · obtain ⟨w2, z2⟩ := I.cell y c' e
        exact ⟨w2, z2.sameBut hs hcc⟩
    · obtain ⟨e, n, ne, nf, d⟩ := I.pin p hp
      refine ⟨(hs.2 p.1 ?_).trans e, n, ne, nf, d⟩
      intro q
      rw [q, hoc] at e
      have q' : oc = p.2 := Option.some.inj e
      exact d w' (by rw [← q']; exact hocd)
theorem store_ok {M : Model} {A : Around} {E : Value → Shared → Prop} {i : Nat} {x : Str} {v : V} {u : Value} {Q : Unit → Shared → Prop} (I : Inv X pins σ H s) (hN : X.N.Nodup) (hi : X.N[i]? = some x) (hx : Loc X.env.scope x) (r : RelV v u)
    (h : ∀ s', Inv X pins (σ.set i (some v)) H s' → Q () s') (hf : X.fn x = true ∨ X.env.scope.names.lookup x = some .local := by first | exact .inl rfl | exact .inr rfl | assumption) : wpAny M A (storeName X.env x u) Q E s :=
  store_ok2 I hN hi hx r (fun s' I' _ => h s' I') hf
theorem Inv.call' {s' : Shared} {ch : List Addr} (I : Inv X pins σ H s) (ho : s'.os = s.os) (u : Un (frs X.stack) ch H H' s.heap s'.heap) (hok : HOk X.prog X.w H' s'.heap) (hg : AllBare s'.gens)
    (hch : ∀ b ∈ ch, (b ∈ X.ex ∨ X.s₀.heap.objs.size ≤ b) ∧ b ≠ X.env.locals ∧ (∀ x c, X.env.cells.lookup x = some c → c ≠ b) ∧ ∀ p ∈ X.pn ++ pins, p.1 ≠ b) : Inv X pins σ H' s' := by
  obtain ⟨h', g', d', t', o'⟩ := s'
  have e : o' = s.os := ho
  subst e
  exact I.call (g' := g') (t' := t') (d' := d') u hok hg hch
end
noncomputable abbrev XK := Value → Option Addr → Hp → Prop
noncomputable abbrev St := List (Option V)
noncomputable abbrev VK := V → Hp → Prop
noncomputable abbrev TE := St → Hp → VK → Prop
noncomputable abbrev TT := St → Hp → (Bool → Hp → Prop) → Prop
noncomputable abbrev TA := St → Hp → (List V → Hp → Prop) → Prop
structure Ends where
  nx : St → Hp → Prop
  rt : VK
  bk : St → Hp → Prop := fun _ _ => False
  ct : St → Hp → Prop := fun _ _ => False
noncomputable abbrev TS := Ends → St → Hp → Prop
noncomputable def EP (X : Cx) (pins : List (Addr × Obj)) (σ : St) (Q : VK) (u : Value) (s' : Shared) : Prop := ∃ v H', Inv X pins σ H' s' ∧ RelV v u ∧ Q v H'
noncomputable def TP (X : Cx) (pins : List (Addr × Obj)) (σ : St) (Q : Bool → Hp → Prop) (b : Bool) (s' : Shared) : Prop := ∃ H', Inv X pins σ H' s' ∧ Q b H'
noncomputable def AP (X : Cx) (pins : List (Addr × Obj)) (σ : St) (Q : List V → Hp → Prop) (us : List Value) (s' : Shared) : Prop := ∃ vs H', Inv X pins σ H' s' ∧ Vals vs us ∧ Q vs H'
noncomputable def SP (X : Cx) (pins : List (Addr × Obj)) (D : Ends) (f : Flow) (s' : Shared) : Prop :=
  match f with
  | .next => ∃ σ' H', Inv X pins σ' H' s' ∧ D.nx σ' H'
  | .brk => ∃ σ' H', Inv X pins σ' H' s' ∧ D.bk σ' H'
  | .cont => ∃ σ' H', Inv X pins σ' H' s' ∧ D.ct σ' H'
  | .ret u => ∃ v σ' H', Inv X pins σ' H' s' ∧ RelV v u ∧ D.rt v H'
noncomputable def PE (X : Cx) (e : Expr) (t : TE) : Prop :=
  ∀ (pins : List (Addr × Obj)) (s : Shared) (σ : St) (H : Hp) (Q : VK), Inv X pins σ H s → t σ H Q → wpAny (model X.prog X.w) X.A (eval e X.env) (EP X pins σ Q) X.xe s
noncomputable def PT (X : Cx) (e : Expr) (t : TT) : Prop :=
  ∀ (pins : List (Addr × Obj)) (s : Shared) (σ : St) (H : Hp) (Q : Bool → Hp → Prop), Inv X pins σ H s → t σ H Q → wpAny (model X.prog X.w) X.A (isTrue e X.env (eval e X.env)) (TP X pins σ Q) X.xe s
noncomputable def PW (X : Cx) (e : Expr) (t : TT) : Prop :=
  ∀ (whole : Sem Value) (pins : List (Addr × Obj)) (s : Shared) (σ : St) (H : Hp) (Q : Bool → Hp → Prop), Inv X pins σ H s → t σ H Q → wpAny (model X.prog X.w) X.A (isTrue e X.env whole) (TP X pins σ Q) X.xe s
theorem PW.pt {X : Cx} {e : Expr} {t : TT} (h : PW X e t) : PT X e t := h _
noncomputable def PA (X : Cx) (es : List Expr) (t : TA) : Prop :=
  ∀ (pos : Pos) (pins : List (Addr × Obj)) (s : Shared) (σ : St) (H : Hp) (Q : List V → Hp → Prop), Inv X pins σ H s → t σ H Q → wpAny (model X.prog X.w) X.A (spliced (backTo pos (starEach es X.env))) (AP X pins σ Q) X.xe s
noncomputable def PS (X : Cx) (st : Stmt) (t : TS) : Prop :=
  ∀ (pins : List (Addr × Obj)) (s : Shared) (σ : St) (H : Hp) (D : Ends), Inv X pins σ H s → t D σ H → wpAny (model X.prog X.w) X.A (exec st X.env) (SP X pins D) X.xe s
noncomputable def PSs (X : Cx) (st : List Stmt) (t : TS) : Prop :=
  ∀ (pins : List (Addr × Obj)) (s : Shared) (σ : St) (H : Hp) (D : Ends), Inv X pins σ H s → t D σ H → wpAny (model X.prog X.w) X.A (execs st X.env) (SP X pins D) X.xe s
theorem thn {α : Type} {t : Sem α} {Q Q' : α → Shared → Prop} {M : Model} {A : Around} {E : Value → Shared → Prop} {s : Shared} (h : wpAny M A t Q E s) (hQ : ∀ a s, Q a s → Q' a s) : wpAny M A t Q' E s := wpAny_mono h hQ fun _ _ x => x
end L2
namespace L2
open PySem PySem.Spec PyProof.Rows
section
variable {X : Cx}
noncomputable abbrev tVar (i : Nat) : TE := fun σ H Q => ∃ v, σ[i]? = some (some v) ∧ Q v H
noncomputable abbrev tC (v : V) : TE := fun _ H Q => Q v H
theorem pe_var {i : Nat} {x : Str} {pos : Pos} (hN : X.N[i]? = some x) (hv : Vis X.env.scope x) (hd : (x == ("__debug__" : Str)) = false := by decide) (hcd : (x == ("__classdict__" : Str)) = false := by decide) : PE X (.Name x pos) (tVar i) := by
  intro pins s σ H Q I h
  obtain ⟨v, e, h⟩ := h
  obtain ⟨m, hn, hl⟩ := I.loc
  obtain ⟨u, r, l⟩ := hl i x v hN e hv
  have fin : EP X pins σ Q u s := ⟨v, H, I, r, h⟩
  rcases l with ⟨hk, hm⟩ | ⟨hk, c, hc, hcell⟩
  · exact wpAny_Name (wpAny_loadName_local I.ok.kind hk hn hm fin) hd
  · rcases hk with hk | hk
    · exact wpAny_Name (wpAny_loadName_cell I.ok.kind hk hc hcell fin) hd
    · exact wpAny_Name (wpAny_loadName_free I.ok.kind hk hc hcell fin hcd) hd
theorem pe_int {i j pos} : PE X (.Constant (.int i) j pos) (tC (.int i)) := fun _ _ _ H _ I h => wpAny_Constant_int ⟨.int i, H, I.tok _, ⟨_, rfl⟩, h⟩
theorem pe_bl {b j pos} : PE X (.Constant (.bool b) j pos) (tC (.bl b)) := fun _ _ _ H _ I h => Constant_bool ⟨.bl b, H, I, rfl, h⟩
theorem pe_non {j pos} : PE X (.Constant .none j pos) (tC .non) := fun _ _ _ H _ I h => Constant_none ⟨.non, H, I, rfl, h⟩
theorem pe_str {x j pos} : PE X (.Constant (.str x) j pos) (tC (.str x)) := fun _ _ _ H _ I h => Calls.Constant_str ⟨.str x, H, I.tok _, ⟨_, rfl⟩, h⟩
noncomputable def Gl (X : Cx) (x : Str) : Prop := X.env.kindOf x = some .globalImplicit
theorem ld_glob {E : Value → Shared → Prop} {pins : List (Addr × Obj)} {s : Shared} {σ : St} {H : Hp} {x : Str} {u : Value} {pos : Pos} {Q : Value → Shared → Prop} (I : Inv X pins σ H s) (hg : Gl X x) (hm : X.mg x = some u) (h : Q u s)
    (hd : (x == ("__debug__" : Str)) = false := by decide) : wpAny (model X.prog X.w) X.A (eval (.Name x pos) X.env) Q E s :=
  Calls.Name_function_global I.ok.kind hg (Calls.loadGlobal_global (by rw [I.ok.glob]; exact I.mod.glob.keeps I.bk) hm h) hd
theorem ld_blt {E : Value → Shared → Prop} {pins : List (Addr × Obj)} {s : Shared} {σ : St} {H : Hp} {x : Str} {u : Value} {pos : Pos} {Q : Value → Shared → Prop} (I : Inv X pins σ H s) (hg : Gl X x) (hm : X.mg x = none) (hv : bootBuiltins x = some u) (h : Q u s)
    (hn : x ≠ "__name__" := by decide) (hd : (x == ("__debug__" : Str)) = false := by decide) : wpAny (model X.prog X.w) X.A (eval (.Name x pos) X.env) Q E s := by
  obtain ⟨mb, h1, h2⟩ := I.mod.blt
  exact Calls.Name_function_global I.ok.kind hg (Calls.loadGlobal_builtin (by rw [I.ok.glob]; exact I.mod.glob.keeps I.bk) hm (by rw [I.ok.blt]; exact h1.keeps I.bk) ((h2 x hn).trans hv) h) hd
theorem pe_glob {x : Str} {v : V} {u : Value} {pos : Pos} (hg : Gl X x) (hm : X.mg x = some u) (r : RelV v u) (hd : (x == ("__debug__" : Str)) = false := by decide) : PE X (.Name x pos) (tC v) :=
  fun _ _ _ H _ I h => ld_glob I hg hm ⟨v, H, I, r, h⟩ hd
theorem pe_bltn {x : Str} {v : V} {u : Value} {pos : Pos} (hg : Gl X x) (hm : X.mg x = none) (hv : bootBuiltins x = some u) (r : RelV v u) (hn : x ≠ "__name__" := by decide) (hd : (x == ("__debug__" : Str)) = false := by decide) : PE X (.Name x pos) (tC v) :=
  fun _ _ _ H _ I h => ld_blt I hg hm hv ⟨v, H, I, r, h⟩ hn hd
variable {a b : Expr} {ta tb : TE} {pos : Pos}
noncomputable def PC (X : Cx) (op : CmpOp) (a b : Expr) (t : TE) : Prop :=
  ∀ (pins : List (Addr × Obj)) (s : Shared) (σ : St) (H : Hp) (Q : VK), Inv X pins σ H s → t σ H Q →
    wpAny (model X.prog X.w) X.A (eval a X.env) (fun v s₁ => wpAny (model X.prog X.w) X.A (eval b X.env) (fun u s₂ => wpAny (model X.prog X.w) X.A (compareOp op v u) (EP X pins σ Q) X.xe s₂) X.xe s₁) X.xe s
theorem nobehind (b : Expr) {op : CmpOp} (h : op ≠ .In) (h2 : op ≠ .NotIn) : behindInMarks op b = false := by
  have e1 : (op == CmpOp.In) = false := by cases op <;> first | rfl | exact absurd rfl h
  have e2 : (op == CmpOp.NotIn) = false := by cases op <;> first | rfl | exact absurd rfl h2
  cases b <;> simp [behindInMarks, e1, e2]
theorem pe_cmp {op : CmpOp} {t : TE} (h : PC X op a b t) (h1 : behindInMarks op b = false := by first | exact nobehind _ (by decide) (by decide) | rfl) : PE X (.Compare a [op] [b] pos) t := fun pins s σ H Q I hw => wpAny_Compare1 (h pins s σ H Q I hw) h1
variable {tA tB' : TT} {rest : List Expr}
noncomputable abbrev tAnd (t u : TT) : TT := fun σ H Q => t σ H fun c H1 => if c = true then u σ H1 Q else Q false H1
noncomputable abbrev tOr (t u : TT) : TT := fun σ H Q => t σ H fun c H1 => if c = true then Q true H1 else u σ H1 Q
noncomputable abbrev tNot (t : TT) : TT := fun σ H Q => t σ H fun c H1 => Q (!c) H1
theorem pw_and1 (ha : PT X a tA) : PW X (.BoolOp .And [a] pos) tA := by
  intro wh pins s σ H Q I h
  refine isTrue_and (thn (ha pins s σ H Q I h) fun c s1 e => ?_)
  cases c with
  | true => exact isTrue_and_nil e
  | false => exact e
theorem pw_or1 (ha : PT X a tA) : PW X (.BoolOp .Or [a] pos) tA := by
  intro wh pins s σ H Q I h
  refine isTrue_or (thn (ha pins s σ H Q I h) fun c s1 e => ?_)
  cases c with
  | false => exact isTrue_or_nil e
  | true => exact e
theorem pw_and (ha : PT X a tA) (hb : PW X (.BoolOp .And (b :: rest) pos) tB') : PW X (.BoolOp .And (a :: b :: rest) pos) (tAnd tA tB') := by
  intro wh pins s σ H Q I h
  refine isTrue_and (thn (ha pins s σ H _ I h) fun c s1 ⟨H1, I1, q1⟩ => ?_)
  cases c with
  | true => exact hb wh pins s1 σ H1 Q I1 q1
  | false => exact ⟨H1, I1, q1⟩
theorem pw_or (ha : PT X a tA) (hb : PW X (.BoolOp .Or (b :: rest) pos) tB') : PW X (.BoolOp .Or (a :: b :: rest) pos) (tOr tA tB') := by
  intro wh pins s σ H Q I h
  refine isTrue_or (thn (ha pins s σ H _ I h) fun c s1 ⟨H1, I1, q1⟩ => ?_)
  cases c with
  | true => exact ⟨H1, I1, q1⟩
  | false => exact hb wh pins s1 σ H1 Q I1 q1
theorem pt_not (ha : PT X a tA) : PT X (.UnaryOp .Not a pos) (tNot tA) := by
  intro pins s σ H Q I h
  exact isTrue_not (ha pins s σ H (fun c H1 => Q (!c) H1) I h)
noncomputable abbrev tAndV (ta tb : TE) : TE := fun σ H Q => ta σ H fun x H1 => ∃ c, x = .bl c ∧ if c = true then tb σ H1 Q else Q (.bl false) H1
theorem pe_one {op} {t : TE} (h : PE X a t) : PE X (.BoolOp op [a] pos) t := fun pins s σ H Q I hw => BoolOp_one (h pins s σ H Q I hw)
theorem pe_and (ha : PE X a ta) (hb : PE X (.BoolOp .And (b :: rest) pos) tb) : PE X (.BoolOp .And (a :: b :: rest) pos) (tAndV ta tb) := by
  intro pins s σ H Q I h
  refine BoolOp_and (thn (ha pins s σ H _ I h) fun v s1 ⟨x, H1, I1, r1, q1⟩ => ?_)
  obtain ⟨c, rfl, q1⟩ := q1
  cases r1
  refine wpAny_truthy_bool ?_
  cases c with
  | true => exact hb pins s1 σ H1 Q I1 q1
  | false => exact ⟨.bl false, H1, I1, rfl, q1⟩
end
end L2
namespace L2
open PySem PySem.Spec PyProof.Rows
noncomputable def SqL (K : PySem.W.Frag) (H : Hp) (a : Addr) (xs : List V) : Prop :=
  Rd H a (.lst xs) ∨
    ∃ (o : Obj) (its : Array Value) (n : Nat), K.lookup a = some o ∧ o.cls = .type "list" ∧ o.dict = none ∧ o.data = .seq its n ∧ its.size ≤ sizeLine ∧ Vals xs its.toList
noncomputable def SqT (K : PySem.W.Frag) (H : Hp) (a : Addr) (xs : List V) : Prop :=
  Rd H a (.tup xs) ∨
    ∃ (o : Obj) (its : Array Value) (n : Nat), K.lookup a = some o ∧ o.cls = .type "tuple" ∧ o.data = .seq its n ∧ its.size ≤ sizeLine ∧ Vals xs its.toList
noncomputable def absV : Value → Option V
  | .none => some .non
  | .bool b => some (.bl b)
  | .int i _ => some (.int i)
  | .str x _ => some (.str x)
  | .bytes b _ => some (.byt b)
  | .float b _ => some (.flt b)
  | .ref a => some (.ref a)
  | .type n => some (.ty n)
  | _ => none
theorem RelV.abs {x : V} {u : Value} (r : RelV x u) : absV u = some x := by
  cases x with
  | non => cases r; rfl
  | bl _ => cases r; rfl
  | int _ => obtain ⟨t, rfl⟩ := r; rfl
  | str _ => obtain ⟨t, rfl⟩ := r; rfl
  | byt _ => obtain ⟨t, rfl⟩ := r; rfl
  | flt _ => obtain ⟨t, rfl⟩ := r; rfl
  | ref _ => cases r; rfl
  | ty _ => cases r; rfl
theorem RelV.inj {x y : V} {u : Value} (r : RelV x u) (q : RelV y u) : x = y := Option.some.inj (r.abs.symm.trans q.abs)
theorem Vals.inj : ∀ {xs ys : List V} {us : List Value}, Vals xs us → Vals ys us → xs = ys
  | _, _, _, .nil, .nil => rfl
  | _, _, _, .cons r t, .cons r' t' => by rw [r.inj r', Vals.inj t t']
section
variable {X : Cx} {pins : List (Addr × Obj)} {σ : St} {H : Hp} {s : Shared} {a : Addr} {xs ys : List V}
theorem SqL.of {K : PySem.W.Frag} (h : H a = some (.lst xs)) : SqL K H a xs := .inl (.inl h)
theorem SqT.of {K : PySem.W.Frag} (h : H a = some (.tup xs)) : SqT K H a xs := .inl (.inl h)
theorem Inv.list (I : Inv X pins σ H s) (h : SqL X.K H a xs) : ∃ its : List Value, Vals xs its ∧ PlainL s.heap a its.toArray ∧ xs.length ≤ sizeLine := by
  rcases h with h | ⟨o, its, n, hk, hc, hd, hs, hz, r⟩
  · obtain ⟨z, its, n, r, e⟩ := h.ok I.hok
    exact ⟨its, r, ⟨_, n, e, rfl, rfl, rfl⟩, z⟩
  · refine ⟨its.toList, r, ⟨o, n, I.kIn a o hk, hc, hd, by simpa using hs⟩, ?_⟩
    have e := r.length
    simp only [Array.length_toList] at e
    omega
theorem Inv.tuple (I : Inv X pins σ H s) (h : SqT X.K H a xs) : ∃ its : List Value, Vals xs its ∧ IsTup s.heap a its.toArray ∧ xs.length ≤ sizeLine := by
  rcases h with h | ⟨o, its, n, hk, hc, hs, hz, r⟩
  · obtain ⟨z, its, r, p⟩ := h.ok I.hok
    exact ⟨its, r, p, z⟩
  · refine ⟨its.toList, r, ⟨o, I.kIn a o hk, hc, n, by simpa using hs⟩, ?_⟩
    have e := r.length
    simp only [Array.length_toList] at e
    omega
theorem Inv.list_inj (I : Inv X pins σ H s) (h : SqL X.K H a xs) (h' : SqL X.K H a ys) : xs = ys := by
  obtain ⟨its, r, ⟨o, n, e, _, _, d⟩, _⟩ := I.list h
  obtain ⟨its', r', ⟨o', n', e', _, _, d'⟩, _⟩ := I.list h'
  rw [e] at e'; cases e'
  rw [d] at d'
  injection d' with d1 _
  have : its = its' := by simpa using congrArg Array.toList d1
  subst this
  exact r.inj r'
theorem Inv.tuple_inj (I : Inv X pins σ H s) (h : SqT X.K H a xs) (h' : SqT X.K H a ys) : xs = ys := by
  obtain ⟨its, r, ⟨o, e, _, n, d⟩, _⟩ := I.tuple h
  obtain ⟨its', r', ⟨o', e', _, n', d'⟩, _⟩ := I.tuple h'
  rw [e] at e'; cases e'
  rw [d] at d'
  injection d' with d1 _
  have : its = its' := by simpa using congrArg Array.toList d1
  subst this
  exact r.inj r'
end
noncomputable abbrev Cx.wish (X : Cx) (E : Value → Shared → Prop) : Cx := { X with xe := E }
noncomputable abbrev Cx.nox (X : Cx) : Cx := X.wish fun _ _ => False
theorem Cx.Ok.wish {X : Cx} (ok : X.Ok) (E : Value → Shared → Prop) : (X.wish E).Ok :=
  ⟨ok.mod, ok.kind, ok.glob, ok.blt, ok.above, ok.inj, ok.has, ok.cab, ok.hd, ok.frames, ok.stk, ok.exf, ok.bs, ok.bsz, ok.noex, ok.exfs, ok.funs, ok.frf⟩
theorem Cx.Ok.unwish {X : Cx} {E : Value → Shared → Prop} (ok : (X.wish E).Ok) : X.Ok :=
  ⟨ok.mod, ok.kind, ok.glob, ok.blt, ok.above, ok.inj, ok.has, ok.cab, ok.hd, ok.frames, ok.stk, ok.exf, ok.bs, ok.bsz, ok.noex, ok.exfs, ok.funs, ok.frf⟩
section
variable {X : Cx} {pins : List (Addr × Obj)} {σ : St} {H : Hp} {s : Shared} {E : Value → Shared → Prop}
theorem Inv.wish (I : Inv X pins σ H s) (E : Value → Shared → Prop) : Inv (X.wish E) pins σ H s := ⟨I.ok.wish E, I.os, I.bare, I.base, I.loc, I.cell, I.free, I.freeC, I.pin, I.hok, I.len⟩
theorem Inv.unwish (I : Inv (X.wish E) pins σ H s) : Inv X pins σ H s := ⟨I.ok.unwish, I.os, I.bare, I.base, I.loc, I.cell, I.free, I.freeC, I.pin, I.hok, I.len⟩
theorem SP.unwish {D : Ends} {f : Flow} {s' : Shared} (h : SP (X.wish E) pins D f s') : SP X pins D f s' := by
  cases f with
  | next => obtain ⟨σ', H', I, q⟩ := h; exact ⟨σ', H', I.unwish, q⟩
  | brk => obtain ⟨σ', H', I, q⟩ := h; exact ⟨σ', H', I.unwish, q⟩
  | cont => obtain ⟨σ', H', I, q⟩ := h; exact ⟨σ', H', I.unwish, q⟩
  | ret u => obtain ⟨v, σ', H', I, r, q⟩ := h; exact ⟨v, σ', H', I.unwish, r, q⟩
theorem PE.nox {e : Expr} {t : TE} (h : PE X.nox e t) : PE X e t := fun pins s σ H Q I hw =>
  wpAny_mono (h pins s σ H Q (I.wish _) hw) (fun _ _ ⟨v, H', I', r, q⟩ => ⟨v, H', I'.unwish, r, q⟩) fun _ _ z => False.elim z
theorem PT.nox {e : Expr} {t : TT} (h : PT X.nox e t) : PT X e t := fun pins s σ H Q I hw =>
  wpAny_mono (h pins s σ H Q (I.wish _) hw) (fun _ _ ⟨H', I', q⟩ => ⟨H', I'.unwish, q⟩) fun _ _ z => False.elim z
theorem PSs.nox {st : List Stmt} {t : TS} (h : PSs X.nox st t) : PSs X st t := fun pins s σ H D I hw =>
  wpAny_mono (h pins s σ H D (I.wish _) hw) (fun _ _ q => q.unwish) fun _ _ z => False.elim z
end
section
variable {X : Cx} {st : Stmt} {rest : List Stmt} {t u : TS} {e : Expr} {te : TE} {pos : Pos}
noncomputable abbrev tNext : TS := fun D σ H => D.nx σ H
noncomputable abbrev tSeq (t u : TS) : TS := fun D σ H => t { D with nx := u D } σ H
theorem pss_nil : PSs X [] tNext := fun _ _ σ H _ I h => wpAny_execs_nil ⟨σ, H, I, h⟩
theorem pss_cons (h1 : PS X st t) (h2 : PSs X rest u) : PSs X (st :: rest) (tSeq t u) := by
  intro pins s σ H D I h
  refine wpAny_execs_cons (thn (h1 pins s σ H { D with nx := u D } I h) fun f s1 q => ?_)
  cases f with
  | next =>
    obtain ⟨σ', H', I', q⟩ := q
    exact h2 pins s1 σ' H' D I' q
  | ret v => exact q
  | brk => exact q
  | cont => exact q
theorem Inv.quiet {pins : List (Addr × Obj)} {σ : St} {H : Hp} {s : Shared} (I : Inv X pins σ H s) : interactive X.env = false := by simp [interactive, I.ok.kind]
noncomputable abbrev tDrop (te : TE) : TS := fun D σ H => te σ H fun _ H1 => D.nx σ H1
theorem ps_expr (he : PE X e te) (hs : swapsWith e none pos.line X.env = pure false := by rfl) : PS X (.Expr e pos) (tDrop te) := by
  intro pins s σ H D I h
  exact wpAny_Expr_any (thn (he pins s σ H _ I h) fun v s1 ⟨x, H1, I1, r1, q1⟩ => ⟨σ, H1, I1, q1⟩) I.quiet hs
noncomputable abbrev tRet (te : TE) : TS := fun D σ H => te σ H D.rt
theorem ps_ret (he : PE X e te) : PS X (.Return (some e) pos) (tRet te) := by
  intro pins s σ H D I h
  exact wpAny_Return_some (thn (he pins s σ H _ I h) fun v s1 ⟨x, H1, I1, r1, q1⟩ => ⟨x, σ, H1, I1, r1, q1⟩)
noncomputable abbrev tIfS (c : TT) (t u : TS) : TS := fun D σ H => c σ H fun b H1 => if b = true then t D σ H1 else u D σ H1
theorem ps_if {c : Expr} {a b : List Stmt} {tc : TT} (hc : PT X c tc) (ha : PSs X a t) (hb : PSs X b u) : PS X (.If c a b pos) (tIfS tc t u) := by
  intro pins s σ H D I h
  refine wpAny_If (thn (hc pins s σ H _ I h) fun d s1 ⟨H1, I1, q1⟩ => ?_)
  cases d with
  | true => exact ha pins s1 σ H1 D I1 q1
  | false => exact hb pins s1 σ H1 D I1 q1
end
noncomputable abbrev TG := V → St → Hp → (St → Hp → Prop) → Prop
noncomputable abbrev TGs := List V → St → Hp → (St → Hp → Prop) → Prop
noncomputable def PG (X : Cx) (target : Expr) (t : TG) : Prop :=
  ∀ (pins : List (Addr × Obj)) (s : Shared) (σ : St) (H : Hp) (v : V) (u : Value) (Q : St → Hp → Prop), Inv X pins σ H s → RelV v u → t v σ H Q →
    wpAny (model X.prog X.w) X.A (assign target X.env u) (fun _ s' => ∃ σ' H', Inv X pins σ' H' s' ∧ Q σ' H') X.xe s
noncomputable def PGs (X : Cx) (ts : List Expr) (t : TGs) : Prop :=
  ∀ (pins : List (Addr × Obj)) (s : Shared) (σ : St) (H : Hp) (vs : List V) (us : List Value) (Q : St → Hp → Prop), Inv X pins σ H s → Vals vs us → t vs σ H Q →
    wpAny (model X.prog X.w) X.A (assignInOrder ((assignEach ts X.env).map (·.2)) us) (fun _ s' => ∃ σ' H', Inv X pins σ' H' s' ∧ Q σ' H') X.xe s
noncomputable abbrev TSet := V → V → V → Hp → (Hp → Prop) → Prop
noncomputable def PSet (X : Cx) (t : TSet) : Prop :=
  ∀ (pins : List (Addr × Obj)) (s : Shared) (σ : St) (H : Hp) (o i v : V) (ov iv u : Value) (Q : Hp → Prop), Inv X pins σ H s → RelV o ov → RelV i iv → RelV v u → t o i v H Q →
    wpAny (model X.prog X.w) X.A (setItem ov iv u) (fun _ s' => ∃ H', Inv X pins σ H' s' ∧ Q H') X.xe s
section
variable {X : Cx} {pos : Pos}
noncomputable abbrev gName (i : Nat) : TG := fun v σ H Q => Q (σ.set i (some v)) H
theorem pg_name {i : Nat} {x : Str} (hN : X.N.Nodup) (hi : X.N[i]? = some x) (hx : Loc X.env.scope x) (hf : X.fn x = true ∨ X.env.scope.names.lookup x = some .local := by first | exact .inl rfl | exact .inr rfl | assumption) : PG X (.Name x pos) (gName i) := by
  intro pins s σ H v u Q I r h
  exact wpAny_assign_Name (store_ok I hN hi hx r (fun s' I' => ⟨_, H, I', h⟩) hf)
noncomputable def gNil : TGs := fun vs σ H Q => vs = [] ∧ Q σ H
noncomputable def gCons (t : TG) (u : TGs) : TGs := fun vs σ H Q => ∃ v r, vs = v :: r ∧ t v σ H fun σ' H' => u r σ' H' Q
theorem pgs_nil : PGs X [] gNil := by
  intro pins s σ H vs us Q I r h
  obtain ⟨e, h⟩ := h
  subst e
  cases r
  exact assignInOrder_nil ⟨σ, H, I, h⟩
theorem pgs_cons {e : Expr} {es : List Expr} {t : TG} {u : TGs} (h1 : PG X e t) (h2 : PGs X es u)
    (hs : (assignEach (e :: es) X.env).map (·.2) = assign e X.env :: (assignEach es X.env).map (·.2) := by rfl) : PGs X (e :: es) (gCons t u) := by
  intro pins s σ H vs us Q I r h
  obtain ⟨v, vr, e1, h⟩ := h
  subst e1
  cases r with
  | cons r rr =>
    rw [hs]
    refine assignInOrder_cons (thn (h1 pins s σ H _ _ _ I r h) fun _ s1 ⟨σ1, H1, I1, q1⟩ => ?_)
    exact h2 pins s1 σ1 H1 _ _ Q I1 rr q1
noncomputable def gTup (K : PySem.W.Frag) (n : Nat) (t : TGs) : TG := fun v σ H Q => ∃ a xs, v = .ref a ∧ SqT K H a xs ∧ xs.length = n ∧ t xs σ H Q
theorem pg_tup {es : List Expr} {k : Nat} {t : TGs} {n : Nat} (hc : X.calm = true) (h : PGs X es t)
    (hn : (assignEach es X.env).length = n := by rfl) (hst : (assignEach es X.env).findIdx? (·.1) = none := by rfl) : PG X (.Tuple es k pos) (gTup X.K n t) := by
  intro pins s σ H v u Q I r hw
  obtain ⟨a, xs, e1, hq, hl, hw⟩ := hw
  subst e1
  cases r
  obtain ⟨its, rv, ht, hz⟩ := I.tuple hq
  refine assign_Tuple_tuple (I.ok.hd hc) ht (by simp [hn, ← hl, rv.length]) hst fun h' hx => ?_
  have I1 : Inv X pins σ H { s with heap := h' } := I.kept (t' := s.toks) fun b o e => hx b o (Nat.ne_of_lt (Heap.lt_size e)) e
  exact h pins _ σ H xs _ Q I1 (by simpa using rv) hw
noncomputable def gSub (to ti : TE) (t : TSet) : TG := fun v σ H Q => to σ H fun o H1 => ti σ H1 fun i H2 => t o i v H2 fun H3 => Q σ H3
theorem pg_sub {o i : Expr} {to ti : TE} {t : TSet} (ho : PE X o to) (hi : PE X i ti) (hs : PSet X t)
    (ha : ∀ v, assign (.Subscript o i pos) X.env v = (do
      let ov ← holding [v] (eval o X.env)
      let iv ← holding [v, ov] (eval i X.env)
      standAt pos
      holding [v, ov, iv] (setItem ov iv v)
      release [v, ov, iv] []) := by intro _; rfl) : PG X (.Subscript o i pos) (gSub to ti t) := by
  intro pins s σ H v u Q I r h
  rw [ha]
  refine wpAny_bind (wpAny_holding (thn (ho pins s σ H _ I h) fun ov s1 ⟨x, H1, I1, r1, q1⟩ => ?_))
  refine wpAny_bind (wpAny_holding (thn (hi pins s1 σ H1 _ I1 q1) fun iv s2 ⟨y, H2, I2, r2, q2⟩ => ?_))
  refine wpAny_bind (wpAny_standAt (wpAny_bind (wpAny_holding (thn (hs pins s2 σ H2 x y v ov iv u _ I2 r1 r2 r q2) fun _ s3 ⟨H3, I3, q3⟩ => ?_))))
  exact wpAny_release ⟨σ, H3, I3, q3⟩
noncomputable abbrev tAsg (te : TE) (g : TG) : TS := fun D σ H => te σ H fun x H1 => g x σ H1 D.nx
theorem ps_asg {tg e : Expr} {te : TE} {g : TG} (he : PE X e te) (hg : PG X tg g) (hs : swapsWithSole [tg] e pos.line X.env = pure false := by rfl) (hw : swappedStores [tg] e X.env = pure none := by rfl)
    (h1 : (assignEach [tg] X.env).map (·.2) = [assign tg X.env] := by rfl) : PS X (.Assign [tg] e pos) (tAsg te g) := by
  intro pins s σ H D I h
  refine wpAny_Assign_stores (thn (he pins s σ H _ I h) fun v s1 ⟨x, H1, I1, r1, q1⟩ => ?_) hs hw
  rw [h1]
  exact thn (hg pins s1 σ H1 x v _ I1 r1 q1) fun _ s2 q => q
theorem ps_set {i : Nat} {x : Str} {e : Expr} {te : TE} {pos' : Pos} (hN : X.N.Nodup) (hi : X.N[i]? = some x) (hx : Loc X.env.scope x) (he : PE X e te) (hs : swapsWith e (some (.Name x pos')) pos.line X.env = pure false := by rfl) (hf : X.fn x = true ∨ X.env.scope.names.lookup x = some .local := by first | exact .inl rfl | exact .inr rfl | assumption) :
    PS X (.Assign [.Name x pos'] e pos) (tAsg te (gName i)) := by
  intro pins s σ H D I h
  refine wpAny_Assign_Name (thn (he pins s σ H _ I h) fun v s1 ⟨y, H1, I1, r1, q1⟩ => ?_) hs
  exact store_ok I1 hN hi hx r1 (fun s2 I2 => ⟨_, H1, I2, q1⟩) hf
end
section
variable {X : Cx} {pos : Pos}
noncomputable def tWhile (c : TT) (tb : TS) : TS := fun D σ H => ∃ W : Nat → St → Hp → Prop, (∃ m, W m σ H) ∧ ∀ m σ H, W m σ H →
  c σ H fun b H1 => if b = true then ∃ N : St → Hp → Prop, (∀ σ' H', N σ' H' → ∃ m', m' < m ∧ W m' σ' H') ∧ tb { D with nx := N, ct := N, bk := D.nx } σ H1 else D.nx σ H1
theorem ps_while {c : Expr} {body : List Stmt} {tc : TT} {tb : TS} (hp : PassesOwn (model X.prog X.w) X.A X.env X.xe) (hc : PT X c tc) (hb : PSs X body tb) : PS X (.While c body [] pos) (tWhile tc tb) := by
  intro pins s σ H D I h
  obtain ⟨W, ⟨m0, w0⟩, turn⟩ := h
  refine wpAny_While (codeAny_whileLoop (fun n s' => ∃ σ' H', Inv X pins σ' H' s' ∧ W n σ' H') ?_ m0 ⟨σ, H, I, w0⟩)
  rintro n s1 ⟨σ1, H1, I1, w1⟩
  refine wpAny_passesOwn hp (thn (hc pins s1 σ1 H1 _ I1 (turn n σ1 H1 w1)) fun b s2 ⟨H2, I2, q2⟩ => ?_)
  cases b with
  | true =>
    obtain ⟨N, hN, q2⟩ := q2
    rw [if_pos rfl]
    refine wpAny_passesOwn hp (thn (hb pins s2 σ1 H2 _ I2 q2) fun f s3 q3 => ?_)
    cases f with
    | next =>
      obtain ⟨σ3, H3, I3, n3⟩ := q3
      obtain ⟨m', hm, w3⟩ := hN σ3 H3 n3
      exact ⟨m', hm, σ3, H3, I3, w3⟩
    | cont =>
      obtain ⟨σ3, H3, I3, n3⟩ := q3
      obtain ⟨m', hm, w3⟩ := hN σ3 H3 n3
      exact ⟨m', hm, σ3, H3, I3, w3⟩
    | brk => exact q3
    | ret v => exact q3
  | false =>
    rw [if_neg Bool.false_ne_true]
    exact wpAny_execs_nil ⟨σ1, H2, I2, q2⟩
end
structure It where
  go : Nat → Hp → Prop
  yld : Nat → Hp → V → Hp → Prop
  stop : Nat → Hp → Prop
noncomputable def FpOk (X : Cx) (pins : List (Addr × Obj)) (H : Hp) (b : Addr) : Prop :=
  H b = none ∧ b ≠ X.env.locals ∧ b ∉ X.fs ∧ (b ∈ X.ex ∨ X.s₀.heap.objs.size ≤ b) ∧ (∀ x c, X.env.cells.lookup x = some c → c ≠ b) ∧ ∀ p ∈ X.pn ++ pins, p.1 ≠ b
theorem Inv.fpOk {X : Cx} {pins : List (Addr × Obj)} {σ : St} {H H' : Hp} {s : Shared} {b : Addr} (I : Inv X pins σ H s) (hb : s.heap.objs.size ≤ b) (hn : H' b = none) : FpOk X pins H' b := by
  refine ⟨hn, Nat.ne_of_gt (Nat.lt_of_lt_of_le I.lt hb), I.nofs hb, .inr (Nat.le_trans I.sz hb), fun x c e z => ?_, fun p hp z => ?_⟩
  · obtain ⟨v, q⟩ := I.cell x c e
    exact absurd (Nat.lt_of_lt_of_le q.lt (by rw [z]; exact hb)) (Nat.lt_irrefl _)
  · exact absurd (Nat.lt_of_lt_of_le (Heap.lt_size (I.pin p hp).1) (by rw [z]; exact hb)) (Nat.lt_irrefl _)
structure Turn (P : Program) (w : World) (K : PySem.W.Frag) (tg : Expr) (J : It) (fp : List Addr) (it : Addr) (tn : Nat → Heap → Prop) : Prop where
  mem : it ∈ fp
  obj : ∀ i h, tn i h → ∀ b ∈ fp, ∃ o, h.get? b = some o ∧ ∀ v, o.data ≠ .cell v
  keep : ∀ i h h', tn i h → (∀ b ∈ fp, ∀ o, h.get? b = some o → h'.get? b = some o) → tn i h'
  item : ∀ (X : Cx), X.prog = P → X.w = w → X.K = K → X.calm = true → ∀ (i : Nat) (pins : List (Addr × Obj)) (s : Shared) (σ : St) (H : Hp) (E : Value → Shared → Prop), Inv X pins σ H s → (∀ b ∈ fp, FpOk X pins H b) → tn i s.heap → J.go i H →
    wpAny (model P w) X.A (pyNext (.ref it)) (fun r s1 => ∃ u, r = some u ∧
      wpAny (model P w) X.A (letOwnedTupleGo tg (.ref it) u) (fun _ s2 => ∃ x H', Inv X pins σ H' s2 ∧ RelV x u ∧ J.yld i H x H' ∧ tn (i + 1) s2.heap ∧ ∀ b ∈ fp, H' b = none) E s1) E s
  done : ∀ (X : Cx), X.prog = P → X.w = w → X.K = K → X.calm = true → ∀ (i : Nat) (pins : List (Addr × Obj)) (s : Shared) (σ : St) (H : Hp) (E : Value → Shared → Prop), Inv X pins σ H s → (∀ b ∈ fp, FpOk X pins H b) → tn i s.heap → J.stop i H →
    wpAny (model P w) X.A (pyNext (.ref it)) (fun r s1 => r = none ∧ Inv X pins σ H s1) E s
  self : ∀ (A : Around) (i : Nat) (s : Shared) (Q : Value → Shared → Prop) (E : Value → Shared → Prop), tn i s.heap → Q (.ref it) s → wpAny (model P w) A (pyIter (.ref it)) Q E s
noncomputable abbrev TI := St → Hp → (It → Hp → Prop) → Prop
noncomputable def PIE (X : Cx) (pins : List (Addr × Obj)) (σ : St) (tg : Expr) (R : It → Hp → Prop) (itv : Value) (s2 : Shared) : Prop :=
  ∃ (it : Addr) (fp : List Addr) (tn : Nat → Heap → Prop) (J : It) (H' : Hp), itv = .ref it ∧ Inv X pins σ H' s2 ∧ Turn X.prog X.w X.K tg J fp it tn ∧ tn 0 s2.heap ∧ (∀ b ∈ fp, FpOk X pins H' b) ∧ R J H'
noncomputable def PI (X : Cx) (tg iter : Expr) (wi : TI) : Prop :=
  ∀ (pins : List (Addr × Obj)) (s : Shared) (σ : St) (H : Hp) (R : It → Hp → Prop), Inv X pins σ H s → wi σ H R →
    wpAny (model X.prog X.w) X.A (eval iter X.env) (fun v s1 => wpAny (model X.prog X.w) X.A (pyIter v) (PIE X pins σ tg R) X.xe s1) X.xe s
theorem go_of {M : Model} {A : Around} {E : Value → Shared → Prop} {s : Shared} {tg : Expr} {it : Addr} {u : Value} {o : Obj} {n : String} {vs : Array Value} {Q : Unit → Shared → Prop} (ho : s.heap.get? it = some o) (hc : o.cls = .type n) (hd : o.data = .fields vs)
    (hn : ["enumerate", "zip", "dict_itemiterator", "dict_reverseitemiterator", "odict_iterator", "itertools.zip_longest", "itertools.pairwise"].contains n = false) (hQ : Q () s) : wpAny M A (letOwnedTupleGo tg (.ref it) u) Q E s := by
  unfold letOwnedTupleGo
  cases tg <;> first
    | exact wpAny_pure hQ
    | (cases u <;> first
        | exact wpAny_pure hQ
        | (refine wpAny_bind (wpAny_load ho ?_)
           rw [hc, hd]
           show wpAny M A (if (["enumerate", "zip", "dict_itemiterator", "dict_reverseitemiterator", "odict_iterator", "itertools.zip_longest", "itertools.pairwise"].contains n && vs[0]? == some (rawInt _)) = true then _ else _) Q E s
           rw [if_neg (by intro h; rw [hn, Bool.false_and] at h; cases h)]
           exact wpAny_pure hQ))
noncomputable def Itl (K : PySem.W.Frag) (a : Addr) : It :=
  ⟨fun i H => ∃ xs x, SqL K H a xs ∧ xs[i]? = some x, fun i H x H' => H' = H ∧ ∀ xs, SqL K H a xs → xs[i]? = some x, fun i H => ∃ xs, SqL K H a xs ∧ xs.length ≤ i⟩
noncomputable def Itt (K : PySem.W.Frag) (a : Addr) : It :=
  ⟨fun i H => ∃ xs x, SqT K H a xs ∧ xs[i]? = some x, fun i H x H' => H' = H ∧ ∀ xs, SqT K H a xs → xs[i]? = some x, fun i H => ∃ xs, SqT K H a xs ∧ xs.length ≤ i⟩
noncomputable def Itr (lo : Int) (n : Nat) : It := ⟨fun i _ => i < n, fun i H x H' => H' = H ∧ x = .int (lo + i), fun i _ => n ≤ i⟩
theorem turn_list {P : Program} {w : World} {K : PySem.W.Frag} {tg : Expr} (a it : Addr) : Turn P w K tg (Itl K a) [it] it (fun i h => h.IsListIter it a i) where
  mem := by simp
  obj := fun i h st b hb => by
    have e : b = it := by simpa using hb
    subst e
    obtain ⟨o, e, c, d⟩ := st
    exact ⟨o, e, fun v z => by rw [d] at z; cases z⟩
  keep := fun i h h' st k => st.at fun o e => k it (by simp) o e
  item := by
    intro X hP hw hK hc i pins s σ H E I hf st hg
    subst hP hw hK
    obtain ⟨xs, x, hq, hx⟩ := hg
    obtain ⟨its, rv, p, hz⟩ := I.list hq
    obtain ⟨u, hu, ru⟩ := rv.get hx
    obtain ⟨f0, f1, f2, f3, f4, f5⟩ := hf it (by simp)
    refine wpAny_pyNext_list_item st p.isList (x := u) (by simpa using hu) fun h' st' sb => ?_
    have I1 : Inv X pins σ H { s with heap := h' } := I.turned (t' := s.toks) (fun b o hb e => (sb.2 b hb).trans e) f0 f1 f3 f4 f5
    obtain ⟨o, e, c, d⟩ := id st'
    exact ⟨u, rfl, go_of (s := { s with heap := h' }) e c d (by decide) ⟨x, H, I1, ru, ⟨rfl, fun ys hy => by rw [I.list_inj hy hq]; exact hx⟩, st', fun b hb => (hf b hb).1⟩⟩
  done := by
    intro X hP hw hK hc i pins s σ H E I hf st hg
    subst hP hw hK
    obtain ⟨xs, hq, hx⟩ := hg
    obtain ⟨its, rv, p, hz⟩ := I.list hq
    obtain ⟨f0, f1, f2, f3, f4, f5⟩ := hf it (by simp)
    have hl := rv.length
    exact wpAny_pyNext_list_end (I.ok.hd hc) st p.isList (by simp; omega) fun h' eb => ⟨rfl, I.turned (t' := s.toks) (fun b o hb e => eb b o hb e) f0 f1 f3 f4 f5⟩
  self := fun _ _ _ _ _ st h => wpAny_pyIter_listiter st h
theorem turn_tuple {P : Program} {w : World} {K : PySem.W.Frag} {tg : Expr} (a it : Addr) : Turn P w K tg (Itt K a) [it] it (fun i h => h.IsTupleIter it a i) where
  mem := by simp
  obj := fun i h st b hb => by
    have e : b = it := by simpa using hb
    subst e
    obtain ⟨o, e, c, d⟩ := st
    exact ⟨o, e, fun v z => by rw [d] at z; cases z⟩
  keep := fun i h h' st k => st.at fun o e => k it (by simp) o e
  item := by
    intro X hP hw hK hc i pins s σ H E I hf st hg
    subst hP hw hK
    obtain ⟨xs, x, hq, hx⟩ := hg
    obtain ⟨its, rv, p, hz⟩ := I.tuple hq
    obtain ⟨u, hu, ru⟩ := rv.get hx
    obtain ⟨f0, f1, f2, f3, f4, f5⟩ := hf it (by simp)
    refine wpAny_pyNext_tuple_item st (show s.heap.IsTuple a its.toArray from p) (x := u) (by simpa using hu) fun h' st' sb => ?_
    have I1 : Inv X pins σ H { s with heap := h' } := I.turned (t' := s.toks) (fun b o hb e => (sb.2 b hb).trans e) f0 f1 f3 f4 f5
    obtain ⟨o, e, c, d⟩ := id st'
    exact ⟨u, rfl, go_of (s := { s with heap := h' }) e c d (by decide) ⟨x, H, I1, ru, ⟨rfl, fun ys hy => by rw [I.tuple_inj hy hq]; exact hx⟩, st', fun b hb => (hf b hb).1⟩⟩
  done := by
    intro X hP hw hK hc i pins s σ H E I hf st hg
    subst hP hw hK
    obtain ⟨xs, hq, hx⟩ := hg
    obtain ⟨its, rv, p, hz⟩ := I.tuple hq
    obtain ⟨f0, f1, f2, f3, f4, f5⟩ := hf it (by simp)
    have hl := rv.length
    exact wpAny_pyNext_tuple_end (I.ok.hd hc) st (show s.heap.IsTuple a its.toArray from p) (by simp; omega) fun h' eb => ⟨rfl, I.turned (t' := s.toks) (fun b o hb e => eb b o hb e) f0 f1 f3 f4 f5⟩
  self := fun _ _ _ _ _ st h => wpAny_pyIter_tupleiter st h
theorem turn_range {P : Program} {w : World} {K : PySem.W.Frag} {tg : Expr} (it : Addr) (lo : Int) (n : Nat) : Turn P w K tg (Itr lo n) [it] it (fun i h => IsRangeIter h it (lo + (i : Nat) * 1) ((n : Int) - (i : Nat)) 1) where
  mem := by simp
  obj := fun i h st b hb => by
    have e : b = it := by simpa using hb
    subst e
    exact ⟨_, st, fun v z => by
      have z' : Data.fields _ = Data.cell v := z
      cases z'⟩
  keep := fun i h h' st k => k it (by simp) _ st
  item := by
    intro X hP hw hK hc i pins s σ H E I hf st hg
    subst hP hw hK
    obtain ⟨f0, f1, f2, f3, f4, f5⟩ := hf it (by simp)
    have W := Walks.range (prog := X.prog) (w := X.w) (I.ok.hd hc) it lo 1 n
    refine W.item i s _ _ hg st fun v h' tk hv st' kk => ?_
    obtain ⟨t, rfl⟩ := hv
    have I1 : Inv X pins σ H { s with heap := h', toks := tk } := I.turned (fun b o hb e => kk b o (by simpa using hb) e) f0 f1 f3 f4 f5
    refine ⟨_, rfl, go_of (s := { s with heap := h', toks := tk }) (n := "range_iterator") st' rfl rfl (by decide) ⟨.int (lo + i), H, I1, ⟨t, ?_⟩, ⟨rfl, rfl⟩, st', fun b hb => (hf b hb).1⟩⟩
    rw [Int.mul_one]
  done := by
    intro X hP hw hK hc i pins s σ H E I hf st hg
    subst hP hw hK
    obtain ⟨f0, f1, f2, f3, f4, f5⟩ := hf it (by simp)
    exact wpAny_pyNext_range_end (I.ok.hd hc) st (by have : n ≤ i := hg; omega) fun h' eb => ⟨rfl, I.turned (t' := s.toks) (fun b o hb e => eb b o hb e) f0 f1 f3 f4 f5⟩
  self := fun _ _ _ _ _ st h => wpAny_pyIter_rangeiter st h
end L2
namespace L2
open PySem PySem.Spec PyProof.Rows
section
variable {X : Cx} {tg : Expr}
theorem range_it {pins : List (Addr × Obj)} {σ : St} {H : Hp} {s : Shared} {R : It → Hp → Prop} {E : Value → Shared → Prop} {lo hi : Int} {t u v : Tok} {tk : Nat} (I : Inv X pins σ H s) (h1 : -(2 ^ 62) ≤ lo) (h2 : lo < 2 ^ 62) (h3 : -(2 ^ 62) ≤ hi) (h4 : hi < 2 ^ 62)
    (q : R (Itr lo (hi - lo).toNat) H) : wpAny (model X.prog X.w) X.A (pyIter (.ref s.heap.objs.size)) (PIE X pins σ tg R) E { s with heap := s.heap.push { cls := .type "range", data := .fields #[.int lo t, .int hi u, .int 1 v] }, toks := tk } := by
  refine wpAny_pyIter_range (IsRange.new ..) (small_one h1 h2 h3 h4) ?_
  have I1 : Inv X pins σ H { s with heap := s.heap.push { cls := .type "range", data := .fields #[.int lo t, .int hi u, .int 1 v] }, toks := tk } := I.kept fun b o e => Heap.get?_push_of_some _ e
  refine ⟨(s.heap.push { cls := .type "range", data := .fields #[.int lo t, .int hi u, .int 1 v] }).objs.size, [(s.heap.push { cls := .type "range", data := .fields #[.int lo t, .int hi u, .int 1 v] }).objs.size], _, _, H, rfl,
    I1.kept (t' := tk) fun b o e => Heap.get?_push_of_some _ e, turn_range _ lo (hi - lo).toNat, ?_, fun b hb => ?_, q⟩
  · have e1 : lo + ((0 : Nat) : Int) * 1 = lo := by simp
    have e2 : (((hi - lo).toNat : Nat) : Int) - ((0 : Nat) : Int) = Builtin.Range.rangeSize lo hi 1 := by rw [rangeSize_one]; split <;> omega
    show IsRangeIter _ _ (lo + ((0 : Nat) : Int) * 1) ((((hi - lo).toNat : Nat) : Int) - ((0 : Nat) : Int)) 1
    rw [e1, e2]
    exact Heap.get?_push_size _ rfl
  · have e : b = (s.heap.push { cls := .type "range", data := .fields #[.int lo t, .int hi u, .int 1 v] }).objs.size := by simpa using hb
    subst e
    exact I1.fpOk (Nat.le_refl _) (I1.hok.fresh (Nat.le_refl _))
noncomputable def iRng1 (ta : TA) : TI := fun σ H R => ta σ H fun vs H1 => ∃ j : Int, vs = [.int j] ∧ -(2 ^ 62) ≤ j ∧ j < 2 ^ 62 ∧ R (Itr 0 j.toNat) H1
theorem pi_range1 {a : Expr} {ta : TA} {p pos : Pos} (hg : Gl X "range") (hm : X.mg "range" = none) (ha : PA X [a] ta) (hs : starEach [a] X.env = [(false, eval a X.env)] := by rfl) : PI X tg (.Call (.Name "range" p) [a] [] pos) (iRng1 ta) := by
  intro pins s σ H R I h
  refine Call_ (ld_blt I hg hm boot_range (PyProof.Rows.callWith_type1 (thn (ha pos pins s σ H _ I h) fun us s1 ⟨vs, H1, I1, r1, q1⟩ => ?_) hs rfl))
  obtain ⟨j, e, q1, q2, q⟩ := q1
  subst e
  cases r1 with
  | cons r rr =>
    cases rr
    obtain ⟨t, rfl⟩ := r
    exact call_range_1 (range_it I1 (by omega) (by omega) q1 q2 (by simpa using q))
noncomputable def tFor (wi : TI) (g : TG) (tb : TS) : TS := fun D σ H => wi σ H fun J H1 => ∃ W : Nat → Nat → St → Hp → Prop, (∃ m, W 0 m σ H1) ∧ ∀ i m σ H, W i m σ H →
  (J.stop i H ∧ D.nx σ H) ∨ (J.go i H ∧ ∃ N : St → Hp → Prop, (∀ σ' H', N σ' H' → ∃ m', m' < m ∧ W (i + 1) m' σ' H') ∧ ∀ x H', J.yld i H x H' → g x σ H' fun σ2 H2 => tb { D with nx := N, ct := N, bk := D.nx } σ2 H2)
noncomputable def pinsAt (fp : List Addr) (h : Heap) : List (Addr × Obj) := fp.filterMap fun b => (h.get? b).map fun o => (b, o)
theorem mem_pinsAt {fp : List Addr} {h : Heap} {b : Addr} {o : Obj} (hb : b ∈ fp) (e : h.get? b = some o) : (b, o) ∈ pinsAt fp h := List.mem_filterMap.mpr ⟨b, hb, by rw [e]; rfl⟩
theorem of_pinsAt {fp : List Addr} {h : Heap} {p : Addr × Obj} (hp : p ∈ pinsAt fp h) : p.1 ∈ fp ∧ h.get? p.1 = some p.2 := by
  obtain ⟨b, hb, e⟩ := List.mem_filterMap.mp hp
  cases q : h.get? b with
  | none => rw [q] at e; cases e
  | some o =>
    rw [q] at e
    have e' : (b, o) = p := Option.some.inj e
    subst e'
    exact ⟨hb, q⟩
theorem Inv.pinned {pins : List (Addr × Obj)} {σ : St} {H : Hp} {s : Shared} {fp : List Addr} (I : Inv X pins σ H s) (hf : ∀ b ∈ fp, FpOk X pins H b) (ho : ∀ b ∈ fp, ∃ o, s.heap.get? b = some o ∧ ∀ v, o.data ≠ .cell v) : Inv X (pins ++ pinsAt fp s.heap) σ H s :=
  I.pins_of fun p hp => (List.mem_append.mp hp).elim (fun z => I.pin p (List.mem_append_right _ z)) fun z => by
    obtain ⟨hb, e⟩ := of_pinsAt z
    obtain ⟨f0, f1, f2, _⟩ := hf p.1 hb
    obtain ⟨o, e', d⟩ := ho p.1 hb
    rw [e] at e'; cases e'
    exact ⟨e, f0, f1, f2, d⟩
theorem Inv.unpinned {pins pl : List (Addr × Obj)} {σ : St} {H : Hp} {s : Shared} (I : Inv X (pins ++ pl) σ H s) : Inv X pins σ H s := I.pins_of fun p hp => I.pin p (List.mem_append_right _ (List.mem_append_left _ hp))
theorem ps_for {iter : Expr} {body : List Stmt} {wi : TI} {g : TG} {tb : TS} {pos : Pos} (hp : PassesOwn (model X.prog X.w) X.A X.env X.xe) (hc : X.calm = true) (hi : PI X tg iter wi) (hg : PG X tg g) (hb : PSs X body tb)
    (hs : ∀ x, foldedSetIterable iter X.env x = pure x := by intro _; rfl) : PS X (.For tg iter body [] pos) (tFor wi g tb) := by
  intro pins s σ H D I h
  refine wpAny_For (thn (hi pins s σ H _ I h) fun v s1 h1 => thn h1 fun itv s2 h2 => ?_) hs
  obtain ⟨it, fp, tn, J, H2, e, I2, T, st2, f2, W, ⟨m0, w0⟩, turn⟩ := h2
  subst e
  have stat : ∀ {H' : Hp}, (∀ b ∈ fp, H' b = none) → ∀ b ∈ fp, FpOk X pins H' b := fun hn b hb => ⟨hn b hb, (f2 b hb).2⟩
  refine codeAny_forLoop_any (fun n s' => ∃ i σ' H', Inv X pins σ' H' s' ∧ tn i s'.heap ∧ (∀ b ∈ fp, H' b = none) ∧ W i n σ' H') ?_ m0 ⟨0, σ, H2, I2, st2, fun b hb => (f2 b hb).1, w0⟩
  rintro n s3 ⟨i, σ3, H3, I3, st3, fr3, w3⟩
  rcases turn i n σ3 H3 w3 with ⟨stop, qn⟩ | ⟨go, N, hN, step⟩
  · refine wpAny_passesOwn hp (thn (T.done X rfl rfl rfl hc i pins s3 σ3 H3 X.xe I3 (stat fr3) st3 stop) fun r s4 ⟨hr, I4⟩ => ?_)
    subst hr
    exact wpAny_execs_nil ⟨σ3, H3, I4, qn⟩
  · refine wpAny_passesOwn hp (thn (T.item X rfl rfl rfl hc i pins s3 σ3 H3 X.xe I3 (stat fr3) st3 go) fun r s4 ⟨u, hr, h4⟩ => ?_)
    subst hr
    refine wpAny_passesOwn hp (thn h4 fun _ s5 ⟨x, H5, I5, r5, y5, st5, fr5⟩ => ?_)
    have I5' := I5.pinned (stat fr5) (T.obj _ _ st5)
    refine wpAny_passesOwn hp (thn (hg _ s5 σ3 H5 x u _ I5' r5 (step x H5 y5)) fun _ s6 ⟨σ6, H6, I6, q6⟩ => ?_)
    refine wpAny_passesOwn hp (thn (hb _ s6 σ6 H6 _ I6 q6) fun f s7 q7 => ?_)
    have again : ∀ {σ7 : St} {H7 : Hp}, Inv X (pins ++ pinsAt fp s5.heap) σ7 H7 s7 → N σ7 H7 → ∃ m, m < n ∧ ∃ i σ' H', Inv X pins σ' H' s7 ∧ tn i s7.heap ∧ (∀ b ∈ fp, H' b = none) ∧ W i m σ' H' := fun {σ7 H7} I7 n7 => by
      obtain ⟨m', hm, w7⟩ := hN σ7 H7 n7
      refine ⟨m', hm, i + 1, σ7, H7, I7.unpinned, T.keep _ _ _ st5 fun b hb o e => (I7.pin (b, o) (List.mem_append_right _ (List.mem_append_right _ (mem_pinsAt hb e)))).1, fun b hb => ?_, w7⟩
      obtain ⟨o, e, d⟩ := T.obj _ _ st5 b hb
      exact (I7.pin (b, o) (List.mem_append_right _ (List.mem_append_right _ (mem_pinsAt hb e)))).2.1
    cases f with
    | next => obtain ⟨σ7, H7, I7, n7⟩ := q7; exact again I7 n7
    | cont => obtain ⟨σ7, H7, I7, n7⟩ := q7; exact again I7 n7
    | brk => obtain ⟨σ7, H7, I7, q7⟩ := q7; exact ⟨σ7, H7, I7.unpinned, q7⟩
    | ret v => obtain ⟨x7, σ7, H7, I7, r7, q7⟩ := q7; exact ⟨x7, σ7, H7, I7.unpinned, r7, q7⟩
end
end L2
namespace L2
open PySem PySem.Spec PyProof.Rows
noncomputable abbrev R2 := V → V → Hp → VK → Prop
noncomputable def OpR (X : Cx) (f : Value → Value → Sem Value) (r : R2) : Prop :=
  ∀ (pins : List (Addr × Obj)) (s : Shared) (σ : St) (H : Hp) (x y : V) (v u : Value) (Q : VK), Inv X pins σ H s → RelV x v → RelV y u → r x y H Q →
    wpAny (model X.prog X.w) X.A (f v u) (EP X pins σ Q) X.xe s
noncomputable def CallR (X : Cx) (f : Value) (r : List V → Hp → VK → Prop) : Prop :=
  ∀ (pins : List (Addr × Obj)) (s : Shared) (σ : St) (H : Hp) (xs : List V) (us : List Value) (Q : VK), Inv X pins σ H s → Vals xs us → r xs H Q →
    wpAny (model X.prog X.w) X.A (call f us) (EP X pins σ Q) X.xe s
noncomputable def TruR (X : Cx) (r : V → Hp → (Bool → Hp → Prop) → Prop) : Prop :=
  ∀ (pins : List (Addr × Obj)) (s : Shared) (σ : St) (H : Hp) (x : V) (v : Value) (Q : Bool → Hp → Prop), Inv X pins σ H s → RelV x v → r x H Q →
    wpAny (model X.prog X.w) X.A (truthy v) (TP X pins σ Q) X.xe s
noncomputable abbrev tOp (r : R2) (ta tb : TE) : TE := fun σ H Q => ta σ H fun x H1 => tb σ H1 fun y H2 => r x y H2 Q
noncomputable def rI (C : Int → Int → Prop) (g : Int → Int → V) : R2 := fun x y H Q => ∃ i j, x = .int i ∧ y = .int j ∧ C i j ∧ Q (g i j) H
noncomputable def rI0 (g : Int → Int → V) : R2 := fun x y H Q => ∃ i j, x = .int i ∧ y = .int j ∧ Q (g i j) H
section
variable {X : Cx} {a b c : Expr} {ta tb tc : TE} {pos : Pos}
theorem binT (ha : PE X a ta) (hb : PE X b tb) {pins : List (Addr × Obj)} {s : Shared} {σ : St} {H : Hp} {R : V → V → Hp → Prop} (I : Inv X pins σ H s)
    (h : ta σ H fun x H1 => tb σ H1 fun y H2 => R x y H2) {Q : Value → Shared → Prop} {f : Value → Value → Sem Value}
    (hf : ∀ v u s2 x y H2, Inv X pins σ H2 s2 → RelV x v → RelV y u → R x y H2 → wpAny (model X.prog X.w) X.A (f v u) Q X.xe s2) :
    wpAny (model X.prog X.w) X.A (eval a X.env) (fun v s₁ => wpAny (model X.prog X.w) X.A (eval b X.env) (fun u s₂ => wpAny (model X.prog X.w) X.A (f v u) Q X.xe s₂) X.xe s₁) X.xe s := by
  refine thn (ha pins s σ H _ I h) fun v s1 ⟨x, H1, I1, r1, q1⟩ => ?_
  refine thn (hb pins s1 σ H1 _ I1 q1) fun u s2 ⟨y, H2, I2, r2, q2⟩ => ?_
  exact hf v u s2 x y H2 I2 r1 r2 q2
theorem pe_op {op : Operator} {r : R2} (ho : OpR X (binaryOp op) r) (ha : PE X a ta) (hb : PE X b tb) : PE X (.BinOp a op b pos) (tOp r ta tb) := by
  intro pins s σ H Q I h
  exact wpAny_BinOp (binT ha hb I h fun v u s2 x y H2 I2 rx ry q => ho pins s2 σ H2 x y v u Q I2 rx ry q)
theorem opI {f : Value → Value → Sem Value} {C : Int → Int → Prop} {g : Int → Int → Int}
    (rule : ∀ (i j : Int) (t u : Tok) (s : Shared) (Q : Value → Shared → Prop) (E : Value → Shared → Prop), C i j → Q (.int (g i j) s.toks) { s with toks := s.toks + 1 } → wpAny (model X.prog X.w) X.A (f (.int i t) (.int j u)) Q E s) :
    OpR X f (rI C fun i j => .int (g i j)) := by
  intro pins s σ H x y v u Q I rx ry h
  obtain ⟨i, j, rfl, rfl, hc, q⟩ := h
  obtain ⟨t, rfl⟩ := rx
  obtain ⟨t', rfl⟩ := ry
  exact rule i j t t' s _ _ hc ⟨.int (g i j), H, I.tok _, ⟨_, rfl⟩, q⟩
theorem opI0 {f : Value → Value → Sem Value} {g : Int → Int → Int}
    (rule : ∀ (i j : Int) (t u : Tok) (s : Shared) (Q : Value → Shared → Prop) (E : Value → Shared → Prop), Q (.int (g i j) s.toks) { s with toks := s.toks + 1 } → wpAny (model X.prog X.w) X.A (f (.int i t) (.int j u)) Q E s) :
    OpR X f (rI0 fun i j => .int (g i j)) := by
  intro pins s σ H x y v u Q I rx ry h
  obtain ⟨i, j, rfl, rfl, q⟩ := h
  obtain ⟨t, rfl⟩ := rx
  obtain ⟨t', rfl⟩ := ry
  exact rule i j t t' s _ _ ⟨.int (g i j), H, I.tok _, ⟨_, rfl⟩, q⟩
theorem opB0 {f : Value → Value → Sem Value} {g : Int → Int → Bool}
    (rule : ∀ (i j : Int) (t u : Tok) (s : Shared) (Q : Value → Shared → Prop) (E : Value → Shared → Prop), Q (.bool (g i j)) s → wpAny (model X.prog X.w) X.A (f (.int i t) (.int j u)) Q E s) :
    OpR X f (rI0 fun i j => .bl (g i j)) := by
  intro pins s σ H x y v u Q I rx ry h
  obtain ⟨i, j, rfl, rfl, q⟩ := h
  obtain ⟨t, rfl⟩ := rx
  obtain ⟨t', rfl⟩ := ry
  exact rule i j t t' s _ _ ⟨.bl (g i j), H, I, rfl, q⟩
noncomputable def CDiv (i j : Int) : Prop := 0 < j ∧ j < 1073741824
noncomputable def CPow (i j : Int) : Prop := 0 ≤ j ∧ j ≤ 1000000 ∧ i.natAbs < 2 ^ 64
noncomputable def CMul (i j : Int) : Prop := (-(2 ^ 64) < i ∧ i < 2 ^ 64) ∨ (-(2 ^ 64) < j ∧ j < 2 ^ 64)
theorem CMul.ok {i j : Int} (h : CMul i j) : IntMulOk i j := by
  rcases h with ⟨h1, h2⟩ | ⟨h1, h2⟩
  · exact .of_left (intBits_le_64 h1 h2)
  · exact .of_right (intBits_le_64 h1 h2)
theorem op_add : OpR X (binaryOp .Add) (rI0 fun i j => .int (i + j)) := opI0 fun _ _ _ _ _ _ _ q => add_int q
theorem op_sub : OpR X (binaryOp .Sub) (rI0 fun i j => .int (i - j)) := opI0 fun _ _ _ _ _ _ _ q => sub_int q
theorem op_mul : OpR X (binaryOp .Mult) (rI CMul fun i j => .int (i * j)) := opI fun _ _ _ _ _ _ _ hc q => mul_int q hc.ok
theorem op_fdiv : OpR X (binaryOp .FloorDiv) (rI CDiv fun i j => .int (i / j)) := opI fun i j _ _ _ _ _ hc q => by
  have h1 : (0 : Int) < j := hc.1
  have h2 : j < 1073741824 := hc.2
  exact floordiv_int (by omega) (by rw [Int.fdiv_eq_ediv_of_nonneg i (by omega)]; exact q) (.inl (PyProof.noPylong_small (by omega)))
theorem op_mod : OpR X (binaryOp .Mod) (rI (fun _ j => 0 < j) fun i j => .int (i % j)) := opI fun i j _ _ _ _ _ hc q => by
  have h1 : (0 : Int) < j := hc
  exact mod_int' (by omega) (by rw [Int.fmod_eq_emod_of_nonneg i (by omega)]; exact q)
theorem op_pow : OpR X (binaryOp .Pow) (rI CPow fun i j => .int (i ^ j.toNat)) := opI fun _ _ _ _ _ _ _ hc q => pow_int_small hc.1 hc.2.1 hc.2.2 q
end
noncomputable def scal : V → V → Bool
  | .non, .non => true | .non, .int _ => true | .int _, .non => true | .non, .bl _ => true | .bl _, .non => true | .non, .str _ => true | .str _, .non => true
  | .int _, .int _ => true | .bl _, .bl _ => true | .str _, .str _ => true | .byt _, .byt _ => true
  | .int _, .str _ => true | .str _, .int _ => true | .bl _, .str _ => true | .str _, .bl _ => true
  | _, _ => false
noncomputable def rEq : R2 := fun x y H Q => scal x y = true ∧ Q (.bl (decide (x = y))) H
noncomputable def rNe : R2 := fun x y H Q => scal x y = true ∧ Q (.bl (!decide (x = y))) H
theorem dec_int {i j : Int} : decide (V.int i = V.int j) = (i == j) := by
  rw [Bool.eq_iff_iff]
  simp
theorem dec_bl {i j : Bool} : decide (V.bl i = V.bl j) = (i == j) := by
  rw [Bool.eq_iff_iff]
  simp
theorem dec_str {i j : Str} : decide (V.str i = V.str j) = (i == j) := by
  rw [Bool.eq_iff_iff]
  simp
theorem dec_byt {i j : Array UInt8} : decide (V.byt i = V.byt j) = (i.toList == j.toList) := by
  rw [Bool.eq_iff_iff]
  cases i
  cases j
  simp
section
variable {X : Cx} {a b c : Expr} {ta tb tc : TE} {pos : Pos}
theorem fin_bl {pins : List (Addr × Obj)} {σ : St} {H : Hp} {s : Shared} {Q : VK} {k k' : Bool} (I : Inv X pins σ H s) (q : Q (.bl k) H) (e : k = k') : EP X pins σ Q (.bool k') s := by
  subst e
  exact ⟨.bl k, H, I, rfl, q⟩
theorem op_eq : OpR X (compareOp .Eq) rEq := by
  intro pins s σ H x y v u Q I rx ry h
  obtain ⟨hs, q⟩ := h
  cases x with
  | non =>
    cases rx
    cases y with
    | non => cases ry; exact PySem.EqNone.eq_none_none (fin_bl I q (by simp))
    | bl j => cases ry; exact PySem.EqNone.eq_none_bool (fin_bl I q (by simp))
    | int j => obtain ⟨t', rfl⟩ := ry; exact PySem.EqNone.eq_none_int (fin_bl I q (by simp))
    | str j => obtain ⟨t', rfl⟩ := ry; exact PySem.EqNone.eq_none_str (fin_bl I q (by simp))
    | _ => exact absurd (show false = true from hs) Bool.false_ne_true
  | bl i =>
    cases rx
    cases y with
    | non => cases ry; exact PySem.EqNone.eq_bool_none (fin_bl I q (by simp))
    | bl j => cases ry; exact eq_bool (fin_bl I q dec_bl)
    | str j => obtain ⟨t', rfl⟩ := ry; exact PySem.EqMixed.eq_bool_str (fin_bl I q (by simp))
    | _ => exact absurd (show false = true from hs) Bool.false_ne_true
  | int i =>
    obtain ⟨t, rfl⟩ := rx
    cases y with
    | non => cases ry; exact PySem.EqNone.eq_int_none (fin_bl I q (by simp))
    | int j => obtain ⟨t', rfl⟩ := ry; exact eq_int (fin_bl I q dec_int)
    | str j => obtain ⟨t', rfl⟩ := ry; exact PySem.EqMixed.eq_int_str (fin_bl I q (by simp))
    | _ => exact absurd (show false = true from hs) Bool.false_ne_true
  | str i =>
    obtain ⟨t, rfl⟩ := rx
    cases y with
    | non => cases ry; exact PySem.EqNone.eq_str_none (fin_bl I q (by simp))
    | bl j => cases ry; exact PySem.EqMixed.eq_str_bool (fin_bl I q (by simp))
    | int j => obtain ⟨t', rfl⟩ := ry; exact PySem.EqMixed.eq_str_int (fin_bl I q (by simp))
    | str j => obtain ⟨t', rfl⟩ := ry; exact eq_str (fin_bl I q dec_str)
    | _ => exact absurd (show false = true from hs) Bool.false_ne_true
  | byt i =>
    obtain ⟨t, rfl⟩ := rx
    cases y with
    | byt j => obtain ⟨t', rfl⟩ := ry; exact PySem.W.eq_bytes (fin_bl I q dec_byt)
    | _ => exact absurd (show false = true from hs) Bool.false_ne_true
  | _ => cases y <;> exact absurd (show false = true from hs) Bool.false_ne_true
theorem op_ne : OpR X (compareOp .NotEq) rNe := by
  intro pins s σ H x y v u Q I rx ry h
  obtain ⟨hs, q⟩ := h
  cases x with
  | non =>
    cases rx
    cases y with
    | non => cases ry; exact PySem.EqNone.ne_none_none (fin_bl I q (by simp))
    | bl j => cases ry; exact PySem.EqNone.ne_none_bool (fin_bl I q (by simp))
    | int j => obtain ⟨t', rfl⟩ := ry; exact PySem.EqNone.ne_none_int (fin_bl I q (by simp))
    | str j => obtain ⟨t', rfl⟩ := ry; exact PySem.EqNone.ne_none_str (fin_bl I q (by simp))
    | _ => exact absurd (show false = true from hs) Bool.false_ne_true
  | bl i =>
    cases rx
    cases y with
    | non => cases ry; exact PySem.EqNone.ne_bool_none (fin_bl I q (by simp))
    | bl j => cases ry; exact ne_bool (fin_bl I q (congrArg not dec_bl))
    | str j => obtain ⟨t', rfl⟩ := ry; exact PySem.EqMixed.ne_bool_str (fin_bl I q (by simp))
    | _ => exact absurd (show false = true from hs) Bool.false_ne_true
  | int i =>
    obtain ⟨t, rfl⟩ := rx
    cases y with
    | non => cases ry; exact PySem.EqNone.ne_int_none (fin_bl I q (by simp))
    | int j => obtain ⟨t', rfl⟩ := ry; exact ne_int (fin_bl I q (congrArg not dec_int))
    | str j => obtain ⟨t', rfl⟩ := ry; exact PySem.EqMixed.ne_int_str (fin_bl I q (by simp))
    | _ => exact absurd (show false = true from hs) Bool.false_ne_true
  | str i =>
    obtain ⟨t, rfl⟩ := rx
    cases y with
    | non => cases ry; exact PySem.EqNone.ne_str_none (fin_bl I q (by simp))
    | bl j => cases ry; exact PySem.EqMixed.ne_str_bool (fin_bl I q (by simp))
    | int j => obtain ⟨t', rfl⟩ := ry; exact PySem.EqMixed.ne_str_int (fin_bl I q (by simp))
    | str j => obtain ⟨t', rfl⟩ := ry; exact ne_str (fin_bl I q (congrArg not dec_str))
    | _ => exact absurd (show false = true from hs) Bool.false_ne_true
  | byt i =>
    obtain ⟨t, rfl⟩ := rx
    cases y with
    | byt j => obtain ⟨t', rfl⟩ := ry; exact PySem.W.ne_bytes (fin_bl I q (congrArg not dec_byt))
    | _ => exact absurd (show false = true from hs) Bool.false_ne_true
  | _ => cases y <;> exact absurd (show false = true from hs) Bool.false_ne_true
theorem op_lt : OpR X (compareOp .Lt) (rI0 fun i j => .bl (decide (i < j))) := opB0 fun _ _ _ _ _ _ _ q => lt_int q
theorem op_le : OpR X (compareOp .LtE) (rI0 fun i j => .bl (decide (i ≤ j))) := opB0 fun _ _ _ _ _ _ _ q => le_int q
theorem op_gt : OpR X (compareOp .Gt) (rI0 fun i j => .bl (decide (j < i))) := opB0 fun _ _ _ _ _ _ _ q => gt_int q
theorem nomark (b : Expr) {op : CmpOp} (h : op ≠ .In := by decide) (h2 : op ≠ .NotIn := by decide) : behindInMarks op b = false := by
  have e1 : (op == CmpOp.In) = false := by cases op <;> first | rfl | exact absurd rfl h
  have e2 : (op == CmpOp.NotIn) = false := by cases op <;> first | rfl | exact absurd rfl h2
  cases b <;> simp [behindInMarks, e1, e2]
theorem pe_cmpR {op : CmpOp} {r : R2} (ho : OpR X (compareOp op) r) (ha : PE X a ta) (hb : PE X b tb) (hm : behindInMarks op b = false) : PE X (.Compare a [op] [b] pos) (tOp r ta tb) := by
  intro pins s σ H Q I h
  exact wpAny_Compare1 (binT ha hb I h fun v u s2 x y H2 I2 rx ry q => ho pins s2 σ H2 x y v u Q I2 rx ry q) hm
noncomputable abbrev tTest (t : TE) : TT := fun σ H Q => t σ H fun x H' => ∃ k, x = .bl k ∧ Q k H'
theorem pt_cmpR {op : CmpOp} {r : R2} (ho : OpR X (compareOp op) r) (ha : PE X a ta) (hb : PE X b tb) (hm : behindInMarks op b = false) : PT X (.Compare a [op] [b] pos) (tTest (tOp r ta tb)) := by
  intro pins s σ H Q I h
  refine wpAny_isTrue_Compare1 (thn (ha pins s σ H _ I h) fun v s1 ⟨x, H1, I1, r1, q1⟩ => thn (hb pins s1 σ H1 _ I1 q1) fun u s2 ⟨y, H2, I2, r2, q2⟩ =>
    thn (ho pins s2 σ H2 x y v u _ I2 r1 r2 q2) fun c s3 ⟨z, H3, I3, r3, k, e, q3⟩ => ?_) hm
  subst e
  cases r3
  exact wpAny_truthy_bool ⟨H3, I3, q3⟩
noncomputable def tChain (r r' : R2) (ta tb tc : TE) : TE := fun σ H Q => ta σ H fun x H1 => tb σ H1 fun y H2 => r x y H2 fun z H3 => ∃ k, z = .bl k ∧
  (if k = true then tc σ H3 fun w' H4 => r' y w' H4 Q else Q (.bl false) H3)
theorem pt_chain {op op' : CmpOp} {r r' : R2} (ho : OpR X (compareOp op) r) (ho' : OpR X (compareOp op') r') (ha : PE X a ta) (hb : PE X b tb) (hc : PE X c tc)
    (hm : lastMarks [op, op'] [b, c] = false := by with_unfolding_all rfl) : PT X (.Compare a [op, op'] [b, c] pos) (tTest (tChain r r' ta tb tc)) := by
  intro pins s σ H Q I h
  refine isTrue_chain (thn (ha pins s σ H _ I h) fun v s1 ⟨x, H1, I1, r1, q1⟩ => test_link (thn (hb pins s1 σ H1 _ I1 q1) fun u s2 ⟨y, H2, I2, r2, q2⟩ =>
    thn (ho pins s2 σ H2 x y v u _ I2 r1 r2 q2) fun d s3 ⟨z, H3, I3, r3, k, e, q3⟩ => ?_)) hm
  subst e
  cases r3
  refine wpAny_truthy_bool ?_
  cases k with
  | false =>
    obtain ⟨k', e', q'⟩ := q3
    cases e'
    exact ite_ff ⟨H3, I3, q'⟩
  | true =>
    refine ite_tt (test_last (thn (hc pins s3 σ H3 _ I3 q3) fun w' s4 ⟨z', H4, I4, r4, q4⟩ => thn (ho' pins s4 σ H4 y z' u w' _ I4 r2 r4 q4) fun d' s5 ⟨z2, H5, I5, r5, k2, e2, q5⟩ => ?_))
    subst e2
    cases r5
    exact wpAny_truthy_bool ⟨H5, I5, q5⟩
noncomputable def TruV (K : PySem.W.Frag) (x : V) (H : Hp) (k : Bool) : Prop :=
  match x with
  | .non => k = false
  | .bl b => k = b
  | .int i => k = (i != 0)
  | .str y => y.length ≤ sizeLine ∧ k = ((y.length : Int) != 0)
  | .byt y => y.size ≤ sizeLine ∧ k = ((y.size : Int) != 0)
  | .ref p => (∃ xs, SqL K H p xs ∧ k = !xs.isEmpty) ∨ (∃ xs, SqT K H p xs ∧ k = !xs.isEmpty) ∨ ∃ kvs, H p = some (.dK kvs) ∧ k = !kvs.isEmpty
  | _ => False
theorem isEmpty_kv {κ : Type} {kvs : List (κ × V)} {vs : List (κ × Value)} (r : KV kvs vs) : (!vs.isEmpty) = !kvs.isEmpty := by
  cases r <;> rfl
theorem isEmpty_of {xs : List V} {its : List Value} (r : Vals xs its) : (!its.toArray.isEmpty) = !xs.isEmpty := by
  cases r <;> simp
theorem line63 : (sizeLine : Nat) < 2 ^ 63 := by rw [sizeLine_eq]; decide
theorem tru_ok : TruR X (fun x H Q => ∃ k, TruV X.K x H k ∧ Q k H) := by
  intro pins s σ H x v Q I rx h
  obtain ⟨k, e, q⟩ := h
  have hl := line63
  have hs : sizeLine = 16777216 := sizeLine_eq
  cases x with
  | non =>
    cases rx
    have e' : k = false := e
    subst e'
    exact truthy_none ⟨H, I, q⟩
  | bl b =>
    cases rx
    have e' : k = b := e
    subst e'
    exact wpAny_truthy_bool ⟨H, I, q⟩
  | int i =>
    obtain ⟨t, rfl⟩ := rx
    have e' : k = (i != 0) := e
    subst e'
    exact PySem.P.truthy_int ⟨H, I, q⟩
  | str y =>
    obtain ⟨t, rfl⟩ := rx
    obtain ⟨hy, e'⟩ : y.length ≤ sizeLine ∧ k = ((y.length : Int) != 0) := e
    subst e'
    exact PySem.P.truthy_str (by omega) ⟨H, I.tok _, q⟩
  | byt y =>
    obtain ⟨t, rfl⟩ := rx
    obtain ⟨hy, e'⟩ : y.size ≤ sizeLine ∧ k = ((y.size : Int) != 0) := e
    subst e'
    exact PySem.W.truthy_bytes (by omega) ⟨H, I.tok _, q⟩
  | ref p =>
    cases rx
    have e' : (∃ xs, SqL X.K H p xs ∧ k = !xs.isEmpty) ∨ (∃ xs, SqT X.K H p xs ∧ k = !xs.isEmpty) ∨ ∃ kvs, H p = some (.dK kvs) ∧ k = !kvs.isEmpty := e
    rcases e' with ⟨xs, hx, e'⟩ | ⟨xs, hx, e'⟩ | ⟨kvs, hx, e'⟩
    · subst e'
      obtain ⟨its, r, pl, hz⟩ := I.list hx
      have hlen := r.length
      exact wpAny_truthy_list pl.isList (by simp only [List.size_toArray]; omega) ⟨H, I.tok _, by rw [isEmpty_of r]; exact q⟩
    · subst e'
      obtain ⟨its, r, pl, hz⟩ := I.tuple hx
      have hlen := r.length
      exact truthy_tuple pl (by simp only [List.size_toArray]; omega) ⟨H, I.tok _, by rw [isEmpty_of r]; exact q⟩
    · subst e'
      obtain ⟨hz, hS, vs, r, m⟩ : kvs.length ≤ sizeLine ∧ (p == sysModules) = false ∧ ∃ vs, KV kvs vs ∧ s.heap.DictOf (mixKind X.prog X.w) p vs := I.hok p _ hx
      have hlen : kvs.length = vs.length := Paired.length r
      exact wpAny_truthy_dict hS m (by omega) ⟨H, I.tok _, by rw [isEmpty_kv r]; exact q⟩
  | _ => exact (show False from e).elim
theorem pt_truth (ha : PE X a ta) (he : ∀ whole, isTrue a X.env whole = (do let v ← whole; standAt a.pos; holding [v] (truthy v))) :
    PT X a (fun σ H Q => ta σ H fun x H' => ∃ k, TruV X.K x H' k ∧ Q k H') := by
  intro pins s σ H Q I h
  exact isTrue_plain (thn (ha pins s σ H _ I h) fun v s1 ⟨x, H1, I1, r1, q1⟩ => tru_ok pins s1 σ H1 x v Q I1 r1 q1) (he _)
theorem op_add_str : OpR X (binaryOp .Add) (fun x y H Q => ∃ i j, x = .str i ∧ y = .str j ∧ i.length + j.length ≤ sizeLine ∧ Q (.str (i ++ j)) H) := by
  intro pins s σ H x y v u Q I rx ry h
  obtain ⟨i, j, rfl, rfl, hz, q⟩ := h
  obtain ⟨t, rfl⟩ := rx
  obtain ⟨t', rfl⟩ := ry
  exact add_str (fun t' tk => ⟨.str (i ++ j), H, I.tok _, ⟨_, rfl⟩, q⟩) hz
theorem vals1 {x : V} {us : List Value} (r : Vals [x] us) : ∃ u, us = [u] ∧ RelV x u := by
  cases r with
  | cons r1 r2 => cases r2; exact ⟨_, rfl, r1⟩
theorem vals2 {x y : V} {us : List Value} (r : Vals [x, y] us) : ∃ u w', us = [u, w'] ∧ RelV x u ∧ RelV y w' := by
  cases r with
  | cons r1 r2 =>
    cases r2 with
    | cons r3 r4 => cases r4; exact ⟨_, _, rfl, r1, r3⟩
end
end L2
namespace L2
open PySem PySem.Spec PyProof.Rows
section
variable {prog : Program} {w : World} {A : Around} {E : Value → Shared → Prop} {s : Shared} {K : PySem.W.Frag} {x dx C f : Addr} {mA : Str → Option Value} {name : Str} {v : Value}
end
section
variable {P : Program} {w : World} {H H' : Hp} {h h' : Heap} {a C dx : Addr} {fs fs' : List (Str × V)}
end
section
variable {X : Cx} {pins : List (Addr × Obj)} {σ : St} {H : Hp} {s : Shared} {a C dx : Addr} {fs : List (Str × V)} {f : Str} {v : V} {A : Around} {E : Value → Shared → Prop}
end
section
variable {X : Cx} {o e value : Expr} {f : Str} {pos pos' tpos : Pos} {ta tv : TE}
end
section
variable {X : Cx} {pins : List (Addr × Obj)} {σ : St} {H : Hp} {s : Shared} {A : Around} {E : Value → Shared → Prop} {Q : Value → Shared → Prop} {c : Value} {b : Bool}
end
end L2
namespace L2
open PySem PySem.Spec PyProof.Rows
structure Room (k : Nat) (A : Around) : Prop where
  hd : A.handled = none
  dp : A.depth + 3 * k + 5 < recursionLimit
  un : A.units + 16 * k + 200 < cLine
theorem Room.mono {j k : Nat} {A : Around} (r : Room k A) (h : j ≤ k) : Room j A := ⟨r.hd, by have := r.dp; omega, by have := r.un; omega⟩
theorem Room.deeper {k : Nat} {A : Around} (r : Room (k + 1) A) (env : Env) : Room k (A.deeper env) :=
  ⟨r.hd, by have := r.dp; show A.depth + 1 + 3 * k + 5 < _; omega, by have := r.un; show A.units + 3 + 16 * k + 200 < _; omega⟩
theorem Room.in1 {k : Nat} {A : Around} (r : Room (k + 1) A) : Room k A.in1 :=
  ⟨r.hd, by have := r.dp; show A.depth + 3 * k + 5 < _; omega, by have := r.un; show A.units + 1 + 16 * k + 200 < _; omega⟩
theorem Room.depth {k : Nat} {A : Around} (r : Room k A) : A.depth < recursionLimit := by have := r.dp; omega
theorem Room.units {k : Nat} {A : Around} (r : Room k A) : A.units + 64 < cLine := by have := r.un; omega
noncomputable abbrev tNil : TA := fun _ H Q => Q [] H
noncomputable abbrev tCons (ta : TE) (tr : TA) : TA := fun σ H Q => ta σ H fun x H1 => tr σ H1 fun xs H2 => Q (x :: xs) H2
section
variable {X : Cx} {e : Expr} {es : List Expr} {te : TE} {t : TA} {pos : Pos}
theorem pa_nil : PA X [] tNil := fun _ _ _ _ H Q I h => Calls.spliced_nil ⟨[], H, I, .nil, h⟩
theorem pa_cons (ha : PE X e te) (hr : PA X es t) (hs : starEach (e :: es) X.env = (false, eval e X.env) :: starEach es X.env := by rfl) : PA X (e :: es) (tCons te t) := by
  intro pos pins s σ H Q I h
  rw [hs]
  show wpAny _ _ (spliced ((false, eval e X.env) :: backTo pos (starEach es X.env))) _ _ s
  refine Calls.spliced_cons (thn (ha pins s σ H _ I h) fun u s1 ⟨x, H1, I1, r1, q1⟩ => ?_)
  exact thn (hr pos pins s1 σ H1 _ I1 q1) fun us s2 ⟨xs, H2, I2, r2, q2⟩ => ⟨x :: xs, H2, I2, .cons r1 r2, q2⟩
noncomputable abbrev tTup (t : TA) : TE := fun σ H Q => t σ H fun xs H1 => xs.length ≤ sizeLine ∧ ∀ p, H1 p = none → Q (.ref p) (upd H1 p (.tup xs))
noncomputable abbrev tLst (t : TA) : TE := fun σ H Q => t σ H fun xs H1 => xs.length ≤ sizeLine ∧ ∀ p, H1 p = none → Q (.ref p) (upd H1 p (.lst xs))
theorem pe_tup {x1} (h : PA X es t) : PE X (.Tuple es x1 pos) (tTup t) := by
  intro pins s σ H Q I hq
  refine wpAny_Tuple_spliced (thn (h pos pins s σ H _ I hq) fun us s1 ⟨xs, H1, I1, r, z, q⟩ => ⟨by rw [← r.length]; exact z, ?_⟩)
  have hf : H1 s1.heap.objs.size = none := I1.hok.fresh (Nat.le_refl _)
  refine ⟨.ref s1.heap.objs.size, upd H1 s1.heap.objs.size (.tup xs), I1.laid (t' := s1.toks) (fun b u e => Heap.get?_push_of_some _ e) (Nat.le_refl _) ?_, rfl, q _ hf⟩
  exact ⟨z, us, r, ⟨_, Heap.get?_push_size _ rfl, rfl, _, rfl⟩⟩
theorem pe_lst (h : PA X es t) : PE X (.List es pos) (tLst t) := by
  intro pins s σ H Q I hq
  refine wpAny_List_spliced (thn (h pos pins s σ H _ I hq) fun us s1 ⟨xs, H1, I1, r, z, q⟩ => ⟨by rw [← r.length]; exact z, ?_⟩)
  have hf : H1 s1.heap.objs.size = none := I1.hok.fresh (Nat.le_refl _)
  refine ⟨.ref s1.heap.objs.size, upd H1 s1.heap.objs.size (.lst xs), I1.laid (t' := s1.toks) (fun b u e => Heap.get?_push_of_some _ e) (Nat.le_refl _) ?_, rfl, q _ hf⟩
  exact ⟨z, us, 0, r, Heap.get?_push_size _ rfl⟩
end
noncomputable abbrev Sp := List V → Hp → VK → XK → Prop
noncomputable abbrev CXT := List Env → Hp → Shared → XK → Value → Shared → Prop
structure Env0 (P : Program) (w : World) (K : PySem.W.Frag) (mg : Str → Option Value) (base : Heap) (A : Around) (outer : List Env) (s : Shared) (H : Hp) : Prop where
  frames : A.frames = some outer
  mod : Mod K mg base
  bs : ∀ b o, base.get? b = some o → s.heap.get? b = some o ∧ H b = none
  bsz : base.objs.size ≤ s.heap.objs.size
  funs : s.heap.FunFrames base outer
  frf : ∀ b ∈ frs outer, H b = none
  hok : HOk P w H s.heap
  bare : AllBare s.gens
noncomputable def CE (outer : List Env) (P : Program) (w : World) (H : Hp) (s : Shared) (Q : VK) (u : Value) (s' : Shared) : Prop :=
  ∃ v H', s'.os = s.os ∧ AllBare s'.gens ∧ Un (frs outer) [] H H' s.heap s'.heap ∧ HOk P w H' s'.heap ∧ RelV v u ∧ Q v H'
noncomputable def CR (CX : CXT) (outer : List Env) (P : Program) (w : World) (H : Hp) (s : Shared) (Q : VK) (E : XK) (r : Result) (s' : Shared) : Prop :=
  match r with
  | .ok (.ret u) => CE outer P w H s Q u s'
  | .ok _ => False
  | .error e => CX outer H s E e s'
structure FnOk (P : Program) (w : World) (K : PySem.W.Frag) (mg : Str → Option Value) (base : Heap) (CX : CXT) (k : Nat) (f : Addr) (fd : FuncData) (ps : List Str) (sp : Sp) : Prop where
  len : ∀ vs H Q E, sp vs H Q E → vs.length = ps.length
  run : ∀ (A : Around) (outer : List Env) (s : Shared) (H : Hp) (args : Args) (us : List Value) (vs : List V) (Q : VK) (E : XK), Room k A → Env0 P w K mg base A outer s H → BindsTo s fd args (ps.zip us) → Vals vs us → sp vs H Q E →
    codeAny (model P w) A (.call (.ref f) args) (CR CX outer P w H s Q E) s
theorem FnOk.mono {P : Program} {w : World} {K : PySem.W.Frag} {mg : Str → Option Value} {base : Heap} {CX : CXT} {j k : Nat} {f : Addr} {fd : FuncData} {ps : List Str} {sp : Sp} (F : FnOk P w K mg base CX j f fd ps sp) (h : j ≤ k) :
    FnOk P w K mg base CX k f fd ps sp := ⟨F.len, fun A outer s H args us vs Q E hr => F.run A outer s H args us vs Q E (hr.mono h)⟩
theorem FnOk.imp {P : Program} {w : World} {K : PySem.W.Frag} {mg : Str → Option Value} {base : Heap} {CX : CXT} {k : Nat} {f : Addr} {fd : FuncData} {ps : List Str} {sp sp' : Sp} (F : FnOk P w K mg base CX k f fd ps sp)
    (h : ∀ vs H Q E, sp' vs H Q E → sp vs H Q E) : FnOk P w K mg base CX k f fd ps sp' :=
  ⟨fun vs H Q E q => F.len vs H Q E (h _ _ _ _ q), fun A outer s H args us vs Q E hr he hb hv hs => F.run A outer s H args us vs Q E hr he hb hv (h _ _ _ _ hs)⟩
theorem Env0.in1 {P : Program} {w : World} {K : PySem.W.Frag} {mg : Str → Option Value} {base : Heap} {A : Around} {outer : List Env} {s : Shared} {H : Hp} (e : Env0 P w K mg base A outer s H) :
    Env0 P w K mg base A.in1 outer s H := ⟨e.frames, e.mod, e.bs, e.bsz, e.funs, e.frf, e.hok, e.bare⟩
section
variable {X : Cx} {pins : List (Addr × Obj)} {σ : St} {H : Hp} {s s' : Shared}
theorem Inv.env0 (I : Inv X pins σ H s) : Env0 X.prog X.w X.K X.mg X.base X.A X.stack s H :=
  ⟨I.ok.frames, I.ok.mod, I.bs, Nat.le_trans I.ok.bsz I.sz, I.stack, I.stkFree, I.hok, I.bare⟩
theorem Inv.after {Q : VK} {u : Value} (I : Inv X pins σ H s) (h : CE X.stack X.prog X.w H s Q u s') : EP X pins σ Q u s' := by
  obtain ⟨v, H', os, bare, un, hok, r, q⟩ := h
  obtain ⟨hh, g, d, t, os'⟩ := s'
  obtain rfl : os' = s.os := os
  exact ⟨v, H', I.call (h' := hh) (g' := g) (d' := d) (t' := t) (ch := []) un hok bare (fun b z => absurd z (by simp)), r, q⟩
end
noncomputable abbrev tCall (sp : Sp) (dvs : List V) (E : XK) (t : TA) : TE := fun σ H Q => t σ H fun vs H1 => sp (vs ++ dvs) H1 Q E
noncomputable def Binds (K : PySem.W.Frag) (fd : FuncData) (ps : List Str) (ds : List Value) : Prop :=
  ∀ (s : Shared) (us : List Value), K.In s.heap → (us ++ ds).length = ps.length → BindsTo s fd ⟨us, []⟩ (ps.zip (us ++ ds))
theorem Binds.all {K : PySem.W.Frag} {fd : FuncData} {ps : List Str} (h : ∀ us : List Value, us.length = ps.length → bindArgs fd ⟨us, []⟩ = pure (ps.zip us)) : Binds K fd ps [] := fun s us _ hl => by
  rw [List.append_nil] at hl ⊢
  exact .of_eq (h us hl)
noncomputable def Passes (CX : CXT) (X : Cx) (E : XK) : Prop := ∀ (pins : List (Addr × Obj)) (σ : St) (H : Hp) (s : Shared) (e : Value) (s' : Shared), Inv X pins σ H s → CX X.stack H s E e s' → X.xe e s'
section
variable {X : Cx} {CX : CXT} {k : Nat} {f C : Addr} {fd : FuncData} {ps : List Str} {sp : Sp} {dvs : List V} {ds : List Value} {E : XK} {x m : Str} {p pos apos : Pos} {e o : Expr} {es : List Expr} {ta : TE} {t : TA}
theorem run_fn {pins : List (Addr × Obj)} {σ : St} {H : Hp} {s : Shared} {Q : VK} {us : List Value} {vs : List V} (F : FnOk X.prog X.w X.K X.mg X.base CX k f fd ps sp) (hr : Room k X.A) (hb : Binds X.K fd ps ds) (hd : Vals dvs ds) (hx : Passes CX X E)
    (I : Inv X pins σ H s) (r : Vals vs us) (h : sp (vs ++ dvs) H Q E) : wpAny (model X.prog X.w) X.A (call (.ref f) us) (EP X pins σ Q) X.xe s := by
  have r2 : Vals (vs ++ dvs) (us ++ ds) := r.append hd
  have hl : (us ++ ds).length = ps.length := by rw [← r2.length]; exact F.len _ _ _ _ h
  refine wpAny_call (codeAny_mono (F.run X.A X.stack s H ⟨us, []⟩ (us ++ ds) (vs ++ dvs) Q E hr I.env0 (hb s us I.kIn hl) r2 h) fun r s' hq => ?_)
  cases r with
  | error e => exact hx pins σ H s e s' I hq
  | ok fl =>
    cases fl with
    | ret u => exact I.after hq
    | next => exact False.elim hq
    | brk => exact False.elim hq
    | cont => exact False.elim hq
theorem pe_call (F : FnOk X.prog X.w X.K X.mg X.base CX k f fd ps sp) (hr : Room k X.A) (hg : Gl X x) (hm : X.mg x = some (.ref f)) (hk : PySem.W.keepIn X.K (.ref f) = true) (hb : Binds X.K fd ps ds) (hd : Vals dvs ds) (hx : Passes CX X E)
    (ha : PA X (e :: es) t) (hdb : (x == ("__debug__" : Str)) = false := by decide) (he : starEach (e :: es) X.env = (false, eval e X.env) :: starEach es X.env := by rfl) (hpl : (backTo pos (starEach es X.env)).any (·.1) = false := by rfl) :
    PE X (.Call (.Name x p) (e :: es) [] pos) (tCall sp dvs E t) := by
  intro pins s σ H Q I h
  refine wpAny_Call_Name_kw (ld_glob I hg hm ?_ hdb)
  refine PySem.W.callWith_K (h₀ := X.base) I.ok.mod.kin hk (thn (ha pos pins s σ H _ I h) fun us s1 ⟨vs, H1, I1, r, q⟩ => ⟨I1.kIn, ?_⟩) he hpl
  exact run_fn F hr hb hd hx I1 r q
end
section
variable {X : Cx} {CX : CXT} {k : Nat} {f C : Addr} {fd : FuncData} {ps ks : List Str} {sp : Sp} {E : XK} {x m : Str} {p pos apos kpos : Pos} {e o : Expr} {es : List Expr} {kws : List Keyword} {te ta : TE} {t tk : TA} {nm : Option Str}
variable {g : List Value → List Value → List Value} {gV : List V → List V → List V}
end
structure FnScope (N P : List Str) (sc : Scope) : Prop where
  kind : sc.kind = .function
  co : sc.isCoroutine = false
  gen : sc.isGenerator = false
  nd : N.Nodup
  pre : N.take P.length = P
  par : ∀ x ∈ P, sc.names.lookup x = some .local ∨ sc.names.lookup x = some .cell
  nofree : ∀ y ∈ sc.names, y.2 ≠ .free
theorem bindL_out {kindOf : Str → Option NameKind} {x : Str} : ∀ {binds : List (Str × Value)} {m : Str → Option Value}, (∀ v, (x, v) ∉ binds) → bindL kindOf binds m x = m x
  | [], _, _ => rfl
  | (n, v) :: r, m, h => by
    unfold bindL
    rw [bindL_out fun w hw => h w (List.mem_cons_of_mem _ hw)]
    split
    · have : x ≠ n := by rintro rfl; exact h v List.mem_cons_self
      simp [this]
    · rfl
theorem bindC_out {kindOf : Str → Option NameKind} {x : Str} : ∀ {binds : List (Str × Value)} {m : Str → Option Value}, (∀ v, (x, v) ∉ binds) → bindC kindOf binds m x = m x
  | [], _, _ => rfl
  | (n, v) :: r, m, h => by
    unfold bindC
    rw [bindC_out fun w hw => h w (List.mem_cons_of_mem _ hw)]
    split
    · rfl
    · have : x ≠ n := by rintro rfl; exact h v List.mem_cons_self
      simp [this]
theorem bindL_get {kindOf : Str → Option NameKind} {x : Str} {v : Value} : ∀ {P : List Str} {vs : List Value} {i : Nat} {m : Str → Option Value}, P.Nodup → P[i]? = some x → vs[i]? = some v → kindOf x = some .local →
    bindL kindOf (P.zip vs) m x = some v
  | [], _, _, _, _, h, _, _ => by simp at h
  | _ :: _, [], _, _, _, _, h, _ => by simp at h
  | p :: P, w :: vs, 0, m, nd, h1, h2, hk => by
    simp at h1 h2; subst h1; subst h2
    show bindL kindOf ((p, w) :: P.zip vs) m p = _
    unfold bindL
    rw [bindL_out fun v hv => (List.nodup_cons.mp nd).1 (List.of_mem_zip hv).1, if_pos hk]
    simp
  | p :: P, w :: vs, i + 1, m, nd, h1, h2, hk => by
    show bindL kindOf ((p, w) :: P.zip vs) m x = _
    unfold bindL
    exact bindL_get (i := i) (List.nodup_cons.mp nd).2 (by simpa using h1) (by simpa using h2) hk
theorem bindC_get {kindOf : Str → Option NameKind} {x : Str} {v : Value} : ∀ {P : List Str} {vs : List Value} {i : Nat} {m : Str → Option Value}, P.Nodup → P[i]? = some x → vs[i]? = some v → kindOf x ≠ some .local →
    bindC kindOf (P.zip vs) m x = some v
  | [], _, _, _, _, h, _, _ => by simp at h
  | _ :: _, [], _, _, _, _, h, _ => by simp at h
  | p :: P, w :: vs, 0, m, nd, h1, h2, hk => by
    simp at h1 h2; subst h1; subst h2
    show bindC kindOf ((p, w) :: P.zip vs) m p = _
    unfold bindC
    rw [bindC_out fun v hv => (List.nodup_cons.mp nd).1 (List.of_mem_zip hv).1, if_neg hk]
    simp
  | p :: P, w :: vs, i + 1, m, nd, h1, h2, hk => by
    show bindC kindOf ((p, w) :: P.zip vs) m x = _
    unfold bindC
    exact bindC_get (i := i) (List.nodup_cons.mp nd).2 (by simpa using h1) (by simpa using h2) hk
noncomputable def start (N : List Str) (vs : List V) : St := vs.map some ++ List.replicate (N.length - vs.length) none
noncomputable def cxOf (CX : CXT) (P : Program) (w : World) (K : PySem.W.Frag) (mg : Str → Option Value) (base : Heap) (N : List Str) (qual : Str) (scope : Scope) (f : Addr) (cd : Value) (A : Around) (outer : List Env) (s : Shared) (H : Hp) (E : XK) : Cx where
  prog := P
  w := w
  K := K
  mg := mg
  base := base
  A := A.deeper (envOfC qual scope s.heap.objs.size f cd)
  N := N
  s₀ := s
  H₀ := H
  env := envOfC qual scope s.heap.objs.size f cd
  outer := outer
  stack := envOfC qual scope s.heap.objs.size f cd :: outer
  ex := []
  calm := true
  fn := fun _ => true
  pn := []
  xe := fun e s' => wpAny (model P w) (A.deeper (envOfC qual scope s.heap.objs.size f cd)) (leaving (envOfC qual scope s.heap.objs.size f cd) e) (fun _ s'' => CX outer H s E e s'') (fun e' s'' => CX outer H s E e' s'') s'
theorem cell_has {sc : Scope} {n : Nat} {x : Str} (h : sc.names.lookup x = some .cell) : ∃ c, (cellsFrom n sc.names []).lookup x = some c := by
  have q := PySem.W.cellsFrom_some sc.names n [] (.inl h)
  exact Option.isSome_iff_exists.mp q
theorem inv_start {CX : CXT} {P : Program} {w : World} {K : PySem.W.Frag} {mg : Str → Option Value} {base : Heap} {N ps : List Str} {qual : Str} {scope : Scope} {f : Addr} {cd : Value} {A : Around} {outer : List Env} {s s1 : Shared} {H : Hp} {E : XK} {us : List Value} {vs : List V}
    (S : FnScope N ps scope) (hd : A.handled = none) (e0 : Env0 P w K mg base A outer s H) (hl : vs.length = ps.length) (r : Vals vs us)
    (x : InCallC s s.heap.objs.size (bindL (envOfC qual scope s.heap.objs.size f cd).kindOf (ps.zip us) fun _ => none) (cellsFrom (s.heap.objs.size + 1) scope.names []) (bindC (envOfC qual scope s.heap.objs.size f cd).kindOf (ps.zip us) fun _ => none) s1) :
    Inv (cxOf CX P w K mg base N qual scope f cd A outer s H E) [] (start N vs) H s1 := by
  have hpl : ps.length ≤ N.length := by have := congrArg List.length S.pre; rw [List.length_take] at this; omega
  obtain ⟨h1, tk, rfl, hk⟩ := x.done
  have noA : ∀ b : Addr, b ∉ (cxOf CX P w K mg base N qual scope f cd A outer s H E).ex := fun b z => absurd (show b ∈ ([] : List Addr) from z) (by simp)
  refine ⟨⟨e0.mod, S.kind, rfl, rfl, Nat.le_refl _, fun y z c h1 h2 => ?_, fun y hy => ?_, fun y c _ h => ?_, fun _ => hd, Around.frames_deeper e0.frames, .inr ⟨rfl, rfl⟩, fun b z => absurd z (noA b), e0.bs, e0.bsz, fun b _ _ => noA b, fun b z => absurd z (noA b), e0.funs, e0.frf⟩,
    rfl, e0.bare, Un.kept hk, ⟨_, x.toInCall.ns, fun i y v h1 h2 h3 => ?_⟩, fun y c h => ⟨_, x.cell y c h⟩, e0.hok.fresh (Nat.le_refl _), fun y c h => ?_, fun p hp => absurd (show p ∈ ([] : List (Addr × Obj)) from hp) (by simp), e0.hok.kept hk, ?_⟩
  · exact name_of_addr x.apart (PySem.mem_of_lookup h1) (PySem.mem_of_lookup h2)
  · have hy : scope.names.lookup y = some .cell ∨ scope.names.lookup y = some .free := hy
    rcases hy with hy | hy
    · exact cell_has hy
    · exact absurd rfl (S.nofree _ (PySem.mem_of_lookup hy))
  · exact Nat.le_of_lt (x.above y c (PySem.mem_of_lookup h))
  · have hi : i < vs.length := by
      unfold start at h2
      by_cases hi : i < vs.length
      · exact hi
      · rw [List.getElem?_append_right (by simpa using hi)] at h2
        rw [List.getElem?_replicate] at h2
        split at h2 <;> cases h2
    have ha : vs[i]? = some v := by
      unfold start at h2
      rw [List.getElem?_append_left (by simpa using hi), List.getElem?_map] at h2
      cases e : vs[i]? with
      | none => rw [e] at h2; cases h2
      | some a => rw [e] at h2; cases h2; rfl
    obtain ⟨u, hu, rv⟩ := r.get ha
    have hp : ps[i]? = some y := by
      rw [← S.pre, List.getElem?_take_of_lt (by omega)]; exact h1
    have ndP : ps.Nodup := by rw [← S.pre]; exact S.nd.sublist (List.take_sublist _ _)
    refine ⟨u, rv, ?_⟩
    rcases S.par y (List.mem_of_getElem? hp) with k | k
    · exact .inl ⟨k, bindL_get ndP hp hu k⟩
    · obtain ⟨c, e⟩ := cell_has (n := s.heap.objs.size + 1) k
      refine .inr ⟨.inl k, c, e, ?_⟩
      have q := x.cell y c e
      rw [bindC_get ndP hp hu (by show scope.names.lookup y ≠ _; rw [k]; decide)] at q
      exact q
  · exact e0.hok.fresh (Nat.le_of_lt (x.above y c (PySem.mem_of_lookup h)))
  · unfold start
    show _ = N.length
    rw [List.length_append, List.length_map, List.length_replicate]
    omega
theorem fn_of {CX : CXT} {P : Program} {w : World} {K : PySem.W.Frag} {mg : Str → Option Value} {base : Heap} {k : Nat} {f : Addr} {name qual : Str} {params : Arguments} {body : List Stmt} {scope : Scope} {dV kV doc pm cdv ct oc : Value} {an od : Option Addr}
    {osl : Array (Option Value)} {N ps : List Str} {sp : Sp} (lk : K.lookup f = some ⟨oc, od, .func (PySem.W.fnOf name qual params body scope dV kV doc pm an cdv ct), osl⟩) (hcd : PySem.W.codeIn K cdv qual = true) (S : FnScope N ps scope)
    (len : ∀ vs H Q E, sp vs H Q E → vs.length = ps.length)
    (hbody : ∀ (A : Around) (outer : List Env) (s : Shared) (H : Hp) (vs : List V) (Q : VK) (E : XK), Room k (A.deeper (envOfC qual scope s.heap.objs.size f cdv)) → sp vs H Q E →
      ∃ t, PSs (cxOf CX P w K mg base N qual scope f cdv A outer s H E) body t ∧ t { nx := fun _ H' => Q .non H', rt := Q } (start N vs) H) :
    FnOk P w K mg base CX (k + 1) f (PySem.W.fnOf name qual params body scope dV kV doc pm an cdv ct) ps sp := by
  refine ⟨len, fun A outer s H args us vs Q E hr e0 hb r hsp => ?_⟩
  have hl := len _ _ _ _ hsp
  have KX : K.In s.heap := e0.mod.kin.keeps fun b o e => (e0.bs b o e).1
  have lim : s.heap.NoLimit := e0.mod.nolimit.keeps fun b o e => (e0.bs b o e).1
  have hkind : ∀ y ∈ ps.zip us, scope.names.lookup y.1 = some .local ∨ (scope.names.lookup y.1 = some .cell ∧ ((cellsFrom (s.heap.objs.size + 1) scope.names []).lookup y.1).isSome = true) := fun ⟨n, v⟩ hy => by
    rcases S.par n (List.of_mem_zip hy).1 with q | q
    · exact .inl q
    · exact .inr ⟨q, PySem.W.cellsFrom_some _ _ _ (.inl q)⟩
  refine codeAny_call_function hr.depth (KX _ _ lk) rfl S.co S.gen rfl (PySem.W.codeRec_of KX hcd) (hb _ _ _ _ ?_)
  refine wpAny_newFunctionEnv_cells S.kind hkind fun env he s1 x => ?_
  subst he
  refine ⟨lim.keeps x.toInCall.keep, codeAny_func ?_⟩
  obtain ⟨t, ht, hq⟩ := hbody A outer s H vs Q E (hr.deeper _) hsp
  have I : Inv (cxOf CX P w K mg base N qual scope f cdv A outer s H E) [] (start N vs) H s1 := inv_start S hr.hd e0 hl r x
  refine wpAny_mono (ht [] s1 (start N vs) H _ I hq) (fun fl s' hs => ?_) fun e s' hs => hs
  have fin : ∀ {σ' : St} {H' : Hp} {v : V} {u : Value}, Inv (cxOf CX P w K mg base N qual scope f cdv A outer s H E) [] σ' H' s' → RelV v u → Q v H' → CE outer P w H s Q u s' :=
    fun {σ' H' v u} J rv q => ⟨v, H', J.os, J.bare, J.base, J.hok, rv, q⟩
  cases fl with
  | ret u =>
    obtain ⟨v, σ', H', J, rv, q⟩ := hs
    exact fin J rv q
  | next =>
    obtain ⟨σ', H', J, q⟩ := hs
    exact fin (v := V.non) (u := Value.none) J rfl q
  | brk =>
    obtain ⟨_, _, _, q⟩ := hs
    exact False.elim q
  | cont =>
    obtain ⟨_, _, _, q⟩ := hs
    exact False.elim q
end L2
namespace L2
open PySem PySem.Spec PyProof.Rows
section
variable {X : Cx} {x : Str} {p pos : Pos} {e : Expr} {es : List Expr} {t : TA} {id T : String} {r : List V → Hp → VK → Prop}
noncomputable abbrev tCB (r : List V → Hp → VK → Prop) (t : TA) : TE := fun σ H Q => t σ H fun vs H1 => r vs H1 Q
theorem pe_callB (hc : CallR X (.builtin id) r) (hg : Gl X x) (hm : X.mg x = none) (hv : bootBuiltins x = some (.builtin id)) (ha : PA X (e :: es) t) (hn : x ≠ "__name__" := by decide) (hdb : (x == ("__debug__" : Str)) = false := by decide)
    (he : starEach (e :: es) X.env = (false, eval e X.env) :: starEach es X.env := by rfl) (hpl : (backTo pos (starEach es X.env)).any (·.1) = false := by rfl) : PE X (.Call (.Name x p) (e :: es) [] pos) (tCB r t) := by
  intro pins s σ H Q I h
  refine wpAny_Call_Name_kw (ld_blt I hg hm hv ?_ hn hdb)
  exact PyProof.Rows.callWith_builtin1 (thn (ha pos pins s σ H _ I h) fun us s1 ⟨vs, H1, I1, r1, q1⟩ => hc pins s1 σ H1 vs us Q I1 r1 q1) he hpl
theorem pe_callTy (hc : CallR X (.type T) r) (hg : Gl X x) (hm : X.mg x = none) (hv : bootBuiltins x = some (.type T)) (ha : PA X (e :: es) t) (hn : x ≠ "__name__" := by decide) (hdb : (x == ("__debug__" : Str)) = false := by decide)
    (he : starEach (e :: es) X.env = (false, eval e X.env) :: starEach es X.env := by rfl) (hpl : (backTo pos (starEach es X.env)).any (·.1) = false := by rfl) : PE X (.Call (.Name x p) (e :: es) [] pos) (tCB r t) := by
  intro pins s σ H Q I h
  refine wpAny_Call_Name_kw (ld_blt I hg hm hv ?_ hn hdb)
  exact PyProof.Rows.callWith_type1 (thn (ha pos pins s σ H _ I h) fun us s1 ⟨vs, H1, I1, r1, q1⟩ => hc pins s1 σ H1 vs us Q I1 r1 q1) he hpl
end
end L2
namespace HT
open PySem PyProof.Rows
section
open PySem.SeqAt
open PySem.AutoSeq1 (wpAny_loadPart')
open PySem.MeetsSeq PySem.MeetsSeq2 PySem.MeetsSeq3
end
section
variable {prog : Program} {w : World} {A : Around} {E : Value → Shared → Prop} {s : Shared}
noncomputable def sIx (n d : Nat) : Option Int → Nat
  | none => d
  | some v => if v < 0 then (v + (n : Int)).toNat else min v.toNat n
theorem sIx_none (n d : Nat) : sIx n d none = d := rfl
theorem sIx_nat (n d k : Nat) : sIx n d (some (k : Int)) = min k n := by
  show (if (k : Int) < 0 then ((k : Int) + (n : Int)).toNat else min (k : Int).toNat n) = min k n
  rw [if_neg (by omega), Int.toNat_natCast]
theorem sIx_le (n d : Nat) (hd : d ≤ n) (o : Option Int) : sIx n d o ≤ n := by
  cases o with
  | none => exact hd
  | some v =>
    show (if v < 0 then (v + (n : Int)).toNat else min v.toNat n) ≤ n
    by_cases hv : v < 0
    · rw [if_pos hv]; omega
    · rw [if_neg hv]; exact Nat.min_le_right _ _
theorem clip_eq (v : Int) (n d : Nat) : (if v < 0 then max (v + (n : Int)) 0 else min v (n : Int)) = ((sIx n d (some v) : Nat) : Int) := by
  show (if v < 0 then max (v + (n : Int)) 0 else min v (n : Int)) = (((if v < 0 then (v + (n : Int)).toNat else min v.toNat n) : Nat) : Int)
  by_cases hv : v < 0
  · simp only [if_pos hv]; omega
  · simp only [if_neg hv]; omega
theorem adjust_gen (lo hi : Option Int) (n : Nat) : Builtin.Slice.sliceAdjust lo hi 1 (n : Int) = (((sIx n 0 lo : Nat) : Int), ((sIx n n hi : Nat) : Int)) := by
  have h1 : ¬ ((1 : Int) < 0) := by omega
  unfold Builtin.Slice.sliceAdjust
  simp only [h1, if_false]
  refine Prod.ext ?_ ?_
  · cases lo with
    | none => rfl
    | some v => exact clip_eq v n 0
  · cases hi with
    | none => rfl
    | some v => exact clip_eq v n n
theorem places_gen (i j : Nat) : Builtin.Slice.slicePlaces (i : Int) (j : Int) 1 = j - i := by
  unfold Builtin.Slice.slicePlaces
  have h1 : (1 : Int) > 0 := by omega
  simp only [h1, if_true, Int.ediv_one]
  split <;> omega
theorem slicePart_ {v : Value} {o : Option Int} {Q : Option Int → Shared → Prop} (p : IsPart v o) (h : Q o s) : wpAny (model prog w) A (Builtin.Slice.slicePartIndex v) Q E s := by
  cases p with
  | none => exact slicePart_none h
  | int i t => exact slicePart_int h
theorem sliceApplied_gen {sl : Addr} {vl vu : Value} {lo hi : Option Int} {n : Nat} {Q : Int × Int × Nat → Shared → Prop} (hs : s.heap.IsSliceOf sl vl vu .none) (pl : IsPart vl lo) (pu : IsPart vu hi)
    (h : Q (((sIx n 0 lo : Nat) : Int), 1, sIx n n hi - sIx n 0 lo) s) : wpAny (model prog w) A (Builtin.Slice.sliceApplied (.ref sl) (pure (n : Int))) Q E s := by
  obtain ⟨os, hos, hcs, hds⟩ := id hs
  unfold Builtin.Slice.sliceApplied Builtin.Slice.sliceFields
  refine wpAny_bind (wpAny_bind (wpAny_field hos hds (x := vl) rfl (wpAny_bind (wpAny_field hos hds (x := vu) rfl (wpAny_bind (wpAny_field hos hds (x := .none) rfl (wpAny_pure ?_)))))))
  refine wpAny_bind (slicePart_none ?_)
  show wpAny _ _ (if ((1 : Int) == 0) = true then _ else _) _ _ s
  rw [if_neg (by decide)]
  refine wpAny_bind (slicePart_ pl (wpAny_bind (slicePart_ pu (wpAny_bind (wpAny_pure ?_)))))
  show wpAny _ _ (match Builtin.Slice.sliceAdjust lo hi 1 (n : Int) with | (lo, hi) => pure (lo, (1 : Int), Builtin.Slice.slicePlaces lo hi 1)) _ _ s
  rw [adjust_gen lo hi n]
  show wpAny _ _ (pure (((sIx n 0 lo : Nat) : Int), (1 : Int), Builtin.Slice.slicePlaces ((sIx n 0 lo : Nat) : Int) ((sIx n n hi : Nat) : Int) 1)) _ _ s
  rw [places_gen]
  exact wpAny_pure h
theorem pick_gen (xs : Array Value) (i k : Nat) : ((List.range k).filterMap fun (m : Nat) => xs[((i : Int) + (m : Int) * 1).toNat]?).toArray = ((xs.toList.drop i).take k).toArray := by
  have e : (fun (m : Nat) => xs[((i : Int) + (m : Int) * 1).toNat]?) = fun m => xs[i + m]? := by
    funext m
    have : ((i : Int) + (m : Int) * 1).toNat = i + m := by omega
    rw [this]
  rw [e]
  have := pick_run xs i k
  rw [List.filterMap_map] at this
  have e2 : ((fun x => xs[x]?) ∘ fun x => i + x) = fun m => xs[i + m]? := rfl
  rw [e2] at this
  rw [this]
theorem getItem_tuple_cut {t sl : Addr} {items : Array Value} {vl vu : Value} {lo hi : Option Int} {Q : Value → Shared → Prop} (ht : IsTup s.heap t items) (hs : s.heap.IsSliceOf sl vl vu .none) (pl : IsPart vl lo) (pu : IsPart vu hi)
    (hw : ¬ (sIx items.size 0 lo = 0 ∧ sIx items.size items.size hi = items.size))
    (h : Q (.ref s.heap.objs.size) { s with heap := s.heap.push { cls := .type "tuple", data := .seq ((items.toList.drop (sIx items.size 0 lo)).take (sIx items.size items.size hi - sIx items.size 0 lo)).toArray } })
    (hsz : items.size ≤ sizeLine) : wpAny (model prog w) A (getItem (.ref t) (.ref sl)) Q E s := by
  have htake : sizeOk (.seq ((items.toList.drop (sIx items.size 0 lo)).take (sIx items.size items.size hi - sIx items.size 0 lo)).toArray) := by
    show ((items.toList.drop (sIx items.size 0 lo)).take (sIx items.size items.size hi - sIx items.size 0 lo)).toArray.size ≤ sizeLine
    rw [List.size_toArray, List.length_take, List.length_drop, Array.length_toList]
    omega
  have hj : sIx items.size items.size hi ≤ items.size := sIx_le _ _ (Nat.le_refl _) hi
  obtain ⟨os, hos, hcs, hds⟩ := id hs
  have hTs : s.TypeIs (.ref sl) "slice" := ⟨os, hos, hcs⟩
  unfold getItem
  try with_reducible refine wpAny_holding ?_
  first | refine wpAny_bind (wpAny_pure ?_) | skip
  refine wpAny_bind (wpAny_sequenceKey ht.typeIs (by decide) ?_)
  refine wpAny_bind (wpAny_callSpecial?_slot (name := Str.ofString "__getitem__") ht.typeIs PyProof.Rows.slot_tuple_getitem
    (wpAny_call_entry PyProof.Rows.slot_tuple_getitem ht.typeIs entry_tuple_getitem ?_ (args_tuple_getitem _ _)))
  show wpAny _ _ (Builtin.Tuple.tupleItemsOf (.ref t) >>= _) _ _ s
  refine wpAny_bind (tupleItemsOf_ ht ?_)
  refine wpAny_bind (wpAny_typeOf hTs ?_)
  rw [if_pos (by decide)]
  refine wpAny_bind (sliceApplied_gen hs pl pu ?_)
  have hno : ¬ ((((sIx items.size 0 lo : Nat) : Int) == 0 && (1 : Int) == 1 && (sIx items.size items.size hi - sIx items.size 0 lo) == items.size) = true) := by
    intro q
    rw [Bool.and_eq_true, Bool.and_eq_true] at q
    have q1 : ((sIx items.size 0 lo : Nat) : Int) = 0 := eq_of_beq q.1.1
    have q2 : sIx items.size items.size hi - sIx items.size 0 lo = items.size := eq_of_beq q.2
    exact hw ⟨by omega, by omega⟩
  show wpAny _ _ (if (((sIx items.size 0 lo : Nat) : Int) == 0 && (1 : Int) == 1 && (sIx items.size items.size hi - sIx items.size 0 lo) == items.size) = true then _ else _) _ _ s
  rw [if_neg hno, pick_gen]
  first
    | exact wpAny_bind (m := Builtin.Tuple.tupleExact _) (wpAny_newObj_type (wpAny_pure ⟨_, rfl, wpAny_pure h⟩) htake)
    | exact wpAny_bind (m := Builtin.Tuple.tupleExact _) (wpAny_newObj_type (wpAny_bind (wpAny_pure (wpAny_pure ⟨_, rfl, wpAny_pure h⟩))) htake)
    | exact wpAny_bind (wpAny_bind (m := Builtin.Tuple.tupleExact _) (wpAny_newObj_type (wpAny_pure (wpAny_pure ⟨_, rfl, wpAny_pure h⟩)) htake))
    | exact wpAny_bind (wpAny_bind (m := Builtin.Tuple.tupleExact _) (wpAny_newObj_type (wpAny_pure ⟨_, rfl, wpAny_pure h⟩) htake))
end
end HT
namespace L2
open PySem PySem.Spec PyProof.Rows
noncomputable abbrev TO := St → Hp → (Option Int → Hp → Prop) → Prop
noncomputable def PO (X : Cx) (e : Option Expr) (t : TO) : Prop :=
  ∀ (pins : List (Addr × Obj)) (s : Shared) (σ : St) (H : Hp) (Q : Option Int → Hp → Prop), Inv X pins σ H s → t σ H Q →
    wpAny (model X.prog X.w) X.A (evalPart e X.env) (fun u s' => ∃ o H', Inv X pins σ H' s' ∧ IsPart u o ∧ Q o H') X.xe s
noncomputable abbrev tNoPart : TO := fun _ H Q => Q none H
noncomputable abbrev tPart (t : TE) : TO := fun σ H Q => t σ H fun x H1 => ∃ i, x = .int i ∧ Q (some i) H1
section
variable {X : Cx} {e : Expr} {te : TE} {lo hi : Option Expr} {tl th : TO} {pos p2 : Pos}
theorem po_none : PO X none tNoPart := by
  intro pins s σ H Q I h
  rw [evalPart_none]
  exact wpAny_pure ⟨none, H, I, .none, h⟩
theorem po_some (h : PE X e te) : PO X (some e) (tPart te) := by
  intro pins s σ H Q I hw
  rw [evalPart_some]
  refine thn (h pins s σ H _ I hw) fun u s1 ⟨x, H1, I1, r1, q1⟩ => ?_
  obtain ⟨i, rfl, q⟩ := q1
  obtain ⟨t, rfl⟩ := r1
  exact ⟨some i, H1, I1, .int i t, q⟩
noncomputable def SlR (X : Cx) (r : V → Option Int → Option Int → Hp → VK → Prop) : Prop :=
  ∀ (pins : List (Addr × Obj)) (s : Shared) (σ : St) (H : Hp) (x : V) (v vl vu : Value) (lo hi : Option Int) (sl : Addr) (Q : VK), Inv X pins σ H s → RelV x v → s.heap.IsSliceOf sl vl vu .none → IsPart vl lo → IsPart vu hi → r x lo hi H Q →
    ∃ T id, typeLookup (.type T) "__getitem__" = pure (some (.builtin id)) ∧ s.TypeIs v T ∧ wpAny (model X.prog X.w) X.A (getItem v (.ref sl)) (EP X pins σ Q) X.xe s
noncomputable abbrev tSl (r : V → Option Int → Option Int → Hp → VK → Prop) (te : TE) (tl th : TO) : TE := fun σ H Q => te σ H fun x H1 => tl σ H1 fun l H2 => th σ H2 fun u H3 => r x l u H3 Q
theorem pe_slice {r : V → Option Int → Option Int → Hp → VK → Prop} (hr : SlR X r) (he : PE X e te) (hl : PO X lo tl) (hu : PO X hi th) : PE X (.Subscript e (.Slice lo hi none p2) pos) (tSl r te tl th) := by
  intro pins s σ H Q I h
  refine Subscript_ (thn (he pins s σ H _ I h) fun v s1 ⟨x, H1, I1, r1, q1⟩ => ?_)
  refine wpAny_Slice (thn (hl pins s1 σ H1 _ I1 q1) fun vl s2 ⟨l, H2, I2, pl, q2⟩ => thn (hu pins s2 σ H2 _ I2 q2) fun vu s3 ⟨u, H3, I3, pu, q3⟩ => ?_)
  rw [evalPart_none]
  refine wpAny_pure ?_
  have I4 : Inv X pins σ H3 { s3 with heap := s3.heap.push { cls := .type "slice", data := .fields #[vl, vu, .none] } } := I3.kept (t' := s3.toks) fun b ob q => Heap.get?_push_of_some _ q
  obtain ⟨T, id, hT, ht, hg⟩ := hr pins { s3 with heap := s3.heap.push { cls := .type "slice", data := .fields #[vl, vu, .none] } } σ H3 x v vl vu l u s3.heap.objs.size Q I4 r1 (Heap.IsSliceOf.new ..) pl pu q3
  show wpAny (model X.prog X.w) X.A (subscriptTail e (.Slice lo hi none p2) v (.ref s3.heap.objs.size)) (EP X pins σ Q) X.xe { s3 with heap := s3.heap.push { cls := .type "slice", data := .fields #[vl, vu, .none] } }
  exact tail_any (ops := [.ref s3.heap.objs.size, v]) ht hT hg (by with_unfolding_all rfl)
noncomputable def cutV (xs : List V) (lo hi : Option Int) : List V := (xs.drop (HT.sIx xs.length 0 lo)).take (HT.sIx xs.length xs.length hi - HT.sIx xs.length 0 lo)
theorem cutV_length (xs : List V) (lo hi : Option Int) : (cutV xs lo hi).length ≤ xs.length := by
  unfold cutV
  rw [List.length_take, List.length_drop]
  omega
noncomputable def rSlT (K : PySem.W.Frag) : V → Option Int → Option Int → Hp → VK → Prop := fun x lo hi H Q => ∃ a xs, x = .ref a ∧ SqT K H a xs ∧
  ¬ (HT.sIx xs.length 0 lo = 0 ∧ HT.sIx xs.length xs.length hi = xs.length) ∧ ∀ p, H p = none → Q (.ref p) (upd H p (.tup (cutV xs lo hi)))
theorem sl_tup : SlR X (rSlT X.K) := by
  intro pins s σ H x v vl vu lo hi sl Q I rx hs pl pu h
  obtain ⟨a, xs, rfl, hx, hw, q⟩ := h
  cases rx
  obtain ⟨its, r, ht, hz⟩ := I.tuple hx
  have hlen : its.toArray.size = xs.length := by rw [List.size_toArray]; exact r.length.symm
  refine ⟨"tuple", _, PyProof.Rows.slot_tuple_getitem.lookup, ht.typeIs, ?_⟩
  refine HT.getItem_tuple_cut ht hs pl pu (by rw [hlen]; exact hw) ?_ (by rw [hlen]; exact hz)
  rw [hlen]
  refine ⟨.ref s.heap.objs.size, _, I.laid (t' := s.toks) (o := .tup (cutV xs lo hi)) (fun b ob q => Heap.get?_push_of_some _ q) (Nat.le_refl _) ?_, rfl, q _ (I.hok.fresh (Nat.le_refl _))⟩
  exact ⟨Nat.le_trans (cutV_length xs lo hi) hz, _, (r.drop (HT.sIx xs.length 0 lo)).take (HT.sIx xs.length xs.length hi - HT.sIx xs.length 0 lo), IsTup.new _ _⟩
end
end L2
namespace L2
open PySem PySem.Spec PyProof.Rows
noncomputable def ixN (n : Nat) (i : Int) : Option Nat := if 0 ≤ i then (if i < n then some i.toNat else none) else if -(n : Int) ≤ i then some (i + n).toNat else none
noncomputable def atI {α : Type} (xs : List α) (i : Int) : Option α := (ixN xs.length i).bind fun j => xs[j]?
theorem ixN_seq {n : Nat} {i : Int} {j : Nat} (h : ixN n i = some j) : seqIndex? i n = some j ∧ j < n ∧ -(n : Int) ≤ i ∧ i < n := by
  unfold ixN at h
  by_cases h0 : 0 ≤ i
  · rw [if_pos h0] at h
    by_cases h1 : i < n
    · rw [if_pos h1] at h
      have e : i.toNat = j := Option.some.inj h
      exact ⟨by rw [seqIndex_of h0 h1, e], by omega, by omega, h1⟩
    · rw [if_neg h1] at h; cases h
  · rw [if_neg h0] at h
    by_cases h1 : -(n : Int) ≤ i
    · rw [if_pos h1] at h
      have e : (i + n).toNat = j := Option.some.inj h
      exact ⟨by rw [seqIndex_neg (by omega) h1, e], by omega, h1, by omega⟩
    · rw [if_neg h1] at h; cases h
theorem atI_get {α : Type} {xs : List α} {i : Int} {v : α} (h : atI xs i = some v) : ∃ j, seqIndex? i xs.length = some j ∧ xs[j]? = some v ∧ j < xs.length ∧ -(xs.length : Int) ≤ i ∧ i < xs.length := by
  unfold atI at h
  cases e : ixN xs.length i with
  | none => rw [e] at h; cases h
  | some j =>
    rw [e] at h
    obtain ⟨h1, h2, h3, h4⟩ := ixN_seq e
    exact ⟨j, h1, h, h2, h3, h4⟩
theorem atI_nat {α : Type} {xs : List α} {j : Nat} {v : α} (h : xs[j]? = some v) : atI xs (j : Int) = some v := by
  have hj : j < xs.length := (List.getElem?_eq_some_iff.mp h).1
  have e : ixN xs.length (j : Int) = some j := by
    unfold ixN
    rw [if_pos (by omega), if_pos (by omega)]; simp
  unfold atI; rw [e]; exact h
noncomputable def PlainIx (b : Expr) : Prop := ∀ o i, subscripted b false o i = operate [o, i] (getItem o i)
noncomputable def IxR (X : Cx) (r : R2) : Prop :=
  ∀ (value slice : Expr) (pins : List (Addr × Obj)) (s : Shared) (σ : St) (H : Hp) (x y : V) (v u : Value) (Q : VK), Inv X pins σ H s → RelV x v → RelV y u → r x y H Q →
    subscripted slice false v u = operate [v, u] (getItem v u) → wpAny (model X.prog X.w) X.A (subscriptTail value slice v u) (EP X pins σ Q) X.xe s
noncomputable def MtR (X : Cx) (id : String) (r : V → List V → Hp → VK → Prop) : Prop :=
  ∀ (pins : List (Addr × Obj)) (s : Shared) (σ : St) (H : Hp) (x : V) (xs : List V) (v : Value) (us : List Value) (Q : VK), Inv X pins σ H s → RelV x v → Vals xs us → r x xs H Q →
    wpAny (model X.prog X.w) X.A (call (.builtin id) (v :: us)) (EP X pins σ Q) X.xe s
section
variable {X : Cx} {a b : Expr} {ta tb : TE} {pos : Pos}
theorem pe_ix {r : R2} (hr : IxR X r) (ha : PE X a ta) (hb : PE X b tb) (hs : PlainIx b) : PE X (.Subscript a b pos) (tOp r ta tb) := by
  intro pins s σ H Q I h
  exact Subscript_ (binT ha hb I h fun v u s2 x y H2 I2 rx ry q => hr a b pins s2 σ H2 x y v u Q I2 rx ry q (hs _ _))
noncomputable def rIxL (K : PySem.W.Frag) : R2 := fun x y H Q => ∃ p xs i v, x = .ref p ∧ y = .int i ∧ SqL K H p xs ∧ atI xs i = some v ∧ Q v H
noncomputable def rIxT (K : PySem.W.Frag) : R2 := fun x y H Q => ∃ p xs i v, x = .ref p ∧ y = .int i ∧ SqT K H p xs ∧ atI xs i = some v ∧ Q v H
noncomputable def rIxS : R2 := fun x y H Q => ∃ z i c, x = .str z ∧ y = .int i ∧ z.length ≤ sizeLine ∧ atI z.cps.toList i = some c ∧ Q (.str ⟨#[c]⟩) H
theorem ix_list : IxR X (rIxL X.K) := by
  intro value slice pins s σ H x y v u Q I rx ry h hs
  obtain ⟨p, xs, i, z, rfl, rfl, hq, he, q⟩ := h
  cases rx
  obtain ⟨t, rfl⟩ := ry
  obtain ⟨its, r, pl, hz⟩ := I.list hq
  obtain ⟨j, h1, h2, h3, h4, h5⟩ := atI_get he
  obtain ⟨w, ew, rw'⟩ := r.get h2
  have hl := r.length
  have hn := line63
  have fin : EP X pins σ Q w s := ⟨z, H, I, rw', q⟩
  by_cases h0 : 0 ≤ i
  · have hj : i.toNat = j := by
      rw [seqIndex_of h0 h5] at h1
      exact Option.some.inj h1
    exact item_listR pl.isList h0 (by omega) (by rw [hj]; simpa using ew) fin hs
  · have hj : (i + (its.toArray.size : Int)).toNat = j := by
      rw [seqIndex_neg (by omega) h4] at h1
      rw [List.size_toArray, ← hl]
      exact Option.some.inj h1
    exact subscriptTail_builtinR (x := w) pl.isList.typeIs slot_list_getitem.lookup
      (wpAny_getItem_list_neg (Q := fun r s' => r = w ∧ EP X pins σ Q r s') pl.isList (by omega) (by rw [List.size_toArray] <;> omega) (by omega) (by rw [hj]; simpa using ew) ⟨rfl, fin⟩) hs
theorem ix_tup : IxR X (rIxT X.K) := by
  intro value slice pins s σ H x y v u Q I rx ry h hs
  obtain ⟨p, xs, i, z, rfl, rfl, hq, he, q⟩ := h
  cases rx
  obtain ⟨t, rfl⟩ := ry
  obtain ⟨its, r, pl, hz⟩ := I.tuple hq
  obtain ⟨j, h1, h2, h3, h4, h5⟩ := atI_get he
  obtain ⟨w, ew, rw'⟩ := r.get h2
  have hl := r.length
  have hn := line63
  have fin : EP X pins σ Q w s := ⟨z, H, I, rw', q⟩
  exact subscriptTail_builtinR (x := w) pl.typeIs slot_tuple_getitem.lookup
    (getItem_tuple (j := j) (Q := fun r s' => r = w ∧ EP X pins σ Q r s') pl (by omega) (by omega) (by rw [List.size_toArray, ← hl]; exact h1) (by simpa using ew) ⟨rfl, fin⟩) hs
theorem ix_str : IxR X rIxS := by
  intro value slice pins s σ H x y v u Q I rx ry h hs
  obtain ⟨z, i, c, rfl, rfl, hz, he, q⟩ := h
  obtain ⟨t, rfl⟩ := rx
  obtain ⟨t', rfl⟩ := ry
  obtain ⟨j, h1, h2, h3, h4, h5⟩ := atI_get he
  have hl : z.cps.toList.length = z.length := by simp [Str.length]
  rw [hl] at h1 h4 h5
  have hn := line63
  exact tail_any (typeIs_str s z t) slot_str_getitem.lookup (getItem_str (c := c) (by
    have e1 : decide (i < -(2 ^ 63 : Int)) = false := decide_eq_false (by omega)
    have e2 : decide (i ≥ 2 ^ 63) = false := decide_eq_false (by omega)
    rw [e1, e2, Bool.or_false]) (by rw [h1]; simpa using h2) ⟨.str ⟨#[c]⟩, H, I.tok _, ⟨_, rfl⟩, q⟩) hs
theorem mapSeq_set (its : List Value) (n j : Nat) (u : Value) : Obj.mapSeq (·.setIfInBounds j u) { cls := .type "list", data := .seq its.toArray n } = { cls := .type "list", data := .seq (its.set j u).toArray n } := by
  simp [Obj.mapSeq]
theorem Inv.lst {pins : List (Addr × Obj)} {σ : St} {H : Hp} {s : Shared} {p : Addr} {xs : List V} (I : Inv X pins σ H s) (h : H p = some (.lst xs)) :
    ∃ (its : List Value) (n : Nat), Vals xs its ∧ s.heap.get? p = some { cls := .type "list", data := .seq its.toArray n } ∧ xs.length ≤ sizeLine := by
  obtain ⟨z, its, n, r, e⟩ := I.hok p _ h
  exact ⟨its, n, r, e, z⟩
theorem Inv.lstUpd {pins : List (Addr × Obj)} {σ : St} {H : Hp} {s : Shared} {p : Addr} {xs ys : List V} {its its' : List Value} {n n' : Nat} {f : Obj → Obj} (I : Inv X pins σ H s) (h : H p = some (.lst xs))
    (ho : s.heap.get? p = some { cls := .type "list", data := .seq its.toArray n }) (hf : f { cls := .type "list", data := .seq its.toArray n } = { cls := .type "list", data := .seq its'.toArray n' }) (r : Vals ys its') (hz : ys.length ≤ sizeLine) (t : Nat) :
    Inv X pins σ (upd H p (.lst ys)) { s with heap := s.heap.update p f, toks := t } := by
  have e : (s.heap.update p f).get? p = some { cls := .type "list", data := .seq its'.toArray n' } := by
    rw [Heap.get?_update_self f ho (by rw [hf] <;> rfl), hf]
  refine I.write (x := p) (e := p) (by rw [h]; trivial) (.inl rfl) (fun b u hb q => (Heap.get?_update_other _ _ (Ne.symm hb)).trans q) ⟨_, e⟩ ?_
  exact ⟨hz, its', n', r, e⟩
noncomputable def rSetL : V → V → V → Hp → (Hp → Prop) → Prop := fun o i v H Q => ∃ p xs k j, o = .ref p ∧ i = .int k ∧ H p = some (.lst xs) ∧ ixN xs.length k = some j ∧ Q (upd H p (.lst (xs.set j v)))
theorem set_list : PSet X rSetL := by
  intro pins s σ H o i v ov iv u Q I ro ri rv h
  obtain ⟨p, xs, k, j, rfl, rfl, hp, hj, q⟩ := h
  cases ro
  obtain ⟨t, rfl⟩ := ri
  obtain ⟨its, n, r, ho, hz⟩ := I.lst hp
  obtain ⟨h1, h2, h3, h4⟩ := ixN_seq hj
  have hl := r.length
  have hn := line63
  have I' : Inv X pins σ (upd H p (.lst (xs.set j v))) { s with heap := s.heap.update p (Obj.mapSeq (·.setIfInBounds j u)) } :=
    I.lstUpd hp ho (mapSeq_set its n j u) (r.set rv j) (by rw [List.length_set]; exact hz) s.toks
  by_cases h0 : 0 ≤ k
  · have hk : k.toNat = j := by
      rw [seqIndex_of h0 h4] at h1
      exact Option.some.inj h1
    exact PySem.W.ki_setAt ho h0 (by omega) (by rw [List.size_toArray, ← hl]; exact h4) (by rw [hk]; exact ⟨_, I', q⟩)
  · have hk : (k + (its.toArray.size : Int)).toNat = j := by
      rw [seqIndex_neg (by omega) h3] at h1
      rw [List.size_toArray, ← hl]
      exact Option.some.inj h1
    exact PySem.W.ki_setBack ho (by omega) (by rw [List.size_toArray, ← hl]; exact h3) (by omega) (by rw [hk]; exact ⟨_, I', q⟩)
theorem slice_bounds (lo hi : Option Int) (n : Nat) : (sliceBounds lo hi none n).1 = ((HT.sIx n 0 lo : Nat) : Int) ∧ (sliceBounds lo hi none n).2.1 = ((HT.sIx n n hi : Nat) : Int) ∧ (sliceBounds lo hi none n).2.2 = 1 := by
  refine ⟨?_, ?_, rfl⟩
  · cases lo with
    | none => simp [sliceBounds, HT.sIx]
    | some i =>
      simp only [sliceBounds, HT.sIx, Option.getD_none, show (1 : Int) > 0 by decide, if_true]
      by_cases h : i < 0
      · simp only [h, if_true] <;> omega
      · simp only [h, if_false] <;> omega
  · cases hi with
    | none => simp [sliceBounds, HT.sIx]
    | some i =>
      simp only [sliceBounds, HT.sIx, Option.getD_none, show (1 : Int) > 0 by decide, if_true]
      by_cases h : i < 0
      · simp only [h, if_true] <;> omega
      · simp only [h, if_false] <;> omega
theorem slicePick_cut (its : List Value) (lo hi : Option Int) : slicePick its.toArray lo hi none = ((its.drop (HT.sIx its.length 0 lo)).take (HT.sIx its.length its.length hi - HT.sIx its.length 0 lo)).toArray := by
  obtain ⟨h1, h2, h3⟩ := slice_bounds lo hi its.toArray.size
  unfold slicePick
  rw [h1, h2, h3]
  simp only [sliceRange_one, pick_run, List.size_toArray] <;> rfl
noncomputable def rSlL (K : PySem.W.Frag) : V → Option Int → Option Int → Hp → VK → Prop := fun x lo hi H Q => ∃ a xs, x = .ref a ∧ SqL K H a xs ∧ ∀ p, H p = none → Q (.ref p) (upd H p (.lst (cutV xs lo hi)))
theorem sl_list : SlR X (rSlL X.K) := by
  intro pins s σ H x v vl vu lo hi sl Q I rx hs pl pu h
  obtain ⟨a, xs, rfl, hx, q⟩ := h
  cases rx
  obtain ⟨its, r, ht, hz⟩ := I.list hx
  have hlen := r.length
  refine ⟨"list", _, slot_list_getitem.lookup, ht.isList.typeIs, ?_⟩
  refine wpAny_getItem_list_slice ht.isList hs pl pu .none (by simp) ?_ (by rw [List.size_toArray] <;> omega)
  rw [slicePick_cut, ← hlen]
  refine ⟨.ref s.heap.objs.size, _, I.laid (t' := s.toks) (o := .lst (cutV xs lo hi)) (fun b ob q => Heap.get?_push_of_some _ q) (Nat.le_refl _) ?_, rfl, q _ (I.hok.fresh (Nat.le_refl _))⟩
  exact ⟨Nat.le_trans (cutV_length xs lo hi) hz, _, 0, (r.drop (HT.sIx xs.length 0 lo)).take (HT.sIx xs.length xs.length hi - HT.sIx xs.length 0 lo), Heap.get?_push_size _ rfl⟩
noncomputable def flatV : V → Bool
  | .non => true
  | .bl _ => true
  | .int _ => true
  | .str _ => true
  | _ => false
noncomputable def eqV : V → V → Bool
  | .non, .non => true
  | .bl a, .bl b => a == b
  | .bl a, .int b => (if a then 1 else 0) == b
  | .int a, .bl b => a == (if b then 1 else 0)
  | .int a, .int b => a == b
  | .str a, .str b => a == b
  | _, _ => false
theorem call_len_seq : CallR X (.builtin "len") (fun xs H Q => ∃ p ys, xs = [.ref p] ∧ (SqL X.K H p ys ∨ SqT X.K H p ys) ∧ Q (.int ys.length) H) := by
  intro pins s σ H xs us Q I r h
  obtain ⟨p, ys, rfl, hq, q⟩ := h
  obtain ⟨u, rfl, rx⟩ := vals1 r
  cases rx
  have hn := line63
  rcases hq with hq | hq
  · obtain ⟨its, r', pl, hz⟩ := I.list hq
    have hlen := r'.length
    exact Calls.call_len_list pl.isList (by simp only [List.size_toArray] <;> omega) ⟨.int ys.length, H, I.tok _, ⟨s.toks + 1, by rw [List.size_toArray, hlen]⟩, q⟩
  · obtain ⟨its, r', pl, hz⟩ := I.tuple hq
    have hlen := r'.length
    exact len_tuple pl (by simp only [List.size_toArray] <;> omega) ⟨.int ys.length, H, I.tok _, ⟨s.toks + 1, by rw [List.size_toArray, hlen]⟩, q⟩
theorem call_len_str : CallR X (.builtin "len") (fun xs H Q => ∃ z, xs = [.str z] ∧ z.length ≤ sizeLine ∧ Q (.int z.length) H) := by
  intro pins s σ H xs us Q I r h
  obtain ⟨z, rfl, hz, q⟩ := h
  obtain ⟨u, rfl, t, rfl⟩ := vals1 r
  have hn := line63
  exact len_str (by omega) ⟨.int z.length, H, I.tok _, ⟨_, rfl⟩, q⟩
theorem call_list_of : CallR X (.type "list") (fun xs H Q => ∃ p ys, xs = [.ref p] ∧ (SqL X.K H p ys ∨ SqT X.K H p ys) ∧ ∀ l, H l = none → Q (.ref l) (upd H l (.lst ys))) := by
  intro pins s σ H xs us Q I r h
  obtain ⟨p, ys, rfl, hq, q⟩ := h
  obtain ⟨u, rfl, rx⟩ := vals1 r
  cases rx
  have fin : ∀ (its : List Value), Vals ys its → ys.length ≤ sizeLine → ∀ (h' : Heap) (c' : Nat), (∀ b o', s.heap.get? b = some o' → h'.get? b = some o') →
      h'.get? s.heap.objs.size = some { cls := .type "list", dict := none, data := .seq its.toArray c', slots := #[] } → EP X pins σ Q (.ref s.heap.objs.size) { s with heap := h' } := fun its r' hz h' c' kp e =>
    ⟨.ref s.heap.objs.size, _, I.laid (t' := s.toks) kp (Nat.le_refl _) (show ObjOk X.prog X.w _ h' _ (.lst ys) from ⟨hz, its, c', r', e⟩), rfl, q _ (I.hok.fresh (Nat.le_refl _))⟩
  rcases hq with hq | hq
  · obtain ⟨its, r', pl, hz⟩ := I.list hq
    have hlen := r'.length
    obtain ⟨o, ho, hc, n, hd⟩ := pl.isList
    exact call_list_seq p (.inl rfl) ho hc hd (fun h' c' kp e => fin its r' hz h' c' kp e) (by simp only [List.size_toArray] <;> omega)
  · obtain ⟨its, r', pl, hz⟩ := I.tuple hq
    have hlen := r'.length
    obtain ⟨o, ho, hc, n, hd⟩ := pl
    exact call_list_seq p (.inr rfl) ho hc hd (fun h' c' kp e => fin its r' hz h' c' kp e) (by simp only [List.size_toArray] <;> omega)
noncomputable def tyV (K : PySem.W.Frag) (T : String) (x : V) (H : Hp) : Prop := match x with
  | .str _ => T = "str"
  | .int _ => T = "int"
  | .ref p => (T = "list" ∧ ∃ xs, SqL K H p xs) ∨ (T = "tuple" ∧ ∃ o, K.lookup p = some o ∧ o.cls = .type "tuple" ∧ o.dict = none) ∨
      (T = "dict" ∧ ((∃ kvs, H p = some (.dK kvs)) ∨ ∃ kvs, H p = some (.dT kvs))) ∨ (T = "set" ∧ ∃ S n, H p = some (.set S n))
  | _ => False
theorem tyV_is {pins : List (Addr × Obj)} {σ : St} {H : Hp} {s : Shared} {T : String} {x : V} {v : Value} (I : Inv X pins σ H s) (r : RelV x v) (ty : tyV X.K T x H) :
    s.TypeIs v T ∧ ∀ a, v = .ref a → ∃ ob, s.heap.get? a = some ob ∧ ob.dict = none := by
  cases x with
  | str z =>
    obtain ⟨t, rfl⟩ := r
    cases (show T = "str" from ty)
    exact ⟨typeIs_str s z t, fun _ e => nomatch e⟩
  | int i =>
    obtain ⟨t, rfl⟩ := r
    cases (show T = "int" from ty)
    exact ⟨typeIs_int s i t, fun _ e => nomatch e⟩
  | ref p =>
    cases r
    rcases ty with ⟨rfl, xs, hq⟩ | ⟨rfl, o, hk, hc, hd⟩ | ⟨rfl, hk⟩ | ⟨rfl, S, n, hk⟩
    · obtain ⟨its, _, pl, _⟩ := I.list hq
      refine ⟨pl.isList.typeIs, fun a e => ?_⟩
      cases e
      obtain ⟨o, n, e, c, hd, _⟩ := pl
      exact ⟨o, e, hd⟩
    · refine ⟨⟨o, I.kIn p o hk, hc⟩, fun a e => ?_⟩
      cases e
      exact ⟨o, I.kIn _ o hk, hd⟩
    · have z : ∃ o, s.heap.get? p = some o ∧ o.ExactDict := by
        rcases hk with ⟨kvs, hk⟩ | ⟨kvs, hk⟩
        · obtain ⟨_, _, _, _, o, _, _, e, ex, _⟩ := I.hok p _ hk
          exact ⟨o, e, ex⟩
        · obtain ⟨_, _, _, _, o, _, _, e, ex, _⟩ := I.hok p _ hk
          exact ⟨o, e, ex⟩
      obtain ⟨o, e, ex⟩ := z
      refine ⟨⟨o, e, ex.1⟩, fun a e2 => ?_⟩
      cases e2
      exact ⟨o, e, ex.2.1⟩
    · obtain ⟨o, _, _, _, e, ex, _⟩ := I.hok p _ hk
      refine ⟨⟨o, e, ex.1⟩, fun a e2 => ?_⟩
      cases e2
      exact ⟨o, e, ex.2.1⟩
  | _ => exact False.elim ty
noncomputable abbrev tBM0 (K : PySem.W.Frag) (T : String) (r : V → List V → Hp → VK → Prop) (to : TE) : TE := fun σ H Q => to σ H fun x H1 => tyV K T x H1 ∧ r x [] H1 Q
noncomputable abbrev tBM (K : PySem.W.Frag) (T : String) (r : V → List V → Hp → VK → Prop) (to : TE) (t : TA) : TE := fun σ H Q => to σ H fun x H1 => tyV K T x H1 ∧ t σ H1 fun xs H2 => r x xs H2 Q
variable {o e : Expr} {es : List Expr} {to : TE} {t : TA} {name : Str} {apos cpos : Pos} {T id : String} {r : V → List V → Hp → VK → Prop}
theorem pe_bm0 (pa : PlainAttrs T) (slot : Slot T name id) (hty : typeOf (.builtin id) = pure (.type "method_descriptor")) (hm : MtR X id r) (ho : PE X o to)
    (hbase : attributeBase o name X.env (eval o X.env) = eval o X.env := by rfl) (hline : (apos.endLine == cpos.line) = true := by rfl) : PE X (.Call (.Attribute o name apos) [] [] cpos) (tBM0 X.K T r to) := by
  intro pins s σ H Q I h
  refine wpAny_Call_method0_late hbase hline (thn (ho pins s σ H _ I h) fun v s1 ⟨x, H1, I1, r1, ty, q1⟩ => ?_)
  obtain ⟨h1, h2⟩ := tyV_is I1 r1 ty
  exact ⟨T, id, pa, slot, hty, h1, h2, Calls.callWith_builtin rfl (PySem.evalArgs_none (hm pins s1 σ H1 x [] v [] Q I1 r1 .nil q1))⟩
theorem pe_bm (pa : PlainAttrs T) (slot : Slot T name id) (hty : typeOf (.builtin id) = pure (.type "method_descriptor")) (hm : MtR X id r) (ho : PE X o to) (ha : PA X (e :: es) t)
    (hbase : attributeBase o name X.env (eval o X.env) = eval o X.env := by rfl)
    (hfew : ((backTo cpos (starEach (e :: es) X.env)).all (fun x => !x.1) && (backToKw cpos (keywordEach [] X.env)).all (fun x => x.1.isSome)
      && decide ((e :: es).length + ([] : List Keyword).length + (if ([] : List Keyword).isEmpty then 0 else 1) < 30)) = true := by rfl)
    (hline : (apos.endLine == cpos.line) = true := by rfl) (hs : starEach (e :: es) X.env = (false, eval e X.env) :: starEach es X.env := by rfl) (hplain : (backTo cpos (starEach es X.env)).any (·.1) = false := by rfl) :
    PE X (.Call (.Attribute o name apos) (e :: es) [] cpos) (tBM X.K T r to t) := by
  intro pins s σ H Q I h
  refine wpAny_Call_method_late hbase hfew hline rfl (thn (ho pins s σ H _ I h) fun v s1 ⟨x, H1, I1, r1, ty, q1⟩ => ?_)
  obtain ⟨h1, h2⟩ := tyV_is I1 r1 ty
  refine ⟨T, id, pa, slot, hty, h1, h2, ?_⟩
  have hA := ha cpos pins s1 σ H1 _ I1 q1
  rw [hs] at hA ⊢
  refine Calls.callWith_builtin (by show (false || (backTo cpos (starEach es X.env)).any (·.1)) = false; rw [hplain] <;> rfl) (Calls.evalArgs_plain ?_)
  exact thn hA fun us s2 ⟨vs, H2, I2, r2, q2⟩ => hm pins s2 σ H2 x vs v us Q I2 r1 r2 q2
end
end L2
namespace L2
open PySem PySem.Spec PyProof.Rows
noncomputable def MtM (X : Cx) (id : String) (r : V → List V → Hp → VK → Prop) : Prop :=
  ∀ (pins : List (Addr × Obj)) (s : Shared) (σ : St) (H : Hp) (x : V) (xs : List V) (v : Value) (us : List Value) (Q : VK), Inv X pins σ H s → RelV x v → Vals xs us → r x xs H Q →
    wpAny (model X.prog X.w) X.A (call (.builtin id) (v :: us)) (EP X pins σ Q) X.xe s
theorem Vals.one : ∀ {x : V} {us : List Value}, Vals [x] us → ∃ u, us = [u] ∧ RelV x u
  | _, _, .cons r .nil => ⟨_, rfl, r⟩
theorem Vals.two : ∀ {x y : V} {us : List Value}, Vals [x, y] us → ∃ u v, us = [u, v] ∧ RelV x u ∧ RelV y v
  | _, _, _, .cons r (.cons q .nil) => ⟨_, _, rfl, r, q⟩
theorem Vals.zero : ∀ {us : List Value}, Vals [] us → us = []
  | _, .nil => rfl
theorem Vals.dropLast {xs : List V} {us : List Value} (h : Vals xs us) : Vals xs.dropLast us.dropLast := by
  induction h with
  | nil => exact .nil
  | cons r t ih =>
    cases t with
    | nil => exact .nil
    | cons q t' => exact .cons r ih
theorem Vals.eraseIdx : ∀ {xs : List V} {us : List Value} (i : Nat), Vals xs us → Vals (xs.eraseIdx i) (us.eraseIdx i)
  | _, _, _, .nil => .nil
  | _, _, 0, .cons _ t => t
  | _, _, i + 1, .cons r t => .cons r (Vals.eraseIdx i t)
theorem Vals.reverse {xs : List V} {us : List Value} (h : Vals xs us) : Vals xs.reverse us.reverse := by
  induction h with
  | nil => exact .nil
  | cons r t ih => rw [List.reverse_cons, List.reverse_cons]; exact Vals.append ih (.cons r .nil)
theorem Vals.rep {xs : List V} {us : List Value} (h : Vals xs us) : ∀ k : Nat, Vals (List.replicate k xs).flatten (List.replicate k us).flatten
  | 0 => .nil
  | k + 1 => by
    rw [List.replicate_succ, List.replicate_succ, List.flatten_cons, List.flatten_cons]
    exact Vals.append h (Vals.rep h k)
theorem erase_last {α : Type} (l : List α) : l.eraseIdx (l.length - 1) = l.dropLast := by
  induction l with
  | nil => rfl
  | cons a r ih =>
    cases r with
    | nil => rfl
    | cons b r =>
      have e : (a :: b :: r).length - 1 = ((b :: r).length - 1) + 1 := by
        have h1 : (a :: b :: r).length = r.length + 2 := rfl
        have h2 : (b :: r).length = r.length + 1 := rfl
        omega
      rw [e, List.eraseIdx_cons_succ, ih]
      all_goals rfl
theorem foldl_rep (its : List Value) : ∀ (k : Nat) (acc : List Value),
    List.foldl (fun x1 x2 => x1 ++ x2) acc.toArray (List.replicate k its.toArray) = (acc ++ (List.replicate k its).flatten).toArray
  | 0, acc => by simp
  | k + 1, acc => by
    have e : acc.toArray ++ its.toArray = (acc ++ its).toArray := by simp
    have e2 : (acc ++ its) ++ (List.replicate k its).flatten = acc ++ (List.replicate (k + 1) its).flatten := by
      rw [List.replicate_succ, List.flatten_cons, List.append_assoc]
    rw [← e2, ← foldl_rep its k (acc ++ its), ← e, List.replicate_succ, List.foldl_cons]
section
variable {X : Cx} {pins : List (Addr × Obj)} {σ : St} {H : Hp} {s : Shared} {l b : Addr} {xs ys zs : List V}
theorem Inv.lset {its its' : List Value} {n : Nat} {f : Array Value → Array Value} {t' : Nat} (I : Inv X pins σ H s) (hH : H l = some (.lst xs))
    (e : s.heap.get? l = some { cls := .type "list", data := .seq its.toArray n }) (hf : f its.toArray = its'.toArray) (hv : Vals ys its') (hz : ys.length ≤ sizeLine) :
    Inv X pins σ (upd H l (.lst ys)) { s with heap := s.heap.update l (Obj.mapSeq f), toks := t' } := by
  have q := PySem.IsL.update e f
  rw [hf] at q
  refine I.write (x := l) (e := l) (by rw [hH]; exact trivial) (.inl rfl) (fun b' u hb hu => (Heap.get?_update_other s.heap (Obj.mapSeq f) (Ne.symm hb)).trans hu) ⟨_, q⟩ ?_
  exact ⟨hz, its', _, hv, q⟩
theorem Inv.lnew {its : List Value} {t' : Nat} (I : Inv X pins σ H s) (hv : Vals ys its) (hz : ys.length ≤ sizeLine) :
    Inv X pins σ (upd H s.heap.objs.size (.lst ys)) { s with heap := s.heap.push { cls := .type "list", data := .seq its.toArray }, toks := t' } :=
  I.laid (fun _ _ q => Heap.get?_push_of_some _ q) (Nat.le_refl _) ⟨hz, its, 0, hv, Heap.get?_push_size _ rfl⟩
theorem Inv.fresh (I : Inv X pins σ H s) : H s.heap.objs.size = none := I.hok.fresh (Nat.le_refl _)
theorem Inv.lstM (I : Inv X pins σ H s) (hH : H l = some (.lst xs)) : xs.length ≤ sizeLine ∧ ∃ (its : List Value) (n : Nat), Vals xs its ∧ xs.length = its.length ∧ s.heap.get? l = some { cls := .type "list", data := .seq its.toArray n } := by
  obtain ⟨z, its, n, r, e⟩ := I.hok l _ hH
  exact ⟨z, its, n, r, r.length, e⟩
theorem notLongL {n : Nat} (h : n ≤ sizeLine) : Builtin.List.listTooLong n = false := by
  unfold Builtin.List.listTooLong
  exact decide_eq_false (by omega)
end
section
variable {X : Cx}
noncomputable def rAppend : V → List V → Hp → VK → Prop := fun x vs H Q => ∃ l xs y, x = .ref l ∧ vs = [y] ∧ H l = some (.lst xs) ∧ xs.length < sizeLine ∧ Q .non (upd H l (.lst (xs ++ [y])))
theorem mt_append : MtM X "list.append" rAppend := by
  intro pins s σ H x vs v us Q I rx rv h
  obtain ⟨l, xs, y, rfl, rfl, hH, hz, q⟩ := h
  cases rx
  obtain ⟨u, rfl, ru⟩ := rv.one
  obtain ⟨z, its, n, r, hl, e⟩ := I.lstM hH
  refine call_meets F.slot_list_append ⟨_, e, rfl⟩ F.entry_list_append (F.args_list_append_2 _ _) (PySem.list_append l its.toArray n u (by rw [List.size_toArray]; omega)) ⟨e, ?_⟩
  refine ⟨.non, _, I.lset (its' := its ++ [u]) hH e (by simp) (r.append (.cons ru .nil)) ?_, rfl, q⟩
  rw [List.length_append, List.length_singleton]
  omega
noncomputable def rPop : V → List V → Hp → VK → Prop := fun x vs H Q => ∃ l xs y, x = .ref l ∧ vs = [] ∧ H l = some (.lst xs) ∧ xs[xs.length - 1]? = some y ∧ Q y (upd H l (.lst xs.dropLast))
theorem mt_pop : MtM X "list.pop" rPop := by
  intro pins s σ H x vs v us Q I rx rv h
  obtain ⟨l, xs, y, rfl, rfl, hH, hy, q⟩ := h
  cases rx
  have hus := rv.zero
  subst hus
  obtain ⟨z, its, n, r, hl, e⟩ := I.lstM hH
  obtain ⟨u, hu, ru⟩ := r.get hy
  have hy' : its.toArray[its.toArray.size - 1]? = some u := by
    show its.toArray[its.length - 1]? = some u
    rw [← Array.getElem?_toList, ← hl]
    exact hu
  refine call_meets F.slot_list_pop ⟨_, e, rfl⟩ F.entry_list_pop (F.args_list_pop_1 _) (MeetsSeq.list_pop_last l its.toArray n u hy' (by rw [List.size_toArray]; omega)) ⟨e, ?_⟩
  refine ⟨y, _, I.lset (its' := its.dropLast) hH e ?_ r.dropLast ?_, ru, q⟩
  · show its.toArray.eraseIdxIfInBounds (its.toArray.size - 1) = its.dropLast.toArray
    rw [List.size_toArray, List.eraseIdxIfInBounds_toArray, erase_last]
  · rw [List.length_dropLast]
    omega
noncomputable def rRep : R2 := fun x y H Q => ∃ l k xs, x = .ref l ∧ y = .int k ∧ H l = some (.lst xs) ∧ -(2 ^ 63) ≤ k ∧ k < 2 ^ 63 ∧ xs.length * k.toNat ≤ sizeLine ∧
  ∀ p, H p = none → Q (.ref p) (upd H p (.lst (List.replicate k.toNat xs).flatten))
theorem len_rep {α : Type} (xs : List α) (k : Nat) : (List.replicate k xs).flatten.length = k * xs.length := by
  induction k with
  | zero => simp
  | succ k ih => rw [List.replicate_succ, List.flatten_cons, List.length_append, ih, Nat.succ_mul, Nat.add_comm]
theorem op_rep : OpR X (binaryOp .Mult) rRep := by
  intro pins s σ H x y v u Q I rx ry h
  obtain ⟨l, k, xs, rfl, rfl, hH, h1, h2, hz, q⟩ := h
  cases rx
  obtain ⟨t, rfl⟩ := ry
  obtain ⟨z, its, n, r, hl, e⟩ := I.lstM hH
  have hlen : its.toArray.size * k.toNat ≤ sizeLine := by rw [List.size_toArray, ← hl]; exact hz
  have hcap : ¬ its.toArray.size * k.toNat > (2 ^ 63 - 1) / 8 := by
    have : (sizeLine : Nat) ≤ (2 ^ 63 - 1) / 8 := by decide
    omega
  have hfit : ¬ (!Builtin.List.listFitsIndex k) = true := by
    rw [fitsIndex_both h1 h2]
    exact Bool.false_ne_true
  have hlong : ¬ Builtin.List.listTooLong (its.toArray.size * k.toNat) = true := by
    rw [notLongL hlen]
    exact Bool.false_ne_true
  have hnew : List.foldl (fun x1 x2 => x1 ++ x2) #[] (List.replicate (if its.toArray.isEmpty = true then 0 else k.toNat) its.toArray) = (List.replicate k.toNat its).flatten.toArray := by
    have f0 : ∀ m : Nat, List.foldl (fun x1 x2 => x1 ++ x2) #[] (List.replicate m its.toArray) = (List.replicate m its).flatten.toArray := fun m => by
      have := foldl_rep its m []
      rw [List.nil_append] at this
      exact this
    rw [f0]
    cases its with
    | nil => simp
    | cons a r' => rw [if_neg (by simp)]
  refine wpAny_binaryOp_repeat_ref (T := "list") (U := "int") (by decide) ⟨_, e, rfl⟩ (fun s' => typeIs_int s' k t) noFill_list_mul F.fills_int_mul F.slot_int_rmul repeat_list F.slot_int_index.lookup
    (call_meets F.slot_int_rmul (typeIs_int s k t) F.entry_int_rmul (F.args_int_rmul_2 _ _) (int___rmul___int_list k t l its.toArray n)
      ⟨e, rfl, ⟨_, e, rfl⟩, call_meets F.slot_list_mul ⟨_, e, rfl⟩ F.entry_list_mul (F.args_list_mul_2 _ _) (AutoListH.list___mul___list_int_3 l its.toArray n k t hfit hcap hlong) ⟨e, ?_⟩⟩)
  rw [hnew]
  exact ⟨.ref _, _, I.lnew (t' := s.toks) (r.rep k.toNat) (by rw [len_rep, Nat.mul_comm]; exact hz), rfl, q _ I.fresh⟩
end
section
variable {prog : Program} {w : World} {A : Around} {E : Value → Shared → Prop} {s : Shared}
end
section
variable {X : Cx}
end
end L2
namespace Att
open PySem PySem.W PySem.Calls PyProof.Rows
theorem ints_of_wellAll {P : Params} {h : Heap} : ∀ (ns : List Int) (vs : List Value), WellAll P h vs (ns.map WData.int) → IntsAre vs ns := by
  intro ns
  induction ns with
  | nil =>
    intro vs w
    rw [List.map_nil] at w
    cases w
    exact .nil
  | cons n ns ih =>
    intro vs w
    rw [List.map_cons] at w
    cases w with
    | cons a b =>
      cases a
      exact .cons _ _ (ih _ b)
theorem script_of {l : OpenLaw} {n : Nat} (hn : l.most = some n) {P : Params} {h : Heap} {args : List WData} {vals : List Value}
    (hpre : l.row.toRowW.claim.pre args = true) (hwl : WellAll P h vals args) :
    ∃ a vs ns, vals = [Value.ref a] ∧ args = [WData.list (ns.map WData.int)] ∧ h.get? a = some { cls := .type "list", data := .seq vs.toArray } ∧ IntsAre vs ns ∧ ns.length ≤ n := by
  have hsh : WShape.hasAll [] args [.list .int] = true := (pre_splitW hpre).1
  have hc : l.pre.holds [] { args := args } = true := (pre_splitW hpre).2
  obtain ⟨d, r, rfl, h1, h2⟩ := hasAllW_cons hsh
  obtain rfl := hasAllW_nil h2
  obtain ⟨xs, rfl, h3⟩ := hasW_list h1
  obtain ⟨ns, rfl⟩ := items_int h3
  have hlen : ns.length ≤ n := by
    unfold OpenLaw.pre at hc
    have h4 : (WTm.not (.lt (.lit (.int (n : Int))) (.len (.arg 0)))).holds [] { args := [.list (ns.map .int)] } = true := by
      have h4 := (holds_andW hc).1
      rw [hn] at h4
      exact h4
    have h5 := condW_of h4 (w_not (w_lt w_lit (w_len_list (w_arg rfl))))
    rw [List.length_map] at h5
    refine Nat.le_of_not_lt fun q => ?_
    have q' : (n : Int) < ((ns.length : Nat) : Int) := by omega
    first
      | (rw [decide_eq_true q'] at h5; exact absurd h5 (by decide))
      | (simp at h5; omega)
  cases hwl with
  | cons w1 w2 =>
    cases w2
    cases w1 with
    | list ho hall => exact ⟨_, _, ns, rfl, rfl, ho, ints_of_wellAll ns _ hall, hlen⟩
theorem post_true (l : OpenLaw) (args : List WData) : l.row.toRowW.claim.post args (.bool true) args = true :=
  postW_of (r := l.row.toRowW) (X := (true == true))
    (show WShape.has [] (.bool true) .bool = true by first | rfl | decide | simp [WShape.has, WShape.arms, WShape.armsAll])
    (show (WTm.eq .res (.lit (.bool true))).value [] { args := args, res := some (.bool true), after := args } = some (.bool (true == true)) from w_eq_bool (w_res rfl) w_lit) rfl
theorem attach_call {l : OpenLaw} {n : Nat} {q : Program} {loose : List Str} {XP : (Str → Option Value) → Heap → Prop} {YP : World → Heap → Prop} {d : DefRec}
    (hn : l.most = some n) (hdf : d.params.defaults = [])
    (call : ∀ (w : World) (s₀ s₁ : Shared) (mg mb : Str → Option Value) (fa : Addr) (o : Obj) (pm cd doc : Value) (a : Addr) (vs : List Value) (ns : List Int),
      Ground q loose [] XP w s₀ mg mb s₁.heap → YP w s₁.heap →
      s₁.heap.get? fa = some o → o.data = .func (docDef d.name d.params d.body d.scope pm cd doc) → s₁.heap.CodeRec cd d.name → mg d.name = some (.ref fa) →
      s₁.heap.get? a = some { cls := .type "list", data := .seq vs.toArray } → IntsAre vs ns → ns.length ≤ n → s₁.gens = #[] →
      codeAny (model l.prog w) callerA (.call (.ref fa) ⟨[.ref a], []⟩) (fun r s' => r = .ok (.ret (.bool true)) ∧ OldK s₁.heap s'.heap ∧ s'.os = s₁.os ∧ AllBare s'.gens) s₁) :
    WalkO q loose XP YP l.row.toRowW d [] (fun f vs => PySem.call f vs) := by
  intro w s₀ s₁ mg mb G Y fa o pm cd doc dV kV ho hd hcd hD hmg hg args vals as hpre hlay hrd hwl hlo
  obtain rfl : dV = .none := Dflts.none hD hdf
  obtain rfl : kV = .none := Dflts.noKw hD
  obtain ⟨a, vs, ns, rfl, rfl, hobj, hints, hlen⟩ := script_of hn hpre hwl
  refine enter_call (codeAny_mono (call w s₀ s₁ mg mb fa o pm cd doc a vs ns G Y ho (fd_plain hd) hcd hmg hobj hints hlen hg) fun r s' hq => ?_)
  obtain ⟨rfl, h2, h3, h4⟩ := hq
  exact ⟨.inl ⟨.bool true, .bool true, [], rfl, fun _ => rfl, .bool true, post_true l _, fun _ => ⟨List.Pairwise.nil, fun _ hm => (nomatch hm)⟩⟩, h2, h3, h4⟩
section
variable {prog : Program} {w : World} {A : Around} {E : Value → Shared → Prop} {s : Shared} {K : Frag}
end
end Att
namespace L2
open PySem PySem.Spec PyProof.Rows
theorem vals_ints : ∀ {vs : List Value} {ns : List Int}, IntsAre vs ns → Vals (ns.map V.int) vs
  | _, _, .nil => .nil
  | _, _, .cons n t h => .cons ⟨t, rfl⟩ (vals_ints h)
noncomputable def Only (H : Hp) : Prop := ∀ b, H b = none ∨ ∃ o xs, H b = some (.frz o (.lst xs))
theorem law_call {P : Program} {w : World} {K : PySem.W.Frag} {mg mb : Str → Option Value} {CX : CXT} {k : Nat} {fa a : Addr} {fd : FuncData} {x : Str} {sp : Sp} {s₁ : Shared} {vs : List Value} {ns : List Int}
    (KX : K.In s₁.heap) (hns : s₁.heap.Ns mainGlobals mg) (hb : s₁.heap.Ns builtinsNs mb) (hbb : ∀ x : Str, x ≠ "__name__" → mb x = bootBuiltins x) (hlim : s₁.heap.NoLimit) (hg : s₁.gens = #[])
    (ha : s₁.heap.get? a = some { cls := .type "list", data := .seq vs.toArray }) (hi : IntsAre vs ns) (hl : ns.length ≤ sizeLine) (hr : Room k callerA)
    (F : ∀ base : Heap, K.In base → base.Ns mainGlobals mg → FnOk P w K mg base CX k fa fd [x] sp) (hbind : ∀ (s : Shared) (u : Value), BindsTo s fd ⟨[u], []⟩ [(x, u)])
    (hsp : ∀ H : Hp, Only H → SqL K H a (ns.map V.int) → sp [.ref a] H (fun v _ => v = .bl true) fun _ _ _ => False)
    (hCX : ∀ H e s', CX [] H s₁ (fun _ _ _ => False) e s' → False) :
    codeAny (model P w) callerA (.call (.ref fa) ⟨[.ref a], []⟩) (fun r s' => r = .ok (.ret (.bool true)) ∧ OldK s₁.heap s'.heap ∧ s'.os = s₁.os ∧ AllBare s'.gens) s₁ := by
  have rv := vals_ints hi
  have lenV := hi.length
  have core : ∀ H : Hp, Only H → SqL K H a (ns.map V.int) → HOk P w H s₁.heap → (∀ b, H b ≠ none → b = a) → (H a ≠ none → K.lookup a = none) →
      codeAny (model P w) callerA (.call (.ref fa) ⟨[.ref a], []⟩) (fun r s' => r = .ok (.ret (.bool true)) ∧ OldK s₁.heap s'.heap ∧ s'.os = s₁.os ∧ AllBare s'.gens) s₁ := by
    intro H hO hS hok hA hK
    have base_of : ∀ {b : Addr} {o : Obj}, s₁.heap.get? b = some o → H b = none → (hidT s₁.heap H).get? b = some o := fun e n => hidT_get e n
    have noA : ∀ {b : Addr} {o : Obj} {es : Array DictEntry} {ep : Nat}, s₁.heap.get? b = some o → o.data = .dict es ep → H b = none := fun {b o es ep} e d => by
      cases q : H b with
      | none => rfl
      | some u =>
        have e' : b = a := hA b (by rw [q]; simp)
        subst e'
        rw [ha] at e; cases e
        have d' : Data.seq vs.toArray _ = Data.dict es ep := d
        cases d'
    have nsK : ∀ {b : Addr} {m : Str → Option Value}, s₁.heap.Ns b m → (hidT s₁.heap H).Ns b m := fun {b m} ⟨o, es, ep, e, d, r⟩ => ⟨o, es, ep, base_of e (noA e d), d, r⟩
    have hKb : K.In (hidT s₁.heap H) := fun b o e => base_of (KX b o e) (by
      cases q : H b with
      | none => rfl
      | some u =>
        have e' : b = a := hA b (by rw [q]; simp)
        subst e'
        rw [hK (by rw [q]; simp)] at e; cases e)
    have hM : Mod K mg (hidT s₁.heap H) := ⟨hKb, nsK hns, ⟨mb, nsK hb, hbb⟩, let ⟨mc, h1, h2⟩ := hlim; ⟨mc, nsK h1, h2⟩⟩
    have e0 : Env0 P w K mg (hidT s₁.heap H) callerA [] s₁ H := ⟨rfl, hM, fun b o e => of_hidT e, Nat.le_of_eq (hidT_size _ _), trivial, fun b hb => absurd (show b ∈ ([] : List Addr) from hb) (by simp), hok, .of_eq hg⟩
    refine codeAny_mono ((F _ hKb (nsK hns)).run callerA [] s₁ H ⟨[.ref a], []⟩ [.ref a] [.ref a] _ _ hr e0 (hbind s₁ (.ref a)) (.cons rfl .nil) (hsp H hO hS)) fun r s' h => ?_
    cases r with
    | error e => exact (hCX H e s' h).elim
    | ok fl =>
      cases fl with
      | next => exact False.elim h
      | brk => exact False.elim h
      | cont => exact False.elim h
      | ret u =>
        obtain ⟨v, H', os, bare, un, hok', r', q⟩ := h
        have q' : v = .bl true := q
        subst q'
        obtain rfl : u = Value.bool true := r'
        refine ⟨rfl, OldK.of_keep fun b o e => ?_, os, bare⟩
        cases q : H b with
        | none => exact un.keep b o e q (by intro z; exact absurd (show b ∈ ([] : List Addr) from z) (by simp)) (by simp)
        | some u =>
          rcases hO b with z | ⟨ob, xs, z⟩
          · rw [q] at z; cases z
          · have z2 := un.frzs b ob _ z
            obtain ⟨e1, _⟩ := hok b _ z
            obtain ⟨e2, _⟩ := hok' b _ z2
            rw [e] at e1; cases e1
            exact e2
  cases hk : K.lookup a with
  | some o =>
    have e := KX a o hk
    rw [ha] at e
    cases e
    refine core (fun _ => none) (fun _ => .inl rfl) (.inr ⟨_, vs.toArray, _, hk, rfl, rfl, rfl, by rw [List.size_toArray, lenV]; exact hl, by simpa using rv⟩) (fun b u z => by have z' : (none : Option HO) = some u := z; cases z') (fun b z => absurd rfl z) fun z => absurd rfl z
  | none =>
    refine core (fun b => if b = a then some (.frz { cls := .type "list", data := .seq vs.toArray } (.lst (ns.map V.int))) else none) (fun b => ?_) (.inl (.inr ⟨{ cls := .type "list", data := .seq vs.toArray }, if_pos rfl⟩)) (fun b u z => ?_) (fun b z => ?_) fun _ => hk
    · by_cases hb : b = a
      · exact .inr ⟨_, _, if_pos hb⟩
      · exact .inl (if_neg hb)
    · by_cases hb : b = a
      · have z' := (if_pos hb).symm.trans z
        cases z'
        subst hb
        exact ⟨ha, by rw [List.length_map]; exact hl, vs, _, rv, ha⟩
      · have z' := (if_neg hb).symm.trans z
        cases z'
    · by_cases hb : b = a
      · exact hb
      · exact absurd (if_neg hb) z
end L2
namespace L2
open PySem PySem.Spec PyProof.Rows
theorem walk_of {l : PySem.W.OpenLaw} {n k : Nat} {q : Program} {loose : List Str} {XP : (Str → Option Value) → Heap → Prop} {YP : World → Heap → Prop} {d : DefRec} {K : Params → PySem.W.Frag} {CX : World → CXT} {sp : World → Sp} {x : Str}
    (hn : l.most = some n) (hn2 : n ≤ sizeLine) (hdf : d.params.defaults = []) (hr : Room k callerA)
    (hY : ∀ (w : World) (h : Heap), YP w h → (K w.params).In h)
    (F : ∀ (w : World) (mg : Str → Option Value) (fa : Addr) (h : Heap), (K w.params).In h → h.Ns mainGlobals mg → mg d.name = some (.ref fa) →
      ∃ fd : FuncData, (∀ (s : Shared) (u : Value), BindsTo s fd ⟨[u], []⟩ [(x, u)]) ∧
        ∀ base : Heap, (K w.params).In base → base.Ns mainGlobals mg → FnOk l.prog w (K w.params) mg base (CX w) k fa fd [x] (sp w))
    (hsp : ∀ (w : World) (H : Hp) (a : Addr) (ns : List Int), ns.length ≤ n → Only H → SqL (K w.params) H a (ns.map V.int) → sp w [.ref a] H (fun v _ => v = .bl true) fun _ _ _ => False)
    (hCX : ∀ (w : World) (H : Hp) (s : Shared) (e : Value) (s' : Shared), CX w [] H s (fun _ _ _ => False) e s' → False) :
    PySem.W.WalkO q loose XP YP l.row.toRowW d [] (fun f vs => PySem.call f vs) := by
  refine Att.attach_call hn hdf fun w s₀ s₁ mg mb fa o pm cd doc a vs ns G Y ho hd hcd hmg hobj hints hlen hg => ?_
  have KX := hY w _ Y
  obtain ⟨fd, hb, hF⟩ := F w mg fa _ KX G.T.g hmg
  exact law_call KX G.T.g G.T.b G.T.builtins G.T.nolimit hg hobj hints (Nat.le_trans hlen hn2) hr hF hb (fun H hO hS => hsp w H a ns hlen hO hS) fun H e s' => hCX w H s₁ e s'
end L2
namespace L2
open PySem PySem.Spec PyProof.Rows
noncomputable def defArgs (s : Stmt) : Arguments := match s with
  | .FunctionDef _ a _ _ _ _ _ _ _ _ => a
  | _ => { posonlyargs := [], args := [], vararg := none, kwonlyargs := [], kw_defaults := [], kwarg := none, defaults := [] }
noncomputable def defBody (s : Stmt) : List Stmt := match s with
  | .FunctionDef _ _ b _ _ _ _ _ _ _ => b
  | _ => []
noncomputable def defScope (s : Stmt) : Scope := match s with
  | .FunctionDef _ _ _ _ _ _ sc _ _ _ => sc
  | _ => { kind := .function, names := [], isGenerator := false, isCoroutine := false }
noncomputable abbrev CX0 : CXT := fun _ _ _ _ _ _ => False
noncomputable abbrev E0 : XK := fun _ _ _ => False
theorem pass0 {X : Cx} : Passes CX0 X E0 := fun _ _ _ _ _ _ _ h => h.elim
structure Fun (K : PySem.W.Frag) (x qual : Str) (st : Stmt) (f : Addr) (fd : FuncData) : Prop where
  ex : ∃ (oc : Value) (od : Option Addr) (kV doc pm : Value) (an : Option Addr) (cdv ct : Value) (osl : Array (Option Value)),
    fd = PySem.W.fnOf x qual (defArgs st) (defBody st) (defScope st) .none kV doc pm an cdv ct ∧ K.lookup f = some ⟨oc, od, .func fd, osl⟩ ∧ PySem.W.codeIn K cdv qual = true
  kp : PySem.W.keepIn K (.ref f) = true
section
variable {P : Program} {w : World} {K : PySem.W.Frag} {mg : Str → Option Value} {base : Heap}
theorem Fun.ok {x qual : Str} {st : Stmt} {f : Addr} {fd : FuncData} {N ps : List Str} {k : Nat} {sp : Sp} (F : Fun K x qual st f fd) (S : FnScope N ps (defScope st)) (len : ∀ vs H Q E, sp vs H Q E → vs.length = ps.length)
    (hbody : ∀ (cdv : Value) (A : Around) (outer : List Env) (s : Shared) (H : Hp) (vs : List V) (Q : VK) (E : XK), Room k (A.deeper (envOfC qual (defScope st) s.heap.objs.size f cdv)) → sp vs H Q E →
      ∃ t, PSs (cxOf CX0 P w K mg base N qual (defScope st) f cdv A outer s H E).nox (defBody st) t ∧ t { nx := fun _ H' => Q .non H', rt := Q } (start N vs) H) : FnOk P w K mg base CX0 (k + 1) f fd ps sp := by
  obtain ⟨oc, od, kV, doc, pm, an, cdv, ct, osl, rfl, lk, hcd⟩ := F.ex
  refine fn_of lk hcd S len fun A outer s H vs Q E hr hsp => ?_
  obtain ⟨t, h, q⟩ := hbody cdv A outer s H vs Q E hr hsp
  exact ⟨t, h.nox, q⟩
theorem Fun.binds {x qual : Str} {st : Stmt} {f : Addr} {fd : FuncData} {ps : List Str} (F : Fun K x qual st f fd)
    (h : ∀ (kV doc pm : Value) (an : Option Addr) (cdv ct : Value) (us : List Value), us.length = ps.length → bindArgs (PySem.W.fnOf x qual (defArgs st) (defBody st) (defScope st) .none kV doc pm an cdv ct) ⟨us, []⟩ = pure (ps.zip us)) : Binds K fd ps [] := by
  obtain ⟨oc, od, kV, doc, pm, an, cdv, ct, osl, rfl, lk, hcd⟩ := F.ex
  exact .all (h kV doc pm an cdv ct)
theorem fun_mk {x qual : Str} {st : Stmt} {f : Addr} {oc : Value} {od an : Option Addr} {osl : Array (Option Value)} {kV doc pm cdv ct : Value} (l : K.lookup f = some ⟨oc, od, .func (PySem.W.fnOf x qual (defArgs st) (defBody st) (defScope st) .none kV doc pm an cdv ct), osl⟩)
    (c : PySem.W.codeIn K cdv qual = true) (k : PySem.W.keepIn K (.ref f) = true) : Fun K x qual st f (PySem.W.fnOf x qual (defArgs st) (defBody st) (defScope st) .none kV doc pm an cdv ct) := ⟨⟨oc, od, kV, doc, pm, an, cdv, ct, osl, rfl, l, c⟩, k⟩
end
section
variable {X : Cx}
theorem pv (i : Nat) {x : Str} {pos : Pos} (hN : X.N[i]? = some x := by rfl) (hv : Vis X.env.scope x := by first | exact Or.inl rfl | exact Or.inr (Or.inl rfl) | exact Or.inr (Or.inr rfl)) (hd : (x == ("__debug__" : Str)) = false := by decide)
    (hcd : (x == ("__classdict__" : Str)) = false := by decide) : PE X (.Name x pos) (tVar i) := pe_var hN hv hd hcd
end
theorem iteF {A B : Prop} (h : B) : if false = true then A else B := by
  rw [if_neg Bool.false_ne_true]
  exact h
theorem iteT {A B : Prop} (h : A) : if true = true then A else B := by
  rw [if_pos rfl]
  exact h
noncomputable def Same (H H' : Hp) : Prop := ∀ b o, H b = some o → H' b = some o
theorem Same.refl (H : Hp) : Same H H := fun _ _ h => h
theorem Same.trans {H H1 H2 : Hp} (a : Same H H1) (b : Same H1 H2) : Same H H2 := fun c o h => b c o (a c o h)
theorem Same.free {H H' : Hp} (e : Same H H') {l : Addr} (h : H' l = Option.none) : H l = Option.none := by
  cases q : H l with
  | none => rfl
  | some o =>
    rw [e l o q] at h
    cases h
theorem Same.seq {K : PySem.W.Frag} {H H' : Hp} {a : Addr} {xs : List V} (e : Same H H') (h : SqL K H a xs) : SqL K H' a xs := by
  rcases h with (h | ⟨o, h⟩) | h
  · exact .inl (.inl (e _ _ h))
  · exact .inl (.inr ⟨o, e _ _ h⟩)
  · exact .inr h
end L2
namespace L2
open PySem PySem.Spec PyProof.Rows
section
variable {κ : Type} [DecidableEq κ]
noncomputable def valV (kvs : List (κ × V)) (k : κ) : Option V := (kvs.find? fun kv => decide (kv.1 = k)).map (·.2)
noncomputable def putK (kvs : List (κ × V)) (k : κ) (v : V) : List (κ × V) :=
  if (kvs.any fun kv => decide (kv.1 = k)) = true then kvs.map (fun kv => if kv.1 = k then (kv.1, v) else kv) else kvs ++ [(k, v)]
noncomputable def dropK (kvs : List (κ × V)) (k : κ) : List (κ × V) := kvs.filter fun kv => decide (kv.1 ≠ k)
theorem valV_pos {p : κ × V} {r : List (κ × V)} {k : κ} (e : p.1 = k) : valV (p :: r) k = some p.2 := by simp [valV, List.find?_cons, e]
theorem valV_neg {p : κ × V} {r : List (κ × V)} {k : κ} (e : ¬ p.1 = k) : valV (p :: r) k = valV r k := by simp [valV, List.find?_cons, e]
theorem length_putK (kvs : List (κ × V)) (k : κ) (v : V) : (putK kvs k v).length ≤ kvs.length + 1 := by
  unfold putK
  split
  · rw [List.length_map]; omega
  · rw [List.length_append, List.length_cons, List.length_nil]; omega
theorem RelO.getD {o : Option V} {u : Option Value} {d : V} {d' : Value} (r : RelO o u) (rd : RelV d d') : RelV (o.getD d) (u.getD d') := by
  cases o with
  | none => cases u with
    | none => exact rd
    | some _ => exact (show False from r).elim
  | some _ => cases u with
    | none => exact (show False from r).elim
    | some _ => exact r
theorem KV.val {kvs : List (κ × V)} {vs : List (κ × Value)} (r : KV kvs vs) (k : κ) : RelO (valV kvs k) (valueAt vs k) := by
  unfold KV at r
  induction r with
  | nil => exact True.intro
  | @cons p q ps qs h t ih =>
    obtain ⟨h1, h2⟩ := h
    by_cases e : p.1 = k
    · have e' : q.1 = k := h1.symm.trans e
      have b : valueAt (q :: qs) k = some q.2 := by simp [valueAt, List.find?_cons, e']
      rw [valV_pos e, b]; exact h2
    · have e' : ¬ q.1 = k := fun z => e (h1.trans z)
      have b : valueAt (q :: qs) k = valueAt qs k := by simp [valueAt, List.find?_cons, e']
      rw [valV_neg e, b]; exact ih
theorem KV.any {kvs : List (κ × V)} {vs : List (κ × Value)} (r : KV kvs vs) (k : κ) : (kvs.any fun kv => decide (kv.1 = k)) = vs.any fun kv => decide (kv.1 = k) := by
  unfold KV at r
  induction r with
  | nil => rfl
  | cons h t ih => rw [List.any_cons, List.any_cons, ih, h.1]
theorem KV.repl {kvs : List (κ × V)} {vs : List (κ × Value)} (r : KV kvs vs) (k : κ) {y : V} {u : Value} (ry : RelV y u) :
    KV (kvs.map fun kv => if kv.1 = k then (kv.1, y) else kv) (vs.map fun kv => if kv.1 = k then (kv.1, u) else kv) := by
  unfold KV at r ⊢
  induction r with
  | nil => exact .nil
  | @cons p q ps qs h t ih =>
    rw [List.map_cons, List.map_cons]
    refine .cons ?_ ih
    obtain ⟨h1, h2⟩ := h
    by_cases e : p.1 = k
    · rw [if_pos e, if_pos (h1.symm.trans e)]; exact ⟨h1, ry⟩
    · rw [if_neg e, if_neg (fun z => e (h1.trans z))]; exact ⟨h1, h2⟩
theorem KV.put {kvs : List (κ × V)} {vs : List (κ × Value)} (r : KV kvs vs) (k : κ) {y : V} {u : Value} (ry : RelV y u) : KV (putK kvs k y) (stored vs k u) := by
  unfold putK stored
  rw [r.any k]
  by_cases e : (vs.any fun kv => decide (kv.1 = k)) = true
  · rw [if_pos e, if_pos e]; exact r.repl k ry
  · rw [if_neg e, if_neg e]; exact Paired.snoc r ⟨rfl, ry⟩
theorem KV.drop {kvs : List (κ × V)} {vs : List (κ × Value)} (r : KV kvs vs) (k : κ) : KV (dropK kvs k) (without vs k) := by
  unfold KV at r ⊢
  unfold dropK without
  induction r with
  | nil => exact .nil
  | @cons p q ps qs h t ih =>
    obtain ⟨h1, h2⟩ := h
    rw [List.filter_cons, List.filter_cons]
    by_cases e : p.1 = k
    · have a : ¬ decide (p.1 ≠ k) = true := by simp [e]
      have b : ¬ decide (q.1 ≠ k) = true := by simp [h1.symm.trans e]
      rw [if_neg a, if_neg b]; exact ih
    · have e' : ¬ q.1 = k := fun z => e (h1.trans z)
      have a : decide (p.1 ≠ k) = true := by simp [e]
      have b : decide (q.1 ≠ k) = true := by simp [e']
      rw [if_pos a, if_pos b]; exact .cons ⟨h1, h2⟩ ih
theorem KV.length {kvs : List (κ × V)} {vs : List (κ × Value)} (r : KV kvs vs) : kvs.length = vs.length := Paired.length r
end
theorem kV_is {P : Program} {w : World} {k : Key} {u : Value} (r : RelV (kV k) u) : (mixKind P w).is k u = true := by
  cases k with
  | inl i => obtain ⟨t, e⟩ := (show ∃ t, u = Value.int i t from r); subst e; exact mixKind_int P w i t
  | inr x => obtain ⟨t, e⟩ := (show ∃ t, u = Value.str x t from r); subst e; exact mixKind_str P w x t
section
variable {P : Program} {w : World} {H : Hp} {h : Heap} {a : Addr}
theorem rd_of {u : HO} (ok : HOk P w H h) (e : Rd H a u) : ObjOk P w H h a u := e.ok ok
theorem dk_rd {kvs : List (Key × V)} (ok : HOk P w H h) (e : Rd H a (.dK kvs)) : kvs.length ≤ sizeLine ∧ (a == sysModules) = false ∧ ∃ vs, KV kvs vs ∧ h.DictOf (mixKind P w) a vs :=
  show ObjOk P w H h a (.dK kvs) from rd_of ok e
theorem dk_of {kvs : List (Key × V)} (ok : HOk P w H h) (e : H a = some (.dK kvs)) : kvs.length ≤ sizeLine ∧ (a == sysModules) = false ∧ ∃ vs, KV kvs vs ∧ h.DictOf (mixKind P w) a vs := dk_rd ok (.inl e)
end
section
variable {X : Cx} {pins : List (Addr × Obj)} {σ : St} {H : Hp} {s : Shared} {a : Addr} {y v : V} {u r : Value} {o : Option V} {A : Around} {E : Value → Shared → Prop}
theorem Inv.big (I : Inv X pins σ H s) : sysModules < s.heap.objs.size := by
  have h : mainGlobals < s.heap.objs.size := (I.mod.glob.keeps I.bk).lt
  exact Nat.lt_trans (by decide) h
theorem d_write {h' : Heap} {t' : Nat} {ob : HO} (I : Inv X pins σ H s) (mu : Mut (H a)) (hs : Heap.SameBut a s.heap h') (he : ∃ q, h'.get? a = some q) (new : ObjOk X.prog X.w (upd H a ob) h' a ob) :
    Inv X pins σ (upd H a ob) { s with heap := h', toks := t' } :=
  I.write (x := a) (e := a) mu (.inl rfl) (fun b q hb z => (hs.2 b hb).trans z) he new
theorem dk_new {P : Program} {w : World} {H' : Hp} {h' : Heap} {kvs : List (Key × V)} {vs : List (Key × Value)} (z : kvs.length ≤ sizeLine) (hd : (a == sysModules) = false) (rel : KV kvs vs) (dd : h'.DictOf (mixKind P w) a vs) :
    ObjOk P w H' h' a (.dK kvs) := ⟨z, hd, vs, rel, dd⟩
end
section
variable {X : Cx} {pins : List (Addr × Obj)} {σ : St} {H : Hp} {s : Shared} {a : Addr} {kvs : List (Key × V)} {k : Key} {u : Value} {A : Around} {E : Value → Shared → Prop}
end
noncomputable def NoSl (i : Expr) : Prop := ∀ ov iv, subscripted i false ov iv = operate [ov, iv] (getItem ov iv)
theorem subD_of {prog : Program} {w : World} {A : Around} {E : Value → Shared → Prop} {s : Shared} {env : Env} {value slice : Expr} {pos : Pos} {T id : String} {Q : Value → Shared → Prop}
    (hl : typeLookup (.type T) "__getitem__" = pure (some (.builtin id))) (hs : NoSl slice)
    (h : wpAny (model prog w) A (eval value env) (fun o s₁ => wpAny (model prog w) A (eval slice env) (fun i s₂ => s₂.TypeIs o T ∧ wpAny (model prog w) A (getItem o i) Q E s₂) E s₁) E s) :
    wpAny (model prog w) A (eval (.Subscript value slice pos) env) Q E s := by
  refine Subscript_ (wpAny_mono h (fun o s₁ h₁ => wpAny_mono h₁ (fun i s₂ h₂ => ?_) fun _ _ x => x) fun _ _ x => x)
  obtain ⟨hT, h₂⟩ := h₂
  unfold subscriptTail
  refine wpAny_bind ?_
  rw [getitemInPython_of_ne hT.not_modules]
  refine wpAny_bind (wpAny_specialOf hT hl ?_)
  have fin : wpAny (model prog w) A (subscripted slice false o i) (fun r s₃ => wpAny (model prog w) A (letTemporaryGo value o r >>= fun _ => pure r) Q E s₃) E s₂ := by
    rw [hs o i]
    exact wpAny_operating (wpAny_mono h₂ (fun r s₃ h₃ => wpAny_bind (wpAny_letTemporaryGo (wpAny_pure h₃))) fun _ _ x => x)
  first
    | exact wpAny_pure (wpAny_bind fin)
    | exact wpAny_bind (wpAny_pure (wpAny_bind fin))
    | exact wpAny_bind fin
section
variable {X : Cx} {o i e value : Expr} {pos pos' tpos : Pos} {td ty tv : TE}
end
theorem dk_empty {P : Program} {w : World} {H : Hp} (h : Heap) (hb : sysModules < h.objs.size) : ObjOk P w H (h.push { cls := .type "dict", data := .dict #[] }) h.objs.size (.dK []) :=
  ⟨Nat.zero_le _, beq_eq_false_iff_ne.mpr (Ne.symm (Nat.ne_of_lt hb)), [], .nil, Heap.DictOf.new h⟩
noncomputable def tDNewK : TE := fun _ H Q => ∀ p, H p = none → Q (.ref p) (upd H p (.dK []))
section
variable {X : Cx} {pos : Pos}
theorem pe_dnewK : PE X (.Dict [] [] pos) tDNewK := fun pins s σ H Q I h =>
  wpAny_Dict_empty ⟨.ref s.heap.objs.size, _, I.laid (a := s.heap.objs.size) (o := .dK []) (t' := s.toks) (fun _ _ q => Heap.get?_push_of_some _ q) (Nat.le_refl _) (dk_empty s.heap I.big), rfl, h _ (I.hok.fresh (Nat.le_refl _))⟩
end
noncomputable def tPairs : List (TE × TE) → St → Hp → (List (V × V) → Hp → Prop) → Prop
  | [], _, H, Q => Q [] H
  | (tk, tv) :: r, σ, H, Q => tk σ H fun x H1 => tv σ H1 fun y H2 => tPairs r σ H2 fun ps H3 => Q ((x, y) :: ps) H3
noncomputable abbrev VV : List (V × V) → List (Value × Value) → Prop := Paired fun p q => RelV p.1 q.1 ∧ RelV p.2 q.2
noncomputable def PPs (X : Cx) (pos : Pos) (keys : List (Option Expr)) (values : List Expr) (trs : List (TE × TE)) : Prop :=
  ∀ (pins : List (Addr × Obj)) (s : Shared) (σ : St) (H : Hp) (Q : List (V × V) → Hp → Prop), Inv X pins σ H s → tPairs trs σ H Q →
    wpAny (model X.prog X.w) X.A (evalPairs (pairTrees keys values X.env pos)) (fun vs s' => ∃ ps H', Inv X pins σ H' s' ∧ VV ps vs ∧ Q ps H') X.xe s
theorem pps_nil {X : Cx} {pos : Pos} : PPs X pos [] [] [] := fun pins s σ H Q I h => pairTrees_nil_walk ⟨[], H, I, .nil, h⟩
theorem pps_cons {X : Cx} {pos : Pos} {k v : Expr} {ks : List (Option Expr)} {vs : List Expr} {tk tv : TE} {trs : List (TE × TE)} (hk : PE X k tk) (hv : PE X v tv) (hr : PPs X pos ks vs trs) :
    PPs X pos (some k :: ks) (v :: vs) ((tk, tv) :: trs) := fun pins s σ H Q I h =>
  pairTrees_cons_walk (thn (hk pins s σ H _ I h) fun u s1 ⟨x, H1, I1, rx, q1⟩ => thn (hv pins s1 σ H1 _ I1 q1) fun w2 s2 ⟨y, H2, I2, ry, q2⟩ =>
    thn (hr pins s2 σ H2 _ I2 q2) fun ws s3 ⟨ps, H3, I3, rel, q3⟩ => ⟨(x, y) :: ps, H3, I3, .cons ⟨rx, ry⟩ rel, q3⟩)
noncomputable def mergeK (kvs more : List (Key × V)) : List (Key × V) := more.foldl (fun acc kv => putK acc kv.1 kv.2) kvs
theorem KV.merge : ∀ {more : List (Key × V)} {rs : List (Key × Value)} {kvs : List (Key × V)} {vs : List (Key × Value)}, KV more rs → KV kvs vs → KV (mergeK kvs more) (merged vs rs) := by
  intro more rs kvs vs r
  unfold KV at r
  induction r generalizing kvs vs with
  | nil => intro q; exact q
  | @cons p q ps qs h t ih =>
    intro r0
    have e : KV (putK kvs p.1 p.2) (stored vs q.1 q.2) := by
      have := r0.put p.1 h.2
      rw [← h.1]; exact this
    exact ih e
theorem length_mergeK : ∀ (more kvs : List (Key × V)), (mergeK kvs more).length ≤ kvs.length + more.length
  | [], kvs => by show kvs.length ≤ kvs.length + 0; omega
  | p :: r, kvs => by
    have h1 := length_mergeK r (putK kvs p.1 p.2)
    have h2 := length_putK kvs p.1 p.2
    show (mergeK (putK kvs p.1 p.2) r).length ≤ _
    rw [List.length_cons]; omega
theorem carries_of {P : Program} {w : World} : ∀ {kvs : List (Key × V)} {ws : List (Value × Value)}, VV (kvs.map fun kv => (kV kv.1, kv.2)) ws → ∃ rs, Carries (mixKind P w) ws rs ∧ KV kvs rs
  | [], _, r => by rw [List.map_nil] at r; cases r; exact ⟨[], True.intro, .nil⟩
  | p :: kvs, _, r => by
    rw [List.map_cons] at r
    cases r with
    | @cons a b as bs h t =>
      obtain ⟨rs, c, q⟩ := carries_of (P := P) (w := w) t
      obtain ⟨b1, b2⟩ := b
      exact ⟨(p.1, b2) :: rs, ⟨kV_is h.1, rfl, c⟩, .cons ⟨rfl, h.2⟩ q⟩
noncomputable def tDisp (trs : List (TE × TE)) : TE := fun σ H Q => ∀ p, H p = none → tPairs trs σ (upd H p (.dK [])) fun ps H2 => H2 p = some (.dK []) ∧ ∃ kvs : List (Key × V), ps = kvs.map (fun kv => (kV kv.1, kv.2)) ∧ kvs.length ≤ 15 ∧ Q (.ref p) (upd H2 p (.dK (mergeK [] kvs)))
theorem pe_disp {X : Cx} {pos : Pos} {keys : List (Option Expr)} {values : List Expr} {trs : List (TE × TE)} (h : PPs X pos keys values trs) (hall : keys.all (·.isSome) = true) (hl : keys.length = values.length) (h0 : keys ≠ [])
    (h15 : keys.length ≤ 15) : PE X (.Dict keys values pos) (tDisp trs) := by
  intro pins s σ H Q I q
  have hn := I.hok.fresh (Nat.le_refl s.heap.objs.size)
  have I1 := I.laid (a := s.heap.objs.size) (o := .dK []) (h' := s.heap.push { cls := .type "dict", data := .dict #[] }) (t' := s.toks) (fun _ _ q => Heap.get?_push_of_some _ q) (Nat.le_refl _) (dk_empty s.heap I.big)
  refine wpAny_Dict_walk (knd := mixKind X.prog X.w) hall hl h0 h15 (thn (h pins _ σ _ _ I1 (q _ hn)) fun ws s2 ⟨ps, H2, I2, rel, e, kvs, ep, lk, q2⟩ => ?_)
  subst ep
  obtain ⟨rs, c, rk⟩ := carries_of (P := X.prog) (w := X.w) rel
  obtain ⟨z, hd, vs0, r0, dd⟩ := dk_of I2.hok e
  cases r0
  refine ⟨rs, c, dd, fun h' dd' hs => ⟨.ref s.heap.objs.size, _, ?_, rfl, q2⟩⟩
  have hz : (mergeK [] kvs).length ≤ sizeLine := by
    have h1 := length_mergeK kvs []
    rw [List.length_nil] at h1
    rw [sizeLine_eq]; omega
  have he : ∃ q, h'.get? s.heap.objs.size = some q := let ⟨q, _, _, hq, _⟩ := dd'; ⟨q, hq⟩
  exact d_write I2 (by rw [e]; exact True.intro) hs he (dk_new hz hd (rk.merge .nil) dd')
section
variable {X : Cx} {pins : List (Addr × Obj)} {σ : St} {H : Hp} {s : Shared} {a : Addr} {y d : V} {u r : Value} {o : Option V} {A : Around} {E : Value → Shared → Prop}
end
section
variable {X : Cx} {o e f : Expr} {apos cpos : Pos} {td ty tx : TE}
end
section
variable {X : Cx} {pins : List (Addr × Obj)} {σ : St} {H : Hp} {s : Shared} {a : Addr} {kvs : List (Key × V)} {A : Around} {E : Value → Shared → Prop}
end
section
variable {X : Cx} {pins : List (Addr × Obj)} {σ : St} {H : Hp} {s : Shared} {a : Addr} {y : V} {u : Value} {A : Around} {E : Value → Shared → Prop}
end
end L2
set_option Elab.async false
set_option maxRecDepth 100000
namespace L2
open PySem PySem.Spec PyProof.Rows
theorem len_app (x y : Str) : (x ++ y).length = x.length + y.length := by
  show (x.cps ++ y.cps).size = _
  rw [Array.size_append]
  rfl
theorem len_cps (x : Str) : x.length = x.cps.toList.length := by
  show x.cps.size = _
  rw [Array.length_toList]
end L2
set_option Elab.async false
set_option maxRecDepth 100000
namespace L2
open PySem PySem.Spec PyProof.Rows
noncomputable def clOf (scope : Scope) (env : Env) : List (Str × Addr) :=
  (scope.names.filterMap fun p => if p.2 == NameKind.free then (env.cells.lookup p.1).map fun c => (p.1, c) else none).reverse
theorem closure_loop {env : Env} : ∀ (names : List (Str × NameKind)) (acc : List (Str × Addr)), (∀ y ∈ names, y.2 = .free → ∃ c, env.cells.lookup y.1 = some c) →
    (forIn names acc fun (x : Str × NameKind) (cs : List (Str × Addr)) => (match x with
      | (name, kind) => if (kind == NameKind.free) = true then do
          let c ← cellOf env name
          pure (ForInStep.yield ((name, c) :: cs))
        else pure (ForInStep.yield cs) : Sem (ForInStep (List (Str × Addr))))) =
      pure ((names.filterMap fun p => if p.2 == NameKind.free then (env.cells.lookup p.1).map fun c => (p.1, c) else none).reverse ++ acc)
  | [], acc, _ => rfl
  | (n, k) :: r, acc, h => by
    rw [List.forIn_cons]
    by_cases hk : k = .free
    · subst hk
      obtain ⟨c, hc⟩ := h (n, .free) List.mem_cons_self rfl
      have e1 : cellOf env n = pure c := by unfold cellOf; rw [hc]
      have ih := closure_loop r ((n, c) :: acc) fun y hy => h y (List.mem_cons_of_mem _ hy)
      simp only [beq_self_eq_true, if_true, e1, pure_bind, List.filterMap_cons, hc, Option.map_some, List.reverse_cons, List.append_assoc, List.singleton_append]
      exact ih
    · have hb : (k == NameKind.free) = false := by simpa using hk
      have ih := closure_loop r acc fun y hy => h y (List.mem_cons_of_mem _ hy)
      simp only [hb, Bool.false_eq_true, if_false, pure_bind, List.filterMap_cons]
      exact ih
theorem closureFor_eq {scope : Scope} {env : Env} (h : ∀ y ∈ scope.names, y.2 = .free → ∃ c, env.cells.lookup y.1 = some c) : closureFor scope env = pure (clOf scope env) := by
  have e := closure_loop (env := env) scope.names [] h
  unfold closureFor
  rw [List.append_nil] at e
  exact (congrArg (· >>= pure) e).trans (by rfl)
theorem clOf_mem {scope : Scope} {env : Env} {y : Str} {c : Addr} (h : (y, c) ∈ clOf scope env) : (y, NameKind.free) ∈ scope.names ∧ env.cells.lookup y = some c := by
  unfold clOf at h
  obtain ⟨⟨n, k⟩, hp, e⟩ := List.mem_filterMap.mp (List.mem_reverse.mp h)
  by_cases hk : k = .free
  · subst hk
    simp only [beq_self_eq_true, if_true] at e
    cases hc : env.cells.lookup n with
    | none => rw [hc] at e; cases e
    | some c' =>
      rw [hc] at e
      have e' : (n, c') = (y, c) := Option.some.inj e
      cases e'
      exact ⟨hp, hc⟩
  · have hb : (k == NameKind.free) = false := by simpa using hk
    simp only [hb, Bool.false_eq_true, if_false] at e
    cases e
theorem clOf_sub {scope : Scope} {env : Env} {y : Str} {c : Addr} (h : (clOf scope env).lookup y = some c) : env.cells.lookup y = some c := (clOf_mem (PySem.mem_of_lookup h)).2
theorem lookup_of_mem {α : Type} {y : Str} : ∀ {l : List (Str × α)} {c : α}, (y, c) ∈ l → ∃ c', l.lookup y = some c'
  | (n, a) :: r, c, h => by
    by_cases e : y = n
    · subst e; exact ⟨a, by simp [List.lookup_cons]⟩
    · have hb : (y == n) = false := by simpa using e
      rcases List.mem_cons.mp h with h | h
      · cases h; exact absurd rfl e
      · obtain ⟨c', h'⟩ := lookup_of_mem h
        exact ⟨c', by simp [List.lookup_cons, hb, h']⟩
theorem clOf_has {scope : Scope} {env : Env} {y : Str} {c : Addr} (h1 : (y, NameKind.free) ∈ scope.names) (h2 : env.cells.lookup y = some c) : (clOf scope env).lookup y = some c := by
  have m : (y, c) ∈ clOf scope env := by
    unfold clOf
    exact List.mem_reverse.mpr (List.mem_filterMap.mpr ⟨(y, .free), h1, by simp [h2]⟩)
  obtain ⟨c', h'⟩ := lookup_of_mem m
  have := clOf_sub h'
  rw [h2] at this
  cases this
  exact h'
theorem relabel_free {scope : Scope} {env : Env} (hcell : ∀ y ∈ scope.names, y.2 ≠ .cell) {y : Str} (h : (relabel scope env).names.lookup y = some .cell ∨ (relabel scope env).names.lookup y = some .free) : (y, NameKind.free) ∈ scope.names := by
  have m : ∃ k, (k = .cell ∨ k = .free) ∧ (y, k) ∈ (relabel scope env).names := by
    rcases h with h | h
    · exact ⟨_, .inl rfl, PySem.mem_of_lookup h⟩
    · exact ⟨_, .inr rfl, PySem.mem_of_lookup h⟩
  obtain ⟨k, hk, hm⟩ := m
  unfold relabel at hm
  obtain ⟨⟨n, k'⟩, hp, e⟩ := List.mem_map.mp hm
  dsimp only at e
  by_cases hf : k' = .free
  · subst hf
    split at e <;> (cases e; exact hp)
  · have hb : (k' == NameKind.free) = false := by simpa using hf
    rw [hb, Bool.false_and, Bool.false_and, if_neg (by decide)] at e
    cases e
    rcases hk with hk | hk
    · exact absurd hk (hcell _ hp)
    · exact absurd hk hf
noncomputable def cxComp (X : Cx) (N : List Str) (scope : Scope) (C : Addr) (s : Shared) (H : Hp) (fp : List Addr) : Cx where
  prog := X.prog
  w := X.w
  K := X.K
  mg := X.mg
  base := X.base
  A := X.A
  N := N
  s₀ := s
  H₀ := H
  env := compEnvC scope (clOf scope X.env) C X.env
  outer := X.stack
  stack := X.stack
  ex := fp
  fn := fun _ => false
  calm := true
  pn := []
  xe := fun _ _ => False
noncomputable def Caps (X : Cx) (scope : Scope) : List Str → List Nat → Prop
  | [], [] => True
  | x :: xs, i :: is => (X.N[i]? = some x ∧ (X.env.scope.names.lookup x = some .cell ∨ X.env.scope.names.lookup x = some .free) ∧ scope.names.lookup x = some .free) ∧ Caps X scope xs is
  | _, _ => False
theorem Caps.len {X : Cx} {scope : Scope} : ∀ {xs : List Str} {is : List Nat}, Caps X scope xs is → is.length = xs.length
  | [], [], _ => rfl
  | _ :: _, _ :: _, h => congrArg (· + 1) (Caps.len h.2)
  | [], _ :: _, h => h.elim
  | _ :: _, [], h => h.elim
theorem Caps.at {X : Cx} {scope : Scope} : ∀ {xs : List Str} {is : List Nat} {j : Nat} {x : Str}, Caps X scope xs is → xs[j]? = some x → ∃ i, is[j]? = some i ∧ X.N[i]? = some x ∧ (X.env.scope.names.lookup x = some .cell ∨ X.env.scope.names.lookup x = some .free) ∧ scope.names.lookup x = some .free
  | [], [], _, _, _, e => by simp at e
  | y :: _, i :: _, 0, x, h, e => by
    simp at e; subst e
    exact ⟨i, rfl, h.1⟩
  | _ :: xs, _ :: is, j + 1, x, h, e => by
    obtain ⟨i, h1, h2⟩ := Caps.at (j := j) h.2 (by simpa using e)
    exact ⟨i, by simpa using h1, h2⟩
  | [], _ :: _, _, _, h, _ => h.elim
  | _ :: _, [], _, _, h, _ => h.elim
noncomputable def inner (cap : List Nat) (σ : St) : St := none :: cap.map fun i => (σ[i]?).join
noncomputable def PTs (X : Cx) (ifs : List Expr) (t : TT) : Prop :=
  ∀ (pins : List (Addr × Obj)) (s : Shared) (σ : St) (H : Hp) (Q : Bool → Hp → Prop), Inv X pins σ H s → t σ H Q →
    wpAny (model X.prog X.w) X.A (forIn ifs true fun c r => if r = true then do let ok ← isTrue c X.env (eval c X.env); pure (ForInStep.yield ok) else pure (ForInStep.yield r)) (TP X pins σ Q) X.xe s
noncomputable def tYes : TT := fun _ H Q => Q true H
theorem pts_nil {X : Cx} : PTs X [] tYes := fun _ _ _ H _ I h => wpAny_tests_nil ⟨H, I, h⟩
theorem compLoop_any {prog : Program} {w : World} {A : Around} {R : Result → Shared → Prop} {s : Shared} {elt target iter : Expr} {ifs : List Expr} {scope : Scope} {pos : Pos} {it acc : Value} {env : Env} (I : Nat → Shared → Prop)
    (turn : ∀ n s, I n s → wpAny (model prog w) A (pyNext it) (fun r s₁ => match r with
      | none => R (.ok .next) s₁
      | some v => wpAny (model prog w) A (letOwnedTupleGo target it v) (fun _ s₁' => wpAny (model prog w) A (assign target env v) (fun _ s₂ =>
          wpAny (model prog w) A (forIn ifs true fun c r => if r = true then do let ok ← isTrue c env (eval c env); pure (ForInStep.yield ok) else pure (ForInStep.yield r)) (fun ok s₃ =>
            if ok = true then wpAny (model prog w) A (eval elt env) (fun x s₄ =>
              wpAny (model prog w) A (call (.builtin "list.append") [acc, x]) (fun _ s₅ => ∃ m, m < n ∧ I m s₅) (fun _ _ => False) s₄) (fun _ _ => False) s₃
            else ∃ m, m < n ∧ I m s₃) (fun _ _ => False) s₂) (fun _ _ => False) s₁') (fun _ _ => False) s₁) (fun _ _ => False) s)
    (n : Nat) (h : I n s) :
    codeAny (model prog w) A (.compLoop (.ListComp elt [⟨target, iter, ifs, 0⟩] scope pos) 0 it acc env) R s := by
  refine codeAny_loop rfl I (fun n s hI => ?_) n h
  show wpAny _ A ((compTurn (.ListComp elt [⟨target, iter, ifs, 0⟩] scope pos) 0 it acc env).onRaise (fun x => do noteFrame x env; theTreesLotGoes x)) _ _ s
  refine wpAny_noted ?_
  rw [compTurn_list]
  refine wpAny_bind (wpAny_standAt (wpAny_bind (wpAny_mono (turn n s hI) (fun r s₁ h₁ => ?_) fun _ _ h' => h'.elim)))
  cases r with
  | none => exact wpAny_pure h₁
  | some v =>
    refine wpAny_bind (wpAny_mono h₁ (fun _ s₁' h₁' => ?_) fun _ _ h' => h'.elim)
    refine wpAny_bind (wpAny_mono h₁' (fun _ s₂ h₂ => wpAny_bind (wpAny_mono h₂ (fun ok s₃ h₃ => ?_) fun _ _ h' => h'.elim)) fun _ _ h' => h'.elim)
    cases ok with
    | false => exact wpAny_pure ⟨rfl, h₃⟩
    | true =>
      exact wpAny_bind (wpAny_bind (wpAny_mono h₃ (fun x s₄ h₄ => wpAny_bind (wpAny_mono h₄ (fun _ s₅ h₅ => wpAny_pure (wpAny_pure ⟨rfl, h₅⟩)) fun _ _ h' => h'.elim)) fun _ _ h' => h'.elim))
noncomputable def tComp (cap : List Nat) (wi : TI) (tc : TT) (te : TE) : TE := fun σ H Q => wi σ H fun J H1 => ∀ p, H1 p = none →
  ∃ W : Nat → Nat → List V → Hp → Prop, (∃ m, W 0 m [] (upd H1 p (.lst []))) ∧ ∀ i m xs H2, W i m xs H2 →
    (J.stop i H2 ∧ Q (.ref p) H2) ∨ (J.go i H2 ∧ ∃ N : List V → Hp → Prop, (∀ xs' H', N xs' H' → ∃ m', m' < m ∧ W (i + 1) m' xs' H') ∧
      ∀ x H3, J.yld i H2 x H3 → tc ((inner cap σ).set 0 (some x)) H3 fun b H5 => if b = true then te ((inner cap σ).set 0 (some x)) H5 fun v H6 => H6 p = some (.lst xs) ∧ xs.length < sizeLine ∧ N (xs ++ [v]) (upd H6 p (.lst (xs ++ [v]))) else N xs H5)
section
variable {X : Cx} {pins : List (Addr × Obj)} {σ : St}
structure CompScope (X : Cx) (scope : Scope) : Prop where
  cell : ∀ y ∈ scope.names, y.2 ≠ .cell
  kind : scope.kind = .function
  names : ∀ y ∈ scope.names, y.2 = .local → scope.names.lookup y.1 = some .local
  free : ∀ y ∈ scope.names, y.2 = .free → X.env.scope.names.lookup y.1 = some .cell ∨ X.env.scope.names.lookup y.1 = some .free
theorem CompScope.clos {scope : Scope} {H : Hp} {s : Shared} (S : CompScope X scope) (I : Inv X pins σ H s) : closureFor scope X.env = pure (clOf scope X.env) :=
  closureFor_eq fun y hy hf => I.ok.has y.1 (S.free y hy hf)
theorem comp_start {scope : Scope} {x : Str} {cn : List Str} {cap : List Nat} {s3 : Shared} {H3 : Hp} {fp : List Addr} {h₁ : Heap} {tk : Nat} {H2 : Hp} (S : CompScope X scope) (I : Inv X pins σ H3 s3) (hc : X.calm = true) (hcap : Caps X scope cn cap)
    (f2 : ∀ b ∈ fp, FpOk X pins H2 b) (lt : ∀ b ∈ fp, b < s3.heap.objs.size) (keep : ∀ b o, s3.heap.get? b = some o → h₁.get? b = some o) (hns : h₁.Ns s3.heap.objs.size fun _ => none) :
    Inv (cxComp X (x :: cn) scope s3.heap.objs.size s3 H3 fp) [] (inner cap σ) H3 { s3 with heap := h₁, toks := tk } := by
  have noS : ∀ b o, X.base.get? b = some o → b < X.s₀.heap.objs.size := fun b o e => Nat.lt_of_lt_of_le (Heap.lt_size e) I.ok.bsz
  refine ⟨⟨I.ok.mod, S.kind, I.ok.glob, I.ok.blt, Nat.le_refl _, fun y z c h1 h2 => I.ok.inj y z c (clOf_sub h1) (clOf_sub h2), fun y hy => ?_, fun y c h => ?_, fun _ => I.ok.hd hc, I.ok.frames, .inl rfl, fun b hb => ⟨Nat.ne_of_lt (lt b hb), fun y c h => (f2 b hb).2.2.2.2.1 y c (clOf_sub h)⟩,
    I.bs, Nat.le_trans I.ok.bsz I.sz, fun b o e hb => ?_, fun b hb z => ?_, I.stack, I.stkFree⟩, rfl, I.bare, Un.kept keep, ⟨_, hns, fun i y v e1 e2 e3 => ?_⟩, fun y c e => ?_, I.hok.fresh (Nat.le_refl _), fun y c e => I.freeC y c (clOf_sub e), fun p hp => absurd (show p ∈ ([] : List (Addr × Obj)) from hp) (by simp), I.hok.kept keep, ?_⟩
  · have m := relabel_free S.cell hy
    obtain ⟨c, hc'⟩ := I.ok.has y (S.free _ m rfl)
    exact ⟨c, clOf_has m hc'⟩
  · cases h
  · rcases (f2 b hb).2.2.2.1 with z | z
    · exact I.ok.noex b o e z
    · exact absurd (Nat.lt_of_lt_of_le (noS b o e) z) (Nat.lt_irrefl _)
  · rcases List.mem_cons.mp (I.stkSub b z) with e | e
    · exact (f2 b hb).2.1 e
    · exact (f2 b hb).2.2.1 e
  · cases i with
    | zero =>
      have e2 : (some none : Option (Option V)) = some (some v) := e2
      cases e2
    | succ j =>
      have e1 : cn[j]? = some y := e1
      obtain ⟨k, hk, hN, hkind, hfr⟩ := hcap.at e1
      have e2 : (cap.map fun i => (σ[i]?).join)[j]? = some (some v) := e2
      rw [List.getElem?_map, hk] at e2
      have e2 : (σ[k]?).join = some v := Option.some.inj e2
      have e2 : σ[k]? = some (some v) := by
        cases q : σ[k]? with
        | none => rw [q] at e2; cases e2
        | some o => rw [q] at e2; cases o with
          | none => cases e2
          | some v' => have e2 : some v' = some v := e2; rw [e2]
      obtain ⟨m, hn, hl⟩ := I.loc
      obtain ⟨u, r, l⟩ := hl k y v hN e2 (.inr hkind)
      refine ⟨u, r, ?_⟩
      rcases l with ⟨kl, _⟩ | ⟨_, c, hc', o, ho, hd⟩
      · have kl : X.env.scope.names.lookup y = some .local := kl
        rw [kl] at hkind
        rcases hkind with z | z <;> cases z
      · refine .inr ⟨?_, c, clOf_has (PySem.mem_of_lookup hfr) hc', o, keep c o ho, hd⟩
        rcases e3 with z | z
        ·
          exfalso
          have z : (relabel scope X.env).names.lookup y = some .local := z
          have hm := PySem.mem_of_lookup z
          unfold relabel at hm
          obtain ⟨⟨n, k'⟩, hp, e⟩ := List.mem_map.mp hm
          dsimp only at e
          have hl2 : (y, NameKind.local) ∈ scope.names := by
            split at e
            · cases e
            · cases e; exact hp
          have := S.names _ hl2 rfl
          rw [hfr] at this
          cases this
        · exact z
  · obtain ⟨v, o, ho, hd⟩ := I.cell y c (clOf_sub e)
    exact ⟨v, o, keep c o ho, hd⟩
  · show (inner cap σ).length = (x :: cn).length
    unfold inner
    rw [List.length_cons, List.length_map, hcap.len, List.length_cons]
theorem comp_out {scope : Scope} {N : List Str} {C : Addr} {s3 s' : Shared} {H2 H3 Hf : Hp} {fp : List Addr} {pins' : List (Addr × Obj)} {σ' : St} (I : Inv X pins σ H3 s3) (J : Inv (cxComp X N scope C s3 H3 fp) pins' σ' Hf s') (f2 : ∀ b ∈ fp, FpOk X pins H2 b) : Inv X pins σ Hf s' :=
  I.call' (ch := fp) J.os J.base J.hok J.bare fun b hb => ⟨(f2 b hb).2.2.2.1, (f2 b hb).2.1, (f2 b hb).2.2.2.2.1, (f2 b hb).2.2.2.2.2⟩
theorem comp_core {scope : Scope} {x : Str} {px pos : Pos} {elt iter : Expr} {ifs : List Expr} {cn : List Str} {cap : List Nat} {s2 : Shared} {H2 : Hp} {it : Addr} {fp : List Addr} {tn : Nat → Heap → Prop} {J : It} {tc : TT} {te : TE} {Q : VK} {RR : Value → Addr → Result → Shared → Prop} {E : Value → Shared → Prop}
    (S : CompScope X scope) (I2 : Inv X pins σ H2 s2) (hc : X.calm = true) (hcap : Caps X scope cn cap) (hx : scope.names.lookup x = some .local) (hnd : (x :: cn).Nodup)
    (T : Turn X.prog X.w X.K (.Name x px) J fp it tn) (st2 : tn 0 s2.heap) (f2 : ∀ b ∈ fp, FpOk X pins H2 b)
    (body : ∀ (C : Addr) (s : Shared) (H : Hp) (fp : List Addr), PTs (cxComp X (x :: cn) scope C s H fp) ifs tc ∧ PE (cxComp X (x :: cn) scope C s H fp) elt te)
    (q : ∀ p, H2 p = none → ∃ W : Nat → Nat → List V → Hp → Prop, (∃ m, W 0 m [] (upd H2 p (.lst []))) ∧ ∀ i m xs H3, W i m xs H3 →
      (J.stop i H3 ∧ Q (.ref p) H3) ∨ (J.go i H3 ∧ ∃ N : List V → Hp → Prop, (∀ xs' H', N xs' H' → ∃ m', m' < m ∧ W (i + 1) m' xs' H') ∧
        ∀ v H4, J.yld i H3 v H4 → tc ((inner cap σ).set 0 (some v)) H4 fun b H5 => if b = true then te ((inner cap σ).set 0 (some v)) H5 fun v H6 => H6 p = some (.lst xs) ∧ xs.length < sizeLine ∧ N (xs ++ [v]) (upd H6 p (.lst (xs ++ [v]))) else N xs H5))
    (hRR : ∀ (p C : Addr) (s3 s' : Shared) (H3 Hf : Hp) (σ' : St), Inv X pins σ H3 s3 → s3.heap.objs.size = C → Inv (cxComp X (x :: cn) scope C s3 H3 fp) [] σ' Hf s' → Q (.ref p) Hf → RR (.ref p) C (.ok .next) s') :
    wpAny (model X.prog X.w) X.A (newList []) (fun acc s₃ => wpAny (model X.prog X.w) X.A (newFunctionEnv scope X.env.globals (clOf scope X.env) [] X.env.qual none .none (some X.env)) (fun cenv s₄ =>
      codeAny (model X.prog X.w) X.A (.compStart (.ListComp elt [⟨.Name x px, iter, ifs, 0⟩] scope pos) 0 (.ref it) acc { cenv with scope := relabel scope X.env }) (RR acc cenv.locals) s₄) E s₃) E s2 := by
  refine wpAny_newObj_type (wpAny_newFunctionEnv S.cell (by intro y hy; simp at hy) (fun h₁ hns₁ hsb₁ => ?_) S.kind)
  dsimp only at hns₁ hsb₁ ⊢
  have hfr : H2 s2.heap.objs.size = none := I2.hok.fresh (Nat.le_refl _)
  obtain ⟨W, ⟨m0, w0⟩, turn⟩ := q _ hfr
  have I3 : Inv X pins σ (upd H2 s2.heap.objs.size (.lst [])) { s2 with heap := s2.heap.push { cls := .type "list", data := .seq ([] : List Value).toArray } } :=
    I2.lnew (its := []) (t' := s2.toks) .nil (Nat.zero_le _)
  generalize hs3 : ({ s2 with heap := s2.heap.push { cls := .type "list", data := .seq ([] : List Value).toArray } } : Shared) = s3 at I3
  have hs3h : s3.heap = s2.heap.push { cls := .type "list", data := .seq ([] : List Value).toArray } := by rw [← hs3]
  have hst3 : tn 0 s3.heap := T.keep _ _ _ st2 fun b hb o e => by rw [hs3h]; exact Heap.get?_push_of_some _ e
  have ltf : ∀ b ∈ fp, b < s3.heap.objs.size := fun b hb => by
    obtain ⟨o, e, _⟩ := T.obj _ _ hst3 b hb
    exact Heap.lt_size e
  have hC : (s2.heap.push { cls := .type "list", dict := none, data := .seq ([] : List Value).toArray }).objs.size = s3.heap.objs.size := by rw [hs3h]
  rw [hC] at hns₁ hsb₁ ⊢
  have keep : ∀ b o, s3.heap.get? b = some o → h₁.get? b = some o := fun b o e => by
    refine hsb₁.extBut b o (Nat.ne_of_lt (Heap.lt_size e)) (Heap.get?_push_of_some _ ?_)
    rw [hs3h] at e
    exact e
  have J4 : Inv (cxComp X (x :: cn) scope s3.heap.objs.size s3 (upd H2 s2.heap.objs.size (.lst [])) fp) [] (inner cap σ) (upd H2 s2.heap.objs.size (.lst [])) { s3 with heap := h₁, toks := s2.toks + ([] : List (Str × Value)).length } :=
    comp_start S I3 hc hcap f2 ltf keep hns₁
  have st4 : tn 0 h₁ := T.keep _ _ _ hst3 fun b hb o e => keep b o e
  have fr4 : ∀ b ∈ fp, (upd H2 s2.heap.objs.size (.lst [])) b = none := fun b hb => by
    obtain ⟨o, e, _⟩ := T.obj _ _ st2 b hb
    rw [upd_ne (Nat.ne_of_lt (Heap.lt_size e))]
    exact (f2 b hb).1
  have hst : ({ s2 with heap := h₁, toks := s2.toks + ([] : List (Str × Value)).length } : Shared) = { s3 with heap := h₁, toks := s2.toks + ([] : List (Str × Value)).length } := by rw [← hs3]
  have loop : codeAny (model X.prog X.w) X.A (.compLoop (.ListComp elt [⟨.Name x px, iter, ifs, 0⟩] scope pos) 0 (.ref it) (.ref s2.heap.objs.size) (compEnvC scope (clOf scope X.env) s3.heap.objs.size X.env))
      (RR (.ref s2.heap.objs.size) s3.heap.objs.size) { s2 with heap := h₁, toks := s2.toks + ([] : List (Str × Value)).length } := by
    rw [hst]
    generalize hX' : cxComp X (x :: cn) scope s3.heap.objs.size s3 (upd H2 s2.heap.objs.size (.lst [])) fp = X' at J4
    have hfpk : ∀ {Hc : Hp}, (∀ b ∈ fp, Hc b = none) → ∀ b ∈ fp, FpOk X' [] Hc b := fun {Hc} hn b hb => by
      subst hX'
      refine ⟨hn b hb, (J4.ok.exf b hb).1, J4.ok.exfs b hb, .inl hb, (J4.ok.exf b hb).2, fun p hp => absurd (show p ∈ ([] : List (Addr × Obj)) from hp) (by simp)⟩
    refine compLoop_any (fun n s' => ∃ i xs Hc, Inv X' [] (inner cap σ) Hc s' ∧ tn i s'.heap ∧ (∀ b ∈ fp, Hc b = none) ∧ W i n xs Hc) ?_ m0 ⟨0, [], _, J4, st4, fr4, w0⟩
    rintro n s5 ⟨i, xs, Hc, I5, st5, fr5, w5⟩
    have B := body s3.heap.objs.size s3 (upd H2 s2.heap.objs.size (.lst [])) fp
    rcases turn i n xs Hc w5 with ⟨stop, qn⟩ | ⟨go, N, hN, step⟩
    · subst hX'
      refine thn (T.done (cxComp X (x :: cn) scope s3.heap.objs.size s3 (upd H2 s2.heap.objs.size (.lst [])) fp) rfl rfl rfl rfl i [] s5 (inner cap σ) Hc (fun _ _ => False) I5 (hfpk fr5) st5 stop) fun r s6 ⟨hr, I6⟩ => ?_
      subst hr
      exact hRR _ _ s3 s6 _ Hc _ I3 rfl I6 qn
    · subst hX'
      refine thn (T.item (cxComp X (x :: cn) scope s3.heap.objs.size s3 (upd H2 s2.heap.objs.size (.lst [])) fp) rfl rfl rfl rfl i [] s5 (inner cap σ) Hc (fun _ _ => False) I5 (hfpk fr5) st5 go) fun r s6 ⟨u, hr, h6⟩ => ?_
      subst hr
      refine thn h6 fun _ s7 ⟨v, H7, I7, r7, y7, st7, fr7⟩ => ?_
      have I7' := I7.pinned (hfpk fr7) (T.obj _ _ st7)
      have hlook : (relabel scope X.env).names.lookup x = some .local := lookup_relabel_local hx
      refine wpAny_assign_Name (store_ok (X := cxComp X (x :: cn) scope s3.heap.objs.size s3 (upd H2 s2.heap.objs.size (.lst [])) fp) I7' (i := 0) hnd rfl (.inl hlook) r7 (fun s8 I8 => ?_) (.inr hlook))
      have again : ∀ {s9 : Shared} {H9 : Hp} {ys : List V}, Inv (cxComp X (x :: cn) scope s3.heap.objs.size s3 (upd H2 s2.heap.objs.size (.lst [])) fp) ([] ++ pinsAt fp s7.heap) ((inner cap σ).set 0 (some v)) H9 s9 → N ys H9 →
          ∃ m, m < n ∧ ∃ i xs Hc, Inv (cxComp X (x :: cn) scope s3.heap.objs.size s3 (upd H2 s2.heap.objs.size (.lst [])) fp) [] (inner cap σ) Hc s9 ∧ tn i s9.heap ∧ (∀ b ∈ fp, Hc b = none) ∧ W i m xs Hc := fun {s9 H9 ys} I9 n9 => by
        obtain ⟨m', hm, w9⟩ := hN ys H9 n9
        refine ⟨m', hm, i + 1, ys, H9, (I9.unpinned (pins := [])).weak (by simp [inner]) (fun j w e => ?_), T.keep _ _ _ st7 fun b hb o e => (I9.pin (b, o) (List.mem_append_right _ (List.mem_append_right _ (mem_pinsAt hb e)))).1, fun b hb => ?_, w9⟩
        · cases j with
          | zero =>
            have e : (some none : Option (Option V)) = some (some w) := e
            cases e
          | succ j => exact e
        · obtain ⟨o, e, _⟩ := T.obj _ _ st7 b hb
          exact (I9.pin (b, o) (List.mem_append_right _ (List.mem_append_right _ (mem_pinsAt hb e)))).2.1
      refine thn (B.1 _ s8 _ H7 _ I8 (step v H7 y7)) fun ok s9 ⟨H9, I9, q9⟩ => ?_
      cases ok with
      | false =>
        rw [if_neg Bool.false_ne_true] at q9 ⊢
        exact again I9 q9
      | true =>
        rw [if_pos rfl] at q9 ⊢
        refine thn (B.2 _ s9 _ H9 _ I9 q9) fun uy s10 ⟨y, H10, I10, r10, hp, hl, n10⟩ => ?_
        refine thn (mt_append _ s10 _ H10 (.ref s2.heap.objs.size) [y] (.ref s2.heap.objs.size) [uy] (fun _ H11 => N (xs ++ [y]) H11) I10 rfl (.cons r10 .nil) ⟨_, xs, y, rfl, rfl, hp, hl, n10⟩) fun _ s11 ⟨_, H11, I11, _, n11⟩ => ?_
        exact again I11 n11
  exact codeAny_compStart_list loop (T.self _ _ _ _ _ st4 loop)
theorem pe_comp {scope : Scope} {x : Str} {px pos : Pos} {elt iter : Expr} {ifs : List Expr} {cn : List Str} {cap : List Nat} {wi : TI} {tc : TT} {te : TE}
    (hc : X.calm = true) (S : CompScope X scope) (hx : scope.names.lookup x = some .local) (hnd : (x :: cn).Nodup) (hcap : Caps X scope cn cap) (hi : PI X (.Name x px) iter wi)
    (body : ∀ (C : Addr) (s : Shared) (H : Hp) (fp : List Addr), PTs (cxComp X (x :: cn) scope C s H fp) ifs tc ∧ PE (cxComp X (x :: cn) scope C s H fp) elt te)
    (hs : ∀ x, foldedSetIterable iter X.env x = pure x := by intro _; rfl) : PE X (.ListComp elt [⟨.Name x px, iter, ifs, 0⟩] scope pos) (tComp cap wi tc te) := by
  intro pins s σ H Q I h
  rw [eval_ListComp]
  refine wpAny_comprehension_free (use := none) rfl hs (S.clos I) S.kind S.names (thn (hi pins s σ H _ I h) fun xv s1 h1 => thn h1 fun itv s2 h2 => ?_)
  obtain ⟨it, fp, tn, J, H2, e, I2, T, st2, f2, q⟩ := h2
  subst e
  refine comp_core (RR := fun acc C => compPost (model X.prog X.w) X.A X.xe none (EP X pins σ Q) acc C) S I2 hc hcap hx hnd T st2 f2 body q ?_
  intro p C s3 s' H3 Hf σ' I3 hC J' qf
  subst hC
  have I4 := comp_out I3 J' f2
  obtain ⟨m, hn, _⟩ := J'.loc
  refine ⟨m, hn, fun h' hs' => ?_⟩
  refine ⟨.ref p, Hf, ?_, rfl, qf⟩
  have f := I3.fpOk (H' := Hf) (Nat.le_refl _) J'.free
  exact I4.turned (t' := s'.toks) (it := s3.heap.objs.size) (fun b o hb e => (hs'.2 b hb).trans e) f.1 f.2.1 f.2.2.2.1 f.2.2.2.2.1 f.2.2.2.2.2
end
end L2
set_option Elab.async false
set_option maxRecDepth 100000
namespace L2
open PySem PySem.Spec PyProof.Rows
theorem bt_len : bootBuiltins "len" = some (.builtin "len") := by decide +kernel
theorem bt_isinstance : bootBuiltins "isinstance" = some (.builtin "isinstance") := by decide +kernel
theorem bt_list : bootBuiltins "list" = some (.type "list") := by decide +kernel
theorem bt_tuple : bootBuiltins "tuple" = some (.type "tuple") := by decide +kernel
theorem bt_str : bootBuiltins "str" = some (.type "str") := by decide +kernel
theorem bt_bool : bootBuiltins "bool" = some (.type "bool") := by decide +kernel
theorem pe_globI {X : Cx} {x : Str} {i : Int} {pos : Pos} (hg : Gl X x) (h : ∃ t, X.mg x = some (.int i t)) (hd : (x == ("__debug__" : Str)) = false := by decide) : PE X (.Name x pos) (tC (.int i)) := by
  obtain ⟨t, h⟩ := h
  exact pe_glob (u := .int i t) hg h ⟨t, rfl⟩ hd
noncomputable def kitC (T c : String) : Option Bool := if (T == c) = true then some true else if PySem.W.kitMeta c = true then (fastBuiltinMro T).map (·.contains (.type c)) else none
theorem kit_of {K : PySem.W.Frag} {T c : String} {b : Bool} (h : kitC T c = some b) : PySem.W.kitOne K (.type T) (.type c) = some b := by
  unfold kitC at h
  unfold PySem.W.kitOne
  by_cases e : T = c
  · subst e
    rw [if_pos (by simp)] at h
    rw [if_pos (by simp)]
    exact h
  · rw [if_neg (by simpa using e)] at h
    rw [if_neg (by intro z; exact e (by simpa using z))]
    exact h
structure DefOk (P : Program) (w : World) (K : PySem.W.Frag) (mg : Str → Option Value) (base : Heap) (x : Str) (k : Nat) (ps : List Str) (sp : Sp) : Prop where
  ex : ∃ f fd, FnOk P w K mg base CX0 k f fd ps sp ∧ mg x = some (.ref f) ∧ PySem.W.keepIn K (.ref f) = true ∧ Binds K fd ps []
section
variable {X : Cx} {x : Str} {k j : Nat} {ps : List Str} {sp : Sp} {e : Expr} {es : List Expr} {t : TA} {p pos : Pos}
theorem pe_def (F : DefOk X.prog X.w X.K X.mg X.base x k ps sp) (hr : Room j X.A) (hj : k ≤ j) (hg : Gl X x) (ha : PA X (e :: es) t) (hdb : (x == ("__debug__" : Str)) = false := by decide)
    (he : starEach (e :: es) X.env = (false, eval e X.env) :: starEach es X.env := by rfl) (hpl : (backTo pos (starEach es X.env)).any (·.1) = false := by rfl) :
    PE X (.Call (.Name x p) (e :: es) [] pos) (tCall sp [] E0 t) := by
  obtain ⟨f, fd, G, m, kp, b⟩ := F.ex
  exact pe_call G (hr.mono hj) hg m kp b .nil pass0 ha hdb he hpl
end
theorem def_of {P : Program} {w : World} {K : PySem.W.Frag} {mg : Str → Option Value} {base : Heap} {x : Str} {st : Stmt} {f : Addr} {fd : FuncData} {k : Nat} {ps : List Str} {sp : Sp} (F : Fun K x x st f fd) (m : mg x = some (.ref f)) (b : Binds K fd ps []) (G : FnOk P w K mg base CX0 k f fd ps sp) : DefOk P w K mg base x k ps sp :=
  ⟨f, fd, G, m, F.kp, b⟩
theorem free_of {X : Cx} {scope : Scope} (h : (scope.names.all fun p => p.2 != .free || X.env.scope.names.lookup p.1 == some .cell || X.env.scope.names.lookup p.1 == some .free) = true) :
    ∀ y ∈ scope.names, y.2 = .free → X.env.scope.names.lookup y.1 = some .cell ∨ X.env.scope.names.lookup y.1 = some .free := fun y hy hf => by
  have := List.all_eq_true.mp h y hy
  rw [hf] at this
  simpa using this
theorem Same.new {H : Hp} {p : Addr} {o : HO} (h : H p = none) : Same H (upd H p o) := fun b u e => by rw [upd_ne (ne_of_none e h)]; exact e
theorem Same.put {H H' : Hp} {p : Addr} {o : HO} (s : Same H H') (h : H p = none) : Same H (upd H' p o) := fun b u e => by rw [upd_ne (ne_of_none e h)]; exact s b u e
noncomputable def Its (x : Str) : It := ⟨fun i _ => i < x.cps.size, fun i H v H' => H' = H ∧ ∃ c, x.cps[i]? = some c ∧ v = .str ⟨#[c]⟩, fun i _ => i = x.cps.size⟩
noncomputable def StrIt (it : Addr) (x : Str) (t : Tok) (i : Nat) (h : Heap) : Prop := h.IsStrIter it "str_ascii_iterator" x t i ∨ h.IsStrIter it "str_iterator" x t i
theorem turn_str {P : Program} {w : World} {K : PySem.W.Frag} {tg : Expr} (x : Str) (t : Tok) (it : Addr) : Turn P w K tg (Its x) [it] it (StrIt it x t) where
  mem := by simp
  obj := fun i h st b hb => by
    have e : b = it := by simpa using hb
    subst e
    rcases st with ⟨o, e, c, d⟩ | ⟨o, e, c, d⟩ <;> exact ⟨o, e, fun v z => by rw [d] at z; cases z⟩
  keep := fun i h h' st k => by
    rcases st with ⟨o, e, r⟩ | ⟨o, e, r⟩
    · exact .inl ⟨o, k it (by simp) o e, r⟩
    · exact .inr ⟨o, k it (by simp) o e, r⟩
  item := by
    intro X hP hw hK hc i pins s σ H E I hf st hg
    subst hP hw hK
    obtain ⟨f0, f1, f2, f3, f4, f5⟩ := hf it (by simp)
    rcases st with st | st
    · refine (Walks.strAscii (prog := X.prog) (w := X.w) (I.ok.hd hc) it x t).item i s _ _ hg st fun v h' tk hv st' kk => ?_
      obtain ⟨c, u, hcx, rfl⟩ := hv
      have I1 := I.turned (h' := h') (t' := tk) (fun b o hb e => kk b o (by simpa using hb) e) f0 f1 f3 f4 f5
      obtain ⟨o, e, hc', d⟩ := id st'
      exact ⟨_, rfl, go_of (s := { s with heap := h', toks := tk }) e hc' d (by decide) ⟨.str ⟨#[c]⟩, H, I1, ⟨u, rfl⟩, ⟨rfl, c, hcx, rfl⟩, .inl st', fun b hb => (hf b hb).1⟩⟩
    · refine (Walks.strWide (prog := X.prog) (w := X.w) (I.ok.hd hc) it x t).item i s _ _ hg st fun v h' tk hv st' kk => ?_
      obtain ⟨c, u, hcx, rfl⟩ := hv
      have I1 := I.turned (h' := h') (t' := tk) (fun b o hb e => kk b o (by simpa using hb) e) f0 f1 f3 f4 f5
      obtain ⟨o, e, hc', d⟩ := id st'
      exact ⟨_, rfl, go_of (s := { s with heap := h', toks := tk }) e hc' d (by decide) ⟨.str ⟨#[c]⟩, H, I1, ⟨u, rfl⟩, ⟨rfl, c, hcx, rfl⟩, .inr st', fun b hb => (hf b hb).1⟩⟩
  done := by
    intro X hP hw hK hc i pins s σ H E I hf st hg
    subst hP hw hK
    obtain ⟨f0, f1, f2, f3, f4, f5⟩ := hf it (by simp)
    have hg : i = x.cps.size := hg
    subst hg
    rcases st with st | st
    · exact (Walks.strAscii (prog := X.prog) (w := X.w) (I.ok.hd hc) it x t).done s _ _ st fun h' tk kk => ⟨rfl, I.turned (fun b o hb e => kk b o (by simpa using hb) e) f0 f1 f3 f4 f5⟩
    · exact (Walks.strWide (prog := X.prog) (w := X.w) (I.ok.hd hc) it x t).done s _ _ st fun h' tk kk => ⟨rfl, I.turned (fun b o hb e => kk b o (by simpa using hb) e) f0 f1 f3 f4 f5⟩
  self := fun _ _ _ _ _ st h => by
    rcases st with st | st
    · exact wpAny_pyIter_striter_ascii st h
    · exact wpAny_pyIter_striter_wide st h
section
variable {X : Cx} {tg : Expr}
noncomputable def iAny (K : PySem.W.Frag) (tl : TE) : TI := fun σ H R => tl σ H fun v H1 => match v with
  | .str x => R (Its x) H1
  | .ref a => ((∃ xs, SqL K H1 a xs) ∧ R (Itl K a) H1) ∨ ((∃ xs, SqT K H1 a xs) ∧ R (Itt K a) H1)
  | _ => False
theorem pi_any {l : Expr} {tl : TE} (hl : PE X l tl) : PI X tg l (iAny X.K tl) := by
  intro pins s σ H R I h
  refine thn (hl pins s σ H _ I h) fun v s1 ⟨x, H1, I1, r1, q1⟩ => ?_
  have one : ∀ b ∈ [s1.heap.objs.size], FpOk X pins H1 b := fun b hb => by
    have e : b = s1.heap.objs.size := by simpa using hb
    subst e
    exact I1.fpOk (Nat.le_refl _) (I1.hok.fresh (Nat.le_refl _))
  cases x with
  | str z =>
    obtain ⟨t, rfl⟩ := r1
    have q1 : R (Its z) H1 := q1
    cases ha : z.cps.all (· < 128)
    · exact wpAny_pyIter_wide ha ⟨s1.heap.objs.size, [s1.heap.objs.size], _, _, H1, rfl, I1.kept (t' := s1.toks) fun b o e => Heap.get?_push_of_some _ e, turn_str z t _, .inr ⟨_, Heap.get?_push_size _ rfl, rfl, rfl⟩, one, q1⟩
    · exact wpAny_pyIter_ascii ha ⟨s1.heap.objs.size, [s1.heap.objs.size], _, _, H1, rfl, I1.kept (t' := s1.toks) fun b o e => Heap.get?_push_of_some _ e, turn_str z t _, .inl ⟨_, Heap.get?_push_size _ rfl, rfl, rfl⟩, one, q1⟩
  | ref a =>
    cases r1
    have q1 : ((∃ xs, SqL X.K H1 a xs) ∧ R (Itl X.K a) H1) ∨ ((∃ xs, SqT X.K H1 a xs) ∧ R (Itt X.K a) H1) := q1
    rcases q1 with ⟨⟨xs, hq⟩, q⟩ | ⟨⟨xs, hq⟩, q⟩
    · obtain ⟨its, rv, p, hz⟩ := I1.list hq
      exact wpAny_pyIter_list p.isList ⟨s1.heap.objs.size, [s1.heap.objs.size], _, _, H1, rfl, I1.kept (t' := s1.toks) fun b o e => Heap.get?_push_of_some _ e, turn_list a _, ⟨_, Heap.get?_push_size _ rfl, rfl, rfl⟩, one, q⟩
    · obtain ⟨its, rv, p, hz⟩ := I1.tuple hq
      exact wpAny_pyIter_tuple (show s1.heap.IsTuple a its.toArray from p) ⟨s1.heap.objs.size, [s1.heap.objs.size], _, _, H1, rfl, I1.kept (t' := s1.toks) fun b o e => Heap.get?_push_of_some _ e, turn_tuple a _, ⟨_, Heap.get?_push_size _ rfl, rfl, rfl⟩, one, q⟩
  | _ => exact (show False from q1).elim
end
structure Yields (J : It) (H : Hp) (xs : List V) : Prop where
  go : ∀ i H', Same H H' → i < xs.length → J.go i H'
  stop : ∀ H', Same H H' → J.stop xs.length H'
  yld : ∀ i H' x H'', Same H H' → i < xs.length → J.yld i H' x H'' → H'' = H' ∧ xs[i]? = some x
noncomputable def signsV (x : Str) : List V := x.cps.toList.map fun c => .str ⟨#[c]⟩
theorem yields_str (x : Str) (H : Hp) : Yields (Its x) H (signsV x) where
  go := fun i H' _ hi => by
    have : (signsV x).length = x.cps.size := by simp [signsV]
    show i < x.cps.size
    omega
  stop := fun H' _ => by
    show (signsV x).length = x.cps.size
    simp [signsV]
  yld := fun i H' v H'' _ _ y => by
    obtain ⟨rfl, c, hc, rfl⟩ := y
    refine ⟨rfl, ?_⟩
    simp only [signsV, List.getElem?_map, Array.getElem?_toList, hc, Option.map_some]
theorem yields_range (lo : Int) (n : Nat) (H : Hp) : Yields (Itr lo n) H ((List.range n).map fun (i : Nat) => V.int (lo + (i : Int))) where
  go := fun i H' _ hi => by
    show i < n
    simpa using hi
  stop := fun H' _ => by
    show n ≤ ((List.range n).map fun (i : Nat) => V.int (lo + (i : Int))).length
    simp
  yld := fun i H' v H'' _ hi y => by
    obtain ⟨rfl, rfl⟩ := y
    rw [List.length_map, List.length_range] at hi
    refine ⟨rfl, ?_⟩
    simp [hi]
theorem yields_list {K : PySem.W.Frag} {a : Addr} {xs : List V} {H : Hp} (h : SqL K H a xs) : Yields (Itl K a) H xs where
  go := fun i H' s hi => ⟨xs, xs[i], s.seq h, by simp [hi]⟩
  stop := fun H' s => ⟨xs, s.seq h, Nat.le_refl _⟩
  yld := fun i H' v H'' s _ y => ⟨y.1, y.2 xs (s.seq h)⟩
section
variable {X : Cx}
noncomputable def rPlus (K : PySem.W.Frag) : R2 := fun x y H Q => match x, y with
  | .int i, .int j => Q (.int (i + j)) H
  | .str a, .str b => a.length + b.length ≤ sizeLine ∧ Q (.str (a ++ b)) H
  | .ref a, .ref b => ∃ xs ys, Rd H a (.lst xs) ∧ Rd H b (.lst ys) ∧ xs.length + ys.length ≤ sizeLine ∧ ∀ p, H p = none → Q (.ref p) (upd H p (.lst (xs ++ ys)))
  | _, _ => False
theorem op_catS : OpR X (binaryOp .Add) (fun x y H Q => ∃ a b xs ys, x = .ref a ∧ y = .ref b ∧ Rd H a (.lst xs) ∧ Rd H b (.lst ys) ∧ xs.length + ys.length ≤ sizeLine ∧ ∀ p, H p = none → Q (.ref p) (upd H p (.lst (xs ++ ys)))) := by
  intro pins s σ H x y v u Q I rx ry h
  obtain ⟨l, b, xs, zs, rfl, rfl, hH, hB, hz, q⟩ := h
  cases rx
  cases ry
  obtain ⟨z, its, n, r, e⟩ := hH.ok I.hok
  obtain ⟨z2, its2, n2, r2, e2⟩ := hB.ok I.hok
  have hl := r.length
  have hl2 := r2.length
  refine PySem.P.add_list e e2 ?_ (by rw [List.size_toArray, List.size_toArray]; omega)
  have ea : its.toArray ++ its2.toArray = (its ++ its2).toArray := by simp
  rw [ea]
  exact ⟨.ref _, _, I.lnew (t' := s.toks) (r.append r2) (by rw [List.length_append]; omega), rfl, q _ I.fresh⟩
theorem op_plus : OpR X (binaryOp .Add) (rPlus X.K) := by
  intro pins s σ H x y v u Q I rx ry h
  cases x with
  | int i => cases y with
    | int j => exact op_add pins s σ H _ _ v u Q I rx ry ⟨i, j, rfl, rfl, h⟩
    | _ => exact (show False from h).elim
  | str a => cases y with
    | str b => exact op_add_str pins s σ H _ _ v u Q I rx ry ⟨a, b, rfl, rfl, h.1, h.2⟩
    | _ => exact (show False from h).elim
  | ref a => cases y with
    | ref b =>
      obtain ⟨xs, ys, h1, h2, h3, h4⟩ := h
      exact op_catS pins s σ H _ _ v u Q I rx ry ⟨a, b, xs, ys, rfl, rfl, h1, h2, h3, h4⟩
    | _ => exact (show False from h).elim
  | _ => exact (show False from h).elim
noncomputable def rOrd (fi : Int → Int → Bool) (fs : List Nat → List Nat → Bool) : R2 := fun x y H Q => match x, y with
  | .int i, .int j => Q (.bl (fi i j)) H
  | .str a, .str b => Q (.bl (fs a.cps.toList b.cps.toList)) H
  | _, _ => False
theorem ord_of {f : Value → Value → Sem Value} {fi : Int → Int → Bool} {fs : List Nat → List Nat → Bool} (hi : OpR X f (rI0 fun i j => .bl (fi i j)))
    (hs : ∀ (s : Shared) (a b : Str) (t u : Tok) (Q : Value → Shared → Prop), Q (.bool (fs a.cps.toList b.cps.toList)) s → wpAny (model X.prog X.w) X.A (f (.str a t) (.str b u)) Q X.xe s) : OpR X f (rOrd fi fs) := by
  intro pins s σ H x y v u Q I rx ry h
  cases x with
  | int i => cases y with
    | int j => exact hi pins s σ H _ _ v u Q I rx ry ⟨i, j, rfl, rfl, h⟩
    | _ => exact (show False from h).elim
  | str a => cases y with
    | str b =>
      obtain ⟨t, rfl⟩ := rx
      obtain ⟨t', rfl⟩ := ry
      exact hs s a b t t' _ ⟨.bl _, H, I, rfl, h⟩
    | _ => exact (show False from h).elim
  | _ => exact (show False from h).elim
theorem op_ltU : OpR X (compareOp .Lt) (rOrd (fun i j => decide (i < j)) fun a b => decide (a < b)) := ord_of op_lt fun _ _ _ _ _ _ h => lt_str h
theorem op_leU : OpR X (compareOp .LtE) (rOrd (fun i j => decide (i ≤ j)) fun a b => !decide (b < a)) := ord_of op_le fun _ _ _ _ _ _ h => PySem.P.le_str h
theorem op_gtU : OpR X (compareOp .Gt) (rOrd (fun i j => decide (j < i)) fun a b => decide (b < a)) := ord_of op_gt fun _ _ _ _ _ _ h => PySem.P.gt_str h
noncomputable def rMul (K : PySem.W.Frag) : R2 := fun x y H Q => match x, y with
  | .int i, .int j => CMul i j ∧ Q (.int (i * j)) H
  | .ref l, .int k => ∃ xs, H l = some (.lst xs) ∧ -(2 ^ 63) ≤ k ∧ k < 2 ^ 63 ∧ xs.length * k.toNat ≤ sizeLine ∧ ∀ p, H p = none → Q (.ref p) (upd H p (.lst (List.replicate k.toNat xs).flatten))
  | _, _ => False
theorem op_mulU : OpR X (binaryOp .Mult) (rMul X.K) := by
  intro pins s σ H x y v u Q I rx ry h
  cases x with
  | int i => cases y with
    | int j => exact op_mul pins s σ H _ _ v u Q I rx ry ⟨i, j, rfl, rfl, h.1, h.2⟩
    | _ => exact (show False from h).elim
  | ref l => cases y with
    | int k =>
      obtain ⟨xs, h1, h2, h3, h4, h5⟩ := h
      exact op_rep pins s σ H _ _ v u Q I rx ry ⟨l, k, xs, rfl, rfl, h1, h2, h3, h4, h5⟩
    | _ => exact (show False from h).elim
  | _ => exact (show False from h).elim
noncomputable def rSl (K : PySem.W.Frag) : V → Option Int → Option Int → Hp → VK → Prop := fun x lo hi H Q => match x with
  | .str z => z.length ≤ sizeLine ∧ Q (.str (Txt.slice z lo hi)) H
  | .ref a => (∃ xs, SqL K H a xs ∧ ∀ p, H p = none → Q (.ref p) (upd H p (.lst (cutV xs lo hi))))
  | _ => False
theorem sl_str : SlR X (fun x lo hi H Q => ∃ z, x = .str z ∧ z.length ≤ sizeLine ∧ Q (.str (Txt.slice z lo hi)) H) := by
  intro pins s σ H x v vl vu lo hi sl Q I rx hs pl pu h
  obtain ⟨z, rfl, hz, q⟩ := h
  obtain ⟨t, rfl⟩ := rx
  refine ⟨"str", _, F.slot_str_getitem.lookup, typeIs_str _ _ _, ?_⟩
  have fin : ∀ (t' : Tok) (k : Nat), EP X pins σ Q (.str (Txt.slice z lo hi) t') { s with toks := k } := fun t' k => ⟨.str _, H, I.tok k, ⟨t', rfl⟩, q⟩
  cases pl with
  | none => cases pu with
    | none => exact wpAny_getItem_str_slice (l := none) (u := none) (st := none) hs rfl (post_val_or_str ⟨Nat.le_trans (Txt.slice_le z _ _) hz, fin⟩)
    | int j uj => exact wpAny_getItem_str_slice (l := none) (u := some (j, uj)) (st := none) hs rfl (post_val_or_str ⟨Nat.le_trans (Txt.slice_le z _ _) hz, fin⟩)
  | int i ui => cases pu with
    | none => exact wpAny_getItem_str_slice (l := some (i, ui)) (u := none) (st := none) hs rfl (post_val_or_str ⟨Nat.le_trans (Txt.slice_le z _ _) hz, fin⟩)
    | int j uj => exact wpAny_getItem_str_slice (l := some (i, ui)) (u := some (j, uj)) (st := none) hs rfl (post_val_or_str ⟨Nat.le_trans (Txt.slice_le z _ _) hz, fin⟩)
theorem sl_any : SlR X (rSl X.K) := by
  intro pins s σ H x v vl vu lo hi sl Q I rx hs pl pu h
  cases x with
  | str z => exact sl_str pins s σ H _ v vl vu lo hi sl Q I rx hs pl pu ⟨z, rfl, h.1, h.2⟩
  | ref a =>
    obtain ⟨xs, h1, h2⟩ := h
    exact sl_list pins s σ H _ v vl vu lo hi sl Q I rx hs pl pu ⟨a, xs, rfl, h1, h2⟩
  | _ => exact (show False from h).elim
noncomputable def rAt (K : PySem.W.Frag) : R2 := fun x y H Q => match x, y with
  | .str z, .int i => z.length ≤ sizeLine ∧ ∃ c, atI z.cps.toList i = some c ∧ Q (.str ⟨#[c]⟩) H
  | .ref p, .int i => (∃ xs v, SqL K H p xs ∧ atI xs i = some v ∧ Q v H) ∨ (∃ xs v, SqT K H p xs ∧ atI xs i = some v ∧ Q v H)
  | _, _ => False
theorem ix_any : IxR X (rAt X.K) := by
  intro value slice pins s σ H x y v u Q I rx ry q hs
  cases x with
  | str z => cases y with
    | int i =>
      obtain ⟨hz, c, hc, q⟩ := q
      exact ix_str value slice pins s σ H _ _ v u Q I rx ry ⟨z, i, c, rfl, rfl, hz, hc, q⟩ hs
    | _ => exact (show False from q).elim
  | ref p => cases y with
    | int i =>
      rcases q with ⟨xs, w', h1, h2, h3⟩ | ⟨xs, w', h1, h2, h3⟩
      · exact ix_list value slice pins s σ H _ _ v u Q I rx ry ⟨p, xs, i, w', rfl, rfl, h1, h2, h3⟩ hs
      · exact ix_tup value slice pins s σ H _ _ v u Q I rx ry ⟨p, xs, i, w', rfl, rfl, h1, h2, h3⟩ hs
    | _ => exact (show False from q).elim
  | _ => exact (show False from q).elim
noncomputable def rLen (K : PySem.W.Frag) : List V → Hp → VK → Prop := fun vs H Q => match vs with
  | [.str z] => z.length ≤ sizeLine ∧ Q (.int z.length) H
  | [.ref p] => ∃ ys, (SqL K H p ys ∨ SqT K H p ys) ∧ Q (.int ys.length) H
  | _ => False
theorem call_lenU : CallR X (.builtin "len") (rLen X.K) := by
  intro pins s σ H vs us Q I r h
  match vs, h with
  | [.str z], h => exact call_len_str pins s σ H _ us Q I r ⟨z, rfl, h.1, h.2⟩
  | [.ref p], h =>
    obtain ⟨ys, h1, h2⟩ := h
    exact call_len_seq pins s σ H _ us Q I r ⟨p, ys, rfl, h1, h2⟩
end
end L2
set_option Elab.async false
set_option maxRecDepth 100000
namespace L2
open PySem PySem.Spec PyProof.Rows
structure EqTy (K : PySem.W.Frag) (k : Nat) {α : Type} [DecidableEq α] (R : Hp → V → α → Prop) : Prop where
  fn : ∀ {X : Cx} {pins : List (Addr × Obj)} {σ : St} {H : Hp} {s : Shared} {x : V} {a b : α}, X.K = K → Inv X pins σ H s → R H x a → R H x b → a = b
  eq : ∀ {X : Cx} {pins : List (Addr × Obj)} {σ : St} {H : Hp} {s : Shared} {x y : V} {u v : Value} {a b : α} (A : Around), X.K = K → Inv X pins σ H s → A.units + k < cLine → RelV x u → RelV y v → R H x a → R H y b → SeqAt.EqAt A s u v (decide (a = b))
  rc : ∀ {X : Cx} {pins : List (Addr × Obj)} {σ : St} {H : Hp} {s : Shared} {x y : V} {u v : Value} {a b : α} (A : Around), X.K = K → Inv X pins σ H s → A.units + k < cLine → RelV x u → RelV y v → R H x a → R H y b → SeqAt.RcAt A s u v (decide (a = b)) ∧ SeqAt.RcNeAt A s u v (!decide (a = b))
noncomputable def isStr : Hp → V → Str → Prop := fun _ x a => x = .str a
noncomputable def isInt : Hp → V → Int → Prop := fun _ x a => x = .int a
noncomputable def isBl : Hp → V → Bool → Prop := fun _ x a => x = .bl a
theorem dec_beq {α : Type} [DecidableEq α] [BEq α] [LawfulBEq α] (a b : α) : (a == b) = decide (a = b) := by
  by_cases h : a = b
  · subst h; simp
  · rw [decide_eq_false h]; simpa using h
theorem eqStr {K : PySem.W.Frag} : EqTy K 0 isStr where
  fn := fun _ _ h1 h2 => by cases h1; cases h2; rfl
  eq := fun A _ _ _ r1 r2 h1 h2 => by
    cases h1; cases h2
    obtain ⟨t, rfl⟩ := r1
    obtain ⟨t', rfl⟩ := r2
    rw [← dec_beq]
    exact SeqAt.EqAt.str_str _ _ _ _
  rc := fun A _ _ _ r1 r2 h1 h2 => by
    cases h1; cases h2
    obtain ⟨t, rfl⟩ := r1
    obtain ⟨t', rfl⟩ := r2
    rw [← dec_beq]
    exact ⟨SeqAt.RcAt.str_str _ _ _ _, SeqAt.RcNeAt.str_str _ _ _ _⟩
theorem eqInt {K : PySem.W.Frag} : EqTy K 0 isInt where
  fn := fun _ _ h1 h2 => by cases h1; cases h2; rfl
  eq := fun A _ _ _ r1 r2 h1 h2 => by
    cases h1; cases h2
    obtain ⟨t, rfl⟩ := r1
    obtain ⟨t', rfl⟩ := r2
    rw [← dec_beq]
    exact SeqAt.EqAt.int_int _ _ _ _
  rc := fun A _ _ _ r1 r2 h1 h2 => by
    cases h1; cases h2
    obtain ⟨t, rfl⟩ := r1
    obtain ⟨t', rfl⟩ := r2
    rw [← dec_beq]
    exact ⟨SeqAt.RcAt.int_int _ _ _ _, SeqAt.RcNeAt.int_int _ _ _ _⟩
theorem eqBl {K : PySem.W.Frag} : EqTy K 0 isBl where
  fn := fun _ _ h1 h2 => by cases h1; cases h2; rfl
  eq := fun A _ _ _ r1 r2 h1 h2 => by
    cases h1; cases h2
    cases r1; cases r2
    rw [← dec_beq]
    exact SeqAt.EqAt.bool_bool _ _
  rc := fun A _ _ _ r1 r2 h1 h2 => by
    cases h1; cases h2
    cases r1; cases r2
    rw [← dec_beq]
    exact ⟨SeqAt.RcAt.bool_bool _ _, SeqAt.RcNeAt.bool_bool _ _⟩
theorem Paired.at' {α β : Type} {F : α → β → Prop} : ∀ {l₁ : List α} {l₂ : List β} {i : Nat} {a : α} {b : β}, Paired F l₁ l₂ → l₁[i]? = some a → l₂[i]? = some b → F a b
  | _, _, _, _, _, .nil, e, _ => by simp at e
  | _, _, 0, _, _, .cons h _, e1, e2 => by simp at e1 e2; subst e1; subst e2; exact h
  | _, _, i + 1, _, _, .cons _ t, e1, e2 => Paired.at' (i := i) t (by simpa using e1) (by simpa using e2)
theorem paired_fn {α β : Type} {F : α → β → Prop} (hf : ∀ a b c, F a b → F a c → b = c) : ∀ {xs : List α} {as bs : List β}, Paired F xs as → Paired F xs bs → as = bs
  | _, _, _, .nil, .nil => rfl
  | _, _, _, .cons h t, .cons h' t' => by rw [hf _ _ _ h h', paired_fn hf t t']
theorem all_dec {α : Type} [DecidableEq α] : ∀ (as bs : List α) (hl : as.length = bs.length), ((List.range as.length).all fun j => decide (as[j]? = bs[j]?)) = decide (as = bs) := by
  intro as bs hl
  apply Bool.eq_iff_iff.mpr
  rw [decide_eq_true_iff, List.all_eq_true]
  constructor
  · intro h
    apply List.ext_getElem?
    intro i
    by_cases hi : i < as.length
    · exact of_decide_eq_true (h i (List.mem_range.mpr hi))
    · rw [List.getElem?_eq_none (by omega), List.getElem?_eq_none (by omega)]
  · rintro rfl i _
    simp
noncomputable def isLst (K : PySem.W.Frag) {α : Type} (R : Hp → V → α → Prop) : Hp → V → List α → Prop := fun H x as => ∃ l xs, x = .ref l ∧ SqL K H l xs ∧ Paired (R H) xs as
theorem items_eqAt {K : PySem.W.Frag} {k : Nat} {α : Type} [DecidableEq α] {R : Hp → V → α → Prop} (E : EqTy K k R) {X : Cx} {pins : List (Addr × Obj)} {σ : St} {H : Hp} {s : Shared} {A : Around} (hK : X.K = K) (I : Inv X pins σ H s) (hu : A.units + (k + 1) < cLine)
    {xs ys : List V} {us vs : List Value} {as bs : List α} (rx : Vals xs us) (ry : Vals ys vs) (px : Paired (R H) xs as) (py : Paired (R H) ys bs) :
    ∀ j (h1 : j < us.toArray.size) (h2 : j < vs.toArray.size), SeqAt.EqAt A.in1 s us.toArray[j] vs.toArray[j] (decide (as[j]? = bs[j]?)) := by
  intro j h1 h2
  have h1' : j < us.length := by simpa using h1
  have h2' : j < vs.length := by simpa using h2
  have lx := rx.length
  have ly := ry.length
  have lpx := Paired.length px
  have lpy := Paired.length py
  have ex : xs[j]? = some xs[j] := List.getElem?_eq_getElem (by omega)
  have ey : ys[j]? = some ys[j] := List.getElem?_eq_getElem (by omega)
  have ea : as[j]? = some as[j] := List.getElem?_eq_getElem (by omega)
  have eb : bs[j]? = some bs[j] := List.getElem?_eq_getElem (by omega)
  obtain ⟨u, hu', ru⟩ := rx.get ex
  obtain ⟨v, hv', rv⟩ := ry.get ey
  have e1 : us.toArray[j] = u := by
    rw [List.getElem?_eq_getElem h1'] at hu'
    simpa using hu'
  have e2 : vs.toArray[j] = v := by
    rw [List.getElem?_eq_getElem h2'] at hv'
    simpa using hv'
  rw [e1, e2, ea, eb]
  have := E.eq A.in1 hK I (show A.units + 1 + k < cLine by omega) ru rv (Paired.at' px ex ea) (Paired.at' py ey eb)
  have e3 : decide (some as[j] = some bs[j]) = decide (as[j] = bs[j]) := by simp
  rw [e3]
  exact this
theorem eqLst {K : PySem.W.Frag} {k : Nat} {α : Type} [DecidableEq α] {R : Hp → V → α → Prop} (E : EqTy K k R) : EqTy K (k + 1) (isLst K R) := by
  have fn : ∀ {X : Cx} {pins : List (Addr × Obj)} {σ : St} {H : Hp} {s : Shared} {x : V} {a b : List α}, X.K = K → Inv X pins σ H s → isLst K R H x a → isLst K R H x b → a = b := by
    intro X pins σ H s x a b hK I ha hb
    obtain ⟨l, xs, rfl, h1, p1⟩ := ha
    obtain ⟨l', ys, e, h2, p2⟩ := hb
    cases e
    subst hK
    have := I.list_inj h1 h2
    subst this
    exact paired_fn (F := R H) (fun _ _ _ p q => E.fn rfl I p q) p1 p2
  have rc : ∀ {X : Cx} {pins : List (Addr × Obj)} {σ : St} {H : Hp} {s : Shared} {x y : V} {u v : Value} {a b : List α} (A : Around), X.K = K → Inv X pins σ H s → A.units + (k + 1) < cLine → RelV x u → RelV y v → isLst K R H x a → isLst K R H y b →
      SeqAt.RcAt A s u v (decide (a = b)) ∧ SeqAt.RcNeAt A s u v (!decide (a = b)) := by
    intro X pins σ H s x y u v a b A hK I hu r1 r2 ha hb
    obtain ⟨l, xs, rfl, h1, p1⟩ := ha
    obtain ⟨l', ys, rfl, h2, p2⟩ := hb
    cases r1; cases r2
    subst hK
    obtain ⟨us, rx, plx, _⟩ := I.list h1
    obtain ⟨vs, ry, ply, _⟩ := I.list h2
    have lx := rx.length
    have ly := ry.length
    have lpx := Paired.length p1
    have lpy := Paired.length p2
    by_cases hl : a.length = b.length
    · have hsz : us.toArray.size = vs.toArray.size := by simp; omega
      have it := items_eqAt E rfl I hu rx ry p1 p2
      have ed : ((List.range us.toArray.size).all fun j => decide (a[j]? = b[j]?)) = decide (a = b) := by
        rw [← all_dec a b hl, List.size_toArray, ← lx, lpx]
      rw [← ed]
      exact ⟨SeqAt.RcAt.lists plx.isList ply.isList hsz (by omega) it, SeqAt.RcNeAt.lists plx.isList ply.isList hsz (by omega) it⟩
    · have hsz : (us.toArray.size != vs.toArray.size) = true := by simp; omega
      have ne : a ≠ b := fun e => hl (by rw [e])
      rw [decide_eq_false ne]
      exact ⟨SeqAt.RcAt.lists_lengths plx.isList ply.isList hsz (by omega), SeqAt.RcNeAt.lists_lengths plx.isList ply.isList hsz (by omega)⟩
  refine ⟨fn, ?_, rc⟩
  intro X pins σ H s x y u v a b A hK I hu r1 r2 ha hb
  have h := (rc A hK I hu r1 r2 ha hb).1
  obtain ⟨l, xs, rfl, h1, p1⟩ := id ha
  obtain ⟨l', ys, rfl, h2, p2⟩ := id hb
  cases r1; cases r2
  by_cases e : l = l'
  · subst e
    have : a = b := fn hK I ha hb
    rw [decide_eq_true this]
    exact SeqAt.EqAt.same _
  · exact SeqAt.EqAt.of_refs e h
noncomputable def isPair (K : PySem.W.Frag) {α β : Type} (R : Hp → V → α → Prop) (S : Hp → V → β → Prop) : Hp → V → α × β → Prop := fun H x p => ∃ t a b, x = .ref t ∧ SqT K H t [a, b] ∧ R H a p.1 ∧ S H b p.2
theorem eqPair {K : PySem.W.Frag} {k : Nat} {α β : Type} [DecidableEq α] [DecidableEq β] {R : Hp → V → α → Prop} {S : Hp → V → β → Prop} (E : EqTy K k R) (G : EqTy K k S) : EqTy K (k + 1) (isPair K R S) := by
  have fn : ∀ {X : Cx} {pins : List (Addr × Obj)} {σ : St} {H : Hp} {s : Shared} {x : V} {a b : α × β}, X.K = K → Inv X pins σ H s → isPair K R S H x a → isPair K R S H x b → a = b := by
    intro X pins σ H s x a b hK I ha hb
    obtain ⟨l, x1, x2, rfl, h1, p1, p2⟩ := ha
    obtain ⟨l', y1, y2, e, h2, q1, q2⟩ := hb
    cases e
    subst hK
    have := I.tuple_inj h1 h2
    cases this
    exact Prod.ext (E.fn rfl I p1 q1) (G.fn rfl I p2 q2)
  have rc : ∀ {X : Cx} {pins : List (Addr × Obj)} {σ : St} {H : Hp} {s : Shared} {x y : V} {u v : Value} {a b : α × β} (A : Around), X.K = K → Inv X pins σ H s → A.units + (k + 1) < cLine → RelV x u → RelV y v → isPair K R S H x a → isPair K R S H y b →
      SeqAt.RcAt A s u v (decide (a = b)) ∧ SeqAt.RcNeAt A s u v (!decide (a = b)) := by
    intro X pins σ H s x y u v a b A hK I hu r1 r2 ha hb
    obtain ⟨l, x1, x2, rfl, h1, p1, p2⟩ := ha
    obtain ⟨l', y1, y2, rfl, h2, q1, q2⟩ := hb
    cases r1; cases r2
    subst hK
    obtain ⟨us, rx, plx, _⟩ := I.tuple h1
    obtain ⟨vs, ry, ply, _⟩ := I.tuple h2
    obtain ⟨u1, u2, rfl, ru1, ru2⟩ := vals2 rx
    obtain ⟨v1, v2, rfl, rv1, rv2⟩ := vals2 ry
    have e1 := E.eq A.in1 rfl I (show A.units + 1 + k < cLine by omega) ru1 rv1 p1 q1
    have e2 := G.eq A.in1 rfl I (show A.units + 1 + k < cLine by omega) ru2 rv2 p2 q2
    have it : ∀ j (h1 : j < [u1, u2].toArray.size) (h2 : j < [v1, v2].toArray.size), SeqAt.EqAt A.in1 s [u1, u2].toArray[j] [v1, v2].toArray[j] ((fun j => if j = 0 then decide (a.1 = b.1) else decide (a.2 = b.2)) j) := by
      intro j h1 h2
      match j, h1 with
      | 0, _ => exact e1
      | 1, _ => exact e2
      | j + 2, h => exact absurd h (by simp)
    have ed : ((List.range (min [u1, u2].toArray.size [v1, v2].toArray.size)).all (fun j => if j = 0 then decide (a.1 = b.1) else decide (a.2 = b.2)) && [u1, u2].toArray.size == [v1, v2].toArray.size) = decide (a = b) := by
      apply Bool.eq_iff_iff.mpr
      rw [decide_eq_true_iff]
      constructor
      · intro h
        have h : (decide (a.1 = b.1) && (decide (a.2 = b.2) && true) && true) = true := h
        simp only [Bool.and_true, Bool.and_eq_true, decide_eq_true_iff] at h
        exact Prod.ext h.1 h.2
      · rintro rfl
        show (decide (a.1 = a.1) && (decide (a.2 = a.2) && true) && true) = true
        simp
    rw [← ed]
    exact ⟨SeqAt.RcAt.tuples plx ply (by omega) it, SeqAt.RcNeAt.tuples plx ply (by omega) it⟩
  refine ⟨fn, ?_, rc⟩
  intro X pins σ H s x y u v a b A hK I hu r1 r2 ha hb
  have h := (rc A hK I hu r1 r2 ha hb).1
  obtain ⟨l, x1, x2, rfl, h1, p1, p2⟩ := id ha
  obtain ⟨l', y1, y2, rfl, h2, q1, q2⟩ := id hb
  cases r1; cases r2
  by_cases e : l = l'
  · subst e
    have : a = b := fn hK I ha hb
    rw [decide_eq_true this]
    exact SeqAt.EqAt.same _
  · exact SeqAt.EqAt.of_refs e h
section
variable {X : Cx}
end
end L2
set_option Elab.async false
set_option linter.all false
set_option maxRecDepth 100000
set_option maxHeartbeats 4000000
namespace L2
open PySem PySem.Spec PyProof.Rows
class Rp (α : Type) where
  rel : PySem.W.Frag → Hp → V → α → Prop
  mono : ∀ {K : PySem.W.Frag} {H H' : Hp} {v : V} {a : α}, Same H H' → rel K H v a → rel K H' v a
theorem Same.rd {H H' : Hp} {a : Addr} {u : HO} (s : Same H H') (h : Rd H a u) : Rd H' a u := by
  rcases h with h | ⟨o, h⟩
  · exact .inl (s _ _ h)
  · exact .inr ⟨o, s _ _ h⟩
theorem Same.tup {K : PySem.W.Frag} {H H' : Hp} {a : Addr} {xs : List V} (e : Same H H') (h : SqT K H a xs) : SqT K H' a xs := by
  rcases h with h | h
  · exact .inl (e.rd h)
  · exact .inr h
noncomputable instance rpInt : Rp Int := ⟨fun _ _ v a => v = .int a, fun _ h => h⟩
noncomputable instance rpBool : Rp Bool := ⟨fun _ _ v a => v = .bl a, fun _ h => h⟩
noncomputable instance rpStr : Rp Str := ⟨fun _ _ v a => v = .str a ∧ a.length ≤ sizeLine, fun _ h => h⟩
noncomputable instance rpUnit : Rp Unit := ⟨fun _ _ v _ => v = .non, fun _ h => h⟩
noncomputable instance rpList {α : Type} [Rp α] : Rp (List α) :=
  ⟨fun K H v as => ∃ l xs, v = .ref l ∧ Rd H l (.lst xs) ∧ xs.length ≤ sizeLine ∧ Paired (Rp.rel K H) xs as,
   fun s ⟨l, xs, e, h, z, p⟩ => ⟨l, xs, e, s.rd h, z, Paired.imp' (fun _ _ r => Rp.mono s r) p⟩⟩
noncomputable instance rpPair {α β : Type} [Rp α] [Rp β] : Rp (α × β) :=
  ⟨fun K H v p => ∃ t a b, v = .ref t ∧ SqT K H t [a, b] ∧ Rp.rel K H a p.1 ∧ Rp.rel K H b p.2,
   fun s ⟨t, a, b, e, h, r1, r2⟩ => ⟨t, a, b, e, s.tup h, Rp.mono s r1, Rp.mono s r2⟩⟩
structure T3 (α β γ : Type) where
  a : α
  b : β
  c : γ
  deriving DecidableEq
structure Tp (α : Type) where
  l : List α
  deriving DecidableEq
noncomputable instance rpT3 {α β γ : Type} [Rp α] [Rp β] [Rp γ] : Rp (T3 α β γ) :=
  ⟨fun K H v p => ∃ t a b c, v = .ref t ∧ SqT K H t [a, b, c] ∧ Rp.rel K H a p.a ∧ Rp.rel K H b p.b ∧ Rp.rel K H c p.c,
   fun s ⟨t, a, b, c, e, h, r1, r2, r3⟩ => ⟨t, a, b, c, e, s.tup h, Rp.mono s r1, Rp.mono s r2, Rp.mono s r3⟩⟩
noncomputable instance rpTp {α : Type} [Rp α] : Rp (Tp α) :=
  ⟨fun K H v as => ∃ t xs, v = .ref t ∧ SqT K H t xs ∧ xs.length ≤ sizeLine ∧ Paired (Rp.rel K H) xs as.l,
   fun s ⟨l, xs, e, h, z, p⟩ => ⟨l, xs, e, s.tup h, z, Paired.imp' (fun _ _ r => Rp.mono s r) p⟩⟩
noncomputable instance rpOpt {α : Type} [Rp α] : Rp (Option α) :=
  ⟨fun K H v o => match o with | none => v = .non | some a => Rp.rel K H v a,
   fun {K H H' v o} s h => by cases o with | none => exact h | some a => exact Rp.mono (α := α) s h⟩
class RpA (α : Type) where
  n : Nat
  rel : PySem.W.Frag → Hp → List V → α → Prop
  mono : ∀ {K : PySem.W.Frag} {H H' : Hp} {v : List V} {a : α}, Same H H' → rel K H v a → rel K H' v a
  len : ∀ {K : PySem.W.Frag} {H : Hp} {v : List V} {a : α}, rel K H v a → v.length = n
noncomputable instance raNil : RpA Unit := ⟨0, fun _ _ vs _ => vs = [], fun _ h => h, fun h => by rw [h]; rfl⟩
noncomputable instance raCons {α β : Type} [Rp α] [RpA β] : RpA (α × β) :=
  ⟨RpA.n β + 1, fun K H vs p => ∃ v r, vs = v :: r ∧ Rp.rel K H v p.1 ∧ RpA.rel K H r p.2,
   fun s ⟨v, r, e, h1, h2⟩ => ⟨v, r, e, Rp.mono s h1, RpA.mono s h2⟩, fun ⟨v, r, e, h1, h2⟩ => by rw [e, List.length_cons, RpA.len h2]⟩
structure Ext (G H G' H' : Hp) : Prop where
  gg : Same G G'
  gh : Same G' H'
  hh : Same H H'
  no : ∀ b, G b = none → H b ≠ none → G' b = none
section
variable {G H G1 H1 G2 H2 G0 H0 : Hp} {p : Addr} {o : HO}
theorem Ext.refl (s : Same G H) : Ext G H G H := ⟨.refl _, s, .refl _, fun _ h _ => h⟩
theorem Ext.trans (x : Ext G H G1 H1) (y : Ext G1 H1 G2 H2) : Ext G H G2 H2 :=
  ⟨x.gg.trans y.gg, y.gh, x.hh.trans y.hh, fun b h1 h2 => y.no b (x.no b h1 h2) fun z => h2 (x.hh.free z)⟩
theorem Same.both (s : Same G H) : Same (upd G p o) (upd H p o) := fun b u e => by
  by_cases hb : b = p
  · subst hb
    rw [upd_same] at e ⊢
    exact e
  · rw [upd_ne hb] at e ⊢
    exact s b u e
theorem Ext.new (s : Same G H) (h : H p = none) : Ext G H (upd G p o) (upd H p o) :=
  ⟨Same.new (s.free h), s.both, Same.new h, fun b h1 h2 => by
    have hb : b ≠ p := fun z => h2 (by rw [z]; exact h)
    rw [upd_ne hb]
    exact h1⟩
theorem Ext.own (s : Same G H) (h : H p = none) : Ext G H G (upd H p o) := ⟨.refl _, s.trans (Same.new h), Same.new h, fun _ h _ => h⟩
theorem Ext.put (x : Ext G0 H0 G H) (h0 : H0 p = none) (hg : G p = none) : Ext G0 H0 G (upd H p o) := ⟨x.gg, x.gh.put hg, x.hh.put h0, x.no⟩
theorem Ext.frz (x : Ext G0 H0 G H) (h0 : H0 p = none) (hg : G p = none) (hh : H p = some o) : Ext G0 H0 (upd G p o) H :=
  ⟨x.gg.trans (Same.new hg), fun b u e => by
    by_cases hb : b = p
    · subst hb
      rw [upd_same] at e
      rw [hh]
      exact e
    · rw [upd_ne hb] at e
      exact x.gh b u e, x.hh, fun b h1 h2 => by
    have hb : b ≠ p := fun z => h2 (by rw [z]; exact h0)
    rw [upd_ne hb]
    exact x.no b h1 h2⟩
end
section
variable {K : PySem.W.Frag} {σ : St} {G : Hp}
noncomputable def EV (K : PySem.W.Frag) {α : Type} [Rp α] (te : TE) (σ : St) (G : Hp) (m : Option α) : Prop :=
  ∀ G1, Same G G1 → ∀ a, m = some a → ∀ H, Same G1 H → ∀ Q : VK, (∀ v G2 H2, Ext G1 H G2 H2 → Rp.rel K G2 v a → Q v H2) → te σ H Q
noncomputable def TV (t : TT) (σ : St) (G : Hp) (m : Option Bool) : Prop :=
  ∀ G1, Same G G1 → ∀ a, m = some a → ∀ H, Same G1 H → ∀ Q : Bool → Hp → Prop, (∀ G2 H2, Ext G1 H G2 H2 → Q a H2) → t σ H Q
noncomputable def AV (K : PySem.W.Frag) {α : Type} [RpA α] (t : TA) (σ : St) (G : Hp) (m : Option α) : Prop :=
  ∀ G1, Same G G1 → ∀ a, m = some a → ∀ H, Same G1 H → ∀ Q : List V → Hp → Prop, (∀ vs G2 H2, Ext G1 H G2 H2 → RpA.rel K G2 vs a → Q vs H2) → t σ H Q
noncomputable def LV (K : PySem.W.Frag) {α : Type} [Rp α] (t : TA) (σ : St) (G : Hp) (n : Nat) (m : Option (List α)) : Prop :=
  ∀ G1, Same G G1 → ∀ a, m = some a → ∀ H, Same G1 H → ∀ Q : List V → Hp → Prop, (∀ vs G2 H2, Ext G1 H G2 H2 → vs.length = n → Paired (Rp.rel K G2) vs a → Q vs H2) → t σ H Q
noncomputable def OV (t : TO) (σ : St) (G : Hp) (m : Option (Option Int)) : Prop :=
  ∀ G1, Same G G1 → ∀ a, m = some a → ∀ H, Same G1 H → ∀ Q : Option Int → Hp → Prop, (∀ G2 H2, Ext G1 H G2 H2 → Q a H2) → t σ H Q
noncomputable def FV (K : PySem.W.Frag) {α : Type} [Rp α] (te : TE) (σ : St) (G : Hp) (m : Option (List α)) : Prop :=
  ∀ G1, Same G G1 → ∀ a, m = some a → ∀ H, Same G1 H → ∀ Q : VK, (∀ p vs G2 H2, Ext G1 H G2 H2 → H p = none → G2 p = none → H2 p = some (.lst vs) → vs.length ≤ sizeLine → Paired (Rp.rel K G2) vs a → Q (.ref p) H2) → te σ H Q
section
variable {α β γ δ : Type} [Rp α] [Rp β] [Rp γ] [Rp δ] {ta tb tc td : TE} {ma : Option α} {mb : Option β} {mc : Option γ}
theorem EV.run {te : TE} {H : Hp} {a : α} {Q : VK} {m : Option α} (e : EV K te σ G m) (hm : m = some a) (s : Same G H) (k : ∀ v G2 H2, Ext G H G2 H2 → Rp.rel K G2 v a → Q v H2) : te σ H Q := e G (.refl G) a hm H s Q k
theorem TV.run {t : TT} {H : Hp} {a : Bool} {Q : Bool → Hp → Prop} {m : Option Bool} (e : TV t σ G m) (hm : m = some a) (s : Same G H) (k : ∀ G2 H2, Ext G H G2 H2 → Q a H2) : t σ H Q := e G (.refl G) a hm H s Q k
theorem EV.of {te : TE} {m m' : Option α} (e : EV K te σ G m) (h : m = m') : EV K te σ G m' := h ▸ e
theorem FV.ev {te : TE} {m : Option (List α)} (e : FV K te σ G m) : EV K te σ G m := by
  intro G1 s1 a ha H sH Q k
  refine e G1 s1 a ha H sH Q fun p vs G2 H2 x h0 hg hh hz hp => ?_
  exact k _ _ _ (x.frz h0 hg hh) ⟨p, vs, rfl, .inl upd_same, hz, Paired.imp' (fun _ _ r => Rp.mono (Same.new hg) r) hp⟩
theorem ev_var {i : Nat} {v : V} {a : α} (h : σ[i]? = some (some v)) (r : Rp.rel K G v a) : EV K (tVar i) σ G (some a) := fun G1 s a' e H sH Q k => by
  cases e
  exact ⟨v, h, k v G1 H (.refl sH) (Rp.mono s r)⟩
theorem ev_c {v : V} {a : α} (h : ∀ G, Rp.rel K G v a) : EV K (tC v) σ G (some a) := fun G1 s a' e H sH Q k => by
  cases e
  exact k v G1 H (.refl sH) (h _)
theorem ev_i {i : Int} : EV K (tC (.int i)) σ G (some i) := ev_c fun _ => rfl
theorem ev_b {b : Bool} : EV K (tC (.bl b)) σ G (some b) := ev_c fun _ => rfl
theorem ev_s {x : Str} (h : x.length ≤ sizeLine := by decide +kernel) : EV K (tC (.str x)) σ G (some x) := ev_c fun _ => ⟨rfl, h⟩
theorem ev_n : EV K (tC .non) σ G (some ()) := ev_c fun _ => rfl
theorem ev_bin {r : R2} {f : α → β → Option γ}
    (h : ∀ {G H : Hp} {v u : V} {a : α} {b : β} {c : γ}, Same G H → Rp.rel K G v a → Rp.rel K G u b → f a b = some c → ∀ {Q : VK}, (∀ w G2 H2, Ext G H G2 H2 → Rp.rel K G2 w c → Q w H2) → r v u H Q)
    (ea : EV K ta σ G ma) (eb : EV K tb σ G mb) : EV K (tOp r ta tb) σ G (ma.bind fun a => mb.bind fun b => f a b) := by
  intro G1 s1 c hc H sH Q k
  obtain ⟨a, ha, hc⟩ := Option.bind_eq_some_iff.mp hc
  obtain ⟨b, hb, hc⟩ := Option.bind_eq_some_iff.mp hc
  refine ea G1 s1 a ha H sH _ fun v G2 H2 x2 r2 => ?_
  refine eb G2 (s1.trans x2.gg) b hb H2 x2.gh _ fun u G3 H3 x3 r3 => ?_
  exact h x3.gh (Rp.mono x3.gg r2) r3 hc fun w G4 H4 x4 r4 => k w G4 H4 ((x2.trans x3).trans x4) r4
noncomputable instance decMul (i j : Int) : Decidable (CMul i j) := by unfold CMul; infer_instance
noncomputable instance decDiv (i j : Int) : Decidable (CDiv i j) := by unfold CDiv; infer_instance
noncomputable instance decPow (i j : Int) : Decidable (CPow i j) := by unfold CPow; infer_instance
noncomputable def mulO (a b : Int) : Option Int := if CMul a b then some (a * b) else none
noncomputable def divO (a b : Int) : Option Int := if CDiv a b then some (a / b) else none
noncomputable def modO (a b : Int) : Option Int := if 0 < b then some (a % b) else none
noncomputable def powO (a b : Int) : Option Int := if CPow a b then some (a ^ b.toNat) else none
theorem ite_some {p : Prop} [Decidable p] {α : Type} {a c : α} (h : (if p then some a else none) = some c) : p ∧ a = c := by
  by_cases hp : p
  · rw [if_pos hp] at h
    exact ⟨hp, Option.some.inj h⟩
  · rw [if_neg hp] at h
    cases h
section
variable {ia ib : Option Int}
theorem ev_add (ea : EV K ta σ G ia) (eb : EV K tb σ G ib) : EV K (tOp (rPlus K) ta tb) σ G (ia.bind fun a => ib.bind fun b => some (a + b)) :=
  ev_bin (fun s ra rb e Q k => by cases ra; cases rb; cases e; exact k _ _ _ (.refl s) rfl) ea eb
theorem ev_sub (ea : EV K ta σ G ia) (eb : EV K tb σ G ib) : EV K (tOp (rI0 fun i j => .int (i - j)) ta tb) σ G (ia.bind fun a => ib.bind fun b => some (a - b)) :=
  ev_bin (fun s ra rb e Q k => by cases ra; cases rb; cases e; exact ⟨_, _, rfl, rfl, k _ _ _ (.refl s) rfl⟩) ea eb
theorem ev_mul (ea : EV K ta σ G ia) (eb : EV K tb σ G ib) : EV K (tOp (rMul K) ta tb) σ G (ia.bind fun a => ib.bind fun b => mulO a b) :=
  ev_bin (fun s ra rb e Q k => by cases ra; cases rb; obtain ⟨h, rfl⟩ := ite_some e; exact ⟨h, k _ _ _ (.refl s) rfl⟩) ea eb
theorem ev_mod (ea : EV K ta σ G ia) (eb : EV K tb σ G ib) : EV K (tOp (rI (fun _ j => 0 < j) fun i j => .int (i % j)) ta tb) σ G (ia.bind fun a => ib.bind fun b => modO a b) :=
  ev_bin (fun s ra rb e Q k => by cases ra; cases rb; obtain ⟨h, rfl⟩ := ite_some e; exact ⟨_, _, rfl, rfl, h, k _ _ _ (.refl s) rfl⟩) ea eb
theorem ev_div (ea : EV K ta σ G ia) (eb : EV K tb σ G ib) : EV K (tOp (rI CDiv fun i j => .int (i / j)) ta tb) σ G (ia.bind fun a => ib.bind fun b => divO a b) :=
  ev_bin (fun s ra rb e Q k => by cases ra; cases rb; obtain ⟨h, rfl⟩ := ite_some e; exact ⟨_, _, rfl, rfl, h, k _ _ _ (.refl s) rfl⟩) ea eb
theorem ev_pow (ea : EV K ta σ G ia) (eb : EV K tb σ G ib) : EV K (tOp (rI CPow fun i j => .int (i ^ j.toNat)) ta tb) σ G (ia.bind fun a => ib.bind fun b => powO a b) :=
  ev_bin (fun s ra rb e Q k => by cases ra; cases rb; obtain ⟨h, rfl⟩ := ite_some e; exact ⟨_, _, rfl, rfl, h, k _ _ _ (.refl s) rfl⟩) ea eb
theorem ev_ord {p : Int → Int → Bool} {q : List Nat → List Nat → Bool} (ea : EV K ta σ G ia) (eb : EV K tb σ G ib) : EV K (tOp (rOrd p q) ta tb) σ G (ia.bind fun a => ib.bind fun b => some (p a b)) :=
  ev_bin (fun s ra rb e Q k => by cases ra; cases rb; cases e; exact k _ _ _ (.refl s) rfl) ea eb
theorem ev_eqI (ea : EV K ta σ G ia) (eb : EV K tb σ G ib) : EV K (tOp rEq ta tb) σ G (ia.bind fun a => ib.bind fun b => some (decide (a = b))) :=
  ev_bin (fun s ra rb e Q k => by cases ra; cases rb; cases e; exact ⟨rfl, k _ _ _ (.refl s) (by show V.bl _ = V.bl _; congr 1; simp)⟩) ea eb
theorem ev_neI (ea : EV K ta σ G ia) (eb : EV K tb σ G ib) : EV K (tOp rNe ta tb) σ G (ia.bind fun a => ib.bind fun b => some (!decide (a = b))) :=
  ev_bin (fun s ra rb e Q k => by cases ra; cases rb; cases e; exact ⟨rfl, k _ _ _ (.refl s) (by show V.bl _ = V.bl _; congr 1; simp)⟩) ea eb
end
section
variable {ba bb : Option Bool}
theorem ev_eqB (ea : EV K ta σ G ba) (eb : EV K tb σ G bb) : EV K (tOp rEq ta tb) σ G (ba.bind fun a => bb.bind fun b => some (decide (a = b))) :=
  ev_bin (fun s ra rb e Q k => by cases ra; cases rb; cases e; exact ⟨rfl, k _ _ _ (.refl s) (by show V.bl _ = V.bl _; congr 1; simp)⟩) ea eb
theorem ev_and (ea : EV K ta σ G ba) (eb : EV K tb σ G bb) : EV K (tAndV ta tb) σ G (ba.bind fun a => cond a bb (some false)) := by
  intro G1 s1 c hc H sH Q k
  obtain ⟨a, ha, hc⟩ := Option.bind_eq_some_iff.mp hc
  refine ea G1 s1 a ha H sH _ fun v G2 H2 x2 r2 => ?_
  cases r2
  refine ⟨_, rfl, ?_⟩
  cases a with
  | false => cases hc; exact iteF (k _ _ _ x2 rfl)
  | true => exact iteT (eb G2 (s1.trans x2.gg) c hc H2 x2.gh _ fun u G3 H3 x3 r3 => k _ _ _ (x2.trans x3) r3)
theorem tv_test (ea : EV K ta σ G ba) : TV (tTest ta) σ G ba := by
  intro G1 s1 c hc H sH Q k
  refine ea G1 s1 c hc H sH _ fun v G2 H2 x2 r2 => ?_
  cases r2
  exact ⟨_, rfl, k _ _ x2⟩
theorem tv_not {t : TT} (ea : TV t σ G ba) : TV (tNot t) σ G (ba.bind fun a => some (!a)) := by
  intro G1 s1 c hc H sH Q k
  obtain ⟨a, ha, hc⟩ := Option.bind_eq_some_iff.mp hc
  cases hc
  exact ea G1 s1 a ha H sH _ fun G2 H2 x2 => k _ _ x2
theorem tv_and {t u : TT} (ea : TV t σ G ba) (eb : TV u σ G bb) : TV (tAnd t u) σ G (ba.bind fun a => cond a bb (some false)) := by
  intro G1 s1 c hc H sH Q k
  obtain ⟨a, ha, hc⟩ := Option.bind_eq_some_iff.mp hc
  refine ea G1 s1 a ha H sH _ fun G2 H2 x2 => ?_
  cases a with
  | false => cases hc; exact iteF (k _ _ x2)
  | true => exact iteT (eb G2 (s1.trans x2.gg) c hc H2 x2.gh _ fun G3 H3 x3 => k _ _ (x2.trans x3))
theorem tv_or {t u : TT} (ea : TV t σ G ba) (eb : TV u σ G bb) : TV (tOr t u) σ G (ba.bind fun a => cond a (some true) bb) := by
  intro G1 s1 c hc H sH Q k
  obtain ⟨a, ha, hc⟩ := Option.bind_eq_some_iff.mp hc
  refine ea G1 s1 a ha H sH _ fun G2 H2 x2 => ?_
  cases a with
  | true => cases hc; exact iteT (k _ _ x2)
  | false => exact iteF (eb G2 (s1.trans x2.gg) c hc H2 x2.gh _ fun G3 H3 x3 => k _ _ (x2.trans x3))
theorem tv_tru {f : α → Bool} (h : ∀ {G : Hp} {v : V} {a : α}, Rp.rel K G v a → TruV K v G (f a)) (mn : ∀ {G H : Hp} {v : V} {k : Bool}, Same G H → TruV K v G k → TruV K v H k) (ea : EV K ta σ G ma) :
    TV (fun σ H Q => ta σ H fun x H' => ∃ k, TruV K x H' k ∧ Q k H') σ G (ma.bind fun a => some (f a)) := by
  intro G1 s1 c hc H sH Q k
  obtain ⟨a, ha, hc⟩ := Option.bind_eq_some_iff.mp hc
  cases hc
  refine ea G1 s1 a ha H sH _ fun v G2 H2 x2 r2 => ?_
  exact ⟨_, mn x2.gh (h r2), k _ _ x2⟩
end
end
end
end L2
set_option Elab.async false
set_option linter.all false
set_option maxRecDepth 100000
set_option maxHeartbeats 4000000
namespace L2
open PySem PySem.Spec PyProof.Rows
section
variable {K : PySem.W.Frag} {σ : St} {G : Hp} {α β γ δ : Type} [Rp α] [Rp β] [Rp γ] [Rp δ] {ta tb tc td : TE} {ma : Option α} {mb : Option β} {mc : Option γ} {md : Option δ}
section
variable {sa sb : Option Str} {ia ib : Option Int}
noncomputable def catS (a b : Str) : Option Str := if a.length + b.length ≤ sizeLine then some (a ++ b) else none
theorem ev_catS (ea : EV K ta σ G sa) (eb : EV K tb σ G sb) : EV K (tOp (rPlus K) ta tb) σ G (sa.bind fun a => sb.bind fun b => catS a b) :=
  ev_bin (fun s ra rb e Q k => by
    obtain ⟨rfl, z1⟩ := ra; obtain ⟨rfl, z2⟩ := rb; obtain ⟨h, rfl⟩ := ite_some e
    exact ⟨h, k _ _ _ (.refl s) ⟨rfl, by rw [len_app]; exact h⟩⟩) ea eb
theorem ev_ordS {p : Int → Int → Bool} {q : List Nat → List Nat → Bool} (ea : EV K ta σ G sa) (eb : EV K tb σ G sb) : EV K (tOp (rOrd p q) ta tb) σ G (sa.bind fun a => sb.bind fun b => some (q a.cps.toList b.cps.toList)) :=
  ev_bin (fun s ra rb e Q k => by obtain ⟨rfl, z1⟩ := ra; obtain ⟨rfl, z2⟩ := rb; cases e; exact k _ _ _ (.refl s) rfl) ea eb
theorem ev_eqS (ea : EV K ta σ G sa) (eb : EV K tb σ G sb) : EV K (tOp rEq ta tb) σ G (sa.bind fun a => sb.bind fun b => some (decide (a = b))) :=
  ev_bin (fun s ra rb e Q k => by obtain ⟨rfl, z1⟩ := ra; obtain ⟨rfl, z2⟩ := rb; cases e; exact ⟨rfl, k _ _ _ (.refl s) (by show V.bl _ = V.bl _; congr 1; simp)⟩) ea eb
theorem ev_neS (ea : EV K ta σ G sa) (eb : EV K tb σ G sb) : EV K (tOp rNe ta tb) σ G (sa.bind fun a => sb.bind fun b => some (!decide (a = b))) :=
  ev_bin (fun s ra rb e Q k => by obtain ⟨rfl, z1⟩ := ra; obtain ⟨rfl, z2⟩ := rb; cases e; exact ⟨rfl, k _ _ _ (.refl s) (by show V.bl _ = V.bl _; congr 1; simp)⟩) ea eb
theorem ev_atS (ea : EV K ta σ G sa) (eb : EV K tb σ G ib) : EV K (tOp (rAt K) ta tb) σ G (sa.bind fun a => ib.bind fun i => (atI a.cps.toList i).bind fun c => some (⟨#[c]⟩ : Str)) :=
  ev_bin (fun s ra rb e Q k => by
    obtain ⟨rfl, z1⟩ := ra; cases rb
    obtain ⟨c, hc, e⟩ := Option.bind_eq_some_iff.mp e
    cases e
    exact ⟨z1, c, hc, k _ _ _ (.refl s) ⟨rfl, by show 1 ≤ sizeLine; decide⟩⟩) ea eb
end
theorem paired_atI {R : V → α → Prop} {xs : List V} {as : List α} {i : Int} {a : α} (p : Paired R xs as) (h : atI as i = some a) : ∃ v, atI xs i = some v ∧ R v a := by
  have hl := Paired.length p
  unfold atI at h ⊢
  obtain ⟨j, hj, h⟩ := Option.bind_eq_some_iff.mp h
  rw [hl, hj]
  have hlt : j < xs.length := by
    have := (List.getElem?_eq_some_iff.mp h).1
    omega
  exact ⟨xs[j], List.getElem?_eq_getElem hlt, Paired.at' p (List.getElem?_eq_getElem hlt) h⟩
theorem Paired.app {α β : Type} {F : α → β → Prop} : ∀ {l1 l2 : List α} {m1 m2 : List β}, Paired F l1 m1 → Paired F l2 m2 → Paired F (l1 ++ l2) (m1 ++ m2)
  | _, _, _, _, .nil, h => h
  | _, _, _, _, .cons r t, h => .cons r (Paired.app t h)
theorem Paired.tk {α β : Type} {F : α → β → Prop} : ∀ (n : Nat) {l : List α} {m : List β}, Paired F l m → Paired F (l.take n) (m.take n)
  | 0, _, _, _ => by simpa using .nil
  | n + 1, _, _, .nil => by simpa using .nil
  | n + 1, _, _, .cons r t => .cons r (Paired.tk n t)
theorem Paired.dp {α β : Type} {F : α → β → Prop} : ∀ (n : Nat) {l : List α} {m : List β}, Paired F l m → Paired F (l.drop n) (m.drop n)
  | 0, _, _, h => h
  | n + 1, _, _, .nil => by simpa using .nil
  | n + 1, _, _, .cons r t => Paired.dp n t
theorem Paired.rep {α β : Type} {F : α → β → Prop} {l : List α} {m : List β} (h : Paired F l m) : ∀ n : Nat, Paired F (List.replicate n l).flatten (List.replicate n m).flatten
  | 0 => .nil
  | n + 1 => by
    rw [List.replicate_succ, List.replicate_succ, List.flatten_cons, List.flatten_cons]
    exact Paired.app h (Paired.rep h n)
theorem Paired.st {α β : Type} {F : α → β → Prop} {a : α} {b : β} (r : F a b) : ∀ {l : List α} {m : List β} (j : Nat), Paired F l m → Paired F (l.set j a) (m.set j b)
  | _, _, _, .nil => .nil
  | _, _, 0, .cons _ t => .cons r t
  | _, _, j + 1, .cons q t => .cons q (Paired.st r j t)
section
variable {la lb : Option (List α)} {ia ib : Option Int}
theorem ev_at (ea : EV K ta σ G la) (eb : EV K tb σ G ib) : EV K (tOp (rAt K) ta tb) σ G (la.bind fun a => ib.bind fun i => atI a i) :=
  ev_bin (fun s ra rb e Q k => by
    obtain ⟨l, xs, rfl, h, z, p⟩ := ra; cases rb
    obtain ⟨v, hv, r⟩ := paired_atI p e
    exact .inl ⟨xs, v, .inl (s.rd h), hv, k _ _ _ (.refl s) r⟩) ea eb
theorem ev_atT {pa : Option (Tp α)} (ea : EV K ta σ G pa) (eb : EV K tb σ G ib) : EV K (tOp (rAt K) ta tb) σ G (pa.bind fun a => ib.bind fun i => atI a.l i) :=
  ev_bin (fun s ra rb e Q k => by
    obtain ⟨l, xs, rfl, h, z, p⟩ := ra; cases rb
    obtain ⟨v, hv, r⟩ := paired_atI p e
    exact .inr ⟨xs, v, s.tup h, hv, k _ _ _ (.refl s) r⟩) ea eb
theorem fv_of {H : Hp} {Q : VK} {as : List α} {G1 : Hp} (s : Same G1 H) {vs : List V} (hz : vs.length ≤ sizeLine) (hp : Paired (Rp.rel K G1) vs as)
    (k : ∀ p vs G2 H2, Ext G1 H G2 H2 → H p = none → G2 p = none → H2 p = some (.lst vs) → vs.length ≤ sizeLine → Paired (Rp.rel K G2) vs as → Q (.ref p) H2) : ∀ p, H p = none → Q (.ref p) (upd H p (.lst vs)) :=
  fun p h => k p vs G1 _ (.own s h) h (s.free h) upd_same hz hp
theorem FV.mono {H H' G1 G2 : Hp} {as : List α} {Q : VK} (x : Ext G1 H G2 H')
    (k : ∀ p vs G3 H3, Ext G1 H G3 H3 → H p = none → G3 p = none → H3 p = some (.lst vs) → vs.length ≤ sizeLine → Paired (Rp.rel K G3) vs as → Q (.ref p) H3) :
    ∀ p vs G3 H3, Ext G2 H' G3 H3 → H' p = none → G3 p = none → H3 p = some (.lst vs) → vs.length ≤ sizeLine → Paired (Rp.rel K G3) vs as → Q (.ref p) H3 :=
  fun p vs G3 H3 y h0 => k p vs G3 H3 (x.trans y) (x.hh.free h0)
noncomputable def catL {α : Type} (a b : List α) : Option (List α) := if a.length + b.length ≤ sizeLine then some (a ++ b) else none
theorem fv_cat (ea : EV K ta σ G la) (eb : EV K tb σ G lb) : FV K (tOp (rPlus K) ta tb) σ G (la.bind fun a => lb.bind fun b => catL a b) := by
  intro G1 s1 c hc H sH Q k
  obtain ⟨a, ha, hc⟩ := Option.bind_eq_some_iff.mp hc
  obtain ⟨b, hb, hc⟩ := Option.bind_eq_some_iff.mp hc
  obtain ⟨hl, rfl⟩ := ite_some hc
  refine ea G1 s1 a ha H sH _ fun v G2 H2 x2 r2 => ?_
  refine eb G2 (s1.trans x2.gg) b hb H2 x2.gh _ fun u G3 H3 x3 r3 => ?_
  obtain ⟨l1, xs, rfl, h1, z1, p1⟩ := Rp.mono x3.gg r2
  obtain ⟨l2, ys, rfl, h2, z2, p2⟩ := r3
  have e1 := Paired.length p1
  have e2 := Paired.length p2
  have hz : (xs ++ ys).length ≤ sizeLine := by rw [List.length_append]; omega
  exact ⟨xs, ys, x3.gh.rd h1, x3.gh.rd h2, by rw [List.length_append] at hz; exact hz, fv_of x3.gh hz (Paired.app p1 p2) (FV.mono (x2.trans x3) k)⟩
noncomputable def cutA {α : Type} (xs : List α) (lo hi : Option Int) : List α := (xs.drop (HT.sIx xs.length 0 lo)).take (HT.sIx xs.length xs.length hi - HT.sIx xs.length 0 lo)
theorem Paired.cut {α : Type} {R : V → α → Prop} {xs : List V} {as : List α} (p : Paired R xs as) (lo hi : Option Int) : Paired R (cutV xs lo hi) (cutA as lo hi) := by
  unfold cutV cutA
  rw [Paired.length p]
  exact Paired.tk _ (Paired.dp _ p)
section
variable {t1 t2 : TO} {m1 m2 : Option (Option Int)}
theorem ov_none : OV tNoPart σ G (some none) := fun G1 s1 a ha H sH Q k => by
  cases ha
  exact k _ _ (.refl sH)
theorem ov_some (ea : EV K ta σ G ia) : OV (tPart ta) σ G (ia.bind fun i => some (some i)) := by
  intro G1 s1 c hc H sH Q k
  obtain ⟨a, ha, hc⟩ := Option.bind_eq_some_iff.mp hc
  cases hc
  refine ea G1 s1 a ha H sH _ fun v G2 H2 x2 r2 => ?_
  cases r2
  exact ⟨_, rfl, k _ _ x2⟩
theorem fv_slice (ea : EV K ta σ G la) (e1 : OV t1 σ G m1) (e2 : OV t2 σ G m2) : FV K (tSl (rSl K) ta t1 t2) σ G (la.bind fun a => m1.bind fun lo => m2.bind fun hi => some (cutA a lo hi)) := by
  intro G1 s1 c hc H sH Q k
  obtain ⟨a, ha, hc⟩ := Option.bind_eq_some_iff.mp hc
  obtain ⟨lo, hlo, hc⟩ := Option.bind_eq_some_iff.mp hc
  obtain ⟨hi, hhi, hc⟩ := Option.bind_eq_some_iff.mp hc
  cases hc
  refine ea G1 s1 a ha H sH _ fun v G2 H2 x2 r2 => ?_
  refine e1 G2 (s1.trans x2.gg) lo hlo H2 x2.gh _ fun G3 H3 x3 => ?_
  refine e2 G3 (s1.trans (x2.trans x3).gg) hi hhi H3 x3.gh _ fun G4 H4 x4 => ?_
  obtain ⟨l, xs, rfl, h, z, p⟩ := Rp.mono (x3.trans x4).gg r2
  exact ⟨xs, .inl (x4.gh.rd h), fv_of x4.gh (Nat.le_trans (cutV_length _ _ _) z) (Paired.cut p lo hi) (FV.mono ((x2.trans x3).trans x4) k)⟩
end
end
section
variable {t : TA} {n : Nat} {ml : Option (List α)}
theorem lv_nil : LV K tNil σ G 0 (some ([] : List α)) := fun G1 s1 a ha H sH Q k => by
  cases ha
  exact k _ _ _ (.refl sH) rfl .nil
theorem lv_cons (ea : EV K ta σ G ma) (er : LV K t σ G n ml) : LV K (tCons ta t) σ G (n + 1) (ma.bind fun a => ml.bind fun r => some (a :: r)) := by
  intro G1 s1 c hc H sH Q k
  obtain ⟨a, ha, hc⟩ := Option.bind_eq_some_iff.mp hc
  obtain ⟨r, hr, hc⟩ := Option.bind_eq_some_iff.mp hc
  cases hc
  refine ea G1 s1 a ha H sH _ fun v G2 H2 x2 r2 => ?_
  refine er G2 (s1.trans x2.gg) r hr H2 x2.gh _ fun vs G3 H3 x3 hl hp => ?_
  exact k _ _ _ (x2.trans x3) (by rw [List.length_cons, hl]) (.cons (Rp.mono x3.gg r2) hp)
theorem fv_lst (e : LV K t σ G n ml) (hn : n ≤ sizeLine := by decide) : FV K (tLst t) σ G ml := by
  intro G1 s1 c hc H sH Q k
  refine e G1 s1 c hc H sH _ fun vs G2 H2 x2 hl hp => ?_
  exact ⟨by omega, fv_of x2.gh (by omega) hp (FV.mono x2 k)⟩
theorem ev_tupL (e : LV K t σ G n ml) (hn : n ≤ sizeLine := by decide) : EV K (tTup t) σ G (ml.bind fun l => some (Tp.mk l)) := by
  intro G1 s1 c hc H sH Q k
  obtain ⟨l, hl, hc⟩ := Option.bind_eq_some_iff.mp hc
  cases hc
  refine e G1 s1 l hl H sH _ fun vs G2 H2 x2 hl hp => ⟨by omega, fun p h => ?_⟩
  exact k _ _ _ (x2.trans (.new x2.gh h)) ⟨p, vs, rfl, SqT.of upd_same, by omega, Paired.imp' (fun _ _ r => Rp.mono (Same.new (x2.gh.free h)) r) hp⟩
theorem ev_tup2 (ea : EV K ta σ G ma) (eb : EV K tb σ G mb) : EV K (tTup (tCons ta (tCons tb tNil))) σ G (ma.bind fun a => mb.bind fun b => some (a, b)) := by
  intro G1 s1 c hc H sH Q k
  obtain ⟨a, ha, hc⟩ := Option.bind_eq_some_iff.mp hc
  obtain ⟨b, hb, hc⟩ := Option.bind_eq_some_iff.mp hc
  cases hc
  refine ea G1 s1 a ha H sH _ fun v G2 H2 x2 r2 => ?_
  refine eb G2 (s1.trans x2.gg) b hb H2 x2.gh _ fun u G3 H3 x3 r3 => ⟨by show 2 ≤ sizeLine; decide, fun p h => ?_⟩
  have s := Same.new (o := .tup [v, u]) (x3.gh.free h)
  exact k _ _ _ ((x2.trans x3).trans (.new x3.gh h)) ⟨p, v, u, rfl, SqT.of upd_same, Rp.mono (x3.gg.trans s) r2, Rp.mono s r3⟩
end
section
variable {t : TA} {A B : Type} [RpA A] [RpA B] {mA : Option A}
theorem av_nil : AV K tNil σ G (some ()) := fun G1 s1 a ha H sH Q k => by
  cases ha
  exact k _ _ _ (.refl sH) rfl
theorem av_cons (ea : EV K ta σ G ma) (er : AV K t σ G mA) : AV K (tCons ta t) σ G (ma.bind fun a => mA.bind fun r => some (a, r)) := by
  intro G1 s1 c hc H sH Q k
  obtain ⟨a, ha, hc⟩ := Option.bind_eq_some_iff.mp hc
  obtain ⟨r, hr, hc⟩ := Option.bind_eq_some_iff.mp hc
  cases hc
  refine ea G1 s1 a ha H sH _ fun v G2 H2 x2 r2 => ?_
  refine er G2 (s1.trans x2.gg) r hr H2 x2.gh _ fun vs G3 H3 x3 hp => ?_
  exact k _ _ _ (x2.trans x3) ⟨v, vs, rfl, Rp.mono x3.gg r2, hp⟩
noncomputable def spM (K : PySem.W.Frag) {A : Type} {ρ : Type} [RpA A] [Rp ρ] (m : A → Option ρ) : Sp := fun vs H Q _ =>
  ∃ G a r, Same G H ∧ RpA.rel K G vs a ∧ m a = some r ∧ ∀ v G2 H2, Ext G H G2 H2 → Rp.rel K G2 v r → Q v H2
theorem spM_len {A : Type} {ρ : Type} [RpA A] [Rp ρ] {m : A → Option ρ} {vs : List V} {H : Hp} {Q : VK} {E : XK} (h : spM K m vs H Q E) : vs.length = RpA.n A := by
  obtain ⟨G, a, r, _, h, _⟩ := h
  exact RpA.len h
theorem ev_len {la : Option (List α)} (ea : EV K ta σ G la) : EV K (tCB (rLen K) (tCons ta tNil)) σ G (la.bind fun a => some (a.length : Int)) := by
  intro G1 s1 c hc H sH Q k
  obtain ⟨a, ha, hc⟩ := Option.bind_eq_some_iff.mp hc
  cases hc
  refine ea G1 s1 a ha H sH _ fun v G2 H2 x2 r2 => ?_
  obtain ⟨l, xs, rfl, h, z, p⟩ := r2
  exact ⟨xs, .inl (.inl (x2.gh.rd h)), by rw [Paired.length p]; exact k _ _ _ x2 rfl⟩
theorem ev_lenT {la : Option (Tp α)} (ea : EV K ta σ G la) : EV K (tCB (rLen K) (tCons ta tNil)) σ G (la.bind fun a => some (a.l.length : Int)) := by
  intro G1 s1 c hc H sH Q k
  obtain ⟨a, ha, hc⟩ := Option.bind_eq_some_iff.mp hc
  cases hc
  refine ea G1 s1 a ha H sH _ fun v G2 H2 x2 r2 => ?_
  obtain ⟨l, xs, rfl, h, z, p⟩ := r2
  exact ⟨xs, .inr (x2.gh.tup h), by rw [Paired.length p]; exact k _ _ _ x2 rfl⟩
theorem ev_lenS {sa : Option Str} (ea : EV K ta σ G sa) : EV K (tCB (rLen K) (tCons ta tNil)) σ G (sa.bind fun a => some (a.length : Int)) := by
  intro G1 s1 c hc H sH Q k
  obtain ⟨a, ha, hc⟩ := Option.bind_eq_some_iff.mp hc
  cases hc
  refine ea G1 s1 a ha H sH _ fun v G2 H2 x2 r2 => ?_
  obtain ⟨rfl, z⟩ := r2
  exact ⟨z, k _ _ _ x2 rfl⟩
end
inductive TyS (K : PySem.W.Frag) (H : Hp) : V → String → Prop where
  | non : TyS K H .non "NoneType"
  | bl (x : Bool) : TyS K H (.bl x) "bool"
  | int (i : Int) : TyS K H (.int i) "int"
  | str (x : Str) : TyS K H (.str x) "str"
  | lst {a : Addr} {xs : List V} (e : SqL K H a xs) : TyS K H (.ref a) "list"
  | tup {a : Addr} {xs : List V} (e : SqT K H a xs) : TyS K H (.ref a) "tuple"
  | dK {a : Addr} {kvs : List (Key × V)} (e : Rd H a (.dK kvs)) : TyS K H (.ref a) "dict"
  | dT {a : Addr} {kvs : List (List Key × V)} (e : Rd H a (.dT kvs)) : TyS K H (.ref a) "dict"
noncomputable def rInst (K : PySem.W.Frag) : List V → Hp → VK → Prop := fun vs H Q => ∃ x t T b, vs = [x, .ty T] ∧ TyS K H x t ∧ kitC t T = some b ∧ Q (.bl b) H
theorem call_inst {X : Cx} : CallR X (.builtin "isinstance") (rInst X.K) := by
  intro pins s σ H vs us Q I r h
  obtain ⟨x, t, T, b, rfl, ty, e, q⟩ := h
  obtain ⟨u, w', rfl, rx, r2⟩ := vals2 r
  obtain rfl : w' = Value.type T := r2
  have e := kit_of (K := X.K) e
  have fin : ∀ tk, EP X pins σ Q (.bool b) { s with toks := tk } := fun tk => ⟨.bl b, H, I.tok tk, rfl, q⟩
  cases ty with
  | non => cases (show u = Value.none from rx); exact PySem.W.kia_one PySem.W.kitx_none I.kIn True.intro e (fun z => nomatch z) fin
  | bl y => cases (show u = Value.bool y from rx); exact PySem.W.kia_one PySem.W.kitx_bool I.kIn True.intro e (fun z => nomatch z) fin
  | int i => obtain ⟨t, q'⟩ := (show ∃ t, u = Value.int i t from rx); cases q'; exact PySem.W.kia_one PySem.W.kitx_int I.kIn True.intro e (fun z => nomatch z) fin
  | str y => obtain ⟨t, q'⟩ := (show ∃ t, u = Value.str y t from rx); cases q'; exact PySem.W.kia_one PySem.W.kitx_str I.kIn True.intro e (fun z => nomatch z) fin
  | @lst a xs ea =>
    cases (show u = Value.ref a from rx)
    obtain ⟨its, _, pl, _⟩ := I.list ea
    obtain ⟨o, n, h1, h2, _⟩ := pl
    exact PySem.W.kia_one PySem.W.kitx_list I.kIn ⟨o, h1, h2⟩ e (fun z => nomatch z) fin
  | @tup a xs ea =>
    cases (show u = Value.ref a from rx)
    obtain ⟨its, _, pl, _⟩ := I.tuple ea
    obtain ⟨o, h1, h2, _⟩ := pl
    exact PySem.W.kia_one PySem.W.kitx_tuple I.kIn ⟨o, h1, h2⟩ e (fun z => nomatch z) fin
  | @dK a kvs ea =>
    cases (show u = Value.ref a from rx)
    obtain ⟨_, _, vs, _, p⟩ := ea.ok I.hok
    obtain ⟨o, es, ep, h1, h2, _⟩ := p
    exact PySem.W.kia_one PySem.W.kitx_dict I.kIn ⟨o, h1, h2.1⟩ e (fun z => nomatch z) fin
  | @dT a kvs ea =>
    cases (show u = Value.ref a from rx)
    obtain ⟨_, _, xs, _, o, es, ep, h1, h2, _⟩ := ea.ok I.hok
    exact PySem.W.kia_one PySem.W.kitx_dict I.kIn ⟨o, h1, h2.1⟩ e (fun z => nomatch z) fin
class RpT (α : Type) [Rp α] where
  tn : String
  ty : ∀ {K : PySem.W.Frag} {H : Hp} {v : V} {a : α}, Rp.rel K H v a → TyS K H v tn
noncomputable instance rtInt : RpT Int := ⟨"int", fun h => by cases h; exact .int _⟩
noncomputable instance rtBool : RpT Bool := ⟨"bool", fun h => by cases h; exact .bl _⟩
noncomputable instance rtStr : RpT Str := ⟨"str", fun h => by obtain ⟨rfl, _⟩ := h; exact .str _⟩
noncomputable instance rtUnit : RpT Unit := ⟨"NoneType", fun h => by cases h; exact .non⟩
noncomputable instance rtList : RpT (List α) := ⟨"list", fun h => by obtain ⟨l, xs, rfl, h, _⟩ := h; exact .lst (.inl h)⟩
noncomputable instance rtPair : RpT (α × β) := ⟨"tuple", fun h => by obtain ⟨l, x, y, rfl, h, _⟩ := h; exact .tup h⟩
noncomputable instance rtT3 : RpT (T3 α β γ) := ⟨"tuple", fun h => by obtain ⟨l, x, y, z, rfl, h, _⟩ := h; exact .tup h⟩
noncomputable instance rtTp : RpT (Tp α) := ⟨"tuple", fun h => by obtain ⟨l, xs, rfl, h, _⟩ := h; exact .tup h⟩
theorem TyS.mono {H H' : Hp} {v : V} {t : String} (s : Same H H') (h : TyS K H v t) : TyS K H' v t := by
  cases h with
  | non => exact .non
  | bl => exact .bl _
  | int => exact .int _
  | str => exact .str _
  | lst e => exact .lst (s.seq e)
  | tup e => exact .tup (s.tup e)
  | dK e => exact .dK (s.rd e)
  | dT e => exact .dT (s.rd e)
theorem ev_inst [RpT α] {T : String} {b : Bool} (h : kitC (RpT.tn α) T = some b) (ea : EV K ta σ G ma) : EV K (tCB (rInst K) (tCons ta (tCons (tC (.ty T)) tNil))) σ G (ma.bind fun _ => some b) := by
  intro G1 s1 c hc H sH Q k
  obtain ⟨a, ha, hc⟩ := Option.bind_eq_some_iff.mp hc
  cases hc
  refine ea G1 s1 a ha H sH _ fun v G2 H2 x2 r2 => ?_
  exact ⟨_, _, _, _, rfl, (RpT.ty r2).mono x2.gh, h, k _ _ _ x2 rfl⟩
theorem EqTy.imp {k : Nat} {α : Type} [DecidableEq α] {R R' : Hp → V → α → Prop} (E : EqTy K k R) (h : ∀ H v a, R' H v a → R H v a) : EqTy K k R' :=
  ⟨fun hK I a b => E.fn hK I (h _ _ _ a) (h _ _ _ b), fun A hK I hu r1 r2 a b => E.eq A hK I hu r1 r2 (h _ _ _ a) (h _ _ _ b), fun A hK I hu r1 r2 a b => E.rc A hK I hu r1 r2 (h _ _ _ a) (h _ _ _ b)⟩
class RpE (α : Type) [Rp α] [DecidableEq α] where
  k : Nat
  ty : ∀ K : PySem.W.Frag, EqTy K k (Rp.rel (α := α) K)
noncomputable instance reInt : RpE Int := ⟨0, fun _ => eqInt⟩
noncomputable instance reBool : RpE Bool := ⟨0, fun _ => eqBl⟩
noncomputable instance reStr : RpE Str := ⟨0, fun _ => eqStr.imp fun _ _ _ h => h.1⟩
noncomputable instance reList {α : Type} [Rp α] [DecidableEq α] [RpE α] : RpE (List α) := ⟨RpE.k α + 1, fun K => (eqLst (RpE.ty K)).imp fun _ _ _ ⟨l, xs, e, h, _, p⟩ => ⟨l, xs, e, .inl h, p⟩⟩
theorem EqTy.up {k j : Nat} {α : Type} [DecidableEq α] {R : Hp → V → α → Prop} (E : EqTy K k R) (h : k ≤ j) : EqTy K j R :=
  ⟨fun hK I a b => E.fn hK I a b, fun A hK I hu r1 r2 a b => E.eq A hK I (by omega) r1 r2 a b, fun A hK I hu r1 r2 a b => E.rc A hK I (by omega) r1 r2 a b⟩
noncomputable instance rePair {α β : Type} [Rp α] [DecidableEq α] [RpE α] [Rp β] [DecidableEq β] [RpE β] : RpE (α × β) :=
  ⟨max (RpE.k α) (RpE.k β) + 1, fun K => (eqPair ((RpE.ty (α := α) K).up (Nat.le_max_left _ _)) ((RpE.ty (α := β) K).up (Nat.le_max_right _ _)))⟩
section
variable {α : Type} [Rp α] [DecidableEq α] {m1 m2 : Option α}
end
end
end L2
set_option Elab.async false
set_option linter.all false
set_option maxRecDepth 100000
set_option maxHeartbeats 4000000
namespace L2
open PySem PySem.Spec PyProof.Rows
inductive Fl (S ρ : Type) where
  | nx (s : S)
  | bk (s : S)
  | rt (r : ρ)
noncomputable def forO {α S ρ : Type} (f : α → S → Option (Fl S ρ)) : List α → S → Option (Fl S ρ)
  | [], s => some (.nx s)
  | a :: as, s => (f a s).bind fun fl => match fl with
    | .nx s' => forO f as s'
    | .bk s' => some (.nx s')
    | .rt r => some (.rt r)
noncomputable def whileN {S ρ : Type} (c : S → Option Bool) (f : S → Option (Fl S ρ)) : Nat → S → Option (Fl S ρ)
  | 0, _ => none
  | n + 1, s => (c s).bind fun b => cond b ((f s).bind fun fl => match fl with
    | .nx s' => whileN c f n s'
    | .bk s' => some (.nx s')
    | .rt r => some (.rt r)) (some (.nx s))
noncomputable def fuelW : Nat := 16777216
noncomputable def compO {α β : Type} (fc : α → Option Bool) (fe : α → Option β) : List α → Option (List β)
  | [] => some []
  | a :: r => (fc a).bind fun b => cond b ((fe a).bind fun y => (compO fc fe r).bind fun ys => some (y :: ys)) (compO fc fe r)
noncomputable def mapO {α β : Type} (fe : α → Option β) : List α → Option (List β)
  | [] => some []
  | a :: r => (fe a).bind fun y => (mapO fe r).bind fun ys => some (y :: ys)
theorem compO_true {α β : Type} (fe : α → Option β) : ∀ as, compO (fun _ => some true) fe as = mapO fe as
  | [] => rfl
  | a :: r => by
    show ((fe a).bind fun y => (compO (fun _ => some true) fe r).bind fun ys => some (y :: ys)) = _
    rw [compO_true fe r]
    rfl
noncomputable def rngO (lo hi : Int) : Option (List Int) := if (-(2 ^ 62) ≤ lo ∧ lo < 2 ^ 62 ∧ -(2 ^ 62) ≤ hi ∧ hi < 2 ^ 62) ∧ (hi - lo).toNat ≤ sizeLine then some ((List.range (hi - lo).toNat).map fun (i : Nat) => lo + (i : Int)) else none
section
variable {K : PySem.W.Frag} {σ : St} {G : Hp} {α β γ δ : Type} [Rp α] [Rp β] [Rp γ] [Rp δ] {ta tb tc td : TE} {ma : Option α} {mb : Option β} {mc : Option γ} {md : Option δ}
noncomputable def IW (K : PySem.W.Frag) {α : Type} [Rp α] (wi : TI) (σ : St) (G : Hp) (m : Option (List α)) : Prop :=
  ∀ G1, Same G G1 → ∀ a, m = some a → ∀ H, Same G1 H → ∀ R : It → Hp → Prop, (∀ J vs G2 H2, Ext G1 H G2 H2 → Yields J G2 vs → vs.length ≤ sizeLine → Paired (Rp.rel K G2) vs a → R J H2) → wi σ H R
theorem yields_tup {a : Addr} {xs : List V} {H : Hp} (h : SqT K H a xs) : Yields (Itt K a) H xs where
  go := fun i H' s hi => ⟨xs, xs[i], s.tup h, by simp [hi]⟩
  stop := fun H' s => ⟨xs, s.tup h, Nat.le_refl _⟩
  yld := fun i H' v H'' s _ y => ⟨y.1, y.2 xs (s.tup h)⟩
theorem iw_list {la : Option (List α)} (ea : EV K ta σ G la) : IW K (iAny K ta) σ G la := by
  intro G1 s1 a ha H sH R k
  refine ea G1 s1 a ha H sH _ fun v G2 H2 x2 r2 => ?_
  obtain ⟨l, xs, rfl, h, z, p⟩ := r2
  exact .inl ⟨⟨xs, .inl (x2.gh.rd h)⟩, k _ xs G2 H2 x2 (yields_list (.inl h)) z p⟩
noncomputable def signsO (x : Str) : List Str := x.cps.toList.map fun c => (⟨#[c]⟩ : Str)
theorem paired_signs (x : Str) (H : Hp) : Paired (Rp.rel K H) (signsV x) (signsO x) := by
  unfold signsV signsO
  induction x.cps.toList with
  | nil => exact .nil
  | cons c r ih => exact .cons ⟨rfl, by show 1 ≤ sizeLine; decide⟩ ih
theorem paired_ints (H : Hp) (f : Nat → Int) : ∀ l : List Nat, Paired (Rp.rel K H) (l.map fun i => V.int (f i)) (l.map fun i => f i)
  | [] => .nil
  | a :: r => .cons rfl (paired_ints H f r)
theorem iw_rng1 {ia : Option Int} (ea : EV K ta σ G ia) : IW K (iRng1 (tCons ta tNil)) σ G (ia.bind fun j => rngO 0 j) := by
  intro G1 s1 a ha H sH R k
  obtain ⟨j, hj, ha⟩ := Option.bind_eq_some_iff.mp ha
  obtain ⟨⟨hb, hz⟩, rfl⟩ := ite_some ha
  refine ea G1 s1 j hj H sH _ fun v G2 H2 x2 r2 => ?_
  cases r2
  refine ⟨j, rfl, hb.2.2.1, hb.2.2.2, ?_⟩
  have e : (j - 0).toNat = j.toNat := by omega
  rw [e] at hz k
  exact k (Itr 0 j.toNat) _ G2 H2 x2 (yields_range 0 j.toNat G2) (by rw [List.length_map, List.length_range]; exact hz) (paired_ints G2 (fun i => (0 : Int) + (i : Int)) _)
theorem tv_yes : TV tYes σ G (some true) := fun G1 s1 a ha H sH Q k => by
  cases ha
  exact k _ _ (.refl sH)
theorem Paired.getR {F : V → α → Prop} : ∀ {xs : List V} {as : List α} {i : Nat} {v : V}, Paired F xs as → xs[i]? = some v → ∃ a, as[i]? = some a ∧ F v a
  | _, _, _, _, .nil, e => by simp at e
  | _, _, 0, _, .cons r _, e => by simp at e; subst e; exact ⟨_, rfl, r⟩
  | _, _, i + 1, _, .cons _ t, e => Paired.getR (i := i) t (by simpa using e)
theorem fv_comp {cap : List Nat} {wi : TI} {tt : TT} {te : TE} {mi : Option (List α)} {fc : α → Option Bool} {fe : α → Option β} (ei : IW K wi σ G mi)
    (hb : ∀ (x : V) (a : α) (G1 : Hp), Same G G1 → Rp.rel K G1 x a → TV tt ((inner cap σ).set 0 (some x)) G1 (fc a) ∧ EV K te ((inner cap σ).set 0 (some x)) G1 (fe a)) :
    FV K (tComp cap wi tt te) σ G (mi.bind fun as => compO fc fe as) := by
  intro G1 s1 c hc H sH Q k
  obtain ⟨as, has, hc⟩ := Option.bind_eq_some_iff.mp hc
  refine ei G1 s1 as has H sH _ fun J vs Ga Ha xa Y hz pr p hp => ?_
  have hla := Paired.length pr
  refine ⟨fun i m ys H2 => m = vs.length - i ∧ i ≤ vs.length ∧ ∃ G2 bs cs, Ext Ga Ha G2 H2 ∧ G2 p = none ∧ H2 p = some (.lst ys) ∧ ys.length ≤ i ∧ Paired (Rp.rel K G2) ys bs ∧ compO fc fe (as.drop i) = some cs ∧ c = bs ++ cs,
    ⟨vs.length, by simp, Nat.zero_le _, Ga, [], c, .own xa.gh hp, xa.gh.free hp, upd_same, Nat.le_refl _, .nil, hc, rfl⟩, ?_⟩
  rintro i m ys H2 ⟨rfl, hi, G2, bs, cs, x2, hg, hh, hy, hpr, hcs, rfl⟩
  by_cases hlt : i < vs.length
  · refine .inr ⟨Y.go i _ (x2.gg.trans x2.gh) hlt, fun ys' H' => ∃ G2 bs' cs', Ext Ga Ha G2 H' ∧ G2 p = none ∧ H' p = some (.lst ys') ∧ ys'.length ≤ i + 1 ∧ Paired (Rp.rel K G2) ys' bs' ∧ compO fc fe (as.drop (i + 1)) = some cs' ∧ bs ++ cs = bs' ++ cs',
      fun ys' H' ⟨G3, bs', cs', h⟩ => ⟨vs.length - (i + 1), by omega, rfl, hlt, G3, bs', cs', h⟩, fun x H3 y => ?_⟩
    obtain ⟨rfl, hx⟩ := Y.yld i _ x H3 (x2.gg.trans x2.gh) hlt y
    obtain ⟨a, hai, ra⟩ := Paired.getR pr hx
    have hd : as.drop i = a :: as.drop (i + 1) := by
      obtain ⟨h1, h2⟩ := List.getElem?_eq_some_iff.mp hai
      rw [List.drop_eq_getElem_cons h1, h2]
    rw [hd] at hcs
    obtain ⟨b, hbb, hcs⟩ := Option.bind_eq_some_iff.mp hcs
    have B := hb x a G2 (s1.trans (xa.gg.trans x2.gg)) (Rp.mono x2.gg ra)
    refine B.1 G2 (.refl _) b hbb _ x2.gh _ fun G5 H5 x5 => ?_
    have hp5 : H5 p = some (.lst ys) := x5.hh _ _ hh
    have hg5 : G5 p = none := x5.no p hg (by rw [hh]; exact fun z => nomatch z)
    cases b with
    | false =>
      rw [if_neg Bool.false_ne_true]
      exact ⟨G5, bs, cs, x2.trans x5, hg5, hp5, by omega, Paired.imp' (fun _ _ r => Rp.mono x5.gg r) hpr, hcs, rfl⟩
    | true =>
      rw [if_pos rfl]
      obtain ⟨z, hze, hcs⟩ := Option.bind_eq_some_iff.mp hcs
      obtain ⟨cs', hcs', hcs⟩ := Option.bind_eq_some_iff.mp hcs
      cases hcs
      refine B.2 G5 x5.gg z hze H5 x5.gh _ fun v G6 H6 x6 r6 => ?_
      have hp6 : H6 p = some (.lst ys) := x6.hh _ _ hp5
      have hg6 : G6 p = none := x6.no p hg5 (by rw [hp5]; exact fun z => nomatch z)
      refine ⟨hp6, by omega, G6, bs ++ [z], cs', ((x2.trans x5).trans x6).put hp hg6, hg6, upd_same, ?_, Paired.app (Paired.imp' (fun _ _ r => Rp.mono (x5.trans x6).gg r) hpr) (.cons r6 .nil), hcs', by simp⟩
      rw [List.length_append, List.length_singleton]
      omega
  · have e : i = vs.length := by omega
    subst e
    have hd : as.drop vs.length = [] := List.drop_eq_nil_of_le (by omega)
    rw [hd] at hcs
    cases hcs
    refine .inl ⟨Y.stop _ (x2.gg.trans x2.gh), ?_⟩
    rw [List.append_nil] at k
    exact k p ys G2 H2 (xa.trans x2) (xa.hh.free hp) hg hh (by omega) hpr
theorem fv_map {cap : List Nat} {wi : TI} {te : TE} {mi : Option (List α)} {fe : α → Option β} (ei : IW K wi σ G mi)
    (hb : ∀ (x : V) (a : α) (G1 : Hp), Same G G1 → Rp.rel K G1 x a → EV K te ((inner cap σ).set 0 (some x)) G1 (fe a)) :
    FV K (tComp cap wi tYes te) σ G (mi.bind fun as => mapO fe as) := by
  have h := fv_comp (tt := tYes) (fc := fun _ => some true) ei fun x a G1 s r => ⟨tv_yes, hb x a G1 s r⟩
  have e : (fun as => compO (fun _ => some true) fe as) = fun as => mapO fe as := funext (compO_true fe)
  rw [e] at h
  exact h
end
section
variable {K : PySem.W.Frag} {σ : St} {G H : Hp} {α β : Type} [Rp α] [Rp β] {te : TE} {tt : TT} {t u rest : TS} {D : Ends} {i : Nat} {a : α} {m : Option α}
theorem sv_set (e : EV K te σ G m) (hm : m = some a) (s : Same G H) (k : ∀ v G2 H2, Ext G H G2 H2 → Rp.rel K G2 v a → rest D (σ.set i (some v)) H2) : tSeq (tAsg te (gName i)) rest D σ H := e.run hm s k
theorem sv_ret (e : EV K te σ G m) (hm : m = some a) (s : Same G H) (k : ∀ v G2 H2, Ext G H G2 H2 → Rp.rel K G2 v a → D.rt v H2) : tSeq (tRet te) rest D σ H := e.run hm s k
theorem sv_if {b : Bool} {m : Option Bool} (e : TV tt σ G m) (hm : m = some b) (s : Same G H) (k : ∀ G2 H2, Ext G H G2 H2 → if b = true then t { D with nx := rest D } σ H2 else u { D with nx := rest D } σ H2) :
    tSeq (tIfS tt t u) rest D σ H := e.run hm s k
theorem sv_join (Pv : St → Hp → Prop) (h : ∀ nx : St → Hp → Prop, (∀ σ' H', Pv σ' H' → nx σ' H') → tSeq t tNext { D with nx := nx } σ H) (key : ∀ σ' H', Pv σ' H' → rest D σ' H') : tSeq t rest D σ H := h (rest D) key
structure LoopOb (K : PySem.W.Frag) {α S ρ : Type} [Rp α] (RR : ρ → V → Hp → Hp → Prop) (f : α → S → Option (Fl S ρ)) (g : TG) (tb : TS) (D : Ends) (σ : St) (G2 H2 : Hp) (as : List α) (s0 : S) (res : Fl S ρ) (RS : S → St → Hp → Hp → Prop) : Prop where
  start : RS s0 σ G2 H2
  keep : ∀ s σ' G' H', RS s σ' G' H' → Same G2 G' ∧ Same G' H'
  step : ∀ (x : V) (a : α) (s : S) (σ1 : St) (G1 H1 : Hp) (fl : Fl S ρ), a ∈ as → RS s σ1 G1 H1 → Rp.rel K G1 x a → f a s = some fl → ∀ D' : Ends, (∀ s' σ' G' H', fl = .nx s' → RS s' σ' G' H' → D'.nx σ' H') → (∀ s' σ' G' H', fl = .nx s' → RS s' σ' G' H' → D'.ct σ' H') →
    (∀ s' σ' G' H', fl = .bk s' → RS s' σ' G' H' → D'.bk σ' H') → (∀ r v G' H', fl = .rt r → RR r v G' H' → D'.rt v H') → g x σ1 H1 fun σ2 H2 => tb D' σ2 H2
  nxt : ∀ s σ' G' H', res = .nx s → RS s σ' G' H' → D.nx σ' H'
  rtn : ∀ r v G' H', res = .rt r → RR r v G' H' → D.rt v H'
theorem sv_for {S ρ : Type} {RR : ρ → V → Hp → Hp → Prop} {f : α → S → Option (Fl S ρ)} {wi : TI} {g : TG} {tb : TS} {mi : Option (List α)} {as : List α} {s0 : S} {res : Fl S ρ} (ei : IW K wi σ G mi) (hm : mi = some as) (hf : forO f as s0 = some res) (sg : Same G H)
    (k : ∀ G2 H2, Ext G H G2 H2 → ∃ RS, LoopOb K RR f g tb { D with nx := rest D } σ G2 H2 as s0 res RS) : tSeq (tFor wi g tb) rest D σ H := by
  refine ei G (.refl G) as hm H sg _ fun J vs G2 H2 x2 Y hz pr => ?_
  obtain ⟨RS, L⟩ := k G2 H2 x2
  have hla := Paired.length pr
  refine ⟨fun i m σ' H' => m = vs.length - i ∧ i ≤ vs.length ∧ ∃ s G', RS s σ' G' H' ∧ forO f (as.drop i) s = some res, ⟨vs.length, by simp, Nat.zero_le _, s0, G2, L.start, hf⟩, ?_⟩
  rintro i m σ' H' ⟨rfl, hi, s, G', rs, hfo⟩
  obtain ⟨k1, k2⟩ := L.keep _ _ _ _ rs
  by_cases hlt : i < vs.length
  · refine .inr ⟨Y.go i _ (k1.trans k2) hlt, fun σ'' H'' => ∃ s' G'', RS s' σ'' G'' H'' ∧ forO f (as.drop (i + 1)) s' = some res, fun σ'' H'' ⟨s', G'', h⟩ => ⟨vs.length - (i + 1), by omega, rfl, hlt, s', G'', h⟩, fun x H3 y => ?_⟩
    obtain ⟨rfl, hx⟩ := Y.yld i _ x H3 (k1.trans k2) hlt y
    obtain ⟨a, hai, ra⟩ := Paired.getR pr hx
    have hd : as.drop i = a :: as.drop (i + 1) := by
      obtain ⟨h1, h2⟩ := List.getElem?_eq_some_iff.mp hai
      rw [List.drop_eq_getElem_cons h1, h2]
    rw [hd] at hfo
    obtain ⟨fl, hfl, hfo⟩ := Option.bind_eq_some_iff.mp hfo
    refine L.step x a s σ' G' _ fl (List.mem_of_getElem? hai) rs (Rp.mono k1 ra) hfl _ ?_ ?_ ?_ ?_
    · intro s' σ'' G'' H'' e r
      subst e
      exact ⟨s', G'', r, hfo⟩
    · intro s' σ'' G'' H'' e r
      subst e
      exact ⟨s', G'', r, hfo⟩
    · intro s' σ'' G'' H'' e r
      subst e
      exact L.nxt s' σ'' G'' H'' (Option.some.inj hfo).symm r
    · intro r v G'' H'' e rl
      subst e
      exact L.rtn r v G'' H'' (Option.some.inj hfo).symm rl
  · have e : i = vs.length := by omega
    subst e
    have hd : as.drop vs.length = [] := List.drop_eq_nil_of_le (by omega)
    rw [hd] at hfo
    exact .inl ⟨Y.stop _ (k1.trans k2), L.nxt s σ' G' H' (Option.some.inj hfo).symm rs⟩
structure WhileOb (K : PySem.W.Frag) {S ρ : Type} (RR : ρ → V → Hp → Hp → Prop) (c : S → Option Bool) (f : S → Option (Fl S ρ)) (tt : TT) (tb : TS) (D : Ends) (σ : St) (G2 H2 : Hp) (s0 : S) (res : Fl S ρ) (RS : S → St → Hp → Hp → Prop) : Prop where
  start : RS s0 σ G2 H2
  keep : ∀ s σ' G' H', RS s σ' G' H' → Same G' H'
  test : ∀ s σ' G' H' b, RS s σ' G' H' → c s = some b → ∀ Q : Bool → Hp → Prop, (∀ G'' H'', RS s σ' G'' H'' → Q b H'') → tt σ' H' Q
  step : ∀ (s : S) (σ1 : St) (G1 H1 : Hp) (fl : Fl S ρ), RS s σ1 G1 H1 → f s = some fl → c s = some true → ∀ D' : Ends, (∀ s' σ' G' H', fl = .nx s' → RS s' σ' G' H' → D'.nx σ' H') → (∀ s' σ' G' H', fl = .nx s' → RS s' σ' G' H' → D'.ct σ' H') →
    (∀ s' σ' G' H', fl = .bk s' → RS s' σ' G' H' → D'.bk σ' H') → (∀ r v G' H', fl = .rt r → RR r v G' H' → D'.rt v H') → tb D' σ1 H1
  nxt : ∀ s σ' G' H', res = .nx s → RS s σ' G' H' → D.nx σ' H'
  rtn : ∀ r v G' H', res = .rt r → RR r v G' H' → D.rt v H'
theorem sv_while {S ρ : Type} {RR : ρ → V → Hp → Hp → Prop} {c : S → Option Bool} {f : S → Option (Fl S ρ)} {tb : TS} {n : Nat} {s0 : S} {res : Fl S ρ} (hf : whileN c f n s0 = some res) (RS : S → St → Hp → Hp → Prop)
    (L : WhileOb K RR c f tt tb { D with nx := rest D } σ G H s0 res RS) : tSeq (tWhile tt tb) rest D σ H := by
  refine ⟨fun m σ' H' => ∃ s G', RS s σ' G' H' ∧ whileN c f m s = some res, ⟨n, s0, G, L.start, hf⟩, ?_⟩
  rintro m σ' H' ⟨s, G', rs, hw⟩
  cases m with
  | zero => cases hw
  | succ m =>
    obtain ⟨b, hb, hw⟩ := Option.bind_eq_some_iff.mp hw
    refine L.test s σ' G' H' b rs hb _ fun G'' H'' rs' => ?_
    cases b with
    | false => exact iteF (L.nxt s σ' G'' H'' (Option.some.inj hw).symm rs')
    | true =>
      obtain ⟨fl, hfl, hw⟩ := Option.bind_eq_some_iff.mp hw
      refine iteT ⟨fun σ2 H2 => ∃ s' G2, RS s' σ2 G2 H2 ∧ whileN c f m s' = some res, fun σ2 H2 h => ⟨m, Nat.lt_succ_self m, h⟩, ?_⟩
      refine L.step s σ' G'' H'' fl rs' hfl hb _ ?_ ?_ ?_ ?_
      · intro s' σ2 G2 H2 e r
        subst e
        exact ⟨s', G2, r, hw⟩
      · intro s' σ2 G2 H2 e r
        subst e
        exact ⟨s', G2, r, hw⟩
      · intro s' σ2 G2 H2 e r
        subst e
        exact L.nxt s' σ2 G2 H2 (Option.some.inj hw).symm r
      · intro r v G2 H2 e rl
        subst e
        exact L.rtn r v G2 H2 (Option.some.inj hw).symm rl
end
structure Own (K : PySem.W.Frag) {α : Type} [Rp α] (G H : Hp) (v : V) (p : Addr) (vs : List V) (as : List α) : Prop where
  v : v = .ref p
  g : G p = none
  h : H p = some (.lst vs)
  z : vs.length ≤ sizeLine
  p : Paired (Rp.rel K G) vs as
section
variable {K : PySem.W.Frag} {σ : St} {G H G1 H1 G0 H0 : Hp} {α β : Type} [Rp α] [Rp β] {te ti : TE} {tt : TT} {t u rest : TS} {D : Ends} {i : Nat} {a : α} {m : Option α} {as : List α} {v : V} {p q : Addr} {vs : List V}
theorem Own.ext (o : Own K G H v p vs as) (x : Ext G H G1 H1) : Own K G1 H1 v p vs as :=
  ⟨o.v, x.no p o.g (by rw [o.h]; exact fun z => nomatch z), x.hh _ _ o.h, o.z, Paired.imp' (fun _ _ r => Rp.mono x.gg r) o.p⟩
theorem Own.put {ho : HO} (o : Own K G H v p vs as) (h : p ≠ q) : Own K G (upd H q ho) v p vs as := ⟨o.v, o.g, by rw [upd_ne h]; exact o.h, o.z, o.p⟩
theorem Own.tell (o : Own K G H v p vs as) : Rp.rel K (upd G p (.lst vs)) v as := ⟨p, vs, o.v, .inl upd_same, o.z, Paired.imp' (fun _ _ r => Rp.mono (Same.new o.g) r) o.p⟩
theorem Own.same (o : Own K G H v p vs as) (s : Same G H) : Same (upd G p (.lst vs)) H := fun b x e => by
  by_cases hb : b = p
  · subst hb
    rw [upd_same] at e
    rw [o.h]
    exact e
  · rw [upd_ne hb] at e
    exact s b x e
theorem sv_own {m : Option (List α)} {as : List α} (e : FV K te σ G m) (hm : m = some as) (s : Same G H) (k : ∀ p vs G2 H2, Ext G H G2 H2 → H p = none → Own K G2 H2 (.ref p) p vs as → rest D (σ.set i (some (.ref p))) H2) : tSeq (tAsg te (gName i)) rest D σ H :=
  e G (.refl G) as hm H s _ fun p vs G2 H2 x h0 hg hh hz hp => k p vs G2 H2 x h0 ⟨rfl, hg, hh, hz, hp⟩
noncomputable def pushO {α : Type} (as : List α) (a : α) : Option (List α) := if as.length < sizeLine then some (as ++ [a]) else none
theorem sv_append {as' : List α} (hσ : σ[i]? = some (some v)) (o : Own K G H v p vs as) (e : EV K te σ G m) (hm : m = some a) (hp : pushO as a = some as') (s : Same G H)
    (k : ∀ G2 H2 w, Ext G H G2 H2 → Own K G2 (upd H2 p (.lst (vs ++ [w]))) v p (vs ++ [w]) as' → rest D σ (upd H2 p (.lst (vs ++ [w])))) : tSeq (tDrop (tBM K "list" rAppend (tVar i) (tCons te tNil))) rest D σ H := by
  obtain ⟨hl, rfl⟩ := ite_some hp
  have hlen := Paired.length o.p
  obtain ⟨rfl, og, oh, oz, op⟩ := o
  refine ⟨_, hσ, .inl ⟨rfl, _, SqL.of oh⟩, ?_⟩
  refine e.run hm s fun w G2 H2 x r => ?_
  refine ⟨p, vs, w, rfl, rfl, x.hh _ _ oh, by omega, ?_⟩
  refine k G2 H2 w x ⟨rfl, x.no p og (by rw [oh]; exact fun z => nomatch z), upd_same, ?_, Paired.app (Paired.imp' (fun _ _ r => Rp.mono x.gg r) op) (.cons r .nil)⟩
  rw [List.length_append, List.length_singleton]
  omega
structure TupK (H H' : Hp) : Prop where
  rd : ∀ b xs, Rd H b (.tup xs) → Rd H' b (.tup xs)
  eq : ∀ b xs, H b = some (.tup xs) → H' b = some (.tup xs)
class Imm (α : Type) [Rp α] : Prop where
  im : ∀ {K : PySem.W.Frag} {H H' : Hp} {v : V} {a : α}, TupK H H' → Rp.rel K H v a → Rp.rel K H' v a
noncomputable instance imInt : Imm Int := ⟨fun _ h => h⟩
noncomputable instance imBool : Imm Bool := ⟨fun _ h => h⟩
noncomputable instance imStr : Imm Str := ⟨fun _ h => h⟩
noncomputable instance imUnit : Imm Unit := ⟨fun _ h => h⟩
theorem SqT.im {H H' : Hp} {t : Addr} {xs : List V} (f : TupK H H') (h : SqT K H t xs) : SqT K H' t xs := by
  rcases h with h | h
  · exact .inl (f.rd _ _ h)
  · exact .inr h
noncomputable instance imPair {α β : Type} [Rp α] [Rp β] [Imm α] [Imm β] : Imm (α × β) := ⟨fun f ⟨t, a, b, e, h, r1, r2⟩ => ⟨t, a, b, e, h.im f, Imm.im f r1, Imm.im f r2⟩⟩
noncomputable instance imT3 {α β γ : Type} [Rp α] [Rp β] [Rp γ] [Imm α] [Imm β] [Imm γ] : Imm (T3 α β γ) := ⟨fun f ⟨t, a, b, c, e, h, r1, r2, r3⟩ => ⟨t, a, b, c, e, h.im f, Imm.im f r1, Imm.im f r2, Imm.im f r3⟩⟩
noncomputable instance imTp {α : Type} [Rp α] [Imm α] : Imm (Tp α) := ⟨fun f ⟨t, xs, e, h, z, p⟩ => ⟨t, xs, e, h.im f, z, Paired.imp' (fun _ _ r => Imm.im f r) p⟩⟩
noncomputable instance imOpt {α : Type} [Rp α] [Imm α] : Imm (Option α) := ⟨fun {K H H' v a} f h => by cases a with | none => exact h | some a => exact Imm.im (α := α) f h⟩
noncomputable def del (G : Hp) (p : Addr) : Hp := fun b => if b = p then none else G b
theorem del_ne {G : Hp} {p b : Addr} (h : b ≠ p) : del G p b = G b := by unfold del; rw [if_neg h]
theorem del_same {G : Hp} {p : Addr} : del G p p = none := by unfold del; rw [if_pos rfl]
theorem Ext.del {ho : HO} {G2 H2 : Hp} (hg : G p = none) (x : Ext (upd G p ho) H G2 H2) : Ext G H (L2.del G2 p) H2 :=
  ⟨fun b o e => by
    have hb : b ≠ p := ne_of_none e hg
    rw [del_ne hb]
    exact x.gg b o (by rw [upd_ne hb]; exact e), fun b o e => by
    by_cases hb : b = p
    · subst hb
      rw [del_same] at e
      cases e
    · rw [del_ne hb] at e
      exact x.gh b o e, x.hh, fun b h1 h2 => by
    by_cases hb : b = p
    · subst hb
      exact del_same
    · rw [del_ne hb]
      exact x.no b (by rw [upd_ne hb]; exact h1) h2⟩
theorem Imm.del {β : Type} [Rp β] [Imm β] {G2 : Hp} {w : V} {c : β} {ys : List V} (h : G2 p = some (.lst ys)) (r : Rp.rel K G2 w c) : Rp.rel K (L2.del G2 p) w c :=
  Imm.im ⟨fun b xs e => by
    have hb : b ≠ p := fun z => by
      subst z
      rcases e with e | ⟨o, e⟩ <;> (rw [h] at e; cases e)
    rcases e with e | ⟨o, e⟩
    · exact .inl (by rw [del_ne hb]; exact e)
    · exact .inr ⟨o, by rw [del_ne hb]; exact e⟩, fun b xs e => by
    have hb : b ≠ p := fun z => by
      subst z
      rw [h] at e
      cases e
    rw [del_ne hb]
    exact e⟩ r
theorem EV.runB {β : Type} [Rp β] [Imm β] {mb : Option β} {b : β} {Q : VK} (o : Own K G H v p vs as) (e : EV K te σ (upd G p (.lst vs)) mb) (hm : mb = some b) (s : Same G H) (k : ∀ w G2 H2, Ext G H G2 H2 → Rp.rel K G2 w b → Q w H2) : te σ H Q :=
  e.run hm (o.same s) fun w G2 H2 x r => k w (del G2 p) H2 (x.del o.g) (Imm.del (x.gg _ _ upd_same) r)
theorem TV.runB {mb : Option Bool} {b : Bool} {Q : Bool → Hp → Prop} (o : Own K G H v p vs as) (e : TV tt σ (upd G p (.lst vs)) mb) (hm : mb = some b) (s : Same G H) (k : ∀ G2 H2, Ext G H G2 H2 → Q b H2) : tt σ H Q :=
  e.run hm (o.same s) fun G2 H2 x => k (del G2 p) H2 (x.del o.g)
end
end L2
set_option Elab.async false
set_option linter.all false
set_option maxRecDepth 100000
set_option maxHeartbeats 4000000
namespace L2
open PySem PySem.Spec PyProof.Rows
section
variable {K : PySem.W.Frag} {σ : St} {G : Hp}
theorem ev_def1 {ρ A0 : Type} [Rp ρ] [Rp A0] {t0 : TE} {m0 : Option A0} {m : A0 × Unit → Option ρ} (e0 : EV K t0 σ G m0) : EV K (tCall (spM K m) [] E0 (tCons t0 tNil)) σ G (m0.bind fun a0 => m (a0, ())) := by
  intro G1 s1 c hc H sH Q k
  obtain ⟨a0, ha0, hc⟩ := Option.bind_eq_some_iff.mp hc
  refine e0 G1 s1 a0 ha0 H sH _ fun v0 G2 H2 x0 r0 => ?_
  have y0 := x0
  exact ⟨G2, _, c, y0.gh, ⟨v0, _, rfl, r0, rfl⟩, hc, fun v G9 H9 x9 r9 => k v G9 H9 (y0.trans x9) r9⟩
theorem ev_def2 {ρ A0 A1 : Type} [Rp ρ] [Rp A0] [Rp A1] {t0 t1 : TE} {m0 : Option A0} {m1 : Option A1} {m : A0 × A1 × Unit → Option ρ} (e0 : EV K t0 σ G m0) (e1 : EV K t1 σ G m1) : EV K (tCall (spM K m) [] E0 (tCons t0 (tCons t1 tNil))) σ G (m0.bind fun a0 => m1.bind fun a1 => m (a0, a1, ())) := by
  intro G1 s1 c hc H sH Q k
  obtain ⟨a0, ha0, hc⟩ := Option.bind_eq_some_iff.mp hc
  obtain ⟨a1, ha1, hc⟩ := Option.bind_eq_some_iff.mp hc
  refine e0 G1 s1 a0 ha0 H sH _ fun v0 G2 H2 x0 r0 => ?_
  have y0 := x0
  refine e1 G2 (s1.trans y0.gg) a1 ha1 H2 y0.gh _ fun v1 G3 H3 x1 r1 => ?_
  have y1 := y0.trans x1
  exact ⟨G3, _, c, y1.gh, ⟨v0, _, rfl, (Rp.mono x1.gg r0), ⟨v1, _, rfl, r1, rfl⟩⟩, hc, fun v G9 H9 x9 r9 => k v G9 H9 (y1.trans x9) r9⟩
section
variable {ta tb : TE} {a b : Bool} {tt tu : TT} {mb : Option Bool}
theorem ev_andP (ea : EV K ta σ G (some a)) (eb : EV K tb σ G (some b)) : EV K (tAndV ta tb) σ G (some (a && b)) := (ev_and ea eb).of (by cases a <;> rfl)
theorem TV.of {m m' : Option Bool} (e : TV tt σ G m) (h : m = m') : TV tt σ G m' := h ▸ e
theorem tv_andP (ea : TV tt σ G (some a)) (eb : TV tu σ G (some b)) : TV (tAnd tt tu) σ G (some (a && b)) := (tv_and ea eb).of (by cases a <;> rfl)
theorem TruV.mono {G H : Hp} {v : V} {k : Bool} (s : Same G H) (h : TruV K v G k) : TruV K v H k := by
  cases v with
  | ref p =>
    rcases h with ⟨xs, hx, e⟩ | ⟨xs, hx, e⟩ | ⟨kvs, hx, e⟩
    · exact .inl ⟨xs, s.seq hx, e⟩
    · exact .inr (.inl ⟨xs, s.tup hx, e⟩)
    · exact .inr (.inr ⟨kvs, s _ _ hx, e⟩)
  | _ => exact h
theorem tv_b {mb : Option Bool} (ea : EV K ta σ G mb) : TV (fun σ H Q => ta σ H fun x H' => ∃ k, TruV K x H' k ∧ Q k H') σ G mb := by
  have h := tv_tru (K := K) (f := fun (a : Bool) => a) (fun {G v a} (r : Rp.rel K G v a) => by cases r; exact rfl) (fun s => TruV.mono s) ea
  refine h.of ?_
  cases mb <;> rfl
end
theorem cT {α : Type} {A B : Option α} {r : Option α} (h : cond true A B = r) : A = r := h
theorem cF {α : Type} {A B : Option α} {r : Option α} (h : cond false A B = r) : B = r := h
theorem sv_turn {i : Nat} {x : V} {σ : St} {H : Hp} {tb : TS} {D : Ends} (h : tb D (σ.set i (some x)) H) : gName i x σ H fun σ2 H2 => tb D σ2 H2 := h
end
end L2
set_option Elab.async false
set_option linter.all false
set_option maxRecDepth 100000
set_option maxHeartbeats 4000000
namespace L2
open PySem PySem.Spec PyProof.Rows
section
variable {K : PySem.W.Frag} {σ : St} {G H : Hp} {α β γ : Type} [Rp α] [Rp β] [Rp γ] {ta tb te : TE} {ia ib : Option Int} {c : Int} {rest t u : TS} {D : Ends} {i j : Nat} {tt : TT}
theorem ev_mulL (eb : EV K tb σ G ib) (hc : -(2 ^ 64) < c ∧ c < 2 ^ 64 := by decide) : EV K (tOp (rMul K) (tC (.int c)) tb) σ G (ib.bind fun b => some (c * b)) := by
  have h := ev_mul (ev_i (K := K) (σ := σ) (G := G) (i := c)) eb
  have e : ((some c).bind fun a => ib.bind fun b => mulO a b) = ib.bind fun b => some (c * b) := by
    show (ib.bind fun b => mulO c b) = _
    congr 1; funext b
    unfold mulO
    rw [if_pos (.inl hc)]
  exact h.of e
theorem ev_modR (ea : EV K ta σ G ia) (hc : 0 < c := by decide) : EV K (tOp (rI (fun _ j => 0 < j) fun i j => .int (i % j)) ta (tC (.int c))) σ G (ia.bind fun a => some (a % c)) := by
  have h := ev_mod ea (ev_i (K := K) (σ := σ) (G := G) (i := c))
  have e : (ia.bind fun a => (some c).bind fun b => modO a b) = ia.bind fun a => some (a % c) := by
    congr 1; funext a
    show modO a c = _
    unfold modO
    rw [if_pos hc]
  exact h.of e
theorem ev_modC (ea : EV K ta σ G ia) (eb : EV K tb σ G (some c)) (hc : 0 < c) : EV K (tOp (rI (fun _ j => 0 < j) fun i j => .int (i % j)) ta tb) σ G (ia.bind fun a => some (a % c)) := by
  have h := ev_mod ea eb
  have e : (ia.bind fun a => (some c).bind fun b => modO a b) = ia.bind fun a => some (a % c) := by
    congr 1; funext a
    show modO a c = _
    unfold modO
    rw [if_pos hc]
  exact h.of e
theorem ev_divR (ea : EV K ta σ G ia) (hc : 0 < c ∧ c < 1073741824 := by decide) : EV K (tOp (rI CDiv fun i j => .int (i / j)) ta (tC (.int c))) σ G (ia.bind fun a => some (a / c)) := by
  have h := ev_div ea (ev_i (K := K) (σ := σ) (G := G) (i := c))
  have e : (ia.bind fun a => (some c).bind fun b => divO a b) = ia.bind fun a => some (a / c) := by
    congr 1; funext a
    show divO a c = _
    unfold divO
    rw [if_pos (show CDiv a c from hc)]
  exact h.of e
structure Scr where
  l : List Int
noncomputable instance rpScr : Rp Scr := ⟨fun K H v a => ∃ l, v = .ref l ∧ SqL K H l (a.l.map V.int), fun s ⟨l, e, h⟩ => ⟨l, e, s.seq h⟩⟩
theorem ev_lenX {ma : Option Scr} (ea : EV K ta σ G ma) : EV K (tCB (rLen K) (tCons ta tNil)) σ G (ma.bind fun a => some (a.l.length : Int)) := by
  intro G1 s1 c hc H sH Q k
  obtain ⟨a, ha, hc⟩ := Option.bind_eq_some_iff.mp hc
  cases hc
  refine ea G1 s1 a ha H sH _ fun v G2 H2 x2 r2 => ?_
  obtain ⟨l, rfl, h⟩ := r2
  exact ⟨_, .inl (x2.gh.seq h), by rw [List.length_map]; exact k _ _ _ x2 rfl⟩
theorem pairedI {H : Hp} : ∀ ns : List Int, Paired (Rp.rel K H) (ns.map V.int) ns
  | [] => .nil
  | _ :: r => .cons rfl (pairedI r)
theorem ev_atX {ma : Option Scr} (ea : EV K ta σ G ma) (eb : EV K tb σ G ib) : EV K (tOp (rAt K) ta tb) σ G (ma.bind fun a => ib.bind fun i => atI a.l i) :=
  ev_bin (fun s ra rb e Q k => by
    obtain ⟨l, rfl, h⟩ := ra; cases rb
    obtain ⟨v, hv, r⟩ := paired_atI (pairedI (K := K) _) e
    exact .inl ⟨_, v, s.seq h, hv, k _ _ _ (.refl s) r⟩) ea eb
theorem sv_ifB {b : Bool} {m : Option Bool} {v : V} {p : Addr} {vs : List V} {as : List β} (o : Own K G H v p vs as) (e : TV tt σ (upd G p (.lst vs)) m) (hm : m = some b) (s : Same G H) (k : ∀ G2 H2, Ext G H G2 H2 → if b = true then t { D with nx := rest D } σ H2 else u { D with nx := rest D } σ H2) :
    tSeq (tIfS tt t u) rest D σ H := TV.runB o e hm s k
noncomputable def setO {α : Type} (as : List α) (k : Int) (a : α) : Option (List α) := (ixN as.length k).bind fun j => some (as.set j a)
theorem sv_setitem {a : α} {m : Option α} {ti : TE} {mi : Option Int} {k' : Int} {as as' : List α} {v : V} {p : Addr} {vs : List V} (hσ : σ[i]? = some (some v)) (o : Own K G H v p vs as) (e : EV K te σ G m) (hm : m = some a) (ei : EV K ti σ G mi) (hi : mi = some k') (hs : setO as k' a = some as') (s : Same G H)
    (k : ∀ G2 H2 w j, Ext G H G2 H2 → Own K G2 (upd H2 p (.lst (vs.set j w))) v p (vs.set j w) as' → rest D σ (upd H2 p (.lst (vs.set j w)))) : tSeq (tAsg te (gSub (tVar i) ti rSetL)) rest D σ H := by
  obtain ⟨j, hj, e'⟩ := Option.bind_eq_some_iff.mp hs
  cases e'
  have hlen := Paired.length o.p
  refine e.run hm s fun w G2 H2 x r => ?_
  have o2 := o.ext x
  refine ⟨v, hσ, ?_⟩
  refine ei G2 x.gg k' hi H2 x.gh _ fun u G3 H3 x3 r3 => ?_
  cases r3
  have o3 := o2.ext x3
  refine ⟨p, vs, k', j, o3.v, rfl, o3.h, by rw [hlen]; exact hj, ?_⟩
  refine k G3 H3 w j (x.trans x3) ⟨o3.v, o3.g, upd_same, by rw [List.length_set]; exact o3.z, Paired.st (Rp.mono x3.gg r) j o3.p⟩
theorem sv_unpack {a : α × β} {m : Option (α × β)} (e : EV K te σ G m) (hm : m = some a) (s : Same G H) (k : ∀ v1 v2 G2 H2, Ext G H G2 H2 → Rp.rel K G2 v1 a.1 → Rp.rel K G2 v2 a.2 → rest D ((σ.set i (some v1)).set j (some v2)) H2) :
    tSeq (tAsg te (gTup K 2 (gCons (gName i) (gCons (gName j) gNil)))) rest D σ H := by
  refine e.run hm s fun v G2 H2 x r => ?_
  obtain ⟨t, x1, x2, rfl, ht, r1, r2⟩ := r
  exact ⟨t, _, rfl, x.gh.tup ht, rfl, x1, _, rfl, x2, _, rfl, rfl, k _ _ _ _ x r1 r2⟩
theorem sv_turn2 {a : α × β} {x : V} {tb : TS} (r : Rp.rel K G x a) (s : Same G H) (k : ∀ v1 v2, Rp.rel K G v1 a.1 → Rp.rel K G v2 a.2 → tb D ((σ.set i (some v1)).set j (some v2)) H) :
    gTup K 2 (gCons (gName i) (gCons (gName j) gNil)) x σ H fun σ2 H2 => tb D σ2 H2 := by
  obtain ⟨t, x1, x2, rfl, ht, r1, r2⟩ := r
  exact ⟨t, _, rfl, s.tup ht, rfl, x1, _, rfl, x2, _, rfl, rfl, k _ _ r1 r2⟩
end
end L2
set_option Elab.async false
set_option linter.all false
set_option maxRecDepth 100000
set_option maxHeartbeats 4000000
namespace L2
open PySem PySem.Spec PyProof.Rows
section
variable {K : PySem.W.Frag} {σ : St} {G H G1 H1 G0 H0 : Hp} {α β γ : Type} [Rp α] [Rp β] [Rp γ] {ta tb te ti : TE} {tt : TT} {t u rest : TS} {D : Ends} {i j : Nat} {v : V} {p q r : Addr} {vs ws : List V} {a : List α × List β}
noncomputable def two (G : Hp) (p q : Addr) (vs ws : List V) : Hp := upd (upd G p (.lst vs)) q (.lst ws)
noncomputable def spL (K : PySem.W.Frag) {A : Type} [RpA A] {α : Type} [Rp α] (m : A → Option (List α)) : Sp := fun vs H Q _ =>
  ∃ G a r, Same G H ∧ RpA.rel K G vs a ∧ m a = some r ∧ ∀ p vs G2 H2, Ext G H G2 H2 → H p = none → Own K G2 H2 (.ref p) p vs r → Q (.ref p) H2
theorem spL_len {A : Type} [RpA A] {m : A → Option (List α)} {vs : List V} {H : Hp} {Q : VK} {E : XK} (h : spL K m vs H Q E) : vs.length = RpA.n A := by
  obtain ⟨G, a, r, _, h, _⟩ := h
  exact RpA.len h
theorem fv_def2 {A0 A1 : Type} [Rp A0] [Rp A1] {t0 t1 : TE} {m0 : Option A0} {m1 : Option A1} {m : A0 × A1 × Unit → Option (List α)} (e0 : EV K t0 σ G m0) (e1 : EV K t1 σ G m1) : FV K (tCall (spL K m) [] E0 (tCons t0 (tCons t1 tNil))) σ G (m0.bind fun a0 => m1.bind fun a1 => m (a0, a1, ())) := by
  intro G1 s1 c hc H sH Q k
  obtain ⟨a0, ha0, hc⟩ := Option.bind_eq_some_iff.mp hc
  obtain ⟨a1, ha1, hc⟩ := Option.bind_eq_some_iff.mp hc
  refine e0 G1 s1 a0 ha0 H sH _ fun v0 G2 H2 x0 r0 => ?_
  have y0 := x0
  refine e1 G2 (s1.trans y0.gg) a1 ha1 H2 y0.gh _ fun v1 G3 H3 x1 r1 => ?_
  have y1 := y0.trans x1
  exact ⟨G3, _, c, y1.gh, ⟨v0, _, rfl, (Rp.mono x1.gg r0), ⟨v1, _, rfl, r1, rfl⟩⟩, hc, fun p vs G9 H9 x9 h1 o => k p vs G9 H9 (y1.trans x9) (y1.hh.free h1) o.g o.h o.z o.p⟩
theorem sv_retO {as : List α} (hσ : σ[i]? = some (some v)) (o : Own K G H v p vs as) (k : D.rt (.ref p) H) : tSeq (tRet (tVar i)) rest D σ H := ⟨v, hσ, by rw [o.v]; exact k⟩
end
end L2
set_option Elab.async false
set_option linter.all false
set_option maxRecDepth 100000
set_option maxHeartbeats 4000000
namespace L2
open PySem PySem.Spec PyProof.Rows
section
variable {X : Cx} {K : PySem.W.Frag}
theorem op_plusK (h : X.K = K) : OpR X (binaryOp .Add) (rPlus K) := h ▸ op_plus
theorem op_mulK (h : X.K = K) : OpR X (binaryOp .Mult) (rMul K) := h ▸ op_mulU
theorem sl_anyK (h : X.K = K) : SlR X (rSl K) := h ▸ sl_any
theorem ix_anyK (h : X.K = K) : IxR X (rAt K) := h ▸ ix_any
theorem call_lenK (h : X.K = K) : CallR X (.builtin "len") (rLen K) := h ▸ call_lenU
theorem call_instK (h : X.K = K) : CallR X (.builtin "isinstance") (rInst K) := h ▸ call_inst
theorem call_listK (h : X.K = K) : CallR X (.type "list") (fun xs H Q => ∃ p ys, xs = [.ref p] ∧ (SqL K H p ys ∨ SqT K H p ys) ∧ ∀ l, H l = none → Q (.ref l) (upd H l (.lst ys))) := h ▸ call_list_of
theorem pi_anyK {tg l : Expr} {tl : TE} (h : X.K = K) (hl : PE X l tl) : PI X tg l (iAny K tl) := h ▸ pi_any hl
theorem pt_truthK {a : Expr} {ta : TE} (h : X.K = K) (ha : PE X a ta) (he : ∀ whole, isTrue a X.env whole = (do let v ← whole; standAt a.pos; holding [v] (truthy v))) :
    PT X a (fun σ H Q => ta σ H fun x H' => ∃ k, TruV K x H' k ∧ Q k H') := h ▸ pt_truth ha he
section
variable {o e : Expr} {es : List Expr} {to : TE} {t : TA} {name : Str} {apos cpos : Pos} {T id : String} {r : V → List V → Hp → VK → Prop}
theorem pe_bmK (h : X.K = K) (pa : PlainAttrs T) (slot : Slot T name id) (hty : typeOf (.builtin id) = pure (.type "method_descriptor")) (hm : MtR X id r) (ho : PE X o to) (ha : PA X (e :: es) t)
    (hbase : attributeBase o name X.env (eval o X.env) = eval o X.env := by rfl)
    (hfew : ((backTo cpos (starEach (e :: es) X.env)).all (fun x => !x.1) && (backToKw cpos (keywordEach [] X.env)).all (fun x => x.1.isSome)
      && decide ((e :: es).length + ([] : List Keyword).length + (if ([] : List Keyword).isEmpty then 0 else 1) < 30)) = true := by rfl)
    (hline : (apos.endLine == cpos.line) = true := by rfl) (hs : starEach (e :: es) X.env = (false, eval e X.env) :: starEach es X.env := by rfl) (hplain : (backTo cpos (starEach es X.env)).any (·.1) = false := by rfl) :
    PE X (.Call (.Attribute o name apos) (e :: es) [] cpos) (tBM K T r to t) := h ▸ pe_bm pa slot hty hm ho ha hbase hfew hline hs hplain
end
end
theorem sv_nx {f : St → Hp → Prop} {rt : VK} {bk ct : St → Hp → Prop} {σ : St} {H : Hp} (h : f σ H) : ({ nx := f, rt := rt, bk := bk, ct := ct } : Ends).nx σ H := h
end L2
set_option Elab.async false
set_option linter.all false
set_option maxRecDepth 100000
set_option maxHeartbeats 4000000
namespace L2
open PySem PySem.Spec PyProof.Rows
section
variable {K : PySem.W.Frag} {σ : St} {G H : Hp} {α β γ : Type} [Rp α] [Rp β] [Rp γ] {ta tb te : TE} {rest t u : TS} {D : Ends} {i j : Nat}
noncomputable def extO {α : Type} (as bs : List α) : Option (List α) := if as.length + bs.length ≤ sizeLine then some (as ++ bs) else none
end
end L2
set_option Elab.async false
set_option linter.all false
set_option maxRecDepth 100000
set_option maxHeartbeats 4000000
namespace L2
open PySem PySem.Spec PyProof.Rows
inductive D where
  | non
  | bl (b : Bool)
  | int (i : Int)
  | str (x : Str)
  | lst (l : List D)
  | tup (l : List D)
  | dic
mutual
inductive RelD (K : PySem.W.Frag) (H : Hp) : V → D → Prop where
  | non : RelD K H .non .non
  | bl (b : Bool) : RelD K H (.bl b) (.bl b)
  | int (i : Int) : RelD K H (.int i) (.int i)
  | str (x : Str) (z : x.length ≤ sizeLine) : RelD K H (.str x) (.str x)
  | lst {a : Addr} {xs : List V} {ds : List D} (h : Rd H a (.lst xs)) (z : xs.length ≤ sizeLine) (r : RelDs K H xs ds) : RelD K H (.ref a) (.lst ds)
  | tup {a : Addr} {xs : List V} {ds : List D} (h : SqT K H a xs) (z : xs.length ≤ sizeLine) (r : RelDs K H xs ds) : RelD K H (.ref a) (.tup ds)
  | dK {a : Addr} {kvs : List (Key × V)} (h : Rd H a (.dK kvs)) : RelD K H (.ref a) .dic
inductive RelDs (K : PySem.W.Frag) (H : Hp) : List V → List D → Prop where
  | nil : RelDs K H [] []
  | cons {x : V} {d : D} {xs : List V} {ds : List D} (h : RelD K H x d) (t : RelDs K H xs ds) : RelDs K H (x :: xs) (d :: ds)
end
mutual
theorem RelD.mono {K : PySem.W.Frag} {H H' : Hp} (s : Same H H') : ∀ {v : V} {d : D}, RelD K H v d → RelD K H' v d
  | _, _, .non => .non
  | _, _, .bl b => .bl b
  | _, _, .int i => .int i
  | _, _, .str x z => .str x z
  | _, _, .lst h z r => .lst (s.rd h) z (RelDs.mono s r)
  | _, _, .tup h z r => .tup (s.tup h) z (RelDs.mono s r)
  | _, _, .dK h => .dK (s.rd h)
theorem RelDs.mono {K : PySem.W.Frag} {H H' : Hp} (s : Same H H') : ∀ {v : List V} {d : List D}, RelDs K H v d → RelDs K H' v d
  | _, _, .nil => .nil
  | _, _, .cons h t => .cons (RelD.mono s h) (RelDs.mono s t)
end
noncomputable instance rpD : Rp D := ⟨RelD, fun s h => RelD.mono s h⟩
theorem relDs_of {K : PySem.W.Frag} {H : Hp} : ∀ {xs : List V} {ds : List D}, Paired (Rp.rel K H) xs ds → RelDs K H xs ds
  | _, _, .nil => .nil
  | _, _, .cons h t => .cons h (relDs_of t)
theorem of_relDs {K : PySem.W.Frag} {H : Hp} : ∀ {xs : List V} {ds : List D}, RelDs K H xs ds → Paired (Rp.rel K H) xs ds
  | _, _, .nil => .nil
  | _, _, .cons h t => .cons h (of_relDs t)
class ToD (α : Type) [Rp α] where
  to : α → D
  rel : ∀ {K : PySem.W.Frag} {H : Hp} {v : V} {a : α}, Rp.rel K H v a → RelD K H v (to a)
theorem toDs {K : PySem.W.Frag} {H : Hp} {α : Type} [Rp α] [ToD α] : ∀ {xs : List V} {as : List α}, Paired (Rp.rel K H) xs as → Paired (Rp.rel (α := D) K H) xs (as.map ToD.to)
  | _, _, .nil => .nil
  | _, _, .cons h t => .cons (ToD.rel h) (toDs t)
noncomputable instance tdD : ToD D := ⟨id, fun h => h⟩
noncomputable instance tdInt : ToD Int := ⟨.int, fun h => by cases h; exact .int _⟩
noncomputable instance tdBool : ToD Bool := ⟨.bl, fun h => by cases h; exact .bl _⟩
noncomputable instance tdStr : ToD Str := ⟨.str, fun h => by obtain ⟨rfl, z⟩ := h; exact .str _ z⟩
noncomputable instance tdUnit : ToD Unit := ⟨fun _ => .non, fun h => by cases h; exact .non⟩
noncomputable instance tdList {α : Type} [Rp α] [ToD α] : ToD (List α) := ⟨fun l => .lst (l.map ToD.to), fun ⟨l, xs, e, h, z, p⟩ => by subst e; exact .lst h z (relDs_of (toDs p))⟩
noncomputable instance tdTp {α : Type} [Rp α] [ToD α] : ToD (Tp α) := ⟨fun l => .tup (l.l.map ToD.to), fun ⟨l, xs, e, h, z, p⟩ => by subst e; exact .tup h z (relDs_of (toDs p))⟩
noncomputable instance tdPair {α β : Type} [Rp α] [ToD α] [Rp β] [ToD β] : ToD (α × β) := ⟨fun p => .tup [ToD.to p.1, ToD.to p.2], fun ⟨t, x, y, e, h, r1, r2⟩ => by subst e; exact .tup h (by show 2 ≤ sizeLine; decide) (.cons (ToD.rel r1) (.cons (ToD.rel r2) .nil))⟩
noncomputable def asStr : D → Option Str
  | .str x => some x
  | _ => none
noncomputable def dk : D → String
  | .non => "NoneType"
  | .bl _ => "bool"
  | .int _ => "int"
  | .str _ => "str"
  | .lst _ => "list"
  | .tup _ => "tuple"
  | .dic => "dict"
noncomputable def isK (T : String) (d : D) : Bool := dk d == T || (T == "int" && dk d == "bool")
noncomputable def lenD : D → Option Int
  | .str x => some (x.length : Int)
  | .lst l => some (l.length : Int)
  | .tup l => some (l.length : Int)
  | _ => none
noncomputable def atD : D → Int → Option D
  | .lst l, i => atI l i
  | .tup l, i => atI l i
  | .str x, i => (atI x.cps.toList i).bind fun c => some (.str ⟨#[c]⟩)
  | _, _ => none
noncomputable def iterD : D → Option (List D)
  | .lst l => some l
  | .tup l => some l
  | .str x => some ((signsO x).map D.str)
  | _ => none
section
variable {K : PySem.W.Frag} {σ : St} {G : Hp} {α β : Type} [Rp α] [Rp β] {ta tb te : TE} {md : Option D}
theorem ev_toD [ToD α] {m : Option α} (e : EV K te σ G m) : EV K te σ G (m.bind fun a => some (ToD.to a)) := by
  intro G1 s1 c hc H sH Q k
  obtain ⟨a, ha, hc⟩ := Option.bind_eq_some_iff.mp hc
  cases hc
  exact e G1 s1 a ha H sH Q fun v G2 H2 x r => k v G2 H2 x (ToD.rel r)
theorem ev_asStr (e : EV K te σ G md) : EV K te σ G (md.bind fun d => asStr d) := by
  intro G1 s1 c hc H sH Q k
  obtain ⟨d, hd, hc⟩ := Option.bind_eq_some_iff.mp hc
  refine e G1 s1 d hd H sH Q fun v G2 H2 x r => ?_
  cases d with
  | str y =>
    cases hc
    cases r with
    | str _ z => exact k _ _ _ x ⟨rfl, z⟩
  | _ => cases hc
theorem RelD.ty {H : Hp} {v : V} {d : D} (r : RelD K H v d) : TyS K H v (dk d) := by
  cases r with
  | non => exact .non
  | bl => exact .bl _
  | int => exact .int _
  | str => exact .str _
  | lst h => exact .lst (.inl h)
  | tup h => exact .tup h
  | dK h => exact .dK h
theorem kit_all : ∀ n ∈ ["NoneType", "bool", "int", "str", "list", "tuple", "dict"], ∀ T ∈ ["str", "list", "tuple", "bool", "int", "dict"], kitC n T = some (n == T || (T == "int" && n == "bool")) := by decide +kernel
theorem isK_ok {T : String} (hT : T ∈ ["str", "list", "tuple", "bool", "int", "dict"]) (d : D) : kitC (dk d) T = some (isK T d) := by
  unfold isK
  exact kit_all (dk d) (by cases d <;> simp [dk]) T hT
theorem ev_instD {T : String} (hT : T ∈ ["str", "list", "tuple", "bool", "int", "dict"]) (ea : EV K ta σ G md) : EV K (tCB (rInst K) (tCons ta (tCons (tC (.ty T)) tNil))) σ G (md.bind fun d => some (isK T d)) := by
  intro G1 s1 c hc H sH Q k
  obtain ⟨a, ha, hc⟩ := Option.bind_eq_some_iff.mp hc
  cases hc
  refine ea G1 s1 a ha H sH _ fun v G2 H2 x2 r2 => ?_
  exact ⟨_, _, _, _, rfl, (RelD.ty r2).mono x2.gh, isK_ok hT a, k _ _ _ x2 rfl⟩
theorem RelDs.len {H : Hp} {xs : List V} {ds : List D} (r : RelDs K H xs ds) : xs.length = ds.length := Paired.length (of_relDs r)
theorem ev_lenD (ea : EV K ta σ G md) : EV K (tCB (rLen K) (tCons ta tNil)) σ G (md.bind fun d => lenD d) := by
  intro G1 s1 c hc H sH Q k
  obtain ⟨a, ha, hc⟩ := Option.bind_eq_some_iff.mp hc
  refine ea G1 s1 a ha H sH _ fun v G2 H2 x2 r2 => ?_
  cases r2 with
  | str x z => cases hc; exact ⟨z, k _ _ _ x2 rfl⟩
  | lst h z r => cases hc; exact ⟨_, .inl (.inl (x2.gh.rd h)), by rw [r.len]; exact k _ _ _ x2 rfl⟩
  | tup h z r => cases hc; exact ⟨_, .inr (x2.gh.tup h), by rw [r.len]; exact k _ _ _ x2 rfl⟩
  | _ => cases hc
theorem ev_atD {ib : Option Int} (ea : EV K ta σ G md) (eb : EV K tb σ G ib) : EV K (tOp (rAt K) ta tb) σ G (md.bind fun d => ib.bind fun i => atD d i) :=
  ev_bin (fun s ra rb e Q k => by
    cases rb
    cases ra with
    | str x z =>
      obtain ⟨c, hc, e⟩ := Option.bind_eq_some_iff.mp e
      cases e
      exact ⟨z, c, hc, k _ _ _ (.refl s) (.str _ (by show 1 ≤ sizeLine; decide))⟩
    | lst h z r =>
      obtain ⟨v, hv, r⟩ := paired_atI (of_relDs r) e
      exact .inl ⟨_, v, .inl (s.rd h), hv, k _ _ _ (.refl s) r⟩
    | tup h z r =>
      obtain ⟨v, hv, r⟩ := paired_atI (of_relDs r) e
      exact .inr ⟨_, v, s.tup h, hv, k _ _ _ (.refl s) r⟩
    | _ => cases e) ea eb
theorem iw_any (ea : EV K ta σ G md) : IW K (iAny K ta) σ G (md.bind fun d => iterD d) := by
  intro G1 s1 a ha H sH R k
  obtain ⟨b, hb, ha⟩ := Option.bind_eq_some_iff.mp ha
  refine ea G1 s1 b hb H sH _ fun v G2 H2 x2 r2 => ?_
  cases r2 with
  | str x z =>
    cases ha
    exact k _ (signsV x) G2 H2 x2 (yields_str x G2) (by unfold signsV; rw [List.length_map]; exact z) (toDs (paired_signs x G2))
  | lst h z r => cases ha; exact .inl ⟨⟨_, .inl (x2.gh.rd h)⟩, k _ _ G2 H2 x2 (yields_list (.inl h)) z (of_relDs r)⟩
  | tup h z r => cases ha; exact .inr ⟨⟨_, x2.gh.tup h⟩, k _ _ G2 H2 x2 (yields_tup h) z (of_relDs r)⟩
  | _ => cases ha
theorem ev_dnew : EV K tDNewK σ G (some D.dic) := by
  intro G1 s1 c hc H sH Q k
  cases hc
  exact fun p hp => k _ _ _ (.new sH hp) (.dK (.inl upd_same))
theorem ev_disp1 {x : Str} {m : Option α} (e : EV K te σ G m) : EV K (tDisp [(tC (.str x), te)]) σ G (m.bind fun _ => some D.dic) := by
  intro G1 s1 c hc H sH Q k
  obtain ⟨a, ha, hc⟩ := Option.bind_eq_some_iff.mp hc
  cases hc
  intro p hp
  have x0 : Ext G1 H G1 (upd H p (.dK [])) := .own sH hp
  refine e G1 s1 a ha _ x0.gh _ fun v G2 H2 x2 r2 => ?_
  have hg : G2 p = none := x2.no p (sH.free hp) (by rw [upd_same]; exact fun z => nomatch z)
  refine ⟨x2.hh _ _ upd_same, [(Sum.inr x, v)], rfl, by show 1 ≤ 15; decide, ?_⟩
  have xt := (x0.trans x2).put (o := .dK (mergeK [] [(Sum.inr x, v)])) hp hg
  exact k _ _ _ (xt.frz hp hg upd_same) (.dK (.inl upd_same))
end
end L2
set_option Elab.async false
set_option linter.all false
set_option maxRecDepth 100000
set_option maxHeartbeats 4000000
namespace L2
open PySem PySem.Spec PyProof.Rows
section
variable {K : PySem.W.Frag} {σ : St} {G : Hp} {ta : TE}
end
end L2
set_option Elab.async false
set_option linter.all false
set_option maxRecDepth 100000
set_option maxHeartbeats 4000000
namespace L2
open PySem PySem.Spec PyProof.Rows
noncomputable def OK {α : Type} (m : Option α) (P : α → Prop) : Prop := ∃ a, m = some a ∧ P a
section
variable {α β S ρ : Type} {m : Option α} {P Q : α → Prop} {R : β → Prop}
theorem OK.mono (h : OK m P) (k : ∀ a, P a → Q a) : OK m Q := let ⟨a, e, p⟩ := h; ⟨a, e, k a p⟩
theorem ok_some {a : α} (h : P a) : OK (some a) P := ⟨a, rfl, h⟩
theorem ok_bind {f : α → Option β} (h : OK m fun a => OK (f a) R) : OK (m.bind f) R := by
  obtain ⟨a, rfl, h⟩ := h
  exact h
theorem ok_bC {f : α → Option β} (a : α) (e : m = some a) (h : OK (f a) R) : OK (m.bind f) R := ok_bind ⟨a, e, h⟩
theorem ok_by {f : α → Option β} (h : OK m P) (k : ∀ a, P a → OK (f a) R) : OK (m.bind f) R := ok_bind (h.mono k)
theorem ok_cond {b : Bool} {x y : Option α} (h1 : b = true → OK x P) (h2 : b = false → OK y P) : OK (cond b x y) P := by
  cases b with
  | true => exact h1 rfl
  | false => exact h2 rfl
theorem OK.eq {a : α} (h : OK m fun b => b = a) : m = some a := by obtain ⟨b, e, rfl⟩ := h; exact e
theorem OK.of {a : α} (e : m = some a) (h : P a) : OK m P := ⟨a, e, h⟩
theorem bindS {α β : Type} (a : α) (f : α → Option β) : (some a).bind f = f a := by rw [Option.bind_some]
theorem bind_self {α : Type} (m : Option α) : (m.bind fun x => some x) = m := by cases m <;> rfl
theorem ok_mod {a b : Int} {P : Int → Prop} (hb : 0 < b) (h : P (a % b)) : OK (modO a b) P := ⟨_, if_pos hb, h⟩
theorem ok_mul {a b : Int} {P : Int → Prop} (hb : CMul a b) (h : P (a * b)) : OK (mulO a b) P := ⟨_, if_pos hb, h⟩
theorem ok_catS {a b : Str} {P : Str → Prop} (hb : a.length + b.length ≤ sizeLine) (h : P (a ++ b)) : OK (catS a b) P := ⟨_, if_pos hb, h⟩
theorem ok_catL {a b : List α} {P : List α → Prop} (hb : a.length + b.length ≤ sizeLine) (h : P (a ++ b)) : OK (catL a b) P := ⟨_, if_pos hb, h⟩
theorem ok_push {a : List α} {b : α} {P : List α → Prop} (hb : a.length < sizeLine) (h : P (a ++ [b])) : OK (pushO a b) P := ⟨_, if_pos hb, h⟩
theorem ok_rng {lo hi : Int} {n : Nat} {P : List Int → Prop} (hn : hi - lo = n) (h0 : -1000000000 ≤ lo ∧ lo ≤ 1000000000) (h1 : n ≤ sizeLine) (h : P ((List.range n).map fun (i : Nat) => lo + (i : Int))) : OK (rngO lo hi) P := by
  have hs : sizeLine = 16777216 := sizeLine_eq
  have e : (hi - lo).toNat = n := by omega
  refine ⟨_, if_pos ⟨⟨by omega, by omega, by omega, by omega⟩, by omega⟩, ?_⟩
  rw [e]
  exact h
theorem ok_at {a : List α} {i : Int} (h0 : 0 ≤ i) (h1 : i < a.length) (h : ∀ x, a[i.toNat]? = some x → P x) : OK (atI a i) P := by
  obtain ⟨k, rfl⟩ := Int.eq_ofNat_of_zero_le h0
  have hk : k < a.length := by omega
  refine ⟨a[k], atI_nat (by simp [hk]), h _ ?_⟩
  rw [Int.toNat_natCast]
  simp [hk]
theorem ok_for {f : α → S → Option (Fl S ρ)} {as : List α} {s0 : S} (I : Nat → S → Prop) (J : S → Prop) (R : ρ → Prop) {P : Fl S ρ → Prop} (h0 : I 0 s0)
    (hs : ∀ (i : Nat) a s, as[i]? = some a → I i s → OK (f a s) fun fl => match fl with | .nx s' => I (i + 1) s' | .bk s' => J s' | .rt r => R r)
    (hn : ∀ s, I as.length s → P (.nx s)) (hj : ∀ s, J s → P (.nx s)) (hr : ∀ r, R r → P (.rt r)) : OK (forO f as s0) P := by
  have key : ∀ (n i : Nat) (s : S), n = as.length - i → i ≤ as.length → I i s → OK (forO f (as.drop i) s) P := by
    intro n
    induction n with
    | zero =>
      intro i s hn0 hi hI
      have e : i = as.length := by omega
      subst e
      rw [List.drop_length]
      exact ok_some (hn s hI)
    | succ n ih =>
      intro i s hn0 hi hI
      have hlt : i < as.length := by omega
      rw [List.drop_eq_getElem_cons hlt]
      obtain ⟨fl, e, h⟩ := hs i as[i] s (by simp [hlt]) hI
      show OK ((f as[i] s).bind _) P
      rw [e]
      cases fl with
      | nx s' => exact ih (i + 1) s' (by omega) hlt h
      | bk s' => exact ok_some (hj s' h)
      | rt r => exact ok_some (hr r h)
  exact key as.length 0 s0 (by omega) (Nat.zero_le _) h0
theorem ok_for' {f : α → S → Option (Fl S ρ)} {as : List α} {s0 : S} (I : Nat → S → Prop) {P : Fl S ρ → Prop} (h0 : I 0 s0)
    (hs : ∀ (i : Nat) a s, as[i]? = some a → I i s → OK (f a s) fun fl => ∃ s', fl = .nx s' ∧ I (i + 1) s') (hn : ∀ s, I as.length s → P (.nx s)) : OK (forO f as s0) P :=
  ok_for I (fun _ => False) (fun _ => False) h0 (fun i a s ha hI => (hs i a s ha hI).mono fun fl ⟨s', e, h⟩ => by subst e; exact h) hn (fun _ h => h.elim) fun _ h => h.elim
theorem ok_while {c : S → Option Bool} {f : S → Option (Fl S ρ)} {s0 : S} (I : S → Prop) (J : S → Prop) (R : ρ → Prop) (μ : S → Nat) {P : Fl S ρ → Prop} (h0 : I s0) (hμ : μ s0 < 1000000)
    (hs : ∀ s, I s → OK (c s) fun b => if b = true then OK (f s) fun fl => match fl with | .nx s' => I s' ∧ μ s' < μ s | .bk s' => J s' | .rt r => R r else P (.nx s))
    (hj : ∀ s, J s → P (.nx s)) (hr : ∀ r, R r → P (.rt r)) : OK (whileN c f fuelW s0) P := by
  have key : ∀ (n : Nat) (s : S), μ s < n → I s → OK (whileN c f n s) P := by
    intro n
    induction n with
    | zero => intro s h; exact absurd h (Nat.not_lt_zero _)
    | succ n ih =>
      intro s hlt hI
      obtain ⟨b, e, h⟩ := hs s hI
      show OK ((c s).bind _) P
      rw [e]
      cases b with
      | false =>
        rw [if_neg Bool.false_ne_true] at h
        exact ok_some h
      | true =>
        rw [if_pos rfl] at h
        obtain ⟨fl, e2, h⟩ := h
        show OK ((f s).bind _) P
        rw [e2]
        cases fl with
        | nx s' => exact ih s' (by have := h.2; omega) h.1
        | bk s' => exact ok_some (hj s' h)
        | rt r => exact ok_some (hr r h)
  exact key fuelW s0 (by unfold fuelW; omega) h0
theorem ok_map {f : α → Option β} {g : α → β} {P : List β → Prop} : ∀ {as : List α}, (∀ a ∈ as, f a = some (g a)) → P (as.map g) → OK (mapO f as) P := by
  intro as
  have key : ∀ as : List α, (∀ a ∈ as, f a = some (g a)) → mapO f as = some (as.map g) := by
    intro as
    induction as with
    | nil => intro _; rfl
    | cons a r ih =>
      intro h
      show ((f a).bind fun y => (mapO f r).bind fun ys => some (y :: ys)) = _
      rw [h a List.mem_cons_self, ih fun x hx => h x (List.mem_cons_of_mem _ hx)]
      rfl
  exact fun h p => ⟨_, key as h, p⟩
end
end L2
set_option Elab.async false
set_option linter.all false
set_option maxRecDepth 100000
namespace Lasso
variable {α β : Type}
end Lasso
set_option Elab.async false
set_option linter.all false
set_option maxRecDepth 100000
namespace Lasso
variable {α : Type} [DecidableEq α]
end Lasso
set_option Elab.async false
set_option linter.all false
set_option maxRecDepth 100000
set_option maxHeartbeats 4000000
namespace L2
open PySem PySem.Spec PyProof.Rows
section
variable {K : PySem.W.Frag} {σ : St} {G H G0 H0 Gx G1 H1 G2 H2 : Hp} {α β : Type} [Rp α] [Rp β] {ta tb tc te : TE} {tt : TT} {t u rest : TS} {D : Ends} {i j : Nat} {v : V}
end
end L2
set_option Elab.async false
set_option linter.all false
set_option maxRecDepth 100000
set_option maxHeartbeats 4000000
namespace L2
open PySem PySem.Spec PyProof.Rows
noncomputable def popO {α : Type} : List α → Option (α × List α)
  | [] => none
  | [a] => some (a, [])
  | a :: b :: r => (popO (b :: r)).bind fun p => some (p.1, a :: p.2)
theorem popO_eq {α : Type} : ∀ {as : List α} (h : as ≠ []), popO as = some (as.getLast h, as.dropLast)
  | [], h => absurd rfl h
  | [a], _ => rfl
  | a :: b :: r, _ => by
    show ((popO (b :: r)).bind fun p => some (p.1, a :: p.2)) = _
    rw [popO_eq (by simp)]
    rfl
theorem Paired.last {α β : Type} {R : α → β → Prop} : ∀ {vs : List α} {as : List β} {a : β} {as' : List β}, Paired R vs as → popO as = some (a, as') → ∃ w, vs[vs.length - 1]? = some w ∧ R w a ∧ Paired R vs.dropLast as'
  | _, _, _, _, .nil, hp => by cases hp
  | _, _, _, _, .cons h .nil, hp => by
    cases hp
    exact ⟨_, rfl, h, .nil⟩
  | _, _, _, _, .cons h (.cons h2 t), hp => by
    obtain ⟨q, hq, e⟩ := Option.bind_eq_some_iff.mp hp
    cases e
    obtain ⟨w, hw, r, pr⟩ := Paired.last (.cons h2 t) hq
    exact ⟨w, by simpa using hw, r, .cons h pr⟩
section
variable {X : Cx} {K : PySem.W.Frag} {o : Expr} {to : TE} {name : Str} {apos cpos : Pos} {T id : String} {r : V → List V → Hp → VK → Prop}
theorem pe_bm0K (h : X.K = K) (pa : PlainAttrs T) (slot : Slot T name id) (hty : typeOf (.builtin id) = pure (.type "method_descriptor")) (hm : MtR X id r) (ho : PE X o to)
    (hbase : attributeBase o name X.env (eval o X.env) = eval o X.env := by rfl) (hline : (apos.endLine == cpos.line) = true := by rfl) : PE X (.Call (.Attribute o name apos) [] [] cpos) (tBM0 K T r to) := h ▸ pe_bm0 pa slot hty hm ho hbase hline
end
section
variable {K : PySem.W.Frag} {σ : St} {G H G1 H1 G0 H0 : Hp} {α β : Type} [Rp α] [Rp β] {te ti : TE} {tt : TT} {t u rest : TS} {D : Ends} {i j : Nat} {a : α} {m : Option α} {as : List α} {v : V} {p q : Addr} {vs : List V}
theorem sv_pop {as' : List α} (hσ : σ[i]? = some (some v)) (o : Own K G H v p vs as) (hp : popO as = some (a, as'))
    (k : ∀ w, Rp.rel K G w a → Own K G (upd H p (.lst vs.dropLast)) v p vs.dropLast as' → rest D (σ.set j (some w)) (upd H p (.lst vs.dropLast))) : tSeq (tAsg (tBM0 K "list" rPop (tVar i)) (gName j)) rest D σ H := by
  obtain ⟨rfl, og, oh, oz, op⟩ := o
  obtain ⟨w, hw, r, pr⟩ := Paired.last op hp
  refine ⟨_, hσ, .inl ⟨rfl, _, SqL.of oh⟩, p, vs, w, rfl, rfl, oh, hw, ?_⟩
  refine k w r ⟨rfl, og, upd_same, ?_, pr⟩
  rw [List.length_dropLast]
  omega
noncomputable def era (H : Hp) (C : List Addr) : Hp := fun a => if a ∈ C then none else H a
theorem era_in {C : List Addr} {b : Addr} (h : b ∈ C) : era H C b = none := if_pos h
theorem era_out {C : List Addr} {b : Addr} (h : b ∉ C) : era H C b = H b := if_neg h
theorem era_same {C : List Addr} : Same (era H C) H := fun b o e => by
  by_cases h : b ∈ C
  · rw [era_in h] at e
    cases e
  · rw [era_out h] at e
    exact e
theorem Ext.begin {C : List Addr} (s : Same G H) : Ext G (era H C) G H := ⟨.refl _, s, era_same, fun _ h _ => h⟩
theorem Ext.past {C : List Addr} (x : Ext G0 H0 G H) (h0 : ∀ b ∈ C, H0 b = none) (y : Ext G (era H C) G1 H1) : Ext G0 H0 G1 H1 := by
  refine ⟨x.gg.trans y.gg, y.gh, fun b o e => ?_, fun b g h => ?_⟩
  · have hb : b ∉ C := fun hc => by
      rw [h0 b hc] at e
      cases e
    exact y.hh b o (by rw [era_out hb]; exact x.hh b o e)
  · have hb : b ∉ C := fun hc => h (h0 b hc)
    refine y.no b (x.no b g h) ?_
    rw [era_out hb]
    cases e : H0 b with
    | none => exact absurd e h
    | some o =>
      rw [x.hh b o e]
      exact fun z => nomatch z
theorem Own.past {C : List Addr} (o : Own K G H v p vs as) (hp : p ∉ C) (y : Ext G (era H C) G1 H1) : Own K G1 H1 v p vs as :=
  ⟨o.v, y.no p o.g (by rw [era_out hp, o.h]; exact fun z => nomatch z), y.hh _ _ (by rw [era_out hp]; exact o.h), o.z, Paired.imp' (fun _ _ r => Rp.mono y.gg r) o.p⟩
noncomputable def spW2 (K : PySem.W.Frag) {A : Type} [RpA A] {α β : Type} [Rp α] [Rp β] (m : List α → List β → A → Option (List α × List β)) : Sp := fun vs H Q _ =>
  ∃ G p q xs ys us as bs a r, vs = .ref p :: .ref q :: us ∧ Same G H ∧ p ≠ q ∧ Own K G H (.ref p) p xs as ∧ Own K G H (.ref q) q ys bs ∧ RpA.rel K G us a ∧ m as bs a = some r ∧
    ∀ G2 H2 xs' ys', Ext G (era H [p, q]) G2 H2 → Own K G2 H2 (.ref p) p xs' r.1 → Own K G2 H2 (.ref q) q ys' r.2 → Q .non H2
theorem spW2_len {A : Type} [RpA A] {m : List α → List β → A → Option (List α × List β)} {vs : List V} {Q : VK} {E : XK} (h : spW2 K m vs H Q E) : vs.length = RpA.n A + 2 := by
  obtain ⟨G, p, q, xs, ys, us, as, bs, a, r, rfl, _, _, _, _, h, _⟩ := h
  rw [List.length_cons, List.length_cons, RpA.len h]
theorem sv_callW2 {A : Type} [RpA A] {bs : List β} {w : V} {ws : List V} {mA : Option A} {ta : TA} {c : A} {m : List α → List β → A → Option (List α × List β)} {r : List α × List β} (hσ : σ[i]? = some (some v)) (hτ : σ[j]? = some (some w)) (o : Own K G H v p vs as) (o2 : Own K G H w q ws bs) (ne : p ≠ q) (ea : AV K ta σ G mA) (ha : mA = some c) (hm : m as bs c = some r) (s : Same G H)
    (k : ∀ G1 H1 G2 H2 vs' ws', Ext G H G1 H1 → Ext G1 (era H1 [p, q]) G2 H2 → Own K G2 H2 v p vs' r.1 → Own K G2 H2 w q ws' r.2 → rest D σ H2) : tSeq (tDrop (tCall (spW2 K m) [] E0 (tCons (tVar i) (tCons (tVar j) ta)))) rest D σ H := by
  have ov := o.v
  have ow := o2.v
  subst ov
  subst ow
  refine ⟨_, hσ, _, hτ, ?_⟩
  refine ea G (.refl G) c ha H s _ fun us G1 H1 x h => ?_
  exact ⟨G1, p, q, vs, ws, us, as, bs, c, r, List.append_nil _, x.gh, ne, o.ext x, o2.ext x, h, hm, fun G2 H2 xs' ys' y o' o2' => k G1 H1 G2 H2 xs' ys' x y o' o2'⟩
end
end L2
set_option Elab.async false
set_option linter.all false
set_option maxRecDepth 100000
set_option maxHeartbeats 4000000
namespace L2
open PySem PySem.Spec PyProof.Rows
inductive Nt where
  | txt (x : Str)
  | tup (l : List Nt)
  | int (n : Int)
mutual
noncomputable def Nt.dec : (a b : Nt) → Decidable (a = b)
  | .txt x, .txt y => if h : x = y then .isTrue (by rw [h]) else .isFalse fun e => h (by cases e; rfl)
  | .txt _, .tup _ => .isFalse fun e => by cases e
  | .tup _, .txt _ => .isFalse fun e => by cases e
  | .int m, .int n => if h : m = n then .isTrue (by rw [h]) else .isFalse fun e => h (by cases e; rfl)
  | .int _, .txt _ => .isFalse fun e => by cases e
  | .int _, .tup _ => .isFalse fun e => by cases e
  | .txt _, .int _ => .isFalse fun e => by cases e
  | .tup _, .int _ => .isFalse fun e => by cases e
  | .tup l, .tup m => match Nt.decs l m with
    | .isTrue h => .isTrue (by rw [h])
    | .isFalse h => .isFalse fun e => h (by cases e; rfl)
noncomputable def Nt.decs : (l m : List Nt) → Decidable (l = m)
  | [], [] => .isTrue rfl
  | [], _ :: _ => .isFalse fun e => by cases e
  | _ :: _, [] => .isFalse fun e => by cases e
  | a :: l, b :: m => match Nt.dec a b with
    | .isFalse h => .isFalse fun e => h (by cases e; rfl)
    | .isTrue h => match Nt.decs l m with
      | .isTrue h2 => .isTrue (by rw [h, h2])
      | .isFalse h2 => .isFalse fun e => h2 (by cases e; rfl)
end
noncomputable instance ntDec : DecidableEq Nt := Nt.dec
mutual
noncomputable def Nt.dep : Nt → Nat
  | .txt _ => 0
  | .int _ => 0
  | .tup l => Nt.deps l + 1
noncomputable def Nt.deps : List Nt → Nat
  | [] => 0
  | a :: l => max (Nt.dep a) (Nt.deps l)
end
mutual
inductive RelN (K : PySem.W.Frag) (H : Hp) : V → Nt → Prop where
  | txt (x : Str) (z : x.length ≤ sizeLine) : RelN K H (.str x) (.txt x)
  | int (n : Int) : RelN K H (.int n) (.int n)
  | tup {a : Addr} {xs : List V} {ds : List Nt} (h : SqT K H a xs) (z : xs.length ≤ sizeLine) (r : RelNs K H xs ds) (l : ds[0]? = some (.txt "lamp") → H a = some (.tup xs)) : RelN K H (.ref a) (.tup ds)
inductive RelNs (K : PySem.W.Frag) (H : Hp) : List V → List Nt → Prop where
  | nil : RelNs K H [] []
  | cons {x : V} {d : Nt} {xs : List V} {ds : List Nt} (h : RelN K H x d) (t : RelNs K H xs ds) : RelNs K H (x :: xs) (d :: ds)
end
mutual
theorem RelN.mono {K : PySem.W.Frag} {H H' : Hp} (s : Same H H') : ∀ {v : V} {d : Nt}, RelN K H v d → RelN K H' v d
  | _, _, .txt x z => .txt x z
  | _, _, .int n => .int n
  | _, _, .tup h z r l => .tup (s.tup h) z (RelNs.mono s r) fun e => s _ _ (l e)
theorem RelNs.mono {K : PySem.W.Frag} {H H' : Hp} (s : Same H H') : ∀ {v : List V} {d : List Nt}, RelNs K H v d → RelNs K H' v d
  | _, _, .nil => .nil
  | _, _, .cons h t => .cons (RelN.mono s h) (RelNs.mono s t)
end
noncomputable instance rpN : Rp Nt := ⟨RelN, fun s h => RelN.mono s h⟩
theorem relNs_of {K : PySem.W.Frag} {H : Hp} : ∀ {xs : List V} {ds : List Nt}, Paired (Rp.rel K H) xs ds → RelNs K H xs ds
  | _, _, .nil => .nil
  | _, _, .cons h t => .cons h (relNs_of t)
theorem of_relNs {K : PySem.W.Frag} {H : Hp} : ∀ {xs : List V} {ds : List Nt}, RelNs K H xs ds → Paired (Rp.rel K H) xs ds
  | _, _, .nil => .nil
  | _, _, .cons h t => .cons h (of_relNs t)
theorem SqT.keep {K : PySem.W.Frag} {H H' : Hp} {a : Addr} {xs : List V} (s : TupK H H') (h : SqT K H a xs) : SqT K H' a xs := by
  rcases h with h | h
  · exact .inl (s.rd _ _ h)
  · exact .inr h
mutual
theorem RelN.keep {K : PySem.W.Frag} {H H' : Hp} (s : TupK H H') : ∀ {v : V} {d : Nt}, RelN K H v d → RelN K H' v d
  | _, _, .txt x z => .txt x z
  | _, _, .int n => .int n
  | _, _, .tup h z r l => .tup (SqT.keep s h) z (RelNs.keep s r) fun e => s.eq _ _ (l e)
theorem RelNs.keep {K : PySem.W.Frag} {H H' : Hp} (s : TupK H H') : ∀ {v : List V} {d : List Nt}, RelNs K H v d → RelNs K H' v d
  | _, _, .nil => .nil
  | _, _, .cons h t => .cons (RelN.keep s h) (RelNs.keep s t)
end
noncomputable instance imN : Imm Nt := ⟨fun s h => RelN.keep s h⟩
section
variable {K : PySem.W.Frag} {σ : St} {G : Hp} {ta tb te : TE} {m1 m2 md : Option Nt}
theorem ev_txtN {m : Option Str} (e : EV K te σ G m) : EV K te σ G (m.bind fun x => some (Nt.txt x)) := by
  intro G1 s1 c hc H sH Q k
  obtain ⟨x, hx, hc⟩ := Option.bind_eq_some_iff.mp hc
  cases hc
  exact e G1 s1 x hx H sH Q fun v G2 H2 x2 ⟨e, z⟩ => k v G2 H2 x2 (by subst e; exact .txt _ z)
noncomputable def asTxt : Nt → Option Str
  | .txt x => some x
  | _ => none
noncomputable def asTup : Nt → Option (Tp Nt)
  | .tup l => some ⟨l⟩
  | _ => none
theorem ev_asTxt (e : EV K te σ G md) : EV K te σ G (md.bind fun d => asTxt d) := by
  intro G1 s1 c hc H sH Q k
  obtain ⟨d, hd, hc⟩ := Option.bind_eq_some_iff.mp hc
  refine e G1 s1 d hd H sH Q fun v G2 H2 x r => ?_
  cases r with
  | txt y z =>
    cases hc
    exact k _ _ _ x ⟨rfl, z⟩
  | int n => cases hc
  | tup h z r l => cases hc
theorem ev_asTup (e : EV K te σ G md) : EV K te σ G (md.bind fun d => asTup d) := by
  intro G1 s1 c hc H sH Q k
  obtain ⟨d, hd, hc⟩ := Option.bind_eq_some_iff.mp hc
  refine e G1 s1 d hd H sH Q fun v G2 H2 x r => ?_
  cases r with
  | txt y z => cases hc
  | int n => cases hc
  | tup h z r l =>
    cases hc
    exact k _ _ _ x ⟨_, _, rfl, h, z, of_relNs r⟩
end
end L2
set_option Elab.async false
set_option linter.all false
set_option maxRecDepth 100000
set_option maxHeartbeats 4000000
namespace L2
open PySem PySem.Spec PyProof.Rows
section
variable {X : Cx} {K : PySem.W.Frag}
theorem sl_tupK (h : X.K = K) : SlR X (rSlT K) := h ▸ sl_tup
end
section
variable {K : PySem.W.Frag} {σ : St} {G : Hp} {α : Type} [Rp α] {ta tb tc te : TE} {t1 t2 : TO} {ia ib ic : Option Int} {m1 m2 : Option (Option Int)}
theorem ev_chain {p p' : Int → Int → Bool} {q q' : List Nat → List Nat → Bool} (ea : EV K ta σ G ia) (eb : EV K tb σ G ib) (ec : EV K tc σ G ic) :
    EV K (tChain (rOrd p q) (rOrd p' q') ta tb tc) σ G (ia.bind fun a => ib.bind fun b => cond (p a b) (ic.bind fun c => some (p' b c)) (some false)) := by
  intro G1 s1 r hr H sH Q k
  obtain ⟨a, ha, hr⟩ := Option.bind_eq_some_iff.mp hr
  obtain ⟨b, hb, hr⟩ := Option.bind_eq_some_iff.mp hr
  refine ea G1 s1 a ha H sH _ fun v G2 H2 x2 r2 => ?_
  refine eb G2 (s1.trans x2.gg) b hb H2 x2.gh _ fun u G3 H3 x3 r3 => ?_
  cases r2
  cases r3
  refine ⟨p a b, rfl, ?_⟩
  cases hp : p a b with
  | false =>
    rw [hp] at hr
    cases hr
    rw [if_neg Bool.false_ne_true]
    exact k _ _ _ (x2.trans x3) rfl
  | true =>
    rw [hp] at hr
    obtain ⟨c, hc, hr⟩ := Option.bind_eq_some_iff.mp (cT hr)
    cases hr
    rw [if_pos rfl]
    refine ec G3 (s1.trans (x2.trans x3).gg) c hc H3 x3.gh _ fun w G4 H4 x4 r4 => ?_
    cases r4
    exact k _ _ _ ((x2.trans x3).trans x4) rfl
noncomputable def cutT? {α : Type} (l : List α) (lo hi : Option Int) : Option (Tp α) := if ¬ (HT.sIx l.length 0 lo = 0 ∧ HT.sIx l.length l.length hi = l.length) then some ⟨cutA l lo hi⟩ else none
theorem ev_sliceT {ma : Option (Tp α)} (ea : EV K ta σ G ma) (e1 : OV t1 σ G m1) (e2 : OV t2 σ G m2) : EV K (tSl (rSlT K) ta t1 t2) σ G (ma.bind fun a => m1.bind fun lo => m2.bind fun hi => cutT? a.l lo hi) := by
  intro G1 s1 c hc H sH Q k
  obtain ⟨a, ha, hc⟩ := Option.bind_eq_some_iff.mp hc
  obtain ⟨lo, hlo, hc⟩ := Option.bind_eq_some_iff.mp hc
  obtain ⟨hi, hhi, hc⟩ := Option.bind_eq_some_iff.mp hc
  obtain ⟨hw, rfl⟩ := ite_some hc
  refine ea G1 s1 a ha H sH _ fun v G2 H2 x2 r2 => ?_
  refine e1 G2 (s1.trans x2.gg) lo hlo H2 x2.gh _ fun G3 H3 x3 => ?_
  refine e2 G3 (s1.trans (x2.trans x3).gg) hi hhi H3 x3.gh _ fun G4 H4 x4 => ?_
  obtain ⟨l, xs, rfl, h, z, p⟩ := Rp.mono (x3.trans x4).gg r2
  have hl := Paired.length p
  refine ⟨l, xs, rfl, x4.gh.tup h, by rw [hl]; exact hw, fun q hq => ?_⟩
  have hg : G4 q = none := x4.gh.free hq
  refine k _ (upd G4 q (.tup (cutV xs lo hi))) _ (((x2.trans x3).trans x4).trans ⟨Same.new hg, fun b o e => ?_, Same.new hq, fun b h1 h2 => ?_⟩) ⟨q, _, rfl, .inl (.inl upd_same), Nat.le_trans (cutV_length _ _ _) z, Paired.imp' (fun _ _ r => Rp.mono (Same.new hg) r) (Paired.cut p lo hi)⟩
  · by_cases hb : b = q
    · subst hb
      rw [upd_same] at e ⊢
      exact e
    · rw [upd_ne hb] at e ⊢
      exact x4.gh b o e
  · have hb : b ≠ q := fun e => h2 (by rw [e]; exact hq)
    rw [upd_ne hb]
    exact h1
class Flat (α : Type) [Rp α] [DecidableEq α] : Prop where
  fl : ∀ {K : PySem.W.Frag} {H : Hp} {v : V} {a : α}, Rp.rel K H v a → flatV v = true
  eq : ∀ {K : PySem.W.Frag} {H H' : Hp} {v u : V} {a b : α}, Rp.rel K H v a → Rp.rel K H' u b → eqV v u = decide (a = b)
noncomputable instance flInt : Flat Int := ⟨fun h => by cases h; rfl, fun h h' => by cases h; cases h'; exact dec_beq _ _⟩
noncomputable instance flStr : Flat Str := ⟨fun h => by obtain ⟨rfl, _⟩ := h; rfl, fun h h' => by obtain ⟨rfl, _⟩ := h; obtain ⟨rfl, _⟩ := h'; exact dec_beq _ _⟩
noncomputable instance flBool : Flat Bool := ⟨fun h => by cases h; rfl, fun h h' => by cases h; cases h'; exact dec_beq _ _⟩
end
mutual
noncomputable def Nt.toD : Nt → D
  | .txt x => .str x
  | .int n => .int n
  | .tup l => .tup (Nt.toDs l)
noncomputable def Nt.toDs : List Nt → List D
  | [] => []
  | a :: l => Nt.toD a :: Nt.toDs l
end
mutual
theorem RelN.toD {K : PySem.W.Frag} {H : Hp} : ∀ {v : V} {a : Nt}, RelN K H v a → RelD K H v a.toD
  | _, _, .txt x z => by unfold Nt.toD; exact .str x z
  | _, _, .int n => by unfold Nt.toD; exact .int n
  | _, _, .tup h z r _ => by unfold Nt.toD; exact .tup h z (RelNs.toD r)
theorem RelNs.toD {K : PySem.W.Frag} {H : Hp} : ∀ {xs : List V} {l : List Nt}, RelNs K H xs l → RelDs K H xs (Nt.toDs l)
  | _, _, .nil => by unfold Nt.toDs; exact .nil
  | _, _, .cons h t => by unfold Nt.toDs; exact .cons (RelN.toD h) (RelNs.toD t)
end
noncomputable instance tdN : ToD Nt := ⟨Nt.toD, fun h => RelN.toD h⟩
end L2
set_option Elab.async false
set_option linter.all false
set_option maxRecDepth 100000
set_option maxHeartbeats 4000000
namespace L2
open PySem PySem.Spec PyProof.Rows
section
variable {K : PySem.W.Frag} {σ : St} {G H G1 H1 G0 H0 : Hp} {α β γ : Type} [Rp α] [Rp β] [Rp γ] {te ti : TE} {tt : TT} {t u rest : TS} {D : Ends} {i j : Nat} {as : List α} {bs : List β} {v w : V} {p q : Addr} {vs ws : List V}
theorem Own.over {o : HO} (h : Own K G H v p vs as) (ne : p ≠ q) (hq : G q = none) : Own K (upd G q o) H v p vs as :=
  ⟨h.v, by rw [upd_ne ne]; exact h.g, h.h, h.z, Paired.imp' (fun _ _ r => Rp.mono (Same.new hq) r) h.p⟩
theorem EV.runBB [Imm γ] {mb : Option γ} {b : γ} {Q : VK} (o1 : Own K G H v p vs as) (o2 : Own K G H w q ws bs) (ne : q ≠ p) (e : EV K te σ (upd (upd G p (.lst vs)) q (.lst ws)) mb) (hm : mb = some b) (s : Same G H)
    (k : ∀ w G2 H2, Ext G H G2 H2 → Rp.rel K G2 w b → Q w H2) : te σ H Q :=
  EV.runB (o2.over ne o1.g) e hm (o1.same s) fun w G2 H2 x r => k w (del G2 p) H2 (x.del o1.g) (Imm.del (x.gg _ _ upd_same) r)
theorem TV.runBB {mb : Option Bool} {b : Bool} {Q : Bool → Hp → Prop} (o1 : Own K G H v p vs as) (o2 : Own K G H w q ws bs) (ne : q ≠ p) (e : TV tt σ (upd (upd G p (.lst vs)) q (.lst ws)) mb) (hm : mb = some b) (s : Same G H)
    (k : ∀ G2 H2, Ext G H G2 H2 → Q b H2) : tt σ H Q :=
  TV.runB (o2.over ne o1.g) e hm (o1.same s) fun G2 H2 x => k (del G2 p) H2 (x.del o1.g)
theorem sv_ifBB {b : Bool} {m : Option Bool} (o1 : Own K G H v p vs as) (o2 : Own K G H w q ws bs) (ne : q ≠ p) (e : TV tt σ (upd (upd G p (.lst vs)) q (.lst ws)) m) (hm : m = some b) (s : Same G H)
    (k : ∀ G2 H2, Ext G H G2 H2 → if b = true then t { D with nx := rest D } σ H2 else u { D with nx := rest D } σ H2) : tSeq (tIfS tt t u) rest D σ H := TV.runBB o1 o2 ne e hm s k
theorem sv_setitemB [Imm α] {a : α} {m : Option α} {mi : Option Int} {k' : Int} {as' : List α} (hσ : σ[i]? = some (some v)) (o : Own K G H v p vs as) (e : EV K te σ (upd G p (.lst vs)) m) (hm : m = some a) (ei : EV K ti σ G mi) (hi : mi = some k') (hs : setO as k' a = some as') (s : Same G H)
    (k : ∀ G2 H2 w j, Ext G H G2 H2 → Own K G2 (upd H2 p (.lst (vs.set j w))) v p (vs.set j w) as' → rest D σ (upd H2 p (.lst (vs.set j w)))) : tSeq (tAsg te (gSub (tVar i) ti rSetL)) rest D σ H := by
  obtain ⟨j, hj, e'⟩ := Option.bind_eq_some_iff.mp hs
  cases e'
  have hlen := Paired.length o.p
  refine EV.runB o e hm s fun w G2 H2 x r => ?_
  have o2 := o.ext x
  refine ⟨v, hσ, ?_⟩
  refine ei G2 x.gg k' hi H2 x.gh _ fun u G3 H3 x3 r3 => ?_
  cases r3
  have o3 := o2.ext x3
  refine ⟨p, vs, k', j, o3.v, rfl, o3.h, by rw [hlen]; exact hj, ?_⟩
  exact k G3 H3 w j (x.trans x3) ⟨o3.v, o3.g, upd_same, by rw [List.length_set]; exact o3.z, Paired.st (Rp.mono x3.gg r) j o3.p⟩
end
end L2
set_option Elab.async false
set_option linter.all false
set_option maxRecDepth 100000
set_option maxHeartbeats 4000000
namespace L2
open PySem PySem.Spec PyProof.Rows
section
variable {K : PySem.W.Frag} {σ : St} {G H G1 H1 G2 H2 G0 H0 : Hp} {α β γ δ : Type} [Rp α] [Rp β] [Rp γ] [Rp δ] {te ta tb ti : TE} {t : TA} {tt : TT} {rest : TS} {D : Ends} {i j n : Nat} {as as' : List α} {v w : V} {p q : Addr} {vs ws : List V}
theorem Ext.era (x : Ext G H G2 H2) (g : G2 p = none) : Ext G (era H [p]) G2 (L2.era H2 [p]) := by
  refine ⟨x.gg, fun b o e => ?_, fun b o e => ?_, fun b h1 h2 => x.no b h1 fun z => h2 ?_⟩
  · have hb : b ≠ p := fun z => by
      rw [z, g] at e
      cases e
    rw [era_out (by simpa using hb)]
    exact x.gh b o e
  · by_cases hb : b = p
    · rw [era_in (by simpa using hb)] at e
      cases e
    · rw [era_out (by simpa using hb)] at e ⊢
      exact x.hh b o e
  · by_cases hb : b = p
    · exact era_in (by simpa using hb)
    · rw [era_out (by simpa using hb)]
      exact z
noncomputable def BV (K : PySem.W.Frag) (te : TE) (σ : St) (G : Hp) (v : V) (p : Addr) (vs : List V) (as : List α) (m : Option γ) : Prop :=
  ∀ G1, Same G G1 → ∀ c, m = some c → ∀ H, Same G1 H → Own K G1 H v p vs as → ∀ Q : VK, (∀ w G2 H2, Ext G1 H G2 H2 → Rp.rel K G2 w c → Q w H2) → te σ H Q
noncomputable def PV (K : PySem.W.Frag) (te : TE) (σ : St) (G : Hp) (v : V) (p : Addr) (vs : List V) (as as' : List α) (m : Option γ) : Prop :=
  ∀ G1, Same G G1 → ∀ c, m = some c → ∀ H, Same G1 H → Own K G1 H v p vs as → ∀ Q : VK, (∀ w G2 H2, Ext G1 (era H [p]) G2 H2 → Own K G2 H2 v p vs.dropLast as' → Rp.rel K G2 w c → Q w H2) → te σ H Q
noncomputable def PL (K : PySem.W.Frag) (t : TA) (σ : St) (G : Hp) (v : V) (p : Addr) (vs : List V) (as as' : List α) (n : Nat) (m : Option (List γ)) : Prop :=
  ∀ G1, Same G G1 → ∀ c, m = some c → ∀ H, Same G1 H → Own K G1 H v p vs as → ∀ Q : List V → Hp → Prop, (∀ ws G2 H2, Ext G1 (era H [p]) G2 H2 → Own K G2 H2 v p vs.dropLast as' → ws.length = n → Paired (Rp.rel K G2) ws c → Q ws H2) → t σ H Q
theorem bv_ev {m : Option γ} (e : EV K te σ G m) : BV K te σ G v p vs as m := fun G1 s1 c hc H sH _ Q k => e G1 s1 c hc H sH Q k
theorem bv_own [Imm γ] {m : Option γ} (hp : G p = none) (e : EV K te σ (upd G p (.lst vs)) m) : BV K te σ G v p vs as m := fun G1 s1 c hc H sH o Q k => by
  have s2 : Same (upd G p (.lst vs)) (upd G1 p (.lst vs)) := fun b u h => by
    by_cases hb : b = p
    · subst hb
      rw [upd_same] at h ⊢
      exact h
    · rw [upd_ne hb] at h ⊢
      exact s1 b u h
  exact EV.runB o (fun G2 s3 => e G2 (s2.trans s3)) hc sH k
theorem pv_pop {a : α} (hσ : σ[i]? = some (some v)) (hp : popO as = some (a, as')) : PV K (tBM0 K "list" rPop (tVar i)) σ G v p vs as as' (some a) := by
  intro G1 s1 c hc H sH o Q k
  cases hc
  obtain ⟨rfl, og, oh, oz, op⟩ := o
  obtain ⟨w, hw, r, pr⟩ := Paired.last op hp
  refine ⟨_, hσ, .inl ⟨rfl, _, SqL.of oh⟩, p, vs, w, rfl, rfl, oh, hw, ?_⟩
  refine k w G1 _ ⟨.refl _, fun b u e => ?_, fun b u e => ?_, fun _ h _ => h⟩ ⟨rfl, og, upd_same, ?_, pr⟩ r
  · have hb : b ≠ p := fun z => by
      rw [z, og] at e
      cases e
    rw [upd_ne hb]
    exact sH b u e
  · by_cases hb : b = p
    · rw [era_in (by simpa using hb)] at e
      cases e
    · rw [era_out (by simpa using hb)] at e
      rw [upd_ne hb]
      exact e
  · rw [List.length_dropLast]
    omega
theorem pl_here {m : Option γ} {ml : Option (List γ)} (e : PV K te σ G v p vs as as' m) (l : LV K t σ G n ml) : PL K (tCons te t) σ G v p vs as as' (n + 1) (m.bind fun a => ml.bind fun r => some (a :: r)) := by
  intro G1 s1 c hc H sH o Q k
  obtain ⟨a, ha, hc⟩ := Option.bind_eq_some_iff.mp hc
  obtain ⟨r, hr, hc⟩ := Option.bind_eq_some_iff.mp hc
  cases hc
  refine e G1 s1 a ha H sH o _ fun w G2 H2 x2 o2 r2 => ?_
  refine l G2 (s1.trans x2.gg) r hr H2 x2.gh _ fun ws G3 H3 x3 hl hp => ?_
  exact k _ G3 H3 (x2.trans x3) (o2.ext x3) (by rw [List.length_cons, hl]) (.cons (Rp.mono x3.gg r2) hp)
theorem pl_there {m : Option γ} {ml : Option (List γ)} (e : BV K te σ G v p vs as m) (l : PL K t σ G v p vs as as' n ml) : PL K (tCons te t) σ G v p vs as as' (n + 1) (m.bind fun a => ml.bind fun r => some (a :: r)) := by
  intro G1 s1 c hc H sH o Q k
  obtain ⟨a, ha, hc⟩ := Option.bind_eq_some_iff.mp hc
  obtain ⟨r, hr, hc⟩ := Option.bind_eq_some_iff.mp hc
  cases hc
  refine e G1 s1 a ha H sH o _ fun w G2 H2 x2 r2 => ?_
  have o2 := o.ext x2
  refine l G2 (s1.trans x2.gg) r hr H2 x2.gh o2 _ fun ws G3 H3 x3 o3 hl hp => ?_
  exact k _ G3 H3 ((x2.era o2.g).trans x3) o3 (by rw [List.length_cons, hl]) (.cons (Rp.mono x3.gg r2) hp)
theorem pv_tupN {ml : Option (List Nt)} (l : PL K t σ G v p vs as as' n ml) (hn : n ≤ sizeLine := by decide) : PV K (tTup t) σ G v p vs as as' (ml.bind fun l => some (Nt.tup l)) := by
  intro G1 s1 c hc H sH o Q k
  obtain ⟨l', hl', hc⟩ := Option.bind_eq_some_iff.mp hc
  cases hc
  refine l G1 s1 l' hl' H sH o _ fun ws G2 H2 x2 o2 hl hp => ⟨by omega, fun q h => ?_⟩
  have x3 : Ext G2 H2 (upd G2 q (.tup ws)) (upd H2 q (.tup ws)) := .new x2.gh h
  exact k _ _ _ (x2.trans x3) (o2.ext x3) (.tup (SqT.of upd_same) (by omega) (relNs_of (Paired.imp' (fun _ _ r => Rp.mono x3.gg r) hp)) fun _ => upd_same)
theorem sv_appendP {a : α} {m : Option α} {as'' : List α} (hσ : σ[i]? = some (some v)) (o : Own K G H v p vs as) (e : PV K te σ G v p vs as as' m) (hm : m = some a) (hp : pushO as' a = some as'') (s : Same G H)
    (k : ∀ G2 H2 w, Ext G (era H [p]) G2 H2 → Own K G2 (upd H2 p (.lst (vs.dropLast ++ [w]))) v p (vs.dropLast ++ [w]) as'' → rest D σ (upd H2 p (.lst (vs.dropLast ++ [w])))) : tSeq (tDrop (tBM K "list" rAppend (tVar i) (tCons te tNil))) rest D σ H := by
  obtain ⟨hl, rfl⟩ := ite_some hp
  have ov := o.v
  subst ov
  refine ⟨_, hσ, .inl ⟨rfl, _, SqL.of o.h⟩, ?_⟩
  refine e G (.refl G) a hm H s o _ fun w G2 H2 x o2 r => ?_
  have hlen := Paired.length o2.p
  refine ⟨p, _, w, rfl, rfl, o2.h, by omega, ?_⟩
  refine k G2 H2 w x ⟨rfl, o2.g, upd_same, ?_, Paired.app o2.p (.cons r .nil)⟩
  rw [List.length_append, List.length_singleton]
  omega
noncomputable def cutX (x : Scr) (lo hi : Option Int) : Option (List Int) := if x.l.length ≤ sizeLine then some (cutA x.l lo hi) else none
theorem paired_scr (H : Hp) : ∀ l : List Int, Paired (Rp.rel K H) (l.map V.int) l
  | [] => .nil
  | a :: r => .cons rfl (paired_scr H r)
theorem fv_sliceX {t1 t2 : TO} {m1 m2 : Option (Option Int)} {ma : Option Scr} (ea : EV K ta σ G ma) (e1 : OV t1 σ G m1) (e2 : OV t2 σ G m2) : FV K (tSl (rSl K) ta t1 t2) σ G (ma.bind fun a => m1.bind fun lo => m2.bind fun hi => cutX a lo hi) := by
  intro G1 s1 c hc H sH Q k
  obtain ⟨a, ha, hc⟩ := Option.bind_eq_some_iff.mp hc
  obtain ⟨lo, hlo, hc⟩ := Option.bind_eq_some_iff.mp hc
  obtain ⟨hi, hhi, hc⟩ := Option.bind_eq_some_iff.mp hc
  obtain ⟨z, rfl⟩ := ite_some hc
  refine ea G1 s1 a ha H sH _ fun v G2 H2 x2 r2 => ?_
  refine e1 G2 (s1.trans x2.gg) lo hlo H2 x2.gh _ fun G3 H3 x3 => ?_
  refine e2 G3 (s1.trans (x2.trans x3).gg) hi hhi H3 x3.gh _ fun G4 H4 x4 => ?_
  obtain ⟨l, rfl, h⟩ := Rp.mono (x3.trans x4).gg r2
  exact ⟨_, x4.gh.seq h, fv_of x4.gh (Nat.le_trans (cutV_length _ _ _) (by rw [List.length_map]; exact z)) (Paired.cut (paired_scr G4 a.l) lo hi) (FV.mono ((x2.trans x3).trans x4) k)⟩
end
end L2
set_option Elab.async false
set_option linter.all false
set_option maxRecDepth 100000
set_option maxHeartbeats 4000000
namespace L2
open PySem PySem.Spec PyProof.Rows
theorem pe_globR {X : Cx} {x : Str} {a : Addr} {pos : Pos} (hg : Gl X x) (h : X.mg x = some (.ref a)) (hd : (x == ("__debug__" : Str)) = false := by decide) : PE X (.Name x pos) (tC (.ref a)) :=
  pe_glob (u := .ref a) hg h rfl hd
section
variable {K : PySem.W.Frag} {σ : St} {G : Hp} {ta : TE}
theorem ev_tupNL {t : TA} {n : Nat} {ml : Option (List Nt)} (e : LV K t σ G n ml) (z : n ≤ sizeLine := by decide) : EV K (tTup t) σ G (ml.bind fun l => some (Nt.tup l)) :=
  fun G1 s1 c hc H sH Q k => by
    obtain ⟨l, hl, hc⟩ := Option.bind_eq_some_iff.mp hc
    cases hc
    refine e G1 s1 l hl H sH _ fun vs G2 H2 x2 hl hp => ⟨by omega, fun p h => ?_⟩
    exact k _ _ _ (x2.trans (.new x2.gh h)) (.tup (SqT.of upd_same) (by omega) (relNs_of (Paired.imp' (fun _ _ r => Rp.mono (Same.new (x2.gh.free h)) r) hp)) fun _ => upd_same)
end
end L2
set_option Elab.async false
set_option linter.all false
set_option maxRecDepth 100000
set_option maxHeartbeats 4000000
namespace L2
open PySem PySem.Spec PyProof.Rows
section
variable {K : PySem.W.Frag} {σ : St} {G H : Hp} {α β γ : Type} [Rp α] [Rp β] [Rp γ] {ta tb te : TE} {rest : TS} {D : Ends} {i j : Nat}
end
end L2
set_option Elab.async false
set_option linter.all false
set_option maxRecDepth 100000
set_option maxHeartbeats 4000000
namespace L2
open PySem PySem.Spec PyProof.Rows
noncomputable def isTps (K : PySem.W.Frag) {α : Type} (R : Hp → V → α → Prop) : Hp → V → Tp α → Prop := fun H x a => ∃ t xs, x = .ref t ∧ SqT K H t xs ∧ Paired (R H) xs a.l
theorem tp_dec {α : Type} [DecidableEq α] {as bs : Tp α} {n m : Nat} (hn : n = as.l.length) (hm : m = bs.l.length) : ((List.range (min n m)).all (fun j => decide (as.l[j]? = bs.l[j]?)) && n == m) = decide (as = bs) := by
  obtain ⟨as⟩ := as
  obtain ⟨bs⟩ := bs
  subst hn
  subst hm
  by_cases hl : as.length = bs.length
  · show ((List.range (min as.length bs.length)).all (fun j => decide (as[j]? = bs[j]?)) && as.length == bs.length) = _
    rw [← hl, Nat.min_self, beq_self_eq_true, Bool.and_true, all_dec as bs hl]
    exact decide_eq_decide.mpr ⟨fun e => by rw [e], fun e => by cases e; rfl⟩
  · have h : (as.length == bs.length) = false := by simpa using hl
    have ne : Tp.mk as ≠ Tp.mk bs := fun e => by
      cases e
      exact hl rfl
    show (_ && as.length == bs.length) = _
    rw [h, Bool.and_false, decide_eq_false ne]
theorem eqTp {K : PySem.W.Frag} {k : Nat} {α : Type} [DecidableEq α] {R : Hp → V → α → Prop} (E : EqTy K k R) : EqTy K (k + 1) (isTps K R) := by
  have fn : ∀ {X : Cx} {pins : List (Addr × Obj)} {σ : St} {H : Hp} {s : Shared} {x : V} {a b : Tp α}, X.K = K → Inv X pins σ H s → isTps K R H x a → isTps K R H x b → a = b := by
    intro X pins σ H s x a b hK I ha hb
    obtain ⟨a⟩ := a
    obtain ⟨b⟩ := b
    obtain ⟨l, xs, rfl, h1, p1⟩ := ha
    obtain ⟨l', ys, e, h2, p2⟩ := hb
    cases e
    subst hK
    have := I.tuple_inj h1 h2
    subst this
    exact congrArg Tp.mk (paired_fn (F := R H) (fun _ _ _ p q => E.fn rfl I p q) p1 p2)
  have rc : ∀ {X : Cx} {pins : List (Addr × Obj)} {σ : St} {H : Hp} {s : Shared} {x y : V} {u v : Value} {a b : Tp α} (A : Around), X.K = K → Inv X pins σ H s → A.units + (k + 1) < cLine → RelV x u → RelV y v → isTps K R H x a → isTps K R H y b →
      SeqAt.RcAt A s u v (decide (a = b)) ∧ SeqAt.RcNeAt A s u v (!decide (a = b)) := by
    intro X pins σ H s x y u v a b A hK I hu r1 r2 ha hb
    obtain ⟨l, xs, rfl, h1, p1⟩ := ha
    obtain ⟨l', ys, rfl, h2, p2⟩ := hb
    cases r1; cases r2
    subst hK
    obtain ⟨us, rx, plx, _⟩ := I.tuple h1
    obtain ⟨vs, ry, ply, _⟩ := I.tuple h2
    have lx := rx.length
    have ly := ry.length
    have lpx := Paired.length p1
    have lpy := Paired.length p2
    have it := items_eqAt E rfl I hu rx ry p1 p2
    rw [← tp_dec (as := a) (bs := b) (n := us.toArray.size) (m := vs.toArray.size) (by simp; omega) (by simp; omega)]
    exact ⟨SeqAt.RcAt.tuples plx ply (by omega) it, SeqAt.RcNeAt.tuples plx ply (by omega) it⟩
  refine ⟨fn, ?_, rc⟩
  intro X pins σ H s x y u v a b A hK I hu r1 r2 ha hb
  have h := (rc A hK I hu r1 r2 ha hb).1
  obtain ⟨l, xs, rfl, h1, p1⟩ := id ha
  obtain ⟨l', ys, rfl, h2, p2⟩ := id hb
  cases r1; cases r2
  by_cases e : l = l'
  · subst e
    have : a = b := fn hK I ha hb
    rw [decide_eq_true this]
    exact SeqAt.EqAt.same _
  · exact SeqAt.EqAt.of_refs e h
theorem vals3' {x y z : V} {us : List Value} (h : Vals [x, y, z] us) : ∃ a b c, us = [a, b, c] ∧ RelV x a ∧ RelV y b ∧ RelV z c := by
  cases h with
  | cons r t => cases t with
    | cons r' t' => cases t' with
      | cons r'' t'' => cases t''; exact ⟨_, _, _, rfl, r, r', r''⟩
noncomputable def isT3 (K : PySem.W.Frag) {α β γ : Type} (R : Hp → V → α → Prop) (S : Hp → V → β → Prop) (T : Hp → V → γ → Prop) : Hp → V → T3 α β γ → Prop := fun H x p => ∃ t a b c, x = .ref t ∧ SqT K H t [a, b, c] ∧ R H a p.a ∧ S H b p.b ∧ T H c p.c
theorem eqT3 {K : PySem.W.Frag} {k : Nat} {α β γ : Type} [DecidableEq α] [DecidableEq β] [DecidableEq γ] {R : Hp → V → α → Prop} {S : Hp → V → β → Prop} {T : Hp → V → γ → Prop} (E : EqTy K k R) (G : EqTy K k S) (F : EqTy K k T) : EqTy K (k + 1) (isT3 K R S T) := by
  have fn : ∀ {X : Cx} {pins : List (Addr × Obj)} {σ : St} {H : Hp} {s : Shared} {x : V} {a b : T3 α β γ}, X.K = K → Inv X pins σ H s → isT3 K R S T H x a → isT3 K R S T H x b → a = b := by
    intro X pins σ H s x a b hK I ha hb
    obtain ⟨l, x1, x2, x3, rfl, h1, p1, p2, p3⟩ := ha
    obtain ⟨l', y1, y2, y3, e, h2, q1, q2, q3⟩ := hb
    cases e
    subst hK
    have := I.tuple_inj h1 h2
    cases this
    obtain ⟨a1, a2, a3⟩ := a
    obtain ⟨b1, b2, b3⟩ := b
    have e1 : a1 = b1 := E.fn rfl I p1 q1
    have e2 : a2 = b2 := G.fn rfl I p2 q2
    have e3 : a3 = b3 := F.fn rfl I p3 q3
    rw [e1, e2, e3]
  have rc : ∀ {X : Cx} {pins : List (Addr × Obj)} {σ : St} {H : Hp} {s : Shared} {x y : V} {u v : Value} {a b : T3 α β γ} (A : Around), X.K = K → Inv X pins σ H s → A.units + (k + 1) < cLine → RelV x u → RelV y v → isT3 K R S T H x a → isT3 K R S T H y b →
      SeqAt.RcAt A s u v (decide (a = b)) ∧ SeqAt.RcNeAt A s u v (!decide (a = b)) := by
    intro X pins σ H s x y u v a b A hK I hu r1 r2 ha hb
    obtain ⟨l, x1, x2, x3, rfl, h1, p1, p2, p3⟩ := ha
    obtain ⟨l', y1, y2, y3, rfl, h2, q1, q2, q3⟩ := hb
    cases r1; cases r2
    subst hK
    obtain ⟨us, rx, plx, _⟩ := I.tuple h1
    obtain ⟨vs, ry, ply, _⟩ := I.tuple h2
    obtain ⟨u1, u2, u3, rfl, ru1, ru2, ru3⟩ := vals3' rx
    obtain ⟨v1, v2, v3, rfl, rv1, rv2, rv3⟩ := vals3' ry
    have e1 := E.eq A.in1 rfl I (show A.units + 1 + k < cLine by omega) ru1 rv1 p1 q1
    have e2 := G.eq A.in1 rfl I (show A.units + 1 + k < cLine by omega) ru2 rv2 p2 q2
    have e3 := F.eq A.in1 rfl I (show A.units + 1 + k < cLine by omega) ru3 rv3 p3 q3
    have it : ∀ j (h1 : j < [u1, u2, u3].toArray.size) (h2 : j < [v1, v2, v3].toArray.size), SeqAt.EqAt A.in1 s [u1, u2, u3].toArray[j] [v1, v2, v3].toArray[j] ((fun j => if j = 0 then decide (a.a = b.a) else if j = 1 then decide (a.b = b.b) else decide (a.c = b.c)) j) := by
      intro j h1 h2
      match j, h1 with
      | 0, _ => exact e1
      | 1, _ => exact e2
      | 2, _ => exact e3
      | j + 3, h => exact absurd h (by simp)
    have ed : ((List.range (min [u1, u2, u3].toArray.size [v1, v2, v3].toArray.size)).all (fun j => if j = 0 then decide (a.a = b.a) else if j = 1 then decide (a.b = b.b) else decide (a.c = b.c)) && [u1, u2, u3].toArray.size == [v1, v2, v3].toArray.size) = decide (a = b) := by
      apply Bool.eq_iff_iff.mpr
      rw [decide_eq_true_iff]
      constructor
      · intro h
        have h : (decide (a.a = b.a) && (decide (a.b = b.b) && (decide (a.c = b.c) && true)) && true) = true := h
        simp only [Bool.and_true, Bool.and_eq_true, decide_eq_true_iff] at h
        obtain ⟨a1, a2, a3⟩ := a
        obtain ⟨b1, b2, b3⟩ := b
        obtain ⟨h1, h2, h3⟩ := h
        dsimp only at h1 h2 h3
        rw [h1, h2, h3]
      · rintro rfl
        show (decide (a.a = a.a) && (decide (a.b = a.b) && (decide (a.c = a.c) && true)) && true) = true
        simp
    rw [← ed]
    exact ⟨SeqAt.RcAt.tuples plx ply (by omega) it, SeqAt.RcNeAt.tuples plx ply (by omega) it⟩
  refine ⟨fn, ?_, rc⟩
  intro X pins σ H s x y u v a b A hK I hu r1 r2 ha hb
  have h := (rc A hK I hu r1 r2 ha hb).1
  obtain ⟨l, x1, x2, x3, rfl, h1, p1, p2, p3⟩ := id ha
  obtain ⟨l', y1, y2, y3, rfl, h2, q1, q2, q3⟩ := id hb
  cases r1; cases r2
  by_cases e : l = l'
  · subst e
    have : a = b := fn hK I ha hb
    rw [decide_eq_true this]
    exact SeqAt.EqAt.same _
  · exact SeqAt.EqAt.of_refs e h
class NoN (α : Type) [Rp α] : Prop where
  no_non : ∀ {K : PySem.W.Frag} {H : Hp} {x : V} {a : α}, Rp.rel K H x a → x ≠ .non
  ne : ∀ {K : PySem.W.Frag} {X : Cx} {pins : List (Addr × Obj)} {σ : St} {H : Hp} {s : Shared} {x : V} {u : Value} {a : α} (A : Around), X.K = K → Inv X pins σ H s → A.units < cLine → RelV x u → Rp.rel K H x a →
    (SeqAt.EqAt A s .none u false ∧ SeqAt.RcAt A s .none u false ∧ SeqAt.RcNeAt A s .none u true) ∧ SeqAt.EqAt A s u .none false ∧ SeqAt.RcAt A s u .none false ∧ SeqAt.RcNeAt A s u .none true
noncomputable instance nnInt : NoN Int := ⟨fun h => (by cases h; exact fun z => (nomatch z)), fun A hK I hu r h => by
  cases h
  obtain ⟨t, rfl⟩ := r
  exact ⟨⟨SeqAt.EqAt.none_int _ _, SeqAt.RcAt.none_int _ _, SeqAt.RcNeAt.none_int _ _⟩, SeqAt.EqAt.int_none _ _, SeqAt.RcAt.int_none _ _, SeqAt.RcNeAt.int_none _ _⟩⟩
noncomputable instance nnPair {α β : Type} [Rp α] [Rp β] : NoN (α × β) := ⟨fun h => (by obtain ⟨_, _, _, rfl, _⟩ := h; exact fun z => (nomatch z)), fun A hK I hu r h => by
  obtain ⟨t, x, y, rfl, h, _⟩ := h
  cases r
  subst hK
  obtain ⟨us, rx, pl, _⟩ := I.tuple h
  exact ⟨⟨SeqAt.EqAt.none_tuple pl hu, SeqAt.RcAt.none_tuple pl hu, SeqAt.RcNeAt.none_tuple pl hu⟩, SeqAt.EqAt.tuple_none pl hu, SeqAt.RcAt.tuple_none pl hu, SeqAt.RcNeAt.tuple_none pl hu⟩⟩
theorem eqOpt {K : PySem.W.Frag} {k : Nat} {α : Type} [Rp α] [DecidableEq α] [NoN α] (E : EqTy K k (Rp.rel (α := α) K)) : EqTy K k (Rp.rel (α := Option α) K) where
  fn := by
    intro X pins σ H s x a b hK I ha hb
    cases a with
    | none =>
      cases b with
      | none => rfl
      | some b =>
        have ha : x = .non := ha
        subst ha
        exact absurd rfl (NoN.no_non (α := α) hb)
    | some a =>
      cases b with
      | none =>
        have hb : x = .non := hb
        subst hb
        exact absurd rfl (NoN.no_non (α := α) ha)
      | some b => exact congrArg some (E.fn hK I ha hb)
  eq := by
    intro X pins σ H s x y u v a b A hK I hu r1 r2 ha hb
    cases a with
    | none =>
      have ha : x = .non := ha
      subst ha
      cases r1
      cases b with
      | none =>
        have hb : y = .non := hb
        subst hb
        cases r2
        exact SeqAt.EqAt.same _
      | some b => exact (NoN.ne (α := α) A hK I (by omega) r2 hb).1.1
    | some a =>
      cases b with
      | none =>
        have hb : y = .non := hb
        subst hb
        cases r2
        exact (NoN.ne (α := α) A hK I (by omega) r1 ha).2.1
      | some b =>
        have := E.eq A hK I hu r1 r2 ha hb
        have e3 : decide (some a = some b) = decide (a = b) := by simp
        rw [e3]
        exact this
  rc := by
    intro X pins σ H s x y u v a b A hK I hu r1 r2 ha hb
    cases a with
    | none =>
      have ha : x = .non := ha
      subst ha
      cases r1
      cases b with
      | none =>
        have hb : y = .non := hb
        subst hb
        cases r2
        exact ⟨SeqAt.RcAt.none_none, SeqAt.RcNeAt.none_none⟩
      | some b => exact (NoN.ne (α := α) A hK I (by omega) r2 hb).1.2
    | some a =>
      cases b with
      | none =>
        have hb : y = .non := hb
        subst hb
        cases r2
        exact (NoN.ne (α := α) A hK I (by omega) r1 ha).2.2
      | some b =>
        have := E.rc A hK I hu r1 r2 ha hb
        have e3 : decide (some a = some b) = decide (a = b) := by simp
        rw [e3]
        exact this
noncomputable instance reTp {α : Type} [Rp α] [DecidableEq α] [RpE α] : RpE (Tp α) := ⟨RpE.k α + 1, fun K => (eqTp (RpE.ty K)).imp fun _ _ _ ⟨l, xs, e, h, _, p⟩ => ⟨l, xs, e, h, p⟩⟩
noncomputable instance reT3 {α β γ : Type} [Rp α] [DecidableEq α] [RpE α] [Rp β] [DecidableEq β] [RpE β] [Rp γ] [DecidableEq γ] [RpE γ] : RpE (T3 α β γ) :=
  ⟨max (RpE.k α) (max (RpE.k β) (RpE.k γ)) + 1, fun K => eqT3 ((RpE.ty (α := α) K).up (Nat.le_max_left _ _)) ((RpE.ty (α := β) K).up (Nat.le_trans (Nat.le_max_left _ _) (Nat.le_max_right _ _))) ((RpE.ty (α := γ) K).up (Nat.le_trans (Nat.le_max_right _ _) (Nat.le_max_right _ _)))⟩
noncomputable instance reOpt {α : Type} [Rp α] [DecidableEq α] [RpE α] [NoN α] : RpE (Option α) := ⟨RpE.k α, fun K => eqOpt (RpE.ty K)⟩
class Fix (α : Type) [Rp α] : Prop where
  fx : ∀ {K : PySem.W.Frag} {G G' : Hp} {v : V} {a : α}, Rp.rel K G v a → Rp.rel K G' v a
noncomputable instance fxInt : Fix Int := ⟨fun h => h⟩
noncomputable instance fxBool : Fix Bool := ⟨fun h => h⟩
noncomputable instance fxStr : Fix Str := ⟨fun h => h⟩
section
variable {K : PySem.W.Frag} {σ : St} {G Gx H G1 H1 G0 H0 : Hp} {α β γ : Type} [Rp α] [Rp β] [Rp γ] {te ta tb tc ti : TE} {tt : TT} {t u rest : TS} {D : Ends} {i j : Nat} {as : List α} {bs : List β} {v w : V} {p q : Addr} {vs ws : List V}
variable {a : T3 α (List β) γ}
end
end L2
set_option Elab.async false
set_option linter.all false
set_option maxRecDepth 100000
set_option maxHeartbeats 4000000
namespace L2
open PySem PySem.Spec PyProof.Rows
section
variable {K : PySem.W.Frag} {σ : St} {G : Hp} {ta tb : TE}
end
end L2
set_option Elab.async false
set_option linter.all false
set_option maxRecDepth 100000
set_option maxHeartbeats 4000000
namespace L3
open PySem
section
variable {prog : Program} {w : World} {A : Around} {E : Value → Shared → Prop} {s : Shared}
end
section
variable {prog : Program} {w : World} {A : Around} {E : Value → Shared → Prop} {s : Shared}
end
end L3
set_option Elab.async false
set_option linter.all false
set_option maxRecDepth 100000
set_option maxHeartbeats 4000000
namespace L2
open PySem PySem.Spec PyProof.Rows
section
variable {K : PySem.W.Frag} {σ : St} {G : Hp} {ta tb : TE} {ia ib : Option Int}
end
end L2
set_option Elab.async false
set_option linter.all false
set_option maxRecDepth 100000
set_option maxHeartbeats 4000000
namespace L2
open PySem PySem.Spec PyProof.Rows
section
variable {X : Cx} {pins : List (Addr × Obj)} {σ : St}
end
end L2
set_option Elab.async false
set_option linter.all false
set_option maxRecDepth 100000
set_option maxHeartbeats 4000000
namespace L2
open PySem PySem.Spec PyProof.Rows
section
variable {K : PySem.W.Frag} {σ : St} {G : Hp} {α β : Type} [Rp α] [Rp β] {ta : TE}
end
end L2
set_option Elab.async false
set_option linter.all false
set_option maxRecDepth 100000
set_option maxHeartbeats 4000000
namespace L2
open PySem PySem.Spec PyProof.Rows
inductive SI where
  | s (x : Str)
  | i (n : Int)
  deriving DecidableEq
noncomputable def RelSI (v : V) : SI → Prop
  | .s x => v = .str x ∧ x.length ≤ sizeLine
  | .i n => v = .int n
noncomputable instance rpSI : Rp SI := ⟨fun _ _ v a => RelSI v a, fun _ h => h⟩
noncomputable instance imSI : Imm SI := ⟨fun _ h => h⟩
theorem eqSI {K : PySem.W.Frag} : EqTy K 0 (Rp.rel (α := SI) K) where
  fn := fun {X pins σ H s x a b} hK I h1 h2 => by
    cases a with
    | s y => cases b with
      | s z => obtain ⟨rfl, _⟩ := h1; obtain ⟨e, _⟩ := h2; cases e; rfl
      | i n => obtain ⟨rfl, _⟩ := h1; cases h2
    | i m => cases b with
      | s z => obtain ⟨rfl, _⟩ := h2; cases h1
      | i n =>
        have h1 : x = .int m := h1
        have h2 : x = .int n := h2
        subst h1
        cases h2
        rfl
  eq := fun {X pins σ H s x y u v a b} A hK I hu r1 r2 h1 h2 => by
    cases a with
    | s p => cases b with
      | s q =>
        obtain ⟨rfl, _⟩ := h1
        obtain ⟨rfl, _⟩ := h2
        have := eqStr.eq (K := K) (a := p) (b := q) A hK I hu r1 r2 rfl rfl
        rwa [show decide (SI.s p = SI.s q) = decide (p = q) from decide_eq_decide.mpr ⟨fun e => by cases e; rfl, fun e => by rw [e]⟩]
      | i n =>
        obtain ⟨rfl, _⟩ := h1
        have h2 : y = .int n := h2
        subst h2
        obtain ⟨t, rfl⟩ := r1
        obtain ⟨t', rfl⟩ := r2
        rw [decide_eq_false (fun e => by cases e)]
        exact SeqAt.EqAt.str_int _ _ _ _
    | i m => cases b with
      | s q =>
        obtain ⟨rfl, _⟩ := h2
        have h1 : x = .int m := h1
        subst h1
        obtain ⟨t, rfl⟩ := r1
        obtain ⟨t', rfl⟩ := r2
        rw [decide_eq_false (fun e => by cases e)]
        exact SeqAt.EqAt.int_str _ _ _ _
      | i n =>
        have := eqInt.eq (K := K) (a := m) (b := n) A hK I hu r1 r2 h1 h2
        rwa [show decide (SI.i m = SI.i n) = decide (m = n) from decide_eq_decide.mpr ⟨fun e => by cases e; rfl, fun e => by rw [e]⟩]
  rc := fun {X pins σ H s x y u v a b} A hK I hu r1 r2 h1 h2 => by
    cases a with
    | s p => cases b with
      | s q =>
        obtain ⟨rfl, _⟩ := h1
        obtain ⟨rfl, _⟩ := h2
        have := eqStr.rc (K := K) (a := p) (b := q) A hK I hu r1 r2 rfl rfl
        rwa [show decide (SI.s p = SI.s q) = decide (p = q) from decide_eq_decide.mpr ⟨fun e => by cases e; rfl, fun e => by rw [e]⟩]
      | i n =>
        obtain ⟨rfl, _⟩ := h1
        have h2 : y = .int n := h2
        subst h2
        obtain ⟨t, rfl⟩ := r1
        obtain ⟨t', rfl⟩ := r2
        rw [decide_eq_false (fun e => by cases e)]
        exact ⟨SeqAt.RcAt.str_int _ _ _ _, SeqAt.RcNeAt.str_int _ _ _ _⟩
    | i m => cases b with
      | s q =>
        obtain ⟨rfl, _⟩ := h2
        have h1 : x = .int m := h1
        subst h1
        obtain ⟨t, rfl⟩ := r1
        obtain ⟨t', rfl⟩ := r2
        rw [decide_eq_false (fun e => by cases e)]
        exact ⟨SeqAt.RcAt.int_str _ _ _ _, SeqAt.RcNeAt.int_str _ _ _ _⟩
      | i n =>
        have := eqInt.rc (K := K) (a := m) (b := n) A hK I hu r1 r2 h1 h2
        rwa [show decide (SI.i m = SI.i n) = decide (m = n) from decide_eq_decide.mpr ⟨fun e => by cases e; rfl, fun e => by rw [e]⟩]
noncomputable instance reSI : RpE SI := ⟨0, fun _ => eqSI⟩
section
variable {K : PySem.W.Frag} {σ : St} {G H : Hp} {ta tb te td ti : TE} {α : Type} [Rp α] {md : Option SI} {rest : TS} {D : Ends} {i : Nat}
end
section
variable {K : PySem.W.Frag} {σ : St} {G H : Hp} {ta tb te td ti : TE} {α : Type} [Rp α]
theorem fv_listT {la : Option (Tp α)} (ea : EV K ta σ G la) : FV K (tCB (fun xs H Q => ∃ p ys, xs = [.ref p] ∧ (SqL K H p ys ∨ SqT K H p ys) ∧ ∀ l, H l = none → Q (.ref l) (upd H l (.lst ys))) (tCons ta tNil)) σ G (la.bind fun a => some a.l) := by
  intro G1 s1 c hc H sH Q k
  obtain ⟨a, ha, hc⟩ := Option.bind_eq_some_iff.mp hc
  cases hc
  refine ea G1 s1 a ha H sH _ fun v G2 H2 x2 r2 => ?_
  obtain ⟨l, xs, rfl, h, z, p⟩ := r2
  exact ⟨l, xs, rfl, .inr (x2.gh.tup h), fv_of x2.gh z p (FV.mono x2 k)⟩
end
theorem bt_sum : bootBuiltins "sum" = some (.builtin "sum") := by decide +kernel
theorem ints_atF {ns : List Int} {its : List Value} (r : Vals (ns.map V.int) its) {i : Nat} {v : Value} (h : its.toArray[i]? = some v) : ∃ t, v = .int (ns.getD i 0) t := by
  have h : its[i]? = some v := by simpa using h
  have hl := r.length
  rw [List.length_map] at hl
  obtain ⟨hi, _⟩ := List.getElem?_eq_some_iff.mp h
  have e : (ns.map V.int)[i]? = some (V.int (ns.getD i 0)) := by
    have : i < ns.length := by omega
    simp [this]
  obtain ⟨u, hu, ru⟩ := r.get e
  rw [h] at hu
  cases hu
  exact ru
theorem preSum_take (ns : List Int) : ∀ j, j ≤ ns.length → preSum (fun i => ns.getD i 0) j = (ns.take j).sum
  | 0, _ => by simp [preSum]
  | j + 1, h => by
    have hj : j < ns.length := by omega
    show preSum (fun i => ns.getD i 0) j + ns.getD j 0 = _
    rw [preSum_take ns j (by omega), List.take_succ, List.sum_append]
    simp [hj]
theorem paired_intsR {K : PySem.W.Frag} {H : Hp} : ∀ {xs : List V} {ns : List Int}, Paired (Rp.rel K H) xs ns → xs = ns.map V.int
  | _, _, .nil => rfl
  | _, _, .cons h t => by
    cases h
    rw [List.map_cons, paired_intsR t]
section
variable {K : PySem.W.Frag} {σ : St} {G H : Hp} {ta tb te td ti : TE} {α : Type} [Rp α]
end
structure Mp (α : Type) where
  l : List (Int × α)
noncomputable def RelE (K : PySem.W.Frag) {α : Type} [Rp α] (H : Hp) (kv : Key × V) (q : Int × α) : Prop := kv.1 = .inl q.1 ∧ Rp.rel K H kv.2 q.2
noncomputable instance rpMp {α : Type} [Rp α] : Rp (Mp α) := ⟨fun K H v a => ∃ p kvs, v = .ref p ∧ H p = some (.dK kvs) ∧ Paired (RelE K H) kvs a.l,
  fun s ⟨p, kvs, e, h, pr⟩ => ⟨p, kvs, e, s _ _ h, Paired.imp' (fun _ _ r => ⟨r.1, Rp.mono s r.2⟩) pr⟩⟩
section
variable {K : PySem.W.Frag} {σ : St} {G H G1 H1 G0 H0 : Hp} {α β : Type} [Rp α] [Rp β] {td te ti : TE} {rest : TS} {D : Ends} {i : Nat} {a : Mp α} {v : V} {p q : Addr} {kvs : List (Key × V)}
end
section
variable {K : PySem.W.Frag} {σ : St} {G H : Hp} {α : Type} [Rp α] {te : TE} {rest : TS} {D : Ends} {i : Nat} {a : α} {m : Option α} {as : List α} {v : V} {p : Addr} {vs : List V}
end
end L2
set_option Elab.async false
set_option linter.all false
set_option maxRecDepth 100000
set_option maxHeartbeats 4000000
namespace L2
open PySem PySem.Spec PyProof.Rows
section
variable {X : Cx} {e : Expr} {te : TE} {lo hi : Option Expr} {se : Expr} {tl th ts : TO} {pos p2 : Pos}
end
section
variable {K : PySem.W.Frag} {σ : St} {G H : Hp} {ta t3 : TE} {t1 t2 : TO} {α : Type} [Rp α] {m1 m2 : Option (Option Int)} {c : Int}
end
end L2
set_option Elab.async false
set_option linter.all false
set_option maxRecDepth 100000
set_option maxHeartbeats 4000000
namespace L2
open PySem PySem.Spec PyProof.Rows
section
variable {K : PySem.W.Frag} {σ : St} {G : Hp} {α β γ : Type} [Rp α] [Rp β] [Rp γ] {ta tb : TE}
end
end L2
namespace L2
open PySem PySem.Spec PyProof.Rows
section
variable {K : PySem.W.Frag} {σ : St} {G H : Hp} {ta tb te : TE} {rest : TS} {D : Ends} {i : Nat} {v : V} {p : Addr} {vs : List V}
end
end L2
set_option Elab.async false
set_option linter.all false
set_option maxRecDepth 100000
set_option maxHeartbeats 4000000
namespace L2
open PySem PySem.Spec PyProof.Rows
section
variable {K : PySem.W.Frag} {σ : St} {G : Hp} {ta : TE}
end
end L2
set_option Elab.async false
set_option linter.all false
set_option maxRecDepth 100000
set_option maxHeartbeats 4000000
namespace L2
open PySem PySem.Spec PyProof.Rows
noncomputable def rCatTp (K : PySem.W.Frag) : R2 := fun x y H Q => ∃ a b xs ys, x = .ref a ∧ y = .ref b ∧ SqT K H a xs ∧ SqT K H b ys ∧ xs.length + ys.length ≤ sizeLine ∧ (xs = [] → Q (.ref b) H) ∧ (ys = [] → Q (.ref a) H) ∧ ∀ p, H p = none → Q (.ref p) (upd H p (.tup (xs ++ ys)))
theorem op_catTp {X : Cx} {K : PySem.W.Frag} (h : X.K = K) : OpR X (binaryOp .Add) (rCatTp K) := by
  subst h
  intro pins s σ H x y v u Q I rx ry h
  obtain ⟨t, b, xs, ys, rfl, rfl, h1, h2, hz, q0, q1, q2⟩ := h
  cases rx
  cases ry
  obtain ⟨vs, rv, ht, _⟩ := I.tuple h1
  obtain ⟨ws, rw', hb, _⟩ := I.tuple h2
  have l1 := rv.length
  have l2 := rw'.length
  obtain ⟨⟨cls, dd, data, sl⟩, ho, hc, n, hd⟩ := id ht
  obtain ⟨⟨cls2, dd2, data2, sl2⟩, ho2, hc2, n2, hd2⟩ := id hb
  simp only at hc hd hc2 hd2
  subst hc hd hc2 hd2
  have e : vs.toArray ++ ws.toArray = (vs ++ ws).toArray := by simp
  by_cases hv : vs = []
  · have hx : xs = [] := List.length_eq_zero_iff.mp (by rw [l1, hv]; rfl)
    exact concat_meets ⟨_, ho, rfl⟩ ⟨_, ho2, rfl⟩ noFill_tuple_add seq_tuple_add PySem.F.slot_tuple_add PySem.F.entry_tuple_add (PySem.F.args_tuple_add_2 _ _)
      (tuple_addW0 t b vs.toArray ws.toArray n n2 dd dd2 sl sl2 (by simp [hv])) ⟨ho, ho2, ⟨.ref b, H, I.tok _, rfl, q0 hx⟩⟩
  · by_cases hw : ws = []
    · have hy : ys = [] := List.length_eq_zero_iff.mp (by rw [l2, hw]; rfl)
      exact concat_meets ⟨_, ho, rfl⟩ ⟨_, ho2, rfl⟩ noFill_tuple_add seq_tuple_add PySem.F.slot_tuple_add PySem.F.entry_tuple_add (PySem.F.args_tuple_add_2 _ _)
        (tuple_addW1 t b vs.toArray ws.toArray n n2 dd dd2 sl sl2 (by simpa using hv) (by simp [hw])) ⟨ho, ho2, ⟨.ref t, H, I.tok _, rfl, q1 hy⟩⟩
    · refine concat_meets ⟨_, ho, rfl⟩ ⟨_, ho2, rfl⟩ noFill_tuple_add seq_tuple_add PySem.F.slot_tuple_add PySem.F.entry_tuple_add (PySem.F.args_tuple_add_2 _ _)
        (tuple_addW2 t b vs.toArray ws.toArray n n2 dd dd2 sl sl2 (by simpa using hv) (by simpa using hw) (by rw [List.size_toArray, List.size_toArray]; omega)) ⟨ho, ho2, ?_⟩
      rw [e]
      exact ⟨.ref s.heap.objs.size, _, I.laid (t' := s.toks) (o := .tup (xs ++ ys)) (fun b ob q => Heap.get?_push_of_some _ q) (Nat.le_refl _) ⟨by rw [List.length_append]; exact hz, vs ++ ws, rv.append rw', IsTup.new _ _⟩, rfl, q2 _ (I.hok.fresh (Nat.le_refl _))⟩
noncomputable def catTO {α : Type} (a b : Tp α) : Option (Tp α) := if a.l.length + b.l.length ≤ sizeLine then some ⟨a.l ++ b.l⟩ else none
section
variable {K : PySem.W.Frag} {σ : St} {G : Hp} {α : Type} [Rp α] {ta tb : TE}
theorem ev_catTp {m1 m2 : Option (Tp α)} (ea : EV K ta σ G m1) (eb : EV K tb σ G m2) : EV K (tOp (rCatTp K) ta tb) σ G (m1.bind fun a => m2.bind fun b => catTO a b) :=
  ev_bin (fun {G' H' x y a b c} s ra rb e Q k => by
    obtain ⟨hz, rfl⟩ := ite_some e
    obtain ⟨l, xs, rfl, h, z, p⟩ := ra
    obtain ⟨l', ys, rfl, h', z', p'⟩ := rb
    have e1 := Paired.length p
    have e2 := Paired.length p'
    refine ⟨l, l', xs, ys, rfl, rfl, s.tup h, s.tup h', by omega, fun hx => ?_, fun hy => ?_, fun q hq => ?_⟩
    · have ea : a.l = [] := List.length_eq_zero_iff.mp (by rw [← e1, hx]; rfl)
      exact k _ _ _ (.refl s) ⟨l', ys, rfl, h', z', by show Paired _ ys (a.l ++ b.l); rw [ea]; exact p'⟩
    · have eb : b.l = [] := List.length_eq_zero_iff.mp (by rw [← e2, hy]; rfl)
      exact k _ _ _ (.refl s) ⟨l, xs, rfl, h, z, by show Paired _ xs (a.l ++ b.l); rw [eb, List.append_nil]; exact p⟩
    · have sn := Same.new (o := .tup (xs ++ ys)) (s.free hq)
      exact k _ _ _ (.new s hq) ⟨q, xs ++ ys, rfl, SqT.of upd_same, by rw [List.length_append]; omega, Paired.app (Paired.imp' (fun _ _ r => Rp.mono sn r) p) (Paired.imp' (fun _ _ r => Rp.mono sn r) p')⟩) ea eb
end
end L2
set_option Elab.async false
set_option linter.all false
set_option maxRecDepth 100000
namespace L2
open PySem PySem.Spec PyProof.Rows
section
variable {X : Cx} {pins : List (Addr × Obj)} {σ : St}
end
end L2
set_option Elab.async false
set_option linter.all false
set_option maxRecDepth 100000
set_option maxHeartbeats 4000000
namespace L2
open PySem PySem.Spec PyProof.Rows
end L2
set_option Elab.async false
set_option linter.all false
set_option maxRecDepth 100000
set_option maxHeartbeats 4000000
namespace L2
open PySem PySem.Spec PyProof.Rows
section
variable {prog : Program} {w : World} {A : Around} {E : Value → Shared → Prop} {s : Shared}
end
end L2
set_option Elab.async false
set_option linter.all false
set_option maxRecDepth 100000
set_option maxHeartbeats 4000000
namespace L2
open PySem PySem.Spec PyProof.Rows
section
variable {prog : Program} {w : World} {A : Around} {R : Result → Shared → Prop} {I : Addr} {fp wr : List Addr} {G : Array GenState → Array GenState → Prop} {n : Nat} {P : Nat → Value → Prop} {St : Nat → Shared → Prop}
end
section
variable {prog : Program} {w : World} {A : Around} {E : Value → Shared → Prop} {s : Shared}
end
end L2
set_option Elab.async false
set_option linter.all false
set_option maxRecDepth 100000
set_option maxHeartbeats 4000000
namespace L2
open PySem PySem.Spec PyProof.Rows
section
variable {prog : Program} {w : World} {A : Around} {E : Value → Shared → Prop} {s : Shared}
end
end L2
set_option Elab.async false
set_option linter.all false
set_option maxRecDepth 100000
set_option maxHeartbeats 4000000
namespace L2
open PySem PySem.Spec PyProof.Rows
section
variable {prog : Program} {w : World} {A : Around} {E : Value → Shared → Prop} {s : Shared}
end
end L2
set_option Elab.async false
set_option linter.all false
set_option maxRecDepth 100000
set_option maxHeartbeats 4000000
namespace L2
open PySem PySem.Spec PyProof.Rows
section
variable {prog : Program} {w : World} {A : Around} {E : Value → Shared → Prop} {s : Shared} {I a T : Addr} {es xs : Array (Int × Value)} {ep : Nat} {t : SetTable} {ks : List Key}
end
end L2
set_option Elab.async false
set_option linter.all false
set_option maxRecDepth 100000
set_option maxHeartbeats 4000000
namespace L2
open PySem PySem.Spec PyProof.Rows
section
variable {prog : Program} {w : World} {A : Around} {E : Value → Shared → Prop} {s : Shared} {a : Addr} {es : Array (Int × Value)} {ep : Nat} {t : SetTable} {ks : List Key}
end
end L2
set_option Elab.async false
set_option linter.all false
set_option maxRecDepth 100000
set_option maxHeartbeats 4000000
namespace L2
open PySem PySem.Spec PyProof.Rows
section
variable {X : Cx} {pins : List (Addr × Obj)} {σ : List (Option V)} {H : Hp} {s s' : Shared}
theorem Inv.same (I : Inv X pins σ H s) (e1 : s'.heap = s.heap) (e2 : s'.gens = s.gens) (e3 : s'.os = s.os) : Inv X pins σ H s' := by
  obtain ⟨h, g, d, t, o⟩ := s
  obtain ⟨h', g', d', t', o'⟩ := s'
  dsimp only at e1 e2 e3
  subst e1; subst e2; subst e3
  exact ⟨I.ok, I.os, I.bare, I.base, I.loc, I.cell, I.free, I.freeC, I.pin, I.hok, I.len⟩
end
section
variable {K : PySem.W.Frag} {σ : St} {G : Hp} {ta tb : TE} {w : World}
end
end L2
set_option Elab.async false
set_option linter.all false
set_option maxRecDepth 100000
set_option maxHeartbeats 4000000
namespace L2
open PySem PySem.Spec PyProof.Rows
end L2
set_option Elab.async false
set_option linter.all false
set_option maxRecDepth 100000
set_option maxHeartbeats 4000000
namespace L2
open PySem PySem.Spec PyProof.Rows
end L2
set_option Elab.async false
set_option linter.all false
set_option maxRecDepth 100000
set_option maxHeartbeats 4000000
namespace L2
open PySem PySem.Spec PyProof.Rows
section
variable {prog : Program} {w : World} {A : Around} {E : Value → Shared → Prop} {s : Shared}
end
end L2
set_option Elab.async false
set_option linter.all false
set_option maxRecDepth 100000
set_option maxHeartbeats 4000000
namespace L2
open PySem PySem.Spec PyProof.Rows
section
variable {prog : Program} {w : World} {A : Around} {E : Value → Shared → Prop} {s : Shared}
end
end L2
set_option Elab.async false
set_option linter.all false
set_option maxRecDepth 100000
set_option maxHeartbeats 4000000
namespace L2
open PySem PySem.Spec PyProof.Rows
section
variable {prog : Program} {w : World} {A : Around} {E : Value → Shared → Prop} {s : Shared}
end
end L2
set_option Elab.async false
set_option linter.all false
set_option maxRecDepth 100000
set_option maxHeartbeats 4000000
namespace L2
open PySem PySem.Spec PyProof.Rows
section
variable {prog : Program} {w : World} {A : Around} {E : Value → Shared → Prop} {s : Shared}
end
end L2
set_option Elab.async false
set_option linter.all false
set_option maxRecDepth 100000
set_option maxHeartbeats 4000000
namespace L2
open PySem PySem.Spec PyProof.Rows
section
variable {K : PySem.W.Frag} {σ : St} {G : Hp} {ta tb : TE} {w : World}
end
end L2
set_option Elab.async false
set_option linter.all false
set_option maxRecDepth 100000
set_option maxHeartbeats 4000000
namespace L2
open PySem PySem.Spec PyProof.Rows
section
variable {K : PySem.W.Frag} {σ : St} {G H G0 H0 : Hp} {α β : Type} [Rp α] [Rp β] {ta td ti : TE} {rest : TS} {D : Ends} {i : Nat} {a : Mp α} {v : V} {p : Addr} {kvs : List (Key × V)}
end
section
variable {K : PySem.W.Frag} {σ : St} {G : Hp} {α : Type} [Rp α] {ta : TE}
end
end L2
set_option Elab.async false
set_option linter.all false
set_option maxRecDepth 100000
set_option maxHeartbeats 4000000
namespace L2
open PySem PySem.Spec PyProof.Rows
section
variable {K : PySem.W.Frag} {σ : St} {G H : Hp} {α : Type} [Rp α] {rest : TS} {D : Ends} {i : Nat} {as as' : List α} {v : V} {p : Addr} {vs : List V}
end
end L2
set_option Elab.async false
set_option linter.all false
set_option maxRecDepth 100000
set_option maxHeartbeats 4000000
namespace L2
open PySem PySem.Spec PyProof.Rows
noncomputable def rExtendT (K : PySem.W.Frag) : V → List V → Hp → VK → Prop := fun x vs H Q => ∃ l b xs zs, x = .ref l ∧ vs = [.ref b] ∧ H l = some (.lst xs) ∧ SqT K H b zs ∧ xs.length + zs.length ≤ sizeLine ∧ Q .non (upd H l (.lst (xs ++ zs)))
theorem mt_extendT {X : Cx} {K : PySem.W.Frag} (hK : X.K = K) : MtM X "list.extend" (rExtendT K) := by
  subst hK
  intro pins s σ H x vs v us Q I rx rv h
  obtain ⟨l, b, xs, zs, rfl, rfl, hH, hB, hz, q⟩ := h
  cases rx
  obtain ⟨u, rfl, ru⟩ := rv.one
  cases ru
  obtain ⟨z, its, n, r, hl, e⟩ := I.lstM hH
  obtain ⟨its2, r2, ⟨o2, g2, c2, n2, d2⟩, _⟩ := I.tuple hB
  have h1 := r.length
  have h2 := r2.length
  have hsz : its.toArray.size + its2.toArray.size ≤ sizeLine := by rw [List.size_toArray, List.size_toArray]; omega
  refine wpAny_call_entry F.slot_list_extend ⟨_, e, rfl⟩ F.entry_list_extend ?_ (F.args_list_extend_2 _ _)
  unfold Builtin.«list.extend»
  refine wpAny_bind (wpAny_pure ?_)
  dsimp only
  unfold Builtin.List.listExtendWith
  refine wpAny_bind (wpAny_typeOf (T := "tuple") ⟨o2, g2, c2⟩ ?_)
  have ht : (Value.type "tuple" == Value.type "tuple") = true := by rfl
  rw [if_pos (by rw [ht]; simp)]
  refine wpAny_bind (listItems_at g2 d2 (wpAny_bind (listItems_at e rfl ?_)))
  rw [if_neg (by rw [notLongL hsz, Bool.and_false]; exact Bool.false_ne_true)]
  refine wpAny_bind (listUpdate_at e rfl ?_ (by omega) (by rw [Array.size_append]; omega))
  refine wpAny_pure ⟨_, rfl, .non, _, I.lset (its' := its ++ its2) (t' := s.toks) hH e (by simp) (r.append r2) ?_, rfl, q⟩
  rw [List.length_append]
  omega
section
variable {K : PySem.W.Frag} {σ : St} {G H : Hp} {α : Type} [Rp α] {te : TE} {rest : TS} {D : Ends} {i : Nat} {m : Option (Tp α)} {b : Tp α} {as as' : List α} {v : V} {p : Addr} {vs : List V}
end
structure MpS (α : Type) where
  l : List (Str × α)
noncomputable def RelS (K : PySem.W.Frag) {α : Type} [Rp α] (H : Hp) (kv : Key × V) (q : Str × α) : Prop := kv.1 = .inr q.1 ∧ Rp.rel K H kv.2 q.2
noncomputable instance rpMpS {α : Type} [Rp α] : Rp (MpS α) := ⟨fun K H v a => ∃ p kvs, v = .ref p ∧ H p = some (.dK kvs) ∧ Paired (RelS K H) kvs a.l,
  fun s ⟨p, kvs, e, h, pr⟩ => ⟨p, kvs, e, s _ _ h, Paired.imp' (fun _ _ r => ⟨r.1, Rp.mono s r.2⟩) pr⟩⟩
section
variable {K : PySem.W.Frag} {σ : St} {G H G1 H1 G0 H0 : Hp} {α β : Type} [Rp α] [Rp β] {td te ti : TE} {rest : TS} {D : Ends} {i : Nat} {a : MpS α} {v : V} {p q : Addr} {kvs : List (Key × V)}
end
section
variable {X : Cx} {i o : Expr} {ty td : TE} {pos : Pos}
end
end L2
set_option Elab.async false
set_option linter.all false
set_option maxRecDepth 100000
set_option maxHeartbeats 4000000
namespace L2
open PySem PySem.Spec PyProof.Rows
section
variable {prog : Program} {w : World} {A : Around} {E : Value → Shared → Prop} {s : Shared}
end
end L2
set_option Elab.async false
set_option linter.all false
set_option maxRecDepth 100000
set_option maxHeartbeats 4000000
namespace L2
open PySem PySem.Spec PyProof.Rows
section
variable {prog : Program} {w : World} {A : Around} {E : Value → Shared → Prop} {s : Shared} {z TI TO : Addr} {f0 f1 : Value}
end
end L2
set_option Elab.async false
set_option linter.all false
set_option maxRecDepth 100000
set_option maxHeartbeats 4000000
namespace L2
open PySem PySem.Spec PyProof.Rows
section
variable {prog : Program} {w : World} {A : Around} {E : Value → Shared → Prop} {s : Shared}
end
end L2
set_option Elab.async false
set_option linter.all false
set_option maxRecDepth 100000
set_option maxHeartbeats 4000000
namespace L2
open PySem PySem.Spec PyProof.Rows
section
variable {prog : Program} {w : World} {A : Around} {E : Value → Shared → Prop} {s : Shared}
end
end L2
set_option Elab.async false
set_option linter.all false
set_option maxRecDepth 100000
set_option maxHeartbeats 4000000
namespace L2
open PySem PySem.Spec PyProof.Rows
section
variable {K : PySem.W.Frag} {σ : St} {G H G0 H0 : Hp} {α β : Type} [Rp α] [Rp β] {ta tb : TE}
end
end L2
set_option Elab.async false
set_option linter.all false
set_option maxRecDepth 100000
set_option maxHeartbeats 4000000
namespace L2
open PySem PySem.Spec PyProof.Rows
noncomputable def getC : List (Str × Int) → Str → Option Int
  | [], _ => none
  | (y, i) :: r, x => cond (decide (y = x)) (some i) (getC r x)
noncomputable def EntC : List DictEntry → List (Str × Int) → Prop
  | [], [] => True
  | e :: es, q :: l => (∃ t u, e.key = .str q.1 t ∧ e.val = .int q.2 u) ∧ EntC es l
  | _, _ => False
structure CDict (w : World) (K : PySem.W.Frag) (a : Addr) (l : List (Str × Int)) : Prop where
  lo : (a == sysModules) = false
  ex : ∃ es n, K.lookup a = some ⟨.type "dict", none, .dict es n, #[]⟩ ∧ PySem.W.KeysLit w.params es.toList ∧ EntC es.toList l
theorem find_ent : ∀ {es : List DictEntry} {l : List (Str × Int)} (x : Str), EntC es l →
    match getC l x with
    | some i => ∃ u, (es.find? fun e => Value.isStrOf x e.key).map (·.val) = some (.int i u)
    | none => (es.find? fun e => Value.isStrOf x e.key).map (·.val) = none
  | [], [], x, _ => rfl
  | e :: es, (y, i) :: l, x, ⟨⟨t, u, h1, h2⟩, r⟩ => by
    have ih := find_ent x r
    have hk : Value.isStrOf x e.key = decide (y = x) := by
      rw [h1]
      show Value.isStrOf x (.str y t) = _
      by_cases q : y = x
      · subst q; simp [Value.isStrOf]
      · rw [decide_eq_false q]
        simp [Value.isStrOf, q]
    unfold getC
    rw [List.find?_cons, hk]
    by_cases q : y = x
    · rw [decide_eq_true q]
      exact ⟨u, by rw [← h2]; rfl⟩
    · rw [decide_eq_false q]
      exact ih
section
variable {X : Cx} {i o : Expr} {ty : TE} {pos : Pos} {a : Addr} {w : World} {K : PySem.W.Frag} {l : List (Str × Int)}
theorem CDict.map {prog : Program} {h : Heap} (C : CDict w K a l) (X : K.In h) : ∃ f, h.MapOf (strKind prog w) a f ∧ ∀ x, match getC l x with
    | some i => ∃ u, f x = some (.int i u)
    | none => f x = none := by
  obtain ⟨es, n, hl, hk, he⟩ := C.ex
  refine ⟨_, PySem.W.mapOf_K X hl hk, fun x => ?_⟩
  have := find_ent x he
  obtain ⟨es⟩ := es
  show match getC l x with
    | some i => ∃ u, findBy Value.isStrOf _ x = some (.int i u)
    | none => findBy Value.isStrOf _ x = none
  unfold findBy
  rw [List.find?_toArray]
  exact this
noncomputable def tInC (l : List (Str × Int)) (ty : TE) : TE := fun σ H Q => ty σ H fun y H1 => ∃ z, y = .str z ∧ Q (.bl (getC l z).isSome) H1
noncomputable def tGetC (l : List (Str × Int)) (ty : TE) : TE := fun σ H Q => ty σ H fun y H1 => ∃ z v, y = .str z ∧ getC l z = some v ∧ Q (.int v) H1
theorem pc_inC (hw : X.w = w) (hK : X.K = K) (C : CDict w K a l) (hi : PE X i ty) (ho : PE X o (tC (.ref a))) : PC X .In i o (tInC l ty) := by
  subst hw hK
  intro pins s σ H Q I h
  refine thn (hi pins s σ H _ I h) fun iv s1 ⟨y, H1, I1, ry, z, ey, q1⟩ => thn (ho pins s1 σ H1 (fun v H' => v = .ref a ∧ H' = H1) I1 ⟨rfl, rfl⟩) fun u s2 ⟨x, H2, I2, rx, e1, e2⟩ => ?_
  subst ey e1 e2
  obtain ⟨t, rfl⟩ := ry
  obtain rfl : u = Value.ref a := rx
  obtain ⟨f, hf, hx⟩ := C.map (prog := X.prog) (fun b o e => I2.kIn b o e)
  refine wpAny_in_of (strKind_is X.prog X.w z t) C.lo hf ⟨.bl (f z).isSome, H2, I2.tok _, rfl, ?_⟩
  have hz := hx z
  cases e : getC l z with
  | some i =>
    rw [e] at hz q1
    obtain ⟨u, hz⟩ := hz
    rw [hz]
    exact q1
  | none =>
    rw [e] at hz q1
    rw [show f z = none from hz]
    exact q1
theorem pe_inC (hw : X.w = w) (hK : X.K = K) (C : CDict w K a l) (hi : PE X i ty) (ho : PE X o (tC (.ref a))) (hm : behindInMarks .In o = false) : PE X (.Compare i [.In] [o] pos) (tInC l ty) := pe_cmp (pc_inC hw hK C hi ho) hm
theorem pe_getC (hw : X.w = w) (hK : X.K = K) (C : CDict w K a l) (ho : PE X o (tC (.ref a))) (hi : PE X i ty) (hs : NoSl i) : PE X (.Subscript o i pos) (tGetC l ty) := by
  subst hw hK
  intro pins s σ H Q I h
  refine subD_of PySem.F.slot_dict_getitem.lookup hs (thn (ho pins s σ H (fun v H' => v = .ref a ∧ H' = H) I ⟨rfl, rfl⟩) fun u s1 ⟨x, H1, I1, rx, e1, e2⟩ => ?_)
  subst e1 e2
  refine thn (hi pins s1 σ H1 _ I1 h) fun iv s2 ⟨y, H2, I2, ry, z, v, ey, g, q2⟩ => ?_
  subst ey
  obtain ⟨t, rfl⟩ := ry
  obtain rfl : u = Value.ref a := rx
  obtain ⟨f, hf, hx⟩ := C.map (prog := X.prog) (fun b o e => I2.kIn b o e)
  have hz := hx z
  rw [g] at hz
  obtain ⟨u, hz⟩ := hz
  exact ⟨hf.typeIs, wpAny_getItem_of (strKind_is X.prog X.w z t) hf hz ⟨.int v, H2, I2.tok _, ⟨u, rfl⟩, q2⟩⟩
end
section
variable {K : PySem.W.Frag} {σ : St} {G : Hp} {ty : TE} {l : List (Str × Int)}
theorem ev_inC {mx : Option Str} (e : EV K ty σ G mx) : EV K (tInC l ty) σ G (mx.bind fun x => some (getC l x).isSome) := by
  intro G1 s1 c hc H sH Q k
  obtain ⟨x, hx, hc⟩ := Option.bind_eq_some_iff.mp hc
  cases hc
  refine e G1 s1 x hx H sH _ fun v G2 H2 x2 r2 => ?_
  exact ⟨x, r2.1, k _ G2 H2 x2 rfl⟩
theorem ev_getC {mx : Option Str} (e : EV K ty σ G mx) : EV K (tGetC l ty) σ G (mx.bind fun x => getC l x) := by
  intro G1 s1 c hc H sH Q k
  obtain ⟨x, hx, hc⟩ := Option.bind_eq_some_iff.mp hc
  refine e G1 s1 x hx H sH _ fun v G2 H2 x2 r2 => ?_
  exact ⟨x, c, r2.1, hc, k _ G2 H2 x2 rfl⟩
end
end L2
set_option Elab.async false
set_option linter.all false
set_option maxRecDepth 100000
set_option maxHeartbeats 4000000
namespace HT
open PySem PySem.Spec PyProof.Rows
section
variable {prog : Program} {w : World} {A : Around} {E : Value → Shared → Prop} {s : Shared}
theorem getItem_tuple_all {t sl : Addr} {items : Array Value} {vl vu : Value} {lo hi : Option Int} {Q : Value → Shared → Prop} (ht : IsTup s.heap t items) (hs : s.heap.IsSliceOf sl vl vu .none) (pl : IsPart vl lo) (pu : IsPart vu hi)
    (hw : sIx items.size 0 lo = 0 ∧ sIx items.size items.size hi = items.size) (h : Q (.ref t) s) : wpAny (model prog w) A (getItem (.ref t) (.ref sl)) Q E s := by
  obtain ⟨os, hos, hcs, hds⟩ := id hs
  have hTs : s.TypeIs (.ref sl) "slice" := ⟨os, hos, hcs⟩
  unfold getItem
  try with_reducible refine wpAny_holding ?_
  first | refine wpAny_bind (wpAny_pure ?_) | skip
  refine wpAny_bind (wpAny_sequenceKey ht.typeIs (by decide) ?_)
  refine wpAny_bind (wpAny_callSpecial?_slot (name := Str.ofString "__getitem__") ht.typeIs PyProof.Rows.slot_tuple_getitem (wpAny_call_entry PyProof.Rows.slot_tuple_getitem ht.typeIs entry_tuple_getitem ?_ (args_tuple_getitem _ _)))
  show wpAny _ _ (Builtin.Tuple.tupleItemsOf (.ref t) >>= _) _ _ s
  refine wpAny_bind (tupleItemsOf_ ht ?_)
  refine wpAny_bind (wpAny_typeOf hTs ?_)
  rw [if_pos (by decide)]
  refine wpAny_bind (sliceApplied_gen hs pl pu ?_)
  show wpAny _ _ (if (((sIx items.size 0 lo : Nat) : Int) == 0 && (1 : Int) == 1 && (sIx items.size items.size hi - sIx items.size 0 lo) == items.size) = true then _ else _) _ _ s
  rw [if_pos (by rw [hw.1, hw.2]; simp)]
  refine wpAny_bind ?_
  unfold Builtin.Tuple.tupleIsExact
  refine wpAny_bind (wpAny_typeOf ht.typeIs (wpAny_pure ?_))
  rw [if_pos (by decide)]
  refine wpAny_bind (wpAny_rule ?_)
  exact wpAny_pure ⟨_, rfl, wpAny_pure h⟩
end
end HT
namespace L2
open PySem PySem.Spec PyProof.Rows
noncomputable def rSlA (K : PySem.W.Frag) : V → Option Int → Option Int → Hp → VK → Prop := fun x lo hi H Q => ∃ a xs, x = .ref a ∧ SqT K H a xs ∧
  ((HT.sIx xs.length 0 lo = 0 ∧ HT.sIx xs.length xs.length hi = xs.length) → Q (.ref a) H) ∧
  (¬ (HT.sIx xs.length 0 lo = 0 ∧ HT.sIx xs.length xs.length hi = xs.length) → ∀ p, H p = none → Q (.ref p) (upd H p (.tup (cutV xs lo hi))))
theorem sl_tupA {X : Cx} {K : PySem.W.Frag} (h : X.K = K) : SlR X (rSlA K) := by
  subst h
  intro pins s σ H x v vl vu lo hi sl Q I rx hs pl pu h
  obtain ⟨a, xs, rfl, hx, q1, q2⟩ := h
  by_cases hw : HT.sIx xs.length 0 lo = 0 ∧ HT.sIx xs.length xs.length hi = xs.length
  · cases rx
    obtain ⟨its, r, ht, hz⟩ := I.tuple hx
    have hlen : its.toArray.size = xs.length := by rw [List.size_toArray]; exact r.length.symm
    exact ⟨"tuple", _, PyProof.Rows.slot_tuple_getitem.lookup, ht.typeIs, HT.getItem_tuple_all ht hs pl pu (by rw [hlen]; exact hw) ⟨.ref a, H, I, rfl, q1 hw⟩⟩
  · exact sl_tup pins s σ H _ v vl vu lo hi sl Q I rx hs pl pu ⟨a, xs, rfl, hx, hw, q2 hw⟩
section
variable {K : PySem.W.Frag} {σ : St} {G : Hp} {α : Type} [Rp α] {ta tb tc te : TE} {t1 t2 : TO} {sa sb sc : Option Str} {m1 m2 : Option (Option Int)}
theorem cutA_all {α : Type} {l : List α} {lo hi : Option Int} (h : HT.sIx l.length 0 lo = 0 ∧ HT.sIx l.length l.length hi = l.length) : cutA l lo hi = l := by
  unfold cutA
  rw [h.1, h.2]
  simp
theorem ev_sliceTA {ma : Option (Tp α)} (ea : EV K ta σ G ma) (e1 : OV t1 σ G m1) (e2 : OV t2 σ G m2) : EV K (tSl (rSlA K) ta t1 t2) σ G (ma.bind fun a => m1.bind fun lo => m2.bind fun hi => some (Tp.mk (cutA a.l lo hi))) := by
  intro G1 s1 c hc H sH Q k
  obtain ⟨a, ha, hc⟩ := Option.bind_eq_some_iff.mp hc
  obtain ⟨lo, hlo, hc⟩ := Option.bind_eq_some_iff.mp hc
  obtain ⟨hi, hhi, hc⟩ := Option.bind_eq_some_iff.mp hc
  cases hc
  refine ea G1 s1 a ha H sH _ fun v G2 H2 x2 r2 => ?_
  refine e1 G2 (s1.trans x2.gg) lo hlo H2 x2.gh _ fun G3 H3 x3 => ?_
  refine e2 G3 (s1.trans (x2.trans x3).gg) hi hhi H3 x3.gh _ fun G4 H4 x4 => ?_
  obtain ⟨l, xs, rfl, h, z, p⟩ := Rp.mono (x3.trans x4).gg r2
  have hl := Paired.length p
  refine ⟨l, xs, rfl, x4.gh.tup h, fun hw => ?_, fun hw q hq => ?_⟩
  · rw [hl] at hw
    rw [cutA_all hw] at k
    exact k _ G4 H4 ((x2.trans x3).trans x4) ⟨l, xs, rfl, h, z, p⟩
  · have hg : G4 q = none := x4.gh.free hq
    exact k _ (upd G4 q (.tup (cutV xs lo hi))) _ (((x2.trans x3).trans x4).trans (.new x4.gh hq)) ⟨q, _, rfl, .inl (.inl upd_same), Nat.le_trans (cutV_length _ _ _) z, Paired.imp' (fun _ _ r => Rp.mono (Same.new hg) r) (Paired.cut p lo hi)⟩
end
end L2
set_option Elab.async false
set_option linter.all false
set_option maxRecDepth 100000
set_option maxHeartbeats 4000000
namespace L2
open PySem PySem.Spec PyProof.Rows
section
variable {prog : Program} {w : World} {A : Around} {E : Value → Shared → Prop} {s : Shared}
end
end L2
set_option Elab.async false
set_option linter.all false
set_option maxRecDepth 100000
set_option maxHeartbeats 4000000
namespace L2
open PySem PySem.Spec PyProof.Rows
section
variable {prog : Program} {w : World} {A : Around} {E : Value → Shared → Prop} {s : Shared}
end
end L2
set_option Elab.async false
set_option linter.all false
set_option maxRecDepth 100000
set_option maxHeartbeats 4000000
namespace L2
open PySem PySem.Spec PyProof.Rows
section
variable {prog : Program} {w : World} {A : Around} {E : Value → Shared → Prop} {s : Shared}
end
end L2
set_option Elab.async false
set_option linter.all false
set_option maxRecDepth 100000
set_option maxHeartbeats 4000000
namespace L2
open PySem PySem.Spec PyProof.Rows
section
variable {K : PySem.W.Frag} {σ : St} {G H : Hp} {α β : Type} [Rp α] [Rp β] {ta tb : TE}
end
end L2
set_option Elab.async false
set_option linter.all false
set_option maxRecDepth 100000
set_option maxHeartbeats 4000000
namespace L2
open PySem PySem.Spec PyProof.Rows
section
variable {K : PySem.W.Frag} {σ : St} {G H : Hp} {ta tb te : TE} {rest : TS} {D : Ends} {i : Nat} {v : V} {p : Addr} {vs : List V} {β : Type} [Rp β]
end
end L2
set_option Elab.async false
set_option linter.all false
set_option maxRecDepth 100000
set_option maxHeartbeats 4000000
namespace L2
open PySem PySem.Spec PyProof.Rows
section
variable {K : PySem.W.Frag} {σ : St} {G : Hp} {α : Type} [Rp α] [DecidableEq α] {ta tb : TE} {ma : Option α} {ml : Option (List α)}
end
end L2
set_option Elab.async false
set_option linter.all false
set_option maxRecDepth 100000
set_option maxHeartbeats 4000000
namespace L2
open PySem PySem.Spec PyProof.Rows
theorem se_int {i : Int} {j : Nat} {p : Pos} {es : List Expr} {env : Env} : starEach (.Constant (.int i) j p :: es) env = (false, eval (.Constant (.int i) j p) env) :: starEach es env := by
  rw [starEach]
  intro _ _ h
  cases h
section
variable {X : Cx} {es : List Expr} {t : TA} {te : TE} {p : Pos}
theorem pa_cI {i : Int} {j : Nat} (hr : PA X es t) : PA X (.Constant (.int i) j p :: es) (tCons (tC (.int i)) t) := pa_cons pe_int hr se_int
end
end L2
set_option Elab.async false
set_option linter.all false
set_option maxRecDepth 100000
set_option maxHeartbeats 4000000
namespace L2
open PySem PySem.Spec PyProof.Rows
section
variable {K : PySem.W.Frag} {σ : St} {G H G1 H1 G0 H0 : Hp} {D : Ends} {p q l : Addr} {xs : List V} {rows : List (Tp SI)}
end
section
variable {K : PySem.W.Frag} {σ : St} {G H : Hp} {α B A : Type} [Rp α] [Rp B] [RpA A] {rest : TS} {D : Ends} {i : Nat} {as : List α} {v : V} {p : Addr} {vs : List V}
end
end L2
set_option Elab.async false
set_option linter.all false
set_option maxRecDepth 100000
set_option maxHeartbeats 4000000
namespace L2
open PySem PySem.Spec PyProof.Rows
noncomputable def Itv (K : PySem.W.Frag) (a : Addr) (n : Nat) : It :=
  ⟨fun i H => ∃ xs x, SqL K H a xs ∧ xs.length = n ∧ i < n ∧ xs[n - 1 - i]? = some x, fun i H x H' => H' = H ∧ ∀ xs, SqL K H a xs → xs[n - 1 - i]? = some x, fun i H => i = n ∧ ∃ xs, SqL K H a xs ∧ xs.length = n⟩
theorem turn_rev {P : Program} {w : World} {K : PySem.W.Frag} {tg : Expr} (a it : Addr) (n : Nat) : Turn P w K tg (Itv K a n) [it] it (fun i h => h.IsRevIter it a ((n : Int) - 1 - (i : Int))) where
  mem := by simp
  obj := fun i h st b hb => by
    have e : b = it := by simpa using hb
    subst e
    obtain ⟨o, e, c, d⟩ := st
    exact ⟨o, e, fun v z => by rw [d] at z; cases z⟩
  keep := fun i h h' st k => st.at fun o e => k it (by simp) o e
  item := by
    intro X hP hw hK hc i pins s σ H E I hf st hg
    subst hP hw hK
    obtain ⟨xs, x, hq, hn, hi, hx⟩ := hg
    obtain ⟨its, rv, p, hz⟩ := I.list hq
    obtain ⟨u, hu, ru⟩ := rv.get hx
    obtain ⟨f0, f1, f2, f3, f4, f5⟩ := hf it (by simp)
    have e : (n : Int) - 1 - (i : Int) = ((n - 1 - i : Nat) : Int) := by omega
    rw [e] at st
    refine wpAny_pyNext_rev_item st p.isList (x := u) (by simpa using hu) fun h' st' sb => ?_
    have I1 : Inv X pins σ H { s with heap := h' } := I.turned (t' := s.toks) (fun b o hb e => (sb.2 b hb).trans e) f0 f1 f3 f4 f5
    have e2 : ((n - 1 - i : Nat) : Int) - 1 = (n : Int) - 1 - ((i + 1 : Nat) : Int) := by omega
    rw [e2] at st'
    obtain ⟨o, e, c, d⟩ := id st'
    exact ⟨u, rfl, go_of (s := { s with heap := h' }) e c d (by decide) ⟨x, H, I1, ru, ⟨rfl, fun ys hy => by rw [I.list_inj hy hq]; exact hx⟩, st', fun b hb => (hf b hb).1⟩⟩
  done := by
    intro X hP hw hK hc i pins s σ H E I hf st hg
    subst hP hw hK
    obtain ⟨rfl, xs, hq, hn⟩ := hg
    obtain ⟨f0, f1, f2, f3, f4, f5⟩ := hf it (by simp)
    have e : (i : Int) - 1 - (i : Int) = -1 := by omega
    rw [e] at st
    exact wpAny_pyNext_rev_end (I.ok.hd hc) st fun h' eb => ⟨rfl, I.turned (t' := s.toks) (fun b o hb e => eb b o hb e) f0 f1 f3 f4 f5⟩
  self := fun _ _ _ _ _ st h => wpAny_pyIter_revIter st h
noncomputable def iRev (K : PySem.W.Frag) (ta : TA) : TI := fun σ H R => ta σ H fun vs H1 => ∃ a xs, vs = [.ref a] ∧ SqL K H1 a xs ∧ R (Itv K a xs.length) H1
theorem boot_reversed : bootBuiltins "reversed" = some (.type "reversed") := by decide +kernel
theorem pi_rev {X : Cx} {K : PySem.W.Frag} {tg a : Expr} {ta : TA} {p pos : Pos} (hK : X.K = K) (hg : Gl X "reversed") (hm : X.mg "reversed" = none) (ha : PA X [a] ta) (hs : starEach [a] X.env = [(false, eval a X.env)] := by rfl) :
    PI X tg (.Call (.Name "reversed" p) [a] [] pos) (iRev K ta) := by
  subst hK
  intro pins s σ H R I h
  refine Call_ (ld_blt I hg hm boot_reversed (PyProof.Rows.callWith_type1 (thn (ha pos pins s σ H _ I h) fun us s1 ⟨vs, H1, I1, r1, q1⟩ => ?_) (by rw [hs]; rfl) (by rfl)))
  obtain ⟨l, xs, e, hq, q⟩ := q1
  subst e
  obtain ⟨u1, rfl, r1q⟩ := vals1 r1
  obtain rfl : u1 = Value.ref l := r1q
  obtain ⟨its, rv, pl, _⟩ := I1.list hq
  have hl := rv.length
  refine call_reversed_list pl.isList ?_
  have st : (s1.heap.push (revObj l ((its.toArray.size : Int) - 1))).IsRevIter s1.heap.objs.size l ((xs.length : Int) - 1 - ((0 : Nat) : Int)) := ⟨_, Heap.get?_push_size _ rfl, rfl, by
    rw [List.size_toArray, ← hl]
    have e : ((xs.length : Int) - 1 - ((0 : Nat) : Int)) = (xs.length : Int) - 1 := by omega
    rw [e]
    rfl⟩
  refine wpAny_pyIter_revIter (s := { s1 with heap := s1.heap.push (revObj l ((its.toArray.size : Int) - 1)) }) st ?_
  have I2 : Inv X pins σ H1 { s1 with heap := s1.heap.push (revObj l ((its.toArray.size : Int) - 1)) } := I1.kept (t' := s1.toks) fun b o e => Heap.get?_push_of_some _ e
  refine ⟨s1.heap.objs.size, [s1.heap.objs.size], _, _, H1, rfl, I2, turn_rev l s1.heap.objs.size xs.length, st, fun b hb => ?_, q⟩
  rw [List.mem_singleton.mp hb]
  exact I1.fpOk (Nat.le_refl _) (I1.hok.fresh (Nat.le_refl _))
section
variable {K : PySem.W.Frag} {σ : St} {G : Hp} {α : Type} [Rp α] {ta : TE}
theorem Paired.rev {β : Type} {F : V → β → Prop} : ∀ {xs : List V} {as : List β}, Paired F xs as → Paired F xs.reverse as.reverse
  | _, _, .nil => .nil
  | _, _, .cons r t => by
    rw [List.reverse_cons, List.reverse_cons]
    exact Paired.app (Paired.rev t) (.cons r .nil)
theorem iw_rev {la : Option (List α)} (ea : EV K ta σ G la) : IW K (iRev K (tCons ta tNil)) σ G (la.bind fun a => some a.reverse) := by
  intro G1 s1 a ha H sH R k
  obtain ⟨b, hb, ha⟩ := Option.bind_eq_some_iff.mp ha
  cases ha
  refine ea G1 s1 b hb H sH _ fun v G2 H2 x2 r2 => ?_
  obtain ⟨l, xs, rfl, h, z, p⟩ := r2
  refine ⟨l, xs, rfl, .inl (x2.gh.rd h), k _ xs.reverse G2 H2 x2 ⟨fun i H' s hi => ?_, fun H' s => ?_, fun i H' x H'' s hi hy => ?_⟩ (by rw [List.length_reverse]; exact z) (Paired.rev p)⟩
  · rw [List.length_reverse] at hi
    exact ⟨xs, xs[xs.length - 1 - i]'(by omega), .inl (s.rd h), rfl, hi, List.getElem?_eq_getElem (by omega)⟩
  · rw [List.length_reverse]
    exact ⟨rfl, xs, .inl (s.rd h), rfl⟩
  · rw [List.length_reverse] at hi
    refine ⟨hy.1, ?_⟩
    rw [List.getElem?_reverse (by omega)]
    exact hy.2 xs (.inl (s.rd h))
end
end L2
set_option Elab.async false
set_option linter.all false
set_option maxRecDepth 100000
set_option maxHeartbeats 4000000
namespace L2
open PySem PySem.Spec PyProof.Rows
section
variable {prog : Program} {w : World} {A : Around} {E : Value → Shared → Prop} {s : Shared}
end
section
variable {K : PySem.W.Frag} {σ : St} {G : Hp} {α : Type} [Rp α] {ta tb : TE}
end
section
variable {prog : Program} {w : World} {A : Around} {E : Value → Shared → Prop} {s : Shared}
end
section
variable {K : PySem.W.Frag} {σ : St} {G : Hp} {α : Type} [Rp α] {ta tb : TE}
end
section
variable {K : PySem.W.Frag} {σ : St} {G : Hp} {ta tb : TE}
end
end L2
set_option Elab.async false
set_option linter.all false
set_option maxRecDepth 100000
set_option maxHeartbeats 4000000
namespace L2
open PySem PySem.Spec PyProof.Rows
noncomputable def siN : SI → Nt
  | .s x => .txt x
  | .i n => .int n
theorem siN_rel {K : PySem.W.Frag} {H : Hp} {v : V} : ∀ {a : SI}, Rp.rel K H v a → Rp.rel K H v (siN a)
  | .s x, ⟨e, z⟩ => by subst e; exact .txt x z
  | .i n, e => by
    have e : v = .int n := e
    subst e
    exact .int n
noncomputable instance tdSI : ToD SI := ⟨fun a => ToD.to (siN a), fun h => ToD.rel (siN_rel h)⟩
section
variable {K : PySem.W.Frag} {σ : St} {G : Hp} {te ta tb : TE}
end
end L2
set_option Elab.async false
set_option linter.all false
set_option maxRecDepth 100000
set_option maxHeartbeats 4000000
namespace L2
open PySem PySem.Spec PyProof.Rows
noncomputable def asTupD : D → Option (Tp D)
  | .tup l => some ⟨l⟩
  | _ => none
noncomputable def rSumG (K : PySem.W.Frag) : List V → Hp → VK → Prop := fun vs H Q => ∃ (l : Addr) (ns : List Int), vs = [.ref l] ∧ SqL K H l (ns.map V.int) ∧ Q (.int ns.sum) H
theorem call_sumG {X : Cx} {K : PySem.W.Frag} (hc : X.calm = true) (h : X.K = K) : CallR X (.builtin "sum") (rSumG K) := by
  subst h
  intro pins s σ H vs us Q I r h
  obtain ⟨l, ns, rfl, hl, q⟩ := h
  obtain ⟨u, rfl, ru⟩ := vals1 r
  cases ru
  obtain ⟨its, rv, pl, _⟩ := I.list hl
  have hL := pl.isList
  have hlt : l < s.heap.objs.size := by obtain ⟨_, e, _⟩ := hL; exact Heap.lt_size e
  have hlen := rv.length
  rw [List.length_map] at hlen
  refine call_sum_walkG (wpAny_pyIter_list hL ?_)
  refine ⟨_, _, _, _, _, _, fun i => ns.getD i 0, rfl, Walks.list (A := X.A.in1) (I.ok.hd hc) _ l (Nat.ne_of_lt hlt) its.toArray, ⟨⟨_, Heap.get?_push_size _ rfl, rfl, rfl⟩, hL.push _⟩, ?_, ?_, fun h' tk' t' hk => ?_⟩
  · intro b hb'
    have : b = s.heap.objs.size ∨ b = l := by simpa using hb'
    rcases this with rfl | rfl
    · exact Heap.lt_size (Heap.get?_push_size _ rfl)
    · exact Nat.lt_trans hlt (Heap.lt_size (Heap.get?_push_size _ rfl))
  · intro i v hP
    exact ints_atF rv hP
  · rw [preSum_take ns _ (by rw [List.size_toArray]; omega), List.take_of_length_le (by rw [List.size_toArray]; omega)]
    refine ⟨.int _, H, I.kept fun b o eb => ?_, ⟨t', rfl⟩, q⟩
    refine hk b o (fun hm => ?_) (Heap.get?_push_of_some _ eb)
    have : b = s.heap.objs.size := by simpa using hm
    exact absurd (this ▸ Heap.lt_size eb) (Nat.lt_irrefl _)
section
variable {K : PySem.W.Frag} {σ : St} {G : Hp} {te ta : TE}
theorem ev_sumG {lb : Option (List Int)} (ea : EV K ta σ G lb) : EV K (tCB (rSumG K) (tCons ta tNil)) σ G (lb.bind fun ns => some ns.sum) := by
  intro G1 s1 c hc H sH Q k
  obtain ⟨ns, hns, hc⟩ := Option.bind_eq_some_iff.mp hc
  cases hc
  refine ea G1 s1 ns hns H sH _ fun v G2 H2 x2 r2 => ?_
  obtain ⟨l, xs, rfl, h, z, p⟩ := r2
  cases paired_intsR p
  exact ⟨l, ns, rfl, .inl (x2.gh.rd h), k _ _ _ x2 rfl⟩
theorem ev_asTupD {md : Option D} (e : EV K te σ G md) : EV K te σ G (md.bind fun d => asTupD d) := by
  intro G1 s1 c hc H sH Q k
  obtain ⟨d, hd, hc⟩ := Option.bind_eq_some_iff.mp hc
  refine e G1 s1 d hd H sH Q fun v G2 H2 x r => ?_
  cases d with
  | tup l =>
    cases hc
    cases r with
    | tup h z r => exact k _ _ _ x ⟨_, _, rfl, h, z, of_relDs r⟩
  | _ => cases hc
theorem ev_tpD {α : Type} [Rp α] [ToD α] {m : Option (Tp α)} (e : EV K te σ G m) : EV K te σ G (m.bind fun r => some (Tp.mk (r.l.map (ToD.to : α → D)))) := by
  intro G1 s1 c hc H sH Q k
  obtain ⟨x, hx, hc⟩ := Option.bind_eq_some_iff.mp hc
  cases hc
  exact e G1 s1 x hx H sH Q fun v G2 H2 x2 ⟨t, xs, e, h, z, p⟩ => k v G2 H2 x2 ⟨t, xs, e, h, z, toDs p⟩
end
end L2
set_option Elab.async false
set_option linter.all false
set_option maxRecDepth 100000
set_option maxHeartbeats 4000000
namespace L2
open PySem PySem.Spec PyProof.Rows
end L2
set_option Elab.async false
set_option linter.all false
set_option maxRecDepth 100000
set_option maxHeartbeats 4000000
namespace L2
open PySem PySem.Spec PyProof.Rows
section
variable {K : PySem.W.Frag} {σ : St} {G H : Hp} {α : Type} [Rp α] {tk : TE} {rest : TS} {D : Ends} {i : Nat} {b : Tp α} {as as' : List α} {v : V} {p : Addr} {vs : List V}
theorem sv_extendD {m : α × Unit → Option (Tp α)} {mi : Option Int} (hσ : σ[i]? = some (some v)) (o : Own K G H v p vs as) (ek : EV K tk σ G mi) (hm : ((mi.bind fun y => atI as y).bind fun z => m (z, ())) = some b) (hp : extO as b.l = some as') (s : Same G H)
    (k : ∀ G2 H2 ws, Ext G H G2 H2 → Own K G2 (upd H2 p (.lst (vs ++ ws))) v p (vs ++ ws) as' → rest D σ (upd H2 p (.lst (vs ++ ws)))) :
    tSeq (tDrop (tBM K "list" (rExtendT K) (tVar i) (tCons (tCall (spM K m) [] E0 (tCons (tOp (rAt K) (tVar i) tk) tNil)) tNil))) rest D σ H := by
  obtain ⟨hl, rfl⟩ := ite_some hp
  have hlen := Paired.length o.p
  have ov := o.v
  subst ov
  refine bE hm fun a ha hm => ?_
  obtain ⟨j, hj, ha⟩ := Option.bind_eq_some_iff.mp ha
  refine ⟨_, hσ, .inl ⟨rfl, _, SqL.of o.h⟩, ?_⟩
  refine ⟨_, hσ, ?_⟩
  refine ek.run hj s fun u G1 H1 x1 r1 => ?_
  cases r1
  have o1 := o.ext x1
  obtain ⟨w, hw, rw⟩ := paired_atI o1.p ha
  refine .inl ⟨vs, w, SqL.of o1.h, hw, ?_⟩
  refine ⟨G1, (a, ()), b, x1.gh, ⟨w, _, rfl, rw, rfl⟩, hm, fun u2 G2 H2 x2 r2 => ?_⟩
  have x := x1.trans x2
  have o2 := o.ext x
  obtain ⟨q, ws, rfl, hq, hz, hpr⟩ := r2
  have hlw := Paired.length hpr
  refine ⟨p, q, vs, ws, rfl, rfl, o2.h, x.gh.tup hq, by omega, ?_⟩
  refine k G2 H2 ws x ⟨rfl, o2.g, upd_same, ?_, Paired.app o2.p hpr⟩
  rw [List.length_append]
  omega
end
end L2
set_option Elab.async false
set_option linter.all false
set_option maxRecDepth 100000
set_option maxHeartbeats 4000000
namespace My
open PySem PySem.Spec PyProof.Rows L2
noncomputable abbrev c_PARTS : List (Str × Int) := [("yes", 0), ("no", 0), ("not", 1), ("next", 1), ("atlast", 1), ("always", 1), ("again", 1), ("settles", 1), ("and", 2), ("or", 2), ("then", 2), ("until", 2), ("frees", 2)]
noncomputable def m_law_cell_at (script_ : Scr) (k_ : Int) : Option Int :=
  (some (decide (k_ < (script_.l.length : Int)))).bind fun b1 => cond b1
    (((some script_).bind fun t6 => (some k_).bind fun t7 => atI t6.l t7))
    ((some (0 : Int)))
noncomputable abbrev mm_law_cell_at (x : Scr × Int × Unit) : Option Int := m_law_cell_at x.1 x.2.1
noncomputable def m_law_leaf (number_ : Int) : Option Nt :=
  (some (decide ((number_ % (5 : Int)) = (0 : Int)))).bind fun b1 => cond b1
    ((some (Nt.tup [(Nt.txt ("yes" : Str))])))
    ((some (decide ((number_ % (5 : Int)) = (1 : Int)))).bind fun b11 => cond b11
      ((some (Nt.tup [(Nt.txt ("no" : Str))])))
      (((((((some ("abcdefghijklmnopqrstuvwxyz" : Str)).bind fun t21 => (some ((number_ / (5 : Int)) % (26 : Int))).bind fun t22 => (atI t21.cps.toList t22).bind fun z => some (⟨#[z]⟩ : Str)).bind fun t23 => (some (Nt.txt t23))).bind fun t24 => (some [t24])).bind fun t25 => (some ((Nt.txt ("lamp" : Str)) :: t25))).bind fun t26 => (some (Nt.tup t26)))))
noncomputable abbrev mm_law_leaf (x : Int × Unit) : Option Nt := m_law_leaf x.1
noncomputable def m_law_put (stack_ : (List Nt)) (spent_ : (List Int)) (cell_ : Int) (room_ : Int) : Option ((List Nt) × (List Int)) :=
  (some [("not" : Str), ("next" : Str), ("atlast" : Str), ("always" : Str), ("again" : Str), ("settles" : Str)]).bind fun ones_ =>
  (some [("and" : Str), ("until" : Str), ("or" : Str), ("then" : Str), ("frees" : Str)]).bind fun twos_ =>
  (some (cell_ % (16 : Int))).bind fun kind_ =>
  (some ((decide (kind_ < (6 : Int))) && (decide ((0 : Int) < (stack_.length : Int))))).bind fun b19 => (cond b19
    (((((some spent_).bind fun t34 => (some (0 : Int)).bind fun t35 => atI t34 t35).bind fun t36 => (some (t36 + (stack_.length : Int)))).bind fun t37 => (some (decide (t37 ≤ room_)))).bind fun b38 => cond b38
      ((popO stack_).bind fun pr43 => (((((some ones_).bind fun t54 => (some kind_).bind fun t55 => atI t54 t55).bind fun t56 => (some (Nt.txt t56))).bind fun t57 => (some [t57, pr43.1])).bind fun t58 => (some (Nt.tup t58))).bind fun a45 => (pushO pr43.2 a45).bind fun z47 =>
      (((some spent_).bind fun t62 => (some (0 : Int)).bind fun t63 => atI t62 t63).bind fun t64 => (some (t64 + (1 : Int)))).bind fun a65 => (some (0 : Int)).bind fun k67 => (setO spent_ k67 a65).bind fun z76 =>
      some (z47, z76))
      (some (stack_, spent_)))
    ((((some (5 : Int)).bind fun t83 => (some kind_).bind fun t84 => cond (decide (t83 < t84)) ((some (11 : Int)).bind fun t85 => some (decide (t84 < t85))) (some false)).bind fun t86 => cond t86 (some (decide ((1 : Int) < (stack_.length : Int)))) (some false)).bind fun b87 => cond b87
      ((popO stack_).bind fun pr92 =>
      (popO pr92.2).bind fun pr97 => (((((some twos_).bind fun t108 => (some (kind_ - (6 : Int))).bind fun t109 => atI t108 t109).bind fun t110 => (some (Nt.txt t110))).bind fun t111 => (some [t111, pr97.1, pr92.1])).bind fun t112 => (some (Nt.tup t112))).bind fun a99 => (pushO pr97.2 a99).bind fun z101 =>
      (((some spent_).bind fun t116 => (some (0 : Int)).bind fun t117 => atI t116 t117).bind fun t118 => (some (t118 + (1 : Int)))).bind fun a119 => (some (0 : Int)).bind fun k121 => (setO spent_ k121 a119).bind fun z130 =>
      some (z101, z130))
      ((((((some spent_).bind fun t136 => (some (0 : Int)).bind fun t137 => atI t136 t137).bind fun t138 => (some (t138 + (stack_.length : Int)))).bind fun t139 => (some (t139 + (1 : Int)))).bind fun t140 => (some (decide (t140 ≤ room_)))).bind fun b141 => cond b141
        (((some (cell_ / (16 : Int))).bind fun t146 => m_law_leaf t146).bind fun a147 => (pushO stack_ a147).bind fun z155 =>
        (((some spent_).bind fun t159 => (some (0 : Int)).bind fun t160 => atI t159 t160).bind fun t161 => (some (t161 + (1 : Int)))).bind fun a162 => (some (0 : Int)).bind fun k164 => (setO spent_ k164 a162).bind fun z173 =>
        some (z155, z173))
        (some (stack_, spent_))))).bind fun s24 =>
  some (s24.1, s24.2)
noncomputable abbrev mm_law_put (stack_ : (List Nt)) (spent_ : (List Int)) (x : Int × Int × Unit) : Option ((List Nt) × (List Int)) := m_law_put stack_ spent_ x.1 x.2.1
noncomputable def m_law_built (cells_here_ : (List Int)) (room_ : Int) : Option (Nt × Int) :=
  (((some (room_ + ((cutA cells_here_ none (some (1 : Int))).sum))).bind fun t1 => m_law_leaf t1).bind fun t2 => (some [t2])).bind fun stack_ =>
  (some [(1 : Int)]).bind fun spent_ =>
  (some cells_here_).bind fun as19 => (forO (S := ((List Nt) × (List Int))) (ρ := (Nt × Int)) (fun (cell_ : Int) s26 =>
      ((some cell_).bind fun t41 => ((some room_).bind fun t39 => (some ()).bind fun t40 => some (t39, t40)).bind fun t42 => some (t41, t42)).bind fun ca43 => (m_law_put s26.1 s26.2 ca43.1 ca43.2.1).bind fun rz45 =>
      some (Fl.nx (rz45.1, rz45.2))) as19 (stack_, spent_)).bind fun fl21 => match fl21 with
    | .nx s26 =>
      (whileN (S := ((List Nt) × (List Int))) (ρ := (Nt × Int)) (fun s63 => (some (decide ((1 : Int) < (s63.1.length : Int))))) (fun s63 =>
          (popO s63.1).bind fun pr78 =>
          (popO pr78.2).bind fun pr83 => ((((some [(Nt.txt ("then" : Str)), (Nt.txt ("frees" : Str)), (Nt.txt ("or" : Str))]).bind fun t96 => (some ((pr78.2.length : Int) % (3 : Int))).bind fun t97 => atI t96 t97).bind fun t98 => (some [t98, pr83.1, pr78.1])).bind fun t99 => (some (Nt.tup t99))).bind fun a85 => (pushO pr83.2 a85).bind fun z87 =>
          (((some s63.2).bind fun t103 => (some (0 : Int)).bind fun t104 => atI t103 t104).bind fun t105 => (some (t105 + (1 : Int)))).bind fun a106 => (some (0 : Int)).bind fun k108 => (setO s63.2 k108 a106).bind fun z117 =>
          some (Fl.nx (z87, z117))) fuelW (s26.1, s26.2)).bind fun fl61 => match fl61 with
        | .nx s63 =>
          (((some s63.1).bind fun t130 => (some (0 : Int)).bind fun t131 => atI t130 t131).bind fun t134 => ((some s63.2).bind fun t132 => (some (0 : Int)).bind fun t133 => atI t132 t133).bind fun t135 => (some (t134, t135)))
        | .rt r => some r
        | .bk _ => none
    | .rt r => some r
    | .bk _ => none
noncomputable abbrev mm_law_built (x : (List Int) × Int × Unit) : Option (Nt × Int) := m_law_built x.1 x.2.1
noncomputable def m_law_stream (cell_ : Int) (many_ : Int) : Option (List Int) :=
  (some ([] : List Int)).bind fun numbers_ =>
  (some ((cell_ % (2147483647 : Int)) + (48271 : Int))).bind fun number_ =>
  ((some many_).bind fun t15 => rngO 0 t15).bind fun as16 => (forO (S := ((List Int) × Int)) (ρ := (List Int)) (fun (k_ : Int) s23 =>
      (((((some s23.2).bind fun t38 => (some s23.2).bind fun t39 => mulO t38 t39).bind fun t40 => (some (t40 + ((48271 : Int) * s23.2)))).bind fun t41 => (some (t41 + k_))).bind fun t42 => (some (t42 % (2147483647 : Int)))).bind fun number_ =>
      (some number_).bind fun a49 => (pushO s23.1 a49).bind fun z57 =>
      some (Fl.nx (z57, number_))) as16 (numbers_, number_)).bind fun fl18 => match fl18 with
    | .nx s23 =>
      (some s23.1)
    | .rt r => some r
    | .bk _ => none
noncomputable abbrev mm_law_stream (x : Int × Int × Unit) : Option (List Int) := m_law_stream x.1 x.2.1
noncomputable def m_law_none_at_all (number_ : Int) (told_ : Nt) : Option D :=
  (some [(ToD.to ()), (ToD.to true), (ToD.to false), (ToD.to (7 : Int)), (ToD.to ("yes" : Str)), (ToD.to ("lamp" : Str)), (ToD.to ("" : Str)), (ToD.to (Tp.mk ([] : List D))), (ToD.to ([] : List D)), D.dic]).bind fun some_ =>
  ((some some_).bind fun t7 => (some [(ToD.to (Tp.mk [(ToD.to ("lamp" : Str))])), (ToD.to (Tp.mk [(ToD.to ("lamp" : Str)), (ToD.to ("" : Str))])), (ToD.to (Tp.mk [(ToD.to ("lamp" : Str)), (ToD.to ("ab" : Str))])), (ToD.to (Tp.mk [(ToD.to ("lamp" : Str)), (ToD.to ("A" : Str))])), (ToD.to (Tp.mk [(ToD.to ("lamp" : Str)), (ToD.to (3 : Int))])), (ToD.to (Tp.mk [(ToD.to ("lamp" : Str)), (ToD.to ())])), (ToD.to (Tp.mk [(ToD.to ("lamp" : Str)), (ToD.to [(ToD.to ("a" : Str))])]))]).bind fun t8 => catL t7 t8).bind fun some_ =>
  ((some some_).bind fun t15 => (some [(ToD.to (Tp.mk [(ToD.to ("lamp" : Str)), (ToD.to ("a" : Str)), (ToD.to ("b" : Str))])), (ToD.to (Tp.mk [(ToD.to ("lamp" : Str)), (ToD.to ("1" : Str))])), (ToD.to (Tp.mk [(ToD.to ("lamp" : Str)), (ToD.to (" " : Str))])), (ToD.to (Tp.mk [(ToD.to ("lamp" : Str)), (ToD.to told_)])), (ToD.to (Tp.mk [(ToD.to ("lamps" : Str)), (ToD.to ("a" : Str))])), (ToD.to (Tp.mk [(ToD.to ("Lamp" : Str)), (ToD.to ("a" : Str))]))]).bind fun t16 => catL t15 t16).bind fun some_ =>
  ((some some_).bind fun t32 => ((((((((((some told_).bind fun t23 => asTup t23).bind fun t24 => (some t24.l)).bind fun t25 => (some (ToD.to t25))).bind fun t26 => (some [t26, D.dic])).bind fun t27 => (some ((ToD.to [(ToD.to ("lamp" : Str)), (ToD.to ("c" : Str))]) :: t27))).bind fun t28 => (some ((ToD.to [(ToD.to ("yes" : Str))]) :: t28))).bind fun t29 => (some ((ToD.to (Tp.mk [(ToD.to ("yes" : Str)), (ToD.to ())])) :: t29))).bind fun t30 => (some ((ToD.to (Tp.mk [(ToD.to ("no" : Str)), (ToD.to ("no" : Str))])) :: t30))).bind fun t31 => (some ((ToD.to (Tp.mk [(ToD.to ("yes" : Str)), (ToD.to told_)])) :: t31))).bind fun t33 => catL t32 t33).bind fun some_ =>
  ((some some_).bind fun t40 => (some [(ToD.to (Tp.mk [(ToD.to ("not" : Str))])), (ToD.to (Tp.mk [(ToD.to ("not" : Str)), (ToD.to told_), (ToD.to told_)])), (ToD.to (Tp.mk [(ToD.to ("again" : Str))])), (ToD.to (Tp.mk [(ToD.to ("settles" : Str)), (ToD.to told_), (ToD.to told_)])), (ToD.to (Tp.mk [(ToD.to ("next" : Str)), (ToD.to told_), (ToD.to ())]))]).bind fun t41 => catL t40 t41).bind fun some_ =>
  ((some some_).bind fun t48 => (some [(ToD.to (Tp.mk [(ToD.to ("and" : Str)), (ToD.to told_)])), (ToD.to (Tp.mk [(ToD.to ("or" : Str))])), (ToD.to (Tp.mk [(ToD.to ("until" : Str)), (ToD.to told_), (ToD.to told_), (ToD.to told_)])), (ToD.to (Tp.mk [(ToD.to ("then" : Str)), (ToD.to told_)])), (ToD.to (Tp.mk [(ToD.to ("frees" : Str)), (ToD.to [(ToD.to told_), (ToD.to told_)])]))]).bind fun t49 => catL t48 t49).bind fun some_ =>
  ((some some_).bind fun t56 => (some [(ToD.to (Tp.mk [(ToD.to ("Not" : Str)), (ToD.to told_)])), (ToD.to (Tp.mk [(ToD.to ("maybe" : Str)), (ToD.to told_)])), (ToD.to (Tp.mk [(ToD.to ("" : Str)), (ToD.to told_)])), (ToD.to (Tp.mk [(ToD.to ("next " : Str)), (ToD.to told_)])), (ToD.to (Tp.mk [(ToD.to ()), (ToD.to told_)])), (ToD.to (Tp.mk [(ToD.to (1 : Int)), (ToD.to told_)])), (ToD.to (Tp.mk [(ToD.to told_)]))]).bind fun t57 => catL t56 t57).bind fun some_ =>
  (some (" !\"#$&'()*+,-./0123456789:;<=>?@ABCDEFGHIJKLMNOPQRSTUVWXYZ[\\]^_`{|}~" : Str)).bind fun signs_ =>
  ((some (number_ / (50 : Int))).bind fun t70 => (some (signs_.length : Int)).bind fun t71 => modO t70 t71).bind fun at_ =>
  ((some some_).bind fun t98 => (((((((((some signs_).bind fun t78 => (some at_).bind fun t79 => (atI t78.cps.toList t79).bind fun z => some (⟨#[z]⟩ : Str)).bind fun t80 => (some (ToD.to t80))).bind fun t81 => (some [t81])).bind fun t82 => (some ((ToD.to ("lamp" : Str)) :: t82))).bind fun t83 => (some (Tp.mk t83))).bind fun t84 => (some (ToD.to t84))).bind fun t95 => ((((((((some ("k" : Str)).bind fun t87 => ((some signs_).bind fun t85 => (some at_).bind fun t86 => (atI t85.cps.toList t86).bind fun z => some (⟨#[z]⟩ : Str)).bind fun t88 => catS t87 t88).bind fun t89 => (some (ToD.to t89))).bind fun t90 => (some [t90])).bind fun t91 => (some ((ToD.to ("lamp" : Str)) :: t91))).bind fun t92 => (some (Tp.mk t92))).bind fun t93 => (some (ToD.to t93))).bind fun t94 => (some [t94])).bind fun t96 => (some (t95 :: t96))).bind fun t97 => (some ((ToD.to (Tp.mk [(ToD.to [(ToD.to ("not" : Str))]), (ToD.to told_)])) :: t97))).bind fun t99 => catL t98 t99).bind fun some_ =>
  ((some some_).bind fun t108 => ((some number_).bind fun t106 => (some (some_.length : Int)).bind fun t107 => modO t106 t107).bind fun t109 => atI t108 t109)
noncomputable abbrev mm_law_none_at_all (x : Int × Nt × Unit) : Option D := m_law_none_at_all x.1 x.2.1
noncomputable def m_law_spoiled (told_ : Nt) (numbers_ : (List Int)) : Option D :=
  (some ([] : List (Nt × Int))).bind fun path_ =>
  (some (cutA numbers_ (some (1 : Int)) none)).bind fun as9 => (forO (S := (Nt × (List (Nt × Int)))) (ρ := D) (fun (number_ : Int) s16 =>
      ((((((some s16.1).bind fun t35 => asTup t35).bind fun t36 => (some (0 : Int)).bind fun t37 => atI t36.l t37).bind fun t38 => asTxt t38).bind fun t39 => (some (!decide (t39 = ("lamp" : Str))))).bind fun t44 => cond t44 (((((some s16.1).bind fun t40 => asTup t40).bind fun t41 => (some (t41.l.length : Int))).bind fun t42 => (some (decide ((1 : Int) < t42)))).bind fun t43 => cond t43 (some (!decide ((number_ % (8 : Int)) = (0 : Int)))) (some false)) (some false)).bind fun b45 => cond b45
        ((((some (number_ / (8 : Int))).bind fun t53 => ((((some s16.1).bind fun t50 => asTup t50).bind fun t51 => (some (t51.l.length : Int))).bind fun t52 => (some (t52 - (1 : Int)))).bind fun t54 => modO t53 t54).bind fun t55 => (some ((1 : Int) + t55))).bind fun at_ =>
        (some (s16.1, at_)).bind fun a62 => (pushO s16.2 a62).bind fun z70 =>
        (((some s16.1).bind fun t71 => asTup t71).bind fun t72 => (some at_).bind fun t73 => atI t72.l t73).bind fun told_ =>
        some (Fl.nx (told_, z70)))
        (some (Fl.nx (s16.1, s16.2)))) as9 (told_, path_)).bind fun fl11 => match fl11 with
    | .nx s16 =>
      (((some numbers_).bind fun t87 => (some (0 : Int)).bind fun t88 => atI t87 t88).bind fun t89 => (some s16.1).bind fun t90 => m_law_none_at_all t89 t90).bind fun thing_ =>
      (some s16.2.reverse).bind fun as98 => (forO (S := (D)) (ρ := D) (fun (pr125 : (Nt × Int)) s105 =>
          (((((((some pr125.1).bind fun t126 => asTup t126).bind fun t127 => (some (Tp.mk (cutA t127.l none (some pr125.2))))).bind fun t128 => (some (Tp.mk (t128.l.map (ToD.to : Nt → D))))).bind fun t129 => (some (Tp.mk [s105])).bind fun t130 => catTO t129 t130).bind fun t136 => ((((some pr125.1).bind fun t131 => asTup t131).bind fun t132 => (some (some (pr125.2 + (1 : Int)))).bind fun t133 => (some none).bind fun t134 => cutT? t132.l t133 t134).bind fun t135 => (some (Tp.mk (t135.l.map (ToD.to : Nt → D))))).bind fun t137 => catTO t136 t137).bind fun t138 => (some (ToD.to t138))).bind fun thing_ =>
          some (Fl.nx thing_)) as98 thing_).bind fun fl100 => match fl100 with
        | .nx s105 =>
          (some s105)
        | .rt r => some r
        | .bk _ => none
    | .rt r => some r
    | .bk _ => none
noncomputable abbrev mm_law_spoiled (x : Nt × (List Int) × Unit) : Option D := m_law_spoiled x.1 x.2.1
noncomputable def m_law_cells (script_ : Scr) : Option (List Int) :=
  ((some script_).bind fun t1 => (some (0 : Int)).bind fun t2 => m_law_cell_at t1 t2).bind fun cell_ =>
  (some (decide (((cell_ / (256 : Int)) % (3 : Int)) = (0 : Int)))).bind fun b9 => cond b9
    (((some script_).bind fun t14 => (some (some (2 : Int))).bind fun t15 => (some (some (62 : Int))).bind fun t16 => cutX t14 t15 t16))
    ((some (decide (((cell_ / (256 : Int)) % (3 : Int)) = (1 : Int)))).bind fun b22 => cond b22
      ((((some script_).bind fun t27 => (some (2 : Int)).bind fun t28 => m_law_cell_at t27 t28).bind fun t29 => (some (60 : Int)).bind fun t30 => m_law_stream t29 t30))
      (((((some script_).bind fun t36 => (some (2 : Int)).bind fun t37 => m_law_cell_at t36 t37).bind fun t38 => (some (30 : Int)).bind fun t39 => m_law_stream t38 t39).bind fun t44 => mapO (fun (number_ : Int) => (some (((16 : Int) * number_) + ((number_ / (7 : Int)) % (6 : Int))))) t44)))
noncomputable abbrev mm_law_cells (x : Scr × Unit) : Option (List Int) := m_law_cells x.1
noncomputable def m_law_truth (thing_ : Bool) (due_ : Bool) : Option Bool :=
  (some (true && (decide (thing_ = due_))))
noncomputable abbrev mm_law_truth (x : Bool × Bool × Unit) : Option Bool := m_law_truth x.1 x.2.1
noncomputable def m_parts_of (sentence_ : D) : Option (Tp D) :=
  ((((some sentence_).bind fun t3 => (some (0 : Int)).bind fun t4 => atD t3 t4).bind fun t5 => asStr t5).bind fun t6 => (some (decide (t6 = ("lamp" : Str))))).bind fun b7 => cond b7
    ((some (Tp.mk ([] : List D))))
    ((((some sentence_).bind fun t17 => asTupD t17).bind fun t18 => (some (some (1 : Int))).bind fun t19 => (some none).bind fun t20 => cutT? t18.l t19 t20))
noncomputable abbrev mm_parts_of (x : D × Unit) : Option (Tp D) := m_parts_of x.1
noncomputable def m_is_moment (thing_ : D) : Option Bool :=
  (some (!(isK "str" thing_))).bind fun b1 => cond b1
    ((some false))
    ((some ("" : Str)).bind fun last_ =>
    ((some thing_).bind fun t17 => iterD t17).bind fun as18 => (forO (S := (Str)) (ρ := Bool) (fun (lamp_ : D) s25 =>
        ((((some lamp_).bind fun t40 => asStr t40).bind fun t41 => (some (decide (t41.cps.toList < ("a" : Str).cps.toList)))).bind fun t47 => cond t47 (some true) ((((some lamp_).bind fun t42 => asStr t42).bind fun t43 => (some (decide (("z" : Str).cps.toList < t43.cps.toList)))).bind fun t46 => cond t46 (some true) (((some lamp_).bind fun t44 => asStr t44).bind fun t45 => (some (!decide (s25.cps.toList < t45.cps.toList)))))).bind fun b48 => cond b48
          ((some false).bind fun rr58 => some (Fl.rt rr58))
          (((some lamp_).bind fun t60 => asStr t60).bind fun last_ =>
          some (Fl.nx last_))) as18 last_).bind fun fl20 => match fl20 with
      | .nx s25 =>
        (some true)
      | .rt r => some r
      | .bk _ => none)
noncomputable abbrev mm_is_moment (x : D × Unit) : Option Bool := m_is_moment x.1
noncomputable def m_is_lamp (thing_ : D) : Option Bool :=
  (((some thing_).bind fun t1 => m_is_moment t1).bind fun t4 => cond t4 (((some thing_).bind fun t2 => lenD t2).bind fun t3 => (some (decide (t3 = (1 : Int))))) (some false))
noncomputable abbrev mm_is_lamp (x : D × Unit) : Option Bool := m_is_lamp x.1
noncomputable def m_has_form (thing_ : D) : Option Bool :=
  ((some (!(isK "tuple" thing_))).bind fun t8 => cond t8 (some true) ((((some thing_).bind fun t1 => lenD t1).bind fun t2 => (some (decide (t2 = (0 : Int))))).bind fun t7 => cond t7 (some true) ((((some thing_).bind fun t3 => (some (0 : Int)).bind fun t4 => atD t3 t4).bind fun t5 => (some (isK "str" t5))).bind fun t6 => (some (!t6))))).bind fun b9 => cond b9
    ((some false))
    (((((some thing_).bind fun t21 => (some (0 : Int)).bind fun t22 => atD t21 t22).bind fun t23 => asStr t23).bind fun t24 => (some (decide (t24 = ("lamp" : Str))))).bind fun b25 => cond b25
      (((((some thing_).bind fun t30 => lenD t30).bind fun t31 => (some (decide (t31 = (2 : Int))))).bind fun t35 => cond t35 (((some thing_).bind fun t32 => (some (1 : Int)).bind fun t33 => atD t32 t33).bind fun t34 => m_is_lamp t34) (some false)))
      ((((((some thing_).bind fun t41 => (some (0 : Int)).bind fun t42 => atD t41 t42).bind fun t43 => asStr t43).bind fun t44 => (some ((getC c_PARTS t44).isSome))).bind fun t58 => cond t58 (((some thing_).bind fun t45 => lenD t45).bind fun t56 => (((((some thing_).bind fun t51 => (some (0 : Int)).bind fun t52 => atD t51 t52).bind fun t53 => asStr t53).bind fun t54 => getC c_PARTS t54).bind fun t55 => (some ((1 : Int) + t55))).bind fun t57 => (some (decide (t56 = t57)))) (some false))))
noncomputable abbrev mm_has_form (x : D × Unit) : Option Bool := m_has_form x.1
noncomputable def m_is_sentence (thing_ : D) : Option Bool :=
  (some [thing_]).bind fun found_ =>
  (some (0 : Int)).bind fun place_ =>
  (whileN (S := ((List D) × Int)) (ρ := Bool) (fun s17 => (some (decide (s17.2 < (s17.1.length : Int))))) (fun s17 =>
      ((some (decide ((24 : Int) < (s17.1.length : Int)))).bind fun t42 => cond t42 (some true) ((((some s17.1).bind fun t38 => (some s17.2).bind fun t39 => atI t38 t39).bind fun t40 => m_has_form t40).bind fun t41 => (some (!t41)))).bind fun b43 => cond b43
        ((some false).bind fun rr53 => some (Fl.rt rr53))
        ((((some s17.1).bind fun t55 => (some s17.2).bind fun t56 => atI t55 t56).bind fun t57 => m_parts_of t57).bind fun a58 => (extO s17.1 a58.l).bind fun z66 =>
        (some (s17.2 + (1 : Int))).bind fun place_ =>
        some (Fl.nx (z66, place_)))) fuelW (found_, place_)).bind fun fl15 => match fl15 with
    | .nx s17 =>
      (some true)
    | .rt r => some r
    | .bk _ => none
noncomputable abbrev mm_is_sentence (x : D × Unit) : Option Bool := m_is_sentence x.1
noncomputable def m_law (script_ : Scr) : Option Bool :=
  ((some script_).bind fun t1 => (some (0 : Int)).bind fun t2 => m_law_cell_at t1 t2).bind fun cell_ =>
  (some ((1 : Int) + ((cell_ / (4 : Int)) % (30 : Int)))).bind fun room_ =>
  (some (decide ((cell_ % (4 : Int)) = (1 : Int)))).bind fun b15 => (cond b15
    ((some ((22 : Int) + ((cell_ / (4 : Int)) % (6 : Int)))).bind fun room_ =>
    some room_)
    (some room_)).bind fun s20 =>
  (((some script_).bind fun t35 => m_law_cells t35).bind fun t36 => (some s20).bind fun t37 => m_law_built t36 t37).bind fun p38 =>
  (some (decide (((cell_ / (16 : Int)) % (8 : Int)) = (3 : Int)))).bind fun b47 => (cond b47
    (((((some script_).bind fun t62 => (some (1 : Int)).bind fun t63 => m_law_cell_at t62 t63).bind fun t64 => (some (t64 % (7 : Int)))).bind fun t65 => rngO 0 t65).bind fun as66 => (forO (S := (Nt × Int)) (ρ := Bool) (fun (k_ : Int) s73 =>
        (some (decide (s73.2 < (300 : Int)))).bind fun b90 => cond b90
          ((some (Nt.tup [(Nt.txt ("and" : Str)), s73.1, s73.1])).bind fun told_ =>
          (some (((2 : Int) * s73.2) + (1 : Int))).bind fun many_ =>
          some (Fl.nx (told_, many_)))
          (some (Fl.nx (s73.1, s73.2)))) as66 (p38.1, p38.2)).bind fun fl68 => match fl68 with
      | .nx s73 =>
        some (s73.1, s73.2)
      | .rt r => none
      | .bk _ => none)
    (some (p38.1, p38.2))).bind fun s52 =>
  (((some script_).bind fun t118 => (some (1 : Int)).bind fun t119 => m_law_cell_at t118 t119).bind fun t124 => ((((some script_).bind fun t120 => (some (3 : Int)).bind fun t121 => m_law_cell_at t120 t121).bind fun t122 => (some (t122 % (33 : Int)))).bind fun t123 => (some ((1 : Int) + t123))).bind fun t125 => m_law_stream t124 t125).bind fun numbers_ =>
  (((some script_).bind fun t134 => (some (4 : Int)).bind fun t135 => m_law_cell_at t134 t135).bind fun t136 => (some (t136 % 1000000))).bind fun a137 => (some (0 : Int)).bind fun k139 => (setO numbers_ k139 a137).bind fun z148 =>
  ((some s52.1).bind fun t152 => (some z148).bind fun t153 => m_law_spoiled t152 t153).bind fun other_ =>
  (((((some (ToD.to s52.1)).bind fun t160 => m_is_sentence t160).bind fun t161 => (some (decide (s52.2 < (25 : Int)))).bind fun t162 => m_law_truth t161 t162).bind fun t163 => (some (!t163))).bind fun t168 => cond t168 (some true) ((((some other_).bind fun t164 => m_is_sentence t164).bind fun t165 => (some false).bind fun t166 => m_law_truth t165 t166).bind fun t167 => (some (!t167)))).bind fun b169 => cond b169
    ((some false))
    (((((some (ToD.to s52.1)).bind fun t179 => m_is_sentence t179).bind fun t180 => (some (decide (s52.2 < (25 : Int)))).bind fun t181 => m_law_truth t180 t181).bind fun t185 => cond t185 (((some other_).bind fun t182 => m_is_sentence t182).bind fun t183 => (some false).bind fun t184 => m_law_truth t183 t184) (some false)))
noncomputable abbrev mm_law (x : Scr × Unit) : Option Bool := m_law x.1
end My
set_option Elab.async false
set_option linter.all false
set_option maxRecDepth 100000
set_option maxHeartbeats 4000000
namespace My
open PySem PySem.Spec PyProof.Rows L2
noncomputable def top (i : Nat) : Stmt := PySem.Challenge.pw_lassoscribe_k11_is_sentence.main.body.getD i (.Pass ⟨0, 0, 0, 0⟩)
noncomputable abbrev s_is_moment : Stmt := top 1
noncomputable abbrev s_parts_of : Stmt := top 5
noncomputable abbrev s_is_lamp : Stmt := top 6
noncomputable abbrev s_has_form : Stmt := top 7
noncomputable abbrev s_is_sentence : Stmt := top 8
noncomputable abbrev s_law_cell_at : Stmt := top 10
noncomputable abbrev s_law_stream : Stmt := top 11
noncomputable abbrev s_law_leaf : Stmt := top 12
noncomputable abbrev s_law_put : Stmt := top 13
noncomputable abbrev s_law_built : Stmt := top 14
noncomputable abbrev s_law_cells : Stmt := top 15
noncomputable abbrev s_law_none_at_all : Stmt := top 16
noncomputable abbrev s_law_spoiled : Stmt := top 17
noncomputable abbrev s_law_truth : Stmt := top 18
noncomputable abbrev s_law : Stmt := top 19
structure Txt (w : World) (K : PySem.W.Frag) (mg : Str → Option Value) : Prop where
  bool_ : mg "bool" = none
  isinstance_ : mg "isinstance" = none
  len_ : mg "len" = none
  list_ : mg "list" = none
  range_ : mg "range" = none
  reversed_ : mg "reversed" = none
  str_ : mg "str" = none
  sum_ : mg "sum" = none
  tuple_ : mg "tuple" = none
  MOST_WORDS : ∃ t, mg "MOST_WORDS" = some (.int 24 t)
  PARTS : ∃ a, mg "PARTS" = some (.ref a) ∧ CDict w K a c_PARTS
theorem sc_is_moment : FnScope ["thing", "last", "lamp"] ["thing"] (defScope s_is_moment) := ⟨rfl, rfl, rfl, by decide +kernel, rfl, by decide +kernel, by decide +kernel⟩
theorem sc_parts_of : FnScope ["sentence"] ["sentence"] (defScope s_parts_of) := ⟨rfl, rfl, rfl, by decide +kernel, rfl, by decide +kernel, by decide +kernel⟩
theorem sc_is_lamp : FnScope ["thing"] ["thing"] (defScope s_is_lamp) := ⟨rfl, rfl, rfl, by decide +kernel, rfl, by decide +kernel, by decide +kernel⟩
theorem sc_has_form : FnScope ["thing"] ["thing"] (defScope s_has_form) := ⟨rfl, rfl, rfl, by decide +kernel, rfl, by decide +kernel, by decide +kernel⟩
theorem sc_is_sentence : FnScope ["thing", "found", "place"] ["thing"] (defScope s_is_sentence) := ⟨rfl, rfl, rfl, by decide +kernel, rfl, by decide +kernel, by decide +kernel⟩
theorem sc_law_cell_at : FnScope ["_law_script", "_law_k"] ["_law_script", "_law_k"] (defScope s_law_cell_at) := ⟨rfl, rfl, rfl, by decide +kernel, rfl, by decide +kernel, by decide +kernel⟩
theorem sc_law_stream : FnScope ["_law_cell", "_law_many", "_law_numbers", "_law_number", "_law_k"] ["_law_cell", "_law_many"] (defScope s_law_stream) := ⟨rfl, rfl, rfl, by decide +kernel, rfl, by decide +kernel, by decide +kernel⟩
theorem sc_law_leaf : FnScope ["_law_number"] ["_law_number"] (defScope s_law_leaf) := ⟨rfl, rfl, rfl, by decide +kernel, rfl, by decide +kernel, by decide +kernel⟩
theorem sc_law_put : FnScope ["_law_stack", "_law_spent", "_law_cell", "_law_room", "_law_ones", "_law_twos", "_law_kind", "_law_other"] ["_law_stack", "_law_spent", "_law_cell", "_law_room"] (defScope s_law_put) := ⟨rfl, rfl, rfl, by decide +kernel, rfl, by decide +kernel, by decide +kernel⟩
theorem sc_law_built : FnScope ["_law_cells_here", "_law_room", "_law_stack", "_law_spent", "_law_cell", "_law_other"] ["_law_cells_here", "_law_room"] (defScope s_law_built) := ⟨rfl, rfl, rfl, by decide +kernel, rfl, by decide +kernel, by decide +kernel⟩
theorem sc_law_cells : FnScope ["_law_script", "_law_cell"] ["_law_script"] (defScope s_law_cells) := ⟨rfl, rfl, rfl, by decide +kernel, rfl, by decide +kernel, by decide +kernel⟩
theorem sc_law_none_at_all : FnScope ["_law_number", "_law_told", "_law_some", "_law_signs", "_law_at"] ["_law_number", "_law_told"] (defScope s_law_none_at_all) := ⟨rfl, rfl, rfl, by decide +kernel, rfl, by decide +kernel, by decide +kernel⟩
theorem sc_law_spoiled : FnScope ["_law_told", "_law_numbers", "_law_path", "_law_number", "_law_at", "_law_thing", "_law_one"] ["_law_told", "_law_numbers"] (defScope s_law_spoiled) := ⟨rfl, rfl, rfl, by decide +kernel, rfl, by decide +kernel, by decide +kernel⟩
theorem sc_law_truth : FnScope ["_law_thing", "_law_due"] ["_law_thing", "_law_due"] (defScope s_law_truth) := ⟨rfl, rfl, rfl, by decide +kernel, rfl, by decide +kernel, by decide +kernel⟩
theorem sc_law : FnScope ["_law_script", "_law_cell", "_law_room", "_law_told", "_law_many", "_law_k", "_law_numbers", "_law_other"] ["_law_script"] (defScope s_law) := ⟨rfl, rfl, rfl, by decide +kernel, rfl, by decide +kernel, by decide +kernel⟩
noncomputable def sp_law (K : PySem.W.Frag) : Sp := fun vs H Q _ => ∃ (a : Addr) (ns : List Int), vs = [.ref a] ∧ SqL K H a (ns.map V.int) ∧ ns.length ≤ 63 ∧ ∀ H', Q (.bl true) H'
section
variable {P : Program} {w : World} {K : PySem.W.Frag} {mg : Str → Option Value} {base : Heap}
theorem ok_law_cell_at {f : Addr} {fd : FuncData} (F : Fun K "_law_cell_at" "_law_cell_at" s_law_cell_at f fd) (T : Txt w K mg) : FnOk P w K mg base CX0 1 f fd ["_law_script", "_law_k"] (spM K mm_law_cell_at) := by
  refine F.ok sc_law_cell_at (fun vs H Q E h => (spM_len h).trans rfl) (fun cdv A outer s H0 vs Q E hr h => ?_)
  obtain ⟨G0, ⟨script_, ⟨k_, ⟨⟩⟩⟩, res, sg0, ⟨v_script_, _, rfl, r_script_, ⟨v_k_, _, rfl, r_k_, rfl⟩⟩, hm, q⟩ := h
  replace r_script_ : Rp.rel K G0 v_script_ script_ := r_script_
  replace r_k_ : Rp.rel K G0 v_k_ k_ := r_k_
  replace hm : m_law_cell_at script_ k_ = some res := hm
  unfold m_law_cell_at at hm
  have xt : Ext G0 H0 G0 H0 := Ext.refl sg0
  refine ⟨_, (pss_cons (ps_if (pt_cmpR op_ltU (pv 1) (pe_callB (call_lenK (K := K) rfl) (by rfl) T.len_ bt_len (pa_cons (pv 0) pa_nil)) (nomark _)) (pss_cons (ps_ret (pe_ix (ix_anyK (K := K) rfl) (pv 0) (pv 1) (fun _ _ => rfl)))
      pss_nil) pss_nil)
      (pss_cons (ps_ret pe_int)
      pss_nil)), ?_⟩
  refine bE hm fun b1 h2 hm => ?_
  refine sv_if (tv_test (K := K) (ev_ord (ev_var rfl r_k_) (ev_lenX (ev_var rfl r_script_)))) h2 xt.gh fun G3 H4 x5 => ?_
  have xt := xt.trans x5
  have r_script_ := Rp.mono x5.gg r_script_
  have r_k_ := Rp.mono x5.gg r_k_
  cases b1 with
  | true =>
    replace hm := cT hm
    refine iteT ?_
    exact sv_ret (K := K) (ev_atX (ev_var rfl r_script_) (ev_var rfl r_k_)) hm xt.gh fun v8 G9 H10 x11 r12 => q v8 G9 H10 (xt.trans x11) r12
  | false =>
    replace hm := cF hm
    refine iteF ?_
    exact sv_ret (K := K) (rest := tNext) (σ := [some v_script_, some v_k_]) ev_i hm xt.gh fun v13 G14 H15 x16 r17 => q v13 G14 H15 (xt.trans x16) r17
theorem ok_law_leaf {f : Addr} {fd : FuncData} (F : Fun K "_law_leaf" "_law_leaf" s_law_leaf f fd) (T : Txt w K mg) : FnOk P w K mg base CX0 1 f fd ["_law_number"] (spM K mm_law_leaf) := by
  refine F.ok sc_law_leaf (fun vs H Q E h => (spM_len h).trans rfl) (fun cdv A outer s H0 vs Q E hr h => ?_)
  obtain ⟨G0, ⟨number_, ⟨⟩⟩, res, sg0, ⟨v_number_, _, rfl, r_number_, rfl⟩, hm, q⟩ := h
  replace r_number_ : Rp.rel K G0 v_number_ number_ := r_number_
  replace hm : m_law_leaf number_ = some res := hm
  unfold m_law_leaf at hm
  have xt : Ext G0 H0 G0 H0 := Ext.refl sg0
  refine ⟨_, (pss_cons (ps_if (pt_cmpR op_eq (pe_op op_mod (pv 0) pe_int) pe_int (nomark _)) (pss_cons (ps_ret (pe_tup (pa_cons pe_str pa_nil)))
      pss_nil) pss_nil)
      (pss_cons (ps_if (pt_cmpR op_eq (pe_op op_mod (pv 0) pe_int) pe_int (nomark _)) (pss_cons (ps_ret (pe_tup (pa_cons pe_str pa_nil)))
      pss_nil) pss_nil)
      (pss_cons (ps_ret (pe_tup (pa_cons pe_str (pa_cons (pe_ix (ix_anyK (K := K) rfl) pe_str (pe_op op_mod (pe_op op_fdiv (pv 0) pe_int) pe_int) (fun _ _ => rfl)) pa_nil))))
      pss_nil))), ?_⟩
  refine bE hm fun b1 h2 hm => ?_
  refine sv_if (tv_test (K := K) (ev_eqI (ev_modR (ev_var rfl r_number_)) ev_i)) h2 xt.gh fun G3 H4 x5 => ?_
  have xt := xt.trans x5
  have r_number_ := Rp.mono x5.gg r_number_
  cases b1 with
  | true =>
    replace hm := cT hm
    refine iteT ?_
    exact sv_ret (K := K) (rest := tNext) (σ := [some v_number_]) (ev_tupNL (lv_cons (ev_txtN ev_s) (lv_nil (α := Nt)))) hm xt.gh fun v6 G7 H8 x9 r10 => q v6 G7 H8 (xt.trans x9) r10
  | false =>
    replace hm := cF hm
    refine iteF ?_
    refine bE hm fun b11 h12 hm => ?_
    refine sv_if (tv_test (K := K) (ev_eqI (ev_modR (ev_var rfl r_number_)) ev_i)) h12 xt.gh fun G13 H14 x15 => ?_
    have xt := xt.trans x15
    have r_number_ := Rp.mono x15.gg r_number_
    cases b11 with
    | true =>
      replace hm := cT hm
      refine iteT ?_
      exact sv_ret (K := K) (rest := tNext) (σ := [some v_number_]) (ev_tupNL (lv_cons (ev_txtN ev_s) (lv_nil (α := Nt)))) hm xt.gh fun v16 G17 H18 x19 r20 => q v16 G17 H18 (xt.trans x19) r20
    | false =>
      replace hm := cF hm
      refine iteF ?_
      exact sv_ret (K := K) (ev_tupNL (lv_cons (ev_txtN ev_s) (lv_cons (ev_txtN (ev_atS ev_s (ev_modR (ev_divR (ev_var rfl r_number_))))) (lv_nil (α := Nt))))) hm xt.gh fun v27 G28 H29 x30 r31 => q v27 G28 H29 (xt.trans x30) r31
theorem ok_law_put {f : Addr} {fd : FuncData} (F : Fun K "_law_put" "_law_put" s_law_put f fd) (T : Txt w K mg) (D_law_leaf : DefOk P w K mg base "_law_leaf" 1 ["_law_number"] (spM K mm_law_leaf)) : FnOk P w K mg base CX0 2 f fd ["_law_stack", "_law_spent", "_law_cell", "_law_room"] (spW2 K mm_law_put) := by
  refine F.ok sc_law_put (fun vs H Q E h => (spW2_len h).trans rfl) (fun cdv A outer s H9 vs Q E hr h => ?_)
  obtain ⟨G0, p_stack_, p_spent_, vs_stack_, vs_spent_, _, stack_, spent_, ⟨cell_, ⟨room_, ⟨⟩⟩⟩, res, rfl, sg0, ne_pq, o_stack_, o_spent_, ⟨v_cell_, _, rfl, r_cell_, ⟨v_room_, _, rfl, r_room_, rfl⟩⟩, hm, q⟩ := h
  have xt : Ext G0 (era H9 [p_stack_, p_spent_]) G0 H9 := Ext.begin sg0
  have hz_stack_ : era H9 [p_stack_, p_spent_] p_stack_ = none := era_in (by simp)
  have hz_spent_ : era H9 [p_stack_, p_spent_] p_spent_ = none := era_in (by simp)
  generalize era H9 [p_stack_, p_spent_] = H0 at xt q hz_stack_ hz_spent_
  replace r_cell_ : Rp.rel K G0 v_cell_ cell_ := r_cell_
  replace r_room_ : Rp.rel K G0 v_room_ room_ := r_room_
  replace hm : m_law_put stack_ spent_ cell_ room_ = some res := hm
  unfold m_law_put at hm
  refine ⟨_, (pss_cons (ps_set (i := 4) sc_law_put.nd rfl (Or.inl rfl) (pe_lst (pa_cons pe_str (pa_cons pe_str (pa_cons pe_str (pa_cons pe_str (pa_cons pe_str (pa_cons pe_str pa_nil))))))))
      (pss_cons (ps_set (i := 5) sc_law_put.nd rfl (Or.inl rfl) (pe_lst (pa_cons pe_str (pa_cons pe_str (pa_cons pe_str (pa_cons pe_str (pa_cons pe_str pa_nil)))))))
      (pss_cons (ps_set (i := 6) sc_law_put.nd rfl (Or.inl rfl) (pe_op op_mod (pv 2) pe_int))
      (pss_cons (ps_if (PW.pt (pw_and (pt_cmpR op_ltU (pv 6) pe_int (nomark _)) (pw_and1 (pt_cmpR op_gtU (pe_callB (call_lenK (K := K) rfl) (by rfl) T.len_ bt_len (pa_cons (pv 0) pa_nil)) pe_int (nomark _))))) (pss_cons (ps_if (pt_cmpR op_leU (pe_op (op_plusK (K := K) rfl) (pe_ix (ix_anyK (K := K) rfl) (pv 1) pe_int (fun _ _ => rfl)) (pe_callB (call_lenK (K := K) rfl) (by rfl) T.len_ bt_len (pa_cons (pv 0) pa_nil))) (pv 3) (nomark _)) (pss_cons (ps_expr (pe_bmK (K := K) rfl PySem.F.plainAttrs_list PySem.F.slot_list_append PySem.F.type_list_append mt_append (pv 0) (pa_cons (pe_tup (pa_cons (pe_ix (ix_anyK (K := K) rfl) (pv 4) (pv 6) (fun _ _ => rfl)) (pa_cons (pe_bm0K (K := K) rfl PySem.F.plainAttrs_list PySem.F.slot_list_pop PySem.F.type_list_pop mt_pop (pv 0)) pa_nil))) pa_nil)))
      (pss_cons (ps_asg (pe_op (op_plusK (K := K) rfl) (pe_ix (ix_anyK (K := K) rfl) (pv 1) pe_int (fun _ _ => rfl)) pe_int) (pg_sub (pv 1) pe_int set_list))
      pss_nil)) pss_nil)
      pss_nil) (pss_cons (ps_if (PW.pt (pw_and (pt_chain op_ltU op_ltU pe_int (pv 6) pe_int) (pw_and1 (pt_cmpR op_gtU (pe_callB (call_lenK (K := K) rfl) (by rfl) T.len_ bt_len (pa_cons (pv 0) pa_nil)) pe_int (nomark _))))) (pss_cons (ps_set (i := 7) sc_law_put.nd rfl (Or.inl rfl) (pe_bm0K (K := K) rfl PySem.F.plainAttrs_list PySem.F.slot_list_pop PySem.F.type_list_pop mt_pop (pv 0)))
      (pss_cons (ps_expr (pe_bmK (K := K) rfl PySem.F.plainAttrs_list PySem.F.slot_list_append PySem.F.type_list_append mt_append (pv 0) (pa_cons (pe_tup (pa_cons (pe_ix (ix_anyK (K := K) rfl) (pv 5) (pe_op op_sub (pv 6) pe_int) (fun _ _ => rfl)) (pa_cons (pe_bm0K (K := K) rfl PySem.F.plainAttrs_list PySem.F.slot_list_pop PySem.F.type_list_pop mt_pop (pv 0)) (pa_cons (pv 7) pa_nil)))) pa_nil)))
      (pss_cons (ps_asg (pe_op (op_plusK (K := K) rfl) (pe_ix (ix_anyK (K := K) rfl) (pv 1) pe_int (fun _ _ => rfl)) pe_int) (pg_sub (pv 1) pe_int set_list))
      pss_nil))) (pss_cons (ps_if (pt_cmpR op_leU (pe_op (op_plusK (K := K) rfl) (pe_op (op_plusK (K := K) rfl) (pe_ix (ix_anyK (K := K) rfl) (pv 1) pe_int (fun _ _ => rfl)) (pe_callB (call_lenK (K := K) rfl) (by rfl) T.len_ bt_len (pa_cons (pv 0) pa_nil))) pe_int) (pv 3) (nomark _)) (pss_cons (ps_expr (pe_bmK (K := K) rfl PySem.F.plainAttrs_list PySem.F.slot_list_append PySem.F.type_list_append mt_append (pv 0) (pa_cons (pe_def D_law_leaf hr (by decide) rfl (pa_cons (pe_op op_fdiv (pv 2) pe_int) pa_nil)) pa_nil)))
      (pss_cons (ps_asg (pe_op (op_plusK (K := K) rfl) (pe_ix (ix_anyK (K := K) rfl) (pv 1) pe_int (fun _ _ => rfl)) pe_int) (pg_sub (pv 1) pe_int set_list))
      pss_nil)) pss_nil)
      pss_nil))
      pss_nil))
      pss_nil)))), ?_⟩
  refine bE hm fun ones_ h6 hm => ?_
  refine sv_set (K := K) (FV.ev (fv_lst (lv_cons ev_s (lv_cons ev_s (lv_cons ev_s (lv_cons ev_s (lv_cons ev_s (lv_cons ev_s (lv_nil (α := Str)))))))))) h6 xt.gh fun v1 G2 H3 x4 r5 => ?_
  have xt := xt.trans x4
  have o_stack_ := o_stack_.ext x4
  have o_spent_ := o_spent_.ext x4
  have r_cell_ := Rp.mono x4.gg r_cell_
  have r_room_ := Rp.mono x4.gg r_room_
  refine bE hm fun twos_ h12 hm => ?_
  refine sv_set (K := K) (FV.ev (fv_lst (lv_cons ev_s (lv_cons ev_s (lv_cons ev_s (lv_cons ev_s (lv_cons ev_s (lv_nil (α := Str))))))))) h12 xt.gh fun v7 G8 H9 x10 r11 => ?_
  have xt := xt.trans x10
  have o_stack_ := o_stack_.ext x10
  have o_spent_ := o_spent_.ext x10
  have r_cell_ := Rp.mono x10.gg r_cell_
  have r_room_ := Rp.mono x10.gg r_room_
  have r5 := Rp.mono x10.gg r5
  refine bE hm fun kind_ h18 hm => ?_
  refine sv_set (K := K) (ev_modR (ev_var rfl r_cell_)) h18 xt.gh fun v13 G14 H15 x16 r17 => ?_
  have xt := xt.trans x16
  have o_stack_ := o_stack_.ext x16
  have o_spent_ := o_spent_.ext x16
  have r_cell_ := Rp.mono x16.gg r_cell_
  have r_room_ := Rp.mono x16.gg r_room_
  have r5 := Rp.mono x16.gg r5
  have r11 := Rp.mono x16.gg r11
  refine bE hm fun b19 h20 hm => ?_
  refine bE hm fun s24 h25 hm => ?_
  refine sv_join (fun S176 H175 => ∃ (G174 : Hp) (v27 : Option V), Ext G0 H0 G174 H175 ∧ Same G14 G174 ∧ S176 = [some (V.ref p_stack_), some (V.ref p_spent_), some v_cell_, some v_room_, some v1, some v7, some v13, v27] ∧ (∃ vs, Own K G174 H175 (V.ref p_stack_) p_stack_ vs s24.1) ∧ (∃ vs, Own K G174 H175 (V.ref p_spent_) p_spent_ vs s24.2)) (fun nx kn29 => ?_) ?_
  · refine sv_ifB o_stack_ (tv_andP (tv_test (K := K) (ev_ord (ev_var rfl (Rp.mono (Same.new o_stack_.g) r17)) ev_i)) (tv_test (K := K) (ev_ord (ev_len (ev_var rfl o_stack_.tell)) ev_i))) h20 xt.gh fun G21 H22 x23 => ?_
    have xt := xt.trans x23
    have o_stack_ := o_stack_.ext x23
    have o_spent_ := o_spent_.ext x23
    have r_cell_ := Rp.mono x23.gg r_cell_
    have r_room_ := Rp.mono x23.gg r_room_
    have r5 := Rp.mono x23.gg r5
    have r11 := Rp.mono x23.gg r11
    have r17 := Rp.mono x23.gg r17
    have mk26 : Same G14 G21 := x23.gg
    have hm := h25
    cases b19 with
    | true =>
      replace hm := cT hm
      refine iteT ?_
      refine bE hm fun b38 h39 hm => ?_
      refine sv_ifBB o_stack_ o_spent_ (by first | assumption | exact Ne.symm (by assumption)) (tv_test (K := K) (ev_ord (ev_add (ev_at (ev_var rfl (o_spent_.over (by first | assumption | exact Ne.symm (by assumption)) o_stack_.g).tell) ev_i) (ev_len (ev_var rfl (Rp.mono (Same.new (o_spent_.over (by first | assumption | exact Ne.symm (by assumption)) o_stack_.g).g) o_stack_.tell)))) (ev_var rfl (Rp.mono (Same.new (o_spent_.over (by first | assumption | exact Ne.symm (by assumption)) o_stack_.g).g) (Rp.mono (Same.new o_stack_.g) r_room_))))) h39 xt.gh fun G40 H41 x42 => ?_
      have xt := xt.trans x42
      have mk26 := mk26.trans x42.gg
      have o_stack_ := o_stack_.ext x42
      have o_spent_ := o_spent_.ext x42
      have r_cell_ := Rp.mono x42.gg r_cell_
      have r_room_ := Rp.mono x42.gg r_room_
      have r5 := Rp.mono x42.gg r5
      have r11 := Rp.mono x42.gg r11
      have r17 := Rp.mono x42.gg r17
      cases b38 with
      | true =>
        replace hm := cT hm
        refine iteT ?_
        refine bE hm fun pr43 h44 hm => ?_
        refine bE hm fun a45 h46 hm => ?_
        refine bE hm fun z47 h48 hm => ?_
        refine sv_appendP (K := K) (as' := pr43.2) rfl o_stack_ (pv_tupN (pl_there (bv_ev (ev_txtN (ev_at (ev_var rfl r5) (ev_var rfl r17)))) (pl_here (pv_pop (a := pr43.1) (as' := pr43.2) rfl h44) (lv_nil (α := Nt))))) h46 h48 xt.gh fun G49 H50 w51 y52 o53 => ?_
        have xt : Ext G0 H0 G49 (upd H50 p_stack_ (.lst (vs_stack_.dropLast ++ [w51]))) := (xt.past (C := [p_stack_]) (fun b hb => by rw [List.mem_singleton.mp hb]; exact hz_stack_) y52).put hz_stack_ o53.g
        have mk26 := mk26.trans y52.gg
        have o_spent_ := (o_spent_.past (by rw [List.mem_singleton]; exact (by first | assumption | exact Ne.symm (by assumption))) y52).put (q := p_stack_) (ho := .lst (vs_stack_.dropLast ++ [w51])) (by first | assumption | exact Ne.symm (by assumption))
        have r_cell_ := Rp.mono y52.gg r_cell_
        have r_room_ := Rp.mono y52.gg r_room_
        have r5 := Rp.mono y52.gg r5
        have r11 := Rp.mono y52.gg r11
        have r17 := Rp.mono y52.gg r17
        refine bE hm fun a65 h66 hm => ?_
        refine bE hm fun k67 h68 hm => ?_
        refine bE hm fun z76 h69 hm => ?_
        refine sv_setitemB (K := K) rfl o_spent_ (ev_add (ev_at (ev_var rfl o_spent_.tell) ev_i) ev_i) h66 ev_i h68 h69 xt.gh fun G70 H71 w72 j73 x74 o75 => ?_
        have xt : Ext G0 H0 G70 (upd H71 p_spent_ (.lst (vs_spent_.set j73 w72))) := (xt.trans x74).put hz_spent_ o75.g
        have mk26 := mk26.trans x74.gg
        have o53 := (o53.ext x74).put (q := p_spent_) (ho := .lst (vs_spent_.set j73 w72)) (by first | assumption | exact Ne.symm (by assumption))
        have r_cell_ := Rp.mono x74.gg r_cell_
        have r_room_ := Rp.mono x74.gg r_room_
        have r5 := Rp.mono x74.gg r5
        have r11 := Rp.mono x74.gg r11
        have r17 := Rp.mono x74.gg r17
        cases hm
        exact kn29 _ _ ⟨G70, _, xt, mk26, rfl, ⟨_, o53⟩, ⟨_, o75⟩⟩
      | false =>
        replace hm := cF hm
        refine iteF ?_
        cases hm
        exact kn29 _ _ ⟨G40, _, xt, mk26, rfl, ⟨_, o_stack_⟩, ⟨_, o_spent_⟩⟩
    | false =>
      replace hm := cF hm
      refine iteF ?_
      refine bE hm fun b87 h88 hm => ?_
      refine sv_ifB o_stack_ (tv_and (tv_test (K := K) (ev_chain ev_i (ev_var rfl (Rp.mono (Same.new o_stack_.g) r17)) ev_i)) (tv_test (K := K) (ev_ord (ev_len (ev_var rfl o_stack_.tell)) ev_i))) h88 xt.gh fun G89 H90 x91 => ?_
      have xt := xt.trans x91
      have mk26 := mk26.trans x91.gg
      have o_stack_ := o_stack_.ext x91
      have o_spent_ := o_spent_.ext x91
      have r_cell_ := Rp.mono x91.gg r_cell_
      have r_room_ := Rp.mono x91.gg r_room_
      have r5 := Rp.mono x91.gg r5
      have r11 := Rp.mono x91.gg r11
      have r17 := Rp.mono x91.gg r17
      cases b87 with
      | true =>
        replace hm := cT hm
        refine iteT ?_
        refine bE hm fun pr92 h93 hm => ?_
        refine sv_pop (K := K) (a := pr92.1) (as' := pr92.2) rfl o_stack_ h93 fun w94 r95 o96 => ?_
        have xt : Ext G0 H0 G89 (upd H90 p_stack_ (.lst vs_stack_.dropLast)) := xt.put hz_stack_ o96.g
        have o_spent_ := o_spent_.put (q := p_stack_) (ho := .lst vs_stack_.dropLast) (by first | assumption | exact Ne.symm (by assumption))
        refine bE hm fun pr97 h98 hm => ?_
        refine bE hm fun a99 h100 hm => ?_
        refine bE hm fun z101 h102 hm => ?_
        refine sv_appendP (K := K) (as' := pr97.2) rfl o96 (pv_tupN (pl_there (bv_ev (ev_txtN (ev_at (ev_var rfl r11) (ev_sub (ev_var rfl r17) ev_i)))) (pl_here (pv_pop (a := pr97.1) (as' := pr97.2) rfl h98) (lv_cons (ev_var rfl r95) (lv_nil (α := Nt)))))) h100 h102 xt.gh fun G103 H104 w105 y106 o107 => ?_
        have xt : Ext G0 H0 G103 (upd H104 p_stack_ (.lst (vs_stack_.dropLast.dropLast ++ [w105]))) := (xt.past (C := [p_stack_]) (fun b hb => by rw [List.mem_singleton.mp hb]; exact hz_stack_) y106).put hz_stack_ o107.g
        have mk26 := mk26.trans y106.gg
        have o_spent_ := (o_spent_.past (by rw [List.mem_singleton]; exact (by first | assumption | exact Ne.symm (by assumption))) y106).put (q := p_stack_) (ho := .lst (vs_stack_.dropLast.dropLast ++ [w105])) (by first | assumption | exact Ne.symm (by assumption))
        have r_cell_ := Rp.mono y106.gg r_cell_
        have r_room_ := Rp.mono y106.gg r_room_
        have r5 := Rp.mono y106.gg r5
        have r11 := Rp.mono y106.gg r11
        have r17 := Rp.mono y106.gg r17
        have r95 := Rp.mono y106.gg r95
        refine bE hm fun a119 h120 hm => ?_
        refine bE hm fun k121 h122 hm => ?_
        refine bE hm fun z130 h123 hm => ?_
        refine sv_setitemB (K := K) rfl o_spent_ (ev_add (ev_at (ev_var rfl o_spent_.tell) ev_i) ev_i) h120 ev_i h122 h123 xt.gh fun G124 H125 w126 j127 x128 o129 => ?_
        have xt : Ext G0 H0 G124 (upd H125 p_spent_ (.lst (vs_spent_.set j127 w126))) := (xt.trans x128).put hz_spent_ o129.g
        have mk26 := mk26.trans x128.gg
        have o107 := (o107.ext x128).put (q := p_spent_) (ho := .lst (vs_spent_.set j127 w126)) (by first | assumption | exact Ne.symm (by assumption))
        have r_cell_ := Rp.mono x128.gg r_cell_
        have r_room_ := Rp.mono x128.gg r_room_
        have r5 := Rp.mono x128.gg r5
        have r11 := Rp.mono x128.gg r11
        have r17 := Rp.mono x128.gg r17
        have r95 := Rp.mono x128.gg r95
        cases hm
        exact kn29 _ _ ⟨G124, _, xt, mk26, rfl, ⟨_, o107⟩, ⟨_, o129⟩⟩
      | false =>
        replace hm := cF hm
        refine iteF ?_
        refine bE hm fun b141 h142 hm => ?_
        refine sv_ifBB o_stack_ o_spent_ (by first | assumption | exact Ne.symm (by assumption)) (tv_test (K := K) (ev_ord (ev_add (ev_add (ev_at (ev_var rfl (o_spent_.over (by first | assumption | exact Ne.symm (by assumption)) o_stack_.g).tell) ev_i) (ev_len (ev_var rfl (Rp.mono (Same.new (o_spent_.over (by first | assumption | exact Ne.symm (by assumption)) o_stack_.g).g) o_stack_.tell)))) ev_i) (ev_var rfl (Rp.mono (Same.new (o_spent_.over (by first | assumption | exact Ne.symm (by assumption)) o_stack_.g).g) (Rp.mono (Same.new o_stack_.g) r_room_))))) h142 xt.gh fun G143 H144 x145 => ?_
        have xt := xt.trans x145
        have mk26 := mk26.trans x145.gg
        have o_stack_ := o_stack_.ext x145
        have o_spent_ := o_spent_.ext x145
        have r_cell_ := Rp.mono x145.gg r_cell_
        have r_room_ := Rp.mono x145.gg r_room_
        have r5 := Rp.mono x145.gg r5
        have r11 := Rp.mono x145.gg r11
        have r17 := Rp.mono x145.gg r17
        cases b141 with
        | true =>
          replace hm := cT hm
          refine iteT ?_
          refine bE hm fun a147 h148 hm => ?_
          refine bE hm fun z155 h149 hm => ?_
          refine sv_append (K := K) rfl o_stack_ (ev_def1 (m := mm_law_leaf) (ev_divR (ev_var rfl r_cell_))) h148 h149 xt.gh fun G150 H151 w152 x153 o154 => ?_
          have xt : Ext G0 H0 G150 (upd H151 p_stack_ (.lst (vs_stack_ ++ [w152]))) := (xt.trans x153).put hz_stack_ o154.g
          have mk26 := mk26.trans x153.gg
          have o_spent_ := (o_spent_.ext x153).put (q := p_stack_) (ho := .lst (vs_stack_ ++ [w152])) (by first | assumption | exact Ne.symm (by assumption))
          have r_cell_ := Rp.mono x153.gg r_cell_
          have r_room_ := Rp.mono x153.gg r_room_
          have r5 := Rp.mono x153.gg r5
          have r11 := Rp.mono x153.gg r11
          have r17 := Rp.mono x153.gg r17
          refine bE hm fun a162 h163 hm => ?_
          refine bE hm fun k164 h165 hm => ?_
          refine bE hm fun z173 h166 hm => ?_
          refine sv_setitemB (K := K) rfl o_spent_ (ev_add (ev_at (ev_var rfl o_spent_.tell) ev_i) ev_i) h163 ev_i h165 h166 xt.gh fun G167 H168 w169 j170 x171 o172 => ?_
          have xt : Ext G0 H0 G167 (upd H168 p_spent_ (.lst (vs_spent_.set j170 w169))) := (xt.trans x171).put hz_spent_ o172.g
          have mk26 := mk26.trans x171.gg
          have o154 := (o154.ext x171).put (q := p_spent_) (ho := .lst (vs_spent_.set j170 w169)) (by first | assumption | exact Ne.symm (by assumption))
          have r_cell_ := Rp.mono x171.gg r_cell_
          have r_room_ := Rp.mono x171.gg r_room_
          have r5 := Rp.mono x171.gg r5
          have r11 := Rp.mono x171.gg r11
          have r17 := Rp.mono x171.gg r17
          cases hm
          exact kn29 _ _ ⟨G167, _, xt, mk26, rfl, ⟨_, o154⟩, ⟨_, o172⟩⟩
        | false =>
          replace hm := cF hm
          refine iteF ?_
          cases hm
          exact kn29 _ _ ⟨G143, _, xt, mk26, rfl, ⟨_, o_stack_⟩, ⟨_, o_spent_⟩⟩
  · rintro _ H175 ⟨G174, v27, xt, mk26, rfl, ⟨vs_stack_, o_stack_⟩, ⟨vs_spent_, o_spent_⟩⟩
    have r_cell_ := Rp.mono mk26 r_cell_
    have r_room_ := Rp.mono mk26 r_room_
    have r5 := Rp.mono mk26 r5
    have r11 := Rp.mono mk26 r11
    have r17 := Rp.mono mk26 r17
    cases hm
    exact q _ _ _ _ xt o_stack_ o_spent_
theorem ok_law_built {f : Addr} {fd : FuncData} (F : Fun K "_law_built" "_law_built" s_law_built f fd) (T : Txt w K mg) (D_law_leaf : DefOk P w K mg base "_law_leaf" 1 ["_law_number"] (spM K mm_law_leaf)) (D_law_put : DefOk P w K mg base "_law_put" 2 ["_law_stack", "_law_spent", "_law_cell", "_law_room"] (spW2 K mm_law_put)) : FnOk P w K mg base CX0 3 f fd ["_law_cells_here", "_law_room"] (spM K mm_law_built) := by
  refine F.ok sc_law_built (fun vs H Q E h => (spM_len h).trans rfl) (fun cdv A outer s H0 vs Q E hr h => ?_)
  obtain ⟨G0, ⟨cells_here_, ⟨room_, ⟨⟩⟩⟩, res, sg0, ⟨v_cells_here_, _, rfl, r_cells_here_, ⟨v_room_, _, rfl, r_room_, rfl⟩⟩, hm, q⟩ := h
  replace r_cells_here_ : Rp.rel K G0 v_cells_here_ cells_here_ := r_cells_here_
  replace r_room_ : Rp.rel K G0 v_room_ room_ := r_room_
  replace hm : m_law_built cells_here_ room_ = some res := hm
  unfold m_law_built at hm
  have xt : Ext G0 H0 G0 H0 := Ext.refl sg0
  refine ⟨_, (pss_cons (ps_set (i := 2) sc_law_built.nd rfl (Or.inl rfl) (pe_lst (pa_cons (pe_def D_law_leaf hr (by decide) rfl (pa_cons (pe_op (op_plusK (K := K) rfl) (pv 1) (pe_callB (call_sumG (K := K) rfl rfl) (by rfl) T.sum_ bt_sum (pa_cons (pe_slice (sl_anyK (K := K) rfl) (pv 0) po_none (po_some pe_int)) pa_nil))) pa_nil)) pa_nil)))
      (pss_cons (ps_set (i := 3) sc_law_built.nd rfl (Or.inl rfl) (pe_lst (pa_cons pe_int pa_nil)))
      (pss_cons (ps_for PassesOwn.never rfl (pi_anyK (K := K) rfl (pv 0)) (pg_name (i := 4) sc_law_built.nd rfl (Or.inl rfl)) (pss_cons (ps_expr (pe_def D_law_put hr (by decide) rfl (pa_cons (pv 2) (pa_cons (pv 3) (pa_cons (pv 4) (pa_cons (pv 1) pa_nil))))))
      pss_nil))
      (pss_cons (ps_while PassesOwn.never (pt_cmpR op_gtU (pe_callB (call_lenK (K := K) rfl) (by rfl) T.len_ bt_len (pa_cons (pv 2) pa_nil)) pe_int (nomark _)) (pss_cons (ps_set (i := 5) sc_law_built.nd rfl (Or.inl rfl) (pe_bm0K (K := K) rfl PySem.F.plainAttrs_list PySem.F.slot_list_pop PySem.F.type_list_pop mt_pop (pv 2)))
      (pss_cons (ps_expr (pe_bmK (K := K) rfl PySem.F.plainAttrs_list PySem.F.slot_list_append PySem.F.type_list_append mt_append (pv 2) (pa_cons (pe_tup (pa_cons (pe_ix (ix_anyK (K := K) rfl) (pe_lst (pa_cons pe_str (pa_cons pe_str (pa_cons pe_str pa_nil)))) (pe_op op_mod (pe_callB (call_lenK (K := K) rfl) (by rfl) T.len_ bt_len (pa_cons (pv 2) pa_nil)) pe_int) (fun _ _ => rfl)) (pa_cons (pe_bm0K (K := K) rfl PySem.F.plainAttrs_list PySem.F.slot_list_pop PySem.F.type_list_pop mt_pop (pv 2)) (pa_cons (pv 5) pa_nil)))) pa_nil)))
      (pss_cons (ps_asg (pe_op (op_plusK (K := K) rfl) (pe_ix (ix_anyK (K := K) rfl) (pv 3) pe_int (fun _ _ => rfl)) pe_int) (pg_sub (pv 3) pe_int set_list))
      pss_nil))))
      (pss_cons (ps_ret (pe_tup (pa_cons (pe_ix (ix_anyK (K := K) rfl) (pv 2) pe_int (fun _ _ => rfl)) (pa_cons (pe_ix (ix_anyK (K := K) rfl) (pv 3) pe_int (fun _ _ => rfl)) pa_nil))))
      pss_nil))))), ?_⟩
  refine bE hm fun stack_ h10 hm => ?_
  refine sv_own (K := K) (fv_lst (lv_cons (ev_def1 (m := mm_law_leaf) (ev_add (ev_var rfl r_room_) (ev_sumG (FV.ev (fv_slice (ev_var rfl r_cells_here_) ov_none (ov_some (K := K) ev_i)))))) (lv_nil (α := Nt)))) h10 xt.gh fun p3 vs4 G5 H6 x7 hz8 o9 => ?_
  have hz8 := xt.hh.free hz8
  have xt := xt.trans x7
  have r_cells_here_ := Rp.mono x7.gg r_cells_here_
  have r_room_ := Rp.mono x7.gg r_room_
  refine bE hm fun spent_ h18 hm => ?_
  refine sv_own (K := K) (fv_lst (lv_cons ev_i (lv_nil (α := Int)))) h18 xt.gh fun p11 vs12 G13 H14 x15 hz16 o17 => ?_
  have ne_p3_p11 : p3 ≠ p11 := ne_of_none o9.h hz16
  have hz16 := xt.hh.free hz16
  have xt := xt.trans x15
  have r_cells_here_ := Rp.mono x15.gg r_cells_here_
  have r_room_ := Rp.mono x15.gg r_room_
  have o9 := o9.ext x15
  refine bE hm fun as19 h20 hm => ?_
  refine bE hm fun fl21 h22 hm => ?_
  refine sv_for (K := K) (RR := fun r v G' H' => Ext G0 H0 G' H' ∧ Rp.rel K G' v r) (iw_list (ev_var rfl r_cells_here_)) h20 h22 xt.gh fun G23 H24 x25 => ⟨fun s26 S' G' H' => ∃ (v27 : Option V), Ext G0 H0 G' H' ∧ Same G23 G' ∧ S' = [some v_cells_here_, some v_room_, some (V.ref p3), some (V.ref p11), v27, none] ∧ (∃ vs, Own K G' H' (V.ref p3) p3 vs s26.1) ∧ (∃ vs, Own K G' H' (V.ref p11) p11 vs s26.2), ?_, ?_, ?_, ?_, ?_⟩
  · have xt := xt.trans x25
    have r_cells_here_ := Rp.mono x25.gg r_cells_here_
    have r_room_ := Rp.mono x25.gg r_room_
    have o9 := o9.ext x25
    have o17 := o17.ext x25
    exact ⟨_, xt, (Same.refl _), rfl, ⟨_, o9⟩, ⟨_, o17⟩⟩
  · rintro _ S' G' H' ⟨v27, xt, mk28, rfl, ⟨vs4, o9⟩, ⟨vs12, o17⟩⟩
    exact ⟨mk28, xt.gh⟩
  · rintro xv29 a30 s26 _ G33 H34 fl31 - ⟨v27, xt, mk28, rfl, ⟨vs4, o9⟩, ⟨vs12, o17⟩⟩ rx32 hm D' kN35 kC36 kB37 kR38
    have r_cells_here_ := Rp.mono (x25.gg.trans mk28) r_cells_here_
    have r_room_ := Rp.mono (x25.gg.trans mk28) r_room_
    refine sv_turn ?_
    refine bE hm fun ca43 h44 hm => ?_
    refine bE hm fun rz45 h46 hm => ?_
    refine sv_callW2 (K := K) (m := mm_law_put) rfl rfl o9 o17 (by first | assumption | exact Ne.symm (by assumption)) (av_cons (ev_var rfl rx32) (av_cons (ev_var rfl r_room_) av_nil)) h44 h46 xt.gh fun G47 H48 G49 H50 vs53 vs54 x51 y52 o55 o56 => ?_
    have xt := (xt.trans x51).past (C := [p3, p11]) (fun b hb => by simp only [List.mem_cons, List.not_mem_nil, or_false] at hb; (first | (rcases hb with e | e <;> (rw [e]; assumption)) | (rw [hb]; assumption))) y52
    have mk28 := mk28.trans (x51.gg.trans y52.gg)
    have r_cells_here_ := Rp.mono (x51.gg.trans y52.gg) r_cells_here_
    have r_room_ := Rp.mono (x51.gg.trans y52.gg) r_room_
    have rx32 := Rp.mono (x51.gg.trans y52.gg) rx32
    cases hm
    exact kN35 _ _ _ _ rfl ⟨_, xt, mk28, rfl, ⟨_, o55⟩, ⟨_, o56⟩⟩
  · rintro s26 _ G59 H60 rfl ⟨v57, xt, mk58, rfl, ⟨vs4, o9⟩, ⟨vs12, o17⟩⟩
    refine sv_nx ?_
    have r_cells_here_ := Rp.mono (x25.gg.trans mk58) r_cells_here_
    have r_room_ := Rp.mono (x25.gg.trans mk58) r_room_
    refine bE hm fun fl61 h62 hm => ?_
    refine sv_while (K := K) (G := G59) (RR := fun r v G' H' => Ext G0 H0 G' H' ∧ Rp.rel K G' v r) h62 (fun s63 S' G' H' => ∃ (v64 : Option V), Ext G0 H0 G' H' ∧ Same G59 G' ∧ S' = [some v_cells_here_, some v_room_, some (V.ref p3), some (V.ref p11), v57, v64] ∧ (∃ vs, Own K G' H' (V.ref p3) p3 vs s63.1) ∧ (∃ vs, Own K G' H' (V.ref p11) p11 vs s63.2)) ⟨?_, ?_, ?_, ?_, ?_, ?_⟩
    · exact ⟨_, xt, (Same.refl _), rfl, ⟨_, o9⟩, ⟨_, o17⟩⟩
    · rintro _ S' G' H' ⟨v64, xt, mk65, rfl, ⟨vs4, o9⟩, ⟨vs12, o17⟩⟩
      exact xt.gh
    · rintro s63 _ G66 H67 b' ⟨v64, xt, mk65, rfl, ⟨vs4, o9⟩, ⟨vs12, o17⟩⟩ hc Q' k'
      have r_cells_here_ := Rp.mono mk65 r_cells_here_
      have r_room_ := Rp.mono mk65 r_room_
      refine TV.runB o9 (tv_test (K := K) (ev_ord (ev_len (ev_var rfl o9.tell)) ev_i)) hc xt.gh fun G68 H69 x70 => ?_
      have xt := xt.trans x70
      have mk65 := mk65.trans x70.gg
      have r_cells_here_ := Rp.mono x70.gg r_cells_here_
      have r_room_ := Rp.mono x70.gg r_room_
      have o9 := o9.ext x70
      have o17 := o17.ext x70
      exact k' _ _ ⟨_, xt, mk65, rfl, ⟨_, o9⟩, ⟨_, o17⟩⟩
    · rintro s63 _ G72 H73 fl71 ⟨v64, xt, mk65, rfl, ⟨vs4, o9⟩, ⟨vs12, o17⟩⟩ hm - D' kN74 kC75 kB76 kR77
      have r_cells_here_ := Rp.mono mk65 r_cells_here_
      have r_room_ := Rp.mono mk65 r_room_
      refine bE hm fun pr78 h79 hm => ?_
      refine sv_pop (K := K) (a := pr78.1) (as' := pr78.2) rfl o9 h79 fun w80 r81 o82 => ?_
      have xt : Ext G0 H0 G72 (upd H73 p3 (.lst vs4.dropLast)) := xt.put hz8 o82.g
      have o17 := o17.put (q := p3) (ho := .lst vs4.dropLast) (by first | assumption | exact Ne.symm (by assumption))
      refine bE hm fun pr83 h84 hm => ?_
      refine bE hm fun a85 h86 hm => ?_
      refine bE hm fun z87 h88 hm => ?_
      refine sv_appendP (K := K) (as' := pr83.2) rfl o82 (pv_tupN (pl_there (bv_own o82.g (ev_at (FV.ev (fv_lst (lv_cons (ev_txtN ev_s) (lv_cons (ev_txtN ev_s) (lv_cons (ev_txtN ev_s) (lv_nil (α := Nt))))))) (ev_modR (ev_len (ev_var rfl o82.tell))))) (pl_here (pv_pop (a := pr83.1) (as' := pr83.2) rfl h84) (lv_cons (ev_var rfl r81) (lv_nil (α := Nt)))))) h86 h88 xt.gh fun G89 H90 w91 y92 o93 => ?_
      have xt : Ext G0 H0 G89 (upd H90 p3 (.lst (vs4.dropLast.dropLast ++ [w91]))) := (xt.past (C := [p3]) (fun b hb => by rw [List.mem_singleton.mp hb]; exact hz8) y92).put hz8 o93.g
      have mk65 := mk65.trans y92.gg
      have r_cells_here_ := Rp.mono y92.gg r_cells_here_
      have r_room_ := Rp.mono y92.gg r_room_
      have o17 := (o17.past (by rw [List.mem_singleton]; exact (by first | assumption | exact Ne.symm (by assumption))) y92).put (q := p3) (ho := .lst (vs4.dropLast.dropLast ++ [w91])) (by first | assumption | exact Ne.symm (by assumption))
      have r81 := Rp.mono y92.gg r81
      refine bE hm fun a106 h107 hm => ?_
      refine bE hm fun k108 h109 hm => ?_
      refine bE hm fun z117 h110 hm => ?_
      refine sv_setitemB (K := K) rfl o17 (ev_add (ev_at (ev_var rfl o17.tell) ev_i) ev_i) h107 ev_i h109 h110 xt.gh fun G111 H112 w113 j114 x115 o116 => ?_
      have xt : Ext G0 H0 G111 (upd H112 p11 (.lst (vs12.set j114 w113))) := (xt.trans x115).put hz16 o116.g
      have mk65 := mk65.trans x115.gg
      have r_cells_here_ := Rp.mono x115.gg r_cells_here_
      have r_room_ := Rp.mono x115.gg r_room_
      have o93 := (o93.ext x115).put (q := p11) (ho := .lst (vs12.set j114 w113)) (by first | assumption | exact Ne.symm (by assumption))
      have r81 := Rp.mono x115.gg r81
      cases hm
      exact kN74 _ _ _ _ rfl ⟨_, xt, mk65, rfl, ⟨_, o93⟩, ⟨_, o116⟩⟩
    · rintro s63 _ G120 H121 rfl ⟨v118, xt, mk119, rfl, ⟨vs4, o9⟩, ⟨vs12, o17⟩⟩
      refine sv_nx ?_
      have r_cells_here_ := Rp.mono mk119 r_cells_here_
      have r_room_ := Rp.mono mk119 r_room_
      have sf := Same.new (o := .lst vs12) o17.g
      have xt := xt.frz hz16 o17.g o17.h
      have r128 := o17.tell
      have r_cells_here_ := Rp.mono sf r_cells_here_
      have r_room_ := Rp.mono sf r_room_
      have o9 := o9.over (o := .lst vs12) (by first | assumption | exact Ne.symm (by assumption)) o17.g
      have sf := Same.new (o := .lst vs4) o9.g
      have xt := xt.frz hz8 o9.g o9.h
      have r129 := o9.tell
      have r_cells_here_ := Rp.mono sf r_cells_here_
      have r_room_ := Rp.mono sf r_room_
      have r128 := Rp.mono sf r128
      exact sv_ret (K := K) (ev_tup2 (ev_at (ev_var rfl r129) ev_i) (ev_at (ev_var rfl r128) ev_i)) hm xt.gh fun v136 G137 H138 x139 r140 => q v136 G137 H138 (xt.trans x139) r140
    · rintro r' v' G' H' rfl rl
      cases hm
      exact q v' G' H' rl.1 rl.2
  · rintro r' v' G' H' rfl rl
    cases hm
    exact q v' G' H' rl.1 rl.2
theorem ok_law_stream {f : Addr} {fd : FuncData} (F : Fun K "_law_stream" "_law_stream" s_law_stream f fd) (T : Txt w K mg) : FnOk P w K mg base CX0 1 f fd ["_law_cell", "_law_many"] (spL K mm_law_stream) := by
  refine F.ok sc_law_stream (fun vs H Q E h => (spL_len h).trans rfl) (fun cdv A outer s H0 vs Q E hr h => ?_)
  obtain ⟨G0, ⟨cell_, ⟨many_, ⟨⟩⟩⟩, res, sg0, ⟨v_cell_, _, rfl, r_cell_, ⟨v_many_, _, rfl, r_many_, rfl⟩⟩, hm, q⟩ := h
  replace r_cell_ : Rp.rel K G0 v_cell_ cell_ := r_cell_
  replace r_many_ : Rp.rel K G0 v_many_ many_ := r_many_
  replace hm : m_law_stream cell_ many_ = some res := hm
  unfold m_law_stream at hm
  have xt : Ext G0 H0 G0 H0 := Ext.refl sg0
  refine ⟨_, (pss_cons (ps_set (i := 2) sc_law_stream.nd rfl (Or.inl rfl) (pe_lst pa_nil))
      (pss_cons (ps_set (i := 3) sc_law_stream.nd rfl (Or.inl rfl) (pe_op (op_plusK (K := K) rfl) (pe_op op_mod (pv 0) pe_int) pe_int))
      (pss_cons (ps_for PassesOwn.never rfl (pi_range1 rfl T.range_ (pa_cons (pv 1) pa_nil)) (pg_name (i := 4) sc_law_stream.nd rfl (Or.inl rfl)) (pss_cons (ps_set (i := 3) sc_law_stream.nd rfl (Or.inl rfl) (pe_op op_mod (pe_op (op_plusK (K := K) rfl) (pe_op (op_plusK (K := K) rfl) (pe_op (op_mulK (K := K) rfl) (pv 3) (pv 3)) (pe_op (op_mulK (K := K) rfl) pe_int (pv 3))) (pv 4)) pe_int))
      (pss_cons (ps_expr (pe_bmK (K := K) rfl PySem.F.plainAttrs_list PySem.F.slot_list_append PySem.F.type_list_append mt_append (pv 2) (pa_cons (pv 3) pa_nil)))
      pss_nil)))
      (pss_cons (ps_ret (pv 2))
      pss_nil)))), ?_⟩
  refine bE hm fun numbers_ h8 hm => ?_
  refine sv_own (K := K) (fv_lst (lv_nil (α := Int))) h8 xt.gh fun p1 vs2 G3 H4 x5 hz6 o7 => ?_
  have hz6 := xt.hh.free hz6
  have xt := xt.trans x5
  have r_cell_ := Rp.mono x5.gg r_cell_
  have r_many_ := Rp.mono x5.gg r_many_
  refine bE hm fun number_ h14 hm => ?_
  refine sv_set (K := K) (ev_add (ev_modR (ev_var rfl r_cell_)) ev_i) h14 xt.gh fun v9 G10 H11 x12 r13 => ?_
  have xt := xt.trans x12
  have r_cell_ := Rp.mono x12.gg r_cell_
  have r_many_ := Rp.mono x12.gg r_many_
  have o7 := o7.ext x12
  refine bE hm fun as16 h17 hm => ?_
  refine bE hm fun fl18 h19 hm => ?_
  refine sv_for (K := K) (RR := fun r v G' H' => ∃ p vs, v = V.ref p ∧ Ext G0 H0 G' H' ∧ H0 p = none ∧ Own K G' H' (V.ref p) p vs r) (iw_rng1 (ev_var rfl r_many_)) h17 h19 xt.gh fun G20 H21 x22 => ⟨fun s23 S' G' H' => ∃ (v24 : V) (v25 : Option V), Ext G0 H0 G' H' ∧ Same G20 G' ∧ S' = [some v_cell_, some v_many_, some (V.ref p1), some v24, v25] ∧ (∃ vs, Own K G' H' (V.ref p1) p1 vs s23.1) ∧ Rp.rel K G' v24 (s23.2 : Int), ?_, ?_, ?_, ?_, ?_⟩
  · have xt := xt.trans x22
    have r_cell_ := Rp.mono x22.gg r_cell_
    have r_many_ := Rp.mono x22.gg r_many_
    have o7 := o7.ext x22
    have r13 := Rp.mono x22.gg r13
    exact ⟨v9, _, xt, (Same.refl _), rfl, ⟨_, o7⟩, r13⟩
  · rintro _ S' G' H' ⟨v24, v25, xt, mk26, rfl, ⟨vs2, o7⟩, r27⟩
    exact ⟨mk26, xt.gh⟩
  · rintro xv28 a29 s23 _ G32 H33 fl30 - ⟨v24, v25, xt, mk26, rfl, ⟨vs2, o7⟩, r27⟩ rx31 hm D' kN34 kC35 kB36 kR37
    have r_cell_ := Rp.mono (x22.gg.trans mk26) r_cell_
    have r_many_ := Rp.mono (x22.gg.trans mk26) r_many_
    refine sv_turn ?_
    refine bE hm fun number_ h48 hm => ?_
    refine sv_set (K := K) (ev_modR (ev_add (ev_add (ev_mul (ev_var rfl r27) (ev_var rfl r27)) (ev_mulL (ev_var rfl r27))) (ev_var rfl rx31))) h48 xt.gh fun v43 G44 H45 x46 r47 => ?_
    have xt := xt.trans x46
    have mk26 := mk26.trans x46.gg
    have r_cell_ := Rp.mono x46.gg r_cell_
    have r_many_ := Rp.mono x46.gg r_many_
    have o7 := o7.ext x46
    have r27 := Rp.mono x46.gg r27
    have rx31 := Rp.mono x46.gg rx31
    refine bE hm fun a49 h50 hm => ?_
    refine bE hm fun z57 h51 hm => ?_
    refine sv_append (K := K) rfl o7 (ev_var rfl r47) h50 h51 xt.gh fun G52 H53 w54 x55 o56 => ?_
    have xt : Ext G0 H0 G52 (upd H53 p1 (.lst (vs2 ++ [w54]))) := (xt.trans x55).put hz6 o56.g
    have mk26 := mk26.trans x55.gg
    have r_cell_ := Rp.mono x55.gg r_cell_
    have r_many_ := Rp.mono x55.gg r_many_
    have r47 := Rp.mono x55.gg r47
    have rx31 := Rp.mono x55.gg rx31
    cases hm
    exact kN34 _ _ _ _ rfl ⟨v43, _, xt, mk26, rfl, ⟨_, o56⟩, r47⟩
  · rintro s23 _ G62 H63 rfl ⟨v58, v59, xt, mk60, rfl, ⟨vs2, o7⟩, r61⟩
    refine sv_nx ?_
    have r_cell_ := Rp.mono (x22.gg.trans mk60) r_cell_
    have r_many_ := Rp.mono (x22.gg.trans mk60) r_many_
    cases hm
    exact sv_retO rfl o7 (q _ _ _ _ xt hz6 (o7.v ▸ o7))
  · rintro r' v' G' H' rfl rl
    cases hm
    obtain ⟨p', vs', rfl, x', h', o'⟩ := rl
    exact q p' vs' G' H' x' h' o'
seal eval in
theorem ok_law_none_at_all {f : Addr} {fd : FuncData} (F : Fun K "_law_none_at_all" "_law_none_at_all" s_law_none_at_all f fd) (T : Txt w K mg) : FnOk P w K mg base CX0 1 f fd ["_law_number", "_law_told"] (spM K mm_law_none_at_all) := by
  refine F.ok sc_law_none_at_all (fun vs H Q E h => (spM_len h).trans rfl) (fun cdv A outer s H0 vs Q E hr h => ?_)
  obtain ⟨G0, ⟨number_, ⟨told_, ⟨⟩⟩⟩, res, sg0, ⟨v_number_, _, rfl, r_number_, ⟨v_told_, _, rfl, r_told_, rfl⟩⟩, hm, q⟩ := h
  replace r_number_ : Rp.rel K G0 v_number_ number_ := r_number_
  replace r_told_ : Rp.rel K G0 v_told_ told_ := r_told_
  replace hm : m_law_none_at_all number_ told_ = some res := hm
  unfold m_law_none_at_all at hm
  have xt : Ext G0 H0 G0 H0 := Ext.refl sg0
  refine ⟨_, (pss_cons (ps_set (i := 2) sc_law_none_at_all.nd rfl (Or.inl rfl) (pe_lst (pa_cons pe_non (pa_cons pe_bl (pa_cons pe_bl (pa_cI (pa_cons pe_str (pa_cons pe_str (pa_cons pe_str (pa_cons (pe_tup pa_nil) (pa_cons (pe_lst pa_nil) (pa_cons pe_dnewK pa_nil))))))))))))
      (pss_cons (ps_set (i := 2) sc_law_none_at_all.nd rfl (Or.inl rfl) (pe_op (op_plusK (K := K) rfl) (pv 2) (pe_lst (pa_cons (pe_tup (pa_cons pe_str pa_nil)) (pa_cons (pe_tup (pa_cons pe_str (pa_cons pe_str pa_nil))) (pa_cons (pe_tup (pa_cons pe_str (pa_cons pe_str pa_nil))) (pa_cons (pe_tup (pa_cons pe_str (pa_cons pe_str pa_nil))) (pa_cons (pe_tup (pa_cons pe_str (pa_cons pe_int pa_nil))) (pa_cons (pe_tup (pa_cons pe_str (pa_cons pe_non pa_nil))) (pa_cons (pe_tup (pa_cons pe_str (pa_cons (pe_lst (pa_cons pe_str pa_nil)) pa_nil))) pa_nil))))))))))
      (pss_cons (ps_set (i := 2) sc_law_none_at_all.nd rfl (Or.inl rfl) (pe_op (op_plusK (K := K) rfl) (pv 2) (pe_lst (pa_cons (pe_tup (pa_cons pe_str (pa_cons pe_str (pa_cons pe_str pa_nil)))) (pa_cons (pe_tup (pa_cons pe_str (pa_cons pe_str pa_nil))) (pa_cons (pe_tup (pa_cons pe_str (pa_cons pe_str pa_nil))) (pa_cons (pe_tup (pa_cons pe_str (pa_cons (pv 1) pa_nil))) (pa_cons (pe_tup (pa_cons pe_str (pa_cons pe_str pa_nil))) (pa_cons (pe_tup (pa_cons pe_str (pa_cons pe_str pa_nil))) pa_nil)))))))))
      (pss_cons (ps_set (i := 2) sc_law_none_at_all.nd rfl (Or.inl rfl) (pe_op (op_plusK (K := K) rfl) (pv 2) (pe_lst (pa_cons (pe_tup (pa_cons pe_str (pa_cons (pv 1) pa_nil))) (pa_cons (pe_tup (pa_cons pe_str (pa_cons pe_str pa_nil))) (pa_cons (pe_tup (pa_cons pe_str (pa_cons pe_non pa_nil))) (pa_cons (pe_lst (pa_cons pe_str pa_nil)) (pa_cons (pe_lst (pa_cons pe_str (pa_cons pe_str pa_nil))) (pa_cons (pe_callTy (call_listK (K := K) rfl) (by rfl) T.list_ bt_list (pa_cons (pv 1) pa_nil)) (pa_cons (pe_disp (pps_cons pe_str (pv 1) pps_nil) rfl rfl (fun z => nomatch z) (by decide)) pa_nil))))))))))
      (pss_cons (ps_set (i := 2) sc_law_none_at_all.nd rfl (Or.inl rfl) (pe_op (op_plusK (K := K) rfl) (pv 2) (pe_lst (pa_cons (pe_tup (pa_cons pe_str pa_nil)) (pa_cons (pe_tup (pa_cons pe_str (pa_cons (pv 1) (pa_cons (pv 1) pa_nil)))) (pa_cons (pe_tup (pa_cons pe_str pa_nil)) (pa_cons (pe_tup (pa_cons pe_str (pa_cons (pv 1) (pa_cons (pv 1) pa_nil)))) (pa_cons (pe_tup (pa_cons pe_str (pa_cons (pv 1) (pa_cons pe_non pa_nil)))) pa_nil))))))))
      (pss_cons (ps_set (i := 2) sc_law_none_at_all.nd rfl (Or.inl rfl) (pe_op (op_plusK (K := K) rfl) (pv 2) (pe_lst (pa_cons (pe_tup (pa_cons pe_str (pa_cons (pv 1) pa_nil))) (pa_cons (pe_tup (pa_cons pe_str pa_nil)) (pa_cons (pe_tup (pa_cons pe_str (pa_cons (pv 1) (pa_cons (pv 1) (pa_cons (pv 1) pa_nil))))) (pa_cons (pe_tup (pa_cons pe_str (pa_cons (pv 1) pa_nil))) (pa_cons (pe_tup (pa_cons pe_str (pa_cons (pe_lst (pa_cons (pv 1) (pa_cons (pv 1) pa_nil))) pa_nil))) pa_nil))))))))
      (pss_cons (ps_set (i := 2) sc_law_none_at_all.nd rfl (Or.inl rfl) (pe_op (op_plusK (K := K) rfl) (pv 2) (pe_lst (pa_cons (pe_tup (pa_cons pe_str (pa_cons (pv 1) pa_nil))) (pa_cons (pe_tup (pa_cons pe_str (pa_cons (pv 1) pa_nil))) (pa_cons (pe_tup (pa_cons pe_str (pa_cons (pv 1) pa_nil))) (pa_cons (pe_tup (pa_cons pe_str (pa_cons (pv 1) pa_nil))) (pa_cons (pe_tup (pa_cons pe_non (pa_cons (pv 1) pa_nil))) (pa_cons (pe_tup (pa_cons pe_int (pa_cons (pv 1) pa_nil))) (pa_cons (pe_tup (pa_cons (pv 1) pa_nil)) pa_nil))))))))))
      (pss_cons (ps_set (i := 3) sc_law_none_at_all.nd rfl (Or.inl rfl) pe_str)
      (pss_cons (ps_set (i := 4) sc_law_none_at_all.nd rfl (Or.inl rfl) (pe_op op_mod (pe_op op_fdiv (pv 0) pe_int) (pe_callB (call_lenK (K := K) rfl) (by rfl) T.len_ bt_len (pa_cons (pv 3) pa_nil))))
      (pss_cons (ps_set (i := 2) sc_law_none_at_all.nd rfl (Or.inl rfl) (pe_op (op_plusK (K := K) rfl) (pv 2) (pe_lst (pa_cons (pe_tup (pa_cons (pe_lst (pa_cons pe_str pa_nil)) (pa_cons (pv 1) pa_nil))) (pa_cons (pe_tup (pa_cons pe_str (pa_cons (pe_ix (ix_anyK (K := K) rfl) (pv 3) (pv 4) (fun _ _ => rfl)) pa_nil))) (pa_cons (pe_tup (pa_cons pe_str (pa_cons (pe_op (op_plusK (K := K) rfl) pe_str (pe_ix (ix_anyK (K := K) rfl) (pv 3) (pv 4) (fun _ _ => rfl))) pa_nil))) pa_nil))))))
      (pss_cons (ps_ret (pe_ix (ix_anyK (K := K) rfl) (pv 2) (pe_op op_mod (pv 0) (pe_callB (call_lenK (K := K) rfl) (by rfl) T.len_ bt_len (pa_cons (pv 2) pa_nil))) (fun _ _ => rfl)))
      pss_nil))))))))))), ?_⟩
  refine bE hm fun some_ h6 hm => ?_
  refine sv_set (K := K) (FV.ev (fv_lst (lv_cons (ev_toD ev_n) (lv_cons (ev_toD ev_b) (lv_cons (ev_toD ev_b) (lv_cons (ev_toD ev_i) (lv_cons (ev_toD ev_s) (lv_cons (ev_toD ev_s) (lv_cons (ev_toD ev_s) (lv_cons (ev_toD (ev_tupL (lv_nil (α := D)))) (lv_cons (ev_toD (FV.ev (fv_lst (lv_nil (α := D))))) (lv_cons ev_dnew (lv_nil (α := D)))))))))))))) h6 xt.gh fun v1 G2 H3 x4 r5 => ?_
  have xt := xt.trans x4
  have r_number_ := Rp.mono x4.gg r_number_
  have r_told_ := Rp.mono x4.gg r_told_
  refine bE hm fun some_ h14 hm => ?_
  refine sv_set (K := K) (FV.ev (fv_cat (ev_var rfl r5) (FV.ev (fv_lst (lv_cons (ev_toD (ev_tupL (lv_cons (ev_toD ev_s) (lv_nil (α := D))))) (lv_cons (ev_toD (ev_tupL (lv_cons (ev_toD ev_s) (lv_cons (ev_toD ev_s) (lv_nil (α := D)))))) (lv_cons (ev_toD (ev_tupL (lv_cons (ev_toD ev_s) (lv_cons (ev_toD ev_s) (lv_nil (α := D)))))) (lv_cons (ev_toD (ev_tupL (lv_cons (ev_toD ev_s) (lv_cons (ev_toD ev_s) (lv_nil (α := D)))))) (lv_cons (ev_toD (ev_tupL (lv_cons (ev_toD ev_s) (lv_cons (ev_toD ev_i) (lv_nil (α := D)))))) (lv_cons (ev_toD (ev_tupL (lv_cons (ev_toD ev_s) (lv_cons (ev_toD ev_n) (lv_nil (α := D)))))) (lv_cons (ev_toD (ev_tupL (lv_cons (ev_toD ev_s) (lv_cons (ev_toD (FV.ev (fv_lst (lv_cons (ev_toD ev_s) (lv_nil (α := D)))))) (lv_nil (α := D)))))) (lv_nil (α := D))))))))))))) h14 xt.gh fun v9 G10 H11 x12 r13 => ?_
  have xt := xt.trans x12
  have r_number_ := Rp.mono x12.gg r_number_
  have r_told_ := Rp.mono x12.gg r_told_
  have r5 := Rp.mono x12.gg r5
  refine bE hm fun some_ h22 hm => ?_
  refine sv_set (K := K) (FV.ev (fv_cat (ev_var rfl r13) (FV.ev (fv_lst (lv_cons (ev_toD (ev_tupL (lv_cons (ev_toD ev_s) (lv_cons (ev_toD ev_s) (lv_cons (ev_toD ev_s) (lv_nil (α := D))))))) (lv_cons (ev_toD (ev_tupL (lv_cons (ev_toD ev_s) (lv_cons (ev_toD ev_s) (lv_nil (α := D)))))) (lv_cons (ev_toD (ev_tupL (lv_cons (ev_toD ev_s) (lv_cons (ev_toD ev_s) (lv_nil (α := D)))))) (lv_cons (ev_toD (ev_tupL (lv_cons (ev_toD ev_s) (lv_cons (ev_toD (ev_var rfl r_told_)) (lv_nil (α := D)))))) (lv_cons (ev_toD (ev_tupL (lv_cons (ev_toD ev_s) (lv_cons (ev_toD ev_s) (lv_nil (α := D)))))) (lv_cons (ev_toD (ev_tupL (lv_cons (ev_toD ev_s) (lv_cons (ev_toD ev_s) (lv_nil (α := D)))))) (lv_nil (α := D)))))))))))) h22 xt.gh fun v17 G18 H19 x20 r21 => ?_
  have xt := xt.trans x20
  have r_number_ := Rp.mono x20.gg r_number_
  have r_told_ := Rp.mono x20.gg r_told_
  have r13 := Rp.mono x20.gg r13
  refine bE hm fun some_ h39 hm => ?_
  refine sv_set (K := K) (FV.ev (fv_cat (ev_var rfl r21) (FV.ev (fv_lst (lv_cons (ev_toD (ev_tupL (lv_cons (ev_toD ev_s) (lv_cons (ev_toD (ev_var rfl r_told_)) (lv_nil (α := D)))))) (lv_cons (ev_toD (ev_tupL (lv_cons (ev_toD ev_s) (lv_cons (ev_toD ev_s) (lv_nil (α := D)))))) (lv_cons (ev_toD (ev_tupL (lv_cons (ev_toD ev_s) (lv_cons (ev_toD ev_n) (lv_nil (α := D)))))) (lv_cons (ev_toD (FV.ev (fv_lst (lv_cons (ev_toD ev_s) (lv_nil (α := D)))))) (lv_cons (ev_toD (FV.ev (fv_lst (lv_cons (ev_toD ev_s) (lv_cons (ev_toD ev_s) (lv_nil (α := D))))))) (lv_cons (ev_toD (FV.ev (fv_listT (ev_asTup (ev_var rfl r_told_))))) (lv_cons (ev_disp1 (ev_var rfl r_told_)) (lv_nil (α := D))))))))))))) h39 xt.gh fun v34 G35 H36 x37 r38 => ?_
  have xt := xt.trans x37
  have r_number_ := Rp.mono x37.gg r_number_
  have r_told_ := Rp.mono x37.gg r_told_
  have r21 := Rp.mono x37.gg r21
  refine bE hm fun some_ h47 hm => ?_
  refine sv_set (K := K) (FV.ev (fv_cat (ev_var rfl r38) (FV.ev (fv_lst (lv_cons (ev_toD (ev_tupL (lv_cons (ev_toD ev_s) (lv_nil (α := D))))) (lv_cons (ev_toD (ev_tupL (lv_cons (ev_toD ev_s) (lv_cons (ev_toD (ev_var rfl r_told_)) (lv_cons (ev_toD (ev_var rfl r_told_)) (lv_nil (α := D))))))) (lv_cons (ev_toD (ev_tupL (lv_cons (ev_toD ev_s) (lv_nil (α := D))))) (lv_cons (ev_toD (ev_tupL (lv_cons (ev_toD ev_s) (lv_cons (ev_toD (ev_var rfl r_told_)) (lv_cons (ev_toD (ev_var rfl r_told_)) (lv_nil (α := D))))))) (lv_cons (ev_toD (ev_tupL (lv_cons (ev_toD ev_s) (lv_cons (ev_toD (ev_var rfl r_told_)) (lv_cons (ev_toD ev_n) (lv_nil (α := D))))))) (lv_nil (α := D))))))))))) h47 xt.gh fun v42 G43 H44 x45 r46 => ?_
  have xt := xt.trans x45
  have r_number_ := Rp.mono x45.gg r_number_
  have r_told_ := Rp.mono x45.gg r_told_
  have r38 := Rp.mono x45.gg r38
  refine bE hm fun some_ h55 hm => ?_
  refine sv_set (K := K) (FV.ev (fv_cat (ev_var rfl r46) (FV.ev (fv_lst (lv_cons (ev_toD (ev_tupL (lv_cons (ev_toD ev_s) (lv_cons (ev_toD (ev_var rfl r_told_)) (lv_nil (α := D)))))) (lv_cons (ev_toD (ev_tupL (lv_cons (ev_toD ev_s) (lv_nil (α := D))))) (lv_cons (ev_toD (ev_tupL (lv_cons (ev_toD ev_s) (lv_cons (ev_toD (ev_var rfl r_told_)) (lv_cons (ev_toD (ev_var rfl r_told_)) (lv_cons (ev_toD (ev_var rfl r_told_)) (lv_nil (α := D)))))))) (lv_cons (ev_toD (ev_tupL (lv_cons (ev_toD ev_s) (lv_cons (ev_toD (ev_var rfl r_told_)) (lv_nil (α := D)))))) (lv_cons (ev_toD (ev_tupL (lv_cons (ev_toD ev_s) (lv_cons (ev_toD (FV.ev (fv_lst (lv_cons (ev_toD (ev_var rfl r_told_)) (lv_cons (ev_toD (ev_var rfl r_told_)) (lv_nil (α := D))))))) (lv_nil (α := D)))))) (lv_nil (α := D))))))))))) h55 xt.gh fun v50 G51 H52 x53 r54 => ?_
  have xt := xt.trans x53
  have r_number_ := Rp.mono x53.gg r_number_
  have r_told_ := Rp.mono x53.gg r_told_
  have r46 := Rp.mono x53.gg r46
  refine bE hm fun some_ h63 hm => ?_
  refine sv_set (K := K) (FV.ev (fv_cat (ev_var rfl r54) (FV.ev (fv_lst (lv_cons (ev_toD (ev_tupL (lv_cons (ev_toD ev_s) (lv_cons (ev_toD (ev_var rfl r_told_)) (lv_nil (α := D)))))) (lv_cons (ev_toD (ev_tupL (lv_cons (ev_toD ev_s) (lv_cons (ev_toD (ev_var rfl r_told_)) (lv_nil (α := D)))))) (lv_cons (ev_toD (ev_tupL (lv_cons (ev_toD ev_s) (lv_cons (ev_toD (ev_var rfl r_told_)) (lv_nil (α := D)))))) (lv_cons (ev_toD (ev_tupL (lv_cons (ev_toD ev_s) (lv_cons (ev_toD (ev_var rfl r_told_)) (lv_nil (α := D)))))) (lv_cons (ev_toD (ev_tupL (lv_cons (ev_toD ev_n) (lv_cons (ev_toD (ev_var rfl r_told_)) (lv_nil (α := D)))))) (lv_cons (ev_toD (ev_tupL (lv_cons (ev_toD ev_i) (lv_cons (ev_toD (ev_var rfl r_told_)) (lv_nil (α := D)))))) (lv_cons (ev_toD (ev_tupL (lv_cons (ev_toD (ev_var rfl r_told_)) (lv_nil (α := D))))) (lv_nil (α := D))))))))))))) h63 xt.gh fun v58 G59 H60 x61 r62 => ?_
  have xt := xt.trans x61
  have r_number_ := Rp.mono x61.gg r_number_
  have r_told_ := Rp.mono x61.gg r_told_
  have r54 := Rp.mono x61.gg r54
  refine bE hm fun signs_ h69 hm => ?_
  refine sv_set (K := K) ev_s h69 xt.gh fun v64 G65 H66 x67 r68 => ?_
  have xt := xt.trans x67
  have r_number_ := Rp.mono x67.gg r_number_
  have r_told_ := Rp.mono x67.gg r_told_
  have r62 := Rp.mono x67.gg r62
  refine bE hm fun at_ h77 hm => ?_
  refine sv_set (K := K) (ev_mod (ev_divR (ev_var rfl r_number_)) (ev_lenS (ev_var rfl r68))) h77 xt.gh fun v72 G73 H74 x75 r76 => ?_
  have xt := xt.trans x75
  have r_number_ := Rp.mono x75.gg r_number_
  have r_told_ := Rp.mono x75.gg r_told_
  have r62 := Rp.mono x75.gg r62
  have r68 := Rp.mono x75.gg r68
  refine bE hm fun some_ h105 hm => ?_
  refine sv_set (K := K) (FV.ev (fv_cat (ev_var rfl r62) (FV.ev (fv_lst (lv_cons (ev_toD (ev_tupL (lv_cons (ev_toD (FV.ev (fv_lst (lv_cons (ev_toD ev_s) (lv_nil (α := D)))))) (lv_cons (ev_toD (ev_var rfl r_told_)) (lv_nil (α := D)))))) (lv_cons (ev_toD (ev_tupL (lv_cons (ev_toD ev_s) (lv_cons (ev_toD (ev_atS (ev_var rfl r68) (ev_var rfl r76))) (lv_nil (α := D)))))) (lv_cons (ev_toD (ev_tupL (lv_cons (ev_toD ev_s) (lv_cons (ev_toD (ev_catS ev_s (ev_atS (ev_var rfl r68) (ev_var rfl r76)))) (lv_nil (α := D)))))) (lv_nil (α := D))))))))) h105 xt.gh fun v100 G101 H102 x103 r104 => ?_
  have xt := xt.trans x103
  have r_number_ := Rp.mono x103.gg r_number_
  have r_told_ := Rp.mono x103.gg r_told_
  have r62 := Rp.mono x103.gg r62
  have r68 := Rp.mono x103.gg r68
  have r76 := Rp.mono x103.gg r76
  exact sv_ret (K := K) (ev_at (ev_var rfl r104) (ev_mod (ev_var rfl r_number_) (ev_len (ev_var rfl r104)))) hm xt.gh fun v110 G111 H112 x113 r114 => q v110 G111 H112 (xt.trans x113) r114
theorem ok_law_spoiled {f : Addr} {fd : FuncData} (F : Fun K "_law_spoiled" "_law_spoiled" s_law_spoiled f fd) (T : Txt w K mg) (D_law_none_at_all : DefOk P w K mg base "_law_none_at_all" 1 ["_law_number", "_law_told"] (spM K mm_law_none_at_all)) : FnOk P w K mg base CX0 2 f fd ["_law_told", "_law_numbers"] (spM K mm_law_spoiled) := by
  refine F.ok sc_law_spoiled (fun vs H Q E h => (spM_len h).trans rfl) (fun cdv A outer s H0 vs Q E hr h => ?_)
  obtain ⟨G0, ⟨told_, ⟨numbers_, ⟨⟩⟩⟩, res, sg0, ⟨v_told_, _, rfl, r_told_, ⟨v_numbers_, _, rfl, r_numbers_, rfl⟩⟩, hm, q⟩ := h
  replace r_told_ : Rp.rel K G0 v_told_ told_ := r_told_
  replace r_numbers_ : Rp.rel K G0 v_numbers_ numbers_ := r_numbers_
  replace hm : m_law_spoiled told_ numbers_ = some res := hm
  unfold m_law_spoiled at hm
  have xt : Ext G0 H0 G0 H0 := Ext.refl sg0
  refine ⟨_, (pss_cons (ps_set (i := 2) sc_law_spoiled.nd rfl (Or.inl rfl) (pe_lst pa_nil))
      (pss_cons (ps_for PassesOwn.never rfl (pi_anyK (K := K) rfl (pe_slice (sl_anyK (K := K) rfl) (pv 1) (po_some pe_int) po_none)) (pg_name (i := 3) sc_law_spoiled.nd rfl (Or.inl rfl)) (pss_cons (ps_if (PW.pt (pw_and (pt_cmpR op_ne (pe_ix (ix_anyK (K := K) rfl) (pv 0) pe_int (fun _ _ => rfl)) pe_str (nomark _)) (pw_and (pt_cmpR op_gtU (pe_callB (call_lenK (K := K) rfl) (by rfl) T.len_ bt_len (pa_cons (pv 0) pa_nil)) pe_int (nomark _)) (pw_and1 (pt_cmpR op_ne (pe_op op_mod (pv 3) pe_int) pe_int (nomark _)))))) (pss_cons (ps_set (i := 4) sc_law_spoiled.nd rfl (Or.inl rfl) (pe_op (op_plusK (K := K) rfl) pe_int (pe_op op_mod (pe_op op_fdiv (pv 3) pe_int) (pe_op op_sub (pe_callB (call_lenK (K := K) rfl) (by rfl) T.len_ bt_len (pa_cons (pv 0) pa_nil)) pe_int))))
      (pss_cons (ps_expr (pe_bmK (K := K) rfl PySem.F.plainAttrs_list PySem.F.slot_list_append PySem.F.type_list_append mt_append (pv 2) (pa_cons (pe_tup (pa_cons (pv 0) (pa_cons (pv 4) pa_nil))) pa_nil)))
      (pss_cons (ps_set (i := 0) sc_law_spoiled.nd rfl (Or.inl rfl) (pe_ix (ix_anyK (K := K) rfl) (pv 0) (pv 4) (fun _ _ => rfl)))
      pss_nil))) pss_nil)
      pss_nil))
      (pss_cons (ps_set (i := 5) sc_law_spoiled.nd rfl (Or.inl rfl) (pe_def D_law_none_at_all hr (by decide) rfl (pa_cons (pe_ix (ix_anyK (K := K) rfl) (pv 1) pe_int (fun _ _ => rfl)) (pa_cons (pv 0) pa_nil))))
      (pss_cons (ps_for PassesOwn.never rfl (pi_rev (K := K) rfl (by rfl) T.reversed_ (pa_cons (pv 2) pa_nil)) (pg_tup rfl (pgs_cons (pg_name (i := 6) sc_law_spoiled.nd rfl (Or.inl rfl)) (pgs_cons (pg_name (i := 4) sc_law_spoiled.nd rfl (Or.inl rfl)) pgs_nil))) (pss_cons (ps_set (i := 5) sc_law_spoiled.nd rfl (Or.inl rfl) (pe_op (op_catTp (K := K) rfl) (pe_op (op_catTp (K := K) rfl) (pe_slice (sl_tupA (K := K) rfl) (pv 6) po_none (po_some (pv 4))) (pe_tup (pa_cons (pv 5) pa_nil))) (pe_slice (sl_tupK (K := K) rfl) (pv 6) (po_some (pe_op (op_plusK (K := K) rfl) (pv 4) pe_int)) po_none)))
      pss_nil))
      (pss_cons (ps_ret (pv 5))
      pss_nil))))), ?_⟩
  refine bE hm fun path_ h8 hm => ?_
  refine sv_own (K := K) (fv_lst (lv_nil (α := (Nt × Int)))) h8 xt.gh fun p1 vs2 G3 H4 x5 hz6 o7 => ?_
  have hz6 := xt.hh.free hz6
  have xt := xt.trans x5
  have r_told_ := Rp.mono x5.gg r_told_
  have r_numbers_ := Rp.mono x5.gg r_numbers_
  refine bE hm fun as9 h10 hm => ?_
  refine bE hm fun fl11 h12 hm => ?_
  refine sv_for (K := K) (RR := fun r v G' H' => Ext G0 H0 G' H' ∧ Rp.rel K G' v r) (iw_list (FV.ev (fv_slice (ev_var rfl r_numbers_) (ov_some (K := K) ev_i) ov_none))) h10 h12 xt.gh fun G13 H14 x15 => ⟨fun s16 S' G' H' => ∃ (v17 : V) (v18 : Option V) (v19 : Option V), Ext G0 H0 G' H' ∧ Same G13 G' ∧ S' = [some v17, some v_numbers_, some (V.ref p1), v18, v19, none, none] ∧ Rp.rel K G' v17 (s16.1 : Nt) ∧ (∃ vs, Own K G' H' (V.ref p1) p1 vs s16.2), ?_, ?_, ?_, ?_, ?_⟩
  · have xt := xt.trans x15
    have r_told_ := Rp.mono x15.gg r_told_
    have r_numbers_ := Rp.mono x15.gg r_numbers_
    have o7 := o7.ext x15
    exact ⟨v_told_, _, _, xt, (Same.refl _), rfl, r_told_, ⟨_, o7⟩⟩
  · rintro _ S' G' H' ⟨v17, v18, v19, xt, mk20, rfl, r21, ⟨vs2, o7⟩⟩
    exact ⟨mk20, xt.gh⟩
  · rintro xv22 a23 s16 _ G26 H27 fl24 - ⟨v17, v18, v19, xt, mk20, rfl, r21, ⟨vs2, o7⟩⟩ rx25 hm D' kN28 kC29 kB30 kR31
    have r_numbers_ := Rp.mono (x15.gg.trans mk20) r_numbers_
    refine sv_turn ?_
    refine bE hm fun b45 h46 hm => ?_
    refine sv_if (tv_and (tv_test (K := K) (ev_neS (ev_asTxt (ev_atT (ev_asTup (ev_var rfl r21)) ev_i)) ev_s)) (tv_and (tv_test (K := K) (ev_ord (ev_lenT (ev_asTup (ev_var rfl r21))) ev_i)) (tv_test (K := K) (ev_neI (ev_modR (ev_var rfl rx25)) ev_i)))) h46 xt.gh fun G47 H48 x49 => ?_
    have xt := xt.trans x49
    have mk20 := mk20.trans x49.gg
    have r21 := Rp.mono x49.gg r21
    have r_numbers_ := Rp.mono x49.gg r_numbers_
    have o7 := o7.ext x49
    have rx25 := Rp.mono x49.gg rx25
    cases b45 with
    | true =>
      replace hm := cT hm
      refine iteT ?_
      refine bE hm fun at_ h61 hm => ?_
      refine sv_set (K := K) (ev_add ev_i (ev_mod (ev_divR (ev_var rfl rx25)) (ev_sub (ev_lenT (ev_asTup (ev_var rfl r21))) ev_i))) h61 xt.gh fun v56 G57 H58 x59 r60 => ?_
      have xt := xt.trans x59
      have mk20 := mk20.trans x59.gg
      have r21 := Rp.mono x59.gg r21
      have r_numbers_ := Rp.mono x59.gg r_numbers_
      have o7 := o7.ext x59
      have rx25 := Rp.mono x59.gg rx25
      refine bE hm fun a62 h63 hm => ?_
      refine bE hm fun z70 h64 hm => ?_
      refine sv_append (K := K) rfl o7 (ev_tup2 (ev_var rfl r21) (ev_var rfl r60)) h63 h64 xt.gh fun G65 H66 w67 x68 o69 => ?_
      have xt : Ext G0 H0 G65 (upd H66 p1 (.lst (vs2 ++ [w67]))) := (xt.trans x68).put hz6 o69.g
      have mk20 := mk20.trans x68.gg
      have r21 := Rp.mono x68.gg r21
      have r_numbers_ := Rp.mono x68.gg r_numbers_
      have rx25 := Rp.mono x68.gg rx25
      have r60 := Rp.mono x68.gg r60
      refine bE hm fun told_ h79 hm => ?_
      refine sv_set (K := K) (ev_atT (ev_asTup (ev_var rfl r21)) (ev_var rfl r60)) h79 xt.gh fun v74 G75 H76 x77 r78 => ?_
      have xt := xt.trans x77
      have mk20 := mk20.trans x77.gg
      have r21 := Rp.mono x77.gg r21
      have r_numbers_ := Rp.mono x77.gg r_numbers_
      have o69 := o69.ext x77
      have rx25 := Rp.mono x77.gg rx25
      have r60 := Rp.mono x77.gg r60
      cases hm
      exact kN28 _ _ _ _ rfl ⟨v74, _, _, xt, mk20, rfl, r78, ⟨_, o69⟩⟩
    | false =>
      replace hm := cF hm
      refine iteF ?_
      cases hm
      exact kN28 _ _ _ _ rfl ⟨v17, _, _, xt, mk20, rfl, r21, ⟨_, o7⟩⟩
  · rintro s16 _ G85 H86 rfl ⟨v80, v81, v82, xt, mk83, rfl, r84, ⟨vs2, o7⟩⟩
    refine sv_nx ?_
    have r_numbers_ := Rp.mono (x15.gg.trans mk83) r_numbers_
    refine bE hm fun thing_ h96 hm => ?_
    refine sv_set (K := K) (ev_def2 (m := mm_law_none_at_all) (ev_at (ev_var rfl r_numbers_) ev_i) (ev_var rfl r84)) h96 xt.gh fun v91 G92 H93 x94 r95 => ?_
    have xt := xt.trans x94
    have r84 := Rp.mono x94.gg r84
    have r_numbers_ := Rp.mono x94.gg r_numbers_
    have o7 := o7.ext x94
    have sf := Same.new (o := .lst vs2) o7.g
    have xt := xt.frz hz6 o7.g o7.h
    have r97 := o7.tell
    have r84 := Rp.mono sf r84
    have r_numbers_ := Rp.mono sf r_numbers_
    have r95 := Rp.mono sf r95
    refine bE hm fun as98 h99 hm => ?_
    refine bE hm fun fl100 h101 hm => ?_
    refine sv_for (K := K) (RR := fun r v G' H' => Ext G0 H0 G' H' ∧ Rp.rel K G' v r) (iw_rev (ev_var rfl r97)) h99 h101 xt.gh fun G102 H103 x104 => ⟨fun s105 S' G' H' => ∃ (v106 : Option V) (v107 : V) (v108 : Option V), Ext G0 H0 G' H' ∧ Same G102 G' ∧ S' = [some v80, some v_numbers_, some (V.ref p1), v81, v106, some v107, v108] ∧ Rp.rel K G' v107 (s105 : D), ?_, ?_, ?_, ?_, ?_⟩
    · have xt := xt.trans x104
      have r84 := Rp.mono x104.gg r84
      have r_numbers_ := Rp.mono x104.gg r_numbers_
      have r97 := Rp.mono x104.gg r97
      have r95 := Rp.mono x104.gg r95
      exact ⟨_, v91, _, xt, (Same.refl _), rfl, r95⟩
    · rintro _ S' G' H' ⟨v106, v107, v108, xt, mk109, rfl, r110⟩
      exact ⟨mk109, xt.gh⟩
    · rintro xv111 a112 s105 _ G115 H116 fl113 - ⟨v106, v107, v108, xt, mk109, rfl, r110⟩ rx114 hm D' kN117 kC118 kB119 kR120
      have r84 := Rp.mono (x104.gg.trans mk109) r84
      have r_numbers_ := Rp.mono (x104.gg.trans mk109) r_numbers_
      have r97 := Rp.mono (x104.gg.trans mk109) r97
      refine sv_turn2 rx114 xt.gh fun v121 v122 r123 r124 => ?_
      refine bE hm fun thing_ h144 hm => ?_
      refine sv_set (K := K) (ev_toD (ev_catTp (ev_catTp (ev_tpD (ev_sliceTA (ev_asTup (ev_var rfl r123)) ov_none (ov_some (K := K) (ev_var rfl r124)))) (ev_tupL (lv_cons (ev_var rfl r110) (lv_nil (α := D))))) (ev_tpD (ev_sliceT (ev_asTup (ev_var rfl r123)) (ov_some (K := K) (ev_add (ev_var rfl r124) ev_i)) ov_none)))) h144 xt.gh fun v139 G140 H141 x142 r143 => ?_
      have xt := xt.trans x142
      have mk109 := mk109.trans x142.gg
      have r84 := Rp.mono x142.gg r84
      have r_numbers_ := Rp.mono x142.gg r_numbers_
      have r97 := Rp.mono x142.gg r97
      have r110 := Rp.mono x142.gg r110
      have r123 := Rp.mono x142.gg r123
      have r124 := Rp.mono x142.gg r124
      cases hm
      exact kN117 _ _ _ _ rfl ⟨_, v139, _, xt, mk109, rfl, r143⟩
    · rintro s105 _ G150 H151 rfl ⟨v145, v146, v147, xt, mk148, rfl, r149⟩
      refine sv_nx ?_
      have r84 := Rp.mono (x104.gg.trans mk148) r84
      have r_numbers_ := Rp.mono (x104.gg.trans mk148) r_numbers_
      have r97 := Rp.mono (x104.gg.trans mk148) r97
      exact sv_ret (K := K) (ev_var rfl r149) hm xt.gh fun v152 G153 H154 x155 r156 => q v152 G153 H154 (xt.trans x155) r156
    · rintro r' v' G' H' rfl rl
      cases hm
      exact q v' G' H' rl.1 rl.2
  · rintro r' v' G' H' rfl rl
    cases hm
    exact q v' G' H' rl.1 rl.2
theorem ok_law_cells {f : Addr} {fd : FuncData} (F : Fun K "_law_cells" "_law_cells" s_law_cells f fd) (T : Txt w K mg) (D_law_cell_at : DefOk P w K mg base "_law_cell_at" 1 ["_law_script", "_law_k"] (spM K mm_law_cell_at)) (D_law_stream : DefOk P w K mg base "_law_stream" 1 ["_law_cell", "_law_many"] (spL K mm_law_stream)) : FnOk P w K mg base CX0 2 f fd ["_law_script"] (spM K mm_law_cells) := by
  refine F.ok sc_law_cells (fun vs H Q E h => (spM_len h).trans rfl) (fun cdv A outer s H0 vs Q E hr h => ?_)
  obtain ⟨G0, ⟨script_, ⟨⟩⟩, res, sg0, ⟨v_script_, _, rfl, r_script_, rfl⟩, hm, q⟩ := h
  replace r_script_ : Rp.rel K G0 v_script_ script_ := r_script_
  replace hm : m_law_cells script_ = some res := hm
  unfold m_law_cells at hm
  have xt : Ext G0 H0 G0 H0 := Ext.refl sg0
  refine ⟨_, (pss_cons (ps_set (i := 1) sc_law_cells.nd rfl (Or.inl rfl) (pe_def D_law_cell_at hr (by decide) rfl (pa_cons (pv 0) (pa_cons pe_int pa_nil))))
      (pss_cons (ps_if (pt_cmpR op_eq (pe_op op_mod (pe_op op_fdiv (pv 1) pe_int) pe_int) pe_int (nomark _)) (pss_cons (ps_ret (pe_slice (sl_anyK (K := K) rfl) (pv 0) (po_some pe_int) (po_some pe_int)))
      pss_nil) pss_nil)
      (pss_cons (ps_if (pt_cmpR op_eq (pe_op op_mod (pe_op op_fdiv (pv 1) pe_int) pe_int) pe_int (nomark _)) (pss_cons (ps_ret (pe_def D_law_stream hr (by decide) rfl (pa_cons (pe_def D_law_cell_at hr (by decide) rfl (pa_cons (pv 0) (pa_cons pe_int pa_nil))) (pa_cons pe_int pa_nil))))
      pss_nil) pss_nil)
      (pss_cons (ps_ret (pe_comp (cn := []) (cap := []) rfl ⟨by decide +kernel, rfl, by decide +kernel, free_of rfl⟩ rfl (by decide +kernel) trivial (pi_anyK (K := K) rfl (pe_def D_law_stream hr (by decide) rfl (pa_cons (pe_def D_law_cell_at hr (by decide) rfl (pa_cons (pv 0) (pa_cons pe_int pa_nil))) (pa_cons pe_int pa_nil)))) (fun C s0 H0 fp => ⟨pts_nil, (pe_op (op_plusK (K := K) rfl) (pe_op (op_mulK (K := K) rfl) pe_int (pv 0)) (pe_op op_mod (pe_op op_fdiv (pv 0) pe_int) pe_int))⟩)))
      pss_nil)))), ?_⟩
  refine bE hm fun cell_ h8 hm => ?_
  refine sv_set (K := K) (ev_def2 (m := mm_law_cell_at) (ev_var rfl r_script_) ev_i) h8 xt.gh fun v3 G4 H5 x6 r7 => ?_
  have xt := xt.trans x6
  have r_script_ := Rp.mono x6.gg r_script_
  refine bE hm fun b9 h10 hm => ?_
  refine sv_if (tv_test (K := K) (ev_eqI (ev_modR (ev_divR (ev_var rfl r7))) ev_i)) h10 xt.gh fun G11 H12 x13 => ?_
  have xt := xt.trans x13
  have r_script_ := Rp.mono x13.gg r_script_
  have r7 := Rp.mono x13.gg r7
  cases b9 with
  | true =>
    replace hm := cT hm
    refine iteT ?_
    exact sv_ret (K := K) (FV.ev (fv_sliceX (ev_var rfl r_script_) (ov_some (K := K) ev_i) (ov_some (K := K) ev_i))) hm xt.gh fun v17 G18 H19 x20 r21 => q v17 G18 H19 (xt.trans x20) r21
  | false =>
    replace hm := cF hm
    refine iteF ?_
    refine bE hm fun b22 h23 hm => ?_
    refine sv_if (tv_test (K := K) (ev_eqI (ev_modR (ev_divR (ev_var rfl r7))) ev_i)) h23 xt.gh fun G24 H25 x26 => ?_
    have xt := xt.trans x26
    have r_script_ := Rp.mono x26.gg r_script_
    have r7 := Rp.mono x26.gg r7
    cases b22 with
    | true =>
      replace hm := cT hm
      refine iteT ?_
      exact sv_ret (K := K) (FV.ev (fv_def2 (m := mm_law_stream) (ev_def2 (m := mm_law_cell_at) (ev_var rfl r_script_) ev_i) ev_i)) hm xt.gh fun v31 G32 H33 x34 r35 => q v31 G32 H33 (xt.trans x34) r35
    | false =>
      replace hm := cF hm
      refine iteF ?_
      exact sv_ret (K := K) (FV.ev (fv_map (cap := []) (fe := fun (number_ : Int) => (some (((16 : Int) * number_) + ((number_ / (7 : Int)) % (6 : Int))))) (iw_list (FV.ev (fv_def2 (m := mm_law_stream) (ev_def2 (m := mm_law_cell_at) (ev_var rfl r_script_) ev_i) ev_i))) fun xc43 number_ Gc40 sc41 rc42 => (ev_add (ev_mulL (ev_var rfl rc42)) (ev_modR (ev_divR (ev_var rfl rc42)))))) hm xt.gh fun v45 G46 H47 x48 r49 => q v45 G46 H47 (xt.trans x48) r49
theorem ok_law_truth {f : Addr} {fd : FuncData} (F : Fun K "_law_truth" "_law_truth" s_law_truth f fd) (T : Txt w K mg) : FnOk P w K mg base CX0 1 f fd ["_law_thing", "_law_due"] (spM K mm_law_truth) := by
  refine F.ok sc_law_truth (fun vs H Q E h => (spM_len h).trans rfl) (fun cdv A outer s H0 vs Q E hr h => ?_)
  obtain ⟨G0, ⟨thing_, ⟨due_, ⟨⟩⟩⟩, res, sg0, ⟨v_thing_, _, rfl, r_thing_, ⟨v_due_, _, rfl, r_due_, rfl⟩⟩, hm, q⟩ := h
  replace r_thing_ : Rp.rel K G0 v_thing_ thing_ := r_thing_
  replace r_due_ : Rp.rel K G0 v_due_ due_ := r_due_
  replace hm : m_law_truth thing_ due_ = some res := hm
  unfold m_law_truth at hm
  have xt : Ext G0 H0 G0 H0 := Ext.refl sg0
  refine ⟨_, (pss_cons (ps_ret (pe_and (pe_callB (call_instK (K := K) rfl) (by rfl) T.isinstance_ bt_isinstance (pa_cons (pv 0) (pa_cons (pe_bltn (v := .ty "bool") rfl T.bool_ bt_bool rfl) pa_nil))) (pe_one (pe_cmpR op_eq (pv 0) (pv 1) (nomark _)))))
      pss_nil), ?_⟩
  exact sv_ret (K := K) (ev_andP (ev_inst (b := true) (by decide +kernel) (ev_var rfl r_thing_)) (ev_eqB (ev_var rfl r_thing_) (ev_var rfl r_due_))) hm xt.gh fun v1 G2 H3 x4 r5 => q v1 G2 H3 (xt.trans x4) r5
theorem ok_parts_of {f : Addr} {fd : FuncData} (F : Fun K "parts_of" "parts_of" s_parts_of f fd) (T : Txt w K mg) : FnOk P w K mg base CX0 1 f fd ["sentence"] (spM K mm_parts_of) := by
  refine F.ok sc_parts_of (fun vs H Q E h => (spM_len h).trans rfl) (fun cdv A outer s H0 vs Q E hr h => ?_)
  obtain ⟨G0, ⟨sentence_, ⟨⟩⟩, res, sg0, ⟨v_sentence_, _, rfl, r_sentence_, rfl⟩, hm, q⟩ := h
  replace r_sentence_ : Rp.rel K G0 v_sentence_ sentence_ := r_sentence_
  replace hm : m_parts_of sentence_ = some res := hm
  unfold m_parts_of at hm
  have xt : Ext G0 H0 G0 H0 := Ext.refl sg0
  refine ⟨_, (pss_cons (ps_if (pt_cmpR op_eq (pe_ix (ix_anyK (K := K) rfl) (pv 0) pe_int (fun _ _ => rfl)) pe_str (nomark _)) (pss_cons (ps_ret (pe_tup pa_nil))
      pss_nil) pss_nil)
      (pss_cons (ps_ret (pe_slice (sl_tupK (K := K) rfl) (pv 0) (po_some pe_int) po_none))
      pss_nil)), ?_⟩
  refine bE hm fun b7 h8 hm => ?_
  refine sv_if (tv_test (K := K) (ev_eqS (ev_asStr (ev_atD (ev_var rfl r_sentence_) ev_i)) ev_s)) h8 xt.gh fun G9 H10 x11 => ?_
  have xt := xt.trans x11
  have r_sentence_ := Rp.mono x11.gg r_sentence_
  cases b7 with
  | true =>
    replace hm := cT hm
    refine iteT ?_
    exact sv_ret (K := K) (rest := tNext) (σ := [some v_sentence_]) (ev_tupL (lv_nil (α := D))) hm xt.gh fun v12 G13 H14 x15 r16 => q v12 G13 H14 (xt.trans x15) r16
  | false =>
    replace hm := cF hm
    refine iteF ?_
    exact sv_ret (K := K) (ev_sliceT (ev_asTupD (ev_var rfl r_sentence_)) (ov_some (K := K) ev_i) ov_none) hm xt.gh fun v21 G22 H23 x24 r25 => q v21 G22 H23 (xt.trans x24) r25
theorem ok_is_moment {f : Addr} {fd : FuncData} (F : Fun K "is_moment" "is_moment" s_is_moment f fd) (T : Txt w K mg) : FnOk P w K mg base CX0 1 f fd ["thing"] (spM K mm_is_moment) := by
  refine F.ok sc_is_moment (fun vs H Q E h => (spM_len h).trans rfl) (fun cdv A outer s H0 vs Q E hr h => ?_)
  obtain ⟨G0, ⟨thing_, ⟨⟩⟩, res, sg0, ⟨v_thing_, _, rfl, r_thing_, rfl⟩, hm, q⟩ := h
  replace r_thing_ : Rp.rel K G0 v_thing_ thing_ := r_thing_
  replace hm : m_is_moment thing_ = some res := hm
  unfold m_is_moment at hm
  have xt : Ext G0 H0 G0 H0 := Ext.refl sg0
  refine ⟨_, (pss_cons (ps_if (pt_not (pt_truthK (K := K) rfl (pe_callB (call_instK (K := K) rfl) (by rfl) T.isinstance_ bt_isinstance (pa_cons (pv 0) (pa_cons (pe_bltn (v := .ty "str") rfl T.str_ bt_str rfl) pa_nil))) (fun _ => rfl))) (pss_cons (ps_ret pe_bl)
      pss_nil) pss_nil)
      (pss_cons (ps_set (i := 1) sc_is_moment.nd rfl (Or.inl rfl) pe_str)
      (pss_cons (ps_for PassesOwn.never rfl (pi_anyK (K := K) rfl (pv 0)) (pg_name (i := 2) sc_is_moment.nd rfl (Or.inl rfl)) (pss_cons (ps_if (PW.pt (pw_or (pt_cmpR op_ltU (pv 2) pe_str (nomark _)) (pw_or (pt_cmpR op_gtU (pv 2) pe_str (nomark _)) (pw_or1 (pt_cmpR op_leU (pv 2) (pv 1) (nomark _)))))) (pss_cons (ps_ret pe_bl)
      pss_nil) pss_nil)
      (pss_cons (ps_set (i := 1) sc_is_moment.nd rfl (Or.inl rfl) (pv 2))
      pss_nil)))
      (pss_cons (ps_ret pe_bl)
      pss_nil)))), ?_⟩
  refine bE hm fun b1 h2 hm => ?_
  refine sv_if (tv_not (tv_b (K := K) (ev_instD (by decide) (ev_var rfl r_thing_)))) h2 xt.gh fun G3 H4 x5 => ?_
  have xt := xt.trans x5
  have r_thing_ := Rp.mono x5.gg r_thing_
  cases b1 with
  | true =>
    replace hm := cT hm
    refine iteT ?_
    exact sv_ret (K := K) (rest := tNext) (σ := [some v_thing_, none, none]) ev_b hm xt.gh fun v6 G7 H8 x9 r10 => q v6 G7 H8 (xt.trans x9) r10
  | false =>
    replace hm := cF hm
    refine iteF ?_
    refine bE hm fun last_ h16 hm => ?_
    refine sv_set (K := K) ev_s h16 xt.gh fun v11 G12 H13 x14 r15 => ?_
    have xt := xt.trans x14
    have r_thing_ := Rp.mono x14.gg r_thing_
    refine bE hm fun as18 h19 hm => ?_
    refine bE hm fun fl20 h21 hm => ?_
    refine sv_for (K := K) (RR := fun r v G' H' => Ext G0 H0 G' H' ∧ Rp.rel K G' v r) (iw_any (ev_var rfl r_thing_)) h19 h21 xt.gh fun G22 H23 x24 => ⟨fun s25 S' G' H' => ∃ (v26 : V) (v27 : Option V), Ext G0 H0 G' H' ∧ Same G22 G' ∧ S' = [some v_thing_, some v26, v27] ∧ Rp.rel K G' v26 (s25 : Str), ?_, ?_, ?_, ?_, ?_⟩
    · have xt := xt.trans x24
      have r_thing_ := Rp.mono x24.gg r_thing_
      have r15 := Rp.mono x24.gg r15
      exact ⟨v11, _, xt, (Same.refl _), rfl, r15⟩
    · rintro _ S' G' H' ⟨v26, v27, xt, mk28, rfl, r29⟩
      exact ⟨mk28, xt.gh⟩
    · rintro xv30 a31 s25 _ G34 H35 fl32 - ⟨v26, v27, xt, mk28, rfl, r29⟩ rx33 hm D' kN36 kC37 kB38 kR39
      have r_thing_ := Rp.mono (x24.gg.trans mk28) r_thing_
      refine sv_turn ?_
      refine bE hm fun b48 h49 hm => ?_
      refine sv_if (tv_or (tv_test (K := K) (ev_ordS (ev_asStr (ev_var rfl rx33)) ev_s)) (tv_or (tv_test (K := K) (ev_ordS (ev_asStr (ev_var rfl rx33)) ev_s)) (tv_test (K := K) (ev_ordS (ev_asStr (ev_var rfl rx33)) (ev_var rfl r29))))) h49 xt.gh fun G50 H51 x52 => ?_
      have xt := xt.trans x52
      have mk28 := mk28.trans x52.gg
      have r_thing_ := Rp.mono x52.gg r_thing_
      have r29 := Rp.mono x52.gg r29
      have rx33 := Rp.mono x52.gg rx33
      cases b48 with
      | true =>
        replace hm := cT hm
        refine iteT ?_
        refine bE hm fun rr58 h59 hm => ?_
        cases hm
        exact sv_ret (K := K) (rest := tNext) (σ := [some v_thing_, some v26, some xv30]) ev_b h59 xt.gh fun v53 G54 H55 x56 r57 => kR39 _ v53 G54 H55 rfl ⟨xt.trans x56, r57⟩
      | false =>
        replace hm := cF hm
        refine iteF ?_
        refine bE hm fun last_ h66 hm => ?_
        refine sv_set (K := K) (ev_asStr (ev_var rfl rx33)) h66 xt.gh fun v61 G62 H63 x64 r65 => ?_
        have xt := xt.trans x64
        have mk28 := mk28.trans x64.gg
        have r_thing_ := Rp.mono x64.gg r_thing_
        have r29 := Rp.mono x64.gg r29
        have rx33 := Rp.mono x64.gg rx33
        cases hm
        exact kN36 _ _ _ _ rfl ⟨v61, _, xt, mk28, rfl, r65⟩
    · rintro s25 _ G71 H72 rfl ⟨v67, v68, xt, mk69, rfl, r70⟩
      refine sv_nx ?_
      have r_thing_ := Rp.mono (x24.gg.trans mk69) r_thing_
      exact sv_ret (K := K) (rest := tNext) (σ := [some v_thing_, some v67, v68]) ev_b hm xt.gh fun v73 G74 H75 x76 r77 => q v73 G74 H75 (xt.trans x76) r77
    · rintro r' v' G' H' rfl rl
      cases hm
      exact q v' G' H' rl.1 rl.2
theorem ok_is_lamp {f : Addr} {fd : FuncData} (F : Fun K "is_lamp" "is_lamp" s_is_lamp f fd) (T : Txt w K mg) (D_is_moment : DefOk P w K mg base "is_moment" 1 ["thing"] (spM K mm_is_moment)) : FnOk P w K mg base CX0 2 f fd ["thing"] (spM K mm_is_lamp) := by
  refine F.ok sc_is_lamp (fun vs H Q E h => (spM_len h).trans rfl) (fun cdv A outer s H0 vs Q E hr h => ?_)
  obtain ⟨G0, ⟨thing_, ⟨⟩⟩, res, sg0, ⟨v_thing_, _, rfl, r_thing_, rfl⟩, hm, q⟩ := h
  replace r_thing_ : Rp.rel K G0 v_thing_ thing_ := r_thing_
  replace hm : m_is_lamp thing_ = some res := hm
  unfold m_is_lamp at hm
  have xt : Ext G0 H0 G0 H0 := Ext.refl sg0
  refine ⟨_, (pss_cons (ps_ret (pe_and (pe_def D_is_moment hr (by decide) rfl (pa_cons (pv 0) pa_nil)) (pe_one (pe_cmpR op_eq (pe_callB (call_lenK (K := K) rfl) (by rfl) T.len_ bt_len (pa_cons (pv 0) pa_nil)) pe_int (nomark _)))))
      pss_nil), ?_⟩
  exact sv_ret (K := K) (ev_and (ev_def1 (m := mm_is_moment) (ev_var rfl r_thing_)) (ev_eqI (ev_lenD (ev_var rfl r_thing_)) ev_i)) hm xt.gh fun v5 G6 H7 x8 r9 => q v5 G6 H7 (xt.trans x8) r9
theorem ok_has_form {f : Addr} {fd : FuncData} (F : Fun K "has_form" "has_form" s_has_form f fd) (T : Txt w K mg) (D_is_lamp : DefOk P w K mg base "is_lamp" 2 ["thing"] (spM K mm_is_lamp)) : FnOk P w K mg base CX0 3 f fd ["thing"] (spM K mm_has_form) := by
  refine F.ok sc_has_form (fun vs H Q E h => (spM_len h).trans rfl) (fun cdv A outer s H0 vs Q E hr h => ?_)
  obtain ⟨G0, ⟨thing_, ⟨⟩⟩, res, sg0, ⟨v_thing_, _, rfl, r_thing_, rfl⟩, hm, q⟩ := h
  replace r_thing_ : Rp.rel K G0 v_thing_ thing_ := r_thing_
  replace hm : m_has_form thing_ = some res := hm
  unfold m_has_form at hm
  obtain ⟨a_PARTS, e_PARTS, q_PARTS⟩ := T.PARTS
  have xt : Ext G0 H0 G0 H0 := Ext.refl sg0
  refine ⟨_, (pss_cons (ps_if (PW.pt (pw_or (pt_not (pt_truthK (K := K) rfl (pe_callB (call_instK (K := K) rfl) (by rfl) T.isinstance_ bt_isinstance (pa_cons (pv 0) (pa_cons (pe_bltn (v := .ty "tuple") rfl T.tuple_ bt_tuple rfl) pa_nil))) (fun _ => rfl))) (pw_or (pt_cmpR op_eq (pe_callB (call_lenK (K := K) rfl) (by rfl) T.len_ bt_len (pa_cons (pv 0) pa_nil)) pe_int (nomark _)) (pw_or1 (pt_not (pt_truthK (K := K) rfl (pe_callB (call_instK (K := K) rfl) (by rfl) T.isinstance_ bt_isinstance (pa_cons (pe_ix (ix_anyK (K := K) rfl) (pv 0) pe_int (fun _ _ => rfl)) (pa_cons (pe_bltn (v := .ty "str") rfl T.str_ bt_str rfl) pa_nil))) (fun _ => rfl))))))) (pss_cons (ps_ret pe_bl)
      pss_nil) pss_nil)
      (pss_cons (ps_if (pt_cmpR op_eq (pe_ix (ix_anyK (K := K) rfl) (pv 0) pe_int (fun _ _ => rfl)) pe_str (nomark _)) (pss_cons (ps_ret (pe_and (pe_cmpR op_eq (pe_callB (call_lenK (K := K) rfl) (by rfl) T.len_ bt_len (pa_cons (pv 0) pa_nil)) pe_int (nomark _)) (pe_one (pe_def D_is_lamp hr (by decide) rfl (pa_cons (pe_ix (ix_anyK (K := K) rfl) (pv 0) pe_int (fun _ _ => rfl)) pa_nil)))))
      pss_nil) pss_nil)
      (pss_cons (ps_ret (pe_and (pe_inC rfl rfl q_PARTS (pe_ix (ix_anyK (K := K) rfl) (pv 0) pe_int (fun _ _ => rfl)) (pe_globR rfl e_PARTS) rfl) (pe_one (pe_cmpR op_eq (pe_callB (call_lenK (K := K) rfl) (by rfl) T.len_ bt_len (pa_cons (pv 0) pa_nil)) (pe_op (op_plusK (K := K) rfl) pe_int (pe_getC rfl rfl q_PARTS (pe_globR rfl e_PARTS) (pe_ix (ix_anyK (K := K) rfl) (pv 0) pe_int (fun _ _ => rfl)) (fun _ _ => rfl))) (nomark _)))))
      pss_nil))), ?_⟩
  refine bE hm fun b9 h10 hm => ?_
  refine sv_if (tv_or (tv_not (tv_b (K := K) (ev_instD (by decide) (ev_var rfl r_thing_)))) (tv_or (tv_test (K := K) (ev_eqI (ev_lenD (ev_var rfl r_thing_)) ev_i)) (tv_not (tv_b (K := K) (ev_instD (by decide) (ev_atD (ev_var rfl r_thing_) ev_i)))))) h10 xt.gh fun G11 H12 x13 => ?_
  have xt := xt.trans x13
  have r_thing_ := Rp.mono x13.gg r_thing_
  cases b9 with
  | true =>
    replace hm := cT hm
    refine iteT ?_
    exact sv_ret (K := K) (rest := tNext) (σ := [some v_thing_]) ev_b hm xt.gh fun v14 G15 H16 x17 r18 => q v14 G15 H16 (xt.trans x17) r18
  | false =>
    replace hm := cF hm
    refine iteF ?_
    refine bE hm fun b25 h26 hm => ?_
    refine sv_if (tv_test (K := K) (ev_eqS (ev_asStr (ev_atD (ev_var rfl r_thing_) ev_i)) ev_s)) h26 xt.gh fun G27 H28 x29 => ?_
    have xt := xt.trans x29
    have r_thing_ := Rp.mono x29.gg r_thing_
    cases b25 with
    | true =>
      replace hm := cT hm
      refine iteT ?_
      exact sv_ret (K := K) (ev_and (ev_eqI (ev_lenD (ev_var rfl r_thing_)) ev_i) (ev_def1 (m := mm_is_lamp) (ev_atD (ev_var rfl r_thing_) ev_i))) hm xt.gh fun v36 G37 H38 x39 r40 => q v36 G37 H38 (xt.trans x39) r40
    | false =>
      replace hm := cF hm
      refine iteF ?_
      exact sv_ret (K := K) (ev_and (ev_inC (ev_asStr (ev_atD (ev_var rfl r_thing_) ev_i))) (ev_eqI (ev_lenD (ev_var rfl r_thing_)) (ev_add ev_i (ev_getC (ev_asStr (ev_atD (ev_var rfl r_thing_) ev_i)))))) hm xt.gh fun v59 G60 H61 x62 r63 => q v59 G60 H61 (xt.trans x62) r63
theorem ok_is_sentence {f : Addr} {fd : FuncData} (F : Fun K "is_sentence" "is_sentence" s_is_sentence f fd) (T : Txt w K mg) (D_parts_of : DefOk P w K mg base "parts_of" 1 ["sentence"] (spM K mm_parts_of)) (D_has_form : DefOk P w K mg base "has_form" 3 ["thing"] (spM K mm_has_form)) : FnOk P w K mg base CX0 4 f fd ["thing"] (spM K mm_is_sentence) := by
  refine F.ok sc_is_sentence (fun vs H Q E h => (spM_len h).trans rfl) (fun cdv A outer s H0 vs Q E hr h => ?_)
  obtain ⟨G0, ⟨thing_, ⟨⟩⟩, res, sg0, ⟨v_thing_, _, rfl, r_thing_, rfl⟩, hm, q⟩ := h
  replace r_thing_ : Rp.rel K G0 v_thing_ thing_ := r_thing_
  replace hm : m_is_sentence thing_ = some res := hm
  unfold m_is_sentence at hm
  have xt : Ext G0 H0 G0 H0 := Ext.refl sg0
  refine ⟨_, (pss_cons (ps_set (i := 1) sc_is_sentence.nd rfl (Or.inl rfl) (pe_lst (pa_cons (pv 0) pa_nil)))
      (pss_cons (ps_set (i := 2) sc_is_sentence.nd rfl (Or.inl rfl) pe_int)
      (pss_cons (ps_while PassesOwn.never (pt_cmpR op_ltU (pv 2) (pe_callB (call_lenK (K := K) rfl) (by rfl) T.len_ bt_len (pa_cons (pv 1) pa_nil)) (nomark _)) (pss_cons (ps_if (PW.pt (pw_or (pt_cmpR op_gtU (pe_callB (call_lenK (K := K) rfl) (by rfl) T.len_ bt_len (pa_cons (pv 1) pa_nil)) (pe_globI rfl T.MOST_WORDS) (nomark _)) (pw_or1 (pt_not (pt_truthK (K := K) rfl (pe_def D_has_form hr (by decide) rfl (pa_cons (pe_ix (ix_anyK (K := K) rfl) (pv 1) (pv 2) (fun _ _ => rfl)) pa_nil)) (fun _ => rfl)))))) (pss_cons (ps_ret pe_bl)
      pss_nil) pss_nil)
      (pss_cons (ps_expr (pe_bmK (K := K) rfl PySem.F.plainAttrs_list PySem.F.slot_list_extend PySem.F.type_list_extend (mt_extendT (K := K) rfl) (pv 1) (pa_cons (pe_def D_parts_of hr (by decide) rfl (pa_cons (pe_ix (ix_anyK (K := K) rfl) (pv 1) (pv 2) (fun _ _ => rfl)) pa_nil)) pa_nil)))
      (pss_cons (ps_set (i := 2) sc_is_sentence.nd rfl (Or.inl rfl) (pe_op (op_plusK (K := K) rfl) (pv 2) pe_int))
      pss_nil))))
      (pss_cons (ps_ret pe_bl)
      pss_nil)))), ?_⟩
  refine bE hm fun found_ h8 hm => ?_
  refine sv_own (K := K) (fv_lst (lv_cons (ev_var rfl r_thing_) (lv_nil (α := D)))) h8 xt.gh fun p1 vs2 G3 H4 x5 hz6 o7 => ?_
  have hz6 := xt.hh.free hz6
  have xt := xt.trans x5
  have r_thing_ := Rp.mono x5.gg r_thing_
  refine bE hm fun place_ h14 hm => ?_
  refine sv_set (K := K) ev_i h14 xt.gh fun v9 G10 H11 x12 r13 => ?_
  have xt := xt.trans x12
  have r_thing_ := Rp.mono x12.gg r_thing_
  have o7 := o7.ext x12
  refine bE hm fun fl15 h16 hm => ?_
  refine sv_while (K := K) (G := G10) (RR := fun r v G' H' => Ext G0 H0 G' H' ∧ Rp.rel K G' v r) h16 (fun s17 S' G' H' => ∃ (v18 : V), Ext G0 H0 G' H' ∧ Same G10 G' ∧ S' = [some v_thing_, some (V.ref p1), some v18] ∧ (∃ vs, Own K G' H' (V.ref p1) p1 vs s17.1) ∧ Rp.rel K G' v18 (s17.2 : Int)) ⟨?_, ?_, ?_, ?_, ?_, ?_⟩
  · exact ⟨v9, xt, (Same.refl _), rfl, ⟨_, o7⟩, r13⟩
  · rintro _ S' G' H' ⟨v18, xt, mk19, rfl, ⟨vs2, o7⟩, r20⟩
    exact xt.gh
  · rintro s17 _ G21 H22 b' ⟨v18, xt, mk19, rfl, ⟨vs2, o7⟩, r20⟩ hc Q' k'
    have r_thing_ := Rp.mono mk19 r_thing_
    refine TV.runB o7 (tv_test (K := K) (ev_ord (ev_var rfl (Rp.mono (Same.new o7.g) r20)) (ev_len (ev_var rfl o7.tell)))) hc xt.gh fun G23 H24 x25 => ?_
    have xt := xt.trans x25
    have mk19 := mk19.trans x25.gg
    have r_thing_ := Rp.mono x25.gg r_thing_
    have o7 := o7.ext x25
    have r20 := Rp.mono x25.gg r20
    exact k' _ _ ⟨v18, xt, mk19, rfl, ⟨_, o7⟩, r20⟩
  · rintro s17 _ G27 H28 fl26 ⟨v18, xt, mk19, rfl, ⟨vs2, o7⟩, r20⟩ hm - D' kN29 kC30 kB31 kR32
    have r_thing_ := Rp.mono mk19 r_thing_
    refine bE hm fun b43 h44 hm => ?_
    refine sv_ifB o7 (tv_or (tv_test (K := K) (ev_ord (ev_len (ev_var rfl o7.tell)) ev_i)) (tv_not (tv_b (K := K) (ev_def1 (m := mm_has_form) (ev_at (ev_var rfl o7.tell) (ev_var rfl (Rp.mono (Same.new o7.g) r20))))))) h44 xt.gh fun G45 H46 x47 => ?_
    have xt := xt.trans x47
    have mk19 := mk19.trans x47.gg
    have r_thing_ := Rp.mono x47.gg r_thing_
    have o7 := o7.ext x47
    have r20 := Rp.mono x47.gg r20
    cases b43 with
    | true =>
      replace hm := cT hm
      refine iteT ?_
      refine bE hm fun rr53 h54 hm => ?_
      cases hm
      exact sv_ret (K := K) (rest := tNext) (σ := [some v_thing_, some (V.ref p1), some v18]) ev_b h54 xt.gh fun v48 G49 H50 x51 r52 => kR32 _ v48 G49 H50 rfl ⟨xt.trans x51, r52⟩
    | false =>
      replace hm := cF hm
      refine iteF ?_
      refine bE hm fun a58 h59 hm => ?_
      refine bE hm fun z66 h60 hm => ?_
      refine sv_extendD (K := K) (m := mm_parts_of) rfl o7 (ev_var rfl r20) h59 h60 xt.gh fun G61 H62 w63 x64 o65 => ?_
      have xt : Ext G0 H0 G61 (upd H62 p1 (.lst (vs2 ++ w63))) := (xt.trans x64).put hz6 o65.g
      have mk19 := mk19.trans x64.gg
      have r_thing_ := Rp.mono x64.gg r_thing_
      have r20 := Rp.mono x64.gg r20
      refine bE hm fun place_ h72 hm => ?_
      refine sv_set (K := K) (ev_add (ev_var rfl r20) ev_i) h72 xt.gh fun v67 G68 H69 x70 r71 => ?_
      have xt := xt.trans x70
      have mk19 := mk19.trans x70.gg
      have r_thing_ := Rp.mono x70.gg r_thing_
      have o65 := o65.ext x70
      have r20 := Rp.mono x70.gg r20
      cases hm
      exact kN29 _ _ _ _ rfl ⟨v67, xt, mk19, rfl, ⟨_, o65⟩, r71⟩
  · rintro s17 _ G76 H77 rfl ⟨v73, xt, mk74, rfl, ⟨vs2, o7⟩, r75⟩
    refine sv_nx ?_
    have r_thing_ := Rp.mono mk74 r_thing_
    exact sv_ret (K := K) (rest := tNext) (σ := [some v_thing_, some (V.ref p1), some v73]) ev_b hm xt.gh fun v78 G79 H80 x81 r82 => q v78 G79 H80 (xt.trans x81) r82
  · rintro r' v' G' H' rfl rl
    cases hm
    exact q v' G' H' rl.1 rl.2
theorem ok_law {f : Addr} {fd : FuncData} (F : Fun K "law" "law" s_law f fd) (T : Txt w K mg) (D_law_cell_at : DefOk P w K mg base "_law_cell_at" 1 ["_law_script", "_law_k"] (spM K mm_law_cell_at)) (D_law_built : DefOk P w K mg base "_law_built" 3 ["_law_cells_here", "_law_room"] (spM K mm_law_built)) (D_law_stream : DefOk P w K mg base "_law_stream" 1 ["_law_cell", "_law_many"] (spL K mm_law_stream)) (D_law_spoiled : DefOk P w K mg base "_law_spoiled" 2 ["_law_told", "_law_numbers"] (spM K mm_law_spoiled)) (D_law_cells : DefOk P w K mg base "_law_cells" 2 ["_law_script"] (spM K mm_law_cells)) (D_law_truth : DefOk P w K mg base "_law_truth" 1 ["_law_thing", "_law_due"] (spM K mm_law_truth)) (D_is_sentence : DefOk P w K mg base "is_sentence" 4 ["thing"] (spM K mm_is_sentence)) : FnOk P w K mg base CX0 5 f fd ["_law_script"] (spM K mm_law) := by
  refine F.ok sc_law (fun vs H Q E h => (spM_len h).trans rfl) (fun cdv A outer s H0 vs Q E hr h => ?_)
  obtain ⟨G0, ⟨script_, ⟨⟩⟩, res, sg0, ⟨v_script_, _, rfl, r_script_, rfl⟩, hm, q⟩ := h
  replace r_script_ : Rp.rel K G0 v_script_ script_ := r_script_
  replace hm : m_law script_ = some res := hm
  unfold m_law at hm
  have xt : Ext G0 H0 G0 H0 := Ext.refl sg0
  refine ⟨_, (pss_cons (ps_set (i := 1) sc_law.nd rfl (Or.inl rfl) (pe_def D_law_cell_at hr (by decide) rfl (pa_cons (pv 0) (pa_cons pe_int pa_nil))))
      (pss_cons (ps_set (i := 2) sc_law.nd rfl (Or.inl rfl) (pe_op (op_plusK (K := K) rfl) pe_int (pe_op op_mod (pe_op op_fdiv (pv 1) pe_int) pe_int)))
      (pss_cons (ps_if (pt_cmpR op_eq (pe_op op_mod (pv 1) pe_int) pe_int (nomark _)) (pss_cons (ps_set (i := 2) sc_law.nd rfl (Or.inl rfl) (pe_op (op_plusK (K := K) rfl) pe_int (pe_op op_mod (pe_op op_fdiv (pv 1) pe_int) pe_int)))
      pss_nil) pss_nil)
      (pss_cons (ps_asg (pe_def D_law_built hr (by decide) rfl (pa_cons (pe_def D_law_cells hr (by decide) rfl (pa_cons (pv 0) pa_nil)) (pa_cons (pv 2) pa_nil))) (pg_tup rfl (pgs_cons (pg_name (i := 3) sc_law.nd rfl (Or.inl rfl)) (pgs_cons (pg_name (i := 4) sc_law.nd rfl (Or.inl rfl)) pgs_nil))))
      (pss_cons (ps_if (pt_cmpR op_eq (pe_op op_mod (pe_op op_fdiv (pv 1) pe_int) pe_int) pe_int (nomark _)) (pss_cons (ps_for PassesOwn.never rfl (pi_range1 rfl T.range_ (pa_cons (pe_op op_mod (pe_def D_law_cell_at hr (by decide) rfl (pa_cons (pv 0) (pa_cons pe_int pa_nil))) pe_int) pa_nil)) (pg_name (i := 5) sc_law.nd rfl (Or.inl rfl)) (pss_cons (ps_if (pt_cmpR op_ltU (pv 4) pe_int (nomark _)) (pss_cons (ps_set (i := 3) sc_law.nd rfl (Or.inl rfl) (pe_tup (pa_cons pe_str (pa_cons (pv 3) (pa_cons (pv 3) pa_nil)))))
      (pss_cons (ps_set (i := 4) sc_law.nd rfl (Or.inl rfl) (pe_op (op_plusK (K := K) rfl) (pe_op (op_mulK (K := K) rfl) pe_int (pv 4)) pe_int))
      pss_nil)) pss_nil)
      pss_nil))
      pss_nil) pss_nil)
      (pss_cons (ps_set (i := 6) sc_law.nd rfl (Or.inl rfl) (pe_def D_law_stream hr (by decide) rfl (pa_cons (pe_def D_law_cell_at hr (by decide) rfl (pa_cons (pv 0) (pa_cons pe_int pa_nil))) (pa_cons (pe_op (op_plusK (K := K) rfl) pe_int (pe_op op_mod (pe_def D_law_cell_at hr (by decide) rfl (pa_cons (pv 0) (pa_cons pe_int pa_nil))) pe_int)) pa_nil))))
      (pss_cons (ps_asg (pe_op op_mod (pe_def D_law_cell_at hr (by decide) rfl (pa_cons (pv 0) (pa_cons pe_int pa_nil))) (pe_op op_pow pe_int pe_int)) (pg_sub (pv 6) pe_int set_list))
      (pss_cons (ps_set (i := 7) sc_law.nd rfl (Or.inl rfl) (pe_def D_law_spoiled hr (by decide) rfl (pa_cons (pv 3) (pa_cons (pv 6) pa_nil))))
      (pss_cons (ps_if (PW.pt (pw_or (pt_not (pt_truthK (K := K) rfl (pe_def D_law_truth hr (by decide) rfl (pa_cons (pe_def D_is_sentence hr (by decide) rfl (pa_cons (pv 3) pa_nil)) (pa_cons (pe_cmpR op_ltU (pv 4) pe_int (nomark _)) pa_nil))) (fun _ => rfl))) (pw_or1 (pt_not (pt_truthK (K := K) rfl (pe_def D_law_truth hr (by decide) rfl (pa_cons (pe_def D_is_sentence hr (by decide) rfl (pa_cons (pv 7) pa_nil)) (pa_cons pe_bl pa_nil))) (fun _ => rfl)))))) (pss_cons (ps_ret pe_bl)
      pss_nil) pss_nil)
      (pss_cons (ps_ret (pe_and (pe_def D_law_truth hr (by decide) rfl (pa_cons (pe_def D_is_sentence hr (by decide) rfl (pa_cons (pv 3) pa_nil)) (pa_cons (pe_cmpR op_ltU (pv 4) pe_int (nomark _)) pa_nil))) (pe_one (pe_def D_law_truth hr (by decide) rfl (pa_cons (pe_def D_is_sentence hr (by decide) rfl (pa_cons (pv 7) pa_nil)) (pa_cons pe_bl pa_nil))))))
      pss_nil)))))))))), ?_⟩
  refine bE hm fun cell_ h8 hm => ?_
  refine sv_set (K := K) (ev_def2 (m := mm_law_cell_at) (ev_var rfl r_script_) ev_i) h8 xt.gh fun v3 G4 H5 x6 r7 => ?_
  have xt := xt.trans x6
  have r_script_ := Rp.mono x6.gg r_script_
  refine bE hm fun room_ h14 hm => ?_
  refine sv_set (K := K) (ev_add ev_i (ev_modR (ev_divR (ev_var rfl r7)))) h14 xt.gh fun v9 G10 H11 x12 r13 => ?_
  have xt := xt.trans x12
  have r_script_ := Rp.mono x12.gg r_script_
  have r7 := Rp.mono x12.gg r7
  refine bE hm fun b15 h16 hm => ?_
  refine bE hm fun s20 h21 hm => ?_
  refine sv_join (fun S34 H33 => ∃ (G32 : Hp) (v23 : V), Ext G0 H0 G32 H33 ∧ Same G10 G32 ∧ S34 = [some v_script_, some v3, some v23, none, none, none, none, none] ∧ Rp.rel K G32 v23 (s20 : Int)) (fun nx kn25 => ?_) ?_
  · refine sv_if (tv_test (K := K) (ev_eqI (ev_modR (ev_var rfl r7)) ev_i)) h16 xt.gh fun G17 H18 x19 => ?_
    have xt := xt.trans x19
    have r_script_ := Rp.mono x19.gg r_script_
    have r7 := Rp.mono x19.gg r7
    have r13 := Rp.mono x19.gg r13
    have mk22 : Same G10 G17 := x19.gg
    have hm := h21
    cases b15 with
    | true =>
      replace hm := cT hm
      refine iteT ?_
      refine bE hm fun room_ h31 hm => ?_
      refine sv_set (K := K) (ev_add ev_i (ev_modR (ev_divR (ev_var rfl r7)))) h31 xt.gh fun v26 G27 H28 x29 r30 => ?_
      have xt := xt.trans x29
      have mk22 := mk22.trans x29.gg
      have r_script_ := Rp.mono x29.gg r_script_
      have r7 := Rp.mono x29.gg r7
      have r13 := Rp.mono x29.gg r13
      cases hm
      exact kn25 _ _ ⟨G27, v26, xt, mk22, rfl, r30⟩
    | false =>
      replace hm := cF hm
      refine iteF ?_
      cases hm
      exact kn25 _ _ ⟨G17, v9, xt, mk22, rfl, r13⟩
  · rintro _ H33 ⟨G32, v23, xt, mk22, rfl, r24⟩
    have r_script_ := Rp.mono mk22 r_script_
    have r7 := Rp.mono mk22 r7
    refine bE hm fun p38 h39 hm => ?_
    refine sv_unpack (K := K) (ev_def2 (m := mm_law_built) (ev_def1 (m := mm_law_cells) (ev_var rfl r_script_)) (ev_var rfl r24)) h39 xt.gh fun v43 v44 G40 H41 x42 r45 r46 => ?_
    have xt := xt.trans x42
    have r_script_ := Rp.mono x42.gg r_script_
    have r7 := Rp.mono x42.gg r7
    have r24 := Rp.mono x42.gg r24
    refine bE hm fun b47 h48 hm => ?_
    refine bE hm fun s52 h53 hm => ?_
    refine sv_join (fun S117 H116 => ∃ (G115 : Hp) (v55 : V) (v57 : V) (v59 : Option V), Ext G0 H0 G115 H116 ∧ Same G40 G115 ∧ S117 = [some v_script_, some v3, some v23, some v55, some v57, v59, none, none] ∧ Rp.rel K G115 v55 (s52.1 : Nt) ∧ Rp.rel K G115 v57 (s52.2 : Int)) (fun nx kn61 => ?_) ?_
    · refine sv_if (tv_test (K := K) (ev_eqI (ev_modR (ev_divR (ev_var rfl r7))) ev_i)) h48 xt.gh fun G49 H50 x51 => ?_
      have xt := xt.trans x51
      have r_script_ := Rp.mono x51.gg r_script_
      have r7 := Rp.mono x51.gg r7
      have r24 := Rp.mono x51.gg r24
      have r45 := Rp.mono x51.gg r45
      have r46 := Rp.mono x51.gg r46
      have mk54 : Same G40 G49 := x51.gg
      have hm := h53
      cases b47 with
      | true =>
        replace hm := cT hm
        refine iteT ?_
        refine bE hm fun as66 h67 hm => ?_
        refine bE hm fun fl68 h69 hm => ?_
        refine sv_for (K := K) (RR := fun _ _ _ _ => False) (iw_rng1 (ev_modR (ev_def2 (m := mm_law_cell_at) (ev_var rfl r_script_) ev_i))) h67 h69 xt.gh fun G70 H71 x72 => ⟨fun s73 S' G' H' => ∃ (v74 : V) (v75 : V) (v76 : Option V), Ext G0 H0 G' H' ∧ Same G70 G' ∧ S' = [some v_script_, some v3, some v23, some v74, some v75, v76, none, none] ∧ Rp.rel K G' v74 (s73.1 : Nt) ∧ Rp.rel K G' v75 (s73.2 : Int), ?_, ?_, ?_, ?_, ?_⟩
        · have xt := xt.trans x72
          have mk54 := mk54.trans x72.gg
          have r_script_ := Rp.mono x72.gg r_script_
          have r7 := Rp.mono x72.gg r7
          have r24 := Rp.mono x72.gg r24
          have r45 := Rp.mono x72.gg r45
          have r46 := Rp.mono x72.gg r46
          exact ⟨v43, v44, _, xt, (Same.refl _), rfl, r45, r46⟩
        · rintro _ S' G' H' ⟨v74, v75, v76, xt, mk77, rfl, r78, r79⟩
          exact ⟨mk77, xt.gh⟩
        · rintro xv80 a81 s73 _ G84 H85 fl82 - ⟨v74, v75, v76, xt, mk77, rfl, r78, r79⟩ rx83 hm D' kN86 kC87 kB88 kR89
          have mk54 := (mk54.trans x72.gg).trans mk77
          have r_script_ := Rp.mono (x72.gg.trans mk77) r_script_
          have r7 := Rp.mono (x72.gg.trans mk77) r7
          have r24 := Rp.mono (x72.gg.trans mk77) r24
          refine sv_turn ?_
          refine bE hm fun b90 h91 hm => ?_
          refine sv_if (tv_test (K := K) (ev_ord (ev_var rfl r79) ev_i)) h91 xt.gh fun G92 H93 x94 => ?_
          have xt := xt.trans x94
          have mk54 := mk54.trans x94.gg
          have mk77 := mk77.trans x94.gg
          have r_script_ := Rp.mono x94.gg r_script_
          have r7 := Rp.mono x94.gg r7
          have r24 := Rp.mono x94.gg r24
          have r78 := Rp.mono x94.gg r78
          have r79 := Rp.mono x94.gg r79
          have rx83 := Rp.mono x94.gg rx83
          cases b90 with
          | true =>
            replace hm := cT hm
            refine iteT ?_
            refine bE hm fun told_ h100 hm => ?_
            refine sv_set (K := K) (ev_tupNL (lv_cons (ev_txtN ev_s) (lv_cons (ev_var rfl r78) (lv_cons (ev_var rfl r78) (lv_nil (α := Nt)))))) h100 xt.gh fun v95 G96 H97 x98 r99 => ?_
            have xt := xt.trans x98
            have mk54 := mk54.trans x98.gg
            have mk77 := mk77.trans x98.gg
            have r_script_ := Rp.mono x98.gg r_script_
            have r7 := Rp.mono x98.gg r7
            have r24 := Rp.mono x98.gg r24
            have r78 := Rp.mono x98.gg r78
            have r79 := Rp.mono x98.gg r79
            have rx83 := Rp.mono x98.gg rx83
            refine bE hm fun many_ h106 hm => ?_
            refine sv_set (K := K) (ev_add (ev_mulL (ev_var rfl r79)) ev_i) h106 xt.gh fun v101 G102 H103 x104 r105 => ?_
            have xt := xt.trans x104
            have mk54 := mk54.trans x104.gg
            have mk77 := mk77.trans x104.gg
            have r_script_ := Rp.mono x104.gg r_script_
            have r7 := Rp.mono x104.gg r7
            have r24 := Rp.mono x104.gg r24
            have r99 := Rp.mono x104.gg r99
            have r79 := Rp.mono x104.gg r79
            have rx83 := Rp.mono x104.gg rx83
            cases hm
            exact kN86 _ _ _ _ rfl ⟨v95, v101, _, xt, mk77, rfl, r99, r105⟩
          | false =>
            replace hm := cF hm
            refine iteF ?_
            cases hm
            exact kN86 _ _ _ _ rfl ⟨v74, v75, _, xt, mk77, rfl, r78, r79⟩
        · rintro s73 _ G113 H114 rfl ⟨v107, v108, v109, xt, mk110, rfl, r111, r112⟩
          refine sv_nx ?_
          have mk54 := (mk54.trans x72.gg).trans mk110
          have r_script_ := Rp.mono (x72.gg.trans mk110) r_script_
          have r7 := Rp.mono (x72.gg.trans mk110) r7
          have r24 := Rp.mono (x72.gg.trans mk110) r24
          cases hm
          exact kn61 _ _ ⟨G113, v107, v108, _, xt, mk54, rfl, r111, r112⟩
        · rintro r' v' G' H' rfl rl
          exact rl.elim
      | false =>
        replace hm := cF hm
        refine iteF ?_
        cases hm
        exact kn61 _ _ ⟨G49, v43, v44, _, xt, mk54, rfl, r45, r46⟩
    · rintro _ H116 ⟨G115, v55, v57, v59, xt, mk54, rfl, r56, r58⟩
      have r_script_ := Rp.mono mk54 r_script_
      have r7 := Rp.mono mk54 r7
      have r24 := Rp.mono mk54 r24
      refine bE hm fun numbers_ h133 hm => ?_
      refine sv_own (K := K) (fv_def2 (m := mm_law_stream) (ev_def2 (m := mm_law_cell_at) (ev_var rfl r_script_) ev_i) (ev_add ev_i (ev_modR (ev_def2 (m := mm_law_cell_at) (ev_var rfl r_script_) ev_i)))) h133 xt.gh fun p126 vs127 G128 H129 x130 hz131 o132 => ?_
      have hz131 := xt.hh.free hz131
      have xt := xt.trans x130
      have r_script_ := Rp.mono x130.gg r_script_
      have r7 := Rp.mono x130.gg r7
      have r24 := Rp.mono x130.gg r24
      have r56 := Rp.mono x130.gg r56
      have r58 := Rp.mono x130.gg r58
      refine bE hm fun a137 h138 hm => ?_
      refine bE hm fun k139 h140 hm => ?_
      refine bE hm fun z148 h141 hm => ?_
      refine sv_setitem (K := K) rfl o132 (ev_modC (ev_def2 (m := mm_law_cell_at) (ev_var rfl r_script_) ev_i) (EV.of (m' := some (1000000 : Int)) (ev_pow (ev_i (i := 10)) (ev_i (i := 6))) (by decide +kernel)) (by decide +kernel)) h138 ev_i h140 h141 xt.gh fun G142 H143 w144 j145 x146 o147 => ?_
      have xt : Ext G0 H0 G142 (upd H143 p126 (.lst (vs127.set j145 w144))) := (xt.trans x146).put hz131 o147.g
      have r_script_ := Rp.mono x146.gg r_script_
      have r7 := Rp.mono x146.gg r7
      have r24 := Rp.mono x146.gg r24
      have r56 := Rp.mono x146.gg r56
      have r58 := Rp.mono x146.gg r58
      have sf := Same.new (o := .lst (vs127.set j145 w144)) o147.g
      have xt := xt.frz hz131 o147.g o147.h
      have r151 := o147.tell
      have r_script_ := Rp.mono sf r_script_
      have r7 := Rp.mono sf r7
      have r24 := Rp.mono sf r24
      have r56 := Rp.mono sf r56
      have r58 := Rp.mono sf r58
      refine bE hm fun other_ h159 hm => ?_
      refine sv_set (K := K) (ev_def2 (m := mm_law_spoiled) (ev_var rfl r56) (ev_var rfl r151)) h159 xt.gh fun v154 G155 H156 x157 r158 => ?_
      have xt := xt.trans x157
      have r_script_ := Rp.mono x157.gg r_script_
      have r7 := Rp.mono x157.gg r7
      have r24 := Rp.mono x157.gg r24
      have r56 := Rp.mono x157.gg r56
      have r58 := Rp.mono x157.gg r58
      have r151 := Rp.mono x157.gg r151
      refine bE hm fun b169 h170 hm => ?_
      refine sv_if (tv_or (tv_not (tv_b (K := K) (ev_def2 (m := mm_law_truth) (ev_def1 (m := mm_is_sentence) (ev_toD (ev_var rfl r56))) (ev_ord (ev_var rfl r58) ev_i)))) (tv_not (tv_b (K := K) (ev_def2 (m := mm_law_truth) (ev_def1 (m := mm_is_sentence) (ev_var rfl r158)) ev_b)))) h170 xt.gh fun G171 H172 x173 => ?_
      have xt := xt.trans x173
      have r_script_ := Rp.mono x173.gg r_script_
      have r7 := Rp.mono x173.gg r7
      have r24 := Rp.mono x173.gg r24
      have r56 := Rp.mono x173.gg r56
      have r58 := Rp.mono x173.gg r58
      have r151 := Rp.mono x173.gg r151
      have r158 := Rp.mono x173.gg r158
      cases b169 with
      | true =>
        replace hm := cT hm
        refine iteT ?_
        exact sv_ret (K := K) (rest := tNext) (σ := [some v_script_, some v3, some v23, some v55, some v57, v59, some (V.ref p126), some v154]) ev_b hm xt.gh fun v174 G175 H176 x177 r178 => q v174 G175 H176 (xt.trans x177) r178
      | false =>
        replace hm := cF hm
        refine iteF ?_
        exact sv_ret (K := K) (ev_and (ev_def2 (m := mm_law_truth) (ev_def1 (m := mm_is_sentence) (ev_toD (ev_var rfl r56))) (ev_ord (ev_var rfl r58) ev_i)) (ev_def2 (m := mm_law_truth) (ev_def1 (m := mm_is_sentence) (ev_var rfl r158)) ev_b)) hm xt.gh fun v186 G187 H188 x189 r190 => q v186 G187 H188 (xt.trans x189) r190
end
end My
set_option Elab.async false
set_option linter.all false
set_option maxRecDepth 100000
set_option maxHeartbeats 4000000
namespace My
open PySem PySem.Spec PyProof.Rows L2
noncomputable def abcN : List Nat := List.range' 97 26
theorem abc_cps : ("abcdefghijklmnopqrstuvwxyz" : Str).cps.toList = abcN := by decide +kernel
noncomputable def W1 : List Str := ["not", "next", "atlast", "always", "again", "settles"]
noncomputable def W2 : List Str := ["and", "until", "or", "then", "frees"]
inductive Sx : Nt → Nat → Prop where
  | leaf {w : Str} : w = "yes" ∨ w = "no" → Sx (.tup [.txt w]) 1
  | lamp {c : Nat} : c ∈ abcN → Sx (.tup [.txt "lamp", .txt ⟨#[c]⟩]) 1
  | one {w : Str} {a : Nt} {n : Nat} : w ∈ W1 → Sx a n → Sx (.tup [.txt w, a]) (n + 1)
  | two {w : Str} {a b : Nt} {n m : Nat} : w ∈ W2 → Sx a n → Sx b m → Sx (.tup [.txt w, a, b]) (n + m + 1)
theorem Sx.pos {a : Nt} {n : Nat} (h : Sx a n) : 1 ≤ n := by cases h <;> omega
theorem g_one : ∀ w ∈ W1, getC c_PARTS w = some 1 := by decide +kernel
theorem g_two : ∀ w ∈ W2, getC c_PARTS w = some 2 := by decide +kernel
theorem g_leaf : getC c_PARTS "yes" = some 0 ∧ getC c_PARTS "no" = some 0 := by decide +kernel
theorem nl_one : ∀ w ∈ W1, w ≠ "lamp" := by decide +kernel
theorem nl_two : ∀ w ∈ W2, w ≠ "lamp" := by decide +kernel
theorem nl_leaf : ("yes" : Str) ≠ "lamp" ∧ ("no" : Str) ≠ "lamp" := by decide +kernel
theorem atd0 (x : D) (l : List D) : atI (x :: l) (0 : Int) = some x := atI_nat (j := 0) rfl
theorem atd1 (x y : D) (l : List D) : atI (x :: y :: l) (1 : Int) = some y := atI_nat (j := 1) rfl
theorem cut_tailD {α : Type} (a : α) (l : List α) : cutT? (a :: l) (some 1) none = some ⟨l⟩ := by
  have h1 : HT.sIx (a :: l).length 0 (some (1 : Int)) = 1 := by
    unfold HT.sIx
    simp
    try omega
  have h2 : HT.sIx (a :: l).length (a :: l).length none = (a :: l).length := rfl
  unfold cutT?
  rw [if_pos (by rw [h1]; exact fun z => absurd z.1 (by decide))]
  unfold cutA
  rw [h1, h2]
  simp
theorem k_tup (l : List D) : isK "tuple" (.tup l) = true := id rfl
theorem k_str (x : Str) : isK "str" (.str x) = true := id rfl
theorem ln0 (x : D) (r : List D) : decide (((x :: r).length : Int) = 0) = false := decide_eq_false (by rw [List.length_cons]; omega)
theorem form_in {w : Str} {k : Nat} {l : List D} (hw : w ≠ "lamp") (hg : getC c_PARTS w = some (k : Int)) : m_has_form (.tup (.str w :: l)) = some (decide (l.length = k)) := by
  refine OK.eq ?_
  unfold m_has_form
  simp only [Option.bind_assoc, bindS, bind_self, k_tup, lenD, ln0, atD, atd0, k_str, asStr, Bool.not_true, cond_false, decide_eq_false hw, hg, Option.isSome_some, cond_true]
  refine ok_some ?_
  refine decide_eq_decide.mpr ?_
  rw [List.length_cons]
  omega
theorem form_out {w : Str} {l : List D} (hw : w ≠ "lamp") (hg : getC c_PARTS w = none) : m_has_form (.tup (.str w :: l)) = some false := by
  refine OK.eq ?_
  unfold m_has_form
  simp only [Option.bind_assoc, bindS, bind_self, k_tup, lenD, ln0, atD, atd0, k_str, asStr, Bool.not_true, cond_false, decide_eq_false hw, hg, Option.isSome_none]
  exact ok_some rfl
theorem form_kind {d : D} (h : isK "tuple" d = false) : m_has_form d = some false := by
  refine OK.eq ?_
  unfold m_has_form
  simp only [Option.bind_assoc, bindS, bind_self, h, Bool.not_false, cond_true]
  exact ok_some rfl
theorem form_first {x : D} {l : List D} (h : isK "str" x = false) : m_has_form (.tup (x :: l)) = some false := by
  refine OK.eq ?_
  unfold m_has_form
  simp only [Option.bind_assoc, bindS, bind_self, k_tup, lenD, ln0, atD, atd0, h, Bool.not_true, Bool.not_false, cond_false, cond_true]
  exact ok_some rfl
theorem form_lamp {x : D} {b : Bool} (h : m_is_lamp x = some b) : m_has_form (.tup [.str "lamp", x]) = some b := by
  refine OK.eq ?_
  unfold m_has_form
  simp only [Option.bind_assoc, bindS, bind_self, k_tup, lenD, ln0, atD, atd0, atd1, k_str, asStr, Bool.not_true, cond_false, decide_true, cond_true, h]
  exact ⟨_, rfl, rfl⟩
theorem form_lampN {l : List D} (h : l.length ≠ 1) : m_has_form (.tup (.str "lamp" :: l)) = some false := by
  refine OK.eq ?_
  unfold m_has_form
  simp only [Option.bind_assoc, bindS, bind_self, k_tup, lenD, ln0, atD, atd0, k_str, asStr, Bool.not_true, cond_false, decide_true, cond_true]
  rw [decide_eq_false (by rw [List.length_cons]; omega)]
  exact ok_some rfl
theorem lamp_kind {d : D} (h : isK "str" d = false) : m_is_lamp d = some false := by
  refine OK.eq ?_
  unfold m_is_lamp m_is_moment
  simp only [Option.bind_assoc, bindS, bind_self, h, Bool.not_false, cond_true, cond_false]
  exact ok_some rfl
theorem parts_lampD {x : D} {l : List D} : m_parts_of (.tup (.str "lamp" :: l)) = some ⟨[]⟩ := by
  refine OK.eq ?_
  unfold m_parts_of
  simp only [Option.bind_assoc, bindS, bind_self, atD, atd0, asStr, decide_true, cond_true]
  exact ok_some rfl
theorem parts_otherD {w : Str} {l : List D} (hw : w ≠ "lamp") : m_parts_of (.tup (.str w :: l)) = some ⟨l⟩ := by
  refine OK.eq ?_
  unfold m_parts_of
  simp only [Option.bind_assoc, bindS, bind_self, atD, atd0, asStr, asTupD, decide_eq_false hw, cond_false, cut_tailD]
  exact ok_some rfl
theorem lamp_abc : ∀ c ∈ abcN, m_is_lamp (.str ⟨#[c]⟩) = some true := by decide +kernel
inductive Tame : D → Prop where
  | no {d : D} : m_has_form d = some false → Tame d
  | yes {d : D} {ds : List D} : m_has_form d = some true → m_parts_of d = some ⟨ds⟩ → ds.length ≤ 2 → (∀ x ∈ ds, Tame x) → Tame d
inductive Bad : D → Prop where
  | here {d : D} : m_has_form d = some false → Bad d
  | part {d x : D} {ds : List D} : m_has_form d = some true → m_parts_of d = some ⟨ds⟩ → x ∈ ds → Bad x → Bad d
inductive Gd : D → Nat → Prop where
  | zero {d : D} : m_has_form d = some true → m_parts_of d = some ⟨[]⟩ → Gd d 1
  | one {d x : D} {n : Nat} : m_has_form d = some true → m_parts_of d = some ⟨[x]⟩ → Gd x n → Gd d (n + 1)
  | two {d x y : D} {n m : Nat} : m_has_form d = some true → m_parts_of d = some ⟨[x, y]⟩ → Gd x n → Gd y m → Gd d (n + m + 1)
theorem Gd.tame {d : D} {n : Nat} (h : Gd d n) : Tame d := by
  induction h with
  | zero h1 h2 => exact .yes h1 h2 (by simp) fun x hx => by cases hx
  | one h1 h2 _ ih => exact .yes h1 h2 (by simp) fun x hx => by rw [List.mem_singleton.mp hx]; exact ih
  | two h1 h2 _ _ ih1 ih2 =>
    refine .yes h1 h2 (by simp) fun x hx => ?_
    rcases List.mem_cons.mp hx with e | hx
    · rw [e]; exact ih1
    · rw [List.mem_singleton.mp hx]; exact ih2
theorem Gd.pos {d : D} {n : Nat} (h : Gd d n) : 1 ≤ n := by cases h <;> omega
theorem toD_leaf (w : Str) : (Nt.tup [.txt w]).toD = .tup [.str w] := by simp only [Nt.toD, Nt.toDs]
theorem toD_one (w : Str) (a : Nt) : (Nt.tup [.txt w, a]).toD = .tup [.str w, a.toD] := by simp only [Nt.toD, Nt.toDs]
theorem toD_two (w : Str) (a b : Nt) : (Nt.tup [.txt w, a, b]).toD = .tup [.str w, a.toD, b.toD] := by simp only [Nt.toD, Nt.toDs]
theorem Sx.gd {S : Nt} {n : Nat} (h : Sx S n) : Gd S.toD n := by
  induction h with
  | @leaf w hw =>
    rw [toD_leaf]
    rcases hw with rfl | rfl
    · exact .zero (form_in (k := 0) nl_leaf.1 g_leaf.1) (parts_otherD nl_leaf.1)
    · exact .zero (form_in (k := 0) nl_leaf.2 g_leaf.2) (parts_otherD nl_leaf.2)
  | @lamp c hc =>
    rw [toD_one]
    simp only [Nt.toD]
    exact .zero (form_lamp (lamp_abc c hc)) (parts_lampD (x := .non))
  | @one w a n hw _ ih =>
    rw [toD_one]
    exact .one (form_in (k := 1) (nl_one w hw) (g_one w hw)) (parts_otherD (nl_one w hw)) ih
  | @two w a b n m hw _ _ ih1 ih2 =>
    rw [toD_two]
    exact .two (form_in (k := 2) (nl_two w hw) (g_two w hw)) (parts_otherD (nl_two w hw)) ih1 ih2
inductive Gs : List D → Nat → Prop where
  | nil : Gs [] 0
  | cons {d : D} {ds : List D} {n m : Nat} : Gd d n → Gs ds m → Gs (d :: ds) (n + m)
theorem Gs.app {l m : List D} {a b : Nat} (h : Gs l a) (g : Gs m b) : Gs (l ++ m) (a + b) := by
  induction h with
  | nil => rw [Nat.zero_add]; exact g
  | cons h _ ih => rw [List.cons_append, Nat.add_assoc]; exact .cons h ih
theorem Gs.len {l : List D} {a : Nat} (h : Gs l a) : l.length ≤ a := by
  induction h with
  | nil => exact Nat.le_refl _
  | cons h _ ih => have := h.pos; rw [List.length_cons]; omega
theorem drop_ext {α : Type} {f : List α} {p : Nat} {x : α} (hx : f[p]? = some x) (ds : List α) : (f ++ ds).drop (p + 1) = f.drop (p + 1) ++ ds := by
  rw [List.drop_append_of_le_length]
  have := (List.getElem?_eq_some_iff.mp hx).1
  omega
theorem drop_hd {α : Type} {f : List α} {p : Nat} {x : α} (hx : f[p]? = some x) : f.drop p = x :: f.drop (p + 1) := by
  obtain ⟨h1, h2⟩ := List.getElem?_eq_some_iff.mp hx
  rw [List.drop_eq_getElem_cons h1, h2]
theorem sentence_good {d : D} {n : Nat} (h : Gd d n) : m_is_sentence d = some (decide (n ≤ 24)) := by
  have hz : sizeLine = 16777216 := sizeLine_eq
  refine OK.eq ?_
  unfold m_is_sentence
  simp only [Option.bind_assoc, bindS, bind_self]
  refine ok_bind (ok_while (fun s : List D × Int => ∃ p r : Nat, s.2 = (p : Int) ∧ p ≤ s.1.length ∧ p ≤ 24 ∧ Gs (s.1.drop p) r ∧ p + r = n) (fun _ => False) (fun b => b = decide (n ≤ 24)) (fun s => 100 - s.2.toNat) ⟨0, n, rfl, Nat.zero_le _, Nat.zero_le _, by have := Gs.cons h .nil; simpa using this, by omega⟩ (by simp) ?_ (fun _ h => h.elim) fun r hr => ok_some hr)
  rintro ⟨f, pl⟩ ⟨p, r, e1, h1, h2, h3, h4⟩
  dsimp only at e1 h1 h3
  subst e1
  refine ok_some ?_
  have hlen := h3.len
  rw [List.length_drop] at hlen
  by_cases hlt : (p : Int) < (f.length : Int)
  · rw [decide_eq_true hlt, if_pos rfl]
    have hx : f[p]? = some f[p] := List.getElem?_eq_getElem (by omega)
    have hat : atI f (p : Int) = some f[p] := atI_nat hx
    rw [drop_hd hx] at h3
    dsimp only
    by_cases h24 : (24 : Int) < (f.length : Int)
    · rw [decide_eq_true h24, cond_true, bindS]
      refine ok_cond (fun _ => ok_some ?_) fun h => nomatch h
      dsimp only
      rw [decide_eq_false (by omega)]
    · rw [decide_eq_false h24, cond_false, hat]
      simp only [bindS]
      cases h3 with
      | @cons _ _ k m hg hs =>
        have fin : ∀ (ds : List D) (k' : Nat), m_has_form f[p] = some true → m_parts_of f[p] = some ⟨ds⟩ → Gs ds k' → k = k' + 1 → ds.length ≤ 2 → OK (((m_has_form f[p]).bind fun t41 => some (!t41)).bind fun b43 => cond b43 (some (Fl.rt false : Fl (List D × Int) Bool)) ((m_parts_of f[p]).bind fun a61 => (extO f a61.l).bind fun z69 => some (Fl.nx (z69, (p : Int) + 1)))) fun fl => ∃ s', fl = Fl.nx s' ∧ (∃ p r : Nat, s'.2 = (p : Int) ∧ p ≤ s'.1.length ∧ p ≤ 24 ∧ Gs (s'.1.drop p) r ∧ p + r = n) ∧ 100 - s'.2.toNat < 100 - ((p : Int)).toNat := fun ds k' q1 q2 q3 q4 q5 => by
          rw [q1, q2, bindS, bindS, bindS]
          refine ok_bC _ (if_pos (by dsimp only; omega)) (ok_some ⟨_, rfl, ⟨p + 1, m + k', by dsimp only; omega, ?_, by omega, ?_, by omega⟩, ?_⟩)
          · dsimp only
            rw [List.length_append]
            omega
          · dsimp only
            rw [drop_ext hx]
            exact hs.app q3
          · dsimp only
            omega
        cases hg with
        | zero q1 q2 => exact (fin [] 0 q1 q2 .nil rfl (by simp)).mono fun fl ⟨s', e, h⟩ => by subst e; exact h
        | @one _ x k' q1 q2 q3 => exact (fin [x] k' q1 q2 (by have := Gs.cons q3 .nil; simpa using this) rfl (by simp)).mono fun fl ⟨s', e, h⟩ => by subst e; exact h
        | @two _ x y k' k'' q1 q2 q3 q4 => exact (fin [x, y] (k' + k'') q1 q2 (by have := Gs.cons q3 (Gs.cons q4 .nil); simpa using this) rfl (by simp)).mono fun fl ⟨s', e, h⟩ => by subst e; exact h
  · rw [decide_eq_false hlt, if_neg Bool.false_ne_true]
    refine ok_some ?_
    have e : f.drop p = [] := List.drop_eq_nil_of_le (by omega)
    rw [e] at h3
    cases h3
    exact (decide_eq_true (by omega)).symm
theorem sentence_bad {d : D} (ht : Tame d) (hb : Bad d) : m_is_sentence d = some false := by
  have hz : sizeLine = 16777216 := sizeLine_eq
  refine OK.eq ?_
  unfold m_is_sentence
  simp only [Option.bind_assoc, bindS, bind_self]
  refine ok_bind (ok_while (fun s : List D × Int => ∃ p : Nat, s.2 = (p : Int) ∧ p ≤ 24 ∧ (∀ x ∈ s.1, Tame x) ∧ ∃ x ∈ s.1.drop p, Bad x) (fun _ => False) (fun b => b = false) (fun s => 100 - s.2.toNat) ⟨0, rfl, Nat.zero_le _, fun x hx => by rw [List.mem_singleton.mp hx]; exact ht, d, by simp, hb⟩ (by simp) ?_ (fun _ h => h.elim) fun r hr => ok_some hr)
  rintro ⟨f, pl⟩ ⟨p, e1, h2, hT, x, hx, hbx⟩
  dsimp only at e1 hT hx
  subst e1
  refine ok_some ?_
  have hlt : p < f.length := by
    have := List.length_pos_of_mem hx
    rw [List.length_drop] at this
    omega
  dsimp only
  rw [show decide ((p : Int) < (f.length : Int)) = true from decide_eq_true (by omega), if_pos rfl]
  have hp : f[p]? = some f[p] := List.getElem?_eq_getElem hlt
  have hat : atI f (p : Int) = some f[p] := atI_nat hp
  rw [drop_hd hp] at hx
  by_cases h24 : (24 : Int) < (f.length : Int)
  · rw [decide_eq_true h24, cond_true, bindS]
    exact ok_cond (fun _ => ok_some rfl) fun h => nomatch h
  · rw [decide_eq_false h24, cond_false, hat]
    simp only [bindS]
    cases hT f[p] (List.getElem_mem hlt) with
    | no q =>
      rw [q, bindS, bindS]
      exact ok_cond (fun _ => ok_some rfl) fun h => nomatch h
    | @yes _ ds q1 q2 q3 q4 =>
      rw [q1, q2, bindS, bindS, bindS]
      refine ok_cond (fun h => nomatch h) fun _ => ok_bC _ (if_pos (by dsimp only; omega)) (ok_some ⟨⟨p + 1, by dsimp only; omega, by omega, fun y hy => ?_, ?_⟩, by dsimp only; omega⟩)
      · rcases List.mem_append.mp hy with hy | hy
        · exact hT y hy
        · exact q4 y hy
      · dsimp only
        rw [drop_ext hp]
        rcases List.mem_cons.mp hx with e | hx
        · subst e
          cases hbx with
          | here q => rw [q1] at q; cases q
          | @part _ y ds' r1 r2 r3 r4 =>
            rw [q2] at r2
            cases r2
            exact ⟨y, List.mem_append_right _ r3, r4⟩
        · exact ⟨x, List.mem_append_left _ hx, hbx⟩
theorem Sx.kind {S : Nt} {n : Nat} (h : Sx S n) : ∃ l, S = .tup l ∧ S.toD = .tup (Nt.toDs l) := by cases h <;> exact ⟨_, rfl, by simp only [Nt.toD]⟩
noncomputable def NoF (d : D) : Prop := m_has_form d = some false
theorem nof_all {l : List D} (h : ∀ x ∈ l, NoF x) {m : List D} (g : ∀ x ∈ m, NoF x) : ∀ x ∈ l ++ m, NoF x := fun x hx => (List.mem_append.mp hx).elim (h x) (g x)
theorem all_nil : ∀ x ∈ ([] : List D), NoF x := fun x hx => nomatch hx
theorem all_cons {a : D} {l : List D} (h : NoF a) (g : ∀ x ∈ l, NoF x) : ∀ x ∈ a :: l, NoF x := fun x hx => by
  rcases List.mem_cons.mp hx with e | hx
  · rw [e]; exact h
  · exact g x hx
theorem g_none : getC c_PARTS "lamps" = none ∧ getC c_PARTS "Lamp" = none ∧ getC c_PARTS "Not" = none ∧ getC c_PARTS "maybe" = none ∧ getC c_PARTS "" = none ∧ getC c_PARTS "next " = none := by decide +kernel
theorem n_none : ("lamps" : Str) ≠ "lamp" ∧ ("Lamp" : Str) ≠ "lamp" ∧ ("Not" : Str) ≠ "lamp" ∧ ("maybe" : Str) ≠ "lamp" ∧ ("" : Str) ≠ "lamp" ∧ ("next " : Str) ≠ "lamp" := by decide +kernel
theorem nof_words {w : Str} {k : Nat} {l : List D} (hw : w ≠ "lamp") (hg : getC c_PARTS w = some (k : Int)) (hl : l.length ≠ k) : NoF (.tup (.str w :: l)) := by
  unfold NoF
  rw [form_in hw hg, decide_eq_false hl]
theorem in1 {w : Str} (h : w ∈ W1) {l : List D} (hl : l.length ≠ 1) : NoF (.tup (.str w :: l)) := nof_words (k := 1) (nl_one w h) (g_one w h) hl
theorem in2 {w : Str} (h : w ∈ W2) {l : List D} (hl : l.length ≠ 2) : NoF (.tup (.str w :: l)) := nof_words (k := 2) (nl_two w h) (g_two w h) hl
theorem sign_no : ∀ z ∈ (" !\"#$&'()*+,-./0123456789:;<=>?@ABCDEFGHIJKLMNOPQRSTUVWXYZ[\\]^_`{|}~" : Str).cps.toList, m_is_lamp (.str ⟨#[z]⟩) = some false ∧ m_is_lamp (.str (("k" : Str) ++ ⟨#[z]⟩)) = some false := by decide +kernel
theorem sign_pos : 0 < (" !\"#$&'()*+,-./0123456789:;<=>?@ABCDEFGHIJKLMNOPQRSTUVWXYZ[\\]^_`{|}~" : Str).cps.toList.length := by decide +kernel
theorem lamp_no : m_is_lamp (.str "") = some false ∧ m_is_lamp (.str "ab") = some false ∧ m_is_lamp (.str "A") = some false ∧ m_is_lamp (.str "1") = some false ∧ m_is_lamp (.str " ") = some false := by decide +kernel
theorem kf : isK "tuple" .non = false ∧ (∀ b, isK "tuple" (.bl b) = false) ∧ (∀ i, isK "tuple" (.int i) = false) ∧ (∀ x, isK "tuple" (.str x) = false) ∧ (∀ l, isK "tuple" (.lst l) = false) ∧ isK "tuple" .dic = false :=
  ⟨by decide +kernel, fun _ => (by decide +kernel : (("bool" : String) == "tuple" || (("tuple" : String) == "int" && ("bool" : String) == "bool")) = false), fun _ => (by decide +kernel : (("int" : String) == "tuple" || (("tuple" : String) == "int" && ("int" : String) == "bool")) = false), fun _ => (by decide +kernel : (("str" : String) == "tuple" || (("tuple" : String) == "int" && ("str" : String) == "bool")) = false), fun _ => (by decide +kernel : (("list" : String) == "tuple" || (("tuple" : String) == "int" && ("list" : String) == "bool")) = false), by decide +kernel⟩
theorem ks : isK "str" .non = false ∧ (∀ i, isK "str" (.int i) = false) ∧ (∀ l, isK "str" (.lst l) = false) ∧ (∀ l, isK "str" (.tup l) = false) :=
  ⟨by decide +kernel, fun _ => (by decide +kernel : (("int" : String) == "str" || (("str" : String) == "int" && ("int" : String) == "bool")) = false), fun _ => (by decide +kernel : (("list" : String) == "str" || (("str" : String) == "int" && ("list" : String) == "bool")) = false), fun _ => (by decide +kernel : (("tuple" : String) == "str" || (("str" : String) == "int" && ("tuple" : String) == "bool")) = false)⟩
theorem A0 : ∀ x ∈ ([.non, .bl true, .bl false, .int 7, .str "yes", .str "lamp", .str "", .tup [], .lst [], .dic] : List D), NoF x :=
  all_cons (form_kind kf.1) (all_cons (form_kind (kf.2.1 _)) (all_cons (form_kind (kf.2.1 _)) (all_cons (form_kind (kf.2.2.1 _)) (all_cons (form_kind (kf.2.2.2.1 _)) (all_cons (form_kind (kf.2.2.2.1 _)) (all_cons (form_kind (kf.2.2.2.1 _)) (all_cons (show m_has_form (.tup []) = some false from rfl) (all_cons (form_kind (kf.2.2.2.2.1 _)) (all_cons (form_kind kf.2.2.2.2.2) all_nil)))))))))
theorem A1 : ∀ x ∈ ([.tup [.str "lamp"], .tup [.str "lamp", .str ""], .tup [.str "lamp", .str "ab"], .tup [.str "lamp", .str "A"], .tup [.str "lamp", .int 3], .tup [.str "lamp", .non], .tup [.str "lamp", .lst [.str "a"]]] : List D), NoF x :=
  all_cons (form_lampN (by simp)) (all_cons (form_lamp lamp_no.1) (all_cons (form_lamp lamp_no.2.1) (all_cons (form_lamp lamp_no.2.2.1) (all_cons (form_lamp (lamp_kind (ks.2.1 _))) (all_cons (form_lamp (lamp_kind ks.1)) (all_cons (form_lamp (lamp_kind (ks.2.2.1 _))) all_nil))))))
section
variable (l : List D)
theorem A2 : ∀ x ∈ ([.tup [.str "lamp", .str "a", .str "b"], .tup [.str "lamp", .str "1"], .tup [.str "lamp", .str " "], .tup [.str "lamp", .tup l], .tup [.str "lamps", .str "a"], .tup [.str "Lamp", .str "a"]] : List D), NoF x :=
  all_cons (form_lampN (by simp)) (all_cons (form_lamp lamp_no.2.2.2.1) (all_cons (form_lamp lamp_no.2.2.2.2) (all_cons (form_lamp (lamp_kind (ks.2.2.2 _))) (all_cons (form_out n_none.1 g_none.1) (all_cons (form_out n_none.2.1 g_none.2.1) all_nil)))))
theorem A3 (m : List D) : ∀ x ∈ ([.tup [.str "yes", .tup l], .tup [.str "no", .str "no"], .tup [.str "yes", .non], .lst [.str "yes"], .lst [.str "lamp", .str "c"], .lst m, .dic] : List D), NoF x :=
  all_cons (nof_words (k := 0) nl_leaf.1 g_leaf.1 (by simp)) (all_cons (nof_words (k := 0) nl_leaf.2 g_leaf.2 (by simp)) (all_cons (nof_words (k := 0) nl_leaf.1 g_leaf.1 (by simp)) (all_cons (form_kind (kf.2.2.2.2.1 _)) (all_cons (form_kind (kf.2.2.2.2.1 _)) (all_cons (form_kind (kf.2.2.2.2.1 _)) (all_cons (form_kind kf.2.2.2.2.2) all_nil))))))
theorem A4 : ∀ x ∈ ([.tup [.str "not"], .tup [.str "not", .tup l, .tup l], .tup [.str "again"], .tup [.str "settles", .tup l, .tup l], .tup [.str "next", .tup l, .non]] : List D), NoF x :=
  all_cons (in1 (by simp [W1]) (by simp)) (all_cons (in1 (by simp [W1]) (by simp)) (all_cons (in1 (by simp [W1]) (by simp)) (all_cons (in1 (by simp [W1]) (by simp)) (all_cons (in1 (by simp [W1]) (by simp)) all_nil))))
theorem A5 : ∀ x ∈ ([.tup [.str "and", .tup l], .tup [.str "or"], .tup [.str "until", .tup l, .tup l, .tup l], .tup [.str "then", .tup l], .tup [.str "frees", .lst [.tup l, .tup l]]] : List D), NoF x :=
  all_cons (in2 (by simp [W2]) (by simp)) (all_cons (in2 (by simp [W2]) (by simp)) (all_cons (in2 (by simp [W2]) (by simp)) (all_cons (in2 (by simp [W2]) (by simp)) (all_cons (in2 (by simp [W2]) (by simp)) all_nil))))
theorem A6 : ∀ x ∈ ([.tup [.str "Not", .tup l], .tup [.str "maybe", .tup l], .tup [.str "", .tup l], .tup [.str "next ", .tup l], .tup [.non, .tup l], .tup [.int 1, .tup l], .tup [.tup l]] : List D), NoF x :=
  all_cons (form_out n_none.2.2.1 g_none.2.2.1) (all_cons (form_out n_none.2.2.2.1 g_none.2.2.2.1) (all_cons (form_out n_none.2.2.2.2.1 g_none.2.2.2.2.1) (all_cons (form_out n_none.2.2.2.2.2 g_none.2.2.2.2.2) (all_cons (form_first ks.1) (all_cons (form_first (ks.2.1 _)) (all_cons (form_first (ks.2.2.2 _)) all_nil))))))
theorem A7 {y z : Nat} (h1 : m_is_lamp (.str ⟨#[y]⟩) = some false) (h2 : m_is_lamp (.str (("k" : Str) ++ ⟨#[z]⟩)) = some false) : ∀ x ∈ ([.tup [.lst [.str "not"], .tup l], .tup [.str "lamp", .str ⟨#[y]⟩], .tup [.str "lamp", .str (("k" : Str) ++ ⟨#[z]⟩)]] : List D), NoF x :=
  all_cons (form_first (ks.2.2.1 _)) (all_cons (form_lamp h1) (all_cons (form_lamp h2) all_nil))
end
theorem cat_ok {a b : List D} {f : List D → Option D} (n m : Nat) (ha : ∀ x ∈ a, NoF x) (hb : ∀ x ∈ b, NoF x) (hn : a.length = n) (hm : b.length = m) (hl : n + m ≤ 100) (k : ∀ c : List D, (∀ x ∈ c, NoF x) → c.length = n + m → OK (f c) NoF) : OK ((catL a b).bind f) NoF := by
  have hz : sizeLine = 16777216 := sizeLine_eq
  exact ok_bind (ok_catL (by omega) (k _ (nof_all ha hb) (by rw [List.length_append, hn, hm])))
theorem td_u : (ToD.to () : D) = .non := rfl
theorem td_b (b : Bool) : (ToD.to b : D) = .bl b := rfl
theorem td_i (n : Int) : (ToD.to n : D) = .int n := rfl
theorem td_s (x : Str) : (ToD.to x : D) = .str x := rfl
theorem td_t (l : List D) : (ToD.to (Tp.mk l) : D) = .tup l := by
  show D.tup (l.map id) = _
  rw [List.map_id]
theorem td_l (l : List D) : (ToD.to l : D) = .lst l := by
  show D.lst (l.map id) = _
  rw [List.map_id]
theorem td_n (l : List Nt) : (ToD.to l : D) = .lst (l.map ToD.to) := rfl
noncomputable def signs : Str := " !\"#$&'()*+,-./0123456789:;<=>?@ABCDEFGHIJKLMNOPQRSTUVWXYZ[\\]^_`{|}~"
theorem none_ok (n : Int) {S : Nt} {k : Nat} (h : Sx S k) : OK (m_law_none_at_all n S) NoF := by
  have hz : sizeLine = 16777216 := sizeLine_eq
  obtain ⟨l, el, ed⟩ := h.kind
  have e0 : (ToD.to S : D) = .tup (Nt.toDs l) := ed
  have sp : 0 < signs.cps.toList.length := sign_pos
  have sn : ∀ z ∈ signs.cps.toList, m_is_lamp (.str ⟨#[z]⟩) = some false ∧ m_is_lamp (.str (("k" : Str) ++ ⟨#[z]⟩)) = some false := sign_no
  unfold m_law_none_at_all
  rw [show (" !\"#$&'()*+,-./0123456789:;<=>?@ABCDEFGHIJKLMNOPQRSTUVWXYZ[\\]^_`{|}~" : Str) = signs from rfl]
  generalize signs = sg at sp sn
  rw [e0, el]
  simp only [Option.bind_assoc, bindS, bind_self, asTup, td_u, td_b, td_i, td_s, td_t, td_l, td_n]
  refine cat_ok 10 7 A0 A1 rfl rfl (by decide) fun c1 h1 l1 => ?_
  refine cat_ok 17 6 h1 (A2 _) l1 rfl (by decide) fun c2 h2 l2 => ?_
  refine cat_ok 23 7 h2 (A3 _ _) l2 rfl (by decide) fun c3 h3 l3 => ?_
  refine cat_ok 30 5 h3 (A4 _) l3 rfl (by decide) fun c4 h4 l4 => ?_
  refine cat_ok 35 5 h4 (A5 _) l4 rfl (by decide) fun c5 h5 l5 => ?_
  refine cat_ok 40 7 h5 (A6 _) l5 rfl (by decide) fun c6 h6 l6 => ?_
  have sl : (0 : Int) < (sg.length : Int) := by rw [len_cps]; omega
  refine ok_bind (ok_mod sl ?_)
  have a0 := Int.emod_nonneg (n / 50) (b := (sg.length : Int)) (by omega)
  have a1 := Int.emod_lt_of_pos (n / 50) sl
  have a2 : n / 50 % (sg.length : Int) < (sg.cps.toList.length : Int) := by rw [← len_cps]; exact a1
  refine ok_bind (ok_at a0 a2 fun y hy => ok_bind (ok_at a0 a2 fun y2 hy2 => ?_))
  have s1 := sn y (List.mem_of_getElem? hy)
  have s2 := sn y2 (List.mem_of_getElem? hy2)
  refine ok_bind (ok_catS (by show ("k" : Str).length + 1 ≤ sizeLine; rw [show ("k" : Str).length = 1 from by decide +kernel]; omega) ?_)
  refine cat_ok 47 3 h6 (A7 _ s1.1 s2.2) l6 rfl (by decide) fun c7 h7 l7 => ?_
  rw [l7]
  exact ok_bind (ok_mod (by decide) (ok_at (Int.emod_nonneg _ (by decide)) (by rw [l7]; exact Int.emod_lt_of_pos _ (by decide)) fun x hx => h7 x (List.mem_of_getElem? hx)))
theorem at_n0 (x : Nt) (l : List Nt) : atI (x :: l) (0 : Int) = some x := atI_nat (j := 0) rfl
theorem cut_hi {α : Type} (xs : List α) (k : Nat) : cutA xs none (some (k : Int)) = xs.take k := by
  unfold cutA
  rw [HT.sIx_none, HT.sIx_nat, List.drop_zero, Nat.sub_zero]
  rw [List.take_eq_take_iff]
  omega
theorem cut_lo {α : Type} (xs : List α) (k : Nat) (hk : 0 < k) (hx : xs ≠ []) : cutT? xs (some (k : Int)) none = some ⟨xs.drop k⟩ := by
  have hp := List.length_pos_iff.mpr hx
  unfold cutT?
  rw [if_pos (by rw [HT.sIx_nat]; omega)]
  unfold cutA
  rw [HT.sIx_nat, HT.sIx_none]
  have e : xs.drop (min k xs.length) = xs.drop k := by
    by_cases h : k ≤ xs.length
    · rw [Nat.min_eq_left h]
    · rw [Nat.min_eq_right (by omega), List.drop_eq_nil_of_le (Nat.le_refl _), List.drop_eq_nil_of_le (by omega)]
  rw [e, List.take_of_length_le (by rw [List.length_drop]; omega)]
inductive Dn : Nt → Int → Prop where
  | one {w : Str} {a : Nt} {n : Nat} : w ∈ W1 → Sx a n → Dn (.tup [.txt w, a]) 1
  | left {w : Str} {a b : Nt} {n m : Nat} : w ∈ W2 → Sx a n → Sx b m → Dn (.tup [.txt w, a, b]) 1
  | right {w : Str} {a b : Nt} {n m : Nat} : w ∈ W2 → Sx a n → Sx b m → Dn (.tup [.txt w, a, b]) 2
theorem spoil_step {S : Nt} {at_ : Int} (h : Dn S at_) {d : D} (ht : Tame d) (hb : Bad d) {β : Type} {g : D → β} {P : β → Prop} (hp : ∀ x, Tame x → Bad x → P (g x)) :
    OK ((asTup S).bind fun t => (catTO (Tp.mk ((cutA t.l none (some at_)).map (ToD.to : Nt → D))) (Tp.mk [d])).bind fun u => (asTup S).bind fun t => (cutT? t.l (some (at_ + 1)) none).bind fun v => (catTO u (Tp.mk (v.l.map (ToD.to : Nt → D)))).bind fun r => some (g (ToD.to r : D))) P := by
  have hz : sizeLine = 16777216 := sizeLine_eq
  have ct : ∀ (a b : List D), a.length ≤ 10 → b.length ≤ 10 → catTO (Tp.mk a) (Tp.mk b) = some ⟨a ++ b⟩ := fun a b h1 h2 => if_pos (by show a.length + b.length ≤ sizeLine; omega)
  cases h with
  | @one w a n hw ha =>
    have e1 : cutA [Nt.txt w, a] none (some (1 : Int)) = [Nt.txt w] := cut_hi _ 1
    have e2 : cutT? [Nt.txt w, a] (some ((1 : Int) + 1)) none = some ⟨[]⟩ := cut_lo _ 2 (by decide) (by simp)
    simp only [asTup, bindS, e1, e2, List.map_cons, List.map_nil, ct [ToD.to (Nt.txt w)] [d] (by simp) (by simp), List.cons_append, List.nil_append, ct [ToD.to (Nt.txt w), d] [] (by simp) (by simp), List.append_nil, td_t]
    have f := form_in (k := 1) (l := [d]) (nl_one w hw) (g_one w hw)
    have q := parts_otherD (l := [d]) (nl_one w hw)
    exact ok_some (hp _ (.yes (d := .tup [.str w, d]) f q (by simp) fun x hx => by rw [List.mem_singleton.mp hx]; exact ht) (.part (d := .tup [.str w, d]) f q (List.mem_singleton.mpr rfl) hb))
  | @left w a b n m hw ha hb' =>
    have e1 : cutA [Nt.txt w, a, b] none (some (1 : Int)) = [Nt.txt w] := cut_hi _ 1
    have e2 : cutT? [Nt.txt w, a, b] (some ((1 : Int) + 1)) none = some ⟨[b]⟩ := cut_lo _ 2 (by decide) (by simp)
    simp only [asTup, bindS, e1, e2, List.map_cons, List.map_nil, ct [ToD.to (Nt.txt w)] [d] (by simp) (by simp), List.cons_append, List.nil_append, ct [ToD.to (Nt.txt w), d] [ToD.to b] (by simp) (by simp), td_t]
    have f := form_in (k := 2) (l := [d, b.toD]) (nl_two w hw) (g_two w hw)
    have q := parts_otherD (l := [d, b.toD]) (nl_two w hw)
    refine ok_some (hp _ (.yes (d := .tup [.str w, d, b.toD]) f q (by simp) fun x hx => ?_) (.part (d := .tup [.str w, d, b.toD]) f q List.mem_cons_self hb))
    rcases List.mem_cons.mp hx with e | hx
    · rw [e]; exact ht
    · rw [List.mem_singleton.mp hx]; exact hb'.gd.tame
  | @right w a b n m hw ha hb' =>
    have e1 : cutA [Nt.txt w, a, b] none (some (2 : Int)) = [Nt.txt w, a] := cut_hi _ 2
    have e2 : cutT? [Nt.txt w, a, b] (some ((2 : Int) + 1)) none = some ⟨[]⟩ := cut_lo _ 3 (by decide) (by simp)
    simp only [asTup, bindS, e1, e2, List.map_cons, List.map_nil, ct [ToD.to (Nt.txt w), ToD.to a] [d] (by simp) (by simp), List.cons_append, List.nil_append, ct [ToD.to (Nt.txt w), ToD.to a, d] [] (by simp) (by simp), List.append_nil, td_t]
    have f := form_in (k := 2) (l := [a.toD, d]) (nl_two w hw) (g_two w hw)
    have q := parts_otherD (l := [a.toD, d]) (nl_two w hw)
    refine ok_some (hp _ (.yes (d := .tup [.str w, a.toD, d]) f q (by simp) fun x hx => ?_) (.part (d := .tup [.str w, a.toD, d]) f q (List.mem_cons_of_mem _ List.mem_cons_self) hb))
    rcases List.mem_cons.mp hx with e | hx
    · rw [e]; exact ha.gd.tame
    · rw [List.mem_singleton.mp hx]; exact ht
theorem Sx.down {S : Nt} {n : Nat} (h : Sx S n) : ∃ w l, S = .tup (.txt w :: l) ∧ (w ≠ "lamp" → 1 < (Nt.txt w :: l).length → ∀ j : Int, 0 ≤ j → j < (((Nt.txt w :: l).length : Int) - 1) → ∃ x m, atI (Nt.txt w :: l) (1 + j) = some x ∧ Sx x m ∧ Dn S (1 + j)) := by
  cases h with
  | leaf hw => exact ⟨_, _, rfl, fun _ h => absurd h (by simp)⟩
  | lamp hc => exact ⟨_, _, rfl, fun h => absurd rfl h⟩
  | @one w a n hw ha =>
    refine ⟨_, _, rfl, fun _ _ j h0 h1 => ?_⟩
    have e : j = 0 := by simp only [List.length_cons, List.length_nil] at h1; omega
    subst e
    exact ⟨a, n, rfl, ha, .one hw ha⟩
  | @two w a b n m hw ha hb =>
    refine ⟨_, _, rfl, fun _ _ j h0 h1 => ?_⟩
    have e : j = 0 ∨ j = 1 := by simp only [List.length_cons, List.length_nil] at h1; omega
    rcases e with rfl | rfl
    · exact ⟨a, n, rfl, ha, .left hw ha hb⟩
    · exact ⟨b, m, rfl, hb, .right hw ha hb⟩
theorem spoiled_ok {S : Nt} {n : Nat} (h : Sx S n) {ns : List Int} (hl : ns.length ≤ 100) (hne : ns ≠ []) : OK (m_law_spoiled S ns) fun d => Tame d ∧ Bad d := by
  have hz : sizeLine = 16777216 := sizeLine_eq
  have hp := List.length_pos_iff.mpr hne
  unfold m_law_spoiled
  simp only [Option.bind_assoc, bindS, bind_self]
  have cl : (cutA ns (some 1) none).length ≤ ns.length := by
    unfold cutA
    rw [List.length_take, List.length_drop]
    omega
  refine ok_bind (ok_for' (fun i (s : Nt × List (Nt × Int)) => (∃ m, Sx s.1 m) ∧ (∀ x ∈ s.2, Dn x.1 x.2) ∧ s.2.length ≤ i) ⟨⟨n, h⟩, (fun x hx => by cases hx), Nat.le_refl _⟩ (fun i a s ha hI => ?_) fun s hI => ?_)
  · obtain ⟨⟨m, hS⟩, hP, hlen⟩ := hI
    have hi := (List.getElem?_eq_some_iff.mp ha).1
    obtain ⟨w, l, e, hd⟩ := hS.down
    rw [e]
    simp only [asTup, at_n0, asTxt, bindS]
    refine ok_by (P := fun b => b = true → w ≠ "lamp" ∧ 1 < (Nt.txt w :: l).length) ?_ fun b hb => ok_cond (fun h => ?_) fun _ => ok_some ⟨_, rfl, ⟨m, by rw [← e]; exact hS⟩, hP, by dsimp only; omega⟩
    · refine ok_cond (fun h => ok_cond (fun h2 => ok_some fun _ => ⟨?_, ?_⟩) fun _ => ok_some fun h => nomatch h) fun _ => ok_some fun h => nomatch h
      · have h : (!decide (w = "lamp")) = true := h
        rw [Bool.not_eq_true'] at h
        exact of_decide_eq_false h
      · have := of_decide_eq_true h2
        omega
    · obtain ⟨h1, h2⟩ := hb h
      have hpos : (0 : Int) < (((Nt.txt w :: l).length : Int) - 1) := by omega
      refine ok_bind (ok_mod hpos (ok_bind (ok_push (by omega) ?_)))
      obtain ⟨x, m', q1, q2, q3⟩ := hd h1 h2 (a / 8 % (((Nt.txt w :: l).length : Int) - 1)) (Int.emod_nonneg _ (by omega)) (Int.emod_lt_of_pos _ hpos)
      rw [q1, bindS]
      refine ok_some ⟨_, rfl, ⟨m', q2⟩, fun y hy => ?_, by rw [List.length_append]; show s.2.length + 1 ≤ i + 1; omega⟩
      rcases List.mem_append.mp hy with hy | hy
      · exact hP y hy
      · rw [List.mem_singleton.mp hy, ← e]
        exact q3
  · obtain ⟨⟨m, hS⟩, hP, hlen⟩ := hI
    dsimp only
    refine ok_bind (ok_at (by decide) (by omega) fun c _ => ok_by (none_ok c hS) fun d hd => ?_)
    refine ok_bind (ok_for' (fun _ (s : D) => Tame s ∧ Bad s) ⟨.no hd, .here hd⟩ (fun i a t ha hI => ?_) fun t hI => ok_some hI)
    have hD := hP a (List.mem_reverse.mp (List.mem_of_getElem? ha))
    exact spoil_step hD hI.1 hI.2 (g := Fl.nx) fun x h1 h2 => ⟨x, rfl, h1, h2⟩
theorem cell_at_ok (s : Scr) (k : Int) (h0 : 0 ≤ k) {P : Int → Prop} (hp : ∀ n, P n) : OK (m_law_cell_at s k) P := by
  unfold m_law_cell_at
  simp only [Option.bind_assoc, bindS, bind_self]
  exact ok_cond (fun h => ok_at h0 (of_decide_eq_true h) fun x _ => hp x) fun _ => ok_some (hp _)
theorem abc_size : (("abcdefghijklmnopqrstuvwxyz" : Str).cps.toList).length = 26 := by decide +kernel
theorem stream_ok (c many : Int) (hm : 0 ≤ many ∧ many ≤ 251) {P : List Int → Prop} (hp : ∀ l : List Int, (l.length : Int) = many → P l) : OK (m_law_stream c many) P := by
  have hs : sizeLine = 16777216 := sizeLine_eq
  obtain ⟨n, rfl⟩ := Int.eq_ofNat_of_zero_le hm.1
  unfold m_law_stream
  simp only [Option.bind_assoc, bindS, bind_self]
  refine ok_bind (ok_rng (n := n) (by omega) (by omega) (by omega) ?_)
  refine ok_bind (ok_for' (fun i (s : List Int × Int) => s.1.length = i ∧ 0 ≤ s.2 ∧ s.2 < 4294967296) ⟨rfl, by dsimp only; omega, by dsimp only; omega⟩ (fun i a s ha hI => ?_) fun s hI => ?_)
  · have hi : i < n := by simpa using (List.getElem?_eq_some_iff.mp ha).1
    refine ok_bind (ok_mul (.inl ⟨by omega, by omega⟩) (ok_bind (ok_push (by omega) (ok_some ⟨_, rfl, by rw [List.length_append, hI.1]; rfl, ?_, ?_⟩))))
    · exact Int.emod_nonneg _ (by decide)
    · have := Int.emod_lt_of_pos (s.2 * s.2 + 48271 * s.2 + a) (b := 2147483647) (by decide)
      dsimp only
      omega
  · refine ok_some (hp _ ?_)
    have := hI.1
    simp at this
    omega
theorem popO_snoc {α : Type} (l : List α) (x : α) : popO (l ++ [x]) = some (x, l) := by
  rw [popO_eq (by simp)]
  simp
theorem leaf_ok (n : Int) {P : Nt → Prop} (hp : ∀ S, Sx S 1 → P S) : OK (m_law_leaf n) P := by
  unfold m_law_leaf
  simp only [Option.bind_assoc, bindS, bind_self]
  refine ok_cond (fun _ => ok_some (hp _ (.leaf (.inl rfl)))) fun _ => ok_cond (fun _ => ok_some (hp _ (.leaf (.inr rfl)))) fun _ => ok_bind (ok_at (Int.emod_nonneg _ (by decide)) (by rw [abc_size]; exact Int.emod_lt_of_pos _ (by decide)) fun c hc => ok_some (hp _ (.lamp ?_)))
  rw [← abc_cps]
  exact List.mem_of_getElem? hc
inductive Ws : Nat → List Nt → Prop where
  | nil : Ws 0 []
  | snoc {m d : Nat} {st : List Nt} {x : Nt} : Ws m st → Sx x d → Ws (m + d) (st ++ [x])
theorem Ws.last {m : Nat} {st : List Nt} (h : Ws m st) (ne : 0 < st.length) : ∃ m' d st' x, st = st' ++ [x] ∧ m = m' + d ∧ Ws m' st' ∧ Sx x d := by
  cases h with
  | nil => exact absurd ne (by decide)
  | snoc h p => exact ⟨_, _, _, _, rfl, rfl, h, p⟩
theorem Ws.zero {m : Nat} {st : List Nt} (h : Ws m st) (e : st = []) : m = 0 := by
  cases h with
  | nil => rfl
  | snoc _ _ => simp at e
theorem put_ok (st : List Nt) (n : Nat) (cell room : Int) (hg : Ws n st) (hl : st.length ≤ 1000) {P : List Nt × List Int → Prop}
    (hp : ∀ st' (n' : Nat), Ws n' st' → 1 ≤ st'.length ∨ st = [] → st'.length ≤ st.length + 1 → n' ≤ n + 1 → P (st', [(n' : Int)])) : OK (m_law_put st [(n : Int)] cell room) P := by
  have hs : sizeLine = 16777216 := sizeLine_eq
  have e0 : ∀ m : Int, atI [m] (0 : Int) = some m := fun m => rfl
  have e1 : ∀ m a : Int, setO [m] (0 : Int) a = some [a] := fun m a => rfl
  have en : ∀ k : Nat, ((k : Int) + 1) = ((k + 1 : Nat) : Int) := fun k => by omega
  unfold m_law_put
  simp only [Option.bind_assoc, bindS, bind_self, e0, e1, en]
  refine ok_by (P := fun s : List Nt × List Int => ∃ m : Nat, s.2 = [(m : Int)] ∧ Ws m s.1 ∧ (1 ≤ s.1.length ∨ st = []) ∧ s.1.length ≤ st.length + 1 ∧ m ≤ n + 1) ?_ fun s ⟨m, h1, h2, h3, h4, h5⟩ => ok_some (by rw [h1]; exact hp _ _ h2 h3 h4 h5)
  have keep : ∃ m : Nat, (st, [(n : Int)]).2 = [(m : Int)] ∧ Ws m (st, [(n : Int)]).1 ∧ (1 ≤ (st, [(n : Int)]).1.length ∨ st = []) ∧ (st, [(n : Int)]).1.length ≤ st.length + 1 ∧ m ≤ n + 1 := ⟨n, rfl, hg, by
    dsimp only
    by_cases h : st = []
    · exact .inr h
    · exact .inl (List.length_pos_iff.mpr h), by dsimp only; omega, by omega⟩
  refine ok_cond (fun h => ok_cond (fun h2 => ?_) fun _ => ok_some keep) fun _ => ?_
  · simp only [Bool.and_eq_true, decide_eq_true_iff] at h
    obtain ⟨m', d, st', x, rfl, rfl, hw, hpl⟩ := hg.last (by omega)
    rw [popO_snoc]
    simp only [bindS]
    refine ok_bind (ok_at (Int.emod_nonneg _ (by decide)) (by show cell % 16 < 6; omega) fun w hw6 => ?_)
    rw [List.length_append, List.length_singleton] at *
    refine ok_bind (ok_push (by omega) (ok_some ⟨m' + d + 1, rfl, ?_, ?_, ?_, by omega⟩))
    · exact Ws.snoc (d := d + 1) hw (.one (List.mem_of_getElem? hw6) hpl)
    · dsimp only
      rw [List.length_append, List.length_singleton]
      exact .inl (by omega)
    · dsimp only
      rw [List.length_append, List.length_singleton]
      omega
  · refine ok_by (P := fun b => b = true → 5 < cell % 16 ∧ cell % 16 < 11) ?_ fun b0 hb0 => ?_
    · refine ok_cond (fun h => ok_some fun h2 => ?_) fun _ => ok_some fun h => by cases h
      simp only [decide_eq_true_iff] at h h2
      exact ⟨h, h2⟩
    refine ok_by (P := fun b => b = true → (5 < cell % 16 ∧ cell % 16 < 11) ∧ 1 < st.length) ?_ fun b hb => ok_cond (fun h => ?_) fun _ => ok_cond (fun h2 => ?_) fun _ => ok_some keep
    · refine ok_cond (fun h => ok_some fun h2 => ⟨hb0 h, ?_⟩) fun _ => ok_some fun h => by cases h
      have := of_decide_eq_true h2
      omega
    · obtain ⟨⟨h1, h2⟩, h3⟩ := hb h
      obtain ⟨m1, d1, st1, x1, rfl, rfl, hw1, hp1⟩ := hg.last (by omega)
      rw [List.length_append, List.length_singleton] at h3
      obtain ⟨m2, d2, st2, x2, rfl, rfl, hw2, hp2⟩ := hw1.last (by omega)
      rw [popO_snoc]
      simp only [bindS]
      rw [popO_snoc]
      simp only [bindS]
      refine ok_bind (ok_at (by omega) (by show cell % 16 - 6 < 5; omega) fun w hw6 => ?_)
      simp only [List.length_append, List.length_singleton] at hl
      refine ok_bind (ok_push (by omega) (ok_some ⟨m2 + (d2 + d1 + 1), ?_, Ws.snoc hw2 (.two (List.mem_of_getElem? hw6) hp2 hp1), ?_, ?_, by omega⟩))
      · dsimp only
        congr 1
        omega
      · simp only [List.length_append, List.length_singleton]
        exact .inl (by omega)
      · simp only [List.length_append, List.length_singleton]
        omega
    · refine ok_bind (leaf_ok _ fun s hpl => ok_bind (ok_push (by omega) (ok_some ⟨n + 1, rfl, Ws.snoc hg hpl, ?_, ?_, by omega⟩)))
      · simp only [List.length_append, List.length_singleton]
        exact .inl (by omega)
      · simp only [List.length_append, List.length_singleton]
        omega
theorem built_ok (cells : List Int) (room : Int) (hc : cells.length ≤ 100) {P : Nt × Int → Prop} (hp : ∀ S (n : Nat), Sx S n → n ≤ 500 → P (S, (n : Int))) : OK (m_law_built cells room) P := by
  have hs : sizeLine = 16777216 := sizeLine_eq
  unfold m_law_built
  simp only [Option.bind_assoc, bindS, bind_self]
  refine ok_bind (leaf_ok _ fun S0 h0 => ?_)
  have w0 : Ws 1 [S0] := Ws.snoc (m := 0) .nil h0
  refine ok_bind (ok_for' (fun i (s : List Nt × List Int) => ∃ m : Nat, s.2 = [(m : Int)] ∧ Ws m s.1 ∧ 1 ≤ s.1.length ∧ s.1.length ≤ i + 1 ∧ m ≤ i + 1) ⟨1, rfl, w0, by simp, by simp, by simp⟩ (fun i a s ha ⟨m, h1, h2, h3, h4, h5⟩ => ?_) fun s ⟨m, h1, h2, h3, h4, h5⟩ => ?_)
  · have hi := (List.getElem?_eq_some_iff.mp ha).1
    rw [h1]
    refine ok_bind (put_ok _ _ _ _ h2 (by omega) fun st' n' g1 g2 g3 g4 => ok_some ⟨_, rfl, n', rfl, g1, ?_, ?_, by omega⟩)
    · rcases g2 with g2 | g2
      · exact g2
      · rw [g2] at h3
        exact absurd h3 (by decide)
    · dsimp only
      omega
  · refine ok_bind (ok_while (fun l : List Nt × List Int => ∃ m : Nat, l.2 = [(m : Int)] ∧ Ws m l.1 ∧ 1 ≤ l.1.length ∧ l.1.length ≤ 300 ∧ m + l.1.length ≤ 400) (fun _ => False) (fun _ => False) (fun l => l.1.length) ⟨m, h1, h2, h3, by dsimp only; omega, by dsimp only; omega⟩ (by dsimp only; omega) (fun l ⟨m, r0, r1, r2, r3, r4⟩ => ?_) (fun _ h => h.elim) fun _ h => h.elim)
    obtain ⟨l, sp⟩ := l
    dsimp only at r0 r1 r2 r3 r4
    subst r0
    refine ok_some ?_
    by_cases hlt : (1 : Int) < (l.length : Int)
    · rw [decide_eq_true hlt, if_pos rfl]
      obtain ⟨m1, d1, st1, x1, rfl, rfl, hw1, hp1⟩ := r1.last (by omega)
      simp only [List.length_append, List.length_singleton] at hlt r3 r4
      obtain ⟨m2, d2, st2, x2, rfl, rfl, hw2, hp2⟩ := hw1.last (by omega)
      simp only [List.length_append, List.length_singleton] at hlt r3 r4
      rw [popO_snoc]
      simp only [bindS]
      rw [popO_snoc]
      simp only [bindS]
      refine ok_bind (ok_at (Int.emod_nonneg _ (by decide)) (Int.emod_lt_of_pos _ (b := 3) (by decide)) fun w hw6 => ?_)
      have hm : ∃ v ∈ W2, w = .txt v := by
        have hm := List.mem_of_getElem? hw6
        simp only [List.mem_cons, List.not_mem_nil, or_false] at hm
        rcases hm with rfl | rfl | rfl <;> exact ⟨_, by simp [W2], rfl⟩
      obtain ⟨v, hv, rfl⟩ := hm
      have e0 : ∀ m : Int, atI [m] (0 : Int) = some m := fun m => rfl
      have e1 : ∀ m a : Int, setO [m] (0 : Int) a = some [a] := fun m a => rfl
      rw [e0]
      refine ok_bind (ok_push (by omega) ?_)
      rw [bindS, e1, bindS]
      refine ok_some ⟨⟨m2 + (d2 + d1 + 1), ?_, Ws.snoc hw2 (.two hv hp2 hp1), ?_, ?_, ?_⟩, ?_⟩
      · dsimp only
        congr 1
        omega
      all_goals simp only [List.length_append, List.length_singleton]
      all_goals omega
    · rw [decide_eq_false hlt, if_neg Bool.false_ne_true]
      obtain ⟨m1, d1, st1, x1, rfl, rfl, hw1, hp1⟩ := r1.last (by omega)
      simp only [List.length_append, List.length_singleton] at hlt r3 r4
      have e : st1 = [] := List.length_eq_zero_iff.mp (by omega)
      subst e
      have e0 := hw1.zero rfl
      subst e0
      rw [Nat.zero_add] at r4 ⊢
      exact ⟨_, rfl, hp x1 d1 hp1 (by omega)⟩
theorem cells_ok (s : Scr) (hl : s.l.length ≤ 63) {P : List Int → Prop} (hp : ∀ l : List Int, l.length ≤ 100 → P l) : OK (m_law_cells s) P := by
  have hs : sizeLine = 16777216 := sizeLine_eq
  unfold m_law_cells
  simp only [Option.bind_assoc, bindS, bind_self]
  refine ok_bind (cell_at_ok _ _ (by decide) fun c => ?_)
  refine ok_cond (fun _ => ⟨_, if_pos (by omega), hp _ ?_⟩) fun _ => ok_cond (fun _ => ok_bind (cell_at_ok _ _ (by decide) fun d => stream_ok _ _ (by decide) fun l h => hp l (by omega))) fun _ => ok_bind (cell_at_ok _ _ (by decide) fun d => ok_bind (stream_ok _ _ (by decide) fun l h => ok_map (g := fun n : Int => (16 : Int) * n + n / 7 % 6) (fun _ _ => rfl) (hp _ (by rw [List.length_map]; omega))))
  unfold cutA
  rw [List.length_take, List.length_drop]
  omega
theorem law_true (ns : List Int) (hl : ns.length ≤ 63) : m_law ⟨ns⟩ = some true := by
  have hz : sizeLine = 16777216 := sizeLine_eq
  refine OK.eq ?_
  unfold m_law
  simp only [Option.bind_assoc, bindS, bind_self]
  refine ok_bind (cell_at_ok _ _ (by decide) fun c0 => ?_)
  refine ok_by (P := fun _ => True) (ok_cond (fun _ => ok_some trivial) fun _ => ok_some trivial) fun room _ => ?_
  refine ok_bind (cells_ok _ hl fun cs hcs => ok_bind (built_ok cs _ hcs fun S0 n0 hS0 hn0 => ?_))
  refine ok_by (P := fun s : Nt × Int => ∃ n : Nat, Sx s.1 n ∧ s.2 = (n : Int)) (ok_cond (fun _ => ?_) fun _ => ok_some ⟨n0, hS0, rfl⟩) fun s ⟨n, hS, en⟩ => ?_
  · refine ok_bind (cell_at_ok _ _ (by decide) fun c1 => ?_)
    have k0 := Int.emod_nonneg c1 (b := 7) (by decide)
    have k1 := Int.emod_lt_of_pos c1 (b := 7) (by decide)
    obtain ⟨t, ht⟩ := Int.eq_ofNat_of_zero_le k0
    refine ok_bind (ok_rng (n := t) (by omega) (by omega) (by omega) ?_)
    refine ok_bind (ok_for' (fun _ (s : Nt × Int) => ∃ n : Nat, Sx s.1 n ∧ s.2 = (n : Int)) ⟨n0, hS0, rfl⟩ (fun i a s ha hI => ?_) fun s hI => ok_some hI)
    obtain ⟨n, h1, h2⟩ := hI
    refine ok_cond (fun _ => ok_some ⟨_, rfl, n + n + 1, .two (by simp [W2]) h1 h1, ?_⟩) fun _ => ok_some ⟨_, rfl, n, h1, h2⟩
    dsimp only
    rw [h2]
    omega
  · refine ok_bind (cell_at_ok _ _ (by decide) fun c1 => ok_bind (cell_at_ok _ _ (by decide) fun c3 => ?_))
    have k0 := Int.emod_nonneg c3 (b := 33) (by decide)
    have k1 := Int.emod_lt_of_pos c3 (b := 33) (by decide)
    refine ok_bind (stream_ok _ _ (by omega) fun l hll => ?_)
    refine ok_bind (cell_at_ok _ _ (by decide) fun c4 => ?_)
    have hset : setO l (0 : Int) (c4 % 1000000) = some (l.set 0 (c4 % 1000000)) := by
      unfold setO
      have e : ixN l.length (0 : Int) = some 0 := by
        unfold ixN
        rw [if_pos (by decide), if_pos (by omega)]
        rfl
      rw [e]
      rfl
    rw [hset, bindS]
    refine ok_by (spoiled_ok hS (ns := l.set 0 (c4 % 1000000)) (by rw [List.length_set]; omega) (fun e => by have := congrArg List.length e; rw [List.length_set] at this; simp at this; rw [this] at hll; simp at hll; omega)) fun d ⟨ht, hb⟩ => ?_
    have g1 : m_is_sentence (ToD.to s.1) = some (decide (n ≤ 24)) := sentence_good hS.gd
    have g2 := sentence_bad ht hb
    have e1 : decide (s.2 < (25 : Int)) = decide (n ≤ 24) := decide_eq_decide.mpr (by rw [en]; omega)
    have tr : ∀ b : Bool, m_law_truth b b = some true := fun b => by cases b <;> rfl
    rw [g1, bindS, e1, tr, bindS, g2]
    simp only [bindS, tr]
    exact ⟨_, rfl, rfl⟩
end My
set_option Elab.async false
set_option linter.all false
set_option maxRecDepth 100000
set_option maxHeartbeats 4000000
namespace My
open PySem PySem.Spec PyProof.Rows L2
theorem law_imp {K : PySem.W.Frag} {vs : List V} {H : Hp} {Q : VK} {E : XK} (h : sp_law K vs H Q E) : spM K mm_law vs H Q E := by
  obtain ⟨a, ns, rfl, hS, hl, q⟩ := h
  exact ⟨H, (⟨ns⟩, ()), true, Same.refl H, ⟨.ref a, [], rfl, ⟨a, rfl, hS⟩, rfl⟩, law_true ns hl, fun v G2 H2 x r => by cases r; exact q H2⟩
theorem _root_.L2.Fun.bn1 {K : PySem.W.Frag} {x qual : Str} {st : Stmt} {f : Addr} {fd : FuncData} {p0 : Str} (F : Fun K x qual st f fd) (h : ∀ (kV doc pm : Value) (an : Option Addr) (cdv ct : Value) (a0 : Value), bindArgs (PySem.W.fnOf x qual (defArgs st) (defBody st) (defScope st) .none kV doc pm an cdv ct) ⟨[a0], []⟩ = pure (List.zip [p0] [a0])) : Binds K fd [p0] [] := F.binds fun kV doc pm an cdv ct us hl => match us, hl with | [a0], _ => h kV doc pm an cdv ct a0
theorem _root_.L2.Fun.bn2 {K : PySem.W.Frag} {x qual : Str} {st : Stmt} {f : Addr} {fd : FuncData} {p0 p1 : Str} (F : Fun K x qual st f fd) (h : ∀ (kV doc pm : Value) (an : Option Addr) (cdv ct : Value) (a0 a1 : Value), bindArgs (PySem.W.fnOf x qual (defArgs st) (defBody st) (defScope st) .none kV doc pm an cdv ct) ⟨[a0, a1], []⟩ = pure (List.zip [p0, p1] [a0, a1])) : Binds K fd [p0, p1] [] := F.binds fun kV doc pm an cdv ct us hl => match us, hl with | [a0, a1], _ => h kV doc pm an cdv ct a0 a1
theorem _root_.L2.Fun.bn4 {K : PySem.W.Frag} {x qual : Str} {st : Stmt} {f : Addr} {fd : FuncData} {p0 p1 p2 p3 : Str} (F : Fun K x qual st f fd) (h : ∀ (kV doc pm : Value) (an : Option Addr) (cdv ct : Value) (a0 a1 a2 a3 : Value), bindArgs (PySem.W.fnOf x qual (defArgs st) (defBody st) (defScope st) .none kV doc pm an cdv ct) ⟨[a0, a1, a2, a3], []⟩ = pure (List.zip [p0, p1, p2, p3] [a0, a1, a2, a3])) : Binds K fd [p0, p1, p2, p3] [] := F.binds fun kV doc pm an cdv ct us hl => match us, hl with | [a0, a1, a2, a3], _ => h kV doc pm an cdv ct a0 a1 a2 a3
set_option maxHeartbeats 1000000 in
theorem all_mk {l : PySem.W.OpenLaw} {w : World} {K : PySem.W.Frag} {h : Heap} {mg : Str → Option Value} {fa : Addr} (X : K.In h) (G : h.Ns mainGlobals mg) (hfa : mg "law" = some (.ref fa))
    {f0 f1 f2 f3 f4 f5 f6 f7 f8 f9 f10 f11 f12 f13 f14 : Addr} {od0 an0 od1 an1 od2 an2 od3 an3 od4 an4 od5 an5 od6 an6 od7 an7 od8 an8 od9 an9 od10 an10 od11 an11 od12 an12 od13 an13 od14 an14 : Option Addr} {sl0 sl1 sl2 sl3 sl4 sl5 sl6 sl7 sl8 sl9 sl10 sl11 sl12 sl13 sl14 : Array (Option Value)} {oc0 kV0 dc0 pm0 cd0 ct0 oc1 kV1 dc1 pm1 cd1 ct1 oc2 kV2 dc2 pm2 cd2 ct2 oc3 kV3 dc3 pm3 cd3 ct3 oc4 kV4 dc4 pm4 cd4 ct4 oc5 kV5 dc5 pm5 cd5 ct5 oc6 kV6 dc6 pm6 cd6 ct6 oc7 kV7 dc7 pm7 cd7 ct7 oc8 kV8 dc8 pm8 cd8 ct8 oc9 kV9 dc9 pm9 cd9 ct9 oc10 kV10 dc10 pm10 cd10 ct10 oc11 kV11 dc11 pm11 cd11 ct11 oc12 kV12 dc12 pm12 cd12 ct12 oc13 kV13 dc13 pm13 cd13 ct13 oc14 kV14 dc14 pm14 cd14 ct14 : Value}
    {tk0 : Tok}
    {ga1 : Addr} {ges1 : Array DictEntry} {gn1 : Nat}
    (a0 : PySem.W.nsIn K mainGlobals "is_moment" = some (some (.ref f0))) (l0 : K.lookup f0 = some ⟨oc0, od0, .func (PySem.W.fnOf "is_moment" "is_moment" (defArgs s_is_moment) (defBody s_is_moment) (defScope s_is_moment) .none kV0 dc0 pm0 an0 cd0 ct0), sl0⟩) (c0 : PySem.W.codeIn K cd0 "is_moment" = true) (k0 : PySem.W.keepIn K (.ref f0) = true)
    (a1 : PySem.W.nsIn K mainGlobals "parts_of" = some (some (.ref f1))) (l1 : K.lookup f1 = some ⟨oc1, od1, .func (PySem.W.fnOf "parts_of" "parts_of" (defArgs s_parts_of) (defBody s_parts_of) (defScope s_parts_of) .none kV1 dc1 pm1 an1 cd1 ct1), sl1⟩) (c1 : PySem.W.codeIn K cd1 "parts_of" = true) (k1 : PySem.W.keepIn K (.ref f1) = true)
    (a2 : PySem.W.nsIn K mainGlobals "is_lamp" = some (some (.ref f2))) (l2 : K.lookup f2 = some ⟨oc2, od2, .func (PySem.W.fnOf "is_lamp" "is_lamp" (defArgs s_is_lamp) (defBody s_is_lamp) (defScope s_is_lamp) .none kV2 dc2 pm2 an2 cd2 ct2), sl2⟩) (c2 : PySem.W.codeIn K cd2 "is_lamp" = true) (k2 : PySem.W.keepIn K (.ref f2) = true)
    (a3 : PySem.W.nsIn K mainGlobals "has_form" = some (some (.ref f3))) (l3 : K.lookup f3 = some ⟨oc3, od3, .func (PySem.W.fnOf "has_form" "has_form" (defArgs s_has_form) (defBody s_has_form) (defScope s_has_form) .none kV3 dc3 pm3 an3 cd3 ct3), sl3⟩) (c3 : PySem.W.codeIn K cd3 "has_form" = true) (k3 : PySem.W.keepIn K (.ref f3) = true)
    (a4 : PySem.W.nsIn K mainGlobals "is_sentence" = some (some (.ref f4))) (l4 : K.lookup f4 = some ⟨oc4, od4, .func (PySem.W.fnOf "is_sentence" "is_sentence" (defArgs s_is_sentence) (defBody s_is_sentence) (defScope s_is_sentence) .none kV4 dc4 pm4 an4 cd4 ct4), sl4⟩) (c4 : PySem.W.codeIn K cd4 "is_sentence" = true) (k4 : PySem.W.keepIn K (.ref f4) = true)
    (a5 : PySem.W.nsIn K mainGlobals "_law_cell_at" = some (some (.ref f5))) (l5 : K.lookup f5 = some ⟨oc5, od5, .func (PySem.W.fnOf "_law_cell_at" "_law_cell_at" (defArgs s_law_cell_at) (defBody s_law_cell_at) (defScope s_law_cell_at) .none kV5 dc5 pm5 an5 cd5 ct5), sl5⟩) (c5 : PySem.W.codeIn K cd5 "_law_cell_at" = true) (k5 : PySem.W.keepIn K (.ref f5) = true)
    (a6 : PySem.W.nsIn K mainGlobals "_law_stream" = some (some (.ref f6))) (l6 : K.lookup f6 = some ⟨oc6, od6, .func (PySem.W.fnOf "_law_stream" "_law_stream" (defArgs s_law_stream) (defBody s_law_stream) (defScope s_law_stream) .none kV6 dc6 pm6 an6 cd6 ct6), sl6⟩) (c6 : PySem.W.codeIn K cd6 "_law_stream" = true) (k6 : PySem.W.keepIn K (.ref f6) = true)
    (a7 : PySem.W.nsIn K mainGlobals "_law_leaf" = some (some (.ref f7))) (l7 : K.lookup f7 = some ⟨oc7, od7, .func (PySem.W.fnOf "_law_leaf" "_law_leaf" (defArgs s_law_leaf) (defBody s_law_leaf) (defScope s_law_leaf) .none kV7 dc7 pm7 an7 cd7 ct7), sl7⟩) (c7 : PySem.W.codeIn K cd7 "_law_leaf" = true) (k7 : PySem.W.keepIn K (.ref f7) = true)
    (a8 : PySem.W.nsIn K mainGlobals "_law_put" = some (some (.ref f8))) (l8 : K.lookup f8 = some ⟨oc8, od8, .func (PySem.W.fnOf "_law_put" "_law_put" (defArgs s_law_put) (defBody s_law_put) (defScope s_law_put) .none kV8 dc8 pm8 an8 cd8 ct8), sl8⟩) (c8 : PySem.W.codeIn K cd8 "_law_put" = true) (k8 : PySem.W.keepIn K (.ref f8) = true)
    (a9 : PySem.W.nsIn K mainGlobals "_law_built" = some (some (.ref f9))) (l9 : K.lookup f9 = some ⟨oc9, od9, .func (PySem.W.fnOf "_law_built" "_law_built" (defArgs s_law_built) (defBody s_law_built) (defScope s_law_built) .none kV9 dc9 pm9 an9 cd9 ct9), sl9⟩) (c9 : PySem.W.codeIn K cd9 "_law_built" = true) (k9 : PySem.W.keepIn K (.ref f9) = true)
    (a10 : PySem.W.nsIn K mainGlobals "_law_cells" = some (some (.ref f10))) (l10 : K.lookup f10 = some ⟨oc10, od10, .func (PySem.W.fnOf "_law_cells" "_law_cells" (defArgs s_law_cells) (defBody s_law_cells) (defScope s_law_cells) .none kV10 dc10 pm10 an10 cd10 ct10), sl10⟩) (c10 : PySem.W.codeIn K cd10 "_law_cells" = true) (k10 : PySem.W.keepIn K (.ref f10) = true)
    (a11 : PySem.W.nsIn K mainGlobals "_law_none_at_all" = some (some (.ref f11))) (l11 : K.lookup f11 = some ⟨oc11, od11, .func (PySem.W.fnOf "_law_none_at_all" "_law_none_at_all" (defArgs s_law_none_at_all) (defBody s_law_none_at_all) (defScope s_law_none_at_all) .none kV11 dc11 pm11 an11 cd11 ct11), sl11⟩) (c11 : PySem.W.codeIn K cd11 "_law_none_at_all" = true) (k11 : PySem.W.keepIn K (.ref f11) = true)
    (a12 : PySem.W.nsIn K mainGlobals "_law_spoiled" = some (some (.ref f12))) (l12 : K.lookup f12 = some ⟨oc12, od12, .func (PySem.W.fnOf "_law_spoiled" "_law_spoiled" (defArgs s_law_spoiled) (defBody s_law_spoiled) (defScope s_law_spoiled) .none kV12 dc12 pm12 an12 cd12 ct12), sl12⟩) (c12 : PySem.W.codeIn K cd12 "_law_spoiled" = true) (k12 : PySem.W.keepIn K (.ref f12) = true)
    (a13 : PySem.W.nsIn K mainGlobals "_law_truth" = some (some (.ref f13))) (l13 : K.lookup f13 = some ⟨oc13, od13, .func (PySem.W.fnOf "_law_truth" "_law_truth" (defArgs s_law_truth) (defBody s_law_truth) (defScope s_law_truth) .none kV13 dc13 pm13 an13 cd13 ct13), sl13⟩) (c13 : PySem.W.codeIn K cd13 "_law_truth" = true) (k13 : PySem.W.keepIn K (.ref f13) = true)
    (a14 : PySem.W.nsIn K mainGlobals "law" = some (some (.ref f14))) (l14 : K.lookup f14 = some ⟨oc14, od14, .func (PySem.W.fnOf "law" "law" (defArgs s_law) (defBody s_law) (defScope s_law) .none kV14 dc14 pm14 an14 cd14 ct14), sl14⟩) (c14 : PySem.W.codeIn K cd14 "law" = true) (k14 : PySem.W.keepIn K (.ref f14) = true)
    (gv0 : PySem.W.nsIn K mainGlobals "MOST_WORDS" = some (some (.int 24 tk0)))
    (gv1 : PySem.W.nsIn K mainGlobals "PARTS" = some (some (.ref ga1))) (gl1 : K.lookup ga1 = some ⟨.type "dict", none, .dict ges1 gn1, #[]⟩) (gk1 : PySem.W.KeysLit w.params ges1.toList) (ge1 : EntC ges1.toList c_PARTS) (go1 : (ga1 == sysModules) = false)
    (z0 : PySem.W.nsIn K mainGlobals "bool" = some none)
    (z1 : PySem.W.nsIn K mainGlobals "isinstance" = some none)
    (z2 : PySem.W.nsIn K mainGlobals "len" = some none)
    (z3 : PySem.W.nsIn K mainGlobals "list" = some none)
    (z4 : PySem.W.nsIn K mainGlobals "range" = some none)
    (z5 : PySem.W.nsIn K mainGlobals "reversed" = some none)
    (z6 : PySem.W.nsIn K mainGlobals "str" = some none)
    (z7 : PySem.W.nsIn K mainGlobals "sum" = some none)
    (z8 : PySem.W.nsIn K mainGlobals "tuple" = some none) :
    ∃ fd : FuncData, (∀ (s : Shared) (v : Value), BindsTo s fd ⟨[v], []⟩ [("_law_script", v)]) ∧ ∀ base : Heap, K.In base → base.Ns mainGlobals mg → FnOk l.prog w K mg base CX0 5 fa fd ["_law_script"] (sp_law K) := by
  have e := hfa.symm.trans (PySem.W.mg_of X G a14)
  cases e
  have T : Txt w K mg := ⟨PySem.W.mg_none_of X G z0, PySem.W.mg_none_of X G z1, PySem.W.mg_none_of X G z2, PySem.W.mg_none_of X G z3, PySem.W.mg_none_of X G z4, PySem.W.mg_none_of X G z5, PySem.W.mg_none_of X G z6, PySem.W.mg_none_of X G z7, PySem.W.mg_none_of X G z8, ⟨_, PySem.W.mg_of X G gv0⟩, ⟨_, PySem.W.mg_of X G gv1, go1, _, _, gl1, gk1, ge1⟩⟩
  have F0 := fun_mk (st := s_is_moment) l0 c0 k0
  have b0 := F0.bn1 (p0 := "thing") fun _ _ _ _ _ _ _ => rfl
  have F1 := fun_mk (st := s_parts_of) l1 c1 k1
  have b1 := F1.bn1 (p0 := "sentence") fun _ _ _ _ _ _ _ => rfl
  have F2 := fun_mk (st := s_is_lamp) l2 c2 k2
  have b2 := F2.bn1 (p0 := "thing") fun _ _ _ _ _ _ _ => rfl
  have F3 := fun_mk (st := s_has_form) l3 c3 k3
  have b3 := F3.bn1 (p0 := "thing") fun _ _ _ _ _ _ _ => rfl
  have F4 := fun_mk (st := s_is_sentence) l4 c4 k4
  have b4 := F4.bn1 (p0 := "thing") fun _ _ _ _ _ _ _ => rfl
  have F5 := fun_mk (st := s_law_cell_at) l5 c5 k5
  have b5 := F5.bn2 (p0 := "_law_script") (p1 := "_law_k") fun _ _ _ _ _ _ _ _ => rfl
  have F6 := fun_mk (st := s_law_stream) l6 c6 k6
  have b6 := F6.bn2 (p0 := "_law_cell") (p1 := "_law_many") fun _ _ _ _ _ _ _ _ => rfl
  have F7 := fun_mk (st := s_law_leaf) l7 c7 k7
  have b7 := F7.bn1 (p0 := "_law_number") fun _ _ _ _ _ _ _ => rfl
  have F8 := fun_mk (st := s_law_put) l8 c8 k8
  have b8 := F8.bn4 (p0 := "_law_stack") (p1 := "_law_spent") (p2 := "_law_cell") (p3 := "_law_room") fun _ _ _ _ _ _ _ _ _ _ => rfl
  have F9 := fun_mk (st := s_law_built) l9 c9 k9
  have b9 := F9.bn2 (p0 := "_law_cells_here") (p1 := "_law_room") fun _ _ _ _ _ _ _ _ => rfl
  have F10 := fun_mk (st := s_law_cells) l10 c10 k10
  have b10 := F10.bn1 (p0 := "_law_script") fun _ _ _ _ _ _ _ => rfl
  have F11 := fun_mk (st := s_law_none_at_all) l11 c11 k11
  have b11 := F11.bn2 (p0 := "_law_number") (p1 := "_law_told") fun _ _ _ _ _ _ _ _ => rfl
  have F12 := fun_mk (st := s_law_spoiled) l12 c12 k12
  have b12 := F12.bn2 (p0 := "_law_told") (p1 := "_law_numbers") fun _ _ _ _ _ _ _ _ => rfl
  have F13 := fun_mk (st := s_law_truth) l13 c13 k13
  have b13 := F13.bn2 (p0 := "_law_thing") (p1 := "_law_due") fun _ _ _ _ _ _ _ _ => rfl
  have F14 := fun_mk (st := s_law) l14 c14 k14
  refine ⟨PySem.W.fnOf "law" "law" (defArgs s_law) (defBody s_law) (defScope s_law) .none kV14 dc14 pm14 an14 cd14 ct14, fun s v => .of_eq rfl, fun base _ _ => ?_⟩
  have D_law_cell_at : DefOk l.prog w K mg base "_law_cell_at" 1 ["_law_script", "_law_k"] (spM K mm_law_cell_at) := def_of F5 (PySem.W.mg_of X G a5) b5 (ok_law_cell_at F5 T)
  have D_law_leaf : DefOk l.prog w K mg base "_law_leaf" 1 ["_law_number"] (spM K mm_law_leaf) := def_of F7 (PySem.W.mg_of X G a7) b7 (ok_law_leaf F7 T)
  have D_law_put : DefOk l.prog w K mg base "_law_put" 2 ["_law_stack", "_law_spent", "_law_cell", "_law_room"] (spW2 K mm_law_put) := def_of F8 (PySem.W.mg_of X G a8) b8 (ok_law_put F8 T D_law_leaf)
  have D_law_built : DefOk l.prog w K mg base "_law_built" 3 ["_law_cells_here", "_law_room"] (spM K mm_law_built) := def_of F9 (PySem.W.mg_of X G a9) b9 (ok_law_built F9 T D_law_leaf D_law_put)
  have D_law_stream : DefOk l.prog w K mg base "_law_stream" 1 ["_law_cell", "_law_many"] (spL K mm_law_stream) := def_of F6 (PySem.W.mg_of X G a6) b6 (ok_law_stream F6 T)
  have D_law_none_at_all : DefOk l.prog w K mg base "_law_none_at_all" 1 ["_law_number", "_law_told"] (spM K mm_law_none_at_all) := def_of F11 (PySem.W.mg_of X G a11) b11 (ok_law_none_at_all F11 T)
  have D_law_spoiled : DefOk l.prog w K mg base "_law_spoiled" 2 ["_law_told", "_law_numbers"] (spM K mm_law_spoiled) := def_of F12 (PySem.W.mg_of X G a12) b12 (ok_law_spoiled F12 T D_law_none_at_all)
  have D_law_cells : DefOk l.prog w K mg base "_law_cells" 2 ["_law_script"] (spM K mm_law_cells) := def_of F10 (PySem.W.mg_of X G a10) b10 (ok_law_cells F10 T D_law_cell_at D_law_stream)
  have D_law_truth : DefOk l.prog w K mg base "_law_truth" 1 ["_law_thing", "_law_due"] (spM K mm_law_truth) := def_of F13 (PySem.W.mg_of X G a13) b13 (ok_law_truth F13 T)
  have D_parts_of : DefOk l.prog w K mg base "parts_of" 1 ["sentence"] (spM K mm_parts_of) := def_of F1 (PySem.W.mg_of X G a1) b1 (ok_parts_of F1 T)
  have D_is_moment : DefOk l.prog w K mg base "is_moment" 1 ["thing"] (spM K mm_is_moment) := def_of F0 (PySem.W.mg_of X G a0) b0 (ok_is_moment F0 T)
  have D_is_lamp : DefOk l.prog w K mg base "is_lamp" 2 ["thing"] (spM K mm_is_lamp) := def_of F2 (PySem.W.mg_of X G a2) b2 (ok_is_lamp F2 T D_is_moment)
  have D_has_form : DefOk l.prog w K mg base "has_form" 3 ["thing"] (spM K mm_has_form) := def_of F3 (PySem.W.mg_of X G a3) b3 (ok_has_form F3 T D_is_lamp)
  have D_is_sentence : DefOk l.prog w K mg base "is_sentence" 4 ["thing"] (spM K mm_is_sentence) := def_of F4 (PySem.W.mg_of X G a4) b4 (ok_is_sentence F4 T D_parts_of D_has_form)
  exact (ok_law F14 T D_law_cell_at D_law_built D_law_stream D_law_spoiled D_law_cells D_law_truth D_is_sentence).imp fun _ _ _ _ h => law_imp h
theorem walk {l : PySem.W.OpenLaw} {q : Program} {loose : List Str} {XP : (Str → Option Value) → Heap → Prop} {YP : World → Heap → Prop} {d : DefRec} {K : Params → PySem.W.Frag} (hn : l.most = some 63) (hdf : d.params.defaults = [])
    (hY : ∀ (w : World) (h : Heap), YP w h → (K w.params).In h)
    (F : ∀ (w : World) (mg : Str → Option Value) (fa : Addr) (h : Heap), (K w.params).In h → h.Ns mainGlobals mg → mg d.name = some (.ref fa) →
      ∃ fd : FuncData, (∀ (s : Shared) (u : Value), BindsTo s fd ⟨[u], []⟩ [("_law_script", u)]) ∧ ∀ base : Heap, (K w.params).In base → base.Ns mainGlobals mg → FnOk l.prog w (K w.params) mg base CX0 5 fa fd ["_law_script"] (sp_law (K w.params))) :
    PySem.W.WalkO q loose XP YP l.row.toRowW d [] (fun f vs => PySem.call f vs) :=
  L2.walk_of (n := 63) (k := 5) (x := "_law_script") (CX := fun _ => CX0) (sp := fun w => sp_law (K w.params)) hn (by decide) hdf ⟨rfl, by decide, by decide⟩ hY F (fun _ _ a ns hl _ hS => ⟨a, ns, rfl, hS, hl, fun _ => rfl⟩) fun _ _ _ _ _ z => z
end My
open PySem PySem.W PyProof.Rows
theorem PySem.W.Fast.te6423499165497851553 : True := trivial
set_option maxRecDepth 100000 in
set_option maxHeartbeats 0 in
theorem PySem.Challenge.cw_lassoscribe_k11_is_sentence_holds : PySem.Challenge.rw_lassoscribe_k11_is_sentence.Holds := by
  w_on; o_law; k_head; (case hw => w_witness2)
  k_fill
  refine My.walk (l := PySem.Challenge.rw_lassoscribe_k11_is_sentence) rfl rfl (fun w h Y => PySem.W.kIn_of Y) ?F
  case F =>
    intro w mg fa h KX G hmg
    refine' My.all_mk KX G hmg ?a0 ?l0 ?c0 ?k0 ?a1 ?l1 ?c1 ?k1 ?a2 ?l2 ?c2 ?k2 ?a3 ?l3 ?c3 ?k3 ?a4 ?l4 ?c4 ?k4 ?a5 ?l5 ?c5 ?k5 ?a6 ?l6 ?c6 ?k6 ?a7 ?l7 ?c7 ?k7 ?a8 ?l8 ?c8 ?k8 ?a9 ?l9 ?c9 ?k9 ?a10 ?l10 ?c10 ?k10 ?a11 ?l11 ?c11 ?k11 ?a12 ?l12 ?c12 ?k12 ?a13 ?l13 ?c13 ?k13 ?a14 ?l14 ?c14 ?k14 ?gv0 ?gv1 ?gl1 ?gk1 ?ge1 ?go1 ?z0 ?z1 ?z2 ?z3 ?z4 ?z5 ?z6 ?z7 ?z8
    (case a0 => k_is)
    (case l0 => k_is)
    (case c0 => k_is)
    (case k0 => k_is)
    (case a1 => k_is)
    (case l1 => k_is)
    (case c1 => k_is)
    (case k1 => k_is)
    (case a2 => k_is)
    (case l2 => k_is)
    (case c2 => k_is)
    (case k2 => k_is)
    (case a3 => k_is)
    (case l3 => k_is)
    (case c3 => k_is)
    (case k3 => k_is)
    (case a4 => k_is)
    (case l4 => k_is)
    (case c4 => k_is)
    (case k4 => k_is)
    (case a5 => k_is)
    (case l5 => k_is)
    (case c5 => k_is)
    (case k5 => k_is)
    (case a6 => k_is)
    (case l6 => k_is)
    (case c6 => k_is)
    (case k6 => k_is)
    (case a7 => k_is)
    (case l7 => k_is)
    (case c7 => k_is)
    (case k7 => k_is)
    (case a8 => k_is)
    (case l8 => k_is)
    (case c8 => k_is)
    (case k8 => k_is)
    (case a9 => k_is)
    (case l9 => k_is)
    (case c9 => k_is)
    (case k9 => k_is)
    (case a10 => k_is)
    (case l10 => k_is)
    (case c10 => k_is)
    (case k10 => k_is)
    (case a11 => k_is)
    (case l11 => k_is)
    (case c11 => k_is)
    (case k11 => k_is)
    (case a12 => k_is)
    (case l12 => k_is)
    (case c12 => k_is)
    (case k12 => k_is)
    (case a13 => k_is)
    (case l13 => k_is)
    (case c13 => k_is)
    (case k13 => k_is)
    (case a14 => k_is)
    (case l14 => k_is)
    (case c14 => k_is)
    (case k14 => k_is)
    (case gv0 => k_is)
    (case gv1 => k_is)
    (case gl1 => k_is)
    (case gk1 => k_keys)
    (case ge1 => (repeat (first | exact True.intro | refine And.intro ⟨_, _, rfl, rfl⟩ ?_)))
    (case go1 => decide)
    (case z0 => k_is)
    (case z1 => k_is)
    (case z2 => k_is)
    (case z3 => k_is)
    (case z4 => k_is)
    (case z5 => k_is)
    (case z6 => k_is)
    (case z7 => k_is)
    (case z8 => k_is)
