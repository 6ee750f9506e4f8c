import PyProof.Rows.All
import Wide.All
import OpenK.AllK
import Wide.FinOn
import Lean
import PyProof.EqAt
import PyProof.EqKinds
import PyProof.TupleCall
import PyProof.NeKinds
import PyProof.EnumFor
import PyProof.EnumMake
import PyProof.Rows.EnumRows
import PyProof.Rows.Range3
import PyProof.NoPylong
import PyProof.ListRange
import PyProof.TupleOfSeq
import PyProof.TupleOfStr
import PyProof.Draws
import PyProof.ZipIter
import PyProof.Rows.ZipGen
import PyProof.Rows.SortStr
import PyProof.Rows.TupAdd
import PyProof.SetRoads
import PyProof.Rows.SetFrom
import PyProof.StrWalks
import PyProof.CollectWalk
import KE.KDictList
import PyProof.Tail
import PyProof.TupleIter
import PyProof.AttrMiss
import KE.KDictOf
import OpenK.KTop
import PyProof.Rows.SortRev
import PyProof.Rows.CallKwBuiltin
import PyProof.Rows.CallKw2
import KE.KRevIter
import PyProof.SumWalkG
import PySem.Challenge.RW_lassoscribe_k03_all_moments
theorem bE {α β : Type} {o : Option α} {f : α → Option β} {b : β} {C : Prop} (h : o.bind f = some b) (k : ∀ a, o = some a → f a = some b → C) : C := by
  obtain ⟨a, h1, h2⟩ := Option.bind_eq_some_iff.mp h
  exact k a h1 h2
set_option Elab.async false
set_option linter.all false
set_option maxRecDepth 100000
namespace L2
open PySem PySem.Spec PyProof.Rows
noncomputable abbrev Key := Sum Int Str
noncomputable def keyIs : Key → Value → Bool
  | .inl k, v => Value.isInt k v
  | .inr x, v => Value.isStrOf x v
noncomputable def keyH (w : World) : Key → Int
  | .inl k => hashInt k
  | .inr x => hashStr w x
theorem keyIs_shape : ∀ {k : Key} {v : Value}, keyIs k v = true → (∃ i t, k = Sum.inl i ∧ v = Value.int i t) ∨ (∃ x t, k = Sum.inr x ∧ v = Value.str x t)
  | .inl i, v, h => by
    obtain ⟨t, e⟩ := Value.isInt_shape (k := i) (v := v) h
    exact .inl ⟨i, t, rfl, e⟩
  | .inr x, v, h => by
    obtain ⟨t, e⟩ := Value.isStrOf_shape (x := x) (v := v) h
    exact .inr ⟨x, t, rfl, e⟩
theorem key_ll (a b : Int) : decide ((Sum.inl a : Key) = Sum.inl b) = (a == b) := by
  by_cases e : a = b
  · subst e; simp
  · have h : ¬ (Sum.inl a : Key) = Sum.inl b := fun q => e (Sum.inl.inj q)
    rw [decide_eq_false h]
    exact (beq_eq_false_iff_ne.mpr e).symm
theorem key_rr (a b : Str) : decide ((Sum.inr a : Key) = Sum.inr b) = decide (a = b) := by
  by_cases e : a = b
  · subst e; simp
  · have h : ¬ (Sum.inr a : Key) = Sum.inr b := fun q => e (Sum.inr.inj q)
    rw [decide_eq_false h, decide_eq_false e]
theorem key_lr (a : Int) (b : Str) : decide ((Sum.inl a : Key) = Sum.inr b) = false := decide_eq_false (fun q => nomatch q)
theorem key_rl (a : Str) (b : Int) : decide ((Sum.inr a : Key) = Sum.inl b) = false := decide_eq_false (fun q => nomatch q)
noncomputable def mixKind (prog : Program) (w : World) : PySem.KeyKind prog w Key where
  is := keyIs
  hash := keyH w
  inj := fun v a b ha hb => by
    rcases keyIs_shape ha with ⟨i, t, rfl, rfl⟩ | ⟨x, t, rfl, rfl⟩
    · rcases keyIs_shape hb with ⟨j, u, rfl, e⟩ | ⟨y, u, rfl, e⟩
      · injection e with e1 _; rw [e1]
      · exact nomatch e
    · rcases keyIs_shape hb with ⟨j, u, rfl, e⟩ | ⟨y, u, rfl, e⟩
      · exact nomatch e
      · injection e with e1 _; rw [e1]
  byValue := fun k v h => by
    rcases keyIs_shape h with ⟨i, t, rfl, rfl⟩ | ⟨x, t, rfl, rfl⟩ <;> rfl
  pyHash := fun hv h => by
    rcases keyIs_shape hv with ⟨i, t, rfl, rfl⟩ | ⟨x, t, rfl, rfl⟩
    · exact wpAny_pyHash_int h
    · exact wpAny_pyHash_str h
  eqBool := fun hu hv h => by
    rcases keyIs_shape hu with ⟨i, t, rfl, rfl⟩ | ⟨x, t, rfl, rfl⟩
    · rcases keyIs_shape hv with ⟨j, u, rfl, rfl⟩ | ⟨y, u, rfl, rfl⟩
      · rw [key_ll] at h; exact wpAny_eqBool_int h
      · rw [key_lr] at h; exact SeqAt.EqAt.int_str i t y u _ _ _ _ h
    · rcases keyIs_shape hv with ⟨j, u, rfl, rfl⟩ | ⟨y, u, rfl, rfl⟩
      · rw [key_rl] at h; exact SeqAt.EqAt.str_int x t j u _ _ _ _ h
      · rw [key_rr] at h; exact wpAny_eqBool_str h
  «strs» := fun k x t v h => by
    rcases keyIs_shape h with ⟨i, u, rfl, e⟩ | ⟨y, u, rfl, e⟩
    · exact nomatch e
    · injection e with e1 _
      subst e1
      cases v <;> rfl
end L2
namespace L2
open PySem PySem.Spec PyProof.Rows
inductive V where
  | non | bl (b : Bool) | int (i : Int) | str (x : Str) | byt (b : Array UInt8) | flt (b : UInt64) | ref (a : Addr) | ty (n : String)
  deriving DecidableEq
noncomputable def RelV : V → Value → Prop
  | .non, u => u = Value.none
  | .bl b, u => u = Value.bool b
  | .int i, u => ∃ t, u = Value.int i t
  | .str x, u => ∃ t, u = Value.str x t
  | .byt b, u => ∃ t, u = Value.bytes b t
  | .flt b, u => ∃ t, u = Value.float b t
  | .ref a, u => u = Value.ref a
  | .ty n, u => u = Value.type n
noncomputable abbrev Vals : List V → List Value → Prop := Paired RelV
theorem Vals.length {xs : List V} {us : List Value} (r : Vals xs us) : xs.length = us.length := Paired.length r
theorem Vals.get : ∀ {xs : List V} {us : List Value} {i : Nat} {x : V}, Vals xs us → xs[i]? = some x → ∃ u, us[i]? = some u ∧ RelV x u
  | _, _, _, _, .nil, e => by simp at e
  | _, _, 0, _, .cons r _, e => by simp at e; subst e; exact ⟨_, rfl, r⟩
  | _, _, i + 1, x, .cons _ t, e => by
    obtain ⟨u, h1, h2⟩ := Vals.get (i := i) (x := x) t (by simpa using e)
    exact ⟨u, by simpa using h1, h2⟩
theorem Vals.set {x : V} {u : Value} (r : RelV x u) : ∀ {xs : List V} {us : List Value} (i : Nat), Vals xs us → Vals (xs.set i x) (us.set i u)
  | _, _, _, .nil => .nil
  | _, _, 0, .cons _ t => .cons r t
  | _, _, i + 1, .cons q t => .cons q (Vals.set r i t)
theorem Vals.append : ∀ {xs ys : List V} {us ws : List Value}, Vals xs us → Vals ys ws → Vals (xs ++ ys) (us ++ ws)
  | _, _, _, _, .nil, s => s
  | _, _, _, _, .cons r t, s => .cons r (Vals.append t s)
theorem Vals.take : ∀ {xs : List V} {us : List Value} (n : Nat), Vals xs us → Vals (xs.take n) (us.take n)
  | _, _, 0, _ => .nil
  | _, _, _ + 1, .nil => .nil
  | _, _, n + 1, .cons r t => .cons r (Vals.take n t)
theorem Vals.drop : ∀ {xs : List V} {us : List Value} (n : Nat), Vals xs us → Vals (xs.drop n) (us.drop n)
  | _, _, 0, r => r
  | _, _, _ + 1, .nil => .nil
  | _, _, n + 1, .cons _ t => Vals.drop n t
noncomputable def RelO : Option V → Option Value → Prop
  | some v, some u => RelV v u
  | none, none => True
  | _, _ => False
noncomputable def KV {κ : Type} : List (κ × V) → List (κ × Value) → Prop := Paired fun (p : κ × V) (q : κ × Value) => p.1 = q.1 ∧ RelV p.2 q.2
noncomputable def kV : Key → V
  | .inl i => .int i
  | .inr x => .str x
inductive HO where
  | lst (xs : List V)
  | tup (xs : List V)
  | dK (kvs : List (Key × V)) | dT (kvs : List (List Key × V))
  | set (S : Int → Bool) (n : Nat)
  | ins (C dx : Addr) (fs : List (Str × V))
  | own (x : Addr)
  | xd (fs : List (Str × V))
  | met (f x : Addr)
  | rng (lo hi : Int)
  | frz (o : Obj) (u : HO)
  | tbl (ps : Array Value)
  | ext (φ : Heap → Prop)
noncomputable abbrev Hp := Addr → Option HO
noncomputable def upd (H : Hp) (a : Addr) (o : HO) : Hp := fun b => if b = a then some o else H b
theorem upd_same {H : Hp} {a : Addr} {o : HO} : upd H a o a = some o := by unfold upd; rw [if_pos rfl]
theorem upd_ne {H : Hp} {a b : Addr} {o : HO} (h : b ≠ a) : upd H a o b = H b := by unfold upd; rw [if_neg h]
theorem ne_of_none {H : Hp} {a b : Addr} {o : HO} (h : H a = some o) (h' : H b = none) : a ≠ b := by
  intro e; subst e; rw [h] at h'; cases h'
section
variable (P : Program) (w : World)
noncomputable def ObjOk (H : Hp) (h : Heap) (a : Addr) : HO → Prop
  | .lst xs => xs.length ≤ sizeLine ∧ ∃ (its : List Value) (n : Nat), Vals xs its ∧ h.get? a = some { cls := .type "list", data := .seq its.toArray n }
  | .tup xs => xs.length ≤ sizeLine ∧ ∃ its : List Value, Vals xs its ∧ IsTup h a its.toArray
  | .dK kvs => kvs.length ≤ sizeLine ∧ (a == sysModules) = false ∧ ∃ vs, KV kvs vs ∧ h.DictOf (mixKind P w) a vs
  | .dT kvs => kvs.length ≤ sizeLine ∧ (a == sysModules) = false ∧ ∃ xs : List (List Key × Addr × Value),
      Paired (fun (p : List Key × V) (q : List Key × Addr × Value) => p.1 = q.1 ∧ H q.2.1 = some (.tup (p.1.map kV)) ∧ RelV p.2 q.2.2) kvs xs ∧
      ∃ o es ep, h.get? a = some o ∧ o.ExactDict ∧ o.data = .dict es ep ∧ es.toList = xs.map (entryOfKey (tupleKind (mixKind P w))) ∧ (xs.map (·.1)).Nodup
  | .set S n => h.SetOf (intKind P w) a S n
  | .ins C dx fs => H dx = some (.own a) ∧ fs.length ≤ 1000 ∧ dx ≠ a ∧ h.get? a = some (PySem.W.instObj C dx) ∧
      ∃ mA, h.Ns1 dx mA ∧ (∀ f, RelO (fs.lookup f) (mA f)) ∧ PySem.Within mA (fs.map (·.1))
  | .own _ => ∃ o, h.get? a = some o
  | .xd fs => ∃ mA, h.Ns1 a mA ∧ ∀ f, RelO (fs.lookup f) (mA f)
  | .rng lo hi => ∃ t u v, h.get? a = some { cls := .type "range", data := .fields #[.int lo t, .int hi u, .int 1 v] }
  | .frz o u => h.get? a = some o ∧ ObjOk H h a u
  | .tbl ps => h.get? a = some { cls := .none, data := .fields ps }
  | .met f x => h.get? a = some (PySem.W.methodObj (.ref f) (.ref x))
  | .ext φ => φ h ∧ (∃ o, h.get? a = some o) ∧ ∀ h1 h2 : Heap, φ h1 → (∀ o, h1.get? a = some o → h2.get? a = some o) → φ h2
noncomputable def HOk (H : Hp) (h : Heap) : Prop := ∀ a o, H a = some o → ObjOk P w H h a o
end
section
variable {P : Program} {w : World} {H H' : Hp} {h h' : Heap} {a : Addr} {o : HO}
theorem ObjOk.lt (x : ObjOk P w H h a o) : a < h.objs.size := by
  cases o with
  | lst xs => obtain ⟨_, _, _, _, e⟩ := x; exact Heap.lt_size e
  | tup xs => obtain ⟨_, _, _, p⟩ := x; exact p.lt
  | dK kvs => obtain ⟨_, _, _, _, o, _, _, e, _⟩ := x; exact Heap.lt_size e
  | dT kvs => obtain ⟨_, _, _, _, o, _, _, e, _⟩ := x; exact Heap.lt_size e
  | set S n => obtain ⟨o, _, _, _, e, _⟩ := x; exact Heap.lt_size e
  | ins C dx fs => obtain ⟨_, _, _, e, _⟩ := x; exact Heap.lt_size e
  | own y => obtain ⟨_, e⟩ := x; exact Heap.lt_size e
  | xd fs => obtain ⟨_, ⟨_, _, _, e, _⟩, _⟩ := x; exact Heap.lt_size e
  | rng lo hi => obtain ⟨_, _, _, e⟩ := x; exact Heap.lt_size e
  | frz ob u => obtain ⟨e, _⟩ := x; exact Heap.lt_size e
  | tbl ps => exact Heap.lt_size (show h.get? a = some _ from x)
  | met f y => exact Heap.lt_size (show h.get? a = some _ from x)
  | ext φ => obtain ⟨_, ⟨_, e⟩, _⟩ := x; exact Heap.lt_size e
theorem Paired.mapP {α β : Type} {F G : α → β → Prop} : ∀ {l₁ : List α} {l₂ : List β}, Paired F l₁ l₂ → (∀ a b, F a b → G a b) → Paired G l₁ l₂
  | _, _, .nil, _ => .nil
  | _, _, .cons r t, f => .cons (f _ _ r) (Paired.mapP t f)
theorem Paired.imp' {α β : Type} {F G : α → β → Prop} (f : ∀ a b, F a b → G a b) {l₁ : List α} {l₂ : List β} (r : Paired F l₁ l₂) : Paired G l₁ l₂ := Paired.mapP r f
theorem ObjOk.stay (x : ObjOk P w H h a o) (k : ∀ b u, (b = a ∨ H b = some (.own a)) → h.get? b = some u → h'.get? b = some u)
    (ho : ∀ b, H b = some (.own a) → H' b = some (.own a)) (ht : ∀ b xs, H b = some (.tup xs) → H' b = some (.tup xs)) : ObjOk P w H' h' a o := by
  induction o with
  | lst xs => obtain ⟨z, its, n, r, e⟩ := x; exact ⟨z, its, n, r, k _ _ (.inl rfl) e⟩
  | tup xs => obtain ⟨z, its, r, ob, e, c⟩ := x; exact ⟨z, its, r, ob, k _ _ (.inl rfl) e, c⟩
  | dK kvs => obtain ⟨z, y, vs, r, ob, es, ep, e, c⟩ := x; exact ⟨z, y, vs, r, ob, es, ep, k _ _ (.inl rfl) e, c⟩
  | dT kvs =>
    obtain ⟨z, y, xs, r, ob, es, ep, e, c⟩ := x
    exact ⟨z, y, xs, Paired.mapP r fun p q z => ⟨z.1, ht _ _ z.2.1, z.2.2⟩, ob, es, ep, k _ _ (.inl rfl) e, c⟩
  | set S n => obtain ⟨ob, es, ep, t, e, c⟩ := x; exact ⟨ob, es, ep, t, k _ _ (.inl rfl) e, c⟩
  | ins C dx fs =>
    obtain ⟨d, z, ne, e, mA, ⟨od, es, ep, e2, c⟩, r⟩ := x
    exact ⟨ho _ d, z, ne, k _ _ (.inl rfl) e, mA, ⟨od, es, ep, k _ _ (.inr d) e2, c⟩, r⟩
  | own y => obtain ⟨ob, e⟩ := x; exact ⟨ob, k _ _ (.inl rfl) e⟩
  | xd fs => obtain ⟨mA, ⟨od, es, ep, e, c⟩, r⟩ := x; exact ⟨mA, ⟨od, es, ep, k _ _ (.inl rfl) e, c⟩, r⟩
  | rng lo hi => obtain ⟨t, u, v, e⟩ := x; exact ⟨t, u, v, k _ _ (.inl rfl) e⟩
  | frz ob u ih => obtain ⟨e, q⟩ := x; exact ⟨k _ _ (.inl rfl) e, ih q⟩
  | tbl ps =>
    have e : h.get? a = some { cls := .none, data := .fields ps } := x
    show h'.get? a = some { cls := .none, data := .fields ps }
    exact k a _ (.inl rfl) e
  | met f y =>
    have e : h.get? a = some (PySem.W.methodObj (.ref f) (.ref y)) := x
    show h'.get? a = some (PySem.W.methodObj (.ref f) (.ref y))
    exact k a _ (.inl rfl) e
  | ext φ => obtain ⟨p, ⟨o, e⟩, st⟩ := x; exact ⟨st _ _ p fun o q => k _ _ (.inl rfl) q, ⟨o, k _ _ (.inl rfl) e⟩, st⟩
theorem HOk.lt (x : HOk P w H h) (e : H a = some o) : a < h.objs.size := (x a o e).lt
theorem HOk.fresh (x : HOk P w H h) (e : h.objs.size ≤ a) : H a = none := by
  cases q : H a with
  | none => rfl
  | some u => exact absurd (Nat.lt_of_lt_of_le (x.lt q) e) (Nat.lt_irrefl _)
theorem HOk.kept (x : HOk P w H h) (k : ∀ b u, h.get? b = some u → h'.get? b = some u) : HOk P w H h' := fun a o e =>
  (x a o e).stay (fun b u _ q => k b u q) (fun _ q => q) fun _ _ q => q
theorem HOk.laid (x : HOk P w H h) (k : ∀ b u, h.get? b = some u → h'.get? b = some u) (hp : h.objs.size ≤ a) (new : ObjOk P w (upd H a o) h' a o) : HOk P w (upd H a o) h' := fun b u e => by
  have hn := x.fresh hp
  by_cases hb : b = a
  · subst hb; rw [upd_same] at e; cases e; exact new
  · rw [upd_ne hb] at e
    exact (x b u e).stay (fun c v _ q => k c v q) (fun c q => by rw [upd_ne (ne_of_none q hn)]; exact q) fun c xs q => by rw [upd_ne (ne_of_none q hn)]; exact q
end
noncomputable def Rd (H : Hp) (a : Addr) (u : HO) : Prop := H a = some u ∨ ∃ o, H a = some (.frz o u)
theorem Rd.of {H : Hp} {a : Addr} {u : HO} (h : H a = some u) : Rd H a u := .inl h
theorem Rd.ok {P : Program} {w : World} {H : Hp} {h : Heap} {a : Addr} {u : HO} (r : Rd H a u) (x : HOk P w H h) : ObjOk P w H h a u := by
  rcases r with r | ⟨o, r⟩
  · exact x a u r
  · obtain ⟨_, q⟩ := x a _ r
    exact q
noncomputable def Mut : Option HO → Prop
  | some (.lst _) => True
  | some (.dK _) => True
  | some (.dT _) => True
  | some (.set _ _) => True
  | some (.ins _ _ _) => True
  | some (.ext _) => True
  | _ => False
section
variable {P : Program} {w : World} {H : Hp} {h h' : Heap} {x e : Addr} {o' : HO}
theorem HOk.write (ok : HOk P w H h) (mu : Mut (H x)) (he : e = x ∨ H e = some (.own x)) (k : ∀ b u, b ≠ e → h.get? b = some u → h'.get? b = some u) (heo : ∃ u, h'.get? e = some u)
    (new : ObjOk P w (upd H x o') h' x o') : HOk P w (upd H x o') h' := fun b u q => by
  have nown : ∀ c y, H c = some (.own y) → c ≠ x := fun c y r z => by subst z; rw [r] at mu; exact mu
  have ntup : ∀ c xs, H c = some (.tup xs) → c ≠ x := fun c xs r z => by subst z; rw [r] at mu; exact mu
  by_cases hb : b = x
  · subst hb; rw [upd_same] at q; cases q; exact new
  · rw [upd_ne hb] at q
    by_cases hbe : b = e
    · have q' : H b = some (.own x) := by
        rcases he with z | z
        · exact absurd (hbe.trans z) hb
        · rw [hbe]; exact z
      rw [q] at q'; cases q'
      obtain ⟨v, hv⟩ := heo
      exact ⟨v, by rw [hbe]; exact hv⟩
    · refine (ok b u q).stay (fun c v hc r => k c v ?_ r) (fun c r => by rw [upd_ne (nown c b r)]; exact r) fun c xs r => by rw [upd_ne (ntup c xs r)]; exact r
      rcases hc with rfl | hc
      · exact hbe
      · rintro rfl
        rcases he with z | z
        · exact nown c b hc z
        · rw [hc] at z; cases z; exact hb rfl
end
structure Un (fs ex : List Addr) (H H' : Hp) (h h' : Heap) : Prop where
  keep : ∀ b o, h.get? b = some o → H b = none → b ∉ fs → b ∉ ex → h'.get? b = some o
  slot : ∀ b o, h.get? b = some o → H b = none → b ∈ fs → b ∉ ex → ∃ sl, h'.get? b = some { o with slots := sl }
  free : ∀ b o, h.get? b = some o → H b = none → b ∉ ex → H' b = none
  there : ∀ b o, h.get? b = some o → b ∉ ex → ∃ o', h'.get? b = some o'
  tups : ∀ b xs, H b = some (.tup xs) → H' b = some (.tup xs)
  frzs : ∀ b o u, H b = some (.frz o u) → H' b = some (.frz o u)
  tbls : ∀ b ps, H b = some (.tbl ps) → ∃ more, H' b = some (.tbl (ps ++ more))
section
variable {fs fs' ex ex' : List Addr} {H H1 H2 : Hp} {h h1 h2 h' : Heap} {a x e : Addr} {o : HO}
theorem Un.any (u : Un fs ex H H1 h h1) {b : Addr} {ob : Obj} (q : h.get? b = some ob) (n : H b = none) (hx : b ∉ ex) : ∃ sl, h1.get? b = some { ob with slots := sl } := by
  by_cases hb : b ∈ fs
  · exact u.slot b ob q n hb hx
  · exact ⟨ob.slots, u.keep b ob q n hb hx⟩
theorem Un.trans (a : Un fs ex H H1 h h1) (b : Un fs ex H1 H2 h1 h2) : Un fs ex H H2 h h2 where
  keep := fun c ob q n hc hx => b.keep c ob (a.keep c ob q n hc hx) (a.free c ob q n hx) hc hx
  slot := fun c ob q n hc hx => by
    obtain ⟨sl, e1⟩ := a.slot c ob q n hc hx
    obtain ⟨sl', e2⟩ := b.slot c _ e1 (a.free c ob q n hx) hc hx
    exact ⟨sl', e2⟩
  free := fun c ob q n hx => by
    obtain ⟨o', e1⟩ := a.there c ob q hx
    exact b.free c o' e1 (a.free c ob q n hx) hx
  there := fun c ob q hx => by
    obtain ⟨o', e1⟩ := a.there c ob q hx
    exact b.there c o' e1 hx
  tups := fun c xs q => b.tups c xs (a.tups c xs q)
  frzs := fun c ob xs q => b.frzs c ob xs (a.frzs c ob xs q)
  tbls := fun c ps q => by
    obtain ⟨m1, e1⟩ := a.tbls c ps q
    obtain ⟨m2, e2⟩ := b.tbls c _ e1
    exact ⟨m1 ++ m2, by rw [e2, Array.append_assoc]⟩
theorem Un.kept (k : ∀ b u, h.get? b = some u → h'.get? b = some u) : Un fs ex H H h h' :=
  ⟨fun b ob q _ _ _ => k b ob q, fun b ob q _ _ _ => ⟨ob.slots, k b ob q⟩, fun _ _ _ n _ => n, fun b ob q _ => ⟨ob, k b ob q⟩, fun _ _ q => q, fun _ _ _ q => q, fun _ ps q => ⟨#[], by rw [q]; simp⟩⟩
theorem Un.refl : Un fs ex H H h h := Un.kept fun _ _ q => q
theorem Un.laid (k : ∀ b u, h.get? b = some u → h'.get? b = some u) (hp : h.objs.size ≤ a) (hn : H a = none) : Un fs ex H (upd H a o) h h' where
  keep := fun b u q _ _ _ => k b u q
  slot := fun b u q _ _ _ => ⟨u.slots, k b u q⟩
  free := fun b u q n _ => by rw [upd_ne (Nat.ne_of_lt (Nat.lt_of_lt_of_le (Heap.lt_size q) hp))]; exact n
  there := fun b u q _ => ⟨u, k b u q⟩
  tups := fun b xs q => by rw [upd_ne (ne_of_none q hn)]; exact q
  frzs := fun b u xs q => by rw [upd_ne (ne_of_none q hn)]; exact q
  tbls := fun b ps q => ⟨#[], by rw [upd_ne (ne_of_none q hn), q]; simp⟩
theorem Un.write (mu : Mut (H x)) (he : e = x ∨ H e = some (.own x)) (k : ∀ b u, b ≠ e → h.get? b = some u → h'.get? b = some u) (heo : ∃ u, h'.get? e = some u) : Un fs ex H (upd H x o) h h' := by
  have hx : ∀ b, H b = none → b ≠ x := fun b n z => by subst z; rw [n] at mu; exact mu
  have hb : ∀ b, H b = none → b ≠ e := fun b n z => by
    subst z
    rcases he with r | r
    · exact hx b n r
    · rw [n] at r; cases r
  have hm : ∀ b u, H b = some u → ¬ Mut (some u) → b ≠ x := fun b u q nm z => by subst z; rw [q] at mu; exact nm mu
  refine ⟨fun b u q n _ _ => k b u (hb b n) q, fun b u q n _ _ => ⟨u.slots, k b u (hb b n) q⟩, fun b u q n _ => by rw [upd_ne (hx b n)]; exact n, fun b u q _ => ?_,
    fun b xs q => by rw [upd_ne (hm b _ q fun z => z)]; exact q, fun b u xs q => by rw [upd_ne (hm b _ q fun z => z)]; exact q, fun b ps q => ⟨#[], by rw [upd_ne (hm b _ q fun z => z), q]; simp⟩⟩
  by_cases hbe : b = e
  · subst hbe; exact heo
  · exact ⟨u, k b u hbe q⟩
theorem Un.mono (u : Un fs ex H H1 h h1) (hs : ∀ b ∈ fs, b ∈ fs') (hx : ∀ b ∈ ex, b ∈ ex') : Un fs' ex' H H1 h h1 :=
  ⟨fun b ob q n hb he => u.keep b ob q n (fun z => hb (hs b z)) fun z => he (hx b z), fun _ _ q n _ he => u.any q n fun z => he (hx _ z), fun b ob q n he => u.free b ob q n fun z => he (hx b z), fun b ob q he => u.there b ob q fun z => he (hx b z), u.tups, u.frzs, u.tbls⟩
end
noncomputable def trk (h : Heap) (H : Hp) : List Addr := (List.range h.objs.size).filter fun a => (H a).isSome
noncomputable def hidT (h : Heap) (H : Hp) : Heap := PySem.W.hideAll h (trk h H)
theorem hidT_size (h : Heap) (H : Hp) : (hidT h H).objs.size = h.objs.size := PySem.W.hideAll_size _ _
theorem hidT_get {h : Heap} {H : Hp} {b : Addr} {o : Obj} (e : h.get? b = some o) (n : H b = none) : (hidT h H).get? b = some o :=
  PySem.W.hideAll_get _ e fun hm => by
    have q : (H b).isSome = true := (List.mem_filter.mp hm).2
    rw [n] at q; simp at q
theorem of_hidT {h : Heap} {H : Hp} {b : Addr} {o : Obj} (e : (hidT h H).get? b = some o) : h.get? b = some o ∧ H b = none := by
  have e' : h.get? b = some o := PySem.W.of_hideAll (trk h H) e
  refine ⟨e', ?_⟩
  cases q : H b with
  | none => rfl
  | some x =>
    have hm : b ∈ trk h H := List.mem_filter.mpr ⟨List.mem_range.mpr (Heap.lt_size e'), by simp [q]⟩
    have z : (hidT h H).get? b = none := PySem.W.hideAll_none (trk h H) hm
    rw [z] at e; cases e
noncomputable def allNews (g h : Heap) (L : Addr) : List (Addr × Obj) := (List.range h.objs.size).filterMap fun a => if a = L ∨ (g.get? a).isSome = true then none else (h.get? a).map fun o => (a, o)
noncomputable def rest (g h : Heap) (L d : Addr) : List (Addr × Obj) := (allNews g h L).filter fun p => decide (p.1 ≠ d)
end L2
namespace L2
open PySem PySem.Spec PyProof.Rows
structure Mod (K : PySem.W.Frag) (mg : Str → Option Value) (base : Heap) : Prop where
  kin : K.In base
  glob : base.Ns mainGlobals mg
  blt : ∃ mb, base.Ns builtinsNs mb ∧ ∀ x : Str, x ≠ "__name__" → mb x = bootBuiltins x
  nolimit : base.NoLimit
structure Cx where
  prog : Program
  w : World
  K : PySem.W.Frag
  mg : Str → Option Value
  base : Heap
  A : Around
  N : List Str
  s₀ : Shared
  H₀ : Hp
  env : Env
  outer : List Env
  stack : List Env
  ex : List Addr
  fn : Str → Bool
  calm : Bool
  pn : List (Addr × Obj)
  xe : Value → Shared → Prop
noncomputable def frs (l : List Env) : List Addr := l.filterMap (·.frame)
noncomputable abbrev Cx.fs (X : Cx) : List Addr := frs X.outer
noncomputable def Vis (sc : Scope) (x : Str) : Prop := sc.names.lookup x = some .local ∨ sc.names.lookup x = some .cell ∨ sc.names.lookup x = some .free
noncomputable def Loc (sc : Scope) (x : Str) : Prop := sc.names.lookup x = some .local ∨ sc.names.lookup x = some .cell
noncomputable def Look (env : Env) (h : Heap) (m : Str → Option Value) (x : Str) (u : Value) : Prop :=
  (env.kindOf x = some .local ∧ m x = some u) ∨ ((env.kindOf x = some .cell ∨ env.kindOf x = some .free) ∧ ∃ c, env.cells.lookup x = some c ∧ h.IsCell c (some u))
structure Cx.Ok (X : Cx) : Prop where
  mod : Mod X.K X.mg X.base
  kind : X.env.scope.kind = .function
  glob : X.env.globals = mainGlobals
  blt : X.env.builtins = builtinsNs
  above : X.s₀.heap.objs.size ≤ X.env.locals
  inj : ∀ x y c, X.env.cells.lookup x = some c → X.env.cells.lookup y = some c → x = y
  has : ∀ x, (X.env.kindOf x = some .cell ∨ X.env.kindOf x = some .free) → ∃ c, X.env.cells.lookup x = some c
  cab : ∀ x c, X.fn x = true → X.env.cells.lookup x = some c → X.s₀.heap.objs.size ≤ c
  hd : X.calm = true → X.A.handled = none
  frames : X.A.frames = some X.stack
  stk : X.stack = X.outer ∨ (X.stack = X.env :: X.outer ∧ X.env.frame = some X.env.locals)
  exf : ∀ b ∈ X.ex, b ≠ X.env.locals ∧ ∀ x c, X.env.cells.lookup x = some c → c ≠ b
  bs : ∀ b o, X.base.get? b = some o → X.s₀.heap.get? b = some o ∧ X.H₀ b = none
  bsz : X.base.objs.size ≤ X.s₀.heap.objs.size
  noex : ∀ b o, X.base.get? b = some o → b ∉ X.ex
  exfs : ∀ b ∈ X.ex, b ∉ X.fs
  funs : X.s₀.heap.FunFrames X.base X.outer
  frf : ∀ b ∈ X.fs, X.H₀ b = none
structure Inv (X : Cx) (pins : List (Addr × Obj)) (σ : List (Option V)) (H : Hp) (s : Shared) : Prop where
  ok : X.Ok
  os : s.os = X.s₀.os
  bare : AllBare s.gens
  base : Un X.fs X.ex X.H₀ H X.s₀.heap s.heap
  loc : ∃ m, s.heap.Ns X.env.locals m ∧ ∀ (i : Nat) (x : Str) (v : V), X.N[i]? = some x → σ[i]? = some (some v) → Vis X.env.scope x → ∃ u, RelV v u ∧ Look X.env s.heap m x u
  cell : ∀ x c, X.env.cells.lookup x = some c → ∃ v, s.heap.IsCell c v
  free : H X.env.locals = none
  freeC : ∀ x c, X.env.cells.lookup x = some c → H c = none
  pin : ∀ p ∈ X.pn ++ pins, s.heap.get? p.1 = some p.2 ∧ H p.1 = none ∧ p.1 ≠ X.env.locals ∧ p.1 ∉ X.fs ∧ ∀ v, p.2.data ≠ .cell v
  hok : HOk X.prog X.w H s.heap
  len : σ.length = X.N.length
section
variable {X : Cx} {pins : List (Addr × Obj)} {σ : List (Option V)} {H H' : Hp} {s : Shared} {h' : Heap}
theorem Cx.Ok.nofr (ok : X.Ok) {b : Addr} {o : Obj} (e : X.base.get? b = some o) : b ∉ X.fs := fun hb => by
  have := (ok.funs.mem hb).1
  rw [e] at this; cases this
theorem Inv.bs (I : Inv X pins σ H s) : ∀ b o, X.base.get? b = some o → s.heap.get? b = some o ∧ H b = none := fun b o e =>
  ⟨I.base.keep b o (I.ok.bs b o e).1 (I.ok.bs b o e).2 (I.ok.nofr e) (I.ok.noex b o e), I.base.free b o (I.ok.bs b o e).1 (I.ok.bs b o e).2 (I.ok.noex b o e)⟩
theorem Inv.bk (I : Inv X pins σ H s) : ∀ b o, X.base.get? b = some o → s.heap.get? b = some o := fun b o e => (I.bs b o e).1
theorem Inv.mod (I : Inv X pins σ H s) : Mod X.K X.mg X.base := I.ok.mod
theorem Inv.kIn (I : Inv X pins σ H s) : X.K.In s.heap := I.ok.mod.kin.keeps I.bk
theorem Inv.nolimit (I : Inv X pins σ H s) : s.heap.NoLimit := I.ok.mod.nolimit.keeps I.bk
theorem Inv.lt (I : Inv X pins σ H s) : X.env.locals < s.heap.objs.size := let ⟨_, hn, _⟩ := I.loc; hn.lt
theorem Inv.sz (I : Inv X pins σ H s) : X.s₀.heap.objs.size ≤ s.heap.objs.size := Nat.le_trans I.ok.above (Nat.le_of_lt I.lt)
theorem Inv.nofs (I : Inv X pins σ H s) {a : Addr} (h : s.heap.objs.size ≤ a) : a ∉ X.fs := fun hb => by
  obtain ⟨_, o, ho, _⟩ := I.ok.funs.mem hb
  exact absurd (Nat.lt_of_lt_of_le (Heap.lt_size ho) (Nat.le_trans I.sz h)) (Nat.lt_irrefl _)
theorem Inv.cne (I : Inv X pins σ H s) : ∀ x c, X.env.cells.lookup x = some c → c ≠ X.env.locals := fun x c e z => by
  obtain ⟨v, o, ho, hd⟩ := I.cell x c e
  obtain ⟨m, ⟨o', es, ep, ho', hd', _⟩, _⟩ := I.loc
  rw [z, ho'] at ho; cases ho; rw [hd'] at hd; cases hd
theorem Inv.funs (I : Inv X pins σ H s) : s.heap.FunFrames X.base X.outer := by
  have all : ∀ (l : List Env), (∀ b ∈ frs l, b ∈ X.fs) → X.s₀.heap.FunFrames X.base l → s.heap.FunFrames X.base l := by
    intro l
    induction l with
    | nil => intro _ _; trivial
    | cons env r ih =>
      intro hs hl
      obtain ⟨hk, ⟨L, o, hf, hn, ho, hd⟩, hr⟩ := hl
      have hL : L ∈ X.fs := hs L (by unfold frs; rw [List.filterMap_cons, hf]; exact List.mem_cons_self)
      obtain ⟨sl, e⟩ := I.base.slot L o ho (I.ok.frf L hL) hL fun z => I.ok.exfs L z hL
      exact ⟨hk, ⟨L, _, hf, hn, e, hd⟩, ih (fun b hb => hs b (by unfold frs; rw [List.filterMap_cons, hf]; exact List.mem_cons_of_mem _ hb)) hr⟩
  exact all X.outer (fun _ hb => hb) I.ok.funs
theorem Inv.stack (I : Inv X pins σ H s) : s.heap.FunFrames X.base X.stack := by
  rcases I.ok.stk with e | ⟨e, hf⟩
  · rw [e]; exact I.funs
  · rw [e]
    obtain ⟨m, hn, _⟩ := I.loc
    refine .cons (by rw [I.ok.kind]; decide) hf hn ?_ I.funs
    exact Heap.get?_none_of_le (Nat.le_trans I.ok.bsz I.ok.above)
theorem Inv.stkSub (I : Inv X pins σ H s) : ∀ b ∈ frs X.stack, b ∈ X.env.locals :: X.fs := fun b hb => by
  rcases I.ok.stk with e | ⟨e, hf⟩
  · rw [e] at hb; exact List.mem_cons_of_mem _ hb
  · rw [e] at hb
    unfold frs at hb
    rw [List.filterMap_cons, hf] at hb
    exact hb
theorem Inv.stkFree (I : Inv X pins σ H s) : ∀ b ∈ frs X.stack, H b = none := fun b hb => by
  rcases List.mem_cons.mp (I.stkSub b hb) with e | hb
  · rw [e]; exact I.free
  · obtain ⟨_, o, ho, _⟩ := I.ok.funs.mem hb
    exact I.base.free b o ho (I.ok.frf b hb) fun z => I.ok.exfs b z hb
theorem Inv.step {g' : Array GenState} {t' : Nat} {d' : Drawn} {ch : List Addr} (I : Inv X pins σ H s)
    (hch : ∀ b ∈ ch, (b ∈ X.ex ∨ X.s₀.heap.objs.size ≤ b) ∧ b ≠ X.env.locals ∧ (∀ x c, X.env.cells.lookup x = some c → c ≠ b) ∧ ∀ p ∈ X.pn ++ pins, p.1 ≠ b)
    (keep : ∀ b o, b ≠ X.env.locals → b ∉ X.fs → b ∉ ch → s.heap.get? b = some o → H b = none → h'.get? b = some o)
    (slot : ∀ b o, b ≠ X.env.locals → b ∈ X.fs → b ∉ ch → s.heap.get? b = some o → H b = none → ∃ sl, h'.get? b = some { o with slots := sl }) (free : ∀ b o, b ∉ ch → s.heap.get? b = some o → H b = none → H' b = none)
    (there : ∀ b o, b ∉ ch → s.heap.get? b = some o → ∃ o', h'.get? b = some o')
    (tups : ∀ b xs, H b = some (.tup xs) → H' b = some (.tup xs)) (frzs : ∀ b o u, H b = some (.frz o u) → H' b = some (.frz o u)) (tbls : ∀ b ps, H b = some (.tbl ps) → ∃ more, H' b = some (.tbl (ps ++ more)))
    (ns : ∀ m, s.heap.Ns X.env.locals m → h'.Ns X.env.locals m) (hok : HOk X.prog X.w H' h') (hg : AllBare g') :
    Inv X pins σ H' { s with heap := h', gens := g', drawn := d', toks := t' } := by
  have neL : ∀ b o, X.s₀.heap.get? b = some o → b ≠ X.env.locals := fun b o e => Nat.ne_of_lt (Nat.lt_of_lt_of_le (Heap.lt_size e) I.ok.above)
  have neC : ∀ b o, X.s₀.heap.get? b = some o → b ∉ X.ex → b ∉ ch := fun b o e hx hb => by
    rcases (hch b hb).1 with z | z
    · exact hx z
    · exact absurd (Nat.lt_of_lt_of_le (Heap.lt_size e) z) (Nat.lt_irrefl _)
  have cellK : ∀ x c, X.env.cells.lookup x = some c → ∀ v, s.heap.IsCell c v → h'.IsCell c v := fun x c e v ⟨o, ho, hd⟩ => by
    have nch : c ∉ ch := fun z => (hch c z).2.2.1 x c e rfl
    by_cases hc : c ∈ X.fs
    · obtain ⟨sl, q⟩ := slot c o (I.cne x c e) hc nch ho (I.freeC x c e)
      exact ⟨_, q, hd⟩
    · exact ⟨o, keep c o (I.cne x c e) hc nch ho (I.freeC x c e), hd⟩
  refine ⟨I.ok, I.os, hg, ⟨fun b o e n hb hx => ?_, fun b o e n hb hx => ?_, fun b o e n hx => ?_, fun b o e hx => ?_, fun b xs e => tups b xs (I.base.tups b xs e), fun b o xs e => frzs b o xs (I.base.frzs b o xs e), fun b ps e => ?_⟩, ?_, fun x c e => ?_, ?_, fun x c e => ?_, fun p hp => ?_, hok, I.len⟩
  · exact keep b o (neL b o e) hb (neC b o e hx) (I.base.keep b o e n hb hx) (I.base.free b o e n hx)
  · obtain ⟨sl, e1⟩ := I.base.slot b o e n hb hx
    obtain ⟨sl', e2⟩ := slot b _ (neL b o e) hb (neC b o e hx) e1 (I.base.free b o e n hx)
    exact ⟨sl', e2⟩
  · obtain ⟨o', e1⟩ := I.base.there b o e hx
    exact free b o' (neC b o e hx) e1 (I.base.free b o e n hx)
  · obtain ⟨o', e1⟩ := I.base.there b o e hx
    exact there b o' (neC b o e hx) e1
  · obtain ⟨m1, e1⟩ := I.base.tbls b ps e
    obtain ⟨m2, e2⟩ := tbls b _ e1
    exact ⟨m1 ++ m2, by rw [e2, Array.append_assoc]⟩
  · obtain ⟨m, hn, hl⟩ := I.loc
    refine ⟨m, ns m hn, fun i x v e1 e2 e3 => ?_⟩
    obtain ⟨u, r, l⟩ := hl i x v e1 e2 e3
    refine ⟨u, r, ?_⟩
    rcases l with l | ⟨k, c, e, z⟩
    · exact .inl l
    · exact .inr ⟨k, c, e, cellK x c e _ z⟩
  · obtain ⟨v, z⟩ := I.cell x c e
    exact ⟨v, cellK x c e v z⟩
  · obtain ⟨m, ⟨o, _, _, ho, _⟩, _⟩ := I.loc
    exact free _ o (fun z => (hch _ z).2.1 rfl) ho I.free
  · obtain ⟨v, o, ho, hd⟩ := I.cell x c e
    exact free c o (fun z => (hch c z).2.2.1 x c e rfl) ho (I.freeC x c e)
  · obtain ⟨e, n, ne, nf, d⟩ := I.pin p hp
    have nch : p.1 ∉ ch := fun z => (hch p.1 z).2.2.2 p hp rfl
    exact ⟨keep p.1 p.2 ne nf nch e n, free p.1 p.2 nch e n, ne, nf, d⟩
theorem Inv.un {t' : Nat} (I : Inv X pins σ H s) (u : Un X.fs [] H H' s.heap h') (hok : HOk X.prog X.w H' h') : Inv X pins σ H' { s with heap := h', toks := t' } := by
  obtain ⟨m, ⟨o, es, ep, ho, r⟩, _⟩ := id I.loc
  obtain ⟨sl, hL⟩ := u.any ho I.free (by simp)
  exact I.step (g' := s.gens) (d' := s.drawn) (ch := []) (fun _ z => nomatch z) (fun b o _ hb _ e n => u.keep b o e n hb (by simp)) (fun b o _ hb _ e n => u.slot b o e n hb (by simp)) (fun b o _ e n => u.free b o e n (by simp)) (fun b o _ e => u.there b o e (by simp)) u.tups u.frzs u.tbls (fun m' hm => by
    obtain ⟨o', es', ep', ho', r'⟩ := hm
    rw [ho] at ho'; cases ho'
    exact ⟨_, es', ep', hL, r'⟩) hok I.bare
theorem Inv.call {g' : Array GenState} {t' : Nat} {d' : Drawn} {ch : List Addr} (I : Inv X pins σ H s) (u : Un (frs X.stack) ch H H' s.heap h') (hok : HOk X.prog X.w H' h') (hg : AllBare g')
    (hch : ∀ b ∈ ch, (b ∈ X.ex ∨ X.s₀.heap.objs.size ≤ b) ∧ b ≠ X.env.locals ∧ (∀ x c, X.env.cells.lookup x = some c → c ≠ b) ∧ ∀ p ∈ X.pn ++ pins, p.1 ≠ b) :
    Inv X pins σ H' { s with heap := h', gens := g', drawn := d', toks := t' } := by
  obtain ⟨m, ⟨o, es, ep, ho, r⟩, _⟩ := id I.loc
  obtain ⟨sl, hL⟩ := u.any ho I.free fun z => (hch _ z).2.1 rfl
  exact I.step (ch := ch) hch (fun b o hL hb hc e n => u.keep b o e n (fun z => (List.mem_cons.mp (I.stkSub b z)).elim hL hb) hc) (fun b o _ _ hc e n => u.any e n hc) (fun b o hc e n => u.free b o e n hc) (fun b o hc e => u.there b o e hc) u.tups u.frzs u.tbls (fun m' hm => by
    obtain ⟨o', es', ep', ho', r'⟩ := hm
    rw [ho] at ho'; cases ho'
    exact ⟨_, es', ep', hL, r'⟩) hok hg
theorem Inv.turned {t' : Nat} {it : Addr} (I : Inv X pins σ H s) (k : ∀ b o, b ≠ it → s.heap.get? b = some o → h'.get? b = some o) (hn : H it = none) (hL : it ≠ X.env.locals)
    (h1 : it ∈ X.ex ∨ X.s₀.heap.objs.size ≤ it) (h2 : ∀ x c, X.env.cells.lookup x = some c → c ≠ it) (h3 : ∀ p ∈ X.pn ++ pins, p.1 ≠ it) : Inv X pins σ H { s with heap := h', toks := t' } := by
  have nit : ∀ b u, H b = some u → b ≠ it := fun b u e z => by rw [z, hn] at e; cases e
  refine I.step (g' := s.gens) (d' := s.drawn) (ch := [it]) (fun b hb => ?_) (fun b o _ _ hc e _ => k b o (fun z => hc (by simp [z])) e) (fun b o _ _ hc e _ => ⟨o.slots, k b o (fun z => hc (by simp [z])) e⟩) (fun _ _ _ _ n => n)
    (fun b o hc e => ⟨o, k b o (fun z => hc (by simp [z])) e⟩) (fun _ _ e => e) (fun _ _ _ e => e) (fun b ps e => ⟨#[], by rw [e]; simp⟩) (fun m hm => ?_) (fun b u e => ?_) I.bare
  · have e : b = it := by simpa using hb
    subst e
    exact ⟨h1, hL, h2, h3⟩
  · obtain ⟨o, es, ep, ho, r⟩ := hm
    exact ⟨o, es, ep, k _ o (Ne.symm hL) ho, r⟩
  · refine (I.hok b u e).stay (fun c v hc q => k c v ?_ q) (fun _ q => q) fun _ _ q => q
    rcases hc with z | z
    · rw [z]; exact nit b u e
    · exact nit c _ z
theorem Inv.tok (I : Inv X pins σ H s) (t : Nat) : Inv X pins σ H { s with toks := t } := I.un (h' := s.heap) (t' := t) Un.refl I.hok
theorem Inv.kept {t' : Nat} (I : Inv X pins σ H s) (k : ∀ b u, s.heap.get? b = some u → h'.get? b = some u) : Inv X pins σ H { s with heap := h', toks := t' } := I.un (Un.kept k) (I.hok.kept k)
theorem Inv.laid {a : Addr} {o : HO} {t' : Nat} (I : Inv X pins σ H s) (k : ∀ b u, s.heap.get? b = some u → h'.get? b = some u) (hp : s.heap.objs.size ≤ a) (new : ObjOk X.prog X.w (upd H a o) h' a o) :
    Inv X pins σ (upd H a o) { s with heap := h', toks := t' } := I.un (Un.laid k hp (I.hok.fresh hp)) (I.hok.laid k hp new)
theorem Inv.write {x e : Addr} {o : HO} {t' : Nat} (I : Inv X pins σ H s) (mu : Mut (H x)) (he : e = x ∨ H e = some (.own x)) (k : ∀ b u, b ≠ e → s.heap.get? b = some u → h'.get? b = some u) (heo : ∃ u, h'.get? e = some u)
    (new : ObjOk X.prog X.w (upd H x o) h' x o) : Inv X pins σ (upd H x o) { s with heap := h', toks := t' } := I.un (Un.write mu he k heo) (I.hok.write mu he k heo new)
theorem Inv.weak {σ' : List (Option V)} (I : Inv X pins σ H s) (hl : σ'.length = σ.length) (w : ∀ (i : Nat) v, σ'[i]? = some (some v) → σ[i]? = some (some v)) : Inv X pins σ' H s :=
  ⟨I.ok, I.os, I.bare, I.base, let ⟨m, hn, hl'⟩ := I.loc; ⟨m, hn, fun i x v e1 e2 e3 => hl' i x v e1 (w i v e2) e3⟩, I.cell, I.free, I.freeC, I.pin, I.hok, hl.trans I.len⟩
theorem Inv.pins_of {pins' : List (Addr × Obj)} (I : Inv X pins σ H s) (h : ∀ p ∈ pins', s.heap.get? p.1 = some p.2 ∧ H p.1 = none ∧ p.1 ≠ X.env.locals ∧ p.1 ∉ X.fs ∧ ∀ v, p.2.data ≠ .cell v) : Inv X pins' σ H s :=
  ⟨I.ok, I.os, I.bare, I.base, I.loc, I.cell, I.free, I.freeC, fun p hp => (List.mem_append.mp hp).elim (fun z => I.pin p (List.mem_append_left _ z)) (h p), I.hok, I.len⟩
theorem nodup_ix {N : List Str} (hN : N.Nodup) {i j : Nat} {x : Str} (a : N[i]? = some x) (b : N[j]? = some x) : i = j := by
  obtain ⟨h1, e1⟩ := List.getElem?_eq_some_iff.mp a
  obtain ⟨h2, e2⟩ := List.getElem?_eq_some_iff.mp b
  exact (List.getElem_inj hN).mp (e1.trans e2.symm)
theorem store_ok2 {M : Model} {A : Around} {E : Value → Shared → Prop} {i : Nat} {x : Str} {v : V} {u : Value} {Q : Unit → Shared → Prop} (I : Inv X pins σ H s) (hN : X.N.Nodup) (hi : X.N[i]? = some x) (hx : Loc X.env.scope x) (r : RelV v u)
    (h : ∀ s', Inv X pins (σ.set i (some v)) H s' → (∃ a, Heap.SameBut a s.heap s'.heap ∧ (a = X.env.locals ∨ X.env.cells.lookup x = some a)) → Q () s') (hf : X.fn x = true ∨ X.env.scope.names.lookup x = some .local := by first | exact .inl rfl | exact .inr rfl | assumption) : wpAny M A (storeName X.env x u) Q E s := by
  obtain ⟨m, hn, hl⟩ := id I.loc
  have hcls : (X.env.scope.kind == .class || (X.env.scope.kind == .module && X.env.locals != X.env.globals)) = false := by rw [I.ok.kind]; rfl
  have hiσ : i < σ.length := by rw [I.len]; exact (List.getElem?_eq_some_iff.mp hi).1
  have cne := I.cne
  have tracked : ∀ {a : Addr} {h' : Heap}, (∃ o, s.heap.get? a = some o ∧ H a = none) → Heap.SameBut a s.heap h' → HOk X.prog X.w H h' := fun {a h'} ha hs b ob e => by
    obtain ⟨_, _, hfree⟩ := ha
    refine (I.hok b ob e).stay (fun c w' hc q => (hs.2 c ?_).trans q) (fun _ q => q) fun _ _ q => q
    rintro rfl
    rcases hc with rfl | hc
    · rw [hfree] at e; cases e
    · rw [hfree] at hc; cases hc
  rcases hx with hk | hk
  · refine wpAny_storeName_local hk hn (fun h' hn' hs => ?_) hcls
    obtain ⟨oL, _, _, hoL, _⟩ := id hn
    refine h _ ⟨I.ok, I.os, I.bare, ⟨fun b o e n hb hx => ?_, fun b o e n hb hx => ?_, I.base.free, fun b o e hx => ?_, I.base.tups, I.base.frzs, I.base.tbls⟩, ⟨_, hn', fun j y v' e1 e2 e3 => ?_⟩, fun y c e => ?_, I.free, I.freeC, fun p hp => ?_, tracked ⟨oL, hoL, I.free⟩ hs, by simpa using I.len⟩ ⟨_, hs, .inl rfl⟩
    · exact (hs.2 b (Nat.ne_of_lt (Nat.lt_of_lt_of_le (Heap.lt_size e) I.ok.above))).trans (I.base.keep b o e n hb hx)
    · obtain ⟨sl, e1⟩ := I.base.slot b o e n hb hx
      exact ⟨sl, (hs.2 b (Nat.ne_of_lt (Nat.lt_of_lt_of_le (Heap.lt_size e) I.ok.above))).trans e1⟩
    · obtain ⟨o', e1⟩ := I.base.there b o e hx
      exact ⟨o', (hs.2 b (Nat.ne_of_lt (Nat.lt_of_lt_of_le (Heap.lt_size e) I.ok.above))).trans e1⟩
    · by_cases hj : j = i
      · subst hj
        rw [hi] at e1; cases e1
        rw [List.getElem?_set_self hiσ] at e2
        cases e2
        exact ⟨u, r, .inl ⟨hk, by simp⟩⟩
      · rw [List.getElem?_set_ne (Ne.symm hj)] at e2
        obtain ⟨u', r', q⟩ := hl j y v' e1 e2 e3
        refine ⟨u', r', ?_⟩
        rcases q with ⟨k, e⟩ | ⟨k, c, e, z⟩
        · refine .inl ⟨k, ?_⟩
          have : y ≠ x := fun e => hj (nodup_ix hN e1 (e ▸ hi))
          simp [this, e]
        · exact .inr ⟨k, c, e, z.sameBut hs (cne y c e)⟩
    · obtain ⟨w', z⟩ := I.cell y c e
      exact ⟨w', z.sameBut hs (cne y c e)⟩
    · obtain ⟨e, n, ne, nf, d⟩ := I.pin p hp
      exact ⟨(hs.2 p.1 ne).trans e, n, ne, nf, d⟩
  · have hfn : X.fn x = true := by
      rcases hf with z | z
      · exact z
      · rw [z] at hk; cases hk
    obtain ⟨c, hc⟩ := I.ok.has x (.inl hk)
    obtain ⟨w', z⟩ := I.cell x c hc
    refine wpAny_storeName_cell I.ok.kind hk hc z (fun h' hc' hs => ?_)
    obtain ⟨oc, hoc, hocd⟩ := id z
    refine h { s with heap := h' } ⟨I.ok, I.os, I.bare, ⟨fun b o e n hb hx => ?_, fun b o e n hb hx => ?_, I.base.free, fun b o e hx => ?_, I.base.tups, I.base.frzs, I.base.tbls⟩, ⟨m, hn.sameBut hs (Ne.symm (cne x c hc)), fun j y v' e1 e2 e3 => ?_⟩, fun y c' e => ?_, I.free, I.freeC, fun p hp => ?_, tracked ⟨oc, hoc, I.freeC x c hc⟩ hs, by simpa using I.len⟩ ⟨c, hs, .inr hc⟩
    · exact (hs.2 b (Nat.ne_of_lt (Nat.lt_of_lt_of_le (Heap.lt_size e) (I.ok.cab x c hfn hc)))).trans (I.base.keep b o e n hb hx)
    · obtain ⟨sl, e1⟩ := I.base.slot b o e n hb hx
      exact ⟨sl, (hs.2 b (Nat.ne_of_lt (Nat.lt_of_lt_of_le (Heap.lt_size e) (I.ok.cab x c hfn hc)))).trans e1⟩
    · obtain ⟨o', e1⟩ := I.base.there b o e hx
      exact ⟨o', (hs.2 b (Nat.ne_of_lt (Nat.lt_of_lt_of_le (Heap.lt_size e) (I.ok.cab x c hfn hc)))).trans e1⟩
    · by_cases hj : j = i
      · subst hj
        rw [hi] at e1; cases e1
        rw [List.getElem?_set_self hiσ] at e2
        cases e2
        exact ⟨u, r, .inr ⟨.inl hk, c, hc, hc'⟩⟩
      · rw [List.getElem?_set_ne (Ne.symm hj)] at e2
        obtain ⟨u', r', q⟩ := hl j y v' e1 e2 e3
        refine ⟨u', r', ?_⟩
        rcases q with q | ⟨k, c', e, z'⟩
        · exact .inl q
        · refine .inr ⟨k, c', e, z'.sameBut hs ?_⟩
          rintro rfl
          exact hj (nodup_ix hN e1 (I.ok.inj _ _ _ e hc ▸ hi))
    · by_cases hcc : c' = c
      · subst hcc; exact ⟨_, hc'⟩
      · obtain ⟨w2, z2⟩ := I.cell y c' e
        exact ⟨w2, z2.sameBut hs hcc⟩
    · obtain ⟨e, n, ne, nf, d⟩ := I.pin p hp
      refine ⟨(hs.2 p.1 ?_).trans e, n, ne, nf, d⟩
      intro q
      rw [q, hoc] at e
      have q' : oc = p.2 := Option.some.inj e
      exact d w' (by rw [← q']; exact hocd)
theorem store_ok {M : Model} {A : Around} {E : Value → Shared → Prop} {i : Nat} {x : Str} {v : V} {u : Value} {Q : Unit → Shared → Prop} (I : Inv X pins σ H s) (hN : X.N.Nodup) (hi : X.N[i]? = some x) (hx : Loc X.env.scope x) (r : RelV v u)
    (h : ∀ s', Inv X pins (σ.set i (some v)) H s' → Q () s') (hf : X.fn x = true ∨ X.env.scope.names.lookup x = some .local := by first | exact .inl rfl | exact .inr rfl | assumption) : wpAny M A (storeName X.env x u) Q E s :=
  store_ok2 I hN hi hx r (fun s' I' _ => h s' I') hf
theorem Inv.call' {s' : Shared} {ch : List Addr} (I : Inv X pins σ H s) (ho : s'.os = s.os) (u : Un (frs X.stack) ch H H' s.heap s'.heap) (hok : HOk X.prog X.w H' s'.heap) (hg : AllBare s'.gens)
    (hch : ∀ b ∈ ch, (b ∈ X.ex ∨ X.s₀.heap.objs.size ≤ b) ∧ b ≠ X.env.locals ∧ (∀ x c, X.env.cells.lookup x = some c → c ≠ b) ∧ ∀ p ∈ X.pn ++ pins, p.1 ≠ b) : Inv X pins σ H' s' := by
  obtain ⟨h', g', d', t', o'⟩ := s'
  have e : o' = s.os := ho
  subst e
  exact I.call (g' := g') (t' := t') (d' := d') u hok hg hch
end
noncomputable abbrev XK := Value → Option Addr → Hp → Prop
noncomputable abbrev St := List (Option V)
noncomputable abbrev VK := V → Hp → Prop
noncomputable abbrev TE := St → Hp → VK → Prop
noncomputable abbrev TT := St → Hp → (Bool → Hp → Prop) → Prop
noncomputable abbrev TA := St → Hp → (List V → Hp → Prop) → Prop
structure Ends where
  nx : St → Hp → Prop
  rt : VK
  bk : St → Hp → Prop := fun _ _ => False
  ct : St → Hp → Prop := fun _ _ => False
noncomputable abbrev TS := Ends → St → Hp → Prop
noncomputable def EP (X : Cx) (pins : List (Addr × Obj)) (σ : St) (Q : VK) (u : Value) (s' : Shared) : Prop := ∃ v H', Inv X pins σ H' s' ∧ RelV v u ∧ Q v H'
noncomputable def TP (X : Cx) (pins : List (Addr × Obj)) (σ : St) (Q : Bool → Hp → Prop) (b : Bool) (s' : Shared) : Prop := ∃ H', Inv X pins σ H' s' ∧ Q b H'
noncomputable def AP (X : Cx) (pins : List (Addr × Obj)) (σ : St) (Q : List V → Hp → Prop) (us : List Value) (s' : Shared) : Prop := ∃ vs H', Inv X pins σ H' s' ∧ Vals vs us ∧ Q vs H'
noncomputable def SP (X : Cx) (pins : List (Addr × Obj)) (D : Ends) (f : Flow) (s' : Shared) : Prop :=
  match f with
  | .next => ∃ σ' H', Inv X pins σ' H' s' ∧ D.nx σ' H'
  | .brk => ∃ σ' H', Inv X pins σ' H' s' ∧ D.bk σ' H'
  | .cont => ∃ σ' H', Inv X pins σ' H' s' ∧ D.ct σ' H'
  | .ret u => ∃ v σ' H', Inv X pins σ' H' s' ∧ RelV v u ∧ D.rt v H'
noncomputable def PE (X : Cx) (e : Expr) (t : TE) : Prop :=
  ∀ (pins : List (Addr × Obj)) (s : Shared) (σ : St) (H : Hp) (Q : VK), Inv X pins σ H s → t σ H Q → wpAny (model X.prog X.w) X.A (eval e X.env) (EP X pins σ Q) X.xe s
noncomputable def PT (X : Cx) (e : Expr) (t : TT) : Prop :=
  ∀ (pins : List (Addr × Obj)) (s : Shared) (σ : St) (H : Hp) (Q : Bool → Hp → Prop), Inv X pins σ H s → t σ H Q → wpAny (model X.prog X.w) X.A (isTrue e X.env (eval e X.env)) (TP X pins σ Q) X.xe s
noncomputable def PW (X : Cx) (e : Expr) (t : TT) : Prop :=
  ∀ (whole : Sem Value) (pins : List (Addr × Obj)) (s : Shared) (σ : St) (H : Hp) (Q : Bool → Hp → Prop), Inv X pins σ H s → t σ H Q → wpAny (model X.prog X.w) X.A (isTrue e X.env whole) (TP X pins σ Q) X.xe s
theorem PW.pt {X : Cx} {e : Expr} {t : TT} (h : PW X e t) : PT X e t := h _
noncomputable def PA (X : Cx) (es : List Expr) (t : TA) : Prop :=
  ∀ (pos : Pos) (pins : List (Addr × Obj)) (s : Shared) (σ : St) (H : Hp) (Q : List V → Hp → Prop), Inv X pins σ H s → t σ H Q → wpAny (model X.prog X.w) X.A (spliced (backTo pos (starEach es X.env))) (AP X pins σ Q) X.xe s
noncomputable def PS (X : Cx) (st : Stmt) (t : TS) : Prop :=
  ∀ (pins : List (Addr × Obj)) (s : Shared) (σ : St) (H : Hp) (D : Ends), Inv X pins σ H s → t D σ H → wpAny (model X.prog X.w) X.A (exec st X.env) (SP X pins D) X.xe s
noncomputable def PSs (X : Cx) (st : List Stmt) (t : TS) : Prop :=
  ∀ (pins : List (Addr × Obj)) (s : Shared) (σ : St) (H : Hp) (D : Ends), Inv X pins σ H s → t D σ H → wpAny (model X.prog X.w) X.A (execs st X.env) (SP X pins D) X.xe s
theorem thn {α : Type} {t : Sem α} {Q Q' : α → Shared → Prop} {M : Model} {A : Around} {E : Value → Shared → Prop} {s : Shared} (h : wpAny M A t Q E s) (hQ : ∀ a s, Q a s → Q' a s) : wpAny M A t Q' E s := wpAny_mono h hQ fun _ _ x => x
end L2
namespace L2
open PySem PySem.Spec PyProof.Rows
section
variable {X : Cx}
noncomputable abbrev tVar (i : Nat) : TE := fun σ H Q => ∃ v, σ[i]? = some (some v) ∧ Q v H
noncomputable abbrev tC (v : V) : TE := fun _ H Q => Q v H
theorem pe_var {i : Nat} {x : Str} {pos : Pos} (hN : X.N[i]? = some x) (hv : Vis X.env.scope x) (hd : (x == ("__debug__" : Str)) = false := by decide) (hcd : (x == ("__classdict__" : Str)) = false := by decide) : PE X (.Name x pos) (tVar i) := by
  intro pins s σ H Q I h
  obtain ⟨v, e, h⟩ := h
  obtain ⟨m, hn, hl⟩ := I.loc
  obtain ⟨u, r, l⟩ := hl i x v hN e hv
  have fin : EP X pins σ Q u s := ⟨v, H, I, r, h⟩
  rcases l with ⟨hk, hm⟩ | ⟨hk, c, hc, hcell⟩
  · exact wpAny_Name (wpAny_loadName_local I.ok.kind hk hn hm fin) hd
  · rcases hk with hk | hk
    · exact wpAny_Name (wpAny_loadName_cell I.ok.kind hk hc hcell fin) hd
    · exact wpAny_Name (wpAny_loadName_free I.ok.kind hk hc hcell fin hcd) hd
theorem pe_int {i j pos} : PE X (.Constant (.int i) j pos) (tC (.int i)) := fun _ _ _ H _ I h => wpAny_Constant_int ⟨.int i, H, I.tok _, ⟨_, rfl⟩, h⟩
theorem pe_bl {b j pos} : PE X (.Constant (.bool b) j pos) (tC (.bl b)) := fun _ _ _ H _ I h => Constant_bool ⟨.bl b, H, I, rfl, h⟩
theorem pe_str {x j pos} : PE X (.Constant (.str x) j pos) (tC (.str x)) := fun _ _ _ H _ I h => Calls.Constant_str ⟨.str x, H, I.tok _, ⟨_, rfl⟩, h⟩
noncomputable def Gl (X : Cx) (x : Str) : Prop := X.env.kindOf x = some .globalImplicit
theorem ld_glob {E : Value → Shared → Prop} {pins : List (Addr × Obj)} {s : Shared} {σ : St} {H : Hp} {x : Str} {u : Value} {pos : Pos} {Q : Value → Shared → Prop} (I : Inv X pins σ H s) (hg : Gl X x) (hm : X.mg x = some u) (h : Q u s)
    (hd : (x == ("__debug__" : Str)) = false := by decide) : wpAny (model X.prog X.w) X.A (eval (.Name x pos) X.env) Q E s :=
  Calls.Name_function_global I.ok.kind hg (Calls.loadGlobal_global (by rw [I.ok.glob]; exact I.mod.glob.keeps I.bk) hm h) hd
theorem ld_blt {E : Value → Shared → Prop} {pins : List (Addr × Obj)} {s : Shared} {σ : St} {H : Hp} {x : Str} {u : Value} {pos : Pos} {Q : Value → Shared → Prop} (I : Inv X pins σ H s) (hg : Gl X x) (hm : X.mg x = none) (hv : bootBuiltins x = some u) (h : Q u s)
    (hn : x ≠ "__name__" := by decide) (hd : (x == ("__debug__" : Str)) = false := by decide) : wpAny (model X.prog X.w) X.A (eval (.Name x pos) X.env) Q E s := by
  obtain ⟨mb, h1, h2⟩ := I.mod.blt
  exact Calls.Name_function_global I.ok.kind hg (Calls.loadGlobal_builtin (by rw [I.ok.glob]; exact I.mod.glob.keeps I.bk) hm (by rw [I.ok.blt]; exact h1.keeps I.bk) ((h2 x hn).trans hv) h) hd
theorem pe_bltn {x : Str} {v : V} {u : Value} {pos : Pos} (hg : Gl X x) (hm : X.mg x = none) (hv : bootBuiltins x = some u) (r : RelV v u) (hn : x ≠ "__name__" := by decide) (hd : (x == ("__debug__" : Str)) = false := by decide) : PE X (.Name x pos) (tC v) :=
  fun _ _ _ H _ I h => ld_blt I hg hm hv ⟨v, H, I, r, h⟩ hn hd
variable {a b : Expr} {ta tb : TE} {pos : Pos}
variable {tA tB' : TT} {rest : List Expr}
noncomputable abbrev tAnd (t u : TT) : TT := fun σ H Q => t σ H fun c H1 => if c = true then u σ H1 Q else Q false H1
noncomputable abbrev tOr (t u : TT) : TT := fun σ H Q => t σ H fun c H1 => if c = true then Q true H1 else u σ H1 Q
noncomputable abbrev tNot (t : TT) : TT := fun σ H Q => t σ H fun c H1 => Q (!c) H1
theorem pw_and1 (ha : PT X a tA) : PW X (.BoolOp .And [a] pos) tA := by
  intro wh pins s σ H Q I h
  refine isTrue_and (thn (ha pins s σ H Q I h) fun c s1 e => ?_)
  cases c with
  | true => exact isTrue_and_nil e
  | false => exact e
theorem pw_or1 (ha : PT X a tA) : PW X (.BoolOp .Or [a] pos) tA := by
  intro wh pins s σ H Q I h
  refine isTrue_or (thn (ha pins s σ H Q I h) fun c s1 e => ?_)
  cases c with
  | false => exact isTrue_or_nil e
  | true => exact e
theorem pw_and (ha : PT X a tA) (hb : PW X (.BoolOp .And (b :: rest) pos) tB') : PW X (.BoolOp .And (a :: b :: rest) pos) (tAnd tA tB') := by
  intro wh pins s σ H Q I h
  refine isTrue_and (thn (ha pins s σ H _ I h) fun c s1 ⟨H1, I1, q1⟩ => ?_)
  cases c with
  | true => exact hb wh pins s1 σ H1 Q I1 q1
  | false => exact ⟨H1, I1, q1⟩
theorem pw_or (ha : PT X a tA) (hb : PW X (.BoolOp .Or (b :: rest) pos) tB') : PW X (.BoolOp .Or (a :: b :: rest) pos) (tOr tA tB') := by
  intro wh pins s σ H Q I h
  refine isTrue_or (thn (ha pins s σ H _ I h) fun c s1 ⟨H1, I1, q1⟩ => ?_)
  cases c with
  | true => exact ⟨H1, I1, q1⟩
  | false => exact hb wh pins s1 σ H1 Q I1 q1
theorem pt_not (ha : PT X a tA) : PT X (.UnaryOp .Not a pos) (tNot tA) := by
  intro pins s σ H Q I h
  exact isTrue_not (ha pins s σ H (fun c H1 => Q (!c) H1) I h)
noncomputable abbrev tAndV (ta tb : TE) : TE := fun σ H Q => ta σ H fun x H1 => ∃ c, x = .bl c ∧ if c = true then tb σ H1 Q else Q (.bl false) H1
theorem pe_one {op} {t : TE} (h : PE X a t) : PE X (.BoolOp op [a] pos) t := fun pins s σ H Q I hw => BoolOp_one (h pins s σ H Q I hw)
theorem pe_and (ha : PE X a ta) (hb : PE X (.BoolOp .And (b :: rest) pos) tb) : PE X (.BoolOp .And (a :: b :: rest) pos) (tAndV ta tb) := by
  intro pins s σ H Q I h
  refine BoolOp_and (thn (ha pins s σ H _ I h) fun v s1 ⟨x, H1, I1, r1, q1⟩ => ?_)
  obtain ⟨c, rfl, q1⟩ := q1
  cases r1
  refine wpAny_truthy_bool ?_
  cases c with
  | true => exact hb pins s1 σ H1 Q I1 q1
  | false => exact ⟨.bl false, H1, I1, rfl, q1⟩
end
end L2
namespace L2
open PySem PySem.Spec PyProof.Rows
noncomputable def SqL (K : PySem.W.Frag) (H : Hp) (a : Addr) (xs : List V) : Prop :=
  Rd H a (.lst xs) ∨
    ∃ (o : Obj) (its : Array Value) (n : Nat), K.lookup a = some o ∧ o.cls = .type "list" ∧ o.dict = none ∧ o.data = .seq its n ∧ its.size ≤ sizeLine ∧ Vals xs its.toList
noncomputable def SqT (K : PySem.W.Frag) (H : Hp) (a : Addr) (xs : List V) : Prop :=
  Rd H a (.tup xs) ∨
    ∃ (o : Obj) (its : Array Value) (n : Nat), K.lookup a = some o ∧ o.cls = .type "tuple" ∧ o.data = .seq its n ∧ its.size ≤ sizeLine ∧ Vals xs its.toList
noncomputable def absV : Value → Option V
  | .none => some .non
  | .bool b => some (.bl b)
  | .int i _ => some (.int i)
  | .str x _ => some (.str x)
  | .bytes b _ => some (.byt b)
  | .float b _ => some (.flt b)
  | .ref a => some (.ref a)
  | .type n => some (.ty n)
  | _ => none
theorem RelV.abs {x : V} {u : Value} (r : RelV x u) : absV u = some x := by
  cases x with
  | non => cases r; rfl
  | bl _ => cases r; rfl
  | int _ => obtain ⟨t, rfl⟩ := r; rfl
  | str _ => obtain ⟨t, rfl⟩ := r; rfl
  | byt _ => obtain ⟨t, rfl⟩ := r; rfl
  | flt _ => obtain ⟨t, rfl⟩ := r; rfl
  | ref _ => cases r; rfl
  | ty _ => cases r; rfl
theorem RelV.inj {x y : V} {u : Value} (r : RelV x u) (q : RelV y u) : x = y := Option.some.inj (r.abs.symm.trans q.abs)
theorem Vals.inj : ∀ {xs ys : List V} {us : List Value}, Vals xs us → Vals ys us → xs = ys
  | _, _, _, .nil, .nil => rfl
  | _, _, _, .cons r t, .cons r' t' => by rw [r.inj r', Vals.inj t t']
section
variable {X : Cx} {pins : List (Addr × Obj)} {σ : St} {H : Hp} {s : Shared} {a : Addr} {xs ys : List V}
theorem SqL.of {K : PySem.W.Frag} (h : H a = some (.lst xs)) : SqL K H a xs := .inl (.inl h)
theorem SqT.of {K : PySem.W.Frag} (h : H a = some (.tup xs)) : SqT K H a xs := .inl (.inl h)
theorem Inv.list (I : Inv X pins σ H s) (h : SqL X.K H a xs) : ∃ its : List Value, Vals xs its ∧ PlainL s.heap a its.toArray ∧ xs.length ≤ sizeLine := by
  rcases h with h | ⟨o, its, n, hk, hc, hd, hs, hz, r⟩
  · obtain ⟨z, its, n, r, e⟩ := h.ok I.hok
    exact ⟨its, r, ⟨_, n, e, rfl, rfl, rfl⟩, z⟩
  · refine ⟨its.toList, r, ⟨o, n, I.kIn a o hk, hc, hd, by simpa using hs⟩, ?_⟩
    have e := r.length
    simp only [Array.length_toList] at e
    omega
theorem Inv.tuple (I : Inv X pins σ H s) (h : SqT X.K H a xs) : ∃ its : List Value, Vals xs its ∧ IsTup s.heap a its.toArray ∧ xs.length ≤ sizeLine := by
  rcases h with h | ⟨o, its, n, hk, hc, hs, hz, r⟩
  · obtain ⟨z, its, r, p⟩ := h.ok I.hok
    exact ⟨its, r, p, z⟩
  · refine ⟨its.toList, r, ⟨o, I.kIn a o hk, hc, n, by simpa using hs⟩, ?_⟩
    have e := r.length
    simp only [Array.length_toList] at e
    omega
theorem Inv.list_inj (I : Inv X pins σ H s) (h : SqL X.K H a xs) (h' : SqL X.K H a ys) : xs = ys := by
  obtain ⟨its, r, ⟨o, n, e, _, _, d⟩, _⟩ := I.list h
  obtain ⟨its', r', ⟨o', n', e', _, _, d'⟩, _⟩ := I.list h'
  rw [e] at e'; cases e'
  rw [d] at d'
  injection d' with d1 _
  have : its = its' := by simpa using congrArg Array.toList d1
  subst this
  exact r.inj r'
theorem Inv.tuple_inj (I : Inv X pins σ H s) (h : SqT X.K H a xs) (h' : SqT X.K H a ys) : xs = ys := by
  obtain ⟨its, r, ⟨o, e, _, n, d⟩, _⟩ := I.tuple h
  obtain ⟨its', r', ⟨o', e', _, n', d'⟩, _⟩ := I.tuple h'
  rw [e] at e'; cases e'
  rw [d] at d'
  injection d' with d1 _
  have : its = its' := by simpa using congrArg Array.toList d1
  subst this
  exact r.inj r'
end
noncomputable abbrev Cx.wish (X : Cx) (E : Value → Shared → Prop) : Cx := { X with xe := E }
noncomputable abbrev Cx.nox (X : Cx) : Cx := X.wish fun _ _ => False
theorem Cx.Ok.wish {X : Cx} (ok : X.Ok) (E : Value → Shared → Prop) : (X.wish E).Ok :=
  ⟨ok.mod, ok.kind, ok.glob, ok.blt, ok.above, ok.inj, ok.has, ok.cab, ok.hd, ok.frames, ok.stk, ok.exf, ok.bs, ok.bsz, ok.noex, ok.exfs, ok.funs, ok.frf⟩
theorem Cx.Ok.unwish {X : Cx} {E : Value → Shared → Prop} (ok : (X.wish E).Ok) : X.Ok :=
  ⟨ok.mod, ok.kind, ok.glob, ok.blt, ok.above, ok.inj, ok.has, ok.cab, ok.hd, ok.frames, ok.stk, ok.exf, ok.bs, ok.bsz, ok.noex, ok.exfs, ok.funs, ok.frf⟩
section
variable {X : Cx} {pins : List (Addr × Obj)} {σ : St} {H : Hp} {s : Shared} {E : Value → Shared → Prop}
theorem Inv.wish (I : Inv X pins σ H s) (E : Value → Shared → Prop) : Inv (X.wish E) pins σ H s := ⟨I.ok.wish E, I.os, I.bare, I.base, I.loc, I.cell, I.free, I.freeC, I.pin, I.hok, I.len⟩
theorem Inv.unwish (I : Inv (X.wish E) pins σ H s) : Inv X pins σ H s := ⟨I.ok.unwish, I.os, I.bare, I.base, I.loc, I.cell, I.free, I.freeC, I.pin, I.hok, I.len⟩
theorem SP.unwish {D : Ends} {f : Flow} {s' : Shared} (h : SP (X.wish E) pins D f s') : SP X pins D f s' := by
  cases f with
  | next => obtain ⟨σ', H', I, q⟩ := h; exact ⟨σ', H', I.unwish, q⟩
  | brk => obtain ⟨σ', H', I, q⟩ := h; exact ⟨σ', H', I.unwish, q⟩
  | cont => obtain ⟨σ', H', I, q⟩ := h; exact ⟨σ', H', I.unwish, q⟩
  | ret u => obtain ⟨v, σ', H', I, r, q⟩ := h; exact ⟨v, σ', H', I.unwish, r, q⟩
theorem PE.nox {e : Expr} {t : TE} (h : PE X.nox e t) : PE X e t := fun pins s σ H Q I hw =>
  wpAny_mono (h pins s σ H Q (I.wish _) hw) (fun _ _ ⟨v, H', I', r, q⟩ => ⟨v, H', I'.unwish, r, q⟩) fun _ _ z => False.elim z
theorem PT.nox {e : Expr} {t : TT} (h : PT X.nox e t) : PT X e t := fun pins s σ H Q I hw =>
  wpAny_mono (h pins s σ H Q (I.wish _) hw) (fun _ _ ⟨H', I', q⟩ => ⟨H', I'.unwish, q⟩) fun _ _ z => False.elim z
theorem PSs.nox {st : List Stmt} {t : TS} (h : PSs X.nox st t) : PSs X st t := fun pins s σ H D I hw =>
  wpAny_mono (h pins s σ H D (I.wish _) hw) (fun _ _ q => q.unwish) fun _ _ z => False.elim z
end
section
variable {X : Cx} {st : Stmt} {rest : List Stmt} {t u : TS} {e : Expr} {te : TE} {pos : Pos}
noncomputable abbrev tNext : TS := fun D σ H => D.nx σ H
noncomputable abbrev tSeq (t u : TS) : TS := fun D σ H => t { D with nx := u D } σ H
theorem pss_nil : PSs X [] tNext := fun _ _ σ H _ I h => wpAny_execs_nil ⟨σ, H, I, h⟩
theorem pss_cons (h1 : PS X st t) (h2 : PSs X rest u) : PSs X (st :: rest) (tSeq t u) := by
  intro pins s σ H D I h
  refine wpAny_execs_cons (thn (h1 pins s σ H { D with nx := u D } I h) fun f s1 q => ?_)
  cases f with
  | next =>
    obtain ⟨σ', H', I', q⟩ := q
    exact h2 pins s1 σ' H' D I' q
  | ret v => exact q
  | brk => exact q
  | cont => exact q
theorem Inv.quiet {pins : List (Addr × Obj)} {σ : St} {H : Hp} {s : Shared} (I : Inv X pins σ H s) : interactive X.env = false := by simp [interactive, I.ok.kind]
noncomputable abbrev tDrop (te : TE) : TS := fun D σ H => te σ H fun _ H1 => D.nx σ H1
theorem ps_expr (he : PE X e te) (hs : swapsWith e none pos.line X.env = pure false := by rfl) : PS X (.Expr e pos) (tDrop te) := by
  intro pins s σ H D I h
  exact wpAny_Expr_any (thn (he pins s σ H _ I h) fun v s1 ⟨x, H1, I1, r1, q1⟩ => ⟨σ, H1, I1, q1⟩) I.quiet hs
noncomputable abbrev tRet (te : TE) : TS := fun D σ H => te σ H D.rt
theorem ps_ret (he : PE X e te) : PS X (.Return (some e) pos) (tRet te) := by
  intro pins s σ H D I h
  exact wpAny_Return_some (thn (he pins s σ H _ I h) fun v s1 ⟨x, H1, I1, r1, q1⟩ => ⟨x, σ, H1, I1, r1, q1⟩)
noncomputable abbrev tIfS (c : TT) (t u : TS) : TS := fun D σ H => c σ H fun b H1 => if b = true then t D σ H1 else u D σ H1
theorem ps_if {c : Expr} {a b : List Stmt} {tc : TT} (hc : PT X c tc) (ha : PSs X a t) (hb : PSs X b u) : PS X (.If c a b pos) (tIfS tc t u) := by
  intro pins s σ H D I h
  refine wpAny_If (thn (hc pins s σ H _ I h) fun d s1 ⟨H1, I1, q1⟩ => ?_)
  cases d with
  | true => exact ha pins s1 σ H1 D I1 q1
  | false => exact hb pins s1 σ H1 D I1 q1
end
noncomputable abbrev TG := V → St → Hp → (St → Hp → Prop) → Prop
noncomputable def PG (X : Cx) (target : Expr) (t : TG) : Prop :=
  ∀ (pins : List (Addr × Obj)) (s : Shared) (σ : St) (H : Hp) (v : V) (u : Value) (Q : St → Hp → Prop), Inv X pins σ H s → RelV v u → t v σ H Q →
    wpAny (model X.prog X.w) X.A (assign target X.env u) (fun _ s' => ∃ σ' H', Inv X pins σ' H' s' ∧ Q σ' H') X.xe s
section
variable {X : Cx} {pos : Pos}
noncomputable abbrev gName (i : Nat) : TG := fun v σ H Q => Q (σ.set i (some v)) H
theorem pg_name {i : Nat} {x : Str} (hN : X.N.Nodup) (hi : X.N[i]? = some x) (hx : Loc X.env.scope x) (hf : X.fn x = true ∨ X.env.scope.names.lookup x = some .local := by first | exact .inl rfl | exact .inr rfl | assumption) : PG X (.Name x pos) (gName i) := by
  intro pins s σ H v u Q I r h
  exact wpAny_assign_Name (store_ok I hN hi hx r (fun s' I' => ⟨_, H, I', h⟩) hf)
noncomputable abbrev tAsg (te : TE) (g : TG) : TS := fun D σ H => te σ H fun x H1 => g x σ H1 D.nx
theorem ps_set {i : Nat} {x : Str} {e : Expr} {te : TE} {pos' : Pos} (hN : X.N.Nodup) (hi : X.N[i]? = some x) (hx : Loc X.env.scope x) (he : PE X e te) (hs : swapsWith e (some (.Name x pos')) pos.line X.env = pure false := by rfl) (hf : X.fn x = true ∨ X.env.scope.names.lookup x = some .local := by first | exact .inl rfl | exact .inr rfl | assumption) :
    PS X (.Assign [.Name x pos'] e pos) (tAsg te (gName i)) := by
  intro pins s σ H D I h
  refine wpAny_Assign_Name (thn (he pins s σ H _ I h) fun v s1 ⟨y, H1, I1, r1, q1⟩ => ?_) hs
  exact store_ok I1 hN hi hx r1 (fun s2 I2 => ⟨_, H1, I2, q1⟩) hf
end
section
variable {X : Cx} {pos : Pos}
end
structure It where
  go : Nat → Hp → Prop
  yld : Nat → Hp → V → Hp → Prop
  stop : Nat → Hp → Prop
noncomputable def FpOk (X : Cx) (pins : List (Addr × Obj)) (H : Hp) (b : Addr) : Prop :=
  H b = none ∧ b ≠ X.env.locals ∧ b ∉ X.fs ∧ (b ∈ X.ex ∨ X.s₀.heap.objs.size ≤ b) ∧ (∀ x c, X.env.cells.lookup x = some c → c ≠ b) ∧ ∀ p ∈ X.pn ++ pins, p.1 ≠ b
theorem Inv.fpOk {X : Cx} {pins : List (Addr × Obj)} {σ : St} {H H' : Hp} {s : Shared} {b : Addr} (I : Inv X pins σ H s) (hb : s.heap.objs.size ≤ b) (hn : H' b = none) : FpOk X pins H' b := by
  refine ⟨hn, Nat.ne_of_gt (Nat.lt_of_lt_of_le I.lt hb), I.nofs hb, .inr (Nat.le_trans I.sz hb), fun x c e z => ?_, fun p hp z => ?_⟩
  · obtain ⟨v, q⟩ := I.cell x c e
    exact absurd (Nat.lt_of_lt_of_le q.lt (by rw [z]; exact hb)) (Nat.lt_irrefl _)
  · exact absurd (Nat.lt_of_lt_of_le (Heap.lt_size (I.pin p hp).1) (by rw [z]; exact hb)) (Nat.lt_irrefl _)
structure Turn (P : Program) (w : World) (K : PySem.W.Frag) (tg : Expr) (J : It) (fp : List Addr) (it : Addr) (tn : Nat → Heap → Prop) : Prop where
  mem : it ∈ fp
  obj : ∀ i h, tn i h → ∀ b ∈ fp, ∃ o, h.get? b = some o ∧ ∀ v, o.data ≠ .cell v
  keep : ∀ i h h', tn i h → (∀ b ∈ fp, ∀ o, h.get? b = some o → h'.get? b = some o) → tn i h'
  item : ∀ (X : Cx), X.prog = P → X.w = w → X.K = K → X.calm = true → ∀ (i : Nat) (pins : List (Addr × Obj)) (s : Shared) (σ : St) (H : Hp) (E : Value → Shared → Prop), Inv X pins σ H s → (∀ b ∈ fp, FpOk X pins H b) → tn i s.heap → J.go i H →
    wpAny (model P w) X.A (pyNext (.ref it)) (fun r s1 => ∃ u, r = some u ∧
      wpAny (model P w) X.A (letOwnedTupleGo tg (.ref it) u) (fun _ s2 => ∃ x H', Inv X pins σ H' s2 ∧ RelV x u ∧ J.yld i H x H' ∧ tn (i + 1) s2.heap ∧ ∀ b ∈ fp, H' b = none) E s1) E s
  done : ∀ (X : Cx), X.prog = P → X.w = w → X.K = K → X.calm = true → ∀ (i : Nat) (pins : List (Addr × Obj)) (s : Shared) (σ : St) (H : Hp) (E : Value → Shared → Prop), Inv X pins σ H s → (∀ b ∈ fp, FpOk X pins H b) → tn i s.heap → J.stop i H →
    wpAny (model P w) X.A (pyNext (.ref it)) (fun r s1 => r = none ∧ Inv X pins σ H s1) E s
  self : ∀ (A : Around) (i : Nat) (s : Shared) (Q : Value → Shared → Prop) (E : Value → Shared → Prop), tn i s.heap → Q (.ref it) s → wpAny (model P w) A (pyIter (.ref it)) Q E s
noncomputable abbrev TI := St → Hp → (It → Hp → Prop) → Prop
noncomputable def PIE (X : Cx) (pins : List (Addr × Obj)) (σ : St) (tg : Expr) (R : It → Hp → Prop) (itv : Value) (s2 : Shared) : Prop :=
  ∃ (it : Addr) (fp : List Addr) (tn : Nat → Heap → Prop) (J : It) (H' : Hp), itv = .ref it ∧ Inv X pins σ H' s2 ∧ Turn X.prog X.w X.K tg J fp it tn ∧ tn 0 s2.heap ∧ (∀ b ∈ fp, FpOk X pins H' b) ∧ R J H'
noncomputable def PI (X : Cx) (tg iter : Expr) (wi : TI) : Prop :=
  ∀ (pins : List (Addr × Obj)) (s : Shared) (σ : St) (H : Hp) (R : It → Hp → Prop), Inv X pins σ H s → wi σ H R →
    wpAny (model X.prog X.w) X.A (eval iter X.env) (fun v s1 => wpAny (model X.prog X.w) X.A (pyIter v) (PIE X pins σ tg R) X.xe s1) X.xe s
theorem go_of {M : Model} {A : Around} {E : Value → Shared → Prop} {s : Shared} {tg : Expr} {it : Addr} {u : Value} {o : Obj} {n : String} {vs : Array Value} {Q : Unit → Shared → Prop} (ho : s.heap.get? it = some o) (hc : o.cls = .type n) (hd : o.data = .fields vs)
    (hn : ["enumerate", "zip", "dict_itemiterator", "dict_reverseitemiterator", "odict_iterator", "itertools.zip_longest", "itertools.pairwise"].contains n = false) (hQ : Q () s) : wpAny M A (letOwnedTupleGo tg (.ref it) u) Q E s := by
  unfold letOwnedTupleGo
  cases tg <;> first
    | exact wpAny_pure hQ
    | (cases u <;> first
        | exact wpAny_pure hQ
        | (refine wpAny_bind (wpAny_load ho ?_)
           rw [hc, hd]
           show wpAny M A (if (["enumerate", "zip", "dict_itemiterator", "dict_reverseitemiterator", "odict_iterator", "itertools.zip_longest", "itertools.pairwise"].contains n && vs[0]? == some (rawInt _)) = true then _ else _) Q E s
           rw [if_neg (by intro h; rw [hn, Bool.false_and] at h; cases h)]
           exact wpAny_pure hQ))
noncomputable def Itl (K : PySem.W.Frag) (a : Addr) : It :=
  ⟨fun i H => ∃ xs x, SqL K H a xs ∧ xs[i]? = some x, fun i H x H' => H' = H ∧ ∀ xs, SqL K H a xs → xs[i]? = some x, fun i H => ∃ xs, SqL K H a xs ∧ xs.length ≤ i⟩
noncomputable def Itt (K : PySem.W.Frag) (a : Addr) : It :=
  ⟨fun i H => ∃ xs x, SqT K H a xs ∧ xs[i]? = some x, fun i H x H' => H' = H ∧ ∀ xs, SqT K H a xs → xs[i]? = some x, fun i H => ∃ xs, SqT K H a xs ∧ xs.length ≤ i⟩
noncomputable def Itr (lo : Int) (n : Nat) : It := ⟨fun i _ => i < n, fun i H x H' => H' = H ∧ x = .int (lo + i), fun i _ => n ≤ i⟩
theorem turn_list {P : Program} {w : World} {K : PySem.W.Frag} {tg : Expr} (a it : Addr) : Turn P w K tg (Itl K a) [it] it (fun i h => h.IsListIter it a i) where
  mem := by simp
  obj := fun i h st b hb => by
    have e : b = it := by simpa using hb
    subst e
    obtain ⟨o, e, c, d⟩ := st
    exact ⟨o, e, fun v z => by rw [d] at z; cases z⟩
  keep := fun i h h' st k => st.at fun o e => k it (by simp) o e
  item := by
    intro X hP hw hK hc i pins s σ H E I hf st hg
    subst hP hw hK
    obtain ⟨xs, x, hq, hx⟩ := hg
    obtain ⟨its, rv, p, hz⟩ := I.list hq
    obtain ⟨u, hu, ru⟩ := rv.get hx
    obtain ⟨f0, f1, f2, f3, f4, f5⟩ := hf it (by simp)
    refine wpAny_pyNext_list_item st p.isList (x := u) (by simpa using hu) fun h' st' sb => ?_
    have I1 : Inv X pins σ H { s with heap := h' } := I.turned (t' := s.toks) (fun b o hb e => (sb.2 b hb).trans e) f0 f1 f3 f4 f5
    obtain ⟨o, e, c, d⟩ := id st'
    exact ⟨u, rfl, go_of (s := { s with heap := h' }) e c d (by decide) ⟨x, H, I1, ru, ⟨rfl, fun ys hy => by rw [I.list_inj hy hq]; exact hx⟩, st', fun b hb => (hf b hb).1⟩⟩
  done := by
    intro X hP hw hK hc i pins s σ H E I hf st hg
    subst hP hw hK
    obtain ⟨xs, hq, hx⟩ := hg
    obtain ⟨its, rv, p, hz⟩ := I.list hq
    obtain ⟨f0, f1, f2, f3, f4, f5⟩ := hf it (by simp)
    have hl := rv.length
    exact wpAny_pyNext_list_end (I.ok.hd hc) st p.isList (by simp; omega) fun h' eb => ⟨rfl, I.turned (t' := s.toks) (fun b o hb e => eb b o hb e) f0 f1 f3 f4 f5⟩
  self := fun _ _ _ _ _ st h => wpAny_pyIter_listiter st h
theorem turn_tuple {P : Program} {w : World} {K : PySem.W.Frag} {tg : Expr} (a it : Addr) : Turn P w K tg (Itt K a) [it] it (fun i h => h.IsTupleIter it a i) where
  mem := by simp
  obj := fun i h st b hb => by
    have e : b = it := by simpa using hb
    subst e
    obtain ⟨o, e, c, d⟩ := st
    exact ⟨o, e, fun v z => by rw [d] at z; cases z⟩
  keep := fun i h h' st k => st.at fun o e => k it (by simp) o e
  item := by
    intro X hP hw hK hc i pins s σ H E I hf st hg
    subst hP hw hK
    obtain ⟨xs, x, hq, hx⟩ := hg
    obtain ⟨its, rv, p, hz⟩ := I.tuple hq
    obtain ⟨u, hu, ru⟩ := rv.get hx
    obtain ⟨f0, f1, f2, f3, f4, f5⟩ := hf it (by simp)
    refine wpAny_pyNext_tuple_item st (show s.heap.IsTuple a its.toArray from p) (x := u) (by simpa using hu) fun h' st' sb => ?_
    have I1 : Inv X pins σ H { s with heap := h' } := I.turned (t' := s.toks) (fun b o hb e => (sb.2 b hb).trans e) f0 f1 f3 f4 f5
    obtain ⟨o, e, c, d⟩ := id st'
    exact ⟨u, rfl, go_of (s := { s with heap := h' }) e c d (by decide) ⟨x, H, I1, ru, ⟨rfl, fun ys hy => by rw [I.tuple_inj hy hq]; exact hx⟩, st', fun b hb => (hf b hb).1⟩⟩
  done := by
    intro X hP hw hK hc i pins s σ H E I hf st hg
    subst hP hw hK
    obtain ⟨xs, hq, hx⟩ := hg
    obtain ⟨its, rv, p, hz⟩ := I.tuple hq
    obtain ⟨f0, f1, f2, f3, f4, f5⟩ := hf it (by simp)
    have hl := rv.length
    exact wpAny_pyNext_tuple_end (I.ok.hd hc) st (show s.heap.IsTuple a its.toArray from p) (by simp; omega) fun h' eb => ⟨rfl, I.turned (t' := s.toks) (fun b o hb e => eb b o hb e) f0 f1 f3 f4 f5⟩
  self := fun _ _ _ _ _ st h => wpAny_pyIter_tupleiter st h
theorem turn_range {P : Program} {w : World} {K : PySem.W.Frag} {tg : Expr} (it : Addr) (lo : Int) (n : Nat) : Turn P w K tg (Itr lo n) [it] it (fun i h => IsRangeIter h it (lo + (i : Nat) * 1) ((n : Int) - (i : Nat)) 1) where
  mem := by simp
  obj := fun i h st b hb => by
    have e : b = it := by simpa using hb
    subst e
    exact ⟨_, st, fun v z => by
      have z' : Data.fields _ = Data.cell v := z
      cases z'⟩
  keep := fun i h h' st k => k it (by simp) _ st
  item := by
    intro X hP hw hK hc i pins s σ H E I hf st hg
    subst hP hw hK
    obtain ⟨f0, f1, f2, f3, f4, f5⟩ := hf it (by simp)
    have W := Walks.range (prog := X.prog) (w := X.w) (I.ok.hd hc) it lo 1 n
    refine W.item i s _ _ hg st fun v h' tk hv st' kk => ?_
    obtain ⟨t, rfl⟩ := hv
    have I1 : Inv X pins σ H { s with heap := h', toks := tk } := I.turned (fun b o hb e => kk b o (by simpa using hb) e) f0 f1 f3 f4 f5
    refine ⟨_, rfl, go_of (s := { s with heap := h', toks := tk }) (n := "range_iterator") st' rfl rfl (by decide) ⟨.int (lo + i), H, I1, ⟨t, ?_⟩, ⟨rfl, rfl⟩, st', fun b hb => (hf b hb).1⟩⟩
    rw [Int.mul_one]
  done := by
    intro X hP hw hK hc i pins s σ H E I hf st hg
    subst hP hw hK
    obtain ⟨f0, f1, f2, f3, f4, f5⟩ := hf it (by simp)
    exact wpAny_pyNext_range_end (I.ok.hd hc) st (by have : n ≤ i := hg; omega) fun h' eb => ⟨rfl, I.turned (t' := s.toks) (fun b o hb e => eb b o hb e) f0 f1 f3 f4 f5⟩
  self := fun _ _ _ _ _ st h => wpAny_pyIter_rangeiter st h
end L2
namespace L2
open PySem PySem.Spec PyProof.Rows
section
variable {X : Cx} {tg : Expr}
theorem range_it {pins : List (Addr × Obj)} {σ : St} {H : Hp} {s : Shared} {R : It → Hp → Prop} {E : Value → Shared → Prop} {lo hi : Int} {t u v : Tok} {tk : Nat} (I : Inv X pins σ H s) (h1 : -(2 ^ 62) ≤ lo) (h2 : lo < 2 ^ 62) (h3 : -(2 ^ 62) ≤ hi) (h4 : hi < 2 ^ 62)
    (q : R (Itr lo (hi - lo).toNat) H) : wpAny (model X.prog X.w) X.A (pyIter (.ref s.heap.objs.size)) (PIE X pins σ tg R) E { s with heap := s.heap.push { cls := .type "range", data := .fields #[.int lo t, .int hi u, .int 1 v] }, toks := tk } := by
  refine wpAny_pyIter_range (IsRange.new ..) (small_one h1 h2 h3 h4) ?_
  have I1 : Inv X pins σ H { s with heap := s.heap.push { cls := .type "range", data := .fields #[.int lo t, .int hi u, .int 1 v] }, toks := tk } := I.kept fun b o e => Heap.get?_push_of_some _ e
  refine ⟨(s.heap.push { cls := .type "range", data := .fields #[.int lo t, .int hi u, .int 1 v] }).objs.size, [(s.heap.push { cls := .type "range", data := .fields #[.int lo t, .int hi u, .int 1 v] }).objs.size], _, _, H, rfl,
    I1.kept (t' := tk) fun b o e => Heap.get?_push_of_some _ e, turn_range _ lo (hi - lo).toNat, ?_, fun b hb => ?_, q⟩
  · have e1 : lo + ((0 : Nat) : Int) * 1 = lo := by simp
    have e2 : (((hi - lo).toNat : Nat) : Int) - ((0 : Nat) : Int) = Builtin.Range.rangeSize lo hi 1 := by rw [rangeSize_one]; split <;> omega
    show IsRangeIter _ _ (lo + ((0 : Nat) : Int) * 1) ((((hi - lo).toNat : Nat) : Int) - ((0 : Nat) : Int)) 1
    rw [e1, e2]
    exact Heap.get?_push_size _ rfl
  · have e : b = (s.heap.push { cls := .type "range", data := .fields #[.int lo t, .int hi u, .int 1 v] }).objs.size := by simpa using hb
    subst e
    exact I1.fpOk (Nat.le_refl _) (I1.hok.fresh (Nat.le_refl _))
noncomputable def iRng1 (ta : TA) : TI := fun σ H R => ta σ H fun vs H1 => ∃ j : Int, vs = [.int j] ∧ -(2 ^ 62) ≤ j ∧ j < 2 ^ 62 ∧ R (Itr 0 j.toNat) H1
theorem pi_range1 {a : Expr} {ta : TA} {p pos : Pos} (hg : Gl X "range") (hm : X.mg "range" = none) (ha : PA X [a] ta) (hs : starEach [a] X.env = [(false, eval a X.env)] := by rfl) : PI X tg (.Call (.Name "range" p) [a] [] pos) (iRng1 ta) := by
  intro pins s σ H R I h
  refine Call_ (ld_blt I hg hm boot_range (PyProof.Rows.callWith_type1 (thn (ha pos pins s σ H _ I h) fun us s1 ⟨vs, H1, I1, r1, q1⟩ => ?_) hs rfl))
  obtain ⟨j, e, q1, q2, q⟩ := q1
  subst e
  cases r1 with
  | cons r rr =>
    cases rr
    obtain ⟨t, rfl⟩ := r
    exact call_range_1 (range_it I1 (by omega) (by omega) q1 q2 (by simpa using q))
noncomputable def tFor (wi : TI) (g : TG) (tb : TS) : TS := fun D σ H => wi σ H fun J H1 => ∃ W : Nat → Nat → St → Hp → Prop, (∃ m, W 0 m σ H1) ∧ ∀ i m σ H, W i m σ H →
  (J.stop i H ∧ D.nx σ H) ∨ (J.go i H ∧ ∃ N : St → Hp → Prop, (∀ σ' H', N σ' H' → ∃ m', m' < m ∧ W (i + 1) m' σ' H') ∧ ∀ x H', J.yld i H x H' → g x σ H' fun σ2 H2 => tb { D with nx := N, ct := N, bk := D.nx } σ2 H2)
noncomputable def pinsAt (fp : List Addr) (h : Heap) : List (Addr × Obj) := fp.filterMap fun b => (h.get? b).map fun o => (b, o)
theorem mem_pinsAt {fp : List Addr} {h : Heap} {b : Addr} {o : Obj} (hb : b ∈ fp) (e : h.get? b = some o) : (b, o) ∈ pinsAt fp h := List.mem_filterMap.mpr ⟨b, hb, by rw [e]; rfl⟩
theorem of_pinsAt {fp : List Addr} {h : Heap} {p : Addr × Obj} (hp : p ∈ pinsAt fp h) : p.1 ∈ fp ∧ h.get? p.1 = some p.2 := by
  obtain ⟨b, hb, e⟩ := List.mem_filterMap.mp hp
  cases q : h.get? b with
  | none => rw [q] at e; cases e
  | some o =>
    rw [q] at e
    have e' : (b, o) = p := Option.some.inj e
    subst e'
    exact ⟨hb, q⟩
theorem Inv.pinned {pins : List (Addr × Obj)} {σ : St} {H : Hp} {s : Shared} {fp : List Addr} (I : Inv X pins σ H s) (hf : ∀ b ∈ fp, FpOk X pins H b) (ho : ∀ b ∈ fp, ∃ o, s.heap.get? b = some o ∧ ∀ v, o.data ≠ .cell v) : Inv X (pins ++ pinsAt fp s.heap) σ H s :=
  I.pins_of fun p hp => (List.mem_append.mp hp).elim (fun z => I.pin p (List.mem_append_right _ z)) fun z => by
    obtain ⟨hb, e⟩ := of_pinsAt z
    obtain ⟨f0, f1, f2, _⟩ := hf p.1 hb
    obtain ⟨o, e', d⟩ := ho p.1 hb
    rw [e] at e'; cases e'
    exact ⟨e, f0, f1, f2, d⟩
theorem Inv.unpinned {pins pl : List (Addr × Obj)} {σ : St} {H : Hp} {s : Shared} (I : Inv X (pins ++ pl) σ H s) : Inv X pins σ H s := I.pins_of fun p hp => I.pin p (List.mem_append_right _ (List.mem_append_left _ hp))
theorem ps_for {iter : Expr} {body : List Stmt} {wi : TI} {g : TG} {tb : TS} {pos : Pos} (hp : PassesOwn (model X.prog X.w) X.A X.env X.xe) (hc : X.calm = true) (hi : PI X tg iter wi) (hg : PG X tg g) (hb : PSs X body tb)
    (hs : ∀ x, foldedSetIterable iter X.env x = pure x := by intro _; rfl) : PS X (.For tg iter body [] pos) (tFor wi g tb) := by
  intro pins s σ H D I h
  refine wpAny_For (thn (hi pins s σ H _ I h) fun v s1 h1 => thn h1 fun itv s2 h2 => ?_) hs
  obtain ⟨it, fp, tn, J, H2, e, I2, T, st2, f2, W, ⟨m0, w0⟩, turn⟩ := h2
  subst e
  have stat : ∀ {H' : Hp}, (∀ b ∈ fp, H' b = none) → ∀ b ∈ fp, FpOk X pins H' b := fun hn b hb => ⟨hn b hb, (f2 b hb).2⟩
  refine codeAny_forLoop_any (fun n s' => ∃ i σ' H', Inv X pins σ' H' s' ∧ tn i s'.heap ∧ (∀ b ∈ fp, H' b = none) ∧ W i n σ' H') ?_ m0 ⟨0, σ, H2, I2, st2, fun b hb => (f2 b hb).1, w0⟩
  rintro n s3 ⟨i, σ3, H3, I3, st3, fr3, w3⟩
  rcases turn i n σ3 H3 w3 with ⟨stop, qn⟩ | ⟨go, N, hN, step⟩
  · refine wpAny_passesOwn hp (thn (T.done X rfl rfl rfl hc i pins s3 σ3 H3 X.xe I3 (stat fr3) st3 stop) fun r s4 ⟨hr, I4⟩ => ?_)
    subst hr
    exact wpAny_execs_nil ⟨σ3, H3, I4, qn⟩
  · refine wpAny_passesOwn hp (thn (T.item X rfl rfl rfl hc i pins s3 σ3 H3 X.xe I3 (stat fr3) st3 go) fun r s4 ⟨u, hr, h4⟩ => ?_)
    subst hr
    refine wpAny_passesOwn hp (thn h4 fun _ s5 ⟨x, H5, I5, r5, y5, st5, fr5⟩ => ?_)
    have I5' := I5.pinned (stat fr5) (T.obj _ _ st5)
    refine wpAny_passesOwn hp (thn (hg _ s5 σ3 H5 x u _ I5' r5 (step x H5 y5)) fun _ s6 ⟨σ6, H6, I6, q6⟩ => ?_)
    refine wpAny_passesOwn hp (thn (hb _ s6 σ6 H6 _ I6 q6) fun f s7 q7 => ?_)
    have again : ∀ {σ7 : St} {H7 : Hp}, Inv X (pins ++ pinsAt fp s5.heap) σ7 H7 s7 → N σ7 H7 → ∃ m, m < n ∧ ∃ i σ' H', Inv X pins σ' H' s7 ∧ tn i s7.heap ∧ (∀ b ∈ fp, H' b = none) ∧ W i m σ' H' := fun {σ7 H7} I7 n7 => by
      obtain ⟨m', hm, w7⟩ := hN σ7 H7 n7
      refine ⟨m', hm, i + 1, σ7, H7, I7.unpinned, T.keep _ _ _ st5 fun b hb o e => (I7.pin (b, o) (List.mem_append_right _ (List.mem_append_right _ (mem_pinsAt hb e)))).1, fun b hb => ?_, w7⟩
      obtain ⟨o, e, d⟩ := T.obj _ _ st5 b hb
      exact (I7.pin (b, o) (List.mem_append_right _ (List.mem_append_right _ (mem_pinsAt hb e)))).2.1
    cases f with
    | next => obtain ⟨σ7, H7, I7, n7⟩ := q7; exact again I7 n7
    | cont => obtain ⟨σ7, H7, I7, n7⟩ := q7; exact again I7 n7
    | brk => obtain ⟨σ7, H7, I7, q7⟩ := q7; exact ⟨σ7, H7, I7.unpinned, q7⟩
    | ret v => obtain ⟨x7, σ7, H7, I7, r7, q7⟩ := q7; exact ⟨x7, σ7, H7, I7.unpinned, r7, q7⟩
end
end L2
namespace L2
open PySem PySem.Spec PyProof.Rows
noncomputable abbrev R2 := V → V → Hp → VK → Prop
noncomputable def OpR (X : Cx) (f : Value → Value → Sem Value) (r : R2) : Prop :=
  ∀ (pins : List (Addr × Obj)) (s : Shared) (σ : St) (H : Hp) (x y : V) (v u : Value) (Q : VK), Inv X pins σ H s → RelV x v → RelV y u → r x y H Q →
    wpAny (model X.prog X.w) X.A (f v u) (EP X pins σ Q) X.xe s
noncomputable def CallR (X : Cx) (f : Value) (r : List V → Hp → VK → Prop) : Prop :=
  ∀ (pins : List (Addr × Obj)) (s : Shared) (σ : St) (H : Hp) (xs : List V) (us : List Value) (Q : VK), Inv X pins σ H s → Vals xs us → r xs H Q →
    wpAny (model X.prog X.w) X.A (call f us) (EP X pins σ Q) X.xe s
noncomputable def TruR (X : Cx) (r : V → Hp → (Bool → Hp → Prop) → Prop) : Prop :=
  ∀ (pins : List (Addr × Obj)) (s : Shared) (σ : St) (H : Hp) (x : V) (v : Value) (Q : Bool → Hp → Prop), Inv X pins σ H s → RelV x v → r x H Q →
    wpAny (model X.prog X.w) X.A (truthy v) (TP X pins σ Q) X.xe s
noncomputable abbrev tOp (r : R2) (ta tb : TE) : TE := fun σ H Q => ta σ H fun x H1 => tb σ H1 fun y H2 => r x y H2 Q
noncomputable def rI (C : Int → Int → Prop) (g : Int → Int → V) : R2 := fun x y H Q => ∃ i j, x = .int i ∧ y = .int j ∧ C i j ∧ Q (g i j) H
noncomputable def rI0 (g : Int → Int → V) : R2 := fun x y H Q => ∃ i j, x = .int i ∧ y = .int j ∧ Q (g i j) H
section
variable {X : Cx} {a b c : Expr} {ta tb tc : TE} {pos : Pos}
theorem binT (ha : PE X a ta) (hb : PE X b tb) {pins : List (Addr × Obj)} {s : Shared} {σ : St} {H : Hp} {R : V → V → Hp → Prop} (I : Inv X pins σ H s)
    (h : ta σ H fun x H1 => tb σ H1 fun y H2 => R x y H2) {Q : Value → Shared → Prop} {f : Value → Value → Sem Value}
    (hf : ∀ v u s2 x y H2, Inv X pins σ H2 s2 → RelV x v → RelV y u → R x y H2 → wpAny (model X.prog X.w) X.A (f v u) Q X.xe s2) :
    wpAny (model X.prog X.w) X.A (eval a X.env) (fun v s₁ => wpAny (model X.prog X.w) X.A (eval b X.env) (fun u s₂ => wpAny (model X.prog X.w) X.A (f v u) Q X.xe s₂) X.xe s₁) X.xe s := by
  refine thn (ha pins s σ H _ I h) fun v s1 ⟨x, H1, I1, r1, q1⟩ => ?_
  refine thn (hb pins s1 σ H1 _ I1 q1) fun u s2 ⟨y, H2, I2, r2, q2⟩ => ?_
  exact hf v u s2 x y H2 I2 r1 r2 q2
theorem pe_op {op : Operator} {r : R2} (ho : OpR X (binaryOp op) r) (ha : PE X a ta) (hb : PE X b tb) : PE X (.BinOp a op b pos) (tOp r ta tb) := by
  intro pins s σ H Q I h
  exact wpAny_BinOp (binT ha hb I h fun v u s2 x y H2 I2 rx ry q => ho pins s2 σ H2 x y v u Q I2 rx ry q)
theorem opI {f : Value → Value → Sem Value} {C : Int → Int → Prop} {g : Int → Int → Int}
    (rule : ∀ (i j : Int) (t u : Tok) (s : Shared) (Q : Value → Shared → Prop) (E : Value → Shared → Prop), C i j → Q (.int (g i j) s.toks) { s with toks := s.toks + 1 } → wpAny (model X.prog X.w) X.A (f (.int i t) (.int j u)) Q E s) :
    OpR X f (rI C fun i j => .int (g i j)) := by
  intro pins s σ H x y v u Q I rx ry h
  obtain ⟨i, j, rfl, rfl, hc, q⟩ := h
  obtain ⟨t, rfl⟩ := rx
  obtain ⟨t', rfl⟩ := ry
  exact rule i j t t' s _ _ hc ⟨.int (g i j), H, I.tok _, ⟨_, rfl⟩, q⟩
theorem opI0 {f : Value → Value → Sem Value} {g : Int → Int → Int}
    (rule : ∀ (i j : Int) (t u : Tok) (s : Shared) (Q : Value → Shared → Prop) (E : Value → Shared → Prop), Q (.int (g i j) s.toks) { s with toks := s.toks + 1 } → wpAny (model X.prog X.w) X.A (f (.int i t) (.int j u)) Q E s) :
    OpR X f (rI0 fun i j => .int (g i j)) := by
  intro pins s σ H x y v u Q I rx ry h
  obtain ⟨i, j, rfl, rfl, q⟩ := h
  obtain ⟨t, rfl⟩ := rx
  obtain ⟨t', rfl⟩ := ry
  exact rule i j t t' s _ _ ⟨.int (g i j), H, I.tok _, ⟨_, rfl⟩, q⟩
theorem opB0 {f : Value → Value → Sem Value} {g : Int → Int → Bool}
    (rule : ∀ (i j : Int) (t u : Tok) (s : Shared) (Q : Value → Shared → Prop) (E : Value → Shared → Prop), Q (.bool (g i j)) s → wpAny (model X.prog X.w) X.A (f (.int i t) (.int j u)) Q E s) :
    OpR X f (rI0 fun i j => .bl (g i j)) := by
  intro pins s σ H x y v u Q I rx ry h
  obtain ⟨i, j, rfl, rfl, q⟩ := h
  obtain ⟨t, rfl⟩ := rx
  obtain ⟨t', rfl⟩ := ry
  exact rule i j t t' s _ _ ⟨.bl (g i j), H, I, rfl, q⟩
noncomputable def CDiv (i j : Int) : Prop := 0 < j ∧ j < 1073741824
noncomputable def CPow (i j : Int) : Prop := 0 ≤ j ∧ j ≤ 1000000 ∧ i.natAbs < 2 ^ 64
noncomputable def CMul (i j : Int) : Prop := (-(2 ^ 64) < i ∧ i < 2 ^ 64) ∨ (-(2 ^ 64) < j ∧ j < 2 ^ 64)
theorem CMul.ok {i j : Int} (h : CMul i j) : IntMulOk i j := by
  rcases h with ⟨h1, h2⟩ | ⟨h1, h2⟩
  · exact .of_left (intBits_le_64 h1 h2)
  · exact .of_right (intBits_le_64 h1 h2)
theorem op_add : OpR X (binaryOp .Add) (rI0 fun i j => .int (i + j)) := opI0 fun _ _ _ _ _ _ _ q => add_int q
theorem op_sub : OpR X (binaryOp .Sub) (rI0 fun i j => .int (i - j)) := opI0 fun _ _ _ _ _ _ _ q => sub_int q
theorem op_mul : OpR X (binaryOp .Mult) (rI CMul fun i j => .int (i * j)) := opI fun _ _ _ _ _ _ _ hc q => mul_int q hc.ok
theorem op_fdiv : OpR X (binaryOp .FloorDiv) (rI CDiv fun i j => .int (i / j)) := opI fun i j _ _ _ _ _ hc q => by
  have h1 : (0 : Int) < j := hc.1
  have h2 : j < 1073741824 := hc.2
  exact floordiv_int (by omega) (by rw [Int.fdiv_eq_ediv_of_nonneg i (by omega)]; exact q) (.inl (PyProof.noPylong_small (by omega)))
theorem op_mod : OpR X (binaryOp .Mod) (rI (fun _ j => 0 < j) fun i j => .int (i % j)) := opI fun i j _ _ _ _ _ hc q => by
  have h1 : (0 : Int) < j := hc
  exact mod_int' (by omega) (by rw [Int.fmod_eq_emod_of_nonneg i (by omega)]; exact q)
theorem op_pow : OpR X (binaryOp .Pow) (rI CPow fun i j => .int (i ^ j.toNat)) := opI fun _ _ _ _ _ _ _ hc q => pow_int_small hc.1 hc.2.1 hc.2.2 q
end
noncomputable def scal : V → V → Bool
  | .non, .non => true | .non, .int _ => true | .int _, .non => true | .non, .bl _ => true | .bl _, .non => true | .non, .str _ => true | .str _, .non => true
  | .int _, .int _ => true | .bl _, .bl _ => true | .str _, .str _ => true | .byt _, .byt _ => true
  | .int _, .str _ => true | .str _, .int _ => true | .bl _, .str _ => true | .str _, .bl _ => true
  | _, _ => false
noncomputable def rEq : R2 := fun x y H Q => scal x y = true ∧ Q (.bl (decide (x = y))) H
noncomputable def rNe : R2 := fun x y H Q => scal x y = true ∧ Q (.bl (!decide (x = y))) H
theorem dec_int {i j : Int} : decide (V.int i = V.int j) = (i == j) := by
  rw [Bool.eq_iff_iff]
  simp
theorem dec_bl {i j : Bool} : decide (V.bl i = V.bl j) = (i == j) := by
  rw [Bool.eq_iff_iff]
  simp
theorem dec_str {i j : Str} : decide (V.str i = V.str j) = (i == j) := by
  rw [Bool.eq_iff_iff]
  simp
theorem dec_byt {i j : Array UInt8} : decide (V.byt i = V.byt j) = (i.toList == j.toList) := by
  rw [Bool.eq_iff_iff]
  cases i
  cases j
  simp
section
variable {X : Cx} {a b c : Expr} {ta tb tc : TE} {pos : Pos}
theorem fin_bl {pins : List (Addr × Obj)} {σ : St} {H : Hp} {s : Shared} {Q : VK} {k k' : Bool} (I : Inv X pins σ H s) (q : Q (.bl k) H) (e : k = k') : EP X pins σ Q (.bool k') s := by
  subst e
  exact ⟨.bl k, H, I, rfl, q⟩
theorem op_eq : OpR X (compareOp .Eq) rEq := by
  intro pins s σ H x y v u Q I rx ry h
  obtain ⟨hs, q⟩ := h
  cases x with
  | non =>
    cases rx
    cases y with
    | non => cases ry; exact PySem.EqNone.eq_none_none (fin_bl I q (by simp))
    | bl j => cases ry; exact PySem.EqNone.eq_none_bool (fin_bl I q (by simp))
    | int j => obtain ⟨t', rfl⟩ := ry; exact PySem.EqNone.eq_none_int (fin_bl I q (by simp))
    | str j => obtain ⟨t', rfl⟩ := ry; exact PySem.EqNone.eq_none_str (fin_bl I q (by simp))
    | _ => exact absurd (show false = true from hs) Bool.false_ne_true
  | bl i =>
    cases rx
    cases y with
    | non => cases ry; exact PySem.EqNone.eq_bool_none (fin_bl I q (by simp))
    | bl j => cases ry; exact eq_bool (fin_bl I q dec_bl)
    | str j => obtain ⟨t', rfl⟩ := ry; exact PySem.EqMixed.eq_bool_str (fin_bl I q (by simp))
    | _ => exact absurd (show false = true from hs) Bool.false_ne_true
  | int i =>
    obtain ⟨t, rfl⟩ := rx
    cases y with
    | non => cases ry; exact PySem.EqNone.eq_int_none (fin_bl I q (by simp))
    | int j => obtain ⟨t', rfl⟩ := ry; exact eq_int (fin_bl I q dec_int)
    | str j => obtain ⟨t', rfl⟩ := ry; exact PySem.EqMixed.eq_int_str (fin_bl I q (by simp))
    | _ => exact absurd (show false = true from hs) Bool.false_ne_true
  | str i =>
    obtain ⟨t, rfl⟩ := rx
    cases y with
    | non => cases ry; exact PySem.EqNone.eq_str_none (fin_bl I q (by simp))
    | bl j => cases ry; exact PySem.EqMixed.eq_str_bool (fin_bl I q (by simp))
    | int j => obtain ⟨t', rfl⟩ := ry; exact PySem.EqMixed.eq_str_int (fin_bl I q (by simp))
    | str j => obtain ⟨t', rfl⟩ := ry; exact eq_str (fin_bl I q dec_str)
    | _ => exact absurd (show false = true from hs) Bool.false_ne_true
  | byt i =>
    obtain ⟨t, rfl⟩ := rx
    cases y with
    | byt j => obtain ⟨t', rfl⟩ := ry; exact PySem.W.eq_bytes (fin_bl I q dec_byt)
    | _ => exact absurd (show false = true from hs) Bool.false_ne_true
  | _ => cases y <;> exact absurd (show false = true from hs) Bool.false_ne_true
theorem op_ne : OpR X (compareOp .NotEq) rNe := by
  intro pins s σ H x y v u Q I rx ry h
  obtain ⟨hs, q⟩ := h
  cases x with
  | non =>
    cases rx
    cases y with
    | non => cases ry; exact PySem.EqNone.ne_none_none (fin_bl I q (by simp))
    | bl j => cases ry; exact PySem.EqNone.ne_none_bool (fin_bl I q (by simp))
    | int j => obtain ⟨t', rfl⟩ := ry; exact PySem.EqNone.ne_none_int (fin_bl I q (by simp))
    | str j => obtain ⟨t', rfl⟩ := ry; exact PySem.EqNone.ne_none_str (fin_bl I q (by simp))
    | _ => exact absurd (show false = true from hs) Bool.false_ne_true
  | bl i =>
    cases rx
    cases y with
    | non => cases ry; exact PySem.EqNone.ne_bool_none (fin_bl I q (by simp))
    | bl j => cases ry; exact ne_bool (fin_bl I q (congrArg not dec_bl))
    | str j => obtain ⟨t', rfl⟩ := ry; exact PySem.EqMixed.ne_bool_str (fin_bl I q (by simp))
    | _ => exact absurd (show false = true from hs) Bool.false_ne_true
  | int i =>
    obtain ⟨t, rfl⟩ := rx
    cases y with
    | non => cases ry; exact PySem.EqNone.ne_int_none (fin_bl I q (by simp))
    | int j => obtain ⟨t', rfl⟩ := ry; exact ne_int (fin_bl I q (congrArg not dec_int))
    | str j => obtain ⟨t', rfl⟩ := ry; exact PySem.EqMixed.ne_int_str (fin_bl I q (by simp))
    | _ => exact absurd (show false = true from hs) Bool.false_ne_true
  | str i =>
    obtain ⟨t, rfl⟩ := rx
    cases y with
    | non => cases ry; exact PySem.EqNone.ne_str_none (fin_bl I q (by simp))
    | bl j => cases ry; exact PySem.EqMixed.ne_str_bool (fin_bl I q (by simp))
    | int j => obtain ⟨t', rfl⟩ := ry; exact PySem.EqMixed.ne_str_int (fin_bl I q (by simp))
    | str j => obtain ⟨t', rfl⟩ := ry; exact ne_str (fin_bl I q (congrArg not dec_str))
    | _ => exact absurd (show false = true from hs) Bool.false_ne_true
  | byt i =>
    obtain ⟨t, rfl⟩ := rx
    cases y with
    | byt j => obtain ⟨t', rfl⟩ := ry; exact PySem.W.ne_bytes (fin_bl I q (congrArg not dec_byt))
    | _ => exact absurd (show false = true from hs) Bool.false_ne_true
  | _ => cases y <;> exact absurd (show false = true from hs) Bool.false_ne_true
theorem op_lt : OpR X (compareOp .Lt) (rI0 fun i j => .bl (decide (i < j))) := opB0 fun _ _ _ _ _ _ _ q => lt_int q
theorem op_le : OpR X (compareOp .LtE) (rI0 fun i j => .bl (decide (i ≤ j))) := opB0 fun _ _ _ _ _ _ _ q => le_int q
theorem op_gt : OpR X (compareOp .Gt) (rI0 fun i j => .bl (decide (j < i))) := opB0 fun _ _ _ _ _ _ _ q => gt_int q
theorem op_in_str : OpR X (compareOp .In) (fun x y H Q => ∃ i j, x = .str i ∧ y = .str j ∧ Q (.bl (!(Builtin.Str.occurrences j i 0 j.length 1).isEmpty)) H) := by
  intro pins s σ H x y v u Q I rx ry h
  obtain ⟨i, j, rfl, rfl, q⟩ := h
  obtain ⟨t, rfl⟩ := rx
  obtain ⟨t', rfl⟩ := ry
  exact in_str (fin_bl I q rfl)
theorem nomark (b : Expr) {op : CmpOp} (h : op ≠ .In := by decide) (h2 : op ≠ .NotIn := by decide) : behindInMarks op b = false := by
  have e1 : (op == CmpOp.In) = false := by cases op <;> first | rfl | exact absurd rfl h
  have e2 : (op == CmpOp.NotIn) = false := by cases op <;> first | rfl | exact absurd rfl h2
  cases b <;> simp [behindInMarks, e1, e2]
theorem pe_cmpR {op : CmpOp} {r : R2} (ho : OpR X (compareOp op) r) (ha : PE X a ta) (hb : PE X b tb) (hm : behindInMarks op b = false) : PE X (.Compare a [op] [b] pos) (tOp r ta tb) := by
  intro pins s σ H Q I h
  exact wpAny_Compare1 (binT ha hb I h fun v u s2 x y H2 I2 rx ry q => ho pins s2 σ H2 x y v u Q I2 rx ry q) hm
noncomputable abbrev tTest (t : TE) : TT := fun σ H Q => t σ H fun x H' => ∃ k, x = .bl k ∧ Q k H'
theorem pt_cmpR {op : CmpOp} {r : R2} (ho : OpR X (compareOp op) r) (ha : PE X a ta) (hb : PE X b tb) (hm : behindInMarks op b = false) : PT X (.Compare a [op] [b] pos) (tTest (tOp r ta tb)) := by
  intro pins s σ H Q I h
  refine wpAny_isTrue_Compare1 (thn (ha pins s σ H _ I h) fun v s1 ⟨x, H1, I1, r1, q1⟩ => thn (hb pins s1 σ H1 _ I1 q1) fun u s2 ⟨y, H2, I2, r2, q2⟩ =>
    thn (ho pins s2 σ H2 x y v u _ I2 r1 r2 q2) fun c s3 ⟨z, H3, I3, r3, k, e, q3⟩ => ?_) hm
  subst e
  cases r3
  exact wpAny_truthy_bool ⟨H3, I3, q3⟩
noncomputable def TruV (K : PySem.W.Frag) (x : V) (H : Hp) (k : Bool) : Prop :=
  match x with
  | .non => k = false
  | .bl b => k = b
  | .int i => k = (i != 0)
  | .str y => y.length ≤ sizeLine ∧ k = ((y.length : Int) != 0)
  | .byt y => y.size ≤ sizeLine ∧ k = ((y.size : Int) != 0)
  | .ref p => (∃ xs, SqL K H p xs ∧ k = !xs.isEmpty) ∨ (∃ xs, SqT K H p xs ∧ k = !xs.isEmpty) ∨ ∃ kvs, H p = some (.dK kvs) ∧ k = !kvs.isEmpty
  | _ => False
theorem isEmpty_kv {κ : Type} {kvs : List (κ × V)} {vs : List (κ × Value)} (r : KV kvs vs) : (!vs.isEmpty) = !kvs.isEmpty := by
  cases r <;> rfl
theorem isEmpty_of {xs : List V} {its : List Value} (r : Vals xs its) : (!its.toArray.isEmpty) = !xs.isEmpty := by
  cases r <;> simp
theorem line63 : (sizeLine : Nat) < 2 ^ 63 := by rw [sizeLine_eq]; decide
theorem tru_ok : TruR X (fun x H Q => ∃ k, TruV X.K x H k ∧ Q k H) := by
  intro pins s σ H x v Q I rx h
  obtain ⟨k, e, q⟩ := h
  have hl := line63
  have hs : sizeLine = 16777216 := sizeLine_eq
  cases x with
  | non =>
    cases rx
    have e' : k = false := e
    subst e'
    exact truthy_none ⟨H, I, q⟩
  | bl b =>
    cases rx
    have e' : k = b := e
    subst e'
    exact wpAny_truthy_bool ⟨H, I, q⟩
  | int i =>
    obtain ⟨t, rfl⟩ := rx
    have e' : k = (i != 0) := e
    subst e'
    exact PySem.P.truthy_int ⟨H, I, q⟩
  | str y =>
    obtain ⟨t, rfl⟩ := rx
    obtain ⟨hy, e'⟩ : y.length ≤ sizeLine ∧ k = ((y.length : Int) != 0) := e
    subst e'
    exact PySem.P.truthy_str (by omega) ⟨H, I.tok _, q⟩
  | byt y =>
    obtain ⟨t, rfl⟩ := rx
    obtain ⟨hy, e'⟩ : y.size ≤ sizeLine ∧ k = ((y.size : Int) != 0) := e
    subst e'
    exact PySem.W.truthy_bytes (by omega) ⟨H, I.tok _, q⟩
  | ref p =>
    cases rx
    have e' : (∃ xs, SqL X.K H p xs ∧ k = !xs.isEmpty) ∨ (∃ xs, SqT X.K H p xs ∧ k = !xs.isEmpty) ∨ ∃ kvs, H p = some (.dK kvs) ∧ k = !kvs.isEmpty := e
    rcases e' with ⟨xs, hx, e'⟩ | ⟨xs, hx, e'⟩ | ⟨kvs, hx, e'⟩
    · subst e'
      obtain ⟨its, r, pl, hz⟩ := I.list hx
      have hlen := r.length
      exact wpAny_truthy_list pl.isList (by simp only [List.size_toArray]; omega) ⟨H, I.tok _, by rw [isEmpty_of r]; exact q⟩
    · subst e'
      obtain ⟨its, r, pl, hz⟩ := I.tuple hx
      have hlen := r.length
      exact truthy_tuple pl (by simp only [List.size_toArray]; omega) ⟨H, I.tok _, by rw [isEmpty_of r]; exact q⟩
    · subst e'
      obtain ⟨hz, hS, vs, r, m⟩ : kvs.length ≤ sizeLine ∧ (p == sysModules) = false ∧ ∃ vs, KV kvs vs ∧ s.heap.DictOf (mixKind X.prog X.w) p vs := I.hok p _ hx
      have hlen : kvs.length = vs.length := Paired.length r
      exact wpAny_truthy_dict hS m (by omega) ⟨H, I.tok _, by rw [isEmpty_kv r]; exact q⟩
  | _ => exact (show False from e).elim
theorem pt_truth (ha : PE X a ta) (he : ∀ whole, isTrue a X.env whole = (do let v ← whole; standAt a.pos; holding [v] (truthy v))) :
    PT X a (fun σ H Q => ta σ H fun x H' => ∃ k, TruV X.K x H' k ∧ Q k H') := by
  intro pins s σ H Q I h
  exact isTrue_plain (thn (ha pins s σ H _ I h) fun v s1 ⟨x, H1, I1, r1, q1⟩ => tru_ok pins s1 σ H1 x v Q I1 r1 q1) (he _)
theorem op_add_str : OpR X (binaryOp .Add) (fun x y H Q => ∃ i j, x = .str i ∧ y = .str j ∧ i.length + j.length ≤ sizeLine ∧ Q (.str (i ++ j)) H) := by
  intro pins s σ H x y v u Q I rx ry h
  obtain ⟨i, j, rfl, rfl, hz, q⟩ := h
  obtain ⟨t, rfl⟩ := rx
  obtain ⟨t', rfl⟩ := ry
  exact add_str (fun t' tk => ⟨.str (i ++ j), H, I.tok _, ⟨_, rfl⟩, q⟩) hz
theorem vals1 {x : V} {us : List Value} (r : Vals [x] us) : ∃ u, us = [u] ∧ RelV x u := by
  cases r with
  | cons r1 r2 => cases r2; exact ⟨_, rfl, r1⟩
theorem vals2 {x y : V} {us : List Value} (r : Vals [x, y] us) : ∃ u w', us = [u, w'] ∧ RelV x u ∧ RelV y w' := by
  cases r with
  | cons r1 r2 =>
    cases r2 with
    | cons r3 r4 => cases r4; exact ⟨_, _, rfl, r1, r3⟩
end
end L2
namespace L2
open PySem PySem.Spec PyProof.Rows
section
variable {prog : Program} {w : World} {A : Around} {E : Value → Shared → Prop} {s : Shared} {K : PySem.W.Frag} {x dx C f : Addr} {mA : Str → Option Value} {name : Str} {v : Value}
end
section
variable {P : Program} {w : World} {H H' : Hp} {h h' : Heap} {a C dx : Addr} {fs fs' : List (Str × V)}
end
section
variable {X : Cx} {pins : List (Addr × Obj)} {σ : St} {H : Hp} {s : Shared} {a C dx : Addr} {fs : List (Str × V)} {f : Str} {v : V} {A : Around} {E : Value → Shared → Prop}
end
section
variable {X : Cx} {o e value : Expr} {f : Str} {pos pos' tpos : Pos} {ta tv : TE}
end
section
variable {X : Cx} {pins : List (Addr × Obj)} {σ : St} {H : Hp} {s : Shared} {A : Around} {E : Value → Shared → Prop} {Q : Value → Shared → Prop} {c : Value} {b : Bool}
end
end L2
namespace L2
open PySem PySem.Spec PyProof.Rows
structure Room (k : Nat) (A : Around) : Prop where
  hd : A.handled = none
  dp : A.depth + 3 * k + 5 < recursionLimit
  un : A.units + 16 * k + 200 < cLine
theorem Room.mono {j k : Nat} {A : Around} (r : Room k A) (h : j ≤ k) : Room j A := ⟨r.hd, by have := r.dp; omega, by have := r.un; omega⟩
theorem Room.deeper {k : Nat} {A : Around} (r : Room (k + 1) A) (env : Env) : Room k (A.deeper env) :=
  ⟨r.hd, by have := r.dp; show A.depth + 1 + 3 * k + 5 < _; omega, by have := r.un; show A.units + 3 + 16 * k + 200 < _; omega⟩
theorem Room.in1 {k : Nat} {A : Around} (r : Room (k + 1) A) : Room k A.in1 :=
  ⟨r.hd, by have := r.dp; show A.depth + 3 * k + 5 < _; omega, by have := r.un; show A.units + 1 + 16 * k + 200 < _; omega⟩
theorem Room.depth {k : Nat} {A : Around} (r : Room k A) : A.depth < recursionLimit := by have := r.dp; omega
theorem Room.units {k : Nat} {A : Around} (r : Room k A) : A.units + 64 < cLine := by have := r.un; omega
noncomputable abbrev tNil : TA := fun _ H Q => Q [] H
noncomputable abbrev tCons (ta : TE) (tr : TA) : TA := fun σ H Q => ta σ H fun x H1 => tr σ H1 fun xs H2 => Q (x :: xs) H2
section
variable {X : Cx} {e : Expr} {es : List Expr} {te : TE} {t : TA} {pos : Pos}
theorem pa_nil : PA X [] tNil := fun _ _ _ _ H Q I h => Calls.spliced_nil ⟨[], H, I, .nil, h⟩
theorem pa_cons (ha : PE X e te) (hr : PA X es t) (hs : starEach (e :: es) X.env = (false, eval e X.env) :: starEach es X.env := by rfl) : PA X (e :: es) (tCons te t) := by
  intro pos pins s σ H Q I h
  rw [hs]
  show wpAny _ _ (spliced ((false, eval e X.env) :: backTo pos (starEach es X.env))) _ _ s
  refine Calls.spliced_cons (thn (ha pins s σ H _ I h) fun u s1 ⟨x, H1, I1, r1, q1⟩ => ?_)
  exact thn (hr pos pins s1 σ H1 _ I1 q1) fun us s2 ⟨xs, H2, I2, r2, q2⟩ => ⟨x :: xs, H2, I2, .cons r1 r2, q2⟩
noncomputable abbrev tLst (t : TA) : TE := fun σ H Q => t σ H fun xs H1 => xs.length ≤ sizeLine ∧ ∀ p, H1 p = none → Q (.ref p) (upd H1 p (.lst xs))
theorem pe_lst (h : PA X es t) : PE X (.List es pos) (tLst t) := by
  intro pins s σ H Q I hq
  refine wpAny_List_spliced (thn (h pos pins s σ H _ I hq) fun us s1 ⟨xs, H1, I1, r, z, q⟩ => ⟨by rw [← r.length]; exact z, ?_⟩)
  have hf : H1 s1.heap.objs.size = none := I1.hok.fresh (Nat.le_refl _)
  refine ⟨.ref s1.heap.objs.size, upd H1 s1.heap.objs.size (.lst xs), I1.laid (t' := s1.toks) (fun b u e => Heap.get?_push_of_some _ e) (Nat.le_refl _) ?_, rfl, q _ hf⟩
  exact ⟨z, us, 0, r, Heap.get?_push_size _ rfl⟩
end
noncomputable abbrev Sp := List V → Hp → VK → XK → Prop
noncomputable abbrev CXT := List Env → Hp → Shared → XK → Value → Shared → Prop
structure Env0 (P : Program) (w : World) (K : PySem.W.Frag) (mg : Str → Option Value) (base : Heap) (A : Around) (outer : List Env) (s : Shared) (H : Hp) : Prop where
  frames : A.frames = some outer
  mod : Mod K mg base
  bs : ∀ b o, base.get? b = some o → s.heap.get? b = some o ∧ H b = none
  bsz : base.objs.size ≤ s.heap.objs.size
  funs : s.heap.FunFrames base outer
  frf : ∀ b ∈ frs outer, H b = none
  hok : HOk P w H s.heap
  bare : AllBare s.gens
noncomputable def CE (outer : List Env) (P : Program) (w : World) (H : Hp) (s : Shared) (Q : VK) (u : Value) (s' : Shared) : Prop :=
  ∃ v H', s'.os = s.os ∧ AllBare s'.gens ∧ Un (frs outer) [] H H' s.heap s'.heap ∧ HOk P w H' s'.heap ∧ RelV v u ∧ Q v H'
noncomputable def CR (CX : CXT) (outer : List Env) (P : Program) (w : World) (H : Hp) (s : Shared) (Q : VK) (E : XK) (r : Result) (s' : Shared) : Prop :=
  match r with
  | .ok (.ret u) => CE outer P w H s Q u s'
  | .ok _ => False
  | .error e => CX outer H s E e s'
structure FnOk (P : Program) (w : World) (K : PySem.W.Frag) (mg : Str → Option Value) (base : Heap) (CX : CXT) (k : Nat) (f : Addr) (fd : FuncData) (ps : List Str) (sp : Sp) : Prop where
  len : ∀ vs H Q E, sp vs H Q E → vs.length = ps.length
  run : ∀ (A : Around) (outer : List Env) (s : Shared) (H : Hp) (args : Args) (us : List Value) (vs : List V) (Q : VK) (E : XK), Room k A → Env0 P w K mg base A outer s H → BindsTo s fd args (ps.zip us) → Vals vs us → sp vs H Q E →
    codeAny (model P w) A (.call (.ref f) args) (CR CX outer P w H s Q E) s
theorem FnOk.mono {P : Program} {w : World} {K : PySem.W.Frag} {mg : Str → Option Value} {base : Heap} {CX : CXT} {j k : Nat} {f : Addr} {fd : FuncData} {ps : List Str} {sp : Sp} (F : FnOk P w K mg base CX j f fd ps sp) (h : j ≤ k) :
    FnOk P w K mg base CX k f fd ps sp := ⟨F.len, fun A outer s H args us vs Q E hr => F.run A outer s H args us vs Q E (hr.mono h)⟩
theorem FnOk.imp {P : Program} {w : World} {K : PySem.W.Frag} {mg : Str → Option Value} {base : Heap} {CX : CXT} {k : Nat} {f : Addr} {fd : FuncData} {ps : List Str} {sp sp' : Sp} (F : FnOk P w K mg base CX k f fd ps sp)
    (h : ∀ vs H Q E, sp' vs H Q E → sp vs H Q E) : FnOk P w K mg base CX k f fd ps sp' :=
  ⟨fun vs H Q E q => F.len vs H Q E (h _ _ _ _ q), fun A outer s H args us vs Q E hr he hb hv hs => F.run A outer s H args us vs Q E hr he hb hv (h _ _ _ _ hs)⟩
theorem Env0.in1 {P : Program} {w : World} {K : PySem.W.Frag} {mg : Str → Option Value} {base : Heap} {A : Around} {outer : List Env} {s : Shared} {H : Hp} (e : Env0 P w K mg base A outer s H) :
    Env0 P w K mg base A.in1 outer s H := ⟨e.frames, e.mod, e.bs, e.bsz, e.funs, e.frf, e.hok, e.bare⟩
section
variable {X : Cx} {pins : List (Addr × Obj)} {σ : St} {H : Hp} {s s' : Shared}
theorem Inv.env0 (I : Inv X pins σ H s) : Env0 X.prog X.w X.K X.mg X.base X.A X.stack s H :=
  ⟨I.ok.frames, I.ok.mod, I.bs, Nat.le_trans I.ok.bsz I.sz, I.stack, I.stkFree, I.hok, I.bare⟩
theorem Inv.after {Q : VK} {u : Value} (I : Inv X pins σ H s) (h : CE X.stack X.prog X.w H s Q u s') : EP X pins σ Q u s' := by
  obtain ⟨v, H', os, bare, un, hok, r, q⟩ := h
  obtain ⟨hh, g, d, t, os'⟩ := s'
  obtain rfl : os' = s.os := os
  exact ⟨v, H', I.call (h' := hh) (g' := g) (d' := d) (t' := t) (ch := []) un hok bare (fun b z => absurd z (by simp)), r, q⟩
end
noncomputable abbrev tCall (sp : Sp) (dvs : List V) (E : XK) (t : TA) : TE := fun σ H Q => t σ H fun vs H1 => sp (vs ++ dvs) H1 Q E
noncomputable def Binds (K : PySem.W.Frag) (fd : FuncData) (ps : List Str) (ds : List Value) : Prop :=
  ∀ (s : Shared) (us : List Value), K.In s.heap → (us ++ ds).length = ps.length → BindsTo s fd ⟨us, []⟩ (ps.zip (us ++ ds))
theorem Binds.all {K : PySem.W.Frag} {fd : FuncData} {ps : List Str} (h : ∀ us : List Value, us.length = ps.length → bindArgs fd ⟨us, []⟩ = pure (ps.zip us)) : Binds K fd ps [] := fun s us _ hl => by
  rw [List.append_nil] at hl ⊢
  exact .of_eq (h us hl)
noncomputable def Passes (CX : CXT) (X : Cx) (E : XK) : Prop := ∀ (pins : List (Addr × Obj)) (σ : St) (H : Hp) (s : Shared) (e : Value) (s' : Shared), Inv X pins σ H s → CX X.stack H s E e s' → X.xe e s'
section
variable {X : Cx} {CX : CXT} {k : Nat} {f C : Addr} {fd : FuncData} {ps : List Str} {sp : Sp} {dvs : List V} {ds : List Value} {E : XK} {x m : Str} {p pos apos : Pos} {e o : Expr} {es : List Expr} {ta : TE} {t : TA}
theorem run_fn {pins : List (Addr × Obj)} {σ : St} {H : Hp} {s : Shared} {Q : VK} {us : List Value} {vs : List V} (F : FnOk X.prog X.w X.K X.mg X.base CX k f fd ps sp) (hr : Room k X.A) (hb : Binds X.K fd ps ds) (hd : Vals dvs ds) (hx : Passes CX X E)
    (I : Inv X pins σ H s) (r : Vals vs us) (h : sp (vs ++ dvs) H Q E) : wpAny (model X.prog X.w) X.A (call (.ref f) us) (EP X pins σ Q) X.xe s := by
  have r2 : Vals (vs ++ dvs) (us ++ ds) := r.append hd
  have hl : (us ++ ds).length = ps.length := by rw [← r2.length]; exact F.len _ _ _ _ h
  refine wpAny_call (codeAny_mono (F.run X.A X.stack s H ⟨us, []⟩ (us ++ ds) (vs ++ dvs) Q E hr I.env0 (hb s us I.kIn hl) r2 h) fun r s' hq => ?_)
  cases r with
  | error e => exact hx pins σ H s e s' I hq
  | ok fl =>
    cases fl with
    | ret u => exact I.after hq
    | next => exact False.elim hq
    | brk => exact False.elim hq
    | cont => exact False.elim hq
theorem pe_call (F : FnOk X.prog X.w X.K X.mg X.base CX k f fd ps sp) (hr : Room k X.A) (hg : Gl X x) (hm : X.mg x = some (.ref f)) (hk : PySem.W.keepIn X.K (.ref f) = true) (hb : Binds X.K fd ps ds) (hd : Vals dvs ds) (hx : Passes CX X E)
    (ha : PA X (e :: es) t) (hdb : (x == ("__debug__" : Str)) = false := by decide) (he : starEach (e :: es) X.env = (false, eval e X.env) :: starEach es X.env := by rfl) (hpl : (backTo pos (starEach es X.env)).any (·.1) = false := by rfl) :
    PE X (.Call (.Name x p) (e :: es) [] pos) (tCall sp dvs E t) := by
  intro pins s σ H Q I h
  refine wpAny_Call_Name_kw (ld_glob I hg hm ?_ hdb)
  refine PySem.W.callWith_K (h₀ := X.base) I.ok.mod.kin hk (thn (ha pos pins s σ H _ I h) fun us s1 ⟨vs, H1, I1, r, q⟩ => ⟨I1.kIn, ?_⟩) he hpl
  exact run_fn F hr hb hd hx I1 r q
theorem pe_call0 (F : FnOk X.prog X.w X.K X.mg X.base CX k f fd ps sp) (hr : Room k X.A) (hg : Gl X x) (hm : X.mg x = some (.ref f)) (hk : PySem.W.keepIn X.K (.ref f) = true) (hb : Binds X.K fd ps ds) (hd : Vals dvs ds) (hx : Passes CX X E)
    (hdb : (x == ("__debug__" : Str)) = false := by decide) : PE X (.Call (.Name x p) [] [] pos) (tCall sp dvs E tNil) := by
  intro pins s σ H Q I h
  refine wpAny_Call_Name_kw (ld_glob I hg hm ?_ hdb)
  exact PySem.W.callWith_K0 I.kIn hk (run_fn (us := []) F hr hb hd hx I .nil h)
end
section
variable {X : Cx} {CX : CXT} {k : Nat} {f C : Addr} {fd : FuncData} {ps ks : List Str} {sp : Sp} {E : XK} {x m : Str} {p pos apos kpos : Pos} {e o : Expr} {es : List Expr} {kws : List Keyword} {te ta : TE} {t tk : TA} {nm : Option Str}
variable {g : List Value → List Value → List Value} {gV : List V → List V → List V}
end
structure FnScope (N P : List Str) (sc : Scope) : Prop where
  kind : sc.kind = .function
  co : sc.isCoroutine = false
  gen : sc.isGenerator = false
  nd : N.Nodup
  pre : N.take P.length = P
  par : ∀ x ∈ P, sc.names.lookup x = some .local ∨ sc.names.lookup x = some .cell
  nofree : ∀ y ∈ sc.names, y.2 ≠ .free
theorem bindL_out {kindOf : Str → Option NameKind} {x : Str} : ∀ {binds : List (Str × Value)} {m : Str → Option Value}, (∀ v, (x, v) ∉ binds) → bindL kindOf binds m x = m x
  | [], _, _ => rfl
  | (n, v) :: r, m, h => by
    unfold bindL
    rw [bindL_out fun w hw => h w (List.mem_cons_of_mem _ hw)]
    split
    · have : x ≠ n := by rintro rfl; exact h v List.mem_cons_self
      simp [this]
    · rfl
theorem bindC_out {kindOf : Str → Option NameKind} {x : Str} : ∀ {binds : List (Str × Value)} {m : Str → Option Value}, (∀ v, (x, v) ∉ binds) → bindC kindOf binds m x = m x
  | [], _, _ => rfl
  | (n, v) :: r, m, h => by
    unfold bindC
    rw [bindC_out fun w hw => h w (List.mem_cons_of_mem _ hw)]
    split
    · rfl
    · have : x ≠ n := by rintro rfl; exact h v List.mem_cons_self
      simp [this]
theorem bindL_get {kindOf : Str → Option NameKind} {x : Str} {v : Value} : ∀ {P : List Str} {vs : List Value} {i : Nat} {m : Str → Option Value}, P.Nodup → P[i]? = some x → vs[i]? = some v → kindOf x = some .local →
    bindL kindOf (P.zip vs) m x = some v
  | [], _, _, _, _, h, _, _ => by simp at h
  | _ :: _, [], _, _, _, _, h, _ => by simp at h
  | p :: P, w :: vs, 0, m, nd, h1, h2, hk => by
    simp at h1 h2; subst h1; subst h2
    show bindL kindOf ((p, w) :: P.zip vs) m p = _
    unfold bindL
    rw [bindL_out fun v hv => (List.nodup_cons.mp nd).1 (List.of_mem_zip hv).1, if_pos hk]
    simp
  | p :: P, w :: vs, i + 1, m, nd, h1, h2, hk => by
    show bindL kindOf ((p, w) :: P.zip vs) m x = _
    unfold bindL
    exact bindL_get (i := i) (List.nodup_cons.mp nd).2 (by simpa using h1) (by simpa using h2) hk
theorem bindC_get {kindOf : Str → Option NameKind} {x : Str} {v : Value} : ∀ {P : List Str} {vs : List Value} {i : Nat} {m : Str → Option Value}, P.Nodup → P[i]? = some x → vs[i]? = some v → kindOf x ≠ some .local →
    bindC kindOf (P.zip vs) m x = some v
  | [], _, _, _, _, h, _, _ => by simp at h
  | _ :: _, [], _, _, _, _, h, _ => by simp at h
  | p :: P, w :: vs, 0, m, nd, h1, h2, hk => by
    simp at h1 h2; subst h1; subst h2
    show bindC kindOf ((p, w) :: P.zip vs) m p = _
    unfold bindC
    rw [bindC_out fun v hv => (List.nodup_cons.mp nd).1 (List.of_mem_zip hv).1, if_neg hk]
    simp
  | p :: P, w :: vs, i + 1, m, nd, h1, h2, hk => by
    show bindC kindOf ((p, w) :: P.zip vs) m x = _
    unfold bindC
    exact bindC_get (i := i) (List.nodup_cons.mp nd).2 (by simpa using h1) (by simpa using h2) hk
noncomputable def start (N : List Str) (vs : List V) : St := vs.map some ++ List.replicate (N.length - vs.length) none
noncomputable def cxOf (CX : CXT) (P : Program) (w : World) (K : PySem.W.Frag) (mg : Str → Option Value) (base : Heap) (N : List Str) (qual : Str) (scope : Scope) (f : Addr) (cd : Value) (A : Around) (outer : List Env) (s : Shared) (H : Hp) (E : XK) : Cx where
  prog := P
  w := w
  K := K
  mg := mg
  base := base
  A := A.deeper (envOfC qual scope s.heap.objs.size f cd)
  N := N
  s₀ := s
  H₀ := H
  env := envOfC qual scope s.heap.objs.size f cd
  outer := outer
  stack := envOfC qual scope s.heap.objs.size f cd :: outer
  ex := []
  calm := true
  fn := fun _ => true
  pn := []
  xe := fun e s' => wpAny (model P w) (A.deeper (envOfC qual scope s.heap.objs.size f cd)) (leaving (envOfC qual scope s.heap.objs.size f cd) e) (fun _ s'' => CX outer H s E e s'') (fun e' s'' => CX outer H s E e' s'') s'
theorem cell_has {sc : Scope} {n : Nat} {x : Str} (h : sc.names.lookup x = some .cell) : ∃ c, (cellsFrom n sc.names []).lookup x = some c := by
  have q := PySem.W.cellsFrom_some sc.names n [] (.inl h)
  exact Option.isSome_iff_exists.mp q
theorem inv_start {CX : CXT} {P : Program} {w : World} {K : PySem.W.Frag} {mg : Str → Option Value} {base : Heap} {N ps : List Str} {qual : Str} {scope : Scope} {f : Addr} {cd : Value} {A : Around} {outer : List Env} {s s1 : Shared} {H : Hp} {E : XK} {us : List Value} {vs : List V}
    (S : FnScope N ps scope) (hd : A.handled = none) (e0 : Env0 P w K mg base A outer s H) (hl : vs.length = ps.length) (r : Vals vs us)
    (x : InCallC s s.heap.objs.size (bindL (envOfC qual scope s.heap.objs.size f cd).kindOf (ps.zip us) fun _ => none) (cellsFrom (s.heap.objs.size + 1) scope.names []) (bindC (envOfC qual scope s.heap.objs.size f cd).kindOf (ps.zip us) fun _ => none) s1) :
    Inv (cxOf CX P w K mg base N qual scope f cd A outer s H E) [] (start N vs) H s1 := by
  have hpl : ps.length ≤ N.length := by have := congrArg List.length S.pre; rw [List.length_take] at this; omega
  obtain ⟨h1, tk, rfl, hk⟩ := x.done
  have noA : ∀ b : Addr, b ∉ (cxOf CX P w K mg base N qual scope f cd A outer s H E).ex := fun b z => absurd (show b ∈ ([] : List Addr) from z) (by simp)
  refine ⟨⟨e0.mod, S.kind, rfl, rfl, Nat.le_refl _, fun y z c h1 h2 => ?_, fun y hy => ?_, fun y c _ h => ?_, fun _ => hd, Around.frames_deeper e0.frames, .inr ⟨rfl, rfl⟩, fun b z => absurd z (noA b), e0.bs, e0.bsz, fun b _ _ => noA b, fun b z => absurd z (noA b), e0.funs, e0.frf⟩,
    rfl, e0.bare, Un.kept hk, ⟨_, x.toInCall.ns, fun i y v h1 h2 h3 => ?_⟩, fun y c h => ⟨_, x.cell y c h⟩, e0.hok.fresh (Nat.le_refl _), fun y c h => ?_, fun p hp => absurd (show p ∈ ([] : List (Addr × Obj)) from hp) (by simp), e0.hok.kept hk, ?_⟩
  · exact name_of_addr x.apart (PySem.mem_of_lookup h1) (PySem.mem_of_lookup h2)
  · have hy : scope.names.lookup y = some .cell ∨ scope.names.lookup y = some .free := hy
    rcases hy with hy | hy
    · exact cell_has hy
    · exact absurd rfl (S.nofree _ (PySem.mem_of_lookup hy))
  · exact Nat.le_of_lt (x.above y c (PySem.mem_of_lookup h))
  · have hi : i < vs.length := by
      unfold start at h2
      by_cases hi : i < vs.length
      · exact hi
      · rw [List.getElem?_append_right (by simpa using hi)] at h2
        rw [List.getElem?_replicate] at h2
        split at h2 <;> cases h2
    have ha : vs[i]? = some v := by
      unfold start at h2
      rw [List.getElem?_append_left (by simpa using hi), List.getElem?_map] at h2
      cases e : vs[i]? with
      | none => rw [e] at h2; cases h2
      | some a => rw [e] at h2; cases h2; rfl
    obtain ⟨u, hu, rv⟩ := r.get ha
    have hp : ps[i]? = some y := by
      rw [← S.pre, List.getElem?_take_of_lt (by omega)]; exact h1
    have ndP : ps.Nodup := by rw [← S.pre]; exact S.nd.sublist (List.take_sublist _ _)
    refine ⟨u, rv, ?_⟩
    rcases S.par y (List.mem_of_getElem? hp) with k | k
    · exact .inl ⟨k, bindL_get ndP hp hu k⟩
    · obtain ⟨c, e⟩ := cell_has (n := s.heap.objs.size + 1) k
      refine .inr ⟨.inl k, c, e, ?_⟩
      have q := x.cell y c e
      rw [bindC_get ndP hp hu (by show scope.names.lookup y ≠ _; rw [k]; decide)] at q
      exact q
  · exact e0.hok.fresh (Nat.le_of_lt (x.above y c (PySem.mem_of_lookup h)))
  · unfold start
    show _ = N.length
    rw [List.length_append, List.length_map, List.length_replicate]
    omega
theorem fn_of {CX : CXT} {P : Program} {w : World} {K : PySem.W.Frag} {mg : Str → Option Value} {base : Heap} {k : Nat} {f : Addr} {name qual : Str} {params : Arguments} {body : List Stmt} {scope : Scope} {dV kV doc pm cdv ct oc : Value} {an od : Option Addr}
    {osl : Array (Option Value)} {N ps : List Str} {sp : Sp} (lk : K.lookup f = some ⟨oc, od, .func (PySem.W.fnOf name qual params body scope dV kV doc pm an cdv ct), osl⟩) (hcd : PySem.W.codeIn K cdv qual = true) (S : FnScope N ps scope)
    (len : ∀ vs H Q E, sp vs H Q E → vs.length = ps.length)
    (hbody : ∀ (A : Around) (outer : List Env) (s : Shared) (H : Hp) (vs : List V) (Q : VK) (E : XK), Room k (A.deeper (envOfC qual scope s.heap.objs.size f cdv)) → sp vs H Q E →
      ∃ t, PSs (cxOf CX P w K mg base N qual scope f cdv A outer s H E) body t ∧ t { nx := fun _ H' => Q .non H', rt := Q } (start N vs) H) :
    FnOk P w K mg base CX (k + 1) f (PySem.W.fnOf name qual params body scope dV kV doc pm an cdv ct) ps sp := by
  refine ⟨len, fun A outer s H args us vs Q E hr e0 hb r hsp => ?_⟩
  have hl := len _ _ _ _ hsp
  have KX : K.In s.heap := e0.mod.kin.keeps fun b o e => (e0.bs b o e).1
  have lim : s.heap.NoLimit := e0.mod.nolimit.keeps fun b o e => (e0.bs b o e).1
  have hkind : ∀ y ∈ ps.zip us, scope.names.lookup y.1 = some .local ∨ (scope.names.lookup y.1 = some .cell ∧ ((cellsFrom (s.heap.objs.size + 1) scope.names []).lookup y.1).isSome = true) := fun ⟨n, v⟩ hy => by
    rcases S.par n (List.of_mem_zip hy).1 with q | q
    · exact .inl q
    · exact .inr ⟨q, PySem.W.cellsFrom_some _ _ _ (.inl q)⟩
  refine codeAny_call_function hr.depth (KX _ _ lk) rfl S.co S.gen rfl (PySem.W.codeRec_of KX hcd) (hb _ _ _ _ ?_)
  refine wpAny_newFunctionEnv_cells S.kind hkind fun env he s1 x => ?_
  subst he
  refine ⟨lim.keeps x.toInCall.keep, codeAny_func ?_⟩
  obtain ⟨t, ht, hq⟩ := hbody A outer s H vs Q E (hr.deeper _) hsp
  have I : Inv (cxOf CX P w K mg base N qual scope f cdv A outer s H E) [] (start N vs) H s1 := inv_start S hr.hd e0 hl r x
  refine wpAny_mono (ht [] s1 (start N vs) H _ I hq) (fun fl s' hs => ?_) fun e s' hs => hs
  have fin : ∀ {σ' : St} {H' : Hp} {v : V} {u : Value}, Inv (cxOf CX P w K mg base N qual scope f cdv A outer s H E) [] σ' H' s' → RelV v u → Q v H' → CE outer P w H s Q u s' :=
    fun {σ' H' v u} J rv q => ⟨v, H', J.os, J.bare, J.base, J.hok, rv, q⟩
  cases fl with
  | ret u =>
    obtain ⟨v, σ', H', J, rv, q⟩ := hs
    exact fin J rv q
  | next =>
    obtain ⟨σ', H', J, q⟩ := hs
    exact fin (v := V.non) (u := Value.none) J rfl q
  | brk =>
    obtain ⟨_, _, _, q⟩ := hs
    exact False.elim q
  | cont =>
    obtain ⟨_, _, _, q⟩ := hs
    exact False.elim q
end L2
namespace L2
open PySem PySem.Spec PyProof.Rows
section
variable {X : Cx} {x : Str} {p pos : Pos} {e : Expr} {es : List Expr} {t : TA} {id T : String} {r : List V → Hp → VK → Prop}
noncomputable abbrev tCB (r : List V → Hp → VK → Prop) (t : TA) : TE := fun σ H Q => t σ H fun vs H1 => r vs H1 Q
theorem pe_callB (hc : CallR X (.builtin id) r) (hg : Gl X x) (hm : X.mg x = none) (hv : bootBuiltins x = some (.builtin id)) (ha : PA X (e :: es) t) (hn : x ≠ "__name__" := by decide) (hdb : (x == ("__debug__" : Str)) = false := by decide)
    (he : starEach (e :: es) X.env = (false, eval e X.env) :: starEach es X.env := by rfl) (hpl : (backTo pos (starEach es X.env)).any (·.1) = false := by rfl) : PE X (.Call (.Name x p) (e :: es) [] pos) (tCB r t) := by
  intro pins s σ H Q I h
  refine wpAny_Call_Name_kw (ld_blt I hg hm hv ?_ hn hdb)
  exact PyProof.Rows.callWith_builtin1 (thn (ha pos pins s σ H _ I h) fun us s1 ⟨vs, H1, I1, r1, q1⟩ => hc pins s1 σ H1 vs us Q I1 r1 q1) he hpl
theorem pe_callTy (hc : CallR X (.type T) r) (hg : Gl X x) (hm : X.mg x = none) (hv : bootBuiltins x = some (.type T)) (ha : PA X (e :: es) t) (hn : x ≠ "__name__" := by decide) (hdb : (x == ("__debug__" : Str)) = false := by decide)
    (he : starEach (e :: es) X.env = (false, eval e X.env) :: starEach es X.env := by rfl) (hpl : (backTo pos (starEach es X.env)).any (·.1) = false := by rfl) : PE X (.Call (.Name x p) (e :: es) [] pos) (tCB r t) := by
  intro pins s σ H Q I h
  refine wpAny_Call_Name_kw (ld_blt I hg hm hv ?_ hn hdb)
  exact PyProof.Rows.callWith_type1 (thn (ha pos pins s σ H _ I h) fun us s1 ⟨vs, H1, I1, r1, q1⟩ => hc pins s1 σ H1 vs us Q I1 r1 q1) he hpl
end
end L2
namespace HT
open PySem PyProof.Rows
section
open PySem.SeqAt
open PySem.AutoSeq1 (wpAny_loadPart')
open PySem.MeetsSeq PySem.MeetsSeq2 PySem.MeetsSeq3
end
section
variable {prog : Program} {w : World} {A : Around} {E : Value → Shared → Prop} {s : Shared}
end
end HT
namespace L2
open PySem PySem.Spec PyProof.Rows
noncomputable abbrev TO := St → Hp → (Option Int → Hp → Prop) → Prop
section
variable {X : Cx} {e : Expr} {te : TE} {lo hi : Option Expr} {tl th : TO} {pos p2 : Pos}
end
end L2
namespace L2
open PySem PySem.Spec PyProof.Rows
noncomputable def ixN (n : Nat) (i : Int) : Option Nat := if 0 ≤ i then (if i < n then some i.toNat else none) else if -(n : Int) ≤ i then some (i + n).toNat else none
noncomputable def atI {α : Type} (xs : List α) (i : Int) : Option α := (ixN xs.length i).bind fun j => xs[j]?
theorem ixN_seq {n : Nat} {i : Int} {j : Nat} (h : ixN n i = some j) : seqIndex? i n = some j ∧ j < n ∧ -(n : Int) ≤ i ∧ i < n := by
  unfold ixN at h
  by_cases h0 : 0 ≤ i
  · rw [if_pos h0] at h
    by_cases h1 : i < n
    · rw [if_pos h1] at h
      have e : i.toNat = j := Option.some.inj h
      exact ⟨by rw [seqIndex_of h0 h1, e], by omega, by omega, h1⟩
    · rw [if_neg h1] at h; cases h
  · rw [if_neg h0] at h
    by_cases h1 : -(n : Int) ≤ i
    · rw [if_pos h1] at h
      have e : (i + n).toNat = j := Option.some.inj h
      exact ⟨by rw [seqIndex_neg (by omega) h1, e], by omega, h1, by omega⟩
    · rw [if_neg h1] at h; cases h
theorem atI_get {α : Type} {xs : List α} {i : Int} {v : α} (h : atI xs i = some v) : ∃ j, seqIndex? i xs.length = some j ∧ xs[j]? = some v ∧ j < xs.length ∧ -(xs.length : Int) ≤ i ∧ i < xs.length := by
  unfold atI at h
  cases e : ixN xs.length i with
  | none => rw [e] at h; cases h
  | some j =>
    rw [e] at h
    obtain ⟨h1, h2, h3, h4⟩ := ixN_seq e
    exact ⟨j, h1, h, h2, h3, h4⟩
theorem atI_nat {α : Type} {xs : List α} {j : Nat} {v : α} (h : xs[j]? = some v) : atI xs (j : Int) = some v := by
  have hj : j < xs.length := (List.getElem?_eq_some_iff.mp h).1
  have e : ixN xs.length (j : Int) = some j := by
    unfold ixN
    rw [if_pos (by omega), if_pos (by omega)]; simp
  unfold atI; rw [e]; exact h
noncomputable def PlainIx (b : Expr) : Prop := ∀ o i, subscripted b false o i = operate [o, i] (getItem o i)
noncomputable def IxR (X : Cx) (r : R2) : Prop :=
  ∀ (value slice : Expr) (pins : List (Addr × Obj)) (s : Shared) (σ : St) (H : Hp) (x y : V) (v u : Value) (Q : VK), Inv X pins σ H s → RelV x v → RelV y u → r x y H Q →
    subscripted slice false v u = operate [v, u] (getItem v u) → wpAny (model X.prog X.w) X.A (subscriptTail value slice v u) (EP X pins σ Q) X.xe s
noncomputable def MtR (X : Cx) (id : String) (r : V → List V → Hp → VK → Prop) : Prop :=
  ∀ (pins : List (Addr × Obj)) (s : Shared) (σ : St) (H : Hp) (x : V) (xs : List V) (v : Value) (us : List Value) (Q : VK), Inv X pins σ H s → RelV x v → Vals xs us → r x xs H Q →
    wpAny (model X.prog X.w) X.A (call (.builtin id) (v :: us)) (EP X pins σ Q) X.xe s
section
variable {X : Cx} {a b : Expr} {ta tb : TE} {pos : Pos}
theorem pe_ix {r : R2} (hr : IxR X r) (ha : PE X a ta) (hb : PE X b tb) (hs : PlainIx b) : PE X (.Subscript a b pos) (tOp r ta tb) := by
  intro pins s σ H Q I h
  exact Subscript_ (binT ha hb I h fun v u s2 x y H2 I2 rx ry q => hr a b pins s2 σ H2 x y v u Q I2 rx ry q (hs _ _))
noncomputable def rIxL (K : PySem.W.Frag) : R2 := fun x y H Q => ∃ p xs i v, x = .ref p ∧ y = .int i ∧ SqL K H p xs ∧ atI xs i = some v ∧ Q v H
noncomputable def rIxT (K : PySem.W.Frag) : R2 := fun x y H Q => ∃ p xs i v, x = .ref p ∧ y = .int i ∧ SqT K H p xs ∧ atI xs i = some v ∧ Q v H
noncomputable def rIxS : R2 := fun x y H Q => ∃ z i c, x = .str z ∧ y = .int i ∧ z.length ≤ sizeLine ∧ atI z.cps.toList i = some c ∧ Q (.str ⟨#[c]⟩) H
theorem ix_list : IxR X (rIxL X.K) := by
  intro value slice pins s σ H x y v u Q I rx ry h hs
  obtain ⟨p, xs, i, z, rfl, rfl, hq, he, q⟩ := h
  cases rx
  obtain ⟨t, rfl⟩ := ry
  obtain ⟨its, r, pl, hz⟩ := I.list hq
  obtain ⟨j, h1, h2, h3, h4, h5⟩ := atI_get he
  obtain ⟨w, ew, rw'⟩ := r.get h2
  have hl := r.length
  have hn := line63
  have fin : EP X pins σ Q w s := ⟨z, H, I, rw', q⟩
  by_cases h0 : 0 ≤ i
  · have hj : i.toNat = j := by
      rw [seqIndex_of h0 h5] at h1
      exact Option.some.inj h1
    exact item_listR pl.isList h0 (by omega) (by rw [hj]; simpa using ew) fin hs
  · have hj : (i + (its.toArray.size : Int)).toNat = j := by
      rw [seqIndex_neg (by omega) h4] at h1
      rw [List.size_toArray, ← hl]
      exact Option.some.inj h1
    exact subscriptTail_builtinR (x := w) pl.isList.typeIs slot_list_getitem.lookup
      (wpAny_getItem_list_neg (Q := fun r s' => r = w ∧ EP X pins σ Q r s') pl.isList (by omega) (by rw [List.size_toArray] <;> omega) (by omega) (by rw [hj]; simpa using ew) ⟨rfl, fin⟩) hs
theorem ix_tup : IxR X (rIxT X.K) := by
  intro value slice pins s σ H x y v u Q I rx ry h hs
  obtain ⟨p, xs, i, z, rfl, rfl, hq, he, q⟩ := h
  cases rx
  obtain ⟨t, rfl⟩ := ry
  obtain ⟨its, r, pl, hz⟩ := I.tuple hq
  obtain ⟨j, h1, h2, h3, h4, h5⟩ := atI_get he
  obtain ⟨w, ew, rw'⟩ := r.get h2
  have hl := r.length
  have hn := line63
  have fin : EP X pins σ Q w s := ⟨z, H, I, rw', q⟩
  exact subscriptTail_builtinR (x := w) pl.typeIs slot_tuple_getitem.lookup
    (getItem_tuple (j := j) (Q := fun r s' => r = w ∧ EP X pins σ Q r s') pl (by omega) (by omega) (by rw [List.size_toArray, ← hl]; exact h1) (by simpa using ew) ⟨rfl, fin⟩) hs
theorem ix_str : IxR X rIxS := by
  intro value slice pins s σ H x y v u Q I rx ry h hs
  obtain ⟨z, i, c, rfl, rfl, hz, he, q⟩ := h
  obtain ⟨t, rfl⟩ := rx
  obtain ⟨t', rfl⟩ := ry
  obtain ⟨j, h1, h2, h3, h4, h5⟩ := atI_get he
  have hl : z.cps.toList.length = z.length := by simp [Str.length]
  rw [hl] at h1 h4 h5
  have hn := line63
  exact tail_any (typeIs_str s z t) slot_str_getitem.lookup (getItem_str (c := c) (by
    have e1 : decide (i < -(2 ^ 63 : Int)) = false := decide_eq_false (by omega)
    have e2 : decide (i ≥ 2 ^ 63) = false := decide_eq_false (by omega)
    rw [e1, e2, Bool.or_false]) (by rw [h1]; simpa using h2) ⟨.str ⟨#[c]⟩, H, I.tok _, ⟨_, rfl⟩, q⟩) hs
theorem Inv.lst {pins : List (Addr × Obj)} {σ : St} {H : Hp} {s : Shared} {p : Addr} {xs : List V} (I : Inv X pins σ H s) (h : H p = some (.lst xs)) :
    ∃ (its : List Value) (n : Nat), Vals xs its ∧ s.heap.get? p = some { cls := .type "list", data := .seq its.toArray n } ∧ xs.length ≤ sizeLine := by
  obtain ⟨z, its, n, r, e⟩ := I.hok p _ h
  exact ⟨its, n, r, e, z⟩
noncomputable def flatV : V → Bool
  | .non => true
  | .bl _ => true
  | .int _ => true
  | .str _ => true
  | _ => false
noncomputable def eqV : V → V → Bool
  | .non, .non => true
  | .bl a, .bl b => a == b
  | .bl a, .int b => (if a then 1 else 0) == b
  | .int a, .bl b => a == (if b then 1 else 0)
  | .int a, .int b => a == b
  | .str a, .str b => a == b
  | _, _ => false
theorem call_len_seq : CallR X (.builtin "len") (fun xs H Q => ∃ p ys, xs = [.ref p] ∧ (SqL X.K H p ys ∨ SqT X.K H p ys) ∧ Q (.int ys.length) H) := by
  intro pins s σ H xs us Q I r h
  obtain ⟨p, ys, rfl, hq, q⟩ := h
  obtain ⟨u, rfl, rx⟩ := vals1 r
  cases rx
  have hn := line63
  rcases hq with hq | hq
  · obtain ⟨its, r', pl, hz⟩ := I.list hq
    have hlen := r'.length
    exact Calls.call_len_list pl.isList (by simp only [List.size_toArray] <;> omega) ⟨.int ys.length, H, I.tok _, ⟨s.toks + 1, by rw [List.size_toArray, hlen]⟩, q⟩
  · obtain ⟨its, r', pl, hz⟩ := I.tuple hq
    have hlen := r'.length
    exact len_tuple pl (by simp only [List.size_toArray] <;> omega) ⟨.int ys.length, H, I.tok _, ⟨s.toks + 1, by rw [List.size_toArray, hlen]⟩, q⟩
theorem call_len_str : CallR X (.builtin "len") (fun xs H Q => ∃ z, xs = [.str z] ∧ z.length ≤ sizeLine ∧ Q (.int z.length) H) := by
  intro pins s σ H xs us Q I r h
  obtain ⟨z, rfl, hz, q⟩ := h
  obtain ⟨u, rfl, t, rfl⟩ := vals1 r
  have hn := line63
  exact len_str (by omega) ⟨.int z.length, H, I.tok _, ⟨_, rfl⟩, q⟩
theorem call_list_of : CallR X (.type "list") (fun xs H Q => ∃ p ys, xs = [.ref p] ∧ (SqL X.K H p ys ∨ SqT X.K H p ys) ∧ ∀ l, H l = none → Q (.ref l) (upd H l (.lst ys))) := by
  intro pins s σ H xs us Q I r h
  obtain ⟨p, ys, rfl, hq, q⟩ := h
  obtain ⟨u, rfl, rx⟩ := vals1 r
  cases rx
  have fin : ∀ (its : List Value), Vals ys its → ys.length ≤ sizeLine → ∀ (h' : Heap) (c' : Nat), (∀ b o', s.heap.get? b = some o' → h'.get? b = some o') →
      h'.get? s.heap.objs.size = some { cls := .type "list", dict := none, data := .seq its.toArray c', slots := #[] } → EP X pins σ Q (.ref s.heap.objs.size) { s with heap := h' } := fun its r' hz h' c' kp e =>
    ⟨.ref s.heap.objs.size, _, I.laid (t' := s.toks) kp (Nat.le_refl _) (show ObjOk X.prog X.w _ h' _ (.lst ys) from ⟨hz, its, c', r', e⟩), rfl, q _ (I.hok.fresh (Nat.le_refl _))⟩
  rcases hq with hq | hq
  · obtain ⟨its, r', pl, hz⟩ := I.list hq
    have hlen := r'.length
    obtain ⟨o, ho, hc, n, hd⟩ := pl.isList
    exact call_list_seq p (.inl rfl) ho hc hd (fun h' c' kp e => fin its r' hz h' c' kp e) (by simp only [List.size_toArray] <;> omega)
  · obtain ⟨its, r', pl, hz⟩ := I.tuple hq
    have hlen := r'.length
    obtain ⟨o, ho, hc, n, hd⟩ := pl
    exact call_list_seq p (.inr rfl) ho hc hd (fun h' c' kp e => fin its r' hz h' c' kp e) (by simp only [List.size_toArray] <;> omega)
noncomputable def tyV (K : PySem.W.Frag) (T : String) (x : V) (H : Hp) : Prop := match x with
  | .str _ => T = "str"
  | .int _ => T = "int"
  | .ref p => (T = "list" ∧ ∃ xs, SqL K H p xs) ∨ (T = "tuple" ∧ ∃ o, K.lookup p = some o ∧ o.cls = .type "tuple" ∧ o.dict = none) ∨
      (T = "dict" ∧ ((∃ kvs, H p = some (.dK kvs)) ∨ ∃ kvs, H p = some (.dT kvs))) ∨ (T = "set" ∧ ∃ S n, H p = some (.set S n))
  | _ => False
theorem tyV_is {pins : List (Addr × Obj)} {σ : St} {H : Hp} {s : Shared} {T : String} {x : V} {v : Value} (I : Inv X pins σ H s) (r : RelV x v) (ty : tyV X.K T x H) :
    s.TypeIs v T ∧ ∀ a, v = .ref a → ∃ ob, s.heap.get? a = some ob ∧ ob.dict = none := by
  cases x with
  | str z =>
    obtain ⟨t, rfl⟩ := r
    cases (show T = "str" from ty)
    exact ⟨typeIs_str s z t, fun _ e => nomatch e⟩
  | int i =>
    obtain ⟨t, rfl⟩ := r
    cases (show T = "int" from ty)
    exact ⟨typeIs_int s i t, fun _ e => nomatch e⟩
  | ref p =>
    cases r
    rcases ty with ⟨rfl, xs, hq⟩ | ⟨rfl, o, hk, hc, hd⟩ | ⟨rfl, hk⟩ | ⟨rfl, S, n, hk⟩
    · obtain ⟨its, _, pl, _⟩ := I.list hq
      refine ⟨pl.isList.typeIs, fun a e => ?_⟩
      cases e
      obtain ⟨o, n, e, c, hd, _⟩ := pl
      exact ⟨o, e, hd⟩
    · refine ⟨⟨o, I.kIn p o hk, hc⟩, fun a e => ?_⟩
      cases e
      exact ⟨o, I.kIn _ o hk, hd⟩
    · have z : ∃ o, s.heap.get? p = some o ∧ o.ExactDict := by
        rcases hk with ⟨kvs, hk⟩ | ⟨kvs, hk⟩
        · obtain ⟨_, _, _, _, o, _, _, e, ex, _⟩ := I.hok p _ hk
          exact ⟨o, e, ex⟩
        · obtain ⟨_, _, _, _, o, _, _, e, ex, _⟩ := I.hok p _ hk
          exact ⟨o, e, ex⟩
      obtain ⟨o, e, ex⟩ := z
      refine ⟨⟨o, e, ex.1⟩, fun a e2 => ?_⟩
      cases e2
      exact ⟨o, e, ex.2.1⟩
    · obtain ⟨o, _, _, _, e, ex, _⟩ := I.hok p _ hk
      refine ⟨⟨o, e, ex.1⟩, fun a e2 => ?_⟩
      cases e2
      exact ⟨o, e, ex.2.1⟩
  | _ => exact False.elim ty
noncomputable abbrev tBM0 (K : PySem.W.Frag) (T : String) (r : V → List V → Hp → VK → Prop) (to : TE) : TE := fun σ H Q => to σ H fun x H1 => tyV K T x H1 ∧ r x [] H1 Q
noncomputable abbrev tBM (K : PySem.W.Frag) (T : String) (r : V → List V → Hp → VK → Prop) (to : TE) (t : TA) : TE := fun σ H Q => to σ H fun x H1 => tyV K T x H1 ∧ t σ H1 fun xs H2 => r x xs H2 Q
variable {o e : Expr} {es : List Expr} {to : TE} {t : TA} {name : Str} {apos cpos : Pos} {T id : String} {r : V → List V → Hp → VK → Prop}
theorem pe_bm0 (pa : PlainAttrs T) (slot : Slot T name id) (hty : typeOf (.builtin id) = pure (.type "method_descriptor")) (hm : MtR X id r) (ho : PE X o to)
    (hbase : attributeBase o name X.env (eval o X.env) = eval o X.env := by rfl) (hline : (apos.endLine == cpos.line) = true := by rfl) : PE X (.Call (.Attribute o name apos) [] [] cpos) (tBM0 X.K T r to) := by
  intro pins s σ H Q I h
  refine wpAny_Call_method0_late hbase hline (thn (ho pins s σ H _ I h) fun v s1 ⟨x, H1, I1, r1, ty, q1⟩ => ?_)
  obtain ⟨h1, h2⟩ := tyV_is I1 r1 ty
  exact ⟨T, id, pa, slot, hty, h1, h2, Calls.callWith_builtin rfl (PySem.evalArgs_none (hm pins s1 σ H1 x [] v [] Q I1 r1 .nil q1))⟩
theorem pe_bm (pa : PlainAttrs T) (slot : Slot T name id) (hty : typeOf (.builtin id) = pure (.type "method_descriptor")) (hm : MtR X id r) (ho : PE X o to) (ha : PA X (e :: es) t)
    (hbase : attributeBase o name X.env (eval o X.env) = eval o X.env := by rfl)
    (hfew : ((backTo cpos (starEach (e :: es) X.env)).all (fun x => !x.1) && (backToKw cpos (keywordEach [] X.env)).all (fun x => x.1.isSome)
      && decide ((e :: es).length + ([] : List Keyword).length + (if ([] : List Keyword).isEmpty then 0 else 1) < 30)) = true := by rfl)
    (hline : (apos.endLine == cpos.line) = true := by rfl) (hs : starEach (e :: es) X.env = (false, eval e X.env) :: starEach es X.env := by rfl) (hplain : (backTo cpos (starEach es X.env)).any (·.1) = false := by rfl) :
    PE X (.Call (.Attribute o name apos) (e :: es) [] cpos) (tBM X.K T r to t) := by
  intro pins s σ H Q I h
  refine wpAny_Call_method_late hbase hfew hline rfl (thn (ho pins s σ H _ I h) fun v s1 ⟨x, H1, I1, r1, ty, q1⟩ => ?_)
  obtain ⟨h1, h2⟩ := tyV_is I1 r1 ty
  refine ⟨T, id, pa, slot, hty, h1, h2, ?_⟩
  have hA := ha cpos pins s1 σ H1 _ I1 q1
  rw [hs] at hA ⊢
  refine Calls.callWith_builtin (by show (false || (backTo cpos (starEach es X.env)).any (·.1)) = false; rw [hplain] <;> rfl) (Calls.evalArgs_plain ?_)
  exact thn hA fun us s2 ⟨vs, H2, I2, r2, q2⟩ => hm pins s2 σ H2 x vs v us Q I2 r1 r2 q2
end
end L2
namespace L2
open PySem PySem.Spec PyProof.Rows
noncomputable def MtM (X : Cx) (id : String) (r : V → List V → Hp → VK → Prop) : Prop :=
  ∀ (pins : List (Addr × Obj)) (s : Shared) (σ : St) (H : Hp) (x : V) (xs : List V) (v : Value) (us : List Value) (Q : VK), Inv X pins σ H s → RelV x v → Vals xs us → r x xs H Q →
    wpAny (model X.prog X.w) X.A (call (.builtin id) (v :: us)) (EP X pins σ Q) X.xe s
theorem Vals.one : ∀ {x : V} {us : List Value}, Vals [x] us → ∃ u, us = [u] ∧ RelV x u
  | _, _, .cons r .nil => ⟨_, rfl, r⟩
theorem Vals.zero : ∀ {us : List Value}, Vals [] us → us = []
  | _, .nil => rfl
theorem Vals.dropLast {xs : List V} {us : List Value} (h : Vals xs us) : Vals xs.dropLast us.dropLast := by
  induction h with
  | nil => exact .nil
  | cons r t ih =>
    cases t with
    | nil => exact .nil
    | cons q t' => exact .cons r ih
theorem Vals.reverse {xs : List V} {us : List Value} (h : Vals xs us) : Vals xs.reverse us.reverse := by
  induction h with
  | nil => exact .nil
  | cons r t ih => rw [List.reverse_cons, List.reverse_cons]; exact Vals.append ih (.cons r .nil)
theorem Vals.rep {xs : List V} {us : List Value} (h : Vals xs us) : ∀ k : Nat, Vals (List.replicate k xs).flatten (List.replicate k us).flatten
  | 0 => .nil
  | k + 1 => by
    rw [List.replicate_succ, List.replicate_succ, List.flatten_cons, List.flatten_cons]
    exact Vals.append h (Vals.rep h k)
theorem foldl_rep (its : List Value) : ∀ (k : Nat) (acc : List Value),
    List.foldl (fun x1 x2 => x1 ++ x2) acc.toArray (List.replicate k its.toArray) = (acc ++ (List.replicate k its).flatten).toArray
  | 0, acc => by simp
  | k + 1, acc => by
    have e : acc.toArray ++ its.toArray = (acc ++ its).toArray := by simp
    have e2 : (acc ++ its) ++ (List.replicate k its).flatten = acc ++ (List.replicate (k + 1) its).flatten := by
      rw [List.replicate_succ, List.flatten_cons, List.append_assoc]
    rw [← e2, ← foldl_rep its k (acc ++ its), ← e, List.replicate_succ, List.foldl_cons]
section
variable {X : Cx} {pins : List (Addr × Obj)} {σ : St} {H : Hp} {s : Shared} {l b : Addr} {xs ys zs : List V}
theorem Inv.lset {its its' : List Value} {n : Nat} {f : Array Value → Array Value} {t' : Nat} (I : Inv X pins σ H s) (hH : H l = some (.lst xs))
    (e : s.heap.get? l = some { cls := .type "list", data := .seq its.toArray n }) (hf : f its.toArray = its'.toArray) (hv : Vals ys its') (hz : ys.length ≤ sizeLine) :
    Inv X pins σ (upd H l (.lst ys)) { s with heap := s.heap.update l (Obj.mapSeq f), toks := t' } := by
  have q := PySem.IsL.update e f
  rw [hf] at q
  refine I.write (x := l) (e := l) (by rw [hH]; exact trivial) (.inl rfl) (fun b' u hb hu => (Heap.get?_update_other s.heap (Obj.mapSeq f) (Ne.symm hb)).trans hu) ⟨_, q⟩ ?_
  exact ⟨hz, its', _, hv, q⟩
theorem Inv.lnew {its : List Value} {t' : Nat} (I : Inv X pins σ H s) (hv : Vals ys its) (hz : ys.length ≤ sizeLine) :
    Inv X pins σ (upd H s.heap.objs.size (.lst ys)) { s with heap := s.heap.push { cls := .type "list", data := .seq its.toArray }, toks := t' } :=
  I.laid (fun _ _ q => Heap.get?_push_of_some _ q) (Nat.le_refl _) ⟨hz, its, 0, hv, Heap.get?_push_size _ rfl⟩
theorem Inv.fresh (I : Inv X pins σ H s) : H s.heap.objs.size = none := I.hok.fresh (Nat.le_refl _)
theorem Inv.lstM (I : Inv X pins σ H s) (hH : H l = some (.lst xs)) : xs.length ≤ sizeLine ∧ ∃ (its : List Value) (n : Nat), Vals xs its ∧ xs.length = its.length ∧ s.heap.get? l = some { cls := .type "list", data := .seq its.toArray n } := by
  obtain ⟨z, its, n, r, e⟩ := I.hok l _ hH
  exact ⟨z, its, n, r, r.length, e⟩
theorem notLongL {n : Nat} (h : n ≤ sizeLine) : Builtin.List.listTooLong n = false := by
  unfold Builtin.List.listTooLong
  exact decide_eq_false (by omega)
end
section
variable {X : Cx}
noncomputable def rAppend : V → List V → Hp → VK → Prop := fun x vs H Q => ∃ l xs y, x = .ref l ∧ vs = [y] ∧ H l = some (.lst xs) ∧ xs.length < sizeLine ∧ Q .non (upd H l (.lst (xs ++ [y])))
theorem mt_append : MtM X "list.append" rAppend := by
  intro pins s σ H x vs v us Q I rx rv h
  obtain ⟨l, xs, y, rfl, rfl, hH, hz, q⟩ := h
  cases rx
  obtain ⟨u, rfl, ru⟩ := rv.one
  obtain ⟨z, its, n, r, hl, e⟩ := I.lstM hH
  refine call_meets F.slot_list_append ⟨_, e, rfl⟩ F.entry_list_append (F.args_list_append_2 _ _) (PySem.list_append l its.toArray n u (by rw [List.size_toArray]; omega)) ⟨e, ?_⟩
  refine ⟨.non, _, I.lset (its' := its ++ [u]) hH e (by simp) (r.append (.cons ru .nil)) ?_, rfl, q⟩
  rw [List.length_append, List.length_singleton]
  omega
noncomputable def rClear : V → List V → Hp → VK → Prop := fun x vs H Q => ∃ l xs, x = .ref l ∧ vs = [] ∧ H l = some (.lst xs) ∧ Q .non (upd H l (.lst []))
theorem mt_clear : MtM X "list.clear" rClear := by
  intro pins s σ H x vs v us Q I rx rv h
  obtain ⟨l, xs, rfl, rfl, hH, q⟩ := h
  cases rx
  have hus := rv.zero
  subst hus
  obtain ⟨z, its, n, r, hl, e⟩ := I.lstM hH
  refine call_meets F.slot_list_clear ⟨_, e, rfl⟩ F.entry_list_clear (F.args_list_clear_1 _) (AutoSeq1.list_clear_list_0 l its.toArray n (by rw [List.size_toArray]; omega)) ⟨e, ?_⟩
  exact ⟨.non, _, I.lset (its' := []) (ys := []) hH e rfl .nil (Nat.zero_le _), rfl, q⟩
noncomputable def rRep : R2 := fun x y H Q => ∃ l k xs, x = .ref l ∧ y = .int k ∧ H l = some (.lst xs) ∧ -(2 ^ 63) ≤ k ∧ k < 2 ^ 63 ∧ xs.length * k.toNat ≤ sizeLine ∧
  ∀ p, H p = none → Q (.ref p) (upd H p (.lst (List.replicate k.toNat xs).flatten))
theorem len_rep {α : Type} (xs : List α) (k : Nat) : (List.replicate k xs).flatten.length = k * xs.length := by
  induction k with
  | zero => simp
  | succ k ih => rw [List.replicate_succ, List.flatten_cons, List.length_append, ih, Nat.succ_mul, Nat.add_comm]
theorem op_rep : OpR X (binaryOp .Mult) rRep := by
  intro pins s σ H x y v u Q I rx ry h
  obtain ⟨l, k, xs, rfl, rfl, hH, h1, h2, hz, q⟩ := h
  cases rx
  obtain ⟨t, rfl⟩ := ry
  obtain ⟨z, its, n, r, hl, e⟩ := I.lstM hH
  have hlen : its.toArray.size * k.toNat ≤ sizeLine := by rw [List.size_toArray, ← hl]; exact hz
  have hcap : ¬ its.toArray.size * k.toNat > (2 ^ 63 - 1) / 8 := by
    have : (sizeLine : Nat) ≤ (2 ^ 63 - 1) / 8 := by decide
    omega
  have hfit : ¬ (!Builtin.List.listFitsIndex k) = true := by
    rw [fitsIndex_both h1 h2]
    exact Bool.false_ne_true
  have hlong : ¬ Builtin.List.listTooLong (its.toArray.size * k.toNat) = true := by
    rw [notLongL hlen]
    exact Bool.false_ne_true
  have hnew : List.foldl (fun x1 x2 => x1 ++ x2) #[] (List.replicate (if its.toArray.isEmpty = true then 0 else k.toNat) its.toArray) = (List.replicate k.toNat its).flatten.toArray := by
    have f0 : ∀ m : Nat, List.foldl (fun x1 x2 => x1 ++ x2) #[] (List.replicate m its.toArray) = (List.replicate m its).flatten.toArray := fun m => by
      have := foldl_rep its m []
      rw [List.nil_append] at this
      exact this
    rw [f0]
    cases its with
    | nil => simp
    | cons a r' => rw [if_neg (by simp)]
  refine wpAny_binaryOp_repeat_ref (T := "list") (U := "int") (by decide) ⟨_, e, rfl⟩ (fun s' => typeIs_int s' k t) noFill_list_mul F.fills_int_mul F.slot_int_rmul repeat_list F.slot_int_index.lookup
    (call_meets F.slot_int_rmul (typeIs_int s k t) F.entry_int_rmul (F.args_int_rmul_2 _ _) (int___rmul___int_list k t l its.toArray n)
      ⟨e, rfl, ⟨_, e, rfl⟩, call_meets F.slot_list_mul ⟨_, e, rfl⟩ F.entry_list_mul (F.args_list_mul_2 _ _) (AutoListH.list___mul___list_int_3 l its.toArray n k t hfit hcap hlong) ⟨e, ?_⟩⟩)
  rw [hnew]
  exact ⟨.ref _, _, I.lnew (t' := s.toks) (r.rep k.toNat) (by rw [len_rep, Nat.mul_comm]; exact hz), rfl, q _ I.fresh⟩
end
section
variable {prog : Program} {w : World} {A : Around} {E : Value → Shared → Prop} {s : Shared}
end
section
variable {X : Cx}
end
end L2
namespace Att
open PySem PySem.W PySem.Calls PyProof.Rows
theorem ints_of_wellAll {P : Params} {h : Heap} : ∀ (ns : List Int) (vs : List Value), WellAll P h vs (ns.map WData.int) → IntsAre vs ns := by
  intro ns
  induction ns with
  | nil =>
    intro vs w
    rw [List.map_nil] at w
    cases w
    exact .nil
  | cons n ns ih =>
    intro vs w
    rw [List.map_cons] at w
    cases w with
    | cons a b =>
      cases a
      exact .cons _ _ (ih _ b)
theorem script_of {l : OpenLaw} {n : Nat} (hn : l.most = some n) {P : Params} {h : Heap} {args : List WData} {vals : List Value}
    (hpre : l.row.toRowW.claim.pre args = true) (hwl : WellAll P h vals args) :
    ∃ a vs ns, vals = [Value.ref a] ∧ args = [WData.list (ns.map WData.int)] ∧ h.get? a = some { cls := .type "list", data := .seq vs.toArray } ∧ IntsAre vs ns ∧ ns.length ≤ n := by
  have hsh : WShape.hasAll [] args [.list .int] = true := (pre_splitW hpre).1
  have hc : l.pre.holds [] { args := args } = true := (pre_splitW hpre).2
  obtain ⟨d, r, rfl, h1, h2⟩ := hasAllW_cons hsh
  obtain rfl := hasAllW_nil h2
  obtain ⟨xs, rfl, h3⟩ := hasW_list h1
  obtain ⟨ns, rfl⟩ := items_int h3
  have hlen : ns.length ≤ n := by
    unfold OpenLaw.pre at hc
    have h4 : (WTm.not (.lt (.lit (.int (n : Int))) (.len (.arg 0)))).holds [] { args := [.list (ns.map .int)] } = true := by
      have h4 := (holds_andW hc).1
      rw [hn] at h4
      exact h4
    have h5 := condW_of h4 (w_not (w_lt w_lit (w_len_list (w_arg rfl))))
    rw [List.length_map] at h5
    refine Nat.le_of_not_lt fun q => ?_
    have q' : (n : Int) < ((ns.length : Nat) : Int) := by omega
    first
      | (rw [decide_eq_true q'] at h5; exact absurd h5 (by decide))
      | (simp at h5; omega)
  cases hwl with
  | cons w1 w2 =>
    cases w2
    cases w1 with
    | list ho hall => exact ⟨_, _, ns, rfl, rfl, ho, ints_of_wellAll ns _ hall, hlen⟩
theorem post_true (l : OpenLaw) (args : List WData) : l.row.toRowW.claim.post args (.bool true) args = true :=
  postW_of (r := l.row.toRowW) (X := (true == true))
    (show WShape.has [] (.bool true) .bool = true by first | rfl | decide | simp [WShape.has, WShape.arms, WShape.armsAll])
    (show (WTm.eq .res (.lit (.bool true))).value [] { args := args, res := some (.bool true), after := args } = some (.bool (true == true)) from w_eq_bool (w_res rfl) w_lit) rfl
theorem attach_call {l : OpenLaw} {n : Nat} {q : Program} {loose : List Str} {XP : (Str → Option Value) → Heap → Prop} {YP : World → Heap → Prop} {d : DefRec}
    (hn : l.most = some n) (hdf : d.params.defaults = [])
    (call : ∀ (w : World) (s₀ s₁ : Shared) (mg mb : Str → Option Value) (fa : Addr) (o : Obj) (pm cd doc : Value) (a : Addr) (vs : List Value) (ns : List Int),
      Ground q loose [] XP w s₀ mg mb s₁.heap → YP w s₁.heap →
      s₁.heap.get? fa = some o → o.data = .func (docDef d.name d.params d.body d.scope pm cd doc) → s₁.heap.CodeRec cd d.name → mg d.name = some (.ref fa) →
      s₁.heap.get? a = some { cls := .type "list", data := .seq vs.toArray } → IntsAre vs ns → ns.length ≤ n → s₁.gens = #[] →
      codeAny (model l.prog w) callerA (.call (.ref fa) ⟨[.ref a], []⟩) (fun r s' => r = .ok (.ret (.bool true)) ∧ OldK s₁.heap s'.heap ∧ s'.os = s₁.os ∧ AllBare s'.gens) s₁) :
    WalkO q loose XP YP l.row.toRowW d [] (fun f vs => PySem.call f vs) := by
  intro w s₀ s₁ mg mb G Y fa o pm cd doc dV kV ho hd hcd hD hmg hg args vals as hpre hlay hrd hwl hlo
  obtain rfl : dV = .none := Dflts.none hD hdf
  obtain rfl : kV = .none := Dflts.noKw hD
  obtain ⟨a, vs, ns, rfl, rfl, hobj, hints, hlen⟩ := script_of hn hpre hwl
  refine enter_call (codeAny_mono (call w s₀ s₁ mg mb fa o pm cd doc a vs ns G Y ho (fd_plain hd) hcd hmg hobj hints hlen hg) fun r s' hq => ?_)
  obtain ⟨rfl, h2, h3, h4⟩ := hq
  exact ⟨.inl ⟨.bool true, .bool true, [], rfl, fun _ => rfl, .bool true, post_true l _, fun _ => ⟨List.Pairwise.nil, fun _ hm => (nomatch hm)⟩⟩, h2, h3, h4⟩
section
variable {prog : Program} {w : World} {A : Around} {E : Value → Shared → Prop} {s : Shared} {K : Frag}
end
end Att
namespace L2
open PySem PySem.Spec PyProof.Rows
theorem vals_ints : ∀ {vs : List Value} {ns : List Int}, IntsAre vs ns → Vals (ns.map V.int) vs
  | _, _, .nil => .nil
  | _, _, .cons n t h => .cons ⟨t, rfl⟩ (vals_ints h)
noncomputable def Only (H : Hp) : Prop := ∀ b, H b = none ∨ ∃ o xs, H b = some (.frz o (.lst xs))
theorem law_call {P : Program} {w : World} {K : PySem.W.Frag} {mg mb : Str → Option Value} {CX : CXT} {k : Nat} {fa a : Addr} {fd : FuncData} {x : Str} {sp : Sp} {s₁ : Shared} {vs : List Value} {ns : List Int}
    (KX : K.In s₁.heap) (hns : s₁.heap.Ns mainGlobals mg) (hb : s₁.heap.Ns builtinsNs mb) (hbb : ∀ x : Str, x ≠ "__name__" → mb x = bootBuiltins x) (hlim : s₁.heap.NoLimit) (hg : s₁.gens = #[])
    (ha : s₁.heap.get? a = some { cls := .type "list", data := .seq vs.toArray }) (hi : IntsAre vs ns) (hl : ns.length ≤ sizeLine) (hr : Room k callerA)
    (F : ∀ base : Heap, K.In base → base.Ns mainGlobals mg → FnOk P w K mg base CX k fa fd [x] sp) (hbind : ∀ (s : Shared) (u : Value), BindsTo s fd ⟨[u], []⟩ [(x, u)])
    (hsp : ∀ H : Hp, Only H → SqL K H a (ns.map V.int) → sp [.ref a] H (fun v _ => v = .bl true) fun _ _ _ => False)
    (hCX : ∀ H e s', CX [] H s₁ (fun _ _ _ => False) e s' → False) :
    codeAny (model P w) callerA (.call (.ref fa) ⟨[.ref a], []⟩) (fun r s' => r = .ok (.ret (.bool true)) ∧ OldK s₁.heap s'.heap ∧ s'.os = s₁.os ∧ AllBare s'.gens) s₁ := by
  have rv := vals_ints hi
  have lenV := hi.length
  have core : ∀ H : Hp, Only H → SqL K H a (ns.map V.int) → HOk P w H s₁.heap → (∀ b, H b ≠ none → b = a) → (H a ≠ none → K.lookup a = none) →
      codeAny (model P w) callerA (.call (.ref fa) ⟨[.ref a], []⟩) (fun r s' => r = .ok (.ret (.bool true)) ∧ OldK s₁.heap s'.heap ∧ s'.os = s₁.os ∧ AllBare s'.gens) s₁ := by
    intro H hO hS hok hA hK
    have base_of : ∀ {b : Addr} {o : Obj}, s₁.heap.get? b = some o → H b = none → (hidT s₁.heap H).get? b = some o := fun e n => hidT_get e n
    have noA : ∀ {b : Addr} {o : Obj} {es : Array DictEntry} {ep : Nat}, s₁.heap.get? b = some o → o.data = .dict es ep → H b = none := fun {b o es ep} e d => by
      cases q : H b with
      | none => rfl
      | some u =>
        have e' : b = a := hA b (by rw [q]; simp)
        subst e'
        rw [ha] at e; cases e
        have d' : Data.seq vs.toArray _ = Data.dict es ep := d
        cases d'
    have nsK : ∀ {b : Addr} {m : Str → Option Value}, s₁.heap.Ns b m → (hidT s₁.heap H).Ns b m := fun {b m} ⟨o, es, ep, e, d, r⟩ => ⟨o, es, ep, base_of e (noA e d), d, r⟩
    have hKb : K.In (hidT s₁.heap H) := fun b o e => base_of (KX b o e) (by
      cases q : H b with
      | none => rfl
      | some u =>
        have e' : b = a := hA b (by rw [q]; simp)
        subst e'
        rw [hK (by rw [q]; simp)] at e; cases e)
    have hM : Mod K mg (hidT s₁.heap H) := ⟨hKb, nsK hns, ⟨mb, nsK hb, hbb⟩, let ⟨mc, h1, h2⟩ := hlim; ⟨mc, nsK h1, h2⟩⟩
    have e0 : Env0 P w K mg (hidT s₁.heap H) callerA [] s₁ H := ⟨rfl, hM, fun b o e => of_hidT e, Nat.le_of_eq (hidT_size _ _), trivial, fun b hb => absurd (show b ∈ ([] : List Addr) from hb) (by simp), hok, .of_eq hg⟩
    refine codeAny_mono ((F _ hKb (nsK hns)).run callerA [] s₁ H ⟨[.ref a], []⟩ [.ref a] [.ref a] _ _ hr e0 (hbind s₁ (.ref a)) (.cons rfl .nil) (hsp H hO hS)) fun r s' h => ?_
    cases r with
    | error e => exact (hCX H e s' h).elim
    | ok fl =>
      cases fl with
      | next => exact False.elim h
      | brk => exact False.elim h
      | cont => exact False.elim h
      | ret u =>
        obtain ⟨v, H', os, bare, un, hok', r', q⟩ := h
        have q' : v = .bl true := q
        subst q'
        obtain rfl : u = Value.bool true := r'
        refine ⟨rfl, OldK.of_keep fun b o e => ?_, os, bare⟩
        cases q : H b with
        | none => exact un.keep b o e q (by intro z; exact absurd (show b ∈ ([] : List Addr) from z) (by simp)) (by simp)
        | some u =>
          rcases hO b with z | ⟨ob, xs, z⟩
          · rw [q] at z; cases z
          · have z2 := un.frzs b ob _ z
            obtain ⟨e1, _⟩ := hok b _ z
            obtain ⟨e2, _⟩ := hok' b _ z2
            rw [e] at e1; cases e1
            exact e2
  cases hk : K.lookup a with
  | some o =>
    have e := KX a o hk
    rw [ha] at e
    cases e
    refine core (fun _ => none) (fun _ => .inl rfl) (.inr ⟨_, vs.toArray, _, hk, rfl, rfl, rfl, by rw [List.size_toArray, lenV]; exact hl, by simpa using rv⟩) (fun b u z => by have z' : (none : Option HO) = some u := z; cases z') (fun b z => absurd rfl z) fun z => absurd rfl z
  | none =>
    refine core (fun b => if b = a then some (.frz { cls := .type "list", data := .seq vs.toArray } (.lst (ns.map V.int))) else none) (fun b => ?_) (.inl (.inr ⟨{ cls := .type "list", data := .seq vs.toArray }, if_pos rfl⟩)) (fun b u z => ?_) (fun b z => ?_) fun _ => hk
    · by_cases hb : b = a
      · exact .inr ⟨_, _, if_pos hb⟩
      · exact .inl (if_neg hb)
    · by_cases hb : b = a
      · have z' := (if_pos hb).symm.trans z
        cases z'
        subst hb
        exact ⟨ha, by rw [List.length_map]; exact hl, vs, _, rv, ha⟩
      · have z' := (if_neg hb).symm.trans z
        cases z'
    · by_cases hb : b = a
      · exact hb
      · exact absurd (if_neg hb) z
end L2
namespace L2
open PySem PySem.Spec PyProof.Rows
theorem walk_of {l : PySem.W.OpenLaw} {n k : Nat} {q : Program} {loose : List Str} {XP : (Str → Option Value) → Heap → Prop} {YP : World → Heap → Prop} {d : DefRec} {K : Params → PySem.W.Frag} {CX : World → CXT} {sp : World → Sp} {x : Str}
    (hn : l.most = some n) (hn2 : n ≤ sizeLine) (hdf : d.params.defaults = []) (hr : Room k callerA)
    (hY : ∀ (w : World) (h : Heap), YP w h → (K w.params).In h)
    (F : ∀ (w : World) (mg : Str → Option Value) (fa : Addr) (h : Heap), (K w.params).In h → h.Ns mainGlobals mg → mg d.name = some (.ref fa) →
      ∃ fd : FuncData, (∀ (s : Shared) (u : Value), BindsTo s fd ⟨[u], []⟩ [(x, u)]) ∧
        ∀ base : Heap, (K w.params).In base → base.Ns mainGlobals mg → FnOk l.prog w (K w.params) mg base (CX w) k fa fd [x] (sp w))
    (hsp : ∀ (w : World) (H : Hp) (a : Addr) (ns : List Int), ns.length ≤ n → Only H → SqL (K w.params) H a (ns.map V.int) → sp w [.ref a] H (fun v _ => v = .bl true) fun _ _ _ => False)
    (hCX : ∀ (w : World) (H : Hp) (s : Shared) (e : Value) (s' : Shared), CX w [] H s (fun _ _ _ => False) e s' → False) :
    PySem.W.WalkO q loose XP YP l.row.toRowW d [] (fun f vs => PySem.call f vs) := by
  refine Att.attach_call hn hdf fun w s₀ s₁ mg mb fa o pm cd doc a vs ns G Y ho hd hcd hmg hobj hints hlen hg => ?_
  have KX := hY w _ Y
  obtain ⟨fd, hb, hF⟩ := F w mg fa _ KX G.T.g hmg
  exact law_call KX G.T.g G.T.b G.T.builtins G.T.nolimit hg hobj hints (Nat.le_trans hlen hn2) hr hF hb (fun H hO hS => hsp w H a ns hlen hO hS) fun H e s' => hCX w H s₁ e s'
end L2
namespace L2
open PySem PySem.Spec PyProof.Rows
noncomputable def defArgs (s : Stmt) : Arguments := match s with
  | .FunctionDef _ a _ _ _ _ _ _ _ _ => a
  | _ => { posonlyargs := [], args := [], vararg := none, kwonlyargs := [], kw_defaults := [], kwarg := none, defaults := [] }
noncomputable def defBody (s : Stmt) : List Stmt := match s with
  | .FunctionDef _ _ b _ _ _ _ _ _ _ => b
  | _ => []
noncomputable def defScope (s : Stmt) : Scope := match s with
  | .FunctionDef _ _ _ _ _ _ sc _ _ _ => sc
  | _ => { kind := .function, names := [], isGenerator := false, isCoroutine := false }
noncomputable abbrev CX0 : CXT := fun _ _ _ _ _ _ => False
noncomputable abbrev E0 : XK := fun _ _ _ => False
theorem pass0 {X : Cx} : Passes CX0 X E0 := fun _ _ _ _ _ _ _ h => h.elim
structure Fun (K : PySem.W.Frag) (x qual : Str) (st : Stmt) (f : Addr) (fd : FuncData) : Prop where
  ex : ∃ (oc : Value) (od : Option Addr) (kV doc pm : Value) (an : Option Addr) (cdv ct : Value) (osl : Array (Option Value)),
    fd = PySem.W.fnOf x qual (defArgs st) (defBody st) (defScope st) .none kV doc pm an cdv ct ∧ K.lookup f = some ⟨oc, od, .func fd, osl⟩ ∧ PySem.W.codeIn K cdv qual = true
  kp : PySem.W.keepIn K (.ref f) = true
section
variable {P : Program} {w : World} {K : PySem.W.Frag} {mg : Str → Option Value} {base : Heap}
theorem Fun.ok {x qual : Str} {st : Stmt} {f : Addr} {fd : FuncData} {N ps : List Str} {k : Nat} {sp : Sp} (F : Fun K x qual st f fd) (S : FnScope N ps (defScope st)) (len : ∀ vs H Q E, sp vs H Q E → vs.length = ps.length)
    (hbody : ∀ (cdv : Value) (A : Around) (outer : List Env) (s : Shared) (H : Hp) (vs : List V) (Q : VK) (E : XK), Room k (A.deeper (envOfC qual (defScope st) s.heap.objs.size f cdv)) → sp vs H Q E →
      ∃ t, PSs (cxOf CX0 P w K mg base N qual (defScope st) f cdv A outer s H E).nox (defBody st) t ∧ t { nx := fun _ H' => Q .non H', rt := Q } (start N vs) H) : FnOk P w K mg base CX0 (k + 1) f fd ps sp := by
  obtain ⟨oc, od, kV, doc, pm, an, cdv, ct, osl, rfl, lk, hcd⟩ := F.ex
  refine fn_of lk hcd S len fun A outer s H vs Q E hr hsp => ?_
  obtain ⟨t, h, q⟩ := hbody cdv A outer s H vs Q E hr hsp
  exact ⟨t, h.nox, q⟩
theorem Fun.binds {x qual : Str} {st : Stmt} {f : Addr} {fd : FuncData} {ps : List Str} (F : Fun K x qual st f fd)
    (h : ∀ (kV doc pm : Value) (an : Option Addr) (cdv ct : Value) (us : List Value), us.length = ps.length → bindArgs (PySem.W.fnOf x qual (defArgs st) (defBody st) (defScope st) .none kV doc pm an cdv ct) ⟨us, []⟩ = pure (ps.zip us)) : Binds K fd ps [] := by
  obtain ⟨oc, od, kV, doc, pm, an, cdv, ct, osl, rfl, lk, hcd⟩ := F.ex
  exact .all (h kV doc pm an cdv ct)
theorem fun_mk {x qual : Str} {st : Stmt} {f : Addr} {oc : Value} {od an : Option Addr} {osl : Array (Option Value)} {kV doc pm cdv ct : Value} (l : K.lookup f = some ⟨oc, od, .func (PySem.W.fnOf x qual (defArgs st) (defBody st) (defScope st) .none kV doc pm an cdv ct), osl⟩)
    (c : PySem.W.codeIn K cdv qual = true) (k : PySem.W.keepIn K (.ref f) = true) : Fun K x qual st f (PySem.W.fnOf x qual (defArgs st) (defBody st) (defScope st) .none kV doc pm an cdv ct) := ⟨⟨oc, od, kV, doc, pm, an, cdv, ct, osl, rfl, l, c⟩, k⟩
end
section
variable {X : Cx}
theorem pv (i : Nat) {x : Str} {pos : Pos} (hN : X.N[i]? = some x := by rfl) (hv : Vis X.env.scope x := by first | exact Or.inl rfl | exact Or.inr (Or.inl rfl) | exact Or.inr (Or.inr rfl)) (hd : (x == ("__debug__" : Str)) = false := by decide)
    (hcd : (x == ("__classdict__" : Str)) = false := by decide) : PE X (.Name x pos) (tVar i) := pe_var hN hv hd hcd
end
theorem iteF {A B : Prop} (h : B) : if false = true then A else B := by
  rw [if_neg Bool.false_ne_true]
  exact h
theorem iteT {A B : Prop} (h : A) : if true = true then A else B := by
  rw [if_pos rfl]
  exact h
noncomputable def Same (H H' : Hp) : Prop := ∀ b o, H b = some o → H' b = some o
theorem Same.refl (H : Hp) : Same H H := fun _ _ h => h
theorem Same.trans {H H1 H2 : Hp} (a : Same H H1) (b : Same H1 H2) : Same H H2 := fun c o h => b c o (a c o h)
theorem Same.free {H H' : Hp} (e : Same H H') {l : Addr} (h : H' l = Option.none) : H l = Option.none := by
  cases q : H l with
  | none => rfl
  | some o =>
    rw [e l o q] at h
    cases h
theorem Same.seq {K : PySem.W.Frag} {H H' : Hp} {a : Addr} {xs : List V} (e : Same H H') (h : SqL K H a xs) : SqL K H' a xs := by
  rcases h with (h | ⟨o, h⟩) | h
  · exact .inl (.inl (e _ _ h))
  · exact .inl (.inr ⟨o, e _ _ h⟩)
  · exact .inr h
end L2
namespace L2
open PySem PySem.Spec PyProof.Rows
section
variable {κ : Type} [DecidableEq κ]
noncomputable def putK (kvs : List (κ × V)) (k : κ) (v : V) : List (κ × V) :=
  if (kvs.any fun kv => decide (kv.1 = k)) = true then kvs.map (fun kv => if kv.1 = k then (kv.1, v) else kv) else kvs ++ [(k, v)]
noncomputable def dropK (kvs : List (κ × V)) (k : κ) : List (κ × V) := kvs.filter fun kv => decide (kv.1 ≠ k)
theorem RelO.getD {o : Option V} {u : Option Value} {d : V} {d' : Value} (r : RelO o u) (rd : RelV d d') : RelV (o.getD d) (u.getD d') := by
  cases o with
  | none => cases u with
    | none => exact rd
    | some _ => exact (show False from r).elim
  | some _ => cases u with
    | none => exact (show False from r).elim
    | some _ => exact r
theorem KV.any {kvs : List (κ × V)} {vs : List (κ × Value)} (r : KV kvs vs) (k : κ) : (kvs.any fun kv => decide (kv.1 = k)) = vs.any fun kv => decide (kv.1 = k) := by
  unfold KV at r
  induction r with
  | nil => rfl
  | cons h t ih => rw [List.any_cons, List.any_cons, ih, h.1]
theorem KV.repl {kvs : List (κ × V)} {vs : List (κ × Value)} (r : KV kvs vs) (k : κ) {y : V} {u : Value} (ry : RelV y u) :
    KV (kvs.map fun kv => if kv.1 = k then (kv.1, y) else kv) (vs.map fun kv => if kv.1 = k then (kv.1, u) else kv) := by
  unfold KV at r ⊢
  induction r with
  | nil => exact .nil
  | @cons p q ps qs h t ih =>
    rw [List.map_cons, List.map_cons]
    refine .cons ?_ ih
    obtain ⟨h1, h2⟩ := h
    by_cases e : p.1 = k
    · rw [if_pos e, if_pos (h1.symm.trans e)]; exact ⟨h1, ry⟩
    · rw [if_neg e, if_neg (fun z => e (h1.trans z))]; exact ⟨h1, h2⟩
theorem KV.put {kvs : List (κ × V)} {vs : List (κ × Value)} (r : KV kvs vs) (k : κ) {y : V} {u : Value} (ry : RelV y u) : KV (putK kvs k y) (stored vs k u) := by
  unfold putK stored
  rw [r.any k]
  by_cases e : (vs.any fun kv => decide (kv.1 = k)) = true
  · rw [if_pos e, if_pos e]; exact r.repl k ry
  · rw [if_neg e, if_neg e]; exact Paired.snoc r ⟨rfl, ry⟩
theorem KV.drop {kvs : List (κ × V)} {vs : List (κ × Value)} (r : KV kvs vs) (k : κ) : KV (dropK kvs k) (without vs k) := by
  unfold KV at r ⊢
  unfold dropK without
  induction r with
  | nil => exact .nil
  | @cons p q ps qs h t ih =>
    obtain ⟨h1, h2⟩ := h
    rw [List.filter_cons, List.filter_cons]
    by_cases e : p.1 = k
    · have a : ¬ decide (p.1 ≠ k) = true := by simp [e]
      have b : ¬ decide (q.1 ≠ k) = true := by simp [h1.symm.trans e]
      rw [if_neg a, if_neg b]; exact ih
    · have e' : ¬ q.1 = k := fun z => e (h1.trans z)
      have a : decide (p.1 ≠ k) = true := by simp [e]
      have b : decide (q.1 ≠ k) = true := by simp [e']
      rw [if_pos a, if_pos b]; exact .cons ⟨h1, h2⟩ ih
theorem KV.length {kvs : List (κ × V)} {vs : List (κ × Value)} (r : KV kvs vs) : kvs.length = vs.length := Paired.length r
end
section
variable {P : Program} {w : World} {H : Hp} {h : Heap} {a : Addr}
end
section
variable {X : Cx} {pins : List (Addr × Obj)} {σ : St} {H : Hp} {s : Shared} {a : Addr} {y v : V} {u r : Value} {o : Option V} {A : Around} {E : Value → Shared → Prop}
end
section
variable {X : Cx} {pins : List (Addr × Obj)} {σ : St} {H : Hp} {s : Shared} {a : Addr} {kvs : List (Key × V)} {k : Key} {u : Value} {A : Around} {E : Value → Shared → Prop}
end
section
variable {X : Cx} {o i e value : Expr} {pos pos' tpos : Pos} {td ty tv : TE}
end
section
variable {X : Cx} {pos : Pos}
end
section
variable {X : Cx} {pins : List (Addr × Obj)} {σ : St} {H : Hp} {s : Shared} {a : Addr} {y d : V} {u r : Value} {o : Option V} {A : Around} {E : Value → Shared → Prop}
end
section
variable {X : Cx} {o e f : Expr} {apos cpos : Pos} {td ty tx : TE}
end
section
variable {X : Cx} {pins : List (Addr × Obj)} {σ : St} {H : Hp} {s : Shared} {a : Addr} {kvs : List (Key × V)} {A : Around} {E : Value → Shared → Prop}
end
section
variable {X : Cx} {pins : List (Addr × Obj)} {σ : St} {H : Hp} {s : Shared} {a : Addr} {y : V} {u : Value} {A : Around} {E : Value → Shared → Prop}
end
end L2
set_option Elab.async false
set_option maxRecDepth 100000
namespace L2
open PySem PySem.Spec PyProof.Rows
theorem len_app (x y : Str) : (x ++ y).length = x.length + y.length := by
  show (x.cps ++ y.cps).size = _
  rw [Array.size_append]
  rfl
theorem cps_app (x y : Str) : (x ++ y).cps.toList = x.cps.toList ++ y.cps.toList := by
  show (x.cps ++ y.cps).toList = _
  rw [Array.toList_append]
theorem str_ext {x y : Str} (h : x.cps.toList = y.cps.toList) : x = y := by
  cases x; cases y
  simp only [Str.mk.injEq]
  exact Array.ext' h
theorem empty_cps : ("" : Str).cps = #[] := by decide +kernel
theorem glue_nil : ∀ (ps : List Str) (acc : Array Nat), (ps.foldl (fun acc p => acc ++ ("" : Str).cps ++ p.cps) acc).toList = acc.toList ++ (ps.map (·.cps.toList)).flatten
  | [], acc => by simp
  | p :: ps, acc => by
    rw [List.foldl_cons, glue_nil ps]
    simp [empty_cps]
theorem join_cps (ys : List Str) : (Txt.join "" ys).cps.toList = (ys.map (·.cps.toList)).flatten := by
  show ((ys.drop 1).foldl (fun acc p => acc ++ ("" : Str).cps ++ p.cps) (ys.headD Str.empty).cps).toList = _
  rw [glue_nil]
  cases ys with
  | nil => rfl
  | cons a r => simp
theorem flat_ones : ∀ (cs : List Nat), ((cs.map fun c => (⟨#[c]⟩ : Str)).map (·.cps.toList)).flatten = cs
  | [] => rfl
  | c :: cs => by
    have := flat_ones cs
    simp only [List.map_cons, List.flatten_cons]
    rw [this]
    rfl
theorem join_ones' (cs : List Nat) : (Txt.join "" (cs.map fun c => (⟨#[c]⟩ : Str))).cps.toList = cs := by
  rw [join_cps, flat_ones]
theorem sum_ones : ∀ (cs : List Nat), ((cs.map fun c => (⟨#[c]⟩ : Str)).map (·.length)).sum = cs.length
  | [] => rfl
  | c :: cs => by
    have := sum_ones cs
    simp only [List.map_cons, List.sum_cons, this, List.length_cons]
    show 1 + cs.length = _
    omega
end L2
set_option Elab.async false
set_option maxRecDepth 100000
namespace L2
open PySem PySem.Spec PyProof.Rows
noncomputable def clOf (scope : Scope) (env : Env) : List (Str × Addr) :=
  (scope.names.filterMap fun p => if p.2 == NameKind.free then (env.cells.lookup p.1).map fun c => (p.1, c) else none).reverse
theorem closure_loop {env : Env} : ∀ (names : List (Str × NameKind)) (acc : List (Str × Addr)), (∀ y ∈ names, y.2 = .free → ∃ c, env.cells.lookup y.1 = some c) →
    (forIn names acc fun (x : Str × NameKind) (cs : List (Str × Addr)) => (match x with
      | (name, kind) => if (kind == NameKind.free) = true then do
          let c ← cellOf env name
          pure (ForInStep.yield ((name, c) :: cs))
        else pure (ForInStep.yield cs) : Sem (ForInStep (List (Str × Addr))))) =
      pure ((names.filterMap fun p => if p.2 == NameKind.free then (env.cells.lookup p.1).map fun c => (p.1, c) else none).reverse ++ acc)
  | [], acc, _ => rfl
  | (n, k) :: r, acc, h => by
    rw [List.forIn_cons]
    by_cases hk : k = .free
    · subst hk
      obtain ⟨c, hc⟩ := h (n, .free) List.mem_cons_self rfl
      have e1 : cellOf env n = pure c := by unfold cellOf; rw [hc]
      have ih := closure_loop r ((n, c) :: acc) fun y hy => h y (List.mem_cons_of_mem _ hy)
      simp only [beq_self_eq_true, if_true, e1, pure_bind, List.filterMap_cons, hc, Option.map_some, List.reverse_cons, List.append_assoc, List.singleton_append]
      exact ih
    · have hb : (k == NameKind.free) = false := by simpa using hk
      have ih := closure_loop r acc fun y hy => h y (List.mem_cons_of_mem _ hy)
      simp only [hb, Bool.false_eq_true, if_false, pure_bind, List.filterMap_cons]
      exact ih
theorem closureFor_eq {scope : Scope} {env : Env} (h : ∀ y ∈ scope.names, y.2 = .free → ∃ c, env.cells.lookup y.1 = some c) : closureFor scope env = pure (clOf scope env) := by
  have e := closure_loop (env := env) scope.names [] h
  unfold closureFor
  rw [List.append_nil] at e
  exact (congrArg (· >>= pure) e).trans (by rfl)
theorem clOf_mem {scope : Scope} {env : Env} {y : Str} {c : Addr} (h : (y, c) ∈ clOf scope env) : (y, NameKind.free) ∈ scope.names ∧ env.cells.lookup y = some c := by
  unfold clOf at h
  obtain ⟨⟨n, k⟩, hp, e⟩ := List.mem_filterMap.mp (List.mem_reverse.mp h)
  by_cases hk : k = .free
  · subst hk
    simp only [beq_self_eq_true, if_true] at e
    cases hc : env.cells.lookup n with
    | none => rw [hc] at e; cases e
    | some c' =>
      rw [hc] at e
      have e' : (n, c') = (y, c) := Option.some.inj e
      cases e'
      exact ⟨hp, hc⟩
  · have hb : (k == NameKind.free) = false := by simpa using hk
    simp only [hb, Bool.false_eq_true, if_false] at e
    cases e
theorem clOf_sub {scope : Scope} {env : Env} {y : Str} {c : Addr} (h : (clOf scope env).lookup y = some c) : env.cells.lookup y = some c := (clOf_mem (PySem.mem_of_lookup h)).2
theorem lookup_of_mem {α : Type} {y : Str} : ∀ {l : List (Str × α)} {c : α}, (y, c) ∈ l → ∃ c', l.lookup y = some c'
  | (n, a) :: r, c, h => by
    by_cases e : y = n
    · subst e; exact ⟨a, by simp [List.lookup_cons]⟩
    · have hb : (y == n) = false := by simpa using e
      rcases List.mem_cons.mp h with h | h
      · cases h; exact absurd rfl e
      · obtain ⟨c', h'⟩ := lookup_of_mem h
        exact ⟨c', by simp [List.lookup_cons, hb, h']⟩
theorem clOf_has {scope : Scope} {env : Env} {y : Str} {c : Addr} (h1 : (y, NameKind.free) ∈ scope.names) (h2 : env.cells.lookup y = some c) : (clOf scope env).lookup y = some c := by
  have m : (y, c) ∈ clOf scope env := by
    unfold clOf
    exact List.mem_reverse.mpr (List.mem_filterMap.mpr ⟨(y, .free), h1, by simp [h2]⟩)
  obtain ⟨c', h'⟩ := lookup_of_mem m
  have := clOf_sub h'
  rw [h2] at this
  cases this
  exact h'
theorem relabel_free {scope : Scope} {env : Env} (hcell : ∀ y ∈ scope.names, y.2 ≠ .cell) {y : Str} (h : (relabel scope env).names.lookup y = some .cell ∨ (relabel scope env).names.lookup y = some .free) : (y, NameKind.free) ∈ scope.names := by
  have m : ∃ k, (k = .cell ∨ k = .free) ∧ (y, k) ∈ (relabel scope env).names := by
    rcases h with h | h
    · exact ⟨_, .inl rfl, PySem.mem_of_lookup h⟩
    · exact ⟨_, .inr rfl, PySem.mem_of_lookup h⟩
  obtain ⟨k, hk, hm⟩ := m
  unfold relabel at hm
  obtain ⟨⟨n, k'⟩, hp, e⟩ := List.mem_map.mp hm
  dsimp only at e
  by_cases hf : k' = .free
  · subst hf
    split at e <;> (cases e; exact hp)
  · have hb : (k' == NameKind.free) = false := by simpa using hf
    rw [hb, Bool.false_and, Bool.false_and, if_neg (by decide)] at e
    cases e
    rcases hk with hk | hk
    · exact absurd hk (hcell _ hp)
    · exact absurd hk hf
noncomputable def cxComp (X : Cx) (N : List Str) (scope : Scope) (C : Addr) (s : Shared) (H : Hp) (fp : List Addr) : Cx where
  prog := X.prog
  w := X.w
  K := X.K
  mg := X.mg
  base := X.base
  A := X.A
  N := N
  s₀ := s
  H₀ := H
  env := compEnvC scope (clOf scope X.env) C X.env
  outer := X.stack
  stack := X.stack
  ex := fp
  fn := fun _ => false
  calm := true
  pn := []
  xe := fun _ _ => False
noncomputable def Caps (X : Cx) (scope : Scope) : List Str → List Nat → Prop
  | [], [] => True
  | x :: xs, i :: is => (X.N[i]? = some x ∧ (X.env.scope.names.lookup x = some .cell ∨ X.env.scope.names.lookup x = some .free) ∧ scope.names.lookup x = some .free) ∧ Caps X scope xs is
  | _, _ => False
theorem Caps.len {X : Cx} {scope : Scope} : ∀ {xs : List Str} {is : List Nat}, Caps X scope xs is → is.length = xs.length
  | [], [], _ => rfl
  | _ :: _, _ :: _, h => congrArg (· + 1) (Caps.len h.2)
  | [], _ :: _, h => h.elim
  | _ :: _, [], h => h.elim
theorem Caps.at {X : Cx} {scope : Scope} : ∀ {xs : List Str} {is : List Nat} {j : Nat} {x : Str}, Caps X scope xs is → xs[j]? = some x → ∃ i, is[j]? = some i ∧ X.N[i]? = some x ∧ (X.env.scope.names.lookup x = some .cell ∨ X.env.scope.names.lookup x = some .free) ∧ scope.names.lookup x = some .free
  | [], [], _, _, _, e => by simp at e
  | y :: _, i :: _, 0, x, h, e => by
    simp at e; subst e
    exact ⟨i, rfl, h.1⟩
  | _ :: xs, _ :: is, j + 1, x, h, e => by
    obtain ⟨i, h1, h2⟩ := Caps.at (j := j) h.2 (by simpa using e)
    exact ⟨i, by simpa using h1, h2⟩
  | [], _ :: _, _, _, h, _ => h.elim
  | _ :: _, [], _, _, h, _ => h.elim
noncomputable def inner (cap : List Nat) (σ : St) : St := none :: cap.map fun i => (σ[i]?).join
noncomputable def PTs (X : Cx) (ifs : List Expr) (t : TT) : Prop :=
  ∀ (pins : List (Addr × Obj)) (s : Shared) (σ : St) (H : Hp) (Q : Bool → Hp → Prop), Inv X pins σ H s → t σ H Q →
    wpAny (model X.prog X.w) X.A (forIn ifs true fun c r => if r = true then do let ok ← isTrue c X.env (eval c X.env); pure (ForInStep.yield ok) else pure (ForInStep.yield r)) (TP X pins σ Q) X.xe s
noncomputable def tYes : TT := fun _ H Q => Q true H
theorem pts_nil {X : Cx} : PTs X [] tYes := fun _ _ _ H _ I h => wpAny_tests_nil ⟨H, I, h⟩
theorem pts_one {X : Cx} {c : Expr} {t : TT} (h : PT X c t) : PTs X [c] t := fun pins s σ H Q I q => wpAny_tests_one (h pins s σ H Q I q)
theorem compLoop_any {prog : Program} {w : World} {A : Around} {R : Result → Shared → Prop} {s : Shared} {elt target iter : Expr} {ifs : List Expr} {scope : Scope} {pos : Pos} {it acc : Value} {env : Env} (I : Nat → Shared → Prop)
    (turn : ∀ n s, I n s → wpAny (model prog w) A (pyNext it) (fun r s₁ => match r with
      | none => R (.ok .next) s₁
      | some v => wpAny (model prog w) A (letOwnedTupleGo target it v) (fun _ s₁' => wpAny (model prog w) A (assign target env v) (fun _ s₂ =>
          wpAny (model prog w) A (forIn ifs true fun c r => if r = true then do let ok ← isTrue c env (eval c env); pure (ForInStep.yield ok) else pure (ForInStep.yield r)) (fun ok s₃ =>
            if ok = true then wpAny (model prog w) A (eval elt env) (fun x s₄ =>
              wpAny (model prog w) A (call (.builtin "list.append") [acc, x]) (fun _ s₅ => ∃ m, m < n ∧ I m s₅) (fun _ _ => False) s₄) (fun _ _ => False) s₃
            else ∃ m, m < n ∧ I m s₃) (fun _ _ => False) s₂) (fun _ _ => False) s₁') (fun _ _ => False) s₁) (fun _ _ => False) s)
    (n : Nat) (h : I n s) :
    codeAny (model prog w) A (.compLoop (.ListComp elt [⟨target, iter, ifs, 0⟩] scope pos) 0 it acc env) R s := by
  refine codeAny_loop rfl I (fun n s hI => ?_) n h
  show wpAny _ A ((compTurn (.ListComp elt [⟨target, iter, ifs, 0⟩] scope pos) 0 it acc env).onRaise (fun x => do noteFrame x env; theTreesLotGoes x)) _ _ s
  refine wpAny_noted ?_
  rw [compTurn_list]
  refine wpAny_bind (wpAny_standAt (wpAny_bind (wpAny_mono (turn n s hI) (fun r s₁ h₁ => ?_) fun _ _ h' => h'.elim)))
  cases r with
  | none => exact wpAny_pure h₁
  | some v =>
    refine wpAny_bind (wpAny_mono h₁ (fun _ s₁' h₁' => ?_) fun _ _ h' => h'.elim)
    refine wpAny_bind (wpAny_mono h₁' (fun _ s₂ h₂ => wpAny_bind (wpAny_mono h₂ (fun ok s₃ h₃ => ?_) fun _ _ h' => h'.elim)) fun _ _ h' => h'.elim)
    cases ok with
    | false => exact wpAny_pure ⟨rfl, h₃⟩
    | true =>
      exact wpAny_bind (wpAny_bind (wpAny_mono h₃ (fun x s₄ h₄ => wpAny_bind (wpAny_mono h₄ (fun _ s₅ h₅ => wpAny_pure (wpAny_pure ⟨rfl, h₅⟩)) fun _ _ h' => h'.elim)) fun _ _ h' => h'.elim))
noncomputable def tComp (cap : List Nat) (wi : TI) (tc : TT) (te : TE) : TE := fun σ H Q => wi σ H fun J H1 => ∀ p, H1 p = none →
  ∃ W : Nat → Nat → List V → Hp → Prop, (∃ m, W 0 m [] (upd H1 p (.lst []))) ∧ ∀ i m xs H2, W i m xs H2 →
    (J.stop i H2 ∧ Q (.ref p) H2) ∨ (J.go i H2 ∧ ∃ N : List V → Hp → Prop, (∀ xs' H', N xs' H' → ∃ m', m' < m ∧ W (i + 1) m' xs' H') ∧
      ∀ x H3, J.yld i H2 x H3 → tc ((inner cap σ).set 0 (some x)) H3 fun b H5 => if b = true then te ((inner cap σ).set 0 (some x)) H5 fun v H6 => H6 p = some (.lst xs) ∧ xs.length < sizeLine ∧ N (xs ++ [v]) (upd H6 p (.lst (xs ++ [v]))) else N xs H5)
section
variable {X : Cx} {pins : List (Addr × Obj)} {σ : St}
structure CompScope (X : Cx) (scope : Scope) : Prop where
  cell : ∀ y ∈ scope.names, y.2 ≠ .cell
  kind : scope.kind = .function
  names : ∀ y ∈ scope.names, y.2 = .local → scope.names.lookup y.1 = some .local
  free : ∀ y ∈ scope.names, y.2 = .free → X.env.scope.names.lookup y.1 = some .cell ∨ X.env.scope.names.lookup y.1 = some .free
theorem CompScope.clos {scope : Scope} {H : Hp} {s : Shared} (S : CompScope X scope) (I : Inv X pins σ H s) : closureFor scope X.env = pure (clOf scope X.env) :=
  closureFor_eq fun y hy hf => I.ok.has y.1 (S.free y hy hf)
theorem comp_start {scope : Scope} {x : Str} {cn : List Str} {cap : List Nat} {s3 : Shared} {H3 : Hp} {fp : List Addr} {h₁ : Heap} {tk : Nat} {H2 : Hp} (S : CompScope X scope) (I : Inv X pins σ H3 s3) (hc : X.calm = true) (hcap : Caps X scope cn cap)
    (f2 : ∀ b ∈ fp, FpOk X pins H2 b) (lt : ∀ b ∈ fp, b < s3.heap.objs.size) (keep : ∀ b o, s3.heap.get? b = some o → h₁.get? b = some o) (hns : h₁.Ns s3.heap.objs.size fun _ => none) :
    Inv (cxComp X (x :: cn) scope s3.heap.objs.size s3 H3 fp) [] (inner cap σ) H3 { s3 with heap := h₁, toks := tk } := by
  have noS : ∀ b o, X.base.get? b = some o → b < X.s₀.heap.objs.size := fun b o e => Nat.lt_of_lt_of_le (Heap.lt_size e) I.ok.bsz
  refine ⟨⟨I.ok.mod, S.kind, I.ok.glob, I.ok.blt, Nat.le_refl _, fun y z c h1 h2 => I.ok.inj y z c (clOf_sub h1) (clOf_sub h2), fun y hy => ?_, fun y c h => ?_, fun _ => I.ok.hd hc, I.ok.frames, .inl rfl, fun b hb => ⟨Nat.ne_of_lt (lt b hb), fun y c h => (f2 b hb).2.2.2.2.1 y c (clOf_sub h)⟩,
    I.bs, Nat.le_trans I.ok.bsz I.sz, fun b o e hb => ?_, fun b hb z => ?_, I.stack, I.stkFree⟩, rfl, I.bare, Un.kept keep, ⟨_, hns, fun i y v e1 e2 e3 => ?_⟩, fun y c e => ?_, I.hok.fresh (Nat.le_refl _), fun y c e => I.freeC y c (clOf_sub e), fun p hp => absurd (show p ∈ ([] : List (Addr × Obj)) from hp) (by simp), I.hok.kept keep, ?_⟩
  · have m := relabel_free S.cell hy
    obtain ⟨c, hc'⟩ := I.ok.has y (S.free _ m rfl)
    exact ⟨c, clOf_has m hc'⟩
  · cases h
  · rcases (f2 b hb).2.2.2.1 with z | z
    · exact I.ok.noex b o e z
    · exact absurd (Nat.lt_of_lt_of_le (noS b o e) z) (Nat.lt_irrefl _)
  · rcases List.mem_cons.mp (I.stkSub b z) with e | e
    · exact (f2 b hb).2.1 e
    · exact (f2 b hb).2.2.1 e
  · cases i with
    | zero =>
      have e2 : (some none : Option (Option V)) = some (some v) := e2
      cases e2
    | succ j =>
      have e1 : cn[j]? = some y := e1
      obtain ⟨k, hk, hN, hkind, hfr⟩ := hcap.at e1
      have e2 : (cap.map fun i => (σ[i]?).join)[j]? = some (some v) := e2
      rw [List.getElem?_map, hk] at e2
      have e2 : (σ[k]?).join = some v := Option.some.inj e2
      have e2 : σ[k]? = some (some v) := by
        cases q : σ[k]? with
        | none => rw [q] at e2; cases e2
        | some o => rw [q] at e2; cases o with
          | none => cases e2
          | some v' => have e2 : some v' = some v := e2; rw [e2]
      obtain ⟨m, hn, hl⟩ := I.loc
      obtain ⟨u, r, l⟩ := hl k y v hN e2 (.inr hkind)
      refine ⟨u, r, ?_⟩
      rcases l with ⟨kl, _⟩ | ⟨_, c, hc', o, ho, hd⟩
      · have kl : X.env.scope.names.lookup y = some .local := kl
        rw [kl] at hkind
        rcases hkind with z | z <;> cases z
      · refine .inr ⟨?_, c, clOf_has (PySem.mem_of_lookup hfr) hc', o, keep c o ho, hd⟩
        rcases e3 with z | z
        ·
          exfalso
          have z : (relabel scope X.env).names.lookup y = some .local := z
          have hm := PySem.mem_of_lookup z
          unfold relabel at hm
          obtain ⟨⟨n, k'⟩, hp, e⟩ := List.mem_map.mp hm
          dsimp only at e
          have hl2 : (y, NameKind.local) ∈ scope.names := by
            split at e
            · cases e
            · cases e; exact hp
          have := S.names _ hl2 rfl
          rw [hfr] at this
          cases this
        · exact z
  · obtain ⟨v, o, ho, hd⟩ := I.cell y c (clOf_sub e)
    exact ⟨v, o, keep c o ho, hd⟩
  · show (inner cap σ).length = (x :: cn).length
    unfold inner
    rw [List.length_cons, List.length_map, hcap.len, List.length_cons]
theorem comp_out {scope : Scope} {N : List Str} {C : Addr} {s3 s' : Shared} {H2 H3 Hf : Hp} {fp : List Addr} {pins' : List (Addr × Obj)} {σ' : St} (I : Inv X pins σ H3 s3) (J : Inv (cxComp X N scope C s3 H3 fp) pins' σ' Hf s') (f2 : ∀ b ∈ fp, FpOk X pins H2 b) : Inv X pins σ Hf s' :=
  I.call' (ch := fp) J.os J.base J.hok J.bare fun b hb => ⟨(f2 b hb).2.2.2.1, (f2 b hb).2.1, (f2 b hb).2.2.2.2.1, (f2 b hb).2.2.2.2.2⟩
theorem comp_core {scope : Scope} {x : Str} {px pos : Pos} {elt iter : Expr} {ifs : List Expr} {cn : List Str} {cap : List Nat} {s2 : Shared} {H2 : Hp} {it : Addr} {fp : List Addr} {tn : Nat → Heap → Prop} {J : It} {tc : TT} {te : TE} {Q : VK} {RR : Value → Addr → Result → Shared → Prop} {E : Value → Shared → Prop}
    (S : CompScope X scope) (I2 : Inv X pins σ H2 s2) (hc : X.calm = true) (hcap : Caps X scope cn cap) (hx : scope.names.lookup x = some .local) (hnd : (x :: cn).Nodup)
    (T : Turn X.prog X.w X.K (.Name x px) J fp it tn) (st2 : tn 0 s2.heap) (f2 : ∀ b ∈ fp, FpOk X pins H2 b)
    (body : ∀ (C : Addr) (s : Shared) (H : Hp) (fp : List Addr), PTs (cxComp X (x :: cn) scope C s H fp) ifs tc ∧ PE (cxComp X (x :: cn) scope C s H fp) elt te)
    (q : ∀ p, H2 p = none → ∃ W : Nat → Nat → List V → Hp → Prop, (∃ m, W 0 m [] (upd H2 p (.lst []))) ∧ ∀ i m xs H3, W i m xs H3 →
      (J.stop i H3 ∧ Q (.ref p) H3) ∨ (J.go i H3 ∧ ∃ N : List V → Hp → Prop, (∀ xs' H', N xs' H' → ∃ m', m' < m ∧ W (i + 1) m' xs' H') ∧
        ∀ v H4, J.yld i H3 v H4 → tc ((inner cap σ).set 0 (some v)) H4 fun b H5 => if b = true then te ((inner cap σ).set 0 (some v)) H5 fun v H6 => H6 p = some (.lst xs) ∧ xs.length < sizeLine ∧ N (xs ++ [v]) (upd H6 p (.lst (xs ++ [v]))) else N xs H5))
    (hRR : ∀ (p C : Addr) (s3 s' : Shared) (H3 Hf : Hp) (σ' : St), Inv X pins σ H3 s3 → s3.heap.objs.size = C → Inv (cxComp X (x :: cn) scope C s3 H3 fp) [] σ' Hf s' → Q (.ref p) Hf → RR (.ref p) C (.ok .next) s') :
    wpAny (model X.prog X.w) X.A (newList []) (fun acc s₃ => wpAny (model X.prog X.w) X.A (newFunctionEnv scope X.env.globals (clOf scope X.env) [] X.env.qual none .none (some X.env)) (fun cenv s₄ =>
      codeAny (model X.prog X.w) X.A (.compStart (.ListComp elt [⟨.Name x px, iter, ifs, 0⟩] scope pos) 0 (.ref it) acc { cenv with scope := relabel scope X.env }) (RR acc cenv.locals) s₄) E s₃) E s2 := by
  refine wpAny_newObj_type (wpAny_newFunctionEnv S.cell (by intro y hy; simp at hy) (fun h₁ hns₁ hsb₁ => ?_) S.kind)
  dsimp only at hns₁ hsb₁ ⊢
  have hfr : H2 s2.heap.objs.size = none := I2.hok.fresh (Nat.le_refl _)
  obtain ⟨W, ⟨m0, w0⟩, turn⟩ := q _ hfr
  have I3 : Inv X pins σ (upd H2 s2.heap.objs.size (.lst [])) { s2 with heap := s2.heap.push { cls := .type "list", data := .seq ([] : List Value).toArray } } :=
    I2.lnew (its := []) (t' := s2.toks) .nil (Nat.zero_le _)
  generalize hs3 : ({ s2 with heap := s2.heap.push { cls := .type "list", data := .seq ([] : List Value).toArray } } : Shared) = s3 at I3
  have hs3h : s3.heap = s2.heap.push { cls := .type "list", data := .seq ([] : List Value).toArray } := by rw [← hs3]
  have hst3 : tn 0 s3.heap := T.keep _ _ _ st2 fun b hb o e => by rw [hs3h]; exact Heap.get?_push_of_some _ e
  have ltf : ∀ b ∈ fp, b < s3.heap.objs.size := fun b hb => by
    obtain ⟨o, e, _⟩ := T.obj _ _ hst3 b hb
    exact Heap.lt_size e
  have hC : (s2.heap.push { cls := .type "list", dict := none, data := .seq ([] : List Value).toArray }).objs.size = s3.heap.objs.size := by rw [hs3h]
  rw [hC] at hns₁ hsb₁ ⊢
  have keep : ∀ b o, s3.heap.get? b = some o → h₁.get? b = some o := fun b o e => by
    refine hsb₁.extBut b o (Nat.ne_of_lt (Heap.lt_size e)) (Heap.get?_push_of_some _ ?_)
    rw [hs3h] at e
    exact e
  have J4 : Inv (cxComp X (x :: cn) scope s3.heap.objs.size s3 (upd H2 s2.heap.objs.size (.lst [])) fp) [] (inner cap σ) (upd H2 s2.heap.objs.size (.lst [])) { s3 with heap := h₁, toks := s2.toks + ([] : List (Str × Value)).length } :=
    comp_start S I3 hc hcap f2 ltf keep hns₁
  have st4 : tn 0 h₁ := T.keep _ _ _ hst3 fun b hb o e => keep b o e
  have fr4 : ∀ b ∈ fp, (upd H2 s2.heap.objs.size (.lst [])) b = none := fun b hb => by
    obtain ⟨o, e, _⟩ := T.obj _ _ st2 b hb
    rw [upd_ne (Nat.ne_of_lt (Heap.lt_size e))]
    exact (f2 b hb).1
  have hst : ({ s2 with heap := h₁, toks := s2.toks + ([] : List (Str × Value)).length } : Shared) = { s3 with heap := h₁, toks := s2.toks + ([] : List (Str × Value)).length } := by rw [← hs3]
  have loop : codeAny (model X.prog X.w) X.A (.compLoop (.ListComp elt [⟨.Name x px, iter, ifs, 0⟩] scope pos) 0 (.ref it) (.ref s2.heap.objs.size) (compEnvC scope (clOf scope X.env) s3.heap.objs.size X.env))
      (RR (.ref s2.heap.objs.size) s3.heap.objs.size) { s2 with heap := h₁, toks := s2.toks + ([] : List (Str × Value)).length } := by
    rw [hst]
    generalize hX' : cxComp X (x :: cn) scope s3.heap.objs.size s3 (upd H2 s2.heap.objs.size (.lst [])) fp = X' at J4
    have hfpk : ∀ {Hc : Hp}, (∀ b ∈ fp, Hc b = none) → ∀ b ∈ fp, FpOk X' [] Hc b := fun {Hc} hn b hb => by
      subst hX'
      refine ⟨hn b hb, (J4.ok.exf b hb).1, J4.ok.exfs b hb, .inl hb, (J4.ok.exf b hb).2, fun p hp => absurd (show p ∈ ([] : List (Addr × Obj)) from hp) (by simp)⟩
    refine compLoop_any (fun n s' => ∃ i xs Hc, Inv X' [] (inner cap σ) Hc s' ∧ tn i s'.heap ∧ (∀ b ∈ fp, Hc b = none) ∧ W i n xs Hc) ?_ m0 ⟨0, [], _, J4, st4, fr4, w0⟩
    rintro n s5 ⟨i, xs, Hc, I5, st5, fr5, w5⟩
    have B := body s3.heap.objs.size s3 (upd H2 s2.heap.objs.size (.lst [])) fp
    rcases turn i n xs Hc w5 with ⟨stop, qn⟩ | ⟨go, N, hN, step⟩
    · subst hX'
      refine thn (T.done (cxComp X (x :: cn) scope s3.heap.objs.size s3 (upd H2 s2.heap.objs.size (.lst [])) fp) rfl rfl rfl rfl i [] s5 (inner cap σ) Hc (fun _ _ => False) I5 (hfpk fr5) st5 stop) fun r s6 ⟨hr, I6⟩ => ?_
      subst hr
      exact hRR _ _ s3 s6 _ Hc _ I3 rfl I6 qn
    · subst hX'
      refine thn (T.item (cxComp X (x :: cn) scope s3.heap.objs.size s3 (upd H2 s2.heap.objs.size (.lst [])) fp) rfl rfl rfl rfl i [] s5 (inner cap σ) Hc (fun _ _ => False) I5 (hfpk fr5) st5 go) fun r s6 ⟨u, hr, h6⟩ => ?_
      subst hr
      refine thn h6 fun _ s7 ⟨v, H7, I7, r7, y7, st7, fr7⟩ => ?_
      have I7' := I7.pinned (hfpk fr7) (T.obj _ _ st7)
      have hlook : (relabel scope X.env).names.lookup x = some .local := lookup_relabel_local hx
      refine wpAny_assign_Name (store_ok (X := cxComp X (x :: cn) scope s3.heap.objs.size s3 (upd H2 s2.heap.objs.size (.lst [])) fp) I7' (i := 0) hnd rfl (.inl hlook) r7 (fun s8 I8 => ?_) (.inr hlook))
      have again : ∀ {s9 : Shared} {H9 : Hp} {ys : List V}, Inv (cxComp X (x :: cn) scope s3.heap.objs.size s3 (upd H2 s2.heap.objs.size (.lst [])) fp) ([] ++ pinsAt fp s7.heap) ((inner cap σ).set 0 (some v)) H9 s9 → N ys H9 →
          ∃ m, m < n ∧ ∃ i xs Hc, Inv (cxComp X (x :: cn) scope s3.heap.objs.size s3 (upd H2 s2.heap.objs.size (.lst [])) fp) [] (inner cap σ) Hc s9 ∧ tn i s9.heap ∧ (∀ b ∈ fp, Hc b = none) ∧ W i m xs Hc := fun {s9 H9 ys} I9 n9 => by
        obtain ⟨m', hm, w9⟩ := hN ys H9 n9
        refine ⟨m', hm, i + 1, ys, H9, (I9.unpinned (pins := [])).weak (by simp [inner]) (fun j w e => ?_), T.keep _ _ _ st7 fun b hb o e => (I9.pin (b, o) (List.mem_append_right _ (List.mem_append_right _ (mem_pinsAt hb e)))).1, fun b hb => ?_, w9⟩
        · cases j with
          | zero =>
            have e : (some none : Option (Option V)) = some (some w) := e
            cases e
          | succ j => exact e
        · obtain ⟨o, e, _⟩ := T.obj _ _ st7 b hb
          exact (I9.pin (b, o) (List.mem_append_right _ (List.mem_append_right _ (mem_pinsAt hb e)))).2.1
      refine thn (B.1 _ s8 _ H7 _ I8 (step v H7 y7)) fun ok s9 ⟨H9, I9, q9⟩ => ?_
      cases ok with
      | false =>
        rw [if_neg Bool.false_ne_true] at q9 ⊢
        exact again I9 q9
      | true =>
        rw [if_pos rfl] at q9 ⊢
        refine thn (B.2 _ s9 _ H9 _ I9 q9) fun uy s10 ⟨y, H10, I10, r10, hp, hl, n10⟩ => ?_
        refine thn (mt_append _ s10 _ H10 (.ref s2.heap.objs.size) [y] (.ref s2.heap.objs.size) [uy] (fun _ H11 => N (xs ++ [y]) H11) I10 rfl (.cons r10 .nil) ⟨_, xs, y, rfl, rfl, hp, hl, n10⟩) fun _ s11 ⟨_, H11, I11, _, n11⟩ => ?_
        exact again I11 n11
  exact codeAny_compStart_list loop (T.self _ _ _ _ _ st4 loop)
theorem pe_comp {scope : Scope} {x : Str} {px pos : Pos} {elt iter : Expr} {ifs : List Expr} {cn : List Str} {cap : List Nat} {wi : TI} {tc : TT} {te : TE}
    (hc : X.calm = true) (S : CompScope X scope) (hx : scope.names.lookup x = some .local) (hnd : (x :: cn).Nodup) (hcap : Caps X scope cn cap) (hi : PI X (.Name x px) iter wi)
    (body : ∀ (C : Addr) (s : Shared) (H : Hp) (fp : List Addr), PTs (cxComp X (x :: cn) scope C s H fp) ifs tc ∧ PE (cxComp X (x :: cn) scope C s H fp) elt te)
    (hs : ∀ x, foldedSetIterable iter X.env x = pure x := by intro _; rfl) : PE X (.ListComp elt [⟨.Name x px, iter, ifs, 0⟩] scope pos) (tComp cap wi tc te) := by
  intro pins s σ H Q I h
  rw [eval_ListComp]
  refine wpAny_comprehension_free (use := none) rfl hs (S.clos I) S.kind S.names (thn (hi pins s σ H _ I h) fun xv s1 h1 => thn h1 fun itv s2 h2 => ?_)
  obtain ⟨it, fp, tn, J, H2, e, I2, T, st2, f2, q⟩ := h2
  subst e
  refine comp_core (RR := fun acc C => compPost (model X.prog X.w) X.A X.xe none (EP X pins σ Q) acc C) S I2 hc hcap hx hnd T st2 f2 body q ?_
  intro p C s3 s' H3 Hf σ' I3 hC J' qf
  subst hC
  have I4 := comp_out I3 J' f2
  obtain ⟨m, hn, _⟩ := J'.loc
  refine ⟨m, hn, fun h' hs' => ?_⟩
  refine ⟨.ref p, Hf, ?_, rfl, qf⟩
  have f := I3.fpOk (H' := Hf) (Nat.le_refl _) J'.free
  exact I4.turned (t' := s'.toks) (it := s3.heap.objs.size) (fun b o hb e => (hs'.2 b hb).trans e) f.1 f.2.1 f.2.2.2.1 f.2.2.2.2.1 f.2.2.2.2.2
end
end L2
set_option Elab.async false
set_option maxRecDepth 100000
namespace L2
open PySem PySem.Spec PyProof.Rows
theorem bt_len : bootBuiltins "len" = some (.builtin "len") := by decide +kernel
theorem bt_isinstance : bootBuiltins "isinstance" = some (.builtin "isinstance") := by decide +kernel
theorem bt_sorted : bootBuiltins "sorted" = some (.builtin "sorted") := by decide +kernel
theorem bt_list : bootBuiltins "list" = some (.type "list") := by decide +kernel
theorem bt_str : bootBuiltins "str" = some (.type "str") := by decide +kernel
noncomputable def kitC (T c : String) : Option Bool := if (T == c) = true then some true else if PySem.W.kitMeta c = true then (fastBuiltinMro T).map (·.contains (.type c)) else none
theorem kit_of {K : PySem.W.Frag} {T c : String} {b : Bool} (h : kitC T c = some b) : PySem.W.kitOne K (.type T) (.type c) = some b := by
  unfold kitC at h
  unfold PySem.W.kitOne
  by_cases e : T = c
  · subst e
    rw [if_pos (by simp)] at h
    rw [if_pos (by simp)]
    exact h
  · rw [if_neg (by simpa using e)] at h
    rw [if_neg (by intro z; exact e (by simpa using z))]
    exact h
structure DefOk (P : Program) (w : World) (K : PySem.W.Frag) (mg : Str → Option Value) (base : Heap) (x : Str) (k : Nat) (ps : List Str) (sp : Sp) : Prop where
  ex : ∃ f fd, FnOk P w K mg base CX0 k f fd ps sp ∧ mg x = some (.ref f) ∧ PySem.W.keepIn K (.ref f) = true ∧ Binds K fd ps []
section
variable {X : Cx} {x : Str} {k j : Nat} {ps : List Str} {sp : Sp} {e : Expr} {es : List Expr} {t : TA} {p pos : Pos}
theorem pe_def (F : DefOk X.prog X.w X.K X.mg X.base x k ps sp) (hr : Room j X.A) (hj : k ≤ j) (hg : Gl X x) (ha : PA X (e :: es) t) (hdb : (x == ("__debug__" : Str)) = false := by decide)
    (he : starEach (e :: es) X.env = (false, eval e X.env) :: starEach es X.env := by rfl) (hpl : (backTo pos (starEach es X.env)).any (·.1) = false := by rfl) :
    PE X (.Call (.Name x p) (e :: es) [] pos) (tCall sp [] E0 t) := by
  obtain ⟨f, fd, G, m, kp, b⟩ := F.ex
  exact pe_call G (hr.mono hj) hg m kp b .nil pass0 ha hdb he hpl
theorem pe_def0 (F : DefOk X.prog X.w X.K X.mg X.base x k ps sp) (hr : Room j X.A) (hj : k ≤ j) (hg : Gl X x) (hdb : (x == ("__debug__" : Str)) = false := by decide) :
    PE X (.Call (.Name x p) [] [] pos) (tCall sp [] E0 tNil) := by
  obtain ⟨f, fd, G, m, kp, b⟩ := F.ex
  exact pe_call0 G (hr.mono hj) hg m kp b .nil pass0 hdb
end
theorem def_of {P : Program} {w : World} {K : PySem.W.Frag} {mg : Str → Option Value} {base : Heap} {x : Str} {st : Stmt} {f : Addr} {fd : FuncData} {k : Nat} {ps : List Str} {sp : Sp} (F : Fun K x x st f fd) (m : mg x = some (.ref f)) (b : Binds K fd ps []) (G : FnOk P w K mg base CX0 k f fd ps sp) : DefOk P w K mg base x k ps sp :=
  ⟨f, fd, G, m, F.kp, b⟩
theorem free_of {X : Cx} {scope : Scope} (h : (scope.names.all fun p => p.2 != .free || X.env.scope.names.lookup p.1 == some .cell || X.env.scope.names.lookup p.1 == some .free) = true) :
    ∀ y ∈ scope.names, y.2 = .free → X.env.scope.names.lookup y.1 = some .cell ∨ X.env.scope.names.lookup y.1 = some .free := fun y hy hf => by
  have := List.all_eq_true.mp h y hy
  rw [hf] at this
  simpa using this
theorem Same.new {H : Hp} {p : Addr} {o : HO} (h : H p = none) : Same H (upd H p o) := fun b u e => by rw [upd_ne (ne_of_none e h)]; exact e
theorem Same.put {H H' : Hp} {p : Addr} {o : HO} (s : Same H H') (h : H p = none) : Same H (upd H' p o) := fun b u e => by rw [upd_ne (ne_of_none e h)]; exact s b u e
noncomputable def Its (x : Str) : It := ⟨fun i _ => i < x.cps.size, fun i H v H' => H' = H ∧ ∃ c, x.cps[i]? = some c ∧ v = .str ⟨#[c]⟩, fun i _ => i = x.cps.size⟩
noncomputable def StrIt (it : Addr) (x : Str) (t : Tok) (i : Nat) (h : Heap) : Prop := h.IsStrIter it "str_ascii_iterator" x t i ∨ h.IsStrIter it "str_iterator" x t i
theorem turn_str {P : Program} {w : World} {K : PySem.W.Frag} {tg : Expr} (x : Str) (t : Tok) (it : Addr) : Turn P w K tg (Its x) [it] it (StrIt it x t) where
  mem := by simp
  obj := fun i h st b hb => by
    have e : b = it := by simpa using hb
    subst e
    rcases st with ⟨o, e, c, d⟩ | ⟨o, e, c, d⟩ <;> exact ⟨o, e, fun v z => by rw [d] at z; cases z⟩
  keep := fun i h h' st k => by
    rcases st with ⟨o, e, r⟩ | ⟨o, e, r⟩
    · exact .inl ⟨o, k it (by simp) o e, r⟩
    · exact .inr ⟨o, k it (by simp) o e, r⟩
  item := by
    intro X hP hw hK hc i pins s σ H E I hf st hg
    subst hP hw hK
    obtain ⟨f0, f1, f2, f3, f4, f5⟩ := hf it (by simp)
    rcases st with st | st
    · refine (Walks.strAscii (prog := X.prog) (w := X.w) (I.ok.hd hc) it x t).item i s _ _ hg st fun v h' tk hv st' kk => ?_
      obtain ⟨c, u, hcx, rfl⟩ := hv
      have I1 := I.turned (h' := h') (t' := tk) (fun b o hb e => kk b o (by simpa using hb) e) f0 f1 f3 f4 f5
      obtain ⟨o, e, hc', d⟩ := id st'
      exact ⟨_, rfl, go_of (s := { s with heap := h', toks := tk }) e hc' d (by decide) ⟨.str ⟨#[c]⟩, H, I1, ⟨u, rfl⟩, ⟨rfl, c, hcx, rfl⟩, .inl st', fun b hb => (hf b hb).1⟩⟩
    · refine (Walks.strWide (prog := X.prog) (w := X.w) (I.ok.hd hc) it x t).item i s _ _ hg st fun v h' tk hv st' kk => ?_
      obtain ⟨c, u, hcx, rfl⟩ := hv
      have I1 := I.turned (h' := h') (t' := tk) (fun b o hb e => kk b o (by simpa using hb) e) f0 f1 f3 f4 f5
      obtain ⟨o, e, hc', d⟩ := id st'
      exact ⟨_, rfl, go_of (s := { s with heap := h', toks := tk }) e hc' d (by decide) ⟨.str ⟨#[c]⟩, H, I1, ⟨u, rfl⟩, ⟨rfl, c, hcx, rfl⟩, .inr st', fun b hb => (hf b hb).1⟩⟩
  done := by
    intro X hP hw hK hc i pins s σ H E I hf st hg
    subst hP hw hK
    obtain ⟨f0, f1, f2, f3, f4, f5⟩ := hf it (by simp)
    have hg : i = x.cps.size := hg
    subst hg
    rcases st with st | st
    · exact (Walks.strAscii (prog := X.prog) (w := X.w) (I.ok.hd hc) it x t).done s _ _ st fun h' tk kk => ⟨rfl, I.turned (fun b o hb e => kk b o (by simpa using hb) e) f0 f1 f3 f4 f5⟩
    · exact (Walks.strWide (prog := X.prog) (w := X.w) (I.ok.hd hc) it x t).done s _ _ st fun h' tk kk => ⟨rfl, I.turned (fun b o hb e => kk b o (by simpa using hb) e) f0 f1 f3 f4 f5⟩
  self := fun _ _ _ _ _ st h => by
    rcases st with st | st
    · exact wpAny_pyIter_striter_ascii st h
    · exact wpAny_pyIter_striter_wide st h
section
variable {X : Cx} {tg : Expr}
noncomputable def iAny (K : PySem.W.Frag) (tl : TE) : TI := fun σ H R => tl σ H fun v H1 => match v with
  | .str x => R (Its x) H1
  | .ref a => ((∃ xs, SqL K H1 a xs) ∧ R (Itl K a) H1) ∨ ((∃ xs, SqT K H1 a xs) ∧ R (Itt K a) H1)
  | _ => False
theorem pi_any {l : Expr} {tl : TE} (hl : PE X l tl) : PI X tg l (iAny X.K tl) := by
  intro pins s σ H R I h
  refine thn (hl pins s σ H _ I h) fun v s1 ⟨x, H1, I1, r1, q1⟩ => ?_
  have one : ∀ b ∈ [s1.heap.objs.size], FpOk X pins H1 b := fun b hb => by
    have e : b = s1.heap.objs.size := by simpa using hb
    subst e
    exact I1.fpOk (Nat.le_refl _) (I1.hok.fresh (Nat.le_refl _))
  cases x with
  | str z =>
    obtain ⟨t, rfl⟩ := r1
    have q1 : R (Its z) H1 := q1
    cases ha : z.cps.all (· < 128)
    · exact wpAny_pyIter_wide ha ⟨s1.heap.objs.size, [s1.heap.objs.size], _, _, H1, rfl, I1.kept (t' := s1.toks) fun b o e => Heap.get?_push_of_some _ e, turn_str z t _, .inr ⟨_, Heap.get?_push_size _ rfl, rfl, rfl⟩, one, q1⟩
    · exact wpAny_pyIter_ascii ha ⟨s1.heap.objs.size, [s1.heap.objs.size], _, _, H1, rfl, I1.kept (t' := s1.toks) fun b o e => Heap.get?_push_of_some _ e, turn_str z t _, .inl ⟨_, Heap.get?_push_size _ rfl, rfl, rfl⟩, one, q1⟩
  | ref a =>
    cases r1
    have q1 : ((∃ xs, SqL X.K H1 a xs) ∧ R (Itl X.K a) H1) ∨ ((∃ xs, SqT X.K H1 a xs) ∧ R (Itt X.K a) H1) := q1
    rcases q1 with ⟨⟨xs, hq⟩, q⟩ | ⟨⟨xs, hq⟩, q⟩
    · obtain ⟨its, rv, p, hz⟩ := I1.list hq
      exact wpAny_pyIter_list p.isList ⟨s1.heap.objs.size, [s1.heap.objs.size], _, _, H1, rfl, I1.kept (t' := s1.toks) fun b o e => Heap.get?_push_of_some _ e, turn_list a _, ⟨_, Heap.get?_push_size _ rfl, rfl, rfl⟩, one, q⟩
    · obtain ⟨its, rv, p, hz⟩ := I1.tuple hq
      exact wpAny_pyIter_tuple (show s1.heap.IsTuple a its.toArray from p) ⟨s1.heap.objs.size, [s1.heap.objs.size], _, _, H1, rfl, I1.kept (t' := s1.toks) fun b o e => Heap.get?_push_of_some _ e, turn_tuple a _, ⟨_, Heap.get?_push_size _ rfl, rfl, rfl⟩, one, q⟩
  | _ => exact (show False from q1).elim
end
structure Yields (J : It) (H : Hp) (xs : List V) : Prop where
  go : ∀ i H', Same H H' → i < xs.length → J.go i H'
  stop : ∀ H', Same H H' → J.stop xs.length H'
  yld : ∀ i H' x H'', Same H H' → i < xs.length → J.yld i H' x H'' → H'' = H' ∧ xs[i]? = some x
noncomputable def signsV (x : Str) : List V := x.cps.toList.map fun c => .str ⟨#[c]⟩
theorem yields_str (x : Str) (H : Hp) : Yields (Its x) H (signsV x) where
  go := fun i H' _ hi => by
    have : (signsV x).length = x.cps.size := by simp [signsV]
    show i < x.cps.size
    omega
  stop := fun H' _ => by
    show (signsV x).length = x.cps.size
    simp [signsV]
  yld := fun i H' v H'' _ _ y => by
    obtain ⟨rfl, c, hc, rfl⟩ := y
    refine ⟨rfl, ?_⟩
    simp only [signsV, List.getElem?_map, Array.getElem?_toList, hc, Option.map_some]
theorem yields_range (lo : Int) (n : Nat) (H : Hp) : Yields (Itr lo n) H ((List.range n).map fun (i : Nat) => V.int (lo + (i : Int))) where
  go := fun i H' _ hi => by
    show i < n
    simpa using hi
  stop := fun H' _ => by
    show n ≤ ((List.range n).map fun (i : Nat) => V.int (lo + (i : Int))).length
    simp
  yld := fun i H' v H'' _ hi y => by
    obtain ⟨rfl, rfl⟩ := y
    rw [List.length_map, List.length_range] at hi
    refine ⟨rfl, ?_⟩
    simp [hi]
theorem yields_list {K : PySem.W.Frag} {a : Addr} {xs : List V} {H : Hp} (h : SqL K H a xs) : Yields (Itl K a) H xs where
  go := fun i H' s hi => ⟨xs, xs[i], s.seq h, by simp [hi]⟩
  stop := fun H' s => ⟨xs, s.seq h, Nat.le_refl _⟩
  yld := fun i H' v H'' s _ y => ⟨y.1, y.2 xs (s.seq h)⟩
section
variable {X : Cx}
noncomputable def rPlus (K : PySem.W.Frag) : R2 := fun x y H Q => match x, y with
  | .int i, .int j => Q (.int (i + j)) H
  | .str a, .str b => a.length + b.length ≤ sizeLine ∧ Q (.str (a ++ b)) H
  | .ref a, .ref b => ∃ xs ys, Rd H a (.lst xs) ∧ Rd H b (.lst ys) ∧ xs.length + ys.length ≤ sizeLine ∧ ∀ p, H p = none → Q (.ref p) (upd H p (.lst (xs ++ ys)))
  | _, _ => False
theorem op_catS : OpR X (binaryOp .Add) (fun x y H Q => ∃ a b xs ys, x = .ref a ∧ y = .ref b ∧ Rd H a (.lst xs) ∧ Rd H b (.lst ys) ∧ xs.length + ys.length ≤ sizeLine ∧ ∀ p, H p = none → Q (.ref p) (upd H p (.lst (xs ++ ys)))) := by
  intro pins s σ H x y v u Q I rx ry h
  obtain ⟨l, b, xs, zs, rfl, rfl, hH, hB, hz, q⟩ := h
  cases rx
  cases ry
  obtain ⟨z, its, n, r, e⟩ := hH.ok I.hok
  obtain ⟨z2, its2, n2, r2, e2⟩ := hB.ok I.hok
  have hl := r.length
  have hl2 := r2.length
  refine PySem.P.add_list e e2 ?_ (by rw [List.size_toArray, List.size_toArray]; omega)
  have ea : its.toArray ++ its2.toArray = (its ++ its2).toArray := by simp
  rw [ea]
  exact ⟨.ref _, _, I.lnew (t' := s.toks) (r.append r2) (by rw [List.length_append]; omega), rfl, q _ I.fresh⟩
theorem op_plus : OpR X (binaryOp .Add) (rPlus X.K) := by
  intro pins s σ H x y v u Q I rx ry h
  cases x with
  | int i => cases y with
    | int j => exact op_add pins s σ H _ _ v u Q I rx ry ⟨i, j, rfl, rfl, h⟩
    | _ => exact (show False from h).elim
  | str a => cases y with
    | str b => exact op_add_str pins s σ H _ _ v u Q I rx ry ⟨a, b, rfl, rfl, h.1, h.2⟩
    | _ => exact (show False from h).elim
  | ref a => cases y with
    | ref b =>
      obtain ⟨xs, ys, h1, h2, h3, h4⟩ := h
      exact op_catS pins s σ H _ _ v u Q I rx ry ⟨a, b, xs, ys, rfl, rfl, h1, h2, h3, h4⟩
    | _ => exact (show False from h).elim
  | _ => exact (show False from h).elim
noncomputable def rOrd (fi : Int → Int → Bool) (fs : List Nat → List Nat → Bool) : R2 := fun x y H Q => match x, y with
  | .int i, .int j => Q (.bl (fi i j)) H
  | .str a, .str b => Q (.bl (fs a.cps.toList b.cps.toList)) H
  | _, _ => False
theorem ord_of {f : Value → Value → Sem Value} {fi : Int → Int → Bool} {fs : List Nat → List Nat → Bool} (hi : OpR X f (rI0 fun i j => .bl (fi i j)))
    (hs : ∀ (s : Shared) (a b : Str) (t u : Tok) (Q : Value → Shared → Prop), Q (.bool (fs a.cps.toList b.cps.toList)) s → wpAny (model X.prog X.w) X.A (f (.str a t) (.str b u)) Q X.xe s) : OpR X f (rOrd fi fs) := by
  intro pins s σ H x y v u Q I rx ry h
  cases x with
  | int i => cases y with
    | int j => exact hi pins s σ H _ _ v u Q I rx ry ⟨i, j, rfl, rfl, h⟩
    | _ => exact (show False from h).elim
  | str a => cases y with
    | str b =>
      obtain ⟨t, rfl⟩ := rx
      obtain ⟨t', rfl⟩ := ry
      exact hs s a b t t' _ ⟨.bl _, H, I, rfl, h⟩
    | _ => exact (show False from h).elim
  | _ => exact (show False from h).elim
theorem op_ltU : OpR X (compareOp .Lt) (rOrd (fun i j => decide (i < j)) fun a b => decide (a < b)) := ord_of op_lt fun _ _ _ _ _ _ h => lt_str h
theorem op_leU : OpR X (compareOp .LtE) (rOrd (fun i j => decide (i ≤ j)) fun a b => !decide (b < a)) := ord_of op_le fun _ _ _ _ _ _ h => PySem.P.le_str h
theorem op_gtU : OpR X (compareOp .Gt) (rOrd (fun i j => decide (j < i)) fun a b => decide (b < a)) := ord_of op_gt fun _ _ _ _ _ _ h => PySem.P.gt_str h
noncomputable def rMul (K : PySem.W.Frag) : R2 := fun x y H Q => match x, y with
  | .int i, .int j => CMul i j ∧ Q (.int (i * j)) H
  | .ref l, .int k => ∃ xs, H l = some (.lst xs) ∧ -(2 ^ 63) ≤ k ∧ k < 2 ^ 63 ∧ xs.length * k.toNat ≤ sizeLine ∧ ∀ p, H p = none → Q (.ref p) (upd H p (.lst (List.replicate k.toNat xs).flatten))
  | _, _ => False
theorem op_mulU : OpR X (binaryOp .Mult) (rMul X.K) := by
  intro pins s σ H x y v u Q I rx ry h
  cases x with
  | int i => cases y with
    | int j => exact op_mul pins s σ H _ _ v u Q I rx ry ⟨i, j, rfl, rfl, h.1, h.2⟩
    | _ => exact (show False from h).elim
  | ref l => cases y with
    | int k =>
      obtain ⟨xs, h1, h2, h3, h4, h5⟩ := h
      exact op_rep pins s σ H _ _ v u Q I rx ry ⟨l, k, xs, rfl, rfl, h1, h2, h3, h4, h5⟩
    | _ => exact (show False from h).elim
  | _ => exact (show False from h).elim
noncomputable def rAt (K : PySem.W.Frag) : R2 := fun x y H Q => match x, y with
  | .str z, .int i => z.length ≤ sizeLine ∧ ∃ c, atI z.cps.toList i = some c ∧ Q (.str ⟨#[c]⟩) H
  | .ref p, .int i => (∃ xs v, SqL K H p xs ∧ atI xs i = some v ∧ Q v H) ∨ (∃ xs v, SqT K H p xs ∧ atI xs i = some v ∧ Q v H)
  | _, _ => False
theorem ix_any : IxR X (rAt X.K) := by
  intro value slice pins s σ H x y v u Q I rx ry q hs
  cases x with
  | str z => cases y with
    | int i =>
      obtain ⟨hz, c, hc, q⟩ := q
      exact ix_str value slice pins s σ H _ _ v u Q I rx ry ⟨z, i, c, rfl, rfl, hz, hc, q⟩ hs
    | _ => exact (show False from q).elim
  | ref p => cases y with
    | int i =>
      rcases q with ⟨xs, w', h1, h2, h3⟩ | ⟨xs, w', h1, h2, h3⟩
      · exact ix_list value slice pins s σ H _ _ v u Q I rx ry ⟨p, xs, i, w', rfl, rfl, h1, h2, h3⟩ hs
      · exact ix_tup value slice pins s σ H _ _ v u Q I rx ry ⟨p, xs, i, w', rfl, rfl, h1, h2, h3⟩ hs
    | _ => exact (show False from q).elim
  | _ => exact (show False from q).elim
noncomputable def rLen (K : PySem.W.Frag) : List V → Hp → VK → Prop := fun vs H Q => match vs with
  | [.str z] => z.length ≤ sizeLine ∧ Q (.int z.length) H
  | [.ref p] => ∃ ys, (SqL K H p ys ∨ SqT K H p ys) ∧ Q (.int ys.length) H
  | _ => False
theorem call_lenU : CallR X (.builtin "len") (rLen X.K) := by
  intro pins s σ H vs us Q I r h
  match vs, h with
  | [.str z], h => exact call_len_str pins s σ H _ us Q I r ⟨z, rfl, h.1, h.2⟩
  | [.ref p], h =>
    obtain ⟨ys, h1, h2⟩ := h
    exact call_len_seq pins s σ H _ us Q I r ⟨p, ys, rfl, h1, h2⟩
theorem strsAre_of {ys : List Str} : ∀ {us : List Value}, Vals (ys.map V.str) us → StrsAre us ys := by
  induction ys with
  | nil => intro us r; rw [List.map_nil] at r; cases r; exact .nil
  | cons n ns ih =>
    intro us r
    rw [List.map_cons] at r
    cases r with
    | cons r1 r2 =>
      obtain ⟨t, e⟩ := r1
      subst e
      exact .cons n t (ih r2)
noncomputable def rJoin (K : PySem.W.Frag) : V → List V → Hp → VK → Prop := fun x vs H Q => ∃ z l ys, x = .str z ∧ vs = [.ref l] ∧ SqL K H l (ys.map V.str) ∧ (ys.map (·.length)).sum + ys.length * z.length ≤ 16777216 ∧ Q (.str (Txt.join z ys)) H
theorem mt_join : MtR X "str.join" (rJoin X.K) := by
  intro pins s σ H x vs v us Q I rx rv h
  obtain ⟨z, l, ys, rfl, rfl, hl, hz, q⟩ := h
  obtain ⟨t, rfl⟩ := rx
  obtain ⟨u, rfl, ru⟩ := vals1 rv
  cases ru
  obtain ⟨its, r, pl, _⟩ := I.list hl
  exact join_list pl.isList (by simpa using strsAre_of r) hz fun t' k => ⟨.str _, H, I.tok k, ⟨t', rfl⟩, q⟩
end
end L2
set_option Elab.async false
set_option maxRecDepth 100000
namespace L2
open PySem PySem.Spec PyProof.Rows
structure EqTy (K : PySem.W.Frag) (k : Nat) {α : Type} [DecidableEq α] (R : Hp → V → α → Prop) : Prop where
  fn : ∀ {X : Cx} {pins : List (Addr × Obj)} {σ : St} {H : Hp} {s : Shared} {x : V} {a b : α}, X.K = K → Inv X pins σ H s → R H x a → R H x b → a = b
  eq : ∀ {X : Cx} {pins : List (Addr × Obj)} {σ : St} {H : Hp} {s : Shared} {x y : V} {u v : Value} {a b : α} (A : Around), X.K = K → Inv X pins σ H s → A.units + k < cLine → RelV x u → RelV y v → R H x a → R H y b → SeqAt.EqAt A s u v (decide (a = b))
  rc : ∀ {X : Cx} {pins : List (Addr × Obj)} {σ : St} {H : Hp} {s : Shared} {x y : V} {u v : Value} {a b : α} (A : Around), X.K = K → Inv X pins σ H s → A.units + k < cLine → RelV x u → RelV y v → R H x a → R H y b → SeqAt.RcAt A s u v (decide (a = b)) ∧ SeqAt.RcNeAt A s u v (!decide (a = b))
noncomputable def isStr : Hp → V → Str → Prop := fun _ x a => x = .str a
noncomputable def isInt : Hp → V → Int → Prop := fun _ x a => x = .int a
noncomputable def isBl : Hp → V → Bool → Prop := fun _ x a => x = .bl a
theorem dec_beq {α : Type} [DecidableEq α] [BEq α] [LawfulBEq α] (a b : α) : (a == b) = decide (a = b) := by
  by_cases h : a = b
  · subst h; simp
  · rw [decide_eq_false h]; simpa using h
theorem eqStr {K : PySem.W.Frag} : EqTy K 0 isStr where
  fn := fun _ _ h1 h2 => by cases h1; cases h2; rfl
  eq := fun A _ _ _ r1 r2 h1 h2 => by
    cases h1; cases h2
    obtain ⟨t, rfl⟩ := r1
    obtain ⟨t', rfl⟩ := r2
    rw [← dec_beq]
    exact SeqAt.EqAt.str_str _ _ _ _
  rc := fun A _ _ _ r1 r2 h1 h2 => by
    cases h1; cases h2
    obtain ⟨t, rfl⟩ := r1
    obtain ⟨t', rfl⟩ := r2
    rw [← dec_beq]
    exact ⟨SeqAt.RcAt.str_str _ _ _ _, SeqAt.RcNeAt.str_str _ _ _ _⟩
theorem eqInt {K : PySem.W.Frag} : EqTy K 0 isInt where
  fn := fun _ _ h1 h2 => by cases h1; cases h2; rfl
  eq := fun A _ _ _ r1 r2 h1 h2 => by
    cases h1; cases h2
    obtain ⟨t, rfl⟩ := r1
    obtain ⟨t', rfl⟩ := r2
    rw [← dec_beq]
    exact SeqAt.EqAt.int_int _ _ _ _
  rc := fun A _ _ _ r1 r2 h1 h2 => by
    cases h1; cases h2
    obtain ⟨t, rfl⟩ := r1
    obtain ⟨t', rfl⟩ := r2
    rw [← dec_beq]
    exact ⟨SeqAt.RcAt.int_int _ _ _ _, SeqAt.RcNeAt.int_int _ _ _ _⟩
theorem eqBl {K : PySem.W.Frag} : EqTy K 0 isBl where
  fn := fun _ _ h1 h2 => by cases h1; cases h2; rfl
  eq := fun A _ _ _ r1 r2 h1 h2 => by
    cases h1; cases h2
    cases r1; cases r2
    rw [← dec_beq]
    exact SeqAt.EqAt.bool_bool _ _
  rc := fun A _ _ _ r1 r2 h1 h2 => by
    cases h1; cases h2
    cases r1; cases r2
    rw [← dec_beq]
    exact ⟨SeqAt.RcAt.bool_bool _ _, SeqAt.RcNeAt.bool_bool _ _⟩
theorem Paired.at' {α β : Type} {F : α → β → Prop} : ∀ {l₁ : List α} {l₂ : List β} {i : Nat} {a : α} {b : β}, Paired F l₁ l₂ → l₁[i]? = some a → l₂[i]? = some b → F a b
  | _, _, _, _, _, .nil, e, _ => by simp at e
  | _, _, 0, _, _, .cons h _, e1, e2 => by simp at e1 e2; subst e1; subst e2; exact h
  | _, _, i + 1, _, _, .cons _ t, e1, e2 => Paired.at' (i := i) t (by simpa using e1) (by simpa using e2)
theorem paired_fn {α β : Type} {F : α → β → Prop} (hf : ∀ a b c, F a b → F a c → b = c) : ∀ {xs : List α} {as bs : List β}, Paired F xs as → Paired F xs bs → as = bs
  | _, _, _, .nil, .nil => rfl
  | _, _, _, .cons h t, .cons h' t' => by rw [hf _ _ _ h h', paired_fn hf t t']
theorem all_dec {α : Type} [DecidableEq α] : ∀ (as bs : List α) (hl : as.length = bs.length), ((List.range as.length).all fun j => decide (as[j]? = bs[j]?)) = decide (as = bs) := by
  intro as bs hl
  apply Bool.eq_iff_iff.mpr
  rw [decide_eq_true_iff, List.all_eq_true]
  constructor
  · intro h
    apply List.ext_getElem?
    intro i
    by_cases hi : i < as.length
    · exact of_decide_eq_true (h i (List.mem_range.mpr hi))
    · rw [List.getElem?_eq_none (by omega), List.getElem?_eq_none (by omega)]
  · rintro rfl i _
    simp
noncomputable def isLst (K : PySem.W.Frag) {α : Type} (R : Hp → V → α → Prop) : Hp → V → List α → Prop := fun H x as => ∃ l xs, x = .ref l ∧ SqL K H l xs ∧ Paired (R H) xs as
theorem items_eqAt {K : PySem.W.Frag} {k : Nat} {α : Type} [DecidableEq α] {R : Hp → V → α → Prop} (E : EqTy K k R) {X : Cx} {pins : List (Addr × Obj)} {σ : St} {H : Hp} {s : Shared} {A : Around} (hK : X.K = K) (I : Inv X pins σ H s) (hu : A.units + (k + 1) < cLine)
    {xs ys : List V} {us vs : List Value} {as bs : List α} (rx : Vals xs us) (ry : Vals ys vs) (px : Paired (R H) xs as) (py : Paired (R H) ys bs) :
    ∀ j (h1 : j < us.toArray.size) (h2 : j < vs.toArray.size), SeqAt.EqAt A.in1 s us.toArray[j] vs.toArray[j] (decide (as[j]? = bs[j]?)) := by
  intro j h1 h2
  have h1' : j < us.length := by simpa using h1
  have h2' : j < vs.length := by simpa using h2
  have lx := rx.length
  have ly := ry.length
  have lpx := Paired.length px
  have lpy := Paired.length py
  have ex : xs[j]? = some xs[j] := List.getElem?_eq_getElem (by omega)
  have ey : ys[j]? = some ys[j] := List.getElem?_eq_getElem (by omega)
  have ea : as[j]? = some as[j] := List.getElem?_eq_getElem (by omega)
  have eb : bs[j]? = some bs[j] := List.getElem?_eq_getElem (by omega)
  obtain ⟨u, hu', ru⟩ := rx.get ex
  obtain ⟨v, hv', rv⟩ := ry.get ey
  have e1 : us.toArray[j] = u := by
    rw [List.getElem?_eq_getElem h1'] at hu'
    simpa using hu'
  have e2 : vs.toArray[j] = v := by
    rw [List.getElem?_eq_getElem h2'] at hv'
    simpa using hv'
  rw [e1, e2, ea, eb]
  have := E.eq A.in1 hK I (show A.units + 1 + k < cLine by omega) ru rv (Paired.at' px ex ea) (Paired.at' py ey eb)
  have e3 : decide (some as[j] = some bs[j]) = decide (as[j] = bs[j]) := by simp
  rw [e3]
  exact this
theorem eqLst {K : PySem.W.Frag} {k : Nat} {α : Type} [DecidableEq α] {R : Hp → V → α → Prop} (E : EqTy K k R) : EqTy K (k + 1) (isLst K R) := by
  have fn : ∀ {X : Cx} {pins : List (Addr × Obj)} {σ : St} {H : Hp} {s : Shared} {x : V} {a b : List α}, X.K = K → Inv X pins σ H s → isLst K R H x a → isLst K R H x b → a = b := by
    intro X pins σ H s x a b hK I ha hb
    obtain ⟨l, xs, rfl, h1, p1⟩ := ha
    obtain ⟨l', ys, e, h2, p2⟩ := hb
    cases e
    subst hK
    have := I.list_inj h1 h2
    subst this
    exact paired_fn (F := R H) (fun _ _ _ p q => E.fn rfl I p q) p1 p2
  have rc : ∀ {X : Cx} {pins : List (Addr × Obj)} {σ : St} {H : Hp} {s : Shared} {x y : V} {u v : Value} {a b : List α} (A : Around), X.K = K → Inv X pins σ H s → A.units + (k + 1) < cLine → RelV x u → RelV y v → isLst K R H x a → isLst K R H y b →
      SeqAt.RcAt A s u v (decide (a = b)) ∧ SeqAt.RcNeAt A s u v (!decide (a = b)) := by
    intro X pins σ H s x y u v a b A hK I hu r1 r2 ha hb
    obtain ⟨l, xs, rfl, h1, p1⟩ := ha
    obtain ⟨l', ys, rfl, h2, p2⟩ := hb
    cases r1; cases r2
    subst hK
    obtain ⟨us, rx, plx, _⟩ := I.list h1
    obtain ⟨vs, ry, ply, _⟩ := I.list h2
    have lx := rx.length
    have ly := ry.length
    have lpx := Paired.length p1
    have lpy := Paired.length p2
    by_cases hl : a.length = b.length
    · have hsz : us.toArray.size = vs.toArray.size := by simp; omega
      have it := items_eqAt E rfl I hu rx ry p1 p2
      have ed : ((List.range us.toArray.size).all fun j => decide (a[j]? = b[j]?)) = decide (a = b) := by
        rw [← all_dec a b hl, List.size_toArray, ← lx, lpx]
      rw [← ed]
      exact ⟨SeqAt.RcAt.lists plx.isList ply.isList hsz (by omega) it, SeqAt.RcNeAt.lists plx.isList ply.isList hsz (by omega) it⟩
    · have hsz : (us.toArray.size != vs.toArray.size) = true := by simp; omega
      have ne : a ≠ b := fun e => hl (by rw [e])
      rw [decide_eq_false ne]
      exact ⟨SeqAt.RcAt.lists_lengths plx.isList ply.isList hsz (by omega), SeqAt.RcNeAt.lists_lengths plx.isList ply.isList hsz (by omega)⟩
  refine ⟨fn, ?_, rc⟩
  intro X pins σ H s x y u v a b A hK I hu r1 r2 ha hb
  have h := (rc A hK I hu r1 r2 ha hb).1
  obtain ⟨l, xs, rfl, h1, p1⟩ := id ha
  obtain ⟨l', ys, rfl, h2, p2⟩ := id hb
  cases r1; cases r2
  by_cases e : l = l'
  · subst e
    have : a = b := fn hK I ha hb
    rw [decide_eq_true this]
    exact SeqAt.EqAt.same _
  · exact SeqAt.EqAt.of_refs e h
section
variable {X : Cx}
theorem op_eqD {k j : Nat} {α : Type} [DecidableEq α] {R : Hp → V → α → Prop} (E : EqTy X.K k R) (hr : Room j X.A) (hk : k ≤ 10) : OpR X (compareOp .Eq) (fun x y H Q => ∃ a b, R H x a ∧ R H y b ∧ Q (.bl (decide (a = b))) H) := by
  intro pins s σ H x y v u Q I rx ry h
  obtain ⟨a, b, h1, h2, q⟩ := h
  exact (E.rc X.A rfl I (by have := hr.un; omega) rx ry h1 h2).1 _ _ _ _ ⟨.bl _, H, I, rfl, q⟩
theorem op_neD {k j : Nat} {α : Type} [DecidableEq α] {R : Hp → V → α → Prop} (E : EqTy X.K k R) (hr : Room j X.A) (hk : k ≤ 10) : OpR X (compareOp .NotEq) (fun x y H Q => ∃ a b, R H x a ∧ R H y b ∧ Q (.bl (!decide (a = b))) H) := by
  intro pins s σ H x y v u Q I rx ry h
  obtain ⟨a, b, h1, h2, q⟩ := h
  exact (E.rc X.A rfl I (by have := hr.un; omega) rx ry h1 h2).2 _ _ _ _ ⟨.bl _, H, I, rfl, q⟩
end
end L2
set_option Elab.async false
set_option linter.all false
set_option maxRecDepth 100000
set_option maxHeartbeats 4000000
namespace L2
open PySem PySem.Spec PyProof.Rows
class Rp (α : Type) where
  rel : PySem.W.Frag → Hp → V → α → Prop
  mono : ∀ {K : PySem.W.Frag} {H H' : Hp} {v : V} {a : α}, Same H H' → rel K H v a → rel K H' v a
theorem Same.rd {H H' : Hp} {a : Addr} {u : HO} (s : Same H H') (h : Rd H a u) : Rd H' a u := by
  rcases h with h | ⟨o, h⟩
  · exact .inl (s _ _ h)
  · exact .inr ⟨o, s _ _ h⟩
theorem Same.tup {K : PySem.W.Frag} {H H' : Hp} {a : Addr} {xs : List V} (e : Same H H') (h : SqT K H a xs) : SqT K H' a xs := by
  rcases h with h | h
  · exact .inl (e.rd h)
  · exact .inr h
noncomputable instance rpInt : Rp Int := ⟨fun _ _ v a => v = .int a, fun _ h => h⟩
noncomputable instance rpBool : Rp Bool := ⟨fun _ _ v a => v = .bl a, fun _ h => h⟩
noncomputable instance rpStr : Rp Str := ⟨fun _ _ v a => v = .str a ∧ a.length ≤ sizeLine, fun _ h => h⟩
noncomputable instance rpUnit : Rp Unit := ⟨fun _ _ v _ => v = .non, fun _ h => h⟩
noncomputable instance rpList {α : Type} [Rp α] : Rp (List α) :=
  ⟨fun K H v as => ∃ l xs, v = .ref l ∧ Rd H l (.lst xs) ∧ xs.length ≤ sizeLine ∧ Paired (Rp.rel K H) xs as,
   fun s ⟨l, xs, e, h, z, p⟩ => ⟨l, xs, e, s.rd h, z, Paired.imp' (fun _ _ r => Rp.mono s r) p⟩⟩
noncomputable instance rpPair {α β : Type} [Rp α] [Rp β] : Rp (α × β) :=
  ⟨fun K H v p => ∃ t a b, v = .ref t ∧ SqT K H t [a, b] ∧ Rp.rel K H a p.1 ∧ Rp.rel K H b p.2,
   fun s ⟨t, a, b, e, h, r1, r2⟩ => ⟨t, a, b, e, s.tup h, Rp.mono s r1, Rp.mono s r2⟩⟩
structure T3 (α β γ : Type) where
  a : α
  b : β
  c : γ
  deriving DecidableEq
structure Tp (α : Type) where
  l : List α
  deriving DecidableEq
noncomputable instance rpT3 {α β γ : Type} [Rp α] [Rp β] [Rp γ] : Rp (T3 α β γ) :=
  ⟨fun K H v p => ∃ t a b c, v = .ref t ∧ SqT K H t [a, b, c] ∧ Rp.rel K H a p.a ∧ Rp.rel K H b p.b ∧ Rp.rel K H c p.c,
   fun s ⟨t, a, b, c, e, h, r1, r2, r3⟩ => ⟨t, a, b, c, e, s.tup h, Rp.mono s r1, Rp.mono s r2, Rp.mono s r3⟩⟩
noncomputable instance rpTp {α : Type} [Rp α] : Rp (Tp α) :=
  ⟨fun K H v as => ∃ t xs, v = .ref t ∧ SqT K H t xs ∧ xs.length ≤ sizeLine ∧ Paired (Rp.rel K H) xs as.l,
   fun s ⟨l, xs, e, h, z, p⟩ => ⟨l, xs, e, s.tup h, z, Paired.imp' (fun _ _ r => Rp.mono s r) p⟩⟩
noncomputable instance rpOpt {α : Type} [Rp α] : Rp (Option α) :=
  ⟨fun K H v o => match o with | none => v = .non | some a => Rp.rel K H v a,
   fun {K H H' v o} s h => by cases o with | none => exact h | some a => exact Rp.mono (α := α) s h⟩
class RpA (α : Type) where
  n : Nat
  rel : PySem.W.Frag → Hp → List V → α → Prop
  mono : ∀ {K : PySem.W.Frag} {H H' : Hp} {v : List V} {a : α}, Same H H' → rel K H v a → rel K H' v a
  len : ∀ {K : PySem.W.Frag} {H : Hp} {v : List V} {a : α}, rel K H v a → v.length = n
noncomputable instance raNil : RpA Unit := ⟨0, fun _ _ vs _ => vs = [], fun _ h => h, fun h => by rw [h]; rfl⟩
noncomputable instance raCons {α β : Type} [Rp α] [RpA β] : RpA (α × β) :=
  ⟨RpA.n β + 1, fun K H vs p => ∃ v r, vs = v :: r ∧ Rp.rel K H v p.1 ∧ RpA.rel K H r p.2,
   fun s ⟨v, r, e, h1, h2⟩ => ⟨v, r, e, Rp.mono s h1, RpA.mono s h2⟩, fun ⟨v, r, e, h1, h2⟩ => by rw [e, List.length_cons, RpA.len h2]⟩
structure Ext (G H G' H' : Hp) : Prop where
  gg : Same G G'
  gh : Same G' H'
  hh : Same H H'
  no : ∀ b, G b = none → H b ≠ none → G' b = none
section
variable {G H G1 H1 G2 H2 G0 H0 : Hp} {p : Addr} {o : HO}
theorem Ext.refl (s : Same G H) : Ext G H G H := ⟨.refl _, s, .refl _, fun _ h _ => h⟩
theorem Ext.trans (x : Ext G H G1 H1) (y : Ext G1 H1 G2 H2) : Ext G H G2 H2 :=
  ⟨x.gg.trans y.gg, y.gh, x.hh.trans y.hh, fun b h1 h2 => y.no b (x.no b h1 h2) fun z => h2 (x.hh.free z)⟩
theorem Same.both (s : Same G H) : Same (upd G p o) (upd H p o) := fun b u e => by
  by_cases hb : b = p
  · subst hb
    rw [upd_same] at e ⊢
    exact e
  · rw [upd_ne hb] at e ⊢
    exact s b u e
theorem Ext.new (s : Same G H) (h : H p = none) : Ext G H (upd G p o) (upd H p o) :=
  ⟨Same.new (s.free h), s.both, Same.new h, fun b h1 h2 => by
    have hb : b ≠ p := fun z => h2 (by rw [z]; exact h)
    rw [upd_ne hb]
    exact h1⟩
theorem Ext.own (s : Same G H) (h : H p = none) : Ext G H G (upd H p o) := ⟨.refl _, s.trans (Same.new h), Same.new h, fun _ h _ => h⟩
theorem Ext.put (x : Ext G0 H0 G H) (h0 : H0 p = none) (hg : G p = none) : Ext G0 H0 G (upd H p o) := ⟨x.gg, x.gh.put hg, x.hh.put h0, x.no⟩
theorem Ext.frz (x : Ext G0 H0 G H) (h0 : H0 p = none) (hg : G p = none) (hh : H p = some o) : Ext G0 H0 (upd G p o) H :=
  ⟨x.gg.trans (Same.new hg), fun b u e => by
    by_cases hb : b = p
    · subst hb
      rw [upd_same] at e
      rw [hh]
      exact e
    · rw [upd_ne hb] at e
      exact x.gh b u e, x.hh, fun b h1 h2 => by
    have hb : b ≠ p := fun z => h2 (by rw [z]; exact h0)
    rw [upd_ne hb]
    exact x.no b h1 h2⟩
end
section
variable {K : PySem.W.Frag} {σ : St} {G : Hp}
noncomputable def EV (K : PySem.W.Frag) {α : Type} [Rp α] (te : TE) (σ : St) (G : Hp) (m : Option α) : Prop :=
  ∀ G1, Same G G1 → ∀ a, m = some a → ∀ H, Same G1 H → ∀ Q : VK, (∀ v G2 H2, Ext G1 H G2 H2 → Rp.rel K G2 v a → Q v H2) → te σ H Q
noncomputable def TV (t : TT) (σ : St) (G : Hp) (m : Option Bool) : Prop :=
  ∀ G1, Same G G1 → ∀ a, m = some a → ∀ H, Same G1 H → ∀ Q : Bool → Hp → Prop, (∀ G2 H2, Ext G1 H G2 H2 → Q a H2) → t σ H Q
noncomputable def AV (K : PySem.W.Frag) {α : Type} [RpA α] (t : TA) (σ : St) (G : Hp) (m : Option α) : Prop :=
  ∀ G1, Same G G1 → ∀ a, m = some a → ∀ H, Same G1 H → ∀ Q : List V → Hp → Prop, (∀ vs G2 H2, Ext G1 H G2 H2 → RpA.rel K G2 vs a → Q vs H2) → t σ H Q
noncomputable def LV (K : PySem.W.Frag) {α : Type} [Rp α] (t : TA) (σ : St) (G : Hp) (n : Nat) (m : Option (List α)) : Prop :=
  ∀ G1, Same G G1 → ∀ a, m = some a → ∀ H, Same G1 H → ∀ Q : List V → Hp → Prop, (∀ vs G2 H2, Ext G1 H G2 H2 → vs.length = n → Paired (Rp.rel K G2) vs a → Q vs H2) → t σ H Q
noncomputable def FV (K : PySem.W.Frag) {α : Type} [Rp α] (te : TE) (σ : St) (G : Hp) (m : Option (List α)) : Prop :=
  ∀ G1, Same G G1 → ∀ a, m = some a → ∀ H, Same G1 H → ∀ Q : VK, (∀ p vs G2 H2, Ext G1 H G2 H2 → H p = none → G2 p = none → H2 p = some (.lst vs) → vs.length ≤ sizeLine → Paired (Rp.rel K G2) vs a → Q (.ref p) H2) → te σ H Q
section
variable {α β γ δ : Type} [Rp α] [Rp β] [Rp γ] [Rp δ] {ta tb tc td : TE} {ma : Option α} {mb : Option β} {mc : Option γ}
theorem EV.run {te : TE} {H : Hp} {a : α} {Q : VK} {m : Option α} (e : EV K te σ G m) (hm : m = some a) (s : Same G H) (k : ∀ v G2 H2, Ext G H G2 H2 → Rp.rel K G2 v a → Q v H2) : te σ H Q := e G (.refl G) a hm H s Q k
theorem TV.run {t : TT} {H : Hp} {a : Bool} {Q : Bool → Hp → Prop} {m : Option Bool} (e : TV t σ G m) (hm : m = some a) (s : Same G H) (k : ∀ G2 H2, Ext G H G2 H2 → Q a H2) : t σ H Q := e G (.refl G) a hm H s Q k
theorem EV.of {te : TE} {m m' : Option α} (e : EV K te σ G m) (h : m = m') : EV K te σ G m' := h ▸ e
theorem FV.ev {te : TE} {m : Option (List α)} (e : FV K te σ G m) : EV K te σ G m := by
  intro G1 s1 a ha H sH Q k
  refine e G1 s1 a ha H sH Q fun p vs G2 H2 x h0 hg hh hz hp => ?_
  exact k _ _ _ (x.frz h0 hg hh) ⟨p, vs, rfl, .inl upd_same, hz, Paired.imp' (fun _ _ r => Rp.mono (Same.new hg) r) hp⟩
theorem ev_var {i : Nat} {v : V} {a : α} (h : σ[i]? = some (some v)) (r : Rp.rel K G v a) : EV K (tVar i) σ G (some a) := fun G1 s a' e H sH Q k => by
  cases e
  exact ⟨v, h, k v G1 H (.refl sH) (Rp.mono s r)⟩
theorem ev_c {v : V} {a : α} (h : ∀ G, Rp.rel K G v a) : EV K (tC v) σ G (some a) := fun G1 s a' e H sH Q k => by
  cases e
  exact k v G1 H (.refl sH) (h _)
theorem ev_i {i : Int} : EV K (tC (.int i)) σ G (some i) := ev_c fun _ => rfl
theorem ev_b {b : Bool} : EV K (tC (.bl b)) σ G (some b) := ev_c fun _ => rfl
theorem ev_s {x : Str} (h : x.length ≤ sizeLine := by decide +kernel) : EV K (tC (.str x)) σ G (some x) := ev_c fun _ => ⟨rfl, h⟩
theorem ev_bin {r : R2} {f : α → β → Option γ}
    (h : ∀ {G H : Hp} {v u : V} {a : α} {b : β} {c : γ}, Same G H → Rp.rel K G v a → Rp.rel K G u b → f a b = some c → ∀ {Q : VK}, (∀ w G2 H2, Ext G H G2 H2 → Rp.rel K G2 w c → Q w H2) → r v u H Q)
    (ea : EV K ta σ G ma) (eb : EV K tb σ G mb) : EV K (tOp r ta tb) σ G (ma.bind fun a => mb.bind fun b => f a b) := by
  intro G1 s1 c hc H sH Q k
  obtain ⟨a, ha, hc⟩ := Option.bind_eq_some_iff.mp hc
  obtain ⟨b, hb, hc⟩ := Option.bind_eq_some_iff.mp hc
  refine ea G1 s1 a ha H sH _ fun v G2 H2 x2 r2 => ?_
  refine eb G2 (s1.trans x2.gg) b hb H2 x2.gh _ fun u G3 H3 x3 r3 => ?_
  exact h x3.gh (Rp.mono x3.gg r2) r3 hc fun w G4 H4 x4 r4 => k w G4 H4 ((x2.trans x3).trans x4) r4
noncomputable instance decMul (i j : Int) : Decidable (CMul i j) := by unfold CMul; infer_instance
noncomputable instance decDiv (i j : Int) : Decidable (CDiv i j) := by unfold CDiv; infer_instance
noncomputable instance decPow (i j : Int) : Decidable (CPow i j) := by unfold CPow; infer_instance
noncomputable def mulO (a b : Int) : Option Int := if CMul a b then some (a * b) else none
noncomputable def divO (a b : Int) : Option Int := if CDiv a b then some (a / b) else none
noncomputable def modO (a b : Int) : Option Int := if 0 < b then some (a % b) else none
noncomputable def powO (a b : Int) : Option Int := if CPow a b then some (a ^ b.toNat) else none
theorem ite_some {p : Prop} [Decidable p] {α : Type} {a c : α} (h : (if p then some a else none) = some c) : p ∧ a = c := by
  by_cases hp : p
  · rw [if_pos hp] at h
    exact ⟨hp, Option.some.inj h⟩
  · rw [if_neg hp] at h
    cases h
section
variable {ia ib : Option Int}
theorem ev_add (ea : EV K ta σ G ia) (eb : EV K tb σ G ib) : EV K (tOp (rPlus K) ta tb) σ G (ia.bind fun a => ib.bind fun b => some (a + b)) :=
  ev_bin (fun s ra rb e Q k => by cases ra; cases rb; cases e; exact k _ _ _ (.refl s) rfl) ea eb
theorem ev_sub (ea : EV K ta σ G ia) (eb : EV K tb σ G ib) : EV K (tOp (rI0 fun i j => .int (i - j)) ta tb) σ G (ia.bind fun a => ib.bind fun b => some (a - b)) :=
  ev_bin (fun s ra rb e Q k => by cases ra; cases rb; cases e; exact ⟨_, _, rfl, rfl, k _ _ _ (.refl s) rfl⟩) ea eb
theorem ev_mul (ea : EV K ta σ G ia) (eb : EV K tb σ G ib) : EV K (tOp (rMul K) ta tb) σ G (ia.bind fun a => ib.bind fun b => mulO a b) :=
  ev_bin (fun s ra rb e Q k => by cases ra; cases rb; obtain ⟨h, rfl⟩ := ite_some e; exact ⟨h, k _ _ _ (.refl s) rfl⟩) ea eb
theorem ev_mod (ea : EV K ta σ G ia) (eb : EV K tb σ G ib) : EV K (tOp (rI (fun _ j => 0 < j) fun i j => .int (i % j)) ta tb) σ G (ia.bind fun a => ib.bind fun b => modO a b) :=
  ev_bin (fun s ra rb e Q k => by cases ra; cases rb; obtain ⟨h, rfl⟩ := ite_some e; exact ⟨_, _, rfl, rfl, h, k _ _ _ (.refl s) rfl⟩) ea eb
theorem ev_div (ea : EV K ta σ G ia) (eb : EV K tb σ G ib) : EV K (tOp (rI CDiv fun i j => .int (i / j)) ta tb) σ G (ia.bind fun a => ib.bind fun b => divO a b) :=
  ev_bin (fun s ra rb e Q k => by cases ra; cases rb; obtain ⟨h, rfl⟩ := ite_some e; exact ⟨_, _, rfl, rfl, h, k _ _ _ (.refl s) rfl⟩) ea eb
theorem ev_pow (ea : EV K ta σ G ia) (eb : EV K tb σ G ib) : EV K (tOp (rI CPow fun i j => .int (i ^ j.toNat)) ta tb) σ G (ia.bind fun a => ib.bind fun b => powO a b) :=
  ev_bin (fun s ra rb e Q k => by cases ra; cases rb; obtain ⟨h, rfl⟩ := ite_some e; exact ⟨_, _, rfl, rfl, h, k _ _ _ (.refl s) rfl⟩) ea eb
theorem ev_ord {p : Int → Int → Bool} {q : List Nat → List Nat → Bool} (ea : EV K ta σ G ia) (eb : EV K tb σ G ib) : EV K (tOp (rOrd p q) ta tb) σ G (ia.bind fun a => ib.bind fun b => some (p a b)) :=
  ev_bin (fun s ra rb e Q k => by cases ra; cases rb; cases e; exact k _ _ _ (.refl s) rfl) ea eb
theorem ev_eqI (ea : EV K ta σ G ia) (eb : EV K tb σ G ib) : EV K (tOp rEq ta tb) σ G (ia.bind fun a => ib.bind fun b => some (decide (a = b))) :=
  ev_bin (fun s ra rb e Q k => by cases ra; cases rb; cases e; exact ⟨rfl, k _ _ _ (.refl s) (by show V.bl _ = V.bl _; congr 1; simp)⟩) ea eb
theorem ev_neI (ea : EV K ta σ G ia) (eb : EV K tb σ G ib) : EV K (tOp rNe ta tb) σ G (ia.bind fun a => ib.bind fun b => some (!decide (a = b))) :=
  ev_bin (fun s ra rb e Q k => by cases ra; cases rb; cases e; exact ⟨rfl, k _ _ _ (.refl s) (by show V.bl _ = V.bl _; congr 1; simp)⟩) ea eb
end
section
variable {ba bb : Option Bool}
theorem ev_and (ea : EV K ta σ G ba) (eb : EV K tb σ G bb) : EV K (tAndV ta tb) σ G (ba.bind fun a => cond a bb (some false)) := by
  intro G1 s1 c hc H sH Q k
  obtain ⟨a, ha, hc⟩ := Option.bind_eq_some_iff.mp hc
  refine ea G1 s1 a ha H sH _ fun v G2 H2 x2 r2 => ?_
  cases r2
  refine ⟨_, rfl, ?_⟩
  cases a with
  | false => cases hc; exact iteF (k _ _ _ x2 rfl)
  | true => exact iteT (eb G2 (s1.trans x2.gg) c hc H2 x2.gh _ fun u G3 H3 x3 r3 => k _ _ _ (x2.trans x3) r3)
theorem tv_test (ea : EV K ta σ G ba) : TV (tTest ta) σ G ba := by
  intro G1 s1 c hc H sH Q k
  refine ea G1 s1 c hc H sH _ fun v G2 H2 x2 r2 => ?_
  cases r2
  exact ⟨_, rfl, k _ _ x2⟩
theorem tv_not {t : TT} (ea : TV t σ G ba) : TV (tNot t) σ G (ba.bind fun a => some (!a)) := by
  intro G1 s1 c hc H sH Q k
  obtain ⟨a, ha, hc⟩ := Option.bind_eq_some_iff.mp hc
  cases hc
  exact ea G1 s1 a ha H sH _ fun G2 H2 x2 => k _ _ x2
theorem tv_and {t u : TT} (ea : TV t σ G ba) (eb : TV u σ G bb) : TV (tAnd t u) σ G (ba.bind fun a => cond a bb (some false)) := by
  intro G1 s1 c hc H sH Q k
  obtain ⟨a, ha, hc⟩ := Option.bind_eq_some_iff.mp hc
  refine ea G1 s1 a ha H sH _ fun G2 H2 x2 => ?_
  cases a with
  | false => cases hc; exact iteF (k _ _ x2)
  | true => exact iteT (eb G2 (s1.trans x2.gg) c hc H2 x2.gh _ fun G3 H3 x3 => k _ _ (x2.trans x3))
theorem tv_or {t u : TT} (ea : TV t σ G ba) (eb : TV u σ G bb) : TV (tOr t u) σ G (ba.bind fun a => cond a (some true) bb) := by
  intro G1 s1 c hc H sH Q k
  obtain ⟨a, ha, hc⟩ := Option.bind_eq_some_iff.mp hc
  refine ea G1 s1 a ha H sH _ fun G2 H2 x2 => ?_
  cases a with
  | true => cases hc; exact iteT (k _ _ x2)
  | false => exact iteF (eb G2 (s1.trans x2.gg) c hc H2 x2.gh _ fun G3 H3 x3 => k _ _ (x2.trans x3))
theorem tv_tru {f : α → Bool} (h : ∀ {G : Hp} {v : V} {a : α}, Rp.rel K G v a → TruV K v G (f a)) (mn : ∀ {G H : Hp} {v : V} {k : Bool}, Same G H → TruV K v G k → TruV K v H k) (ea : EV K ta σ G ma) :
    TV (fun σ H Q => ta σ H fun x H' => ∃ k, TruV K x H' k ∧ Q k H') σ G (ma.bind fun a => some (f a)) := by
  intro G1 s1 c hc H sH Q k
  obtain ⟨a, ha, hc⟩ := Option.bind_eq_some_iff.mp hc
  cases hc
  refine ea G1 s1 a ha H sH _ fun v G2 H2 x2 r2 => ?_
  exact ⟨_, mn x2.gh (h r2), k _ _ x2⟩
end
end
end
end L2
set_option Elab.async false
set_option linter.all false
set_option maxRecDepth 100000
set_option maxHeartbeats 4000000
namespace L2
open PySem PySem.Spec PyProof.Rows
section
variable {K : PySem.W.Frag} {σ : St} {G : Hp} {α β γ δ : Type} [Rp α] [Rp β] [Rp γ] [Rp δ] {ta tb tc td : TE} {ma : Option α} {mb : Option β} {mc : Option γ} {md : Option δ}
section
variable {sa sb : Option Str} {ia ib : Option Int}
noncomputable def catS (a b : Str) : Option Str := if a.length + b.length ≤ sizeLine then some (a ++ b) else none
theorem ev_catS (ea : EV K ta σ G sa) (eb : EV K tb σ G sb) : EV K (tOp (rPlus K) ta tb) σ G (sa.bind fun a => sb.bind fun b => catS a b) :=
  ev_bin (fun s ra rb e Q k => by
    obtain ⟨rfl, z1⟩ := ra; obtain ⟨rfl, z2⟩ := rb; obtain ⟨h, rfl⟩ := ite_some e
    exact ⟨h, k _ _ _ (.refl s) ⟨rfl, by rw [len_app]; exact h⟩⟩) ea eb
theorem ev_ordS {p : Int → Int → Bool} {q : List Nat → List Nat → Bool} (ea : EV K ta σ G sa) (eb : EV K tb σ G sb) : EV K (tOp (rOrd p q) ta tb) σ G (sa.bind fun a => sb.bind fun b => some (q a.cps.toList b.cps.toList)) :=
  ev_bin (fun s ra rb e Q k => by obtain ⟨rfl, z1⟩ := ra; obtain ⟨rfl, z2⟩ := rb; cases e; exact k _ _ _ (.refl s) rfl) ea eb
theorem ev_neS (ea : EV K ta σ G sa) (eb : EV K tb σ G sb) : EV K (tOp rNe ta tb) σ G (sa.bind fun a => sb.bind fun b => some (!decide (a = b))) :=
  ev_bin (fun s ra rb e Q k => by obtain ⟨rfl, z1⟩ := ra; obtain ⟨rfl, z2⟩ := rb; cases e; exact ⟨rfl, k _ _ _ (.refl s) (by show V.bl _ = V.bl _; congr 1; simp)⟩) ea eb
noncomputable def inS (a b : Str) : Bool := !(Builtin.Str.occurrences b a 0 b.length 1).isEmpty
theorem ev_inS (ea : EV K ta σ G sa) (eb : EV K tb σ G sb) : EV K (tOp (fun x y H Q => ∃ i j, x = .str i ∧ y = .str j ∧ Q (.bl (!(Builtin.Str.occurrences j i 0 j.length 1).isEmpty)) H) ta tb) σ G (sa.bind fun a => sb.bind fun b => some (inS a b)) :=
  ev_bin (fun s ra rb e Q k => by obtain ⟨rfl, z1⟩ := ra; obtain ⟨rfl, z2⟩ := rb; cases e; exact ⟨_, _, rfl, rfl, k _ _ _ (.refl s) rfl⟩) ea eb
theorem ev_atS (ea : EV K ta σ G sa) (eb : EV K tb σ G ib) : EV K (tOp (rAt K) ta tb) σ G (sa.bind fun a => ib.bind fun i => (atI a.cps.toList i).bind fun c => some (⟨#[c]⟩ : Str)) :=
  ev_bin (fun s ra rb e Q k => by
    obtain ⟨rfl, z1⟩ := ra; cases rb
    obtain ⟨c, hc, e⟩ := Option.bind_eq_some_iff.mp e
    cases e
    exact ⟨z1, c, hc, k _ _ _ (.refl s) ⟨rfl, by show 1 ≤ sizeLine; decide⟩⟩) ea eb
end
theorem paired_atI {R : V → α → Prop} {xs : List V} {as : List α} {i : Int} {a : α} (p : Paired R xs as) (h : atI as i = some a) : ∃ v, atI xs i = some v ∧ R v a := by
  have hl := Paired.length p
  unfold atI at h ⊢
  obtain ⟨j, hj, h⟩ := Option.bind_eq_some_iff.mp h
  rw [hl, hj]
  have hlt : j < xs.length := by
    have := (List.getElem?_eq_some_iff.mp h).1
    omega
  exact ⟨xs[j], List.getElem?_eq_getElem hlt, Paired.at' p (List.getElem?_eq_getElem hlt) h⟩
theorem Paired.app {α β : Type} {F : α → β → Prop} : ∀ {l1 l2 : List α} {m1 m2 : List β}, Paired F l1 m1 → Paired F l2 m2 → Paired F (l1 ++ l2) (m1 ++ m2)
  | _, _, _, _, .nil, h => h
  | _, _, _, _, .cons r t, h => .cons r (Paired.app t h)
theorem Paired.dp {α β : Type} {F : α → β → Prop} : ∀ (n : Nat) {l : List α} {m : List β}, Paired F l m → Paired F (l.drop n) (m.drop n)
  | 0, _, _, h => h
  | n + 1, _, _, .nil => by simpa using .nil
  | n + 1, _, _, .cons r t => Paired.dp n t
theorem Paired.rep {α β : Type} {F : α → β → Prop} {l : List α} {m : List β} (h : Paired F l m) : ∀ n : Nat, Paired F (List.replicate n l).flatten (List.replicate n m).flatten
  | 0 => .nil
  | n + 1 => by
    rw [List.replicate_succ, List.replicate_succ, List.flatten_cons, List.flatten_cons]
    exact Paired.app h (Paired.rep h n)
section
variable {la lb : Option (List α)} {ia ib : Option Int}
theorem ev_at (ea : EV K ta σ G la) (eb : EV K tb σ G ib) : EV K (tOp (rAt K) ta tb) σ G (la.bind fun a => ib.bind fun i => atI a i) :=
  ev_bin (fun s ra rb e Q k => by
    obtain ⟨l, xs, rfl, h, z, p⟩ := ra; cases rb
    obtain ⟨v, hv, r⟩ := paired_atI p e
    exact .inl ⟨xs, v, .inl (s.rd h), hv, k _ _ _ (.refl s) r⟩) ea eb
theorem fv_of {H : Hp} {Q : VK} {as : List α} {G1 : Hp} (s : Same G1 H) {vs : List V} (hz : vs.length ≤ sizeLine) (hp : Paired (Rp.rel K G1) vs as)
    (k : ∀ p vs G2 H2, Ext G1 H G2 H2 → H p = none → G2 p = none → H2 p = some (.lst vs) → vs.length ≤ sizeLine → Paired (Rp.rel K G2) vs as → Q (.ref p) H2) : ∀ p, H p = none → Q (.ref p) (upd H p (.lst vs)) :=
  fun p h => k p vs G1 _ (.own s h) h (s.free h) upd_same hz hp
theorem FV.mono {H H' G1 G2 : Hp} {as : List α} {Q : VK} (x : Ext G1 H G2 H')
    (k : ∀ p vs G3 H3, Ext G1 H G3 H3 → H p = none → G3 p = none → H3 p = some (.lst vs) → vs.length ≤ sizeLine → Paired (Rp.rel K G3) vs as → Q (.ref p) H3) :
    ∀ p vs G3 H3, Ext G2 H' G3 H3 → H' p = none → G3 p = none → H3 p = some (.lst vs) → vs.length ≤ sizeLine → Paired (Rp.rel K G3) vs as → Q (.ref p) H3 :=
  fun p vs G3 H3 y h0 => k p vs G3 H3 (x.trans y) (x.hh.free h0)
noncomputable def catL {α : Type} (a b : List α) : Option (List α) := if a.length + b.length ≤ sizeLine then some (a ++ b) else none
theorem fv_cat (ea : EV K ta σ G la) (eb : EV K tb σ G lb) : FV K (tOp (rPlus K) ta tb) σ G (la.bind fun a => lb.bind fun b => catL a b) := by
  intro G1 s1 c hc H sH Q k
  obtain ⟨a, ha, hc⟩ := Option.bind_eq_some_iff.mp hc
  obtain ⟨b, hb, hc⟩ := Option.bind_eq_some_iff.mp hc
  obtain ⟨hl, rfl⟩ := ite_some hc
  refine ea G1 s1 a ha H sH _ fun v G2 H2 x2 r2 => ?_
  refine eb G2 (s1.trans x2.gg) b hb H2 x2.gh _ fun u G3 H3 x3 r3 => ?_
  obtain ⟨l1, xs, rfl, h1, z1, p1⟩ := Rp.mono x3.gg r2
  obtain ⟨l2, ys, rfl, h2, z2, p2⟩ := r3
  have e1 := Paired.length p1
  have e2 := Paired.length p2
  have hz : (xs ++ ys).length ≤ sizeLine := by rw [List.length_append]; omega
  exact ⟨xs, ys, x3.gh.rd h1, x3.gh.rd h2, by rw [List.length_append] at hz; exact hz, fv_of x3.gh hz (Paired.app p1 p2) (FV.mono (x2.trans x3) k)⟩
section
variable {t1 t2 : TO} {m1 m2 : Option (Option Int)}
end
end
section
variable {t : TA} {n : Nat} {ml : Option (List α)}
theorem lv_nil : LV K tNil σ G 0 (some ([] : List α)) := fun G1 s1 a ha H sH Q k => by
  cases ha
  exact k _ _ _ (.refl sH) rfl .nil
theorem lv_cons (ea : EV K ta σ G ma) (er : LV K t σ G n ml) : LV K (tCons ta t) σ G (n + 1) (ma.bind fun a => ml.bind fun r => some (a :: r)) := by
  intro G1 s1 c hc H sH Q k
  obtain ⟨a, ha, hc⟩ := Option.bind_eq_some_iff.mp hc
  obtain ⟨r, hr, hc⟩ := Option.bind_eq_some_iff.mp hc
  cases hc
  refine ea G1 s1 a ha H sH _ fun v G2 H2 x2 r2 => ?_
  refine er G2 (s1.trans x2.gg) r hr H2 x2.gh _ fun vs G3 H3 x3 hl hp => ?_
  exact k _ _ _ (x2.trans x3) (by rw [List.length_cons, hl]) (.cons (Rp.mono x3.gg r2) hp)
theorem fv_lst (e : LV K t σ G n ml) (hn : n ≤ sizeLine := by decide) : FV K (tLst t) σ G ml := by
  intro G1 s1 c hc H sH Q k
  refine e G1 s1 c hc H sH _ fun vs G2 H2 x2 hl hp => ?_
  exact ⟨by omega, fv_of x2.gh (by omega) hp (FV.mono x2 k)⟩
end
section
variable {t : TA} {A B : Type} [RpA A] [RpA B] {mA : Option A}
theorem av_nil : AV K tNil σ G (some ()) := fun G1 s1 a ha H sH Q k => by
  cases ha
  exact k _ _ _ (.refl sH) rfl
noncomputable def spM (K : PySem.W.Frag) {A : Type} {ρ : Type} [RpA A] [Rp ρ] (m : A → Option ρ) : Sp := fun vs H Q _ =>
  ∃ G a r, Same G H ∧ RpA.rel K G vs a ∧ m a = some r ∧ ∀ v G2 H2, Ext G H G2 H2 → Rp.rel K G2 v r → Q v H2
theorem spM_len {A : Type} {ρ : Type} [RpA A] [Rp ρ] {m : A → Option ρ} {vs : List V} {H : Hp} {Q : VK} {E : XK} (h : spM K m vs H Q E) : vs.length = RpA.n A := by
  obtain ⟨G, a, r, _, h, _⟩ := h
  exact RpA.len h
theorem ev_def {m : A → Option α} (ea : AV K t σ G mA) : EV K (tCall (spM K m) [] E0 t) σ G (mA.bind fun a => m a) := by
  intro G1 s1 c hc H sH Q k
  obtain ⟨a, ha, hc⟩ := Option.bind_eq_some_iff.mp hc
  refine ea G1 s1 a ha H sH _ fun vs G2 H2 x2 hp => ?_
  show spM K m (vs ++ []) H2 Q E0
  rw [List.append_nil]
  exact ⟨G2, a, c, x2.gh, hp, hc, fun v G3 H3 x3 r3 => k v G3 H3 (x2.trans x3) r3⟩
theorem ev_len {la : Option (List α)} (ea : EV K ta σ G la) : EV K (tCB (rLen K) (tCons ta tNil)) σ G (la.bind fun a => some (a.length : Int)) := by
  intro G1 s1 c hc H sH Q k
  obtain ⟨a, ha, hc⟩ := Option.bind_eq_some_iff.mp hc
  cases hc
  refine ea G1 s1 a ha H sH _ fun v G2 H2 x2 r2 => ?_
  obtain ⟨l, xs, rfl, h, z, p⟩ := r2
  exact ⟨xs, .inl (.inl (x2.gh.rd h)), by rw [Paired.length p]; exact k _ _ _ x2 rfl⟩
theorem ev_lenS {sa : Option Str} (ea : EV K ta σ G sa) : EV K (tCB (rLen K) (tCons ta tNil)) σ G (sa.bind fun a => some (a.length : Int)) := by
  intro G1 s1 c hc H sH Q k
  obtain ⟨a, ha, hc⟩ := Option.bind_eq_some_iff.mp hc
  cases hc
  refine ea G1 s1 a ha H sH _ fun v G2 H2 x2 r2 => ?_
  obtain ⟨rfl, z⟩ := r2
  exact ⟨z, k _ _ _ x2 rfl⟩
theorem fv_list {la : Option (List α)} (ea : EV K ta σ G la) : FV K (tCB (fun xs H Q => ∃ p ys, xs = [.ref p] ∧ (SqL K H p ys ∨ SqT K H p ys) ∧ ∀ l, H l = none → Q (.ref l) (upd H l (.lst ys))) (tCons ta tNil)) σ G la := by
  intro G1 s1 a ha H sH Q k
  refine ea G1 s1 a ha H sH _ fun v G2 H2 x2 r2 => ?_
  obtain ⟨l, xs, rfl, h, z, p⟩ := r2
  exact ⟨l, xs, rfl, .inl (.inl (x2.gh.rd h)), fv_of x2.gh z p (FV.mono x2 k)⟩
end
inductive TyS (K : PySem.W.Frag) (H : Hp) : V → String → Prop where
  | non : TyS K H .non "NoneType"
  | bl (x : Bool) : TyS K H (.bl x) "bool"
  | int (i : Int) : TyS K H (.int i) "int"
  | str (x : Str) : TyS K H (.str x) "str"
  | lst {a : Addr} {xs : List V} (e : SqL K H a xs) : TyS K H (.ref a) "list"
  | tup {a : Addr} {xs : List V} (e : SqT K H a xs) : TyS K H (.ref a) "tuple"
  | dK {a : Addr} {kvs : List (Key × V)} (e : Rd H a (.dK kvs)) : TyS K H (.ref a) "dict"
  | dT {a : Addr} {kvs : List (List Key × V)} (e : Rd H a (.dT kvs)) : TyS K H (.ref a) "dict"
noncomputable def rInst (K : PySem.W.Frag) : List V → Hp → VK → Prop := fun vs H Q => ∃ x t T b, vs = [x, .ty T] ∧ TyS K H x t ∧ kitC t T = some b ∧ Q (.bl b) H
theorem call_inst {X : Cx} : CallR X (.builtin "isinstance") (rInst X.K) := by
  intro pins s σ H vs us Q I r h
  obtain ⟨x, t, T, b, rfl, ty, e, q⟩ := h
  obtain ⟨u, w', rfl, rx, r2⟩ := vals2 r
  obtain rfl : w' = Value.type T := r2
  have e := kit_of (K := X.K) e
  have fin : ∀ tk, EP X pins σ Q (.bool b) { s with toks := tk } := fun tk => ⟨.bl b, H, I.tok tk, rfl, q⟩
  cases ty with
  | non => cases (show u = Value.none from rx); exact PySem.W.kia_one PySem.W.kitx_none I.kIn True.intro e (fun z => nomatch z) fin
  | bl y => cases (show u = Value.bool y from rx); exact PySem.W.kia_one PySem.W.kitx_bool I.kIn True.intro e (fun z => nomatch z) fin
  | int i => obtain ⟨t, q'⟩ := (show ∃ t, u = Value.int i t from rx); cases q'; exact PySem.W.kia_one PySem.W.kitx_int I.kIn True.intro e (fun z => nomatch z) fin
  | str y => obtain ⟨t, q'⟩ := (show ∃ t, u = Value.str y t from rx); cases q'; exact PySem.W.kia_one PySem.W.kitx_str I.kIn True.intro e (fun z => nomatch z) fin
  | @lst a xs ea =>
    cases (show u = Value.ref a from rx)
    obtain ⟨its, _, pl, _⟩ := I.list ea
    obtain ⟨o, n, h1, h2, _⟩ := pl
    exact PySem.W.kia_one PySem.W.kitx_list I.kIn ⟨o, h1, h2⟩ e (fun z => nomatch z) fin
  | @tup a xs ea =>
    cases (show u = Value.ref a from rx)
    obtain ⟨its, _, pl, _⟩ := I.tuple ea
    obtain ⟨o, h1, h2, _⟩ := pl
    exact PySem.W.kia_one PySem.W.kitx_tuple I.kIn ⟨o, h1, h2⟩ e (fun z => nomatch z) fin
  | @dK a kvs ea =>
    cases (show u = Value.ref a from rx)
    obtain ⟨_, _, vs, _, p⟩ := ea.ok I.hok
    obtain ⟨o, es, ep, h1, h2, _⟩ := p
    exact PySem.W.kia_one PySem.W.kitx_dict I.kIn ⟨o, h1, h2.1⟩ e (fun z => nomatch z) fin
  | @dT a kvs ea =>
    cases (show u = Value.ref a from rx)
    obtain ⟨_, _, xs, _, o, es, ep, h1, h2, _⟩ := ea.ok I.hok
    exact PySem.W.kia_one PySem.W.kitx_dict I.kIn ⟨o, h1, h2.1⟩ e (fun z => nomatch z) fin
class RpT (α : Type) [Rp α] where
  tn : String
  ty : ∀ {K : PySem.W.Frag} {H : Hp} {v : V} {a : α}, Rp.rel K H v a → TyS K H v tn
noncomputable instance rtInt : RpT Int := ⟨"int", fun h => by cases h; exact .int _⟩
noncomputable instance rtBool : RpT Bool := ⟨"bool", fun h => by cases h; exact .bl _⟩
noncomputable instance rtStr : RpT Str := ⟨"str", fun h => by obtain ⟨rfl, _⟩ := h; exact .str _⟩
noncomputable instance rtUnit : RpT Unit := ⟨"NoneType", fun h => by cases h; exact .non⟩
noncomputable instance rtList : RpT (List α) := ⟨"list", fun h => by obtain ⟨l, xs, rfl, h, _⟩ := h; exact .lst (.inl h)⟩
noncomputable instance rtPair : RpT (α × β) := ⟨"tuple", fun h => by obtain ⟨l, x, y, rfl, h, _⟩ := h; exact .tup h⟩
noncomputable instance rtT3 : RpT (T3 α β γ) := ⟨"tuple", fun h => by obtain ⟨l, x, y, z, rfl, h, _⟩ := h; exact .tup h⟩
noncomputable instance rtTp : RpT (Tp α) := ⟨"tuple", fun h => by obtain ⟨l, xs, rfl, h, _⟩ := h; exact .tup h⟩
theorem TyS.mono {H H' : Hp} {v : V} {t : String} (s : Same H H') (h : TyS K H v t) : TyS K H' v t := by
  cases h with
  | non => exact .non
  | bl => exact .bl _
  | int => exact .int _
  | str => exact .str _
  | lst e => exact .lst (s.seq e)
  | tup e => exact .tup (s.tup e)
  | dK e => exact .dK (s.rd e)
  | dT e => exact .dT (s.rd e)
theorem ev_inst [RpT α] {T : String} {b : Bool} (h : kitC (RpT.tn α) T = some b) (ea : EV K ta σ G ma) : EV K (tCB (rInst K) (tCons ta (tCons (tC (.ty T)) tNil))) σ G (ma.bind fun _ => some b) := by
  intro G1 s1 c hc H sH Q k
  obtain ⟨a, ha, hc⟩ := Option.bind_eq_some_iff.mp hc
  cases hc
  refine ea G1 s1 a ha H sH _ fun v G2 H2 x2 r2 => ?_
  exact ⟨_, _, _, _, rfl, (RpT.ty r2).mono x2.gh, h, k _ _ _ x2 rfl⟩
theorem EqTy.imp {k : Nat} {α : Type} [DecidableEq α] {R R' : Hp → V → α → Prop} (E : EqTy K k R) (h : ∀ H v a, R' H v a → R H v a) : EqTy K k R' :=
  ⟨fun hK I a b => E.fn hK I (h _ _ _ a) (h _ _ _ b), fun A hK I hu r1 r2 a b => E.eq A hK I hu r1 r2 (h _ _ _ a) (h _ _ _ b), fun A hK I hu r1 r2 a b => E.rc A hK I hu r1 r2 (h _ _ _ a) (h _ _ _ b)⟩
class RpE (α : Type) [Rp α] [DecidableEq α] where
  k : Nat
  ty : ∀ K : PySem.W.Frag, EqTy K k (Rp.rel (α := α) K)
noncomputable instance reInt : RpE Int := ⟨0, fun _ => eqInt⟩
noncomputable instance reBool : RpE Bool := ⟨0, fun _ => eqBl⟩
noncomputable instance reStr : RpE Str := ⟨0, fun _ => eqStr.imp fun _ _ _ h => h.1⟩
noncomputable instance reList {α : Type} [Rp α] [DecidableEq α] [RpE α] : RpE (List α) := ⟨RpE.k α + 1, fun K => (eqLst (RpE.ty K)).imp fun _ _ _ ⟨l, xs, e, h, _, p⟩ => ⟨l, xs, e, .inl h, p⟩⟩
section
variable {α : Type} [Rp α] [DecidableEq α] {m1 m2 : Option α}
noncomputable def rEqD (K : PySem.W.Frag) (α : Type) [Rp α] [DecidableEq α] : R2 := fun x y H Q => ∃ a b : α, Rp.rel K H x a ∧ Rp.rel K H y b ∧ Q (.bl (decide (a = b))) H
noncomputable def rNeD (K : PySem.W.Frag) (α : Type) [Rp α] [DecidableEq α] : R2 := fun x y H Q => ∃ a b : α, Rp.rel K H x a ∧ Rp.rel K H y b ∧ Q (.bl (!decide (a = b))) H
theorem op_eqM {X : Cx} {j : Nat} (α : Type) [Rp α] [DecidableEq α] [RpE α] (hr : Room j X.A) (hk : RpE.k α ≤ 10) : OpR X (compareOp .Eq) (rEqD X.K α) := op_eqD (RpE.ty X.K) hr hk
theorem op_neM {X : Cx} {j : Nat} (α : Type) [Rp α] [DecidableEq α] [RpE α] (hr : Room j X.A) (hk : RpE.k α ≤ 10) : OpR X (compareOp .NotEq) (rNeD X.K α) := op_neD (RpE.ty X.K) hr hk
theorem ev_eq (ea : EV K ta σ G m1) (eb : EV K tb σ G m2) : EV K (tOp (rEqD K α) ta tb) σ G (m1.bind fun a => m2.bind fun b => some (decide (a = b))) :=
  ev_bin (fun s ra rb e Q k => by cases e; exact ⟨_, _, Rp.mono s ra, Rp.mono s rb, k _ _ _ (.refl s) rfl⟩) ea eb
theorem ev_ne (ea : EV K ta σ G m1) (eb : EV K tb σ G m2) : EV K (tOp (rNeD K α) ta tb) σ G (m1.bind fun a => m2.bind fun b => some (!decide (a = b))) :=
  ev_bin (fun s ra rb e Q k => by cases e; exact ⟨_, _, Rp.mono s ra, Rp.mono s rb, k _ _ _ (.refl s) rfl⟩) ea eb
end
end
end L2
set_option Elab.async false
set_option linter.all false
set_option maxRecDepth 100000
set_option maxHeartbeats 4000000
namespace L2
open PySem PySem.Spec PyProof.Rows
inductive Fl (S ρ : Type) where
  | nx (s : S)
  | bk (s : S)
  | rt (r : ρ)
noncomputable def forO {α S ρ : Type} (f : α → S → Option (Fl S ρ)) : List α → S → Option (Fl S ρ)
  | [], s => some (.nx s)
  | a :: as, s => (f a s).bind fun fl => match fl with
    | .nx s' => forO f as s'
    | .bk s' => some (.nx s')
    | .rt r => some (.rt r)
noncomputable def compO {α β : Type} (fc : α → Option Bool) (fe : α → Option β) : List α → Option (List β)
  | [] => some []
  | a :: r => (fc a).bind fun b => cond b ((fe a).bind fun y => (compO fc fe r).bind fun ys => some (y :: ys)) (compO fc fe r)
noncomputable def mapO {α β : Type} (fe : α → Option β) : List α → Option (List β)
  | [] => some []
  | a :: r => (fe a).bind fun y => (mapO fe r).bind fun ys => some (y :: ys)
theorem compO_true {α β : Type} (fe : α → Option β) : ∀ as, compO (fun _ => some true) fe as = mapO fe as
  | [] => rfl
  | a :: r => by
    show ((fe a).bind fun y => (compO (fun _ => some true) fe r).bind fun ys => some (y :: ys)) = _
    rw [compO_true fe r]
    rfl
noncomputable def rngO (lo hi : Int) : Option (List Int) := if (-(2 ^ 62) ≤ lo ∧ lo < 2 ^ 62 ∧ -(2 ^ 62) ≤ hi ∧ hi < 2 ^ 62) ∧ (hi - lo).toNat ≤ sizeLine then some ((List.range (hi - lo).toNat).map fun (i : Nat) => lo + (i : Int)) else none
section
variable {K : PySem.W.Frag} {σ : St} {G : Hp} {α β γ δ : Type} [Rp α] [Rp β] [Rp γ] [Rp δ] {ta tb tc td : TE} {ma : Option α} {mb : Option β} {mc : Option γ} {md : Option δ}
noncomputable def IW (K : PySem.W.Frag) {α : Type} [Rp α] (wi : TI) (σ : St) (G : Hp) (m : Option (List α)) : Prop :=
  ∀ G1, Same G G1 → ∀ a, m = some a → ∀ H, Same G1 H → ∀ R : It → Hp → Prop, (∀ J vs G2 H2, Ext G1 H G2 H2 → Yields J G2 vs → vs.length ≤ sizeLine → Paired (Rp.rel K G2) vs a → R J H2) → wi σ H R
theorem iw_list {la : Option (List α)} (ea : EV K ta σ G la) : IW K (iAny K ta) σ G la := by
  intro G1 s1 a ha H sH R k
  refine ea G1 s1 a ha H sH _ fun v G2 H2 x2 r2 => ?_
  obtain ⟨l, xs, rfl, h, z, p⟩ := r2
  exact .inl ⟨⟨xs, .inl (x2.gh.rd h)⟩, k _ xs G2 H2 x2 (yields_list (.inl h)) z p⟩
noncomputable def signsO (x : Str) : List Str := x.cps.toList.map fun c => (⟨#[c]⟩ : Str)
theorem paired_signs (x : Str) (H : Hp) : Paired (Rp.rel K H) (signsV x) (signsO x) := by
  unfold signsV signsO
  induction x.cps.toList with
  | nil => exact .nil
  | cons c r ih => exact .cons ⟨rfl, by show 1 ≤ sizeLine; decide⟩ ih
theorem iw_str {sa : Option Str} (ea : EV K ta σ G sa) : IW K (iAny K ta) σ G (sa.bind fun a => some (signsO a)) := by
  intro G1 s1 a ha H sH R k
  obtain ⟨b, hb, ha⟩ := Option.bind_eq_some_iff.mp ha
  cases ha
  refine ea G1 s1 b hb H sH _ fun v G2 H2 x2 r2 => ?_
  obtain ⟨rfl, z⟩ := r2
  exact k _ (signsV b) G2 H2 x2 (yields_str b G2) (by unfold signsV; rw [List.length_map]; exact z) (paired_signs b G2)
theorem paired_ints (H : Hp) (f : Nat → Int) : ∀ l : List Nat, Paired (Rp.rel K H) (l.map fun i => V.int (f i)) (l.map fun i => f i)
  | [] => .nil
  | a :: r => .cons rfl (paired_ints H f r)
theorem iw_rng1 {ia : Option Int} (ea : EV K ta σ G ia) : IW K (iRng1 (tCons ta tNil)) σ G (ia.bind fun j => rngO 0 j) := by
  intro G1 s1 a ha H sH R k
  obtain ⟨j, hj, ha⟩ := Option.bind_eq_some_iff.mp ha
  obtain ⟨⟨hb, hz⟩, rfl⟩ := ite_some ha
  refine ea G1 s1 j hj H sH _ fun v G2 H2 x2 r2 => ?_
  cases r2
  refine ⟨j, rfl, hb.2.2.1, hb.2.2.2, ?_⟩
  have e : (j - 0).toNat = j.toNat := by omega
  rw [e] at hz k
  exact k (Itr 0 j.toNat) _ G2 H2 x2 (yields_range 0 j.toNat G2) (by rw [List.length_map, List.length_range]; exact hz) (paired_ints G2 (fun i => (0 : Int) + (i : Int)) _)
theorem tv_yes : TV tYes σ G (some true) := fun G1 s1 a ha H sH Q k => by
  cases ha
  exact k _ _ (.refl sH)
theorem Paired.getR {F : V → α → Prop} : ∀ {xs : List V} {as : List α} {i : Nat} {v : V}, Paired F xs as → xs[i]? = some v → ∃ a, as[i]? = some a ∧ F v a
  | _, _, _, _, .nil, e => by simp at e
  | _, _, 0, _, .cons r _, e => by simp at e; subst e; exact ⟨_, rfl, r⟩
  | _, _, i + 1, _, .cons _ t, e => Paired.getR (i := i) t (by simpa using e)
theorem fv_comp {cap : List Nat} {wi : TI} {tt : TT} {te : TE} {mi : Option (List α)} {fc : α → Option Bool} {fe : α → Option β} (ei : IW K wi σ G mi)
    (hb : ∀ (x : V) (a : α) (G1 : Hp), Same G G1 → Rp.rel K G1 x a → TV tt ((inner cap σ).set 0 (some x)) G1 (fc a) ∧ EV K te ((inner cap σ).set 0 (some x)) G1 (fe a)) :
    FV K (tComp cap wi tt te) σ G (mi.bind fun as => compO fc fe as) := by
  intro G1 s1 c hc H sH Q k
  obtain ⟨as, has, hc⟩ := Option.bind_eq_some_iff.mp hc
  refine ei G1 s1 as has H sH _ fun J vs Ga Ha xa Y hz pr p hp => ?_
  have hla := Paired.length pr
  refine ⟨fun i m ys H2 => m = vs.length - i ∧ i ≤ vs.length ∧ ∃ G2 bs cs, Ext Ga Ha G2 H2 ∧ G2 p = none ∧ H2 p = some (.lst ys) ∧ ys.length ≤ i ∧ Paired (Rp.rel K G2) ys bs ∧ compO fc fe (as.drop i) = some cs ∧ c = bs ++ cs,
    ⟨vs.length, by simp, Nat.zero_le _, Ga, [], c, .own xa.gh hp, xa.gh.free hp, upd_same, Nat.le_refl _, .nil, hc, rfl⟩, ?_⟩
  rintro i m ys H2 ⟨rfl, hi, G2, bs, cs, x2, hg, hh, hy, hpr, hcs, rfl⟩
  by_cases hlt : i < vs.length
  · refine .inr ⟨Y.go i _ (x2.gg.trans x2.gh) hlt, fun ys' H' => ∃ G2 bs' cs', Ext Ga Ha G2 H' ∧ G2 p = none ∧ H' p = some (.lst ys') ∧ ys'.length ≤ i + 1 ∧ Paired (Rp.rel K G2) ys' bs' ∧ compO fc fe (as.drop (i + 1)) = some cs' ∧ bs ++ cs = bs' ++ cs',
      fun ys' H' ⟨G3, bs', cs', h⟩ => ⟨vs.length - (i + 1), by omega, rfl, hlt, G3, bs', cs', h⟩, fun x H3 y => ?_⟩
    obtain ⟨rfl, hx⟩ := Y.yld i _ x H3 (x2.gg.trans x2.gh) hlt y
    obtain ⟨a, hai, ra⟩ := Paired.getR pr hx
    have hd : as.drop i = a :: as.drop (i + 1) := by
      obtain ⟨h1, h2⟩ := List.getElem?_eq_some_iff.mp hai
      rw [List.drop_eq_getElem_cons h1, h2]
    rw [hd] at hcs
    obtain ⟨b, hbb, hcs⟩ := Option.bind_eq_some_iff.mp hcs
    have B := hb x a G2 (s1.trans (xa.gg.trans x2.gg)) (Rp.mono x2.gg ra)
    refine B.1 G2 (.refl _) b hbb _ x2.gh _ fun G5 H5 x5 => ?_
    have hp5 : H5 p = some (.lst ys) := x5.hh _ _ hh
    have hg5 : G5 p = none := x5.no p hg (by rw [hh]; exact fun z => nomatch z)
    cases b with
    | false =>
      rw [if_neg Bool.false_ne_true]
      exact ⟨G5, bs, cs, x2.trans x5, hg5, hp5, by omega, Paired.imp' (fun _ _ r => Rp.mono x5.gg r) hpr, hcs, rfl⟩
    | true =>
      rw [if_pos rfl]
      obtain ⟨z, hze, hcs⟩ := Option.bind_eq_some_iff.mp hcs
      obtain ⟨cs', hcs', hcs⟩ := Option.bind_eq_some_iff.mp hcs
      cases hcs
      refine B.2 G5 x5.gg z hze H5 x5.gh _ fun v G6 H6 x6 r6 => ?_
      have hp6 : H6 p = some (.lst ys) := x6.hh _ _ hp5
      have hg6 : G6 p = none := x6.no p hg5 (by rw [hp5]; exact fun z => nomatch z)
      refine ⟨hp6, by omega, G6, bs ++ [z], cs', ((x2.trans x5).trans x6).put hp hg6, hg6, upd_same, ?_, Paired.app (Paired.imp' (fun _ _ r => Rp.mono (x5.trans x6).gg r) hpr) (.cons r6 .nil), hcs', by simp⟩
      rw [List.length_append, List.length_singleton]
      omega
  · have e : i = vs.length := by omega
    subst e
    have hd : as.drop vs.length = [] := List.drop_eq_nil_of_le (by omega)
    rw [hd] at hcs
    cases hcs
    refine .inl ⟨Y.stop _ (x2.gg.trans x2.gh), ?_⟩
    rw [List.append_nil] at k
    exact k p ys G2 H2 (xa.trans x2) (xa.hh.free hp) hg hh (by omega) hpr
theorem fv_map {cap : List Nat} {wi : TI} {te : TE} {mi : Option (List α)} {fe : α → Option β} (ei : IW K wi σ G mi)
    (hb : ∀ (x : V) (a : α) (G1 : Hp), Same G G1 → Rp.rel K G1 x a → EV K te ((inner cap σ).set 0 (some x)) G1 (fe a)) :
    FV K (tComp cap wi tYes te) σ G (mi.bind fun as => mapO fe as) := by
  have h := fv_comp (tt := tYes) (fc := fun _ => some true) ei fun x a G1 s r => ⟨tv_yes, hb x a G1 s r⟩
  have e : (fun as => compO (fun _ => some true) fe as) = fun as => mapO fe as := funext (compO_true fe)
  rw [e] at h
  exact h
noncomputable def joinO (z : Str) (ys : List Str) : Option Str := if (ys.map (·.length)).sum + ys.length * z.length ≤ 16777216 then some (Txt.join z ys) else none
theorem paired_strs {H : Hp} : ∀ {xs : List V} {ys : List Str}, Paired (Rp.rel K H) xs ys → xs = ys.map V.str
  | _, _, .nil => rfl
  | _, _, .cons r t => by
    obtain ⟨rfl, _⟩ := r
    rw [paired_strs t]
    rfl
theorem join_le (z : Str) : ∀ (ps : List Str) (acc : Array Nat), (ps.foldl (fun acc p => acc ++ z.cps ++ p.cps) acc).size = acc.size + (ps.map (·.length)).sum + ps.length * z.length
  | [], acc => by simp
  | p :: ps, acc => by
    rw [List.foldl_cons, join_le z ps]
    simp only [Array.size_append, List.map_cons, List.sum_cons, List.length_cons, Nat.succ_mul]
    have : p.cps.size = p.length := rfl
    have : z.cps.size = z.length := rfl
    omega
theorem join_len (z : Str) (ys : List Str) : (Txt.join z ys).length ≤ (ys.map (·.length)).sum + ys.length * z.length := by
  show ((ys.drop 1).foldl (fun acc p => acc ++ z.cps ++ p.cps) (ys.headD Str.empty).cps).size ≤ _
  rw [join_le]
  cases ys with
  | nil => simp; rfl
  | cons a r =>
    simp only [List.headD_cons, List.drop_succ_cons, List.drop_zero, List.map_cons, List.sum_cons, List.length_cons, Nat.succ_mul]
    have : a.cps.size = a.length := rfl
    omega
theorem ev_join {sa : Option Str} {lb : Option (List Str)} (ea : EV K ta σ G sa) (eb : EV K tb σ G lb) : EV K (tBM K "str" (rJoin K) ta (tCons tb tNil)) σ G (sa.bind fun z => lb.bind fun ys => joinO z ys) := by
  intro G1 s1 c hc H sH Q k
  obtain ⟨a, ha, hc⟩ := Option.bind_eq_some_iff.mp hc
  obtain ⟨b, hb, hc⟩ := Option.bind_eq_some_iff.mp hc
  obtain ⟨hz, rfl⟩ := ite_some hc
  refine ea G1 s1 a ha H sH _ fun v G2 H2 x2 r2 => ?_
  obtain ⟨rfl, za⟩ := r2
  refine ⟨rfl, ?_⟩
  refine eb G2 (s1.trans x2.gg) b hb H2 x2.gh _ fun u G3 H3 x3 r3 => ?_
  obtain ⟨l, xs, rfl, h, z, p⟩ := r3
  obtain rfl := paired_strs p
  exact ⟨a, l, b, rfl, rfl, .inl (x3.gh.rd h), hz, k _ _ _ (x2.trans x3) ⟨rfl, Nat.le_trans (join_len _ _) (by rw [sizeLine_eq]; exact hz)⟩⟩
end
section
variable {K : PySem.W.Frag} {σ : St} {G H : Hp} {α β : Type} [Rp α] [Rp β] {te : TE} {tt : TT} {t u rest : TS} {D : Ends} {i : Nat} {a : α} {m : Option α}
theorem sv_set (e : EV K te σ G m) (hm : m = some a) (s : Same G H) (k : ∀ v G2 H2, Ext G H G2 H2 → Rp.rel K G2 v a → rest D (σ.set i (some v)) H2) : tSeq (tAsg te (gName i)) rest D σ H := e.run hm s k
theorem sv_ret (e : EV K te σ G m) (hm : m = some a) (s : Same G H) (k : ∀ v G2 H2, Ext G H G2 H2 → Rp.rel K G2 v a → D.rt v H2) : tSeq (tRet te) rest D σ H := e.run hm s k
theorem sv_if {b : Bool} {m : Option Bool} (e : TV tt σ G m) (hm : m = some b) (s : Same G H) (k : ∀ G2 H2, Ext G H G2 H2 → if b = true then t { D with nx := rest D } σ H2 else u { D with nx := rest D } σ H2) :
    tSeq (tIfS tt t u) rest D σ H := e.run hm s k
theorem sv_join (Pv : St → Hp → Prop) (h : ∀ nx : St → Hp → Prop, (∀ σ' H', Pv σ' H' → nx σ' H') → tSeq t tNext { D with nx := nx } σ H) (key : ∀ σ' H', Pv σ' H' → rest D σ' H') : tSeq t rest D σ H := h (rest D) key
structure LoopOb (K : PySem.W.Frag) {α S ρ : Type} [Rp α] (RR : ρ → V → Hp → Hp → Prop) (f : α → S → Option (Fl S ρ)) (g : TG) (tb : TS) (D : Ends) (σ : St) (G2 H2 : Hp) (as : List α) (s0 : S) (res : Fl S ρ) (RS : S → St → Hp → Hp → Prop) : Prop where
  start : RS s0 σ G2 H2
  keep : ∀ s σ' G' H', RS s σ' G' H' → Same G2 G' ∧ Same G' H'
  step : ∀ (x : V) (a : α) (s : S) (σ1 : St) (G1 H1 : Hp) (fl : Fl S ρ), a ∈ as → RS s σ1 G1 H1 → Rp.rel K G1 x a → f a s = some fl → ∀ D' : Ends, (∀ s' σ' G' H', fl = .nx s' → RS s' σ' G' H' → D'.nx σ' H') → (∀ s' σ' G' H', fl = .nx s' → RS s' σ' G' H' → D'.ct σ' H') →
    (∀ s' σ' G' H', fl = .bk s' → RS s' σ' G' H' → D'.bk σ' H') → (∀ r v G' H', fl = .rt r → RR r v G' H' → D'.rt v H') → g x σ1 H1 fun σ2 H2 => tb D' σ2 H2
  nxt : ∀ s σ' G' H', res = .nx s → RS s σ' G' H' → D.nx σ' H'
  rtn : ∀ r v G' H', res = .rt r → RR r v G' H' → D.rt v H'
theorem sv_for {S ρ : Type} {RR : ρ → V → Hp → Hp → Prop} {f : α → S → Option (Fl S ρ)} {wi : TI} {g : TG} {tb : TS} {mi : Option (List α)} {as : List α} {s0 : S} {res : Fl S ρ} (ei : IW K wi σ G mi) (hm : mi = some as) (hf : forO f as s0 = some res) (sg : Same G H)
    (k : ∀ G2 H2, Ext G H G2 H2 → ∃ RS, LoopOb K RR f g tb { D with nx := rest D } σ G2 H2 as s0 res RS) : tSeq (tFor wi g tb) rest D σ H := by
  refine ei G (.refl G) as hm H sg _ fun J vs G2 H2 x2 Y hz pr => ?_
  obtain ⟨RS, L⟩ := k G2 H2 x2
  have hla := Paired.length pr
  refine ⟨fun i m σ' H' => m = vs.length - i ∧ i ≤ vs.length ∧ ∃ s G', RS s σ' G' H' ∧ forO f (as.drop i) s = some res, ⟨vs.length, by simp, Nat.zero_le _, s0, G2, L.start, hf⟩, ?_⟩
  rintro i m σ' H' ⟨rfl, hi, s, G', rs, hfo⟩
  obtain ⟨k1, k2⟩ := L.keep _ _ _ _ rs
  by_cases hlt : i < vs.length
  · refine .inr ⟨Y.go i _ (k1.trans k2) hlt, fun σ'' H'' => ∃ s' G'', RS s' σ'' G'' H'' ∧ forO f (as.drop (i + 1)) s' = some res, fun σ'' H'' ⟨s', G'', h⟩ => ⟨vs.length - (i + 1), by omega, rfl, hlt, s', G'', h⟩, fun x H3 y => ?_⟩
    obtain ⟨rfl, hx⟩ := Y.yld i _ x H3 (k1.trans k2) hlt y
    obtain ⟨a, hai, ra⟩ := Paired.getR pr hx
    have hd : as.drop i = a :: as.drop (i + 1) := by
      obtain ⟨h1, h2⟩ := List.getElem?_eq_some_iff.mp hai
      rw [List.drop_eq_getElem_cons h1, h2]
    rw [hd] at hfo
    obtain ⟨fl, hfl, hfo⟩ := Option.bind_eq_some_iff.mp hfo
    refine L.step x a s σ' G' _ fl (List.mem_of_getElem? hai) rs (Rp.mono k1 ra) hfl _ ?_ ?_ ?_ ?_
    · intro s' σ'' G'' H'' e r
      subst e
      exact ⟨s', G'', r, hfo⟩
    · intro s' σ'' G'' H'' e r
      subst e
      exact ⟨s', G'', r, hfo⟩
    · intro s' σ'' G'' H'' e r
      subst e
      exact L.nxt s' σ'' G'' H'' (Option.some.inj hfo).symm r
    · intro r v G'' H'' e rl
      subst e
      exact L.rtn r v G'' H'' (Option.some.inj hfo).symm rl
  · have e : i = vs.length := by omega
    subst e
    have hd : as.drop vs.length = [] := List.drop_eq_nil_of_le (by omega)
    rw [hd] at hfo
    exact .inl ⟨Y.stop _ (k1.trans k2), L.nxt s σ' G' H' (Option.some.inj hfo).symm rs⟩
end
structure Own (K : PySem.W.Frag) {α : Type} [Rp α] (G H : Hp) (v : V) (p : Addr) (vs : List V) (as : List α) : Prop where
  v : v = .ref p
  g : G p = none
  h : H p = some (.lst vs)
  z : vs.length ≤ sizeLine
  p : Paired (Rp.rel K G) vs as
section
variable {K : PySem.W.Frag} {σ : St} {G H G1 H1 G0 H0 : Hp} {α β : Type} [Rp α] [Rp β] {te ti : TE} {tt : TT} {t u rest : TS} {D : Ends} {i : Nat} {a : α} {m : Option α} {as : List α} {v : V} {p q : Addr} {vs : List V}
theorem Own.ext (o : Own K G H v p vs as) (x : Ext G H G1 H1) : Own K G1 H1 v p vs as :=
  ⟨o.v, x.no p o.g (by rw [o.h]; exact fun z => nomatch z), x.hh _ _ o.h, o.z, Paired.imp' (fun _ _ r => Rp.mono x.gg r) o.p⟩
theorem Own.put {ho : HO} (o : Own K G H v p vs as) (h : p ≠ q) : Own K G (upd H q ho) v p vs as := ⟨o.v, o.g, by rw [upd_ne h]; exact o.h, o.z, o.p⟩
theorem Own.tell (o : Own K G H v p vs as) : Rp.rel K (upd G p (.lst vs)) v as := ⟨p, vs, o.v, .inl upd_same, o.z, Paired.imp' (fun _ _ r => Rp.mono (Same.new o.g) r) o.p⟩
theorem Own.same (o : Own K G H v p vs as) (s : Same G H) : Same (upd G p (.lst vs)) H := fun b x e => by
  by_cases hb : b = p
  · subst hb
    rw [upd_same] at e
    rw [o.h]
    exact e
  · rw [upd_ne hb] at e
    exact s b x e
theorem sv_own {m : Option (List α)} {as : List α} (e : FV K te σ G m) (hm : m = some as) (s : Same G H) (k : ∀ p vs G2 H2, Ext G H G2 H2 → H p = none → Own K G2 H2 (.ref p) p vs as → rest D (σ.set i (some (.ref p))) H2) : tSeq (tAsg te (gName i)) rest D σ H :=
  e G (.refl G) as hm H s _ fun p vs G2 H2 x h0 hg hh hz hp => k p vs G2 H2 x h0 ⟨rfl, hg, hh, hz, hp⟩
noncomputable def pushO {α : Type} (as : List α) (a : α) : Option (List α) := if as.length < sizeLine then some (as ++ [a]) else none
theorem sv_append {as' : List α} (hσ : σ[i]? = some (some v)) (o : Own K G H v p vs as) (e : EV K te σ G m) (hm : m = some a) (hp : pushO as a = some as') (s : Same G H)
    (k : ∀ G2 H2 w, Ext G H G2 H2 → Own K G2 (upd H2 p (.lst (vs ++ [w]))) v p (vs ++ [w]) as' → rest D σ (upd H2 p (.lst (vs ++ [w])))) : tSeq (tDrop (tBM K "list" rAppend (tVar i) (tCons te tNil))) rest D σ H := by
  obtain ⟨hl, rfl⟩ := ite_some hp
  have hlen := Paired.length o.p
  obtain ⟨rfl, og, oh, oz, op⟩ := o
  refine ⟨_, hσ, .inl ⟨rfl, _, SqL.of oh⟩, ?_⟩
  refine e.run hm s fun w G2 H2 x r => ?_
  refine ⟨p, vs, w, rfl, rfl, x.hh _ _ oh, by omega, ?_⟩
  refine k G2 H2 w x ⟨rfl, x.no p og (by rw [oh]; exact fun z => nomatch z), upd_same, ?_, Paired.app (Paired.imp' (fun _ _ r => Rp.mono x.gg r) op) (.cons r .nil)⟩
  rw [List.length_append, List.length_singleton]
  omega
structure TupK (H H' : Hp) : Prop where
  rd : ∀ b xs, Rd H b (.tup xs) → Rd H' b (.tup xs)
  eq : ∀ b xs, H b = some (.tup xs) → H' b = some (.tup xs)
class Imm (α : Type) [Rp α] : Prop where
  im : ∀ {K : PySem.W.Frag} {H H' : Hp} {v : V} {a : α}, TupK H H' → Rp.rel K H v a → Rp.rel K H' v a
noncomputable instance imInt : Imm Int := ⟨fun _ h => h⟩
noncomputable instance imBool : Imm Bool := ⟨fun _ h => h⟩
noncomputable instance imStr : Imm Str := ⟨fun _ h => h⟩
noncomputable instance imUnit : Imm Unit := ⟨fun _ h => h⟩
theorem SqT.im {H H' : Hp} {t : Addr} {xs : List V} (f : TupK H H') (h : SqT K H t xs) : SqT K H' t xs := by
  rcases h with h | h
  · exact .inl (f.rd _ _ h)
  · exact .inr h
noncomputable instance imPair {α β : Type} [Rp α] [Rp β] [Imm α] [Imm β] : Imm (α × β) := ⟨fun f ⟨t, a, b, e, h, r1, r2⟩ => ⟨t, a, b, e, h.im f, Imm.im f r1, Imm.im f r2⟩⟩
noncomputable instance imTp {α : Type} [Rp α] [Imm α] : Imm (Tp α) := ⟨fun f ⟨t, xs, e, h, z, p⟩ => ⟨t, xs, e, h.im f, z, Paired.imp' (fun _ _ r => Imm.im f r) p⟩⟩
noncomputable instance imOpt {α : Type} [Rp α] [Imm α] : Imm (Option α) := ⟨fun {K H H' v a} f h => by cases a with | none => exact h | some a => exact Imm.im (α := α) f h⟩
noncomputable def del (G : Hp) (p : Addr) : Hp := fun b => if b = p then none else G b
theorem del_ne {G : Hp} {p b : Addr} (h : b ≠ p) : del G p b = G b := by unfold del; rw [if_neg h]
theorem del_same {G : Hp} {p : Addr} : del G p p = none := by unfold del; rw [if_pos rfl]
theorem Ext.del {ho : HO} {G2 H2 : Hp} (hg : G p = none) (x : Ext (upd G p ho) H G2 H2) : Ext G H (L2.del G2 p) H2 :=
  ⟨fun b o e => by
    have hb : b ≠ p := ne_of_none e hg
    rw [del_ne hb]
    exact x.gg b o (by rw [upd_ne hb]; exact e), fun b o e => by
    by_cases hb : b = p
    · subst hb
      rw [del_same] at e
      cases e
    · rw [del_ne hb] at e
      exact x.gh b o e, x.hh, fun b h1 h2 => by
    by_cases hb : b = p
    · subst hb
      exact del_same
    · rw [del_ne hb]
      exact x.no b (by rw [upd_ne hb]; exact h1) h2⟩
theorem Imm.del {β : Type} [Rp β] [Imm β] {G2 : Hp} {w : V} {c : β} {ys : List V} (h : G2 p = some (.lst ys)) (r : Rp.rel K G2 w c) : Rp.rel K (L2.del G2 p) w c :=
  Imm.im ⟨fun b xs e => by
    have hb : b ≠ p := fun z => by
      subst z
      rcases e with e | ⟨o, e⟩ <;> (rw [h] at e; cases e)
    rcases e with e | ⟨o, e⟩
    · exact .inl (by rw [del_ne hb]; exact e)
    · exact .inr ⟨o, by rw [del_ne hb]; exact e⟩, fun b xs e => by
    have hb : b ≠ p := fun z => by
      subst z
      rw [h] at e
      cases e
    rw [del_ne hb]
    exact e⟩ r
theorem EV.runB {β : Type} [Rp β] [Imm β] {mb : Option β} {b : β} {Q : VK} (o : Own K G H v p vs as) (e : EV K te σ (upd G p (.lst vs)) mb) (hm : mb = some b) (s : Same G H) (k : ∀ w G2 H2, Ext G H G2 H2 → Rp.rel K G2 w b → Q w H2) : te σ H Q :=
  e.run hm (o.same s) fun w G2 H2 x r => k w (del G2 p) H2 (x.del o.g) (Imm.del (x.gg _ _ upd_same) r)
theorem TV.runB {mb : Option Bool} {b : Bool} {Q : Bool → Hp → Prop} (o : Own K G H v p vs as) (e : TV tt σ (upd G p (.lst vs)) mb) (hm : mb = some b) (s : Same G H) (k : ∀ G2 H2, Ext G H G2 H2 → Q b H2) : tt σ H Q :=
  e.run hm (o.same s) fun G2 H2 x => k (del G2 p) H2 (x.del o.g)
end
end L2
set_option Elab.async false
set_option linter.all false
set_option maxRecDepth 100000
set_option maxHeartbeats 4000000
namespace L2
open PySem PySem.Spec PyProof.Rows
section
variable {K : PySem.W.Frag} {σ : St} {G : Hp}
theorem ev_def0 {ρ : Type} [Rp ρ] {m : Unit → Option ρ} : EV K (tCall (spM K m) [] E0 tNil) σ G (m ()) := by
  have h := ev_def (K := K) (σ := σ) (G := G) (m := m) av_nil
  exact h
theorem ev_def2 {ρ A0 A1 : Type} [Rp ρ] [Rp A0] [Rp A1] {t0 t1 : TE} {m0 : Option A0} {m1 : Option A1} {m : A0 × A1 × Unit → Option ρ} (e0 : EV K t0 σ G m0) (e1 : EV K t1 σ G m1) : EV K (tCall (spM K m) [] E0 (tCons t0 (tCons t1 tNil))) σ G (m0.bind fun a0 => m1.bind fun a1 => m (a0, a1, ())) := by
  intro G1 s1 c hc H sH Q k
  obtain ⟨a0, ha0, hc⟩ := Option.bind_eq_some_iff.mp hc
  obtain ⟨a1, ha1, hc⟩ := Option.bind_eq_some_iff.mp hc
  refine e0 G1 s1 a0 ha0 H sH _ fun v0 G2 H2 x0 r0 => ?_
  have y0 := x0
  refine e1 G2 (s1.trans y0.gg) a1 ha1 H2 y0.gh _ fun v1 G3 H3 x1 r1 => ?_
  have y1 := y0.trans x1
  exact ⟨G3, _, c, y1.gh, ⟨v0, _, rfl, (Rp.mono x1.gg r0), ⟨v1, _, rfl, r1, rfl⟩⟩, hc, fun v G9 H9 x9 r9 => k v G9 H9 (y1.trans x9) r9⟩
section
variable {ta tb : TE} {a b : Bool} {tt tu : TT} {mb : Option Bool}
theorem TV.of {m m' : Option Bool} (e : TV tt σ G m) (h : m = m') : TV tt σ G m' := h ▸ e
theorem tv_andP (ea : TV tt σ G (some a)) (eb : TV tu σ G (some b)) : TV (tAnd tt tu) σ G (some (a && b)) := (tv_and ea eb).of (by cases a <;> rfl)
theorem tv_orP (ea : TV tt σ G (some a)) (eb : TV tu σ G (some b)) : TV (tOr tt tu) σ G (some (a || b)) := (tv_or ea eb).of (by cases a <;> rfl)
theorem TruV.mono {G H : Hp} {v : V} {k : Bool} (s : Same G H) (h : TruV K v G k) : TruV K v H k := by
  cases v with
  | ref p =>
    rcases h with ⟨xs, hx, e⟩ | ⟨xs, hx, e⟩ | ⟨kvs, hx, e⟩
    · exact .inl ⟨xs, s.seq hx, e⟩
    · exact .inr (.inl ⟨xs, s.tup hx, e⟩)
    · exact .inr (.inr ⟨kvs, s _ _ hx, e⟩)
  | _ => exact h
theorem tv_b {mb : Option Bool} (ea : EV K ta σ G mb) : TV (fun σ H Q => ta σ H fun x H' => ∃ k, TruV K x H' k ∧ Q k H') σ G mb := by
  have h := tv_tru (K := K) (f := fun (a : Bool) => a) (fun {G v a} (r : Rp.rel K G v a) => by cases r; exact rfl) (fun s => TruV.mono s) ea
  refine h.of ?_
  cases mb <;> rfl
end
theorem cT {α : Type} {A B : Option α} {r : Option α} (h : cond true A B = r) : A = r := h
theorem cF {α : Type} {A B : Option α} {r : Option α} (h : cond false A B = r) : B = r := h
theorem sv_turn {i : Nat} {x : V} {σ : St} {H : Hp} {tb : TS} {D : Ends} (h : tb D (σ.set i (some x)) H) : gName i x σ H fun σ2 H2 => tb D σ2 H2 := h
end
end L2
set_option Elab.async false
set_option linter.all false
set_option maxRecDepth 100000
set_option maxHeartbeats 4000000
namespace L2
open PySem PySem.Spec PyProof.Rows
section
variable {K : PySem.W.Frag} {σ : St} {G H : Hp} {α β γ : Type} [Rp α] [Rp β] [Rp γ] {ta tb te : TE} {ia ib : Option Int} {c : Int} {rest t u : TS} {D : Ends} {i j : Nat} {tt : TT}
theorem ev_mulR (ea : EV K ta σ G ia) (hc : -(2 ^ 64) < c ∧ c < 2 ^ 64 := by decide) : EV K (tOp (rMul K) ta (tC (.int c))) σ G (ia.bind fun a => some (a * c)) := by
  have h := ev_mul ea (ev_i (K := K) (σ := σ) (G := G) (i := c))
  have e : (ia.bind fun a => (some c).bind fun b => mulO a b) = ia.bind fun a => some (a * c) := by
    congr 1; funext a
    show mulO a c = _
    unfold mulO
    rw [if_pos (.inr hc)]
  exact h.of e
theorem ev_modR (ea : EV K ta σ G ia) (hc : 0 < c := by decide) : EV K (tOp (rI (fun _ j => 0 < j) fun i j => .int (i % j)) ta (tC (.int c))) σ G (ia.bind fun a => some (a % c)) := by
  have h := ev_mod ea (ev_i (K := K) (σ := σ) (G := G) (i := c))
  have e : (ia.bind fun a => (some c).bind fun b => modO a b) = ia.bind fun a => some (a % c) := by
    congr 1; funext a
    show modO a c = _
    unfold modO
    rw [if_pos hc]
  exact h.of e
theorem ev_modC (ea : EV K ta σ G ia) (eb : EV K tb σ G (some c)) (hc : 0 < c) : EV K (tOp (rI (fun _ j => 0 < j) fun i j => .int (i % j)) ta tb) σ G (ia.bind fun a => some (a % c)) := by
  have h := ev_mod ea eb
  have e : (ia.bind fun a => (some c).bind fun b => modO a b) = ia.bind fun a => some (a % c) := by
    congr 1; funext a
    show modO a c = _
    unfold modO
    rw [if_pos hc]
  exact h.of e
theorem ev_divR (ea : EV K ta σ G ia) (hc : 0 < c ∧ c < 1073741824 := by decide) : EV K (tOp (rI CDiv fun i j => .int (i / j)) ta (tC (.int c))) σ G (ia.bind fun a => some (a / c)) := by
  have h := ev_div ea (ev_i (K := K) (σ := σ) (G := G) (i := c))
  have e : (ia.bind fun a => (some c).bind fun b => divO a b) = ia.bind fun a => some (a / c) := by
    congr 1; funext a
    show divO a c = _
    unfold divO
    rw [if_pos (show CDiv a c from hc)]
  exact h.of e
structure Scr where
  l : List Int
noncomputable instance rpScr : Rp Scr := ⟨fun K H v a => ∃ l, v = .ref l ∧ SqL K H l (a.l.map V.int), fun s ⟨l, e, h⟩ => ⟨l, e, s.seq h⟩⟩
theorem ev_lenX {ma : Option Scr} (ea : EV K ta σ G ma) : EV K (tCB (rLen K) (tCons ta tNil)) σ G (ma.bind fun a => some (a.l.length : Int)) := by
  intro G1 s1 c hc H sH Q k
  obtain ⟨a, ha, hc⟩ := Option.bind_eq_some_iff.mp hc
  cases hc
  refine ea G1 s1 a ha H sH _ fun v G2 H2 x2 r2 => ?_
  obtain ⟨l, rfl, h⟩ := r2
  exact ⟨_, .inl (x2.gh.seq h), by rw [List.length_map]; exact k _ _ _ x2 rfl⟩
theorem pairedI {H : Hp} : ∀ ns : List Int, Paired (Rp.rel K H) (ns.map V.int) ns
  | [] => .nil
  | _ :: r => .cons rfl (pairedI r)
theorem ev_atX {ma : Option Scr} (ea : EV K ta σ G ma) (eb : EV K tb σ G ib) : EV K (tOp (rAt K) ta tb) σ G (ma.bind fun a => ib.bind fun i => atI a.l i) :=
  ev_bin (fun s ra rb e Q k => by
    obtain ⟨l, rfl, h⟩ := ra; cases rb
    obtain ⟨v, hv, r⟩ := paired_atI (pairedI (K := K) _) e
    exact .inl ⟨_, v, s.seq h, hv, k _ _ _ (.refl s) r⟩) ea eb
theorem sv_ifB {b : Bool} {m : Option Bool} {v : V} {p : Addr} {vs : List V} {as : List β} (o : Own K G H v p vs as) (e : TV tt σ (upd G p (.lst vs)) m) (hm : m = some b) (s : Same G H) (k : ∀ G2 H2, Ext G H G2 H2 → if b = true then t { D with nx := rest D } σ H2 else u { D with nx := rest D } σ H2) :
    tSeq (tIfS tt t u) rest D σ H := TV.runB o e hm s k
end
end L2
set_option Elab.async false
set_option linter.all false
set_option maxRecDepth 100000
set_option maxHeartbeats 4000000
namespace L2
open PySem PySem.Spec PyProof.Rows
section
variable {K : PySem.W.Frag} {σ : St} {G H G1 H1 G0 H0 : Hp} {α β γ : Type} [Rp α] [Rp β] [Rp γ] {ta tb te ti : TE} {tt : TT} {t u rest : TS} {D : Ends} {i j : Nat} {v : V} {p q r : Addr} {vs ws : List V} {a : List α × List β}
noncomputable def spL (K : PySem.W.Frag) {A : Type} [RpA A] {α : Type} [Rp α] (m : A → Option (List α)) : Sp := fun vs H Q _ =>
  ∃ G a r, Same G H ∧ RpA.rel K G vs a ∧ m a = some r ∧ ∀ p vs G2 H2, Ext G H G2 H2 → H p = none → Own K G2 H2 (.ref p) p vs r → Q (.ref p) H2
theorem spL_len {A : Type} [RpA A] {m : A → Option (List α)} {vs : List V} {H : Hp} {Q : VK} {E : XK} (h : spL K m vs H Q E) : vs.length = RpA.n A := by
  obtain ⟨G, a, r, _, h, _⟩ := h
  exact RpA.len h
theorem fv_def1 {A0 : Type} [Rp A0] {t0 : TE} {m0 : Option A0} {m : A0 × Unit → Option (List α)} (e0 : EV K t0 σ G m0) : FV K (tCall (spL K m) [] E0 (tCons t0 tNil)) σ G (m0.bind fun a0 => m (a0, ())) := by
  intro G1 s1 c hc H sH Q k
  obtain ⟨a0, ha0, hc⟩ := Option.bind_eq_some_iff.mp hc
  refine e0 G1 s1 a0 ha0 H sH _ fun v0 G2 H2 x0 r0 => ?_
  have y0 := x0
  exact ⟨G2, _, c, y0.gh, ⟨v0, _, rfl, r0, rfl⟩, hc, fun p vs G9 H9 x9 h1 o => k p vs G9 H9 (y0.trans x9) (y0.hh.free h1) o.g o.h o.z o.p⟩
theorem sv_retL {as : List α} {m : Option (List α)} (e : FV K te σ G m) (hm : m = some as) (s : Same G H) (k : ∀ p vs G2 H2, Ext G H G2 H2 → H p = none → Own K G2 H2 (.ref p) p vs as → D.rt (.ref p) H2) : tSeq (tRet te) rest D σ H :=
  e G (.refl G) as hm H s _ fun p vs G2 H2 x h0 hg hh hz hp => k p vs G2 H2 x h0 ⟨rfl, hg, hh, hz, hp⟩
end
end L2
set_option Elab.async false
set_option linter.all false
set_option maxRecDepth 100000
set_option maxHeartbeats 4000000
namespace L2
open PySem PySem.Spec PyProof.Rows
section
variable {X : Cx} {K : PySem.W.Frag}
theorem op_plusK (h : X.K = K) : OpR X (binaryOp .Add) (rPlus K) := h ▸ op_plus
theorem op_mulK (h : X.K = K) : OpR X (binaryOp .Mult) (rMul K) := h ▸ op_mulU
theorem ix_anyK (h : X.K = K) : IxR X (rAt K) := h ▸ ix_any
theorem call_lenK (h : X.K = K) : CallR X (.builtin "len") (rLen K) := h ▸ call_lenU
theorem call_instK (h : X.K = K) : CallR X (.builtin "isinstance") (rInst K) := h ▸ call_inst
theorem mt_joinK (h : X.K = K) : MtR X "str.join" (rJoin K) := h ▸ mt_join
theorem op_eqK {j : Nat} (h : X.K = K) (α : Type) [Rp α] [DecidableEq α] [RpE α] (hr : Room j X.A) (hk : RpE.k α ≤ 10) : OpR X (compareOp .Eq) (rEqD K α) := h ▸ op_eqM α hr hk
theorem op_neK {j : Nat} (h : X.K = K) (α : Type) [Rp α] [DecidableEq α] [RpE α] (hr : Room j X.A) (hk : RpE.k α ≤ 10) : OpR X (compareOp .NotEq) (rNeD K α) := h ▸ op_neM α hr hk
theorem call_listK (h : X.K = K) : CallR X (.type "list") (fun xs H Q => ∃ p ys, xs = [.ref p] ∧ (SqL K H p ys ∨ SqT K H p ys) ∧ ∀ l, H l = none → Q (.ref l) (upd H l (.lst ys))) := h ▸ call_list_of
theorem pi_anyK {tg l : Expr} {tl : TE} (h : X.K = K) (hl : PE X l tl) : PI X tg l (iAny K tl) := h ▸ pi_any hl
theorem pt_truthK {a : Expr} {ta : TE} (h : X.K = K) (ha : PE X a ta) (he : ∀ whole, isTrue a X.env whole = (do let v ← whole; standAt a.pos; holding [v] (truthy v))) :
    PT X a (fun σ H Q => ta σ H fun x H' => ∃ k, TruV K x H' k ∧ Q k H') := h ▸ pt_truth ha he
section
variable {o e : Expr} {es : List Expr} {to : TE} {t : TA} {name : Str} {apos cpos : Pos} {T id : String} {r : V → List V → Hp → VK → Prop}
theorem pe_bmK (h : X.K = K) (pa : PlainAttrs T) (slot : Slot T name id) (hty : typeOf (.builtin id) = pure (.type "method_descriptor")) (hm : MtR X id r) (ho : PE X o to) (ha : PA X (e :: es) t)
    (hbase : attributeBase o name X.env (eval o X.env) = eval o X.env := by rfl)
    (hfew : ((backTo cpos (starEach (e :: es) X.env)).all (fun x => !x.1) && (backToKw cpos (keywordEach [] X.env)).all (fun x => x.1.isSome)
      && decide ((e :: es).length + ([] : List Keyword).length + (if ([] : List Keyword).isEmpty then 0 else 1) < 30)) = true := by rfl)
    (hline : (apos.endLine == cpos.line) = true := by rfl) (hs : starEach (e :: es) X.env = (false, eval e X.env) :: starEach es X.env := by rfl) (hplain : (backTo cpos (starEach es X.env)).any (·.1) = false := by rfl) :
    PE X (.Call (.Attribute o name apos) (e :: es) [] cpos) (tBM K T r to t) := h ▸ pe_bm pa slot hty hm ho ha hbase hfew hline hs hplain
end
end
theorem sv_nx {f : St → Hp → Prop} {rt : VK} {bk ct : St → Hp → Prop} {σ : St} {H : Hp} (h : f σ H) : ({ nx := f, rt := rt, bk := bk, ct := ct } : Ends).nx σ H := h
end L2
set_option Elab.async false
set_option linter.all false
set_option maxRecDepth 100000
set_option maxHeartbeats 4000000
namespace L2
open PySem PySem.Spec PyProof.Rows
section
variable {K : PySem.W.Frag} {σ : St} {G H : Hp} {α β γ : Type} [Rp α] [Rp β] [Rp γ] {ta tb te : TE} {rest t u : TS} {D : Ends} {i j : Nat}
end
end L2
set_option Elab.async false
set_option linter.all false
set_option maxRecDepth 100000
set_option maxHeartbeats 4000000
namespace L2
open PySem PySem.Spec PyProof.Rows
inductive D where
  | non
  | bl (b : Bool)
  | int (i : Int)
  | str (x : Str)
  | lst (l : List D)
  | tup (l : List D)
  | dic
mutual
inductive RelD (K : PySem.W.Frag) (H : Hp) : V → D → Prop where
  | non : RelD K H .non .non
  | bl (b : Bool) : RelD K H (.bl b) (.bl b)
  | int (i : Int) : RelD K H (.int i) (.int i)
  | str (x : Str) (z : x.length ≤ sizeLine) : RelD K H (.str x) (.str x)
  | lst {a : Addr} {xs : List V} {ds : List D} (h : Rd H a (.lst xs)) (z : xs.length ≤ sizeLine) (r : RelDs K H xs ds) : RelD K H (.ref a) (.lst ds)
  | tup {a : Addr} {xs : List V} {ds : List D} (h : SqT K H a xs) (z : xs.length ≤ sizeLine) (r : RelDs K H xs ds) : RelD K H (.ref a) (.tup ds)
  | dK {a : Addr} {kvs : List (Key × V)} (h : Rd H a (.dK kvs)) : RelD K H (.ref a) .dic
inductive RelDs (K : PySem.W.Frag) (H : Hp) : List V → List D → Prop where
  | nil : RelDs K H [] []
  | cons {x : V} {d : D} {xs : List V} {ds : List D} (h : RelD K H x d) (t : RelDs K H xs ds) : RelDs K H (x :: xs) (d :: ds)
end
mutual
theorem RelD.mono {K : PySem.W.Frag} {H H' : Hp} (s : Same H H') : ∀ {v : V} {d : D}, RelD K H v d → RelD K H' v d
  | _, _, .non => .non
  | _, _, .bl b => .bl b
  | _, _, .int i => .int i
  | _, _, .str x z => .str x z
  | _, _, .lst h z r => .lst (s.rd h) z (RelDs.mono s r)
  | _, _, .tup h z r => .tup (s.tup h) z (RelDs.mono s r)
  | _, _, .dK h => .dK (s.rd h)
theorem RelDs.mono {K : PySem.W.Frag} {H H' : Hp} (s : Same H H') : ∀ {v : List V} {d : List D}, RelDs K H v d → RelDs K H' v d
  | _, _, .nil => .nil
  | _, _, .cons h t => .cons (RelD.mono s h) (RelDs.mono s t)
end
noncomputable instance rpD : Rp D := ⟨RelD, fun s h => RelD.mono s h⟩
theorem of_relDs {K : PySem.W.Frag} {H : Hp} : ∀ {xs : List V} {ds : List D}, RelDs K H xs ds → Paired (Rp.rel K H) xs ds
  | _, _, .nil => .nil
  | _, _, .cons h t => .cons h (of_relDs t)
class ToD (α : Type) [Rp α] where
  to : α → D
  rel : ∀ {K : PySem.W.Frag} {H : Hp} {v : V} {a : α}, Rp.rel K H v a → RelD K H v (to a)
theorem toDs {K : PySem.W.Frag} {H : Hp} {α : Type} [Rp α] [ToD α] : ∀ {xs : List V} {as : List α}, Paired (Rp.rel K H) xs as → Paired (Rp.rel (α := D) K H) xs (as.map ToD.to)
  | _, _, .nil => .nil
  | _, _, .cons h t => .cons (ToD.rel h) (toDs t)
noncomputable instance tdInt : ToD Int := ⟨.int, fun h => by cases h; exact .int _⟩
noncomputable instance tdBool : ToD Bool := ⟨.bl, fun h => by cases h; exact .bl _⟩
noncomputable instance tdStr : ToD Str := ⟨.str, fun h => by obtain ⟨rfl, z⟩ := h; exact .str _ z⟩
noncomputable instance tdUnit : ToD Unit := ⟨fun _ => .non, fun h => by cases h; exact .non⟩
noncomputable def dk : D → String
  | .non => "NoneType"
  | .bl _ => "bool"
  | .int _ => "int"
  | .str _ => "str"
  | .lst _ => "list"
  | .tup _ => "tuple"
  | .dic => "dict"
section
variable {K : PySem.W.Frag} {σ : St} {G : Hp} {α β : Type} [Rp α] [Rp β] {ta tb te : TE} {md : Option D}
theorem RelD.ty {H : Hp} {v : V} {d : D} (r : RelD K H v d) : TyS K H v (dk d) := by
  cases r with
  | non => exact .non
  | bl => exact .bl _
  | int => exact .int _
  | str => exact .str _
  | lst h => exact .lst (.inl h)
  | tup h => exact .tup h
  | dK h => exact .dK h
theorem RelDs.len {H : Hp} {xs : List V} {ds : List D} (r : RelDs K H xs ds) : xs.length = ds.length := Paired.length (of_relDs r)
end
end L2
set_option Elab.async false
set_option linter.all false
set_option maxRecDepth 100000
set_option maxHeartbeats 4000000
namespace L2
open PySem PySem.Spec PyProof.Rows
section
variable {K : PySem.W.Frag} {σ : St} {G : Hp} {ta : TE}
end
end L2
set_option Elab.async false
set_option linter.all false
set_option maxRecDepth 100000
set_option maxHeartbeats 4000000
namespace L2
open PySem PySem.Spec PyProof.Rows
noncomputable def OK {α : Type} (m : Option α) (P : α → Prop) : Prop := ∃ a, m = some a ∧ P a
section
variable {α β S ρ : Type} {m : Option α} {P Q : α → Prop} {R : β → Prop}
theorem OK.mono (h : OK m P) (k : ∀ a, P a → Q a) : OK m Q := let ⟨a, e, p⟩ := h; ⟨a, e, k a p⟩
theorem ok_some {a : α} (h : P a) : OK (some a) P := ⟨a, rfl, h⟩
theorem ok_bind {f : α → Option β} (h : OK m fun a => OK (f a) R) : OK (m.bind f) R := by
  obtain ⟨a, rfl, h⟩ := h
  exact h
theorem ok_bC {f : α → Option β} (a : α) (e : m = some a) (h : OK (f a) R) : OK (m.bind f) R := ok_bind ⟨a, e, h⟩
theorem ok_by {f : α → Option β} (h : OK m P) (k : ∀ a, P a → OK (f a) R) : OK (m.bind f) R := ok_bind (h.mono k)
theorem ok_cond {b : Bool} {x y : Option α} (h1 : b = true → OK x P) (h2 : b = false → OK y P) : OK (cond b x y) P := by
  cases b with
  | true => exact h1 rfl
  | false => exact h2 rfl
theorem OK.eq {a : α} (h : OK m fun b => b = a) : m = some a := by obtain ⟨b, e, rfl⟩ := h; exact e
theorem OK.of {a : α} (e : m = some a) (h : P a) : OK m P := ⟨a, e, h⟩
theorem bindS {α β : Type} (a : α) (f : α → Option β) : (some a).bind f = f a := by rw [Option.bind_some]
theorem bind_self {α : Type} (m : Option α) : (m.bind fun x => some x) = m := by cases m <;> rfl
theorem ok_catS {a b : Str} {P : Str → Prop} (hb : a.length + b.length ≤ sizeLine) (h : P (a ++ b)) : OK (catS a b) P := ⟨_, if_pos hb, h⟩
theorem ok_catL {a b : List α} {P : List α → Prop} (hb : a.length + b.length ≤ sizeLine) (h : P (a ++ b)) : OK (catL a b) P := ⟨_, if_pos hb, h⟩
theorem ok_push {a : List α} {b : α} {P : List α → Prop} (hb : a.length < sizeLine) (h : P (a ++ [b])) : OK (pushO a b) P := ⟨_, if_pos hb, h⟩
theorem ok_rng {lo hi : Int} {n : Nat} {P : List Int → Prop} (hn : hi - lo = n) (h0 : -1000000000 ≤ lo ∧ lo ≤ 1000000000) (h1 : n ≤ sizeLine) (h : P ((List.range n).map fun (i : Nat) => lo + (i : Int))) : OK (rngO lo hi) P := by
  have hs : sizeLine = 16777216 := sizeLine_eq
  have e : (hi - lo).toNat = n := by omega
  refine ⟨_, if_pos ⟨⟨by omega, by omega, by omega, by omega⟩, by omega⟩, ?_⟩
  rw [e]
  exact h
theorem ok_at {a : List α} {i : Int} (h0 : 0 ≤ i) (h1 : i < a.length) (h : ∀ x, a[i.toNat]? = some x → P x) : OK (atI a i) P := by
  obtain ⟨k, rfl⟩ := Int.eq_ofNat_of_zero_le h0
  have hk : k < a.length := by omega
  refine ⟨a[k], atI_nat (by simp [hk]), h _ ?_⟩
  rw [Int.toNat_natCast]
  simp [hk]
theorem ok_atN {a : List α} {k : Nat} (h1 : k < a.length) (h : ∀ x, a[k]? = some x → P x) : OK (atI a (k : Int)) P :=
  ⟨a[k], atI_nat (by simp [h1]), h _ (by simp [h1])⟩
theorem ok_for {f : α → S → Option (Fl S ρ)} {as : List α} {s0 : S} (I : Nat → S → Prop) (J : S → Prop) (R : ρ → Prop) {P : Fl S ρ → Prop} (h0 : I 0 s0)
    (hs : ∀ (i : Nat) a s, as[i]? = some a → I i s → OK (f a s) fun fl => match fl with | .nx s' => I (i + 1) s' | .bk s' => J s' | .rt r => R r)
    (hn : ∀ s, I as.length s → P (.nx s)) (hj : ∀ s, J s → P (.nx s)) (hr : ∀ r, R r → P (.rt r)) : OK (forO f as s0) P := by
  have key : ∀ (n i : Nat) (s : S), n = as.length - i → i ≤ as.length → I i s → OK (forO f (as.drop i) s) P := by
    intro n
    induction n with
    | zero =>
      intro i s hn0 hi hI
      have e : i = as.length := by omega
      subst e
      rw [List.drop_length]
      exact ok_some (hn s hI)
    | succ n ih =>
      intro i s hn0 hi hI
      have hlt : i < as.length := by omega
      rw [List.drop_eq_getElem_cons hlt]
      obtain ⟨fl, e, h⟩ := hs i as[i] s (by simp [hlt]) hI
      show OK ((f as[i] s).bind _) P
      rw [e]
      cases fl with
      | nx s' => exact ih (i + 1) s' (by omega) hlt h
      | bk s' => exact ok_some (hj s' h)
      | rt r => exact ok_some (hr r h)
  exact key as.length 0 s0 (by omega) (Nat.zero_le _) h0
theorem ok_for' {f : α → S → Option (Fl S ρ)} {as : List α} {s0 : S} (I : Nat → S → Prop) {P : Fl S ρ → Prop} (h0 : I 0 s0)
    (hs : ∀ (i : Nat) a s, as[i]? = some a → I i s → OK (f a s) fun fl => ∃ s', fl = .nx s' ∧ I (i + 1) s') (hn : ∀ s, I as.length s → P (.nx s)) : OK (forO f as s0) P :=
  ok_for I (fun _ => False) (fun _ => False) h0 (fun i a s ha hI => (hs i a s ha hI).mono fun fl ⟨s', e, h⟩ => by subst e; exact h) hn (fun _ h => h.elim) fun _ h => h.elim
theorem ok_map {f : α → Option β} {g : α → β} {P : List β → Prop} : ∀ {as : List α}, (∀ a ∈ as, f a = some (g a)) → P (as.map g) → OK (mapO f as) P := by
  intro as
  have key : ∀ as : List α, (∀ a ∈ as, f a = some (g a)) → mapO f as = some (as.map g) := by
    intro as
    induction as with
    | nil => intro _; rfl
    | cons a r ih =>
      intro h
      show ((f a).bind fun y => (mapO f r).bind fun ys => some (y :: ys)) = _
      rw [h a List.mem_cons_self, ih fun x hx => h x (List.mem_cons_of_mem _ hx)]
      rfl
  exact fun h p => ⟨_, key as h, p⟩
theorem ok_comp {fc : α → Option Bool} {fe : α → Option β} {c : α → Bool} {g : α → β} {P : List β → Prop} {as : List α} (hc : ∀ a ∈ as, fc a = some (c a)) (he : ∀ a ∈ as, c a = true → fe a = some (g a)) (p : P ((as.filter c).map g)) : OK (compO fc fe as) P := by
  have key : ∀ as : List α, (∀ a ∈ as, fc a = some (c a)) → (∀ a ∈ as, c a = true → fe a = some (g a)) → compO fc fe as = some ((as.filter c).map g) := by
    intro as
    induction as with
    | nil => intro _ _; rfl
    | cons a r ih =>
      intro h1 h2
      have i := ih (fun x hx => h1 x (List.mem_cons_of_mem _ hx)) fun x hx => h2 x (List.mem_cons_of_mem _ hx)
      show ((fc a).bind fun b => cond b ((fe a).bind fun y => (compO fc fe r).bind fun ys => some (y :: ys)) (compO fc fe r)) = _
      rw [h1 a List.mem_cons_self, i]
      cases hb : c a with
      | true =>
        show ((fe a).bind fun y => _) = _
        rw [h2 a List.mem_cons_self hb]
        simp [hb]
      | false => simp [hb]
  exact ⟨_, key as hc he, p⟩
end
end L2
set_option Elab.async false
set_option linter.all false
set_option maxRecDepth 100000
namespace Lasso
variable {α β : Type}
end Lasso
set_option Elab.async false
set_option linter.all false
set_option maxRecDepth 100000
namespace Lasso
variable {α : Type} [DecidableEq α]
end Lasso
set_option Elab.async false
set_option linter.all false
set_option maxRecDepth 100000
set_option maxHeartbeats 4000000
namespace L2
open PySem PySem.Spec PyProof.Rows
noncomputable abbrev RunT := List Str × List Str
section
variable {K : PySem.W.Frag} {σ : St} {G H G0 H0 Gx G1 H1 G2 H2 : Hp} {α β : Type} [Rp α] [Rp β] {ta tb tc te : TE} {tt : TT} {t u rest : TS} {D : Ends} {i j : Nat} {v : V}
structure Told (K : PySem.W.Frag) (H0 G Gx H : Hp) (v : V) (r : List RunT) : Prop where
  up : Same G Gx
  sm : Same Gx H
  rel : Rp.rel K Gx v r
  cells : ∃ L xs, v = .ref L ∧ H L = some (.lst xs) ∧ G L = none ∧ H0 L = none ∧ Paired (fun x (a : RunT) => ∃ t p q vs ws, x = .ref t ∧ H t = some (.tup [.ref p, .ref q]) ∧ (G p = none ∧ H0 p = none ∧ p ≠ L ∧ H p = some (.lst vs) ∧ vs.length = a.1.length) ∧ (G q = none ∧ H0 q = none ∧ q ≠ L ∧ H q = some (.lst ws) ∧ ws.length = a.2.length)) xs r
theorem Told.ext {r : List RunT} (o : Told K H0 G Gx H v r) (x : Ext G H G1 H1) : ∃ L xs, v = .ref L ∧ H1 L = some (.lst xs) ∧ G1 L = none ∧ H0 L = none ∧ Paired (fun x (a : RunT) => ∃ t p q vs ws, x = .ref t ∧ H1 t = some (.tup [.ref p, .ref q]) ∧ (G1 p = none ∧ H0 p = none ∧ p ≠ L ∧ H1 p = some (.lst vs) ∧ vs.length = a.1.length) ∧ (G1 q = none ∧ H0 q = none ∧ q ≠ L ∧ H1 q = some (.lst ws) ∧ ws.length = a.2.length)) xs r := by
  obtain ⟨L, xs, e, hL, gL, h0, p⟩ := o.cells
  have nn : ∀ {a : Addr} {o : HO}, H a = some o → H a ≠ none := fun h z => by rw [h] at z; cases z
  refine ⟨L, xs, e, x.hh _ _ hL, x.no L gL (nn hL), h0, Paired.imp' (fun y a ⟨t, p, q, vs, ws, e, ht, ⟨p1, p2, p3, p4, p5⟩, ⟨q1, q2, q3, q4, q5⟩⟩ => ?_) p⟩
  exact ⟨t, p, q, vs, ws, e, x.hh _ _ ht, ⟨x.no p p1 (nn p4), p2, p3, x.hh _ _ p4, p5⟩, ⟨x.no q q1 (nn q4), q2, q3, x.hh _ _ q4, q5⟩⟩
end
end L2
set_option Elab.async false
set_option linter.all false
set_option maxRecDepth 100000
set_option maxHeartbeats 4000000
namespace L2
open PySem PySem.Spec PyProof.Rows
noncomputable def popO {α : Type} : List α → Option (α × List α)
  | [] => none
  | [a] => some (a, [])
  | a :: b :: r => (popO (b :: r)).bind fun p => some (p.1, a :: p.2)
theorem Paired.last {α β : Type} {R : α → β → Prop} : ∀ {vs : List α} {as : List β} {a : β} {as' : List β}, Paired R vs as → popO as = some (a, as') → ∃ w, vs[vs.length - 1]? = some w ∧ R w a ∧ Paired R vs.dropLast as'
  | _, _, _, _, .nil, hp => by cases hp
  | _, _, _, _, .cons h .nil, hp => by
    cases hp
    exact ⟨_, rfl, h, .nil⟩
  | _, _, _, _, .cons h (.cons h2 t), hp => by
    obtain ⟨q, hq, e⟩ := Option.bind_eq_some_iff.mp hp
    cases e
    obtain ⟨w, hw, r, pr⟩ := Paired.last (.cons h2 t) hq
    exact ⟨w, by simpa using hw, r, .cons h pr⟩
section
variable {X : Cx} {K : PySem.W.Frag} {o : Expr} {to : TE} {name : Str} {apos cpos : Pos} {T id : String} {r : V → List V → Hp → VK → Prop}
theorem pe_bm0K (h : X.K = K) (pa : PlainAttrs T) (slot : Slot T name id) (hty : typeOf (.builtin id) = pure (.type "method_descriptor")) (hm : MtR X id r) (ho : PE X o to)
    (hbase : attributeBase o name X.env (eval o X.env) = eval o X.env := by rfl) (hline : (apos.endLine == cpos.line) = true := by rfl) : PE X (.Call (.Attribute o name apos) [] [] cpos) (tBM0 K T r to) := h ▸ pe_bm0 pa slot hty hm ho hbase hline
end
section
variable {K : PySem.W.Frag} {σ : St} {G H G1 H1 G0 H0 : Hp} {α β : Type} [Rp α] [Rp β] {te ti : TE} {tt : TT} {t u rest : TS} {D : Ends} {i j : Nat} {a : α} {m : Option α} {as : List α} {v : V} {p q : Addr} {vs : List V}
end
end L2
set_option Elab.async false
set_option linter.all false
set_option maxRecDepth 100000
set_option maxHeartbeats 4000000
namespace L2
open PySem PySem.Spec PyProof.Rows
inductive Nt where
  | txt (x : Str)
  | tup (l : List Nt)
  | int (n : Int)
mutual
noncomputable def Nt.dec : (a b : Nt) → Decidable (a = b)
  | .txt x, .txt y => if h : x = y then .isTrue (by rw [h]) else .isFalse fun e => h (by cases e; rfl)
  | .txt _, .tup _ => .isFalse fun e => by cases e
  | .tup _, .txt _ => .isFalse fun e => by cases e
  | .int m, .int n => if h : m = n then .isTrue (by rw [h]) else .isFalse fun e => h (by cases e; rfl)
  | .int _, .txt _ => .isFalse fun e => by cases e
  | .int _, .tup _ => .isFalse fun e => by cases e
  | .txt _, .int _ => .isFalse fun e => by cases e
  | .tup _, .int _ => .isFalse fun e => by cases e
  | .tup l, .tup m => match Nt.decs l m with
    | .isTrue h => .isTrue (by rw [h])
    | .isFalse h => .isFalse fun e => h (by cases e; rfl)
noncomputable def Nt.decs : (l m : List Nt) → Decidable (l = m)
  | [], [] => .isTrue rfl
  | [], _ :: _ => .isFalse fun e => by cases e
  | _ :: _, [] => .isFalse fun e => by cases e
  | a :: l, b :: m => match Nt.dec a b with
    | .isFalse h => .isFalse fun e => h (by cases e; rfl)
    | .isTrue h => match Nt.decs l m with
      | .isTrue h2 => .isTrue (by rw [h, h2])
      | .isFalse h2 => .isFalse fun e => h2 (by cases e; rfl)
end
noncomputable instance ntDec : DecidableEq Nt := Nt.dec
mutual
noncomputable def Nt.dep : Nt → Nat
  | .txt _ => 0
  | .int _ => 0
  | .tup l => Nt.deps l + 1
noncomputable def Nt.deps : List Nt → Nat
  | [] => 0
  | a :: l => max (Nt.dep a) (Nt.deps l)
end
mutual
inductive RelN (K : PySem.W.Frag) (H : Hp) : V → Nt → Prop where
  | txt (x : Str) (z : x.length ≤ sizeLine) : RelN K H (.str x) (.txt x)
  | int (n : Int) : RelN K H (.int n) (.int n)
  | tup {a : Addr} {xs : List V} {ds : List Nt} (h : SqT K H a xs) (z : xs.length ≤ sizeLine) (r : RelNs K H xs ds) (l : ds[0]? = some (.txt "lamp") → H a = some (.tup xs)) : RelN K H (.ref a) (.tup ds)
inductive RelNs (K : PySem.W.Frag) (H : Hp) : List V → List Nt → Prop where
  | nil : RelNs K H [] []
  | cons {x : V} {d : Nt} {xs : List V} {ds : List Nt} (h : RelN K H x d) (t : RelNs K H xs ds) : RelNs K H (x :: xs) (d :: ds)
end
mutual
theorem RelN.mono {K : PySem.W.Frag} {H H' : Hp} (s : Same H H') : ∀ {v : V} {d : Nt}, RelN K H v d → RelN K H' v d
  | _, _, .txt x z => .txt x z
  | _, _, .int n => .int n
  | _, _, .tup h z r l => .tup (s.tup h) z (RelNs.mono s r) fun e => s _ _ (l e)
theorem RelNs.mono {K : PySem.W.Frag} {H H' : Hp} (s : Same H H') : ∀ {v : List V} {d : List Nt}, RelNs K H v d → RelNs K H' v d
  | _, _, .nil => .nil
  | _, _, .cons h t => .cons (RelN.mono s h) (RelNs.mono s t)
end
noncomputable instance rpN : Rp Nt := ⟨RelN, fun s h => RelN.mono s h⟩
theorem SqT.keep {K : PySem.W.Frag} {H H' : Hp} {a : Addr} {xs : List V} (s : TupK H H') (h : SqT K H a xs) : SqT K H' a xs := by
  rcases h with h | h
  · exact .inl (s.rd _ _ h)
  · exact .inr h
mutual
theorem RelN.keep {K : PySem.W.Frag} {H H' : Hp} (s : TupK H H') : ∀ {v : V} {d : Nt}, RelN K H v d → RelN K H' v d
  | _, _, .txt x z => .txt x z
  | _, _, .int n => .int n
  | _, _, .tup h z r l => .tup (SqT.keep s h) z (RelNs.keep s r) fun e => s.eq _ _ (l e)
theorem RelNs.keep {K : PySem.W.Frag} {H H' : Hp} (s : TupK H H') : ∀ {v : List V} {d : List Nt}, RelNs K H v d → RelNs K H' v d
  | _, _, .nil => .nil
  | _, _, .cons h t => .cons (RelN.keep s h) (RelNs.keep s t)
end
noncomputable instance imN : Imm Nt := ⟨fun s h => RelN.keep s h⟩
section
variable {K : PySem.W.Frag} {σ : St} {G : Hp} {ta tb te : TE} {m1 m2 md : Option Nt}
end
end L2
set_option Elab.async false
set_option linter.all false
set_option maxRecDepth 100000
set_option maxHeartbeats 4000000
namespace L2
open PySem PySem.Spec PyProof.Rows
section
variable {X : Cx} {K : PySem.W.Frag}
end
section
variable {K : PySem.W.Frag} {σ : St} {G : Hp} {α : Type} [Rp α] {ta tb tc te : TE} {t1 t2 : TO} {ia ib ic : Option Int} {m1 m2 : Option (Option Int)}
class Flat (α : Type) [Rp α] [DecidableEq α] : Prop where
  fl : ∀ {K : PySem.W.Frag} {H : Hp} {v : V} {a : α}, Rp.rel K H v a → flatV v = true
  eq : ∀ {K : PySem.W.Frag} {H H' : Hp} {v u : V} {a b : α}, Rp.rel K H v a → Rp.rel K H' u b → eqV v u = decide (a = b)
noncomputable instance flInt : Flat Int := ⟨fun h => by cases h; rfl, fun h h' => by cases h; cases h'; exact dec_beq _ _⟩
noncomputable instance flStr : Flat Str := ⟨fun h => by obtain ⟨rfl, _⟩ := h; rfl, fun h h' => by obtain ⟨rfl, _⟩ := h; obtain ⟨rfl, _⟩ := h'; exact dec_beq _ _⟩
noncomputable instance flBool : Flat Bool := ⟨fun h => by cases h; rfl, fun h h' => by cases h; cases h'; exact dec_beq _ _⟩
end
mutual
noncomputable def Nt.toD : Nt → D
  | .txt x => .str x
  | .int n => .int n
  | .tup l => .tup (Nt.toDs l)
noncomputable def Nt.toDs : List Nt → List D
  | [] => []
  | a :: l => Nt.toD a :: Nt.toDs l
end
mutual
theorem RelN.toD {K : PySem.W.Frag} {H : Hp} : ∀ {v : V} {a : Nt}, RelN K H v a → RelD K H v a.toD
  | _, _, .txt x z => by unfold Nt.toD; exact .str x z
  | _, _, .int n => by unfold Nt.toD; exact .int n
  | _, _, .tup h z r _ => by unfold Nt.toD; exact .tup h z (RelNs.toD r)
theorem RelNs.toD {K : PySem.W.Frag} {H : Hp} : ∀ {xs : List V} {l : List Nt}, RelNs K H xs l → RelDs K H xs (Nt.toDs l)
  | _, _, .nil => by unfold Nt.toDs; exact .nil
  | _, _, .cons h t => by unfold Nt.toDs; exact .cons (RelN.toD h) (RelNs.toD t)
end
noncomputable instance tdN : ToD Nt := ⟨Nt.toD, fun h => RelN.toD h⟩
end L2
set_option Elab.async false
set_option linter.all false
set_option maxRecDepth 100000
set_option maxHeartbeats 4000000
namespace L2
open PySem PySem.Spec PyProof.Rows
section
variable {K : PySem.W.Frag} {σ : St} {G H G1 H1 G0 H0 : Hp} {α β γ : Type} [Rp α] [Rp β] [Rp γ] {te ti : TE} {tt : TT} {t u rest : TS} {D : Ends} {i j : Nat} {as : List α} {bs : List β} {v w : V} {p q : Addr} {vs ws : List V}
theorem Own.over {o : HO} (h : Own K G H v p vs as) (ne : p ≠ q) (hq : G q = none) : Own K (upd G q o) H v p vs as :=
  ⟨h.v, by rw [upd_ne ne]; exact h.g, h.h, h.z, Paired.imp' (fun _ _ r => Rp.mono (Same.new hq) r) h.p⟩
theorem EV.runBB [Imm γ] {mb : Option γ} {b : γ} {Q : VK} (o1 : Own K G H v p vs as) (o2 : Own K G H w q ws bs) (ne : q ≠ p) (e : EV K te σ (upd (upd G p (.lst vs)) q (.lst ws)) mb) (hm : mb = some b) (s : Same G H)
    (k : ∀ w G2 H2, Ext G H G2 H2 → Rp.rel K G2 w b → Q w H2) : te σ H Q :=
  EV.runB (o2.over ne o1.g) e hm (o1.same s) fun w G2 H2 x r => k w (del G2 p) H2 (x.del o1.g) (Imm.del (x.gg _ _ upd_same) r)
theorem TV.runBB {mb : Option Bool} {b : Bool} {Q : Bool → Hp → Prop} (o1 : Own K G H v p vs as) (o2 : Own K G H w q ws bs) (ne : q ≠ p) (e : TV tt σ (upd (upd G p (.lst vs)) q (.lst ws)) mb) (hm : mb = some b) (s : Same G H)
    (k : ∀ G2 H2, Ext G H G2 H2 → Q b H2) : tt σ H Q :=
  TV.runB (o2.over ne o1.g) e hm (o1.same s) fun G2 H2 x => k (del G2 p) H2 (x.del o1.g)
theorem sv_ifBB {b : Bool} {m : Option Bool} (o1 : Own K G H v p vs as) (o2 : Own K G H w q ws bs) (ne : q ≠ p) (e : TV tt σ (upd (upd G p (.lst vs)) q (.lst ws)) m) (hm : m = some b) (s : Same G H)
    (k : ∀ G2 H2, Ext G H G2 H2 → if b = true then t { D with nx := rest D } σ H2 else u { D with nx := rest D } σ H2) : tSeq (tIfS tt t u) rest D σ H := TV.runBB o1 o2 ne e hm s k
end
end L2
set_option Elab.async false
set_option linter.all false
set_option maxRecDepth 100000
set_option maxHeartbeats 4000000
namespace L2
open PySem PySem.Spec PyProof.Rows
section
variable {K : PySem.W.Frag} {σ : St} {G H G1 H1 G2 H2 G0 H0 : Hp} {α β γ δ : Type} [Rp α] [Rp β] [Rp γ] [Rp δ] {te ta tb ti : TE} {t : TA} {tt : TT} {rest : TS} {D : Ends} {i j n : Nat} {as as' : List α} {v w : V} {p q : Addr} {vs ws : List V}
end
end L2
set_option Elab.async false
set_option linter.all false
set_option maxRecDepth 100000
set_option maxHeartbeats 4000000
namespace L2
open PySem PySem.Spec PyProof.Rows
section
variable {K : PySem.W.Frag} {σ : St} {G : Hp} {ta : TE}
end
end L2
set_option Elab.async false
set_option linter.all false
set_option maxRecDepth 100000
set_option maxHeartbeats 4000000
namespace L2
open PySem PySem.Spec PyProof.Rows
section
variable {K : PySem.W.Frag} {σ : St} {G H : Hp} {α β γ : Type} [Rp α] [Rp β] [Rp γ] {ta tb te : TE} {rest : TS} {D : Ends} {i j : Nat}
end
end L2
set_option Elab.async false
set_option linter.all false
set_option maxRecDepth 100000
set_option maxHeartbeats 4000000
namespace L2
open PySem PySem.Spec PyProof.Rows
class NoN (α : Type) [Rp α] : Prop where
  no_non : ∀ {K : PySem.W.Frag} {H : Hp} {x : V} {a : α}, Rp.rel K H x a → x ≠ .non
  ne : ∀ {K : PySem.W.Frag} {X : Cx} {pins : List (Addr × Obj)} {σ : St} {H : Hp} {s : Shared} {x : V} {u : Value} {a : α} (A : Around), X.K = K → Inv X pins σ H s → A.units < cLine → RelV x u → Rp.rel K H x a →
    (SeqAt.EqAt A s .none u false ∧ SeqAt.RcAt A s .none u false ∧ SeqAt.RcNeAt A s .none u true) ∧ SeqAt.EqAt A s u .none false ∧ SeqAt.RcAt A s u .none false ∧ SeqAt.RcNeAt A s u .none true
noncomputable instance nnInt : NoN Int := ⟨fun h => (by cases h; exact fun z => (nomatch z)), fun A hK I hu r h => by
  cases h
  obtain ⟨t, rfl⟩ := r
  exact ⟨⟨SeqAt.EqAt.none_int _ _, SeqAt.RcAt.none_int _ _, SeqAt.RcNeAt.none_int _ _⟩, SeqAt.EqAt.int_none _ _, SeqAt.RcAt.int_none _ _, SeqAt.RcNeAt.int_none _ _⟩⟩
noncomputable instance nnPair {α β : Type} [Rp α] [Rp β] : NoN (α × β) := ⟨fun h => (by obtain ⟨_, _, _, rfl, _⟩ := h; exact fun z => (nomatch z)), fun A hK I hu r h => by
  obtain ⟨t, x, y, rfl, h, _⟩ := h
  cases r
  subst hK
  obtain ⟨us, rx, pl, _⟩ := I.tuple h
  exact ⟨⟨SeqAt.EqAt.none_tuple pl hu, SeqAt.RcAt.none_tuple pl hu, SeqAt.RcNeAt.none_tuple pl hu⟩, SeqAt.EqAt.tuple_none pl hu, SeqAt.RcAt.tuple_none pl hu, SeqAt.RcNeAt.tuple_none pl hu⟩⟩
class Fix (α : Type) [Rp α] : Prop where
  fx : ∀ {K : PySem.W.Frag} {G G' : Hp} {v : V} {a : α}, Rp.rel K G v a → Rp.rel K G' v a
noncomputable instance fxInt : Fix Int := ⟨fun h => h⟩
noncomputable instance fxBool : Fix Bool := ⟨fun h => h⟩
noncomputable instance fxStr : Fix Str := ⟨fun h => h⟩
section
variable {K : PySem.W.Frag} {σ : St} {G Gx H G1 H1 G0 H0 : Hp} {α β γ : Type} [Rp α] [Rp β] [Rp γ] {te ta tb tc ti : TE} {tt : TT} {t u rest : TS} {D : Ends} {i j : Nat} {as : List α} {bs : List β} {v w : V} {p q : Addr} {vs ws : List V}
theorem sv_clear (hσ : σ[i]? = some (some v)) (o : Own K G H v p vs as) (k : Own K G (upd H p (.lst [])) v p [] ([] : List α) → rest D σ (upd H p (.lst []))) : tSeq (tDrop (tBM K "list" rClear (tVar i) tNil)) rest D σ H := by
  obtain ⟨rfl, og, oh, oz, op⟩ := o
  exact ⟨_, hσ, .inl ⟨rfl, _, SqL.of oh⟩, p, vs, rfl, rfl, oh, k ⟨rfl, og, upd_same, Nat.zero_le _, .nil⟩⟩
variable {a : T3 α (List β) γ}
end
end L2
set_option Elab.async false
set_option linter.all false
set_option maxRecDepth 100000
set_option maxHeartbeats 4000000
namespace L2
open PySem PySem.Spec PyProof.Rows
section
variable {K : PySem.W.Frag} {σ : St} {G : Hp} {ta tb : TE}
end
end L2
set_option Elab.async false
set_option linter.all false
set_option maxRecDepth 100000
set_option maxHeartbeats 4000000
namespace L3
open PySem
section
variable {prog : Program} {w : World} {A : Around} {E : Value → Shared → Prop} {s : Shared}
end
section
variable {prog : Program} {w : World} {A : Around} {E : Value → Shared → Prop} {s : Shared}
end
end L3
set_option Elab.async false
set_option linter.all false
set_option maxRecDepth 100000
set_option maxHeartbeats 4000000
namespace L2
open PySem PySem.Spec PyProof.Rows
section
variable {K : PySem.W.Frag} {σ : St} {G : Hp} {ta tb : TE} {ia ib : Option Int}
end
end L2
set_option Elab.async false
set_option linter.all false
set_option maxRecDepth 100000
set_option maxHeartbeats 4000000
namespace L2
open PySem PySem.Spec PyProof.Rows
section
variable {X : Cx} {pins : List (Addr × Obj)} {σ : St}
end
end L2
set_option Elab.async false
set_option linter.all false
set_option maxRecDepth 100000
set_option maxHeartbeats 4000000
namespace L2
open PySem PySem.Spec PyProof.Rows
section
variable {K : PySem.W.Frag} {σ : St} {G : Hp} {α β : Type} [Rp α] [Rp β] {ta : TE}
end
end L2
set_option Elab.async false
set_option linter.all false
set_option maxRecDepth 100000
set_option maxHeartbeats 4000000
namespace L2
open PySem PySem.Spec PyProof.Rows
inductive SI where
  | s (x : Str)
  | i (n : Int)
  deriving DecidableEq
noncomputable def RelSI (v : V) : SI → Prop
  | .s x => v = .str x ∧ x.length ≤ sizeLine
  | .i n => v = .int n
noncomputable instance rpSI : Rp SI := ⟨fun _ _ v a => RelSI v a, fun _ h => h⟩
noncomputable instance imSI : Imm SI := ⟨fun _ h => h⟩
section
variable {K : PySem.W.Frag} {σ : St} {G H : Hp} {ta tb te td ti : TE} {α : Type} [Rp α] {md : Option SI} {rest : TS} {D : Ends} {i : Nat}
end
section
variable {K : PySem.W.Frag} {σ : St} {G H : Hp} {ta tb te td ti : TE} {α : Type} [Rp α]
end
section
variable {K : PySem.W.Frag} {σ : St} {G H : Hp} {ta tb te td ti : TE} {α : Type} [Rp α]
end
structure Mp (α : Type) where
  l : List (Int × α)
noncomputable def RelE (K : PySem.W.Frag) {α : Type} [Rp α] (H : Hp) (kv : Key × V) (q : Int × α) : Prop := kv.1 = .inl q.1 ∧ Rp.rel K H kv.2 q.2
noncomputable instance rpMp {α : Type} [Rp α] : Rp (Mp α) := ⟨fun K H v a => ∃ p kvs, v = .ref p ∧ H p = some (.dK kvs) ∧ Paired (RelE K H) kvs a.l,
  fun s ⟨p, kvs, e, h, pr⟩ => ⟨p, kvs, e, s _ _ h, Paired.imp' (fun _ _ r => ⟨r.1, Rp.mono s r.2⟩) pr⟩⟩
section
variable {K : PySem.W.Frag} {σ : St} {G H G1 H1 G0 H0 : Hp} {α β : Type} [Rp α] [Rp β] {td te ti : TE} {rest : TS} {D : Ends} {i : Nat} {a : Mp α} {v : V} {p q : Addr} {kvs : List (Key × V)}
end
section
variable {K : PySem.W.Frag} {σ : St} {G H : Hp} {α : Type} [Rp α] {te : TE} {rest : TS} {D : Ends} {i : Nat} {a : α} {m : Option α} {as : List α} {v : V} {p : Addr} {vs : List V}
end
end L2
set_option Elab.async false
set_option linter.all false
set_option maxRecDepth 100000
set_option maxHeartbeats 4000000
namespace L2
open PySem PySem.Spec PyProof.Rows
section
variable {X : Cx} {e : Expr} {te : TE} {lo hi : Option Expr} {se : Expr} {tl th ts : TO} {pos p2 : Pos}
end
section
variable {K : PySem.W.Frag} {σ : St} {G H : Hp} {ta t3 : TE} {t1 t2 : TO} {α : Type} [Rp α] {m1 m2 : Option (Option Int)} {c : Int}
end
end L2
set_option Elab.async false
set_option linter.all false
set_option maxRecDepth 100000
set_option maxHeartbeats 4000000
namespace L2
open PySem PySem.Spec PyProof.Rows
section
variable {K : PySem.W.Frag} {σ : St} {G : Hp} {α β γ : Type} [Rp α] [Rp β] [Rp γ] {ta tb : TE}
end
end L2
namespace L2
open PySem PySem.Spec PyProof.Rows
section
variable {K : PySem.W.Frag} {σ : St} {G H : Hp} {ta tb te : TE} {rest : TS} {D : Ends} {i : Nat} {v : V} {p : Addr} {vs : List V}
theorem paired_strsR {G : Hp} : ∀ {xs : List V} {ys : List Str}, Paired (Rp.rel K G) xs ys → xs = ys.map V.str
  | _, _, .nil => rfl
  | _, _, .cons h t => by
    obtain ⟨rfl, _⟩ := h
    rw [List.map_cons, paired_strsR t]
end
end L2
set_option Elab.async false
set_option linter.all false
set_option maxRecDepth 100000
set_option maxHeartbeats 4000000
namespace L2
open PySem PySem.Spec PyProof.Rows
noncomputable def leS (a b : Str) : Bool := !decide (b.cps.toList < a.cps.toList)
theorem leS_iff {a b : Str} : leS a b = true ↔ a.cps.toList ≤ b.cps.toList := by
  unfold leS
  rw [Bool.not_eq_true', decide_eq_false_iff_not]
  exact List.not_lt
theorem leS_trans (a b c : Str) (h1 : leS a b = true) (h2 : leS b c = true) : leS a c = true := leS_iff.mpr (List.le_trans (leS_iff.mp h1) (leS_iff.mp h2))
theorem leS_total (a b : Str) : (leS a b || leS b a) = true := by
  rw [Bool.or_eq_true, leS_iff, leS_iff]
  exact List.le_total _ _
theorem leS_anti {a b : Str} (h1 : leS a b = true) (h2 : leS b a = true) : a = b := by
  have := List.le_antisymm (leS_iff.mp h1) (leS_iff.mp h2)
  cases a
  cases b
  congr 1
  exact Array.toList_inj.mp this
noncomputable def sortS (ys : List Str) : List Str := ys.mergeSort leS
theorem sortS_perm (ys : List Str) : (sortS ys).Perm ys := List.mergeSort_perm ys leS
theorem rising_pw : ∀ (p : Str) (l : List Str), risingS p l = true → (p :: l).Pairwise fun a b => leS a b = true
  | p, [], _ => by simp
  | p, x :: r, h => by
    have h : (!ltCps x.cps.toList p.cps.toList && risingS x r) = true := h
    rw [Bool.and_eq_true, ltCps_eq] at h
    have h1 : leS p x = true := h.1
    have ih := rising_pw x r h.2
    refine List.pairwise_cons.mpr ⟨fun y hy => ?_, ih⟩
    rcases List.mem_cons.mp hy with rfl | hy
    · exact h1
    · exact leS_trans _ _ _ h1 (List.rel_of_pairwise_cons ih hy)
theorem sortS_of {ss ss' : List Str} (hp : ss'.Perm ss) (hs : sortedS ss' = true) : ss' = sortS ss := by
  have pw : ss'.Pairwise fun a b => leS a b = true := by
    cases ss' with
    | nil => exact .nil
    | cons x r => exact rising_pw x r hs
  exact List.Perm.eq_of_pairwise (fun a b _ _ h1 h2 => leS_anti h1 h2) pw (List.pairwise_mergeSort leS_trans leS_total ss) (hp.trans (sortS_perm ss).symm)
theorem vals_strs : ∀ {vs : List Value} {ss : List Str}, StrsAre vs ss → Vals (ss.map V.str) vs
  | _, _, .nil => .nil
  | _, _, .cons x t r => .cons ⟨t, rfl⟩ (vals_strs r)
theorem paired_len {K : PySem.W.Frag} {G : Hp} : ∀ {xs : List V} {ys : List Str}, Paired (Rp.rel K G) xs ys → ∀ y ∈ ys, y.length ≤ sizeLine
  | _, _, .nil => fun y hy => by cases hy
  | _, _, .cons h t => fun y hy => by
    rcases List.mem_cons.mp hy with rfl | hy
    · exact h.2
    · exact paired_len t y hy
section
variable {K : PySem.W.Frag} {σ : St} {G : Hp} {ta : TE}
end
end L2
set_option Elab.async false
set_option linter.all false
set_option maxRecDepth 100000
set_option maxHeartbeats 4000000
namespace L2
open PySem PySem.Spec PyProof.Rows
section
variable {K : PySem.W.Frag} {σ : St} {G : Hp} {α : Type} [Rp α] {ta tb : TE}
end
end L2
set_option Elab.async false
set_option linter.all false
set_option maxRecDepth 100000
namespace L2
open PySem PySem.Spec PyProof.Rows
section
variable {X : Cx} {pins : List (Addr × Obj)} {σ : St}
end
end L2
set_option Elab.async false
set_option linter.all false
set_option maxRecDepth 100000
set_option maxHeartbeats 4000000
namespace L2
open PySem PySem.Spec PyProof.Rows
end L2
set_option Elab.async false
set_option linter.all false
set_option maxRecDepth 100000
set_option maxHeartbeats 4000000
namespace L2
open PySem PySem.Spec PyProof.Rows
section
variable {prog : Program} {w : World} {A : Around} {E : Value → Shared → Prop} {s : Shared}
end
end L2
set_option Elab.async false
set_option linter.all false
set_option maxRecDepth 100000
set_option maxHeartbeats 4000000
namespace L2
open PySem PySem.Spec PyProof.Rows
section
variable {prog : Program} {w : World} {A : Around} {R : Result → Shared → Prop} {I : Addr} {fp wr : List Addr} {G : Array GenState → Array GenState → Prop} {n : Nat} {P : Nat → Value → Prop} {St : Nat → Shared → Prop}
end
section
variable {prog : Program} {w : World} {A : Around} {E : Value → Shared → Prop} {s : Shared}
end
end L2
set_option Elab.async false
set_option linter.all false
set_option maxRecDepth 100000
set_option maxHeartbeats 4000000
namespace L2
open PySem PySem.Spec PyProof.Rows
section
variable {prog : Program} {w : World} {A : Around} {E : Value → Shared → Prop} {s : Shared}
end
end L2
set_option Elab.async false
set_option linter.all false
set_option maxRecDepth 100000
set_option maxHeartbeats 4000000
namespace L2
open PySem PySem.Spec PyProof.Rows
section
variable {prog : Program} {w : World} {A : Around} {E : Value → Shared → Prop} {s : Shared}
end
end L2
set_option Elab.async false
set_option linter.all false
set_option maxRecDepth 100000
set_option maxHeartbeats 4000000
namespace L2
open PySem PySem.Spec PyProof.Rows
section
variable {prog : Program} {w : World} {A : Around} {E : Value → Shared → Prop} {s : Shared} {I a T : Addr} {es xs : Array (Int × Value)} {ep : Nat} {t : SetTable} {ks : List Key}
end
end L2
set_option Elab.async false
set_option linter.all false
set_option maxRecDepth 100000
set_option maxHeartbeats 4000000
namespace L2
open PySem PySem.Spec PyProof.Rows
section
variable {prog : Program} {w : World} {A : Around} {E : Value → Shared → Prop} {s : Shared} {a : Addr} {es : Array (Int × Value)} {ep : Nat} {t : SetTable} {ks : List Key}
end
end L2
set_option Elab.async false
set_option linter.all false
set_option maxRecDepth 100000
set_option maxHeartbeats 4000000
namespace L2
open PySem PySem.Spec PyProof.Rows
section
variable {X : Cx} {pins : List (Addr × Obj)} {σ : List (Option V)} {H : Hp} {s s' : Shared}
theorem Inv.same (I : Inv X pins σ H s) (e1 : s'.heap = s.heap) (e2 : s'.gens = s.gens) (e3 : s'.os = s.os) : Inv X pins σ H s' := by
  obtain ⟨h, g, d, t, o⟩ := s
  obtain ⟨h', g', d', t', o'⟩ := s'
  dsimp only at e1 e2 e3
  subst e1; subst e2; subst e3
  exact ⟨I.ok, I.os, I.bare, I.base, I.loc, I.cell, I.free, I.freeC, I.pin, I.hok, I.len⟩
end
noncomputable def addA {α : Type} [DecidableEq α] (ks : List α) (k : α) : List α := if ks.any (fun y => decide (y = k)) then ks else ks ++ [k]
section
variable {K : PySem.W.Frag} {σ : St} {G : Hp} {ta tb : TE} {w : World}
end
end L2
set_option Elab.async false
set_option linter.all false
set_option maxRecDepth 100000
set_option maxHeartbeats 4000000
namespace L2
open PySem PySem.Spec PyProof.Rows
end L2
set_option Elab.async false
set_option linter.all false
set_option maxRecDepth 100000
set_option maxHeartbeats 4000000
namespace L2
open PySem PySem.Spec PyProof.Rows
end L2
set_option Elab.async false
set_option linter.all false
set_option maxRecDepth 100000
set_option maxHeartbeats 4000000
namespace L2
open PySem PySem.Spec PyProof.Rows
section
variable {prog : Program} {w : World} {A : Around} {E : Value → Shared → Prop} {s : Shared}
end
end L2
set_option Elab.async false
set_option linter.all false
set_option maxRecDepth 100000
set_option maxHeartbeats 4000000
namespace L2
open PySem PySem.Spec PyProof.Rows
section
variable {prog : Program} {w : World} {A : Around} {E : Value → Shared → Prop} {s : Shared}
end
end L2
set_option Elab.async false
set_option linter.all false
set_option maxRecDepth 100000
set_option maxHeartbeats 4000000
namespace L2
open PySem PySem.Spec PyProof.Rows
section
variable {prog : Program} {w : World} {A : Around} {E : Value → Shared → Prop} {s : Shared}
end
end L2
set_option Elab.async false
set_option linter.all false
set_option maxRecDepth 100000
set_option maxHeartbeats 4000000
namespace L2
open PySem PySem.Spec PyProof.Rows
section
variable {prog : Program} {w : World} {A : Around} {E : Value → Shared → Prop} {s : Shared}
end
end L2
set_option Elab.async false
set_option linter.all false
set_option maxRecDepth 100000
set_option maxHeartbeats 4000000
namespace L2
open PySem PySem.Spec PyProof.Rows
section
variable {K : PySem.W.Frag} {σ : St} {G : Hp} {ta tb : TE} {w : World}
end
end L2
set_option Elab.async false
set_option linter.all false
set_option maxRecDepth 100000
set_option maxHeartbeats 4000000
namespace L2
open PySem PySem.Spec PyProof.Rows
section
variable {K : PySem.W.Frag} {σ : St} {G H G0 H0 : Hp} {α β : Type} [Rp α] [Rp β] {ta td ti : TE} {rest : TS} {D : Ends} {i : Nat} {a : Mp α} {v : V} {p : Addr} {kvs : List (Key × V)}
end
section
variable {K : PySem.W.Frag} {σ : St} {G : Hp} {α : Type} [Rp α] {ta : TE}
end
end L2
set_option Elab.async false
set_option linter.all false
set_option maxRecDepth 100000
set_option maxHeartbeats 4000000
namespace L2
open PySem PySem.Spec PyProof.Rows
section
variable {K : PySem.W.Frag} {σ : St} {G H : Hp} {α : Type} [Rp α] {rest : TS} {D : Ends} {i : Nat} {as as' : List α} {v : V} {p : Addr} {vs : List V}
end
end L2
set_option Elab.async false
set_option linter.all false
set_option maxRecDepth 100000
set_option maxHeartbeats 4000000
namespace L2
open PySem PySem.Spec PyProof.Rows
section
variable {K : PySem.W.Frag} {σ : St} {G H : Hp} {α : Type} [Rp α] {te : TE} {rest : TS} {D : Ends} {i : Nat} {m : Option (Tp α)} {b : Tp α} {as as' : List α} {v : V} {p : Addr} {vs : List V}
end
structure MpS (α : Type) where
  l : List (Str × α)
noncomputable def RelS (K : PySem.W.Frag) {α : Type} [Rp α] (H : Hp) (kv : Key × V) (q : Str × α) : Prop := kv.1 = .inr q.1 ∧ Rp.rel K H kv.2 q.2
noncomputable instance rpMpS {α : Type} [Rp α] : Rp (MpS α) := ⟨fun K H v a => ∃ p kvs, v = .ref p ∧ H p = some (.dK kvs) ∧ Paired (RelS K H) kvs a.l,
  fun s ⟨p, kvs, e, h, pr⟩ => ⟨p, kvs, e, s _ _ h, Paired.imp' (fun _ _ r => ⟨r.1, Rp.mono s r.2⟩) pr⟩⟩
section
variable {K : PySem.W.Frag} {σ : St} {G H G1 H1 G0 H0 : Hp} {α β : Type} [Rp α] [Rp β] {td te ti : TE} {rest : TS} {D : Ends} {i : Nat} {a : MpS α} {v : V} {p q : Addr} {kvs : List (Key × V)}
end
section
variable {X : Cx} {i o : Expr} {ty td : TE} {pos : Pos}
end
end L2
set_option Elab.async false
set_option linter.all false
set_option maxRecDepth 100000
set_option maxHeartbeats 4000000
namespace L2
open PySem PySem.Spec PyProof.Rows
section
variable {prog : Program} {w : World} {A : Around} {E : Value → Shared → Prop} {s : Shared}
end
end L2
set_option Elab.async false
set_option linter.all false
set_option maxRecDepth 100000
set_option maxHeartbeats 4000000
namespace L2
open PySem PySem.Spec PyProof.Rows
section
variable {prog : Program} {w : World} {A : Around} {E : Value → Shared → Prop} {s : Shared} {z TI TO : Addr} {f0 f1 : Value}
end
end L2
set_option Elab.async false
set_option linter.all false
set_option maxRecDepth 100000
set_option maxHeartbeats 4000000
namespace L2
open PySem PySem.Spec PyProof.Rows
section
variable {prog : Program} {w : World} {A : Around} {E : Value → Shared → Prop} {s : Shared}
end
end L2
set_option Elab.async false
set_option linter.all false
set_option maxRecDepth 100000
set_option maxHeartbeats 4000000
namespace L2
open PySem PySem.Spec PyProof.Rows
section
variable {prog : Program} {w : World} {A : Around} {E : Value → Shared → Prop} {s : Shared}
end
end L2
set_option Elab.async false
set_option linter.all false
set_option maxRecDepth 100000
set_option maxHeartbeats 4000000
namespace L2
open PySem PySem.Spec PyProof.Rows
section
variable {K : PySem.W.Frag} {σ : St} {G H G0 H0 : Hp} {α β : Type} [Rp α] [Rp β] {ta tb : TE}
end
end L2
set_option Elab.async false
set_option linter.all false
set_option maxRecDepth 100000
set_option maxHeartbeats 4000000
namespace L2
open PySem PySem.Spec PyProof.Rows
section
variable {X : Cx} {i o : Expr} {ty : TE} {pos : Pos} {a : Addr} {w : World} {K : PySem.W.Frag} {l : List (Str × Int)}
end
section
variable {K : PySem.W.Frag} {σ : St} {G : Hp} {ty : TE} {l : List (Str × Int)}
end
end L2
set_option Elab.async false
set_option linter.all false
set_option maxRecDepth 100000
set_option maxHeartbeats 4000000
namespace HT
open PySem PySem.Spec PyProof.Rows
section
variable {prog : Program} {w : World} {A : Around} {E : Value → Shared → Prop} {s : Shared}
end
end HT
namespace L2
open PySem PySem.Spec PyProof.Rows
section
variable {K : PySem.W.Frag} {σ : St} {G : Hp} {α : Type} [Rp α] {ta tb tc te : TE} {t1 t2 : TO} {sa sb sc : Option Str} {m1 m2 : Option (Option Int)}
end
end L2
set_option Elab.async false
set_option linter.all false
set_option maxRecDepth 100000
set_option maxHeartbeats 4000000
namespace L2
open PySem PySem.Spec PyProof.Rows
section
variable {prog : Program} {w : World} {A : Around} {E : Value → Shared → Prop} {s : Shared}
end
end L2
set_option Elab.async false
set_option linter.all false
set_option maxRecDepth 100000
set_option maxHeartbeats 4000000
namespace L2
open PySem PySem.Spec PyProof.Rows
section
variable {prog : Program} {w : World} {A : Around} {E : Value → Shared → Prop} {s : Shared}
end
end L2
set_option Elab.async false
set_option linter.all false
set_option maxRecDepth 100000
set_option maxHeartbeats 4000000
namespace L2
open PySem PySem.Spec PyProof.Rows
section
variable {prog : Program} {w : World} {A : Around} {E : Value → Shared → Prop} {s : Shared}
end
end L2
set_option Elab.async false
set_option linter.all false
set_option maxRecDepth 100000
set_option maxHeartbeats 4000000
namespace L2
open PySem PySem.Spec PyProof.Rows
section
variable {K : PySem.W.Frag} {σ : St} {G H : Hp} {α β : Type} [Rp α] [Rp β] {ta tb : TE}
end
end L2
set_option Elab.async false
set_option linter.all false
set_option maxRecDepth 100000
set_option maxHeartbeats 4000000
namespace L2
open PySem PySem.Spec PyProof.Rows
section
variable {K : PySem.W.Frag} {σ : St} {G H : Hp} {ta tb te : TE} {rest : TS} {D : Ends} {i : Nat} {v : V} {p : Addr} {vs : List V} {β : Type} [Rp β]
theorem sv_setFB {δ : Type} [Rp δ] [Imm δ] {b : List δ} {m : Option (List δ)} {as : List β} (o : Own K G H v p vs as) (e : FV K te σ (upd G p (.lst vs)) m) (hm : m = some b) (s : Same G H) (k : ∀ w G2 H2, Ext G H G2 H2 → Rp.rel K G2 w b → rest D (σ.set i (some w)) H2) : tSeq (tAsg te (gName i)) rest D σ H := by
  refine e _ (.refl _) b hm H (o.same s) _ fun l ys G2 H2 x h0 hg hh hz hpr => ?_
  have gp : G2 p = some (.lst vs) := x.gg _ _ upd_same
  have gl : L2.del G2 p l = none := by
    unfold L2.del
    split
    · rfl
    · exact hg
  have x3 : Ext G H (upd (L2.del G2 p) l (.lst ys)) H2 := (x.del o.g).frz h0 gl hh
  exact k (.ref l) _ H2 x3 ⟨l, ys, rfl, .inl upd_same, hz, Paired.imp' (fun _ _ r => Rp.mono (Same.new gl) (Imm.del gp r)) hpr⟩
end
end L2
set_option Elab.async false
set_option linter.all false
set_option maxRecDepth 100000
set_option maxHeartbeats 4000000
namespace L2
open PySem PySem.Spec PyProof.Rows
section
variable {K : PySem.W.Frag} {σ : St} {G : Hp} {α : Type} [Rp α] [DecidableEq α] {ta tb : TE} {ma : Option α} {ml : Option (List α)}
end
end L2
set_option Elab.async false
set_option linter.all false
set_option maxRecDepth 100000
set_option maxHeartbeats 4000000
namespace L2
open PySem PySem.Spec PyProof.Rows
section
variable {X : Cx} {es : List Expr} {t : TA} {te : TE} {p : Pos}
end
end L2
set_option Elab.async false
set_option linter.all false
set_option maxRecDepth 100000
set_option maxHeartbeats 4000000
namespace L2
open PySem PySem.Spec PyProof.Rows
section
variable {K : PySem.W.Frag} {σ : St} {G H G1 H1 G0 H0 : Hp} {D : Ends} {p q l : Addr} {xs : List V} {rows : List (Tp SI)}
end
section
variable {K : PySem.W.Frag} {σ : St} {G H : Hp} {α B A : Type} [Rp α] [Rp B] [RpA A] {rest : TS} {D : Ends} {i : Nat} {as : List α} {v : V} {p : Addr} {vs : List V}
end
end L2
set_option Elab.async false
set_option linter.all false
set_option maxRecDepth 100000
set_option maxHeartbeats 4000000
namespace L2
open PySem PySem.Spec PyProof.Rows
section
variable {K : PySem.W.Frag} {σ : St} {G : Hp} {α : Type} [Rp α] {ta : TE}
end
end L2
set_option Elab.async false
set_option linter.all false
set_option maxRecDepth 100000
set_option maxHeartbeats 4000000
namespace L2
open PySem PySem.Spec PyProof.Rows
section
variable {prog : Program} {w : World} {A : Around} {E : Value → Shared → Prop} {s : Shared}
end
section
variable {K : PySem.W.Frag} {σ : St} {G : Hp} {α : Type} [Rp α] {ta tb : TE}
end
section
variable {prog : Program} {w : World} {A : Around} {E : Value → Shared → Prop} {s : Shared}
end
section
variable {K : PySem.W.Frag} {σ : St} {G : Hp} {α : Type} [Rp α] {ta tb : TE}
end
section
variable {K : PySem.W.Frag} {σ : St} {G : Hp} {ta tb : TE}
end
end L2
set_option Elab.async false
set_option linter.all false
set_option maxRecDepth 100000
set_option maxHeartbeats 4000000
namespace L2
open PySem PySem.Spec PyProof.Rows
noncomputable def siN : SI → Nt
  | .s x => .txt x
  | .i n => .int n
theorem siN_rel {K : PySem.W.Frag} {H : Hp} {v : V} : ∀ {a : SI}, Rp.rel K H v a → Rp.rel K H v (siN a)
  | .s x, ⟨e, z⟩ => by subst e; exact .txt x z
  | .i n, e => by
    have e : v = .int n := e
    subst e
    exact .int n
noncomputable instance tdSI : ToD SI := ⟨fun a => ToD.to (siN a), fun h => ToD.rel (siN_rel h)⟩
section
variable {K : PySem.W.Frag} {σ : St} {G : Hp} {te ta tb : TE}
end
end L2
set_option Elab.async false
set_option linter.all false
set_option maxRecDepth 100000
set_option maxHeartbeats 4000000
namespace L2
open PySem PySem.Spec PyProof.Rows
section
variable {K : PySem.W.Frag} {σ : St} {G : Hp} {te ta : TE}
end
end L2
set_option Elab.async false
set_option linter.all false
set_option maxRecDepth 100000
set_option maxHeartbeats 4000000
namespace L2
open PySem PySem.Spec PyProof.Rows
end L2
set_option Elab.async false
set_option linter.all false
set_option maxRecDepth 100000
set_option maxHeartbeats 4000000
namespace L2
open PySem PySem.Spec PyProof.Rows
section
variable {K : PySem.W.Frag} {σ : St} {G H : Hp} {α : Type} [Rp α] {tk : TE} {rest : TS} {D : Ends} {i : Nat} {b : Tp α} {as as' : List α} {v : V} {p : Addr} {vs : List V}
end
end L2
set_option Elab.async false
set_option linter.all false
set_option maxRecDepth 100000
namespace L2
open PySem PySem.Spec PyProof.Rows
noncomputable def gal : Bool → Keyed → Array Keyed → Nat → Nat → Nat → StateT SortSt Sem (Option Nat) := sortPriv% PySem.Builtin.gallop
section
variable {κ : PyProof.Rows.KeyKind}
noncomputable def ky (κ : PyProof.Rows.KeyKind) (p : Keyed) : κ.α := (κ.keyOf p.1).getD κ.dflt
noncomputable def Kd (κ : PyProof.Rows.KeyKind) (p : Keyed) : Prop := ∃ a, κ.keyOf p.1 = some a
variable {prog : Program} {w : World} {A : Around} {E : Value → Shared → Prop} {s : Shared}
theorem s_lt (hO : κ.OneLt) {st : SortSt} {x y : Keyed} {Q : Option Bool → SortSt → Prop} (hk : kindOf st = oneType') (hx : Kd κ x) (hy : Kd κ y) (h : Q (some (κ.blt (ky κ x) (ky κ y))) st) :
    wpS (model prog w) A E s (lt' x y) Q st := by
  obtain ⟨a, ha⟩ := hx
  obtain ⟨b, hb⟩ := hy
  have e1 : ky κ x = a := by unfold ky; rw [ha]; rfl
  have e2 : ky κ y = b := by unfold ky; rw [hb]; rfl
  rw [e1, e2] at h
  rw [lt'_eq]
  refine wpS_bind (wpS_get ?_)
  rw [hk, keyLt'_oneType]
  refine wpS_bind (wpS_lift (wpAny_attempt (hO prog w A _ s x.1 y.1 a b ha hb ⟨rfl, ?_⟩)))
  exact wpS_pure h
theorem s_el {arr : Array Keyed} {i : Nat} {p : Keyed} {st : SortSt} {Q : Keyed → SortSt → Prop} (e : arr[i]? = some p) (h : Q p st) : wpS (model prog w) A E s (elem' arr i) Q st := by
  rw [elem'_eq, e]
  exact wpS_pure h
noncomputable def bey (κ : PyProof.Rows.KeyKind) (left : Bool) (key p : Keyed) : Bool := if left then κ.blt (ky κ p) (ky κ key) else !κ.blt (ky κ key) (ky κ p)
theorem s_bey (hO : κ.OneLt) {left : Bool} {key p : Keyed} {arr : Array Keyed} {j : Nat} {b : Bool} {st : SortSt} {Q : Option Bool → SortSt → Prop} (hk : kindOf st = oneType') (hkey : Kd κ key) (he : arr[j]? = some p) (hp : Kd κ p) (hb : bey κ left key p = b) (h : Q (some b) st) :
    wpS (model prog w) A E s (do let x ← elem' arr j; if left = true then lt' x key else (do let r ← lt' key x; pure (Option.map (fun x => !x) r))) Q st := by
  refine wpS_bind (s_el he ?_)
  cases left with
  | true =>
    rw [if_pos rfl]
    refine s_lt hO hk hp hkey ?_
    have e : κ.blt (ky κ p) (ky κ key) = b := hb
    rw [e]
    exact h
  | false =>
    rw [if_neg Bool.false_ne_true]
    refine wpS_bind (s_lt hO hk hkey hp (wpS_pure ?_))
    have e : (!κ.blt (ky κ key) (ky κ p)) = b := hb
    show Q (some (!κ.blt (ky κ key) (ky κ p))) st
    rw [e]
    exact h
theorem s_bin {n c lo hi : Nat} {st : SortSt} {Q : Option Nat → SortSt → Prop} {f : Nat → Option (Option Nat) × Nat × Nat → StateT SortSt Sem (ForInStep (Option (Option Nat) × Nat × Nat))} {g : Option (Option Nat) × Nat × Nat → StateT SortSt Sem (Option Nat)}
    (hf : ∀ (i lo hi : Nat) (R : ForInStep (Option (Option Nat) × Nat × Nat) → SortSt → Prop), hi ≤ n → (lo ≥ hi → R (.done (none, lo, hi)) st) → (lo < hi → lo + (hi - lo) / 2 < c → R (.yield (none, lo + (hi - lo) / 2 + 1, hi)) st) → (lo < hi → ¬ lo + (hi - lo) / 2 < c → R (.yield (none, lo, lo + (hi - lo) / 2)) st) → wpS (model prog w) A E s (f i (none, lo, hi)) R st)
    (hg : ∀ lo, wpS (model prog w) A E s (g (none, lo, c)) Q st) (h1 : lo ≤ c) (h2 : c ≤ hi) (h3 : hi ≤ n) : wpS (model prog w) A E s (forIn [:n] (none, lo, hi) f >>= g) Q st := by
  refine wpS_bind (wpS_mono (wpS_forRange (I := fun i z st' => st' = st ∧ z.1 = none ∧ z.2.1 ≤ c ∧ c ≤ z.2.2 ∧ z.2.2 ≤ n ∧ (z.2.2 - z.2.1) + i ≤ n) (Q := fun z st' => st' = st ∧ z.1 = none ∧ z.2.2 = c) ?_ ?_ ⟨rfl, rfl, h1, h2, h3, by dsimp only; omega⟩) ?_)
  · rintro i ⟨o, lo, hi⟩ st' _ hi' ⟨rfl, h0, q1, q2, q3, q4⟩
    dsimp only at h0 q1 q2 q3 q4
    subst h0
    refine hf i lo hi _ q3 (fun h => ⟨rfl, rfl, by dsimp only; omega⟩) (fun h h' => ⟨rfl, rfl, by dsimp only; omega, by dsimp only; omega, by dsimp only; omega, by dsimp only; omega⟩) fun h h' => ⟨rfl, rfl, by dsimp only; omega, by dsimp only; omega, by dsimp only; omega, by dsimp only; omega⟩
  · rintro ⟨o, lo, hi⟩ st' ⟨rfl, h0, q1, q2, q3, q4⟩
    dsimp only at h0 q1 q2 q3 q4 ⊢
    exact ⟨rfl, h0, by omega⟩
  · rintro ⟨o, lo, hi⟩ st' ⟨rfl, h0, q⟩
    dsimp only at h0 q ⊢
    subst h0
    subst q
    exact hg lo
theorem s_gal (hO : κ.OneLt) {left : Bool} {key : Keyed} {arr : Array Keyed} {base n hint c : Nat} {st : SortSt} {Q : Option Nat → SortSt → Prop} (hk : kindOf st = oneType') (hkey : Kd κ key)
    (hel : ∀ i, i < n → ∃ p, arr[base + i]? = some p ∧ Kd κ p ∧ bey κ left key p = decide (i < c)) (hh : hint < n) (hc : c ≤ n) (h : Q (some c) st) :
    wpS (model prog w) A E s (gal left key arr base n hint) Q st := by
  unfold gal
  have go : ∀ {i : Nat} {R : Option Bool → SortSt → Prop}, i < n → R (some (decide (i < c))) st → wpS (model prog w) A E s (do let x ← elem' arr (base + i); if left = true then lt' x key else (do let r ← lt' key x; pure (Option.map (fun x => !x) r))) R st := fun hi hR => by
    obtain ⟨p, e, hp, hb⟩ := hel _ hi
    exact s_bey hO hk hkey e hp hb hR
  refine wpS_bind (go hh ?_)
  dsimp only
  by_cases hr : hint < c
  · rw [decide_eq_true hr, if_pos rfl]
    refine wpS_bind (wpS_mono (wpS_forRange (I := fun i z st' => st' = st ∧ z.1 = none ∧ hint + z.2.1 < c ∧ z.2.1 < z.2.2 ∧ i + 1 ≤ z.2.2) (Q := fun z st' => st' = st ∧ z.1 = none ∧ hint + z.2.1 < c ∧ z.2.1 < z.2.2 ∧ (n - hint ≤ z.2.2 ∨ c ≤ hint + z.2.2)) ?_ ?_ ⟨rfl, rfl, hr, by decide, by decide⟩) ?_)
    · rintro i ⟨o, la, ofs⟩ st' _ hi' ⟨rfl, h0, q1, q2, q3⟩
      dsimp only at h0 q1 q2 q3 ⊢
      by_cases hge : ofs ≥ n - hint
      · rw [if_pos hge]
        exact wpS_pure ⟨rfl, rfl, q1, q2, .inl hge⟩
      · rw [if_neg hge]
        refine wpS_bind (go (by omega) ?_)
        dsimp only
        by_cases hm : hint + ofs < c
        · rw [decide_eq_true hm]
          exact wpS_pure ⟨rfl, rfl, hm, by dsimp only; omega, by dsimp only; omega⟩
        · rw [decide_eq_false hm]
          exact wpS_pure ⟨rfl, rfl, q1, q2, .inr (by dsimp only; omega)⟩
    · rintro ⟨o, la, ofs⟩ st' ⟨rfl, h0, q1, q2, q3⟩
      dsimp only at h0 q1 q2 q3 ⊢
      exact ⟨rfl, h0, q1, q2, .inl (by omega)⟩
    · rintro ⟨o, la, ofs⟩ st' ⟨rfl, h0, q1, q2, q3⟩
      dsimp only at h0 q1 q2 q3 ⊢
      subst h0
      show wpS _ _ _ _ (forIn [:n] (none, hint + la + 1, hint + min ofs (n - hint)) _ >>= _) Q _
      refine s_bin (c := c) (fun i lo hi R q3 r1 r2 r3 => ?_) (fun lo => wpS_pure h) (by omega) (by omega) (by omega)
      dsimp only
      by_cases hge : lo ≥ hi
      · rw [if_pos hge]
        exact wpS_pure (r1 hge)
      · rw [if_neg hge]
        refine wpS_bind (go (by omega) ?_)
        dsimp only
        by_cases hm : lo + (hi - lo) / 2 < c
        · rw [decide_eq_true hm, if_pos rfl]
          exact wpS_pure (r2 (by omega) hm)
        · rw [decide_eq_false hm, if_neg Bool.false_ne_true]
          exact wpS_pure (r3 (by omega) hm)
  · rw [decide_eq_false hr, if_neg Bool.false_ne_true]
    refine wpS_bind (wpS_mono (wpS_forRange (I := fun i z st' => st' = st ∧ z.1 = none ∧ c ≤ hint - z.2.1 ∧ z.2.1 ≤ hint ∧ z.2.1 < z.2.2 ∧ i + 1 ≤ z.2.2) (Q := fun z st' => st' = st ∧ z.1 = none ∧ c ≤ hint - z.2.1 ∧ z.2.1 ≤ hint ∧ z.2.1 < z.2.2 ∧ (hint + 1 ≤ z.2.2 ∨ hint - z.2.2 < c)) ?_ ?_ ⟨rfl, rfl, by dsimp only; omega, Nat.zero_le _, by decide, by decide⟩) ?_)
    · rintro i ⟨o, la, ofs⟩ st' _ hi' ⟨rfl, h0, q1, q2, q3, q4⟩
      dsimp only at h0 q1 q2 q3 q4 ⊢
      by_cases hge : ofs ≥ hint + 1
      · rw [if_pos hge]
        exact wpS_pure ⟨rfl, rfl, q1, q2, q3, .inl hge⟩
      · rw [if_neg hge]
        refine wpS_bind (go (by omega) ?_)
        dsimp only
        by_cases hm : hint - ofs < c
        · rw [decide_eq_true hm, if_pos rfl]
          exact wpS_pure ⟨rfl, rfl, q1, q2, q3, .inr hm⟩
        · rw [decide_eq_false hm, if_neg Bool.false_ne_true]
          exact wpS_pure ⟨rfl, rfl, by dsimp only; omega, by dsimp only; omega, by dsimp only; omega, by dsimp only; omega⟩
    · rintro ⟨o, la, ofs⟩ st' ⟨rfl, h0, q1, q2, q3, q4⟩
      dsimp only at h0 q1 q2 q3 q4 ⊢
      exact ⟨rfl, h0, q1, q2, q3, .inl (by omega)⟩
    · rintro ⟨o, la, ofs⟩ st' ⟨rfl, h0, q1, q2, q3, q4⟩
      dsimp only at h0 q1 q2 q3 q4 ⊢
      subst h0
      show wpS _ _ _ _ (forIn [:n] (none, hint + 1 - min ofs (hint + 1), hint - la) _ >>= _) Q _
      refine s_bin (c := c) (fun i lo hi R q3 r1 r2 r3 => ?_) (fun lo => wpS_pure h) (by omega) (by omega) (by omega)
      dsimp only
      by_cases hge : lo ≥ hi
      · rw [if_pos hge]
        exact wpS_pure (r1 hge)
      · rw [if_neg hge]
        refine wpS_bind (go (by omega) ?_)
        dsimp only
        by_cases hm : lo + (hi - lo) / 2 < c
        · rw [decide_eq_true hm, if_pos rfl]
          exact wpS_pure (r2 (by omega) hm)
        · rw [decide_eq_false hm, if_neg Bool.false_ne_true]
          exact wpS_pure (r3 (by omega) hm)
end
end L2
set_option Elab.async false
set_option linter.all false
set_option maxRecDepth 100000
namespace L2
open PySem PySem.Spec PyProof.Rows
section
variable {κ : PyProof.Rows.KeyKind}
noncomputable def kl (κ : PyProof.Rows.KeyKind) (x y : Keyed) : Prop := κ.kle (ky κ x) (ky κ y)
theorem kl_trans {x y z : Keyed} (h : kl κ x y) (g : kl κ y z) : kl κ x z := KeyOrd.kle_trans h g
theorem kl_of_lt {x y : Keyed} (h : κ.blt (ky κ x) (ky κ y) = true) : kl κ x y := KeyOrd.kle_of_klt h
theorem kl_of_not {x y : Keyed} (h : κ.blt (ky κ x) (ky κ y) = false) : kl κ y x := h
noncomputable abbrev Srt (κ : PyProof.Rows.KeyKind) (l : List Keyed) : Prop := l.Pairwise (kl κ)
structure Mg (κ : PyProof.Rows.KeyKind) (C o da db : List Keyed) : Prop where
  p : (o ++ (da ++ db)).Perm C
  so : Srt κ o
  sa : Srt κ da
  sb : Srt κ db
  le : ∀ x ∈ o, ∀ y ∈ da ++ db, kl κ x y
theorem Mg.addA {C o p q db : List Keyed} (h : Mg κ C o (p ++ q) db) (hp : ∀ x ∈ p, ∀ y ∈ db, kl κ x y) : Mg κ C (o ++ p) q db := by
  obtain ⟨h1, h2, h3, h4, h5⟩ := h
  obtain ⟨p1, p2, p3⟩ := List.pairwise_append.mp h3
  refine ⟨by simpa [List.append_assoc] using h1, List.pairwise_append.mpr ⟨h2, p1, fun x hx y hy => h5 x hx y (List.mem_append_left _ (List.mem_append_left _ hy))⟩, p2, h4, fun x hx y hy => ?_⟩
  rcases List.mem_append.mp hx with hx | hx
  · refine h5 x hx y ?_
    rcases List.mem_append.mp hy with hy | hy
    · exact List.mem_append_left _ (List.mem_append_right _ hy)
    · exact List.mem_append_right _ hy
  · rcases List.mem_append.mp hy with hy | hy
    · exact p3 x hx y hy
    · exact hp x hx y hy
theorem Mg.addB {C o p q da : List Keyed} (h : Mg κ C o da (p ++ q)) (hp : ∀ x ∈ p, ∀ y ∈ da, kl κ x y) : Mg κ C (o ++ p) da q := by
  obtain ⟨h1, h2, h3, h4, h5⟩ := h
  obtain ⟨p1, p2, p3⟩ := List.pairwise_append.mp h4
  refine ⟨?_, List.pairwise_append.mpr ⟨h2, p1, fun x hx y hy => h5 x hx y (List.mem_append_right _ (List.mem_append_left _ hy))⟩, h3, p2, fun x hx y hy => ?_⟩
  · refine List.Perm.trans ?_ h1
    rw [List.append_assoc]
    refine List.Perm.append_left o ?_
    rw [← List.append_assoc, ← List.append_assoc]
    exact List.Perm.append_right q List.perm_append_comm
  · rcases List.mem_append.mp hx with hx | hx
    · refine h5 x hx y ?_
      rcases List.mem_append.mp hy with hy | hy
      · exact List.mem_append_left _ hy
      · exact List.mem_append_right _ (List.mem_append_right _ hy)
    · rcases List.mem_append.mp hy with hy | hy
      · exact hp x hx y hy
      · exact p3 x hx y hy
theorem Mg.endB {C o da : List Keyed} (h : Mg κ C o da []) : (o ++ da).Perm C ∧ Srt κ (o ++ da) :=
  ⟨by simpa using h.p, List.pairwise_append.mpr ⟨h.so, h.sa, fun x hx y hy => h.le x hx y (List.mem_append_left _ hy)⟩⟩
theorem Mg.endA {C o da db : List Keyed} (h : Mg κ C o da db) (hl : ∀ x ∈ db, ∀ y ∈ da, kl κ x y) : (o ++ db ++ da).Perm C ∧ Srt κ (o ++ db ++ da) := by
  refine ⟨List.Perm.trans ?_ h.p, ?_⟩
  · rw [List.append_assoc]
    exact List.Perm.append_left o List.perm_append_comm
  · rw [List.append_assoc]
    refine List.pairwise_append.mpr ⟨h.so, List.pairwise_append.mpr ⟨h.sb, h.sa, hl⟩, fun x hx y hy => h.le x hx y ?_⟩
    rcases List.mem_append.mp hy with hy | hy
    · exact List.mem_append_right _ hy
    · exact List.mem_append_left _ hy
theorem cnt_ex (P : Keyed → Bool) : ∀ {l : List Keyed}, Srt κ l → (∀ x y, kl κ x y → P y = true → P x = true) → ∃ c, c ≤ l.length ∧ ∀ i p, l[i]? = some p → P p = decide (i < c)
  | [], _, _ => ⟨0, Nat.le_refl _, fun i p h => by simp at h⟩
  | x :: l, h, hP => by
    obtain ⟨h1, h2⟩ := List.pairwise_cons.mp h
    cases hx : P x with
    | false =>
      refine ⟨0, Nat.zero_le _, fun i p hp => ?_⟩
      cases i with
      | zero => cases hp; exact hx
      | succ i =>
        cases hq : P p with
        | false => rfl
        | true =>
          have := hP x p (h1 p (List.mem_of_getElem? hp)) hq
          rw [hx] at this
          cases this
    | true =>
      obtain ⟨c, hc, h3⟩ := cnt_ex P h2 hP
      refine ⟨c + 1, by rw [List.length_cons]; omega, fun i p hp => ?_⟩
      cases i with
      | zero => cases hp; rw [hx, decide_eq_true (by omega)]
      | succ i =>
        rw [h3 i p hp]
        exact decide_eq_decide.mpr (by omega)
theorem bey_down (left : Bool) (key : Keyed) : ∀ x y, kl κ x y → bey κ left key y = true → bey κ left key x = true := by
  intro x y hxy h
  cases left with
  | true =>
    have h : κ.blt (ky κ y) (ky κ key) = true := h
    show κ.blt (ky κ x) (ky κ key) = true
    rcases κ.negTrans (ky κ y) (ky κ x) (ky κ key) h with q | q
    · have hxy : κ.blt (ky κ y) (ky κ x) = false := hxy
      rw [hxy] at q
      cases q
    · exact q
  | false =>
    have h : (!κ.blt (ky κ key) (ky κ y)) = true := h
    show (!κ.blt (ky κ key) (ky κ x)) = true
    rw [Bool.not_eq_true'] at h ⊢
    exact KeyOrd.kle_trans (O := κ.toKeyOrd) hxy h
theorem bey_le {key p : Keyed} (h : bey κ false key p = true) : kl κ p key := by
  have h : (!κ.blt (ky κ key) (ky κ p)) = true := h
  rw [Bool.not_eq_true'] at h
  exact h
theorem bey_gt {key p : Keyed} (h : bey κ false key p = false) : κ.blt (ky κ key) (ky κ p) = true := by
  have h : (!κ.blt (ky κ key) (ky κ p)) = false := h
  simpa using h
theorem bey_lt {key p : Keyed} (h : bey κ true key p = true) : κ.blt (ky κ p) (ky κ key) = true := h
theorem bey_ge {key p : Keyed} (h : bey κ true key p = false) : kl κ key p := h
end
end L2
set_option Elab.async false
set_option linter.all false
set_option maxRecDepth 100000
namespace L2
open PySem PySem.Spec PyProof.Rows
noncomputable def mlo : Array Keyed → Array Keyed → StateT SortSt Sem (Array Keyed) := sortPriv% PySem.Builtin.mergeLo
noncomputable def smg : Nat → StateT SortSt Sem Unit := sortPriv% PySem.Builtin.setMinGallop
noncomputable def sg (st : SortSt) (g : Nat) : SortSt := SortSt.mk' (kindOf st) (arrOf st) (pendingOf st) g (failedOf st)
section
variable {κ : PyProof.Rows.KeyKind} {prog : Program} {w : World} {A : Around} {E : Value → Shared → Prop} {s : Shared}
theorem s_smg {st : SortSt} {g g0 : Nat} {Q : Unit → SortSt → Prop} (h : Q () (sg st g)) : wpS (model prog w) A E s (smg g) Q (sg st g0) := by
  unfold smg
  exact wpS_modify h
theorem drop_c {l : List Keyed} {i : Nat} {x : Keyed} (h : l[i]? = some x) : l.drop i = [x] ++ l.drop (i + 1) := by
  obtain ⟨h1, h2⟩ := List.getElem?_eq_some_iff.mp h
  rw [List.drop_eq_getElem_cons h1, h2]
  rfl
theorem drop_k (l : List Keyed) (i k : Nat) : l.drop i = (l.drop i).take k ++ l.drop (i + k) := by
  rw [← List.drop_drop, List.take_append_drop]
theorem ext_l (a : Array Keyed) (i j : Nat) : (a.extract i j).toList = (a.toList.drop i).take (j - i) := by simp
theorem ext_all (a : Array Keyed) (i : Nat) : (a.extract i).toList = a.toList.drop i := by
  rw [ext_l, List.take_of_length_le]
  rw [List.length_drop, Array.length_toList]
  exact Nat.le_refl _
structure Mi (κ : PyProof.Rows.KeyKind) (a b out : Array Keyed) (ia ib : Nat) : Prop where
  m : Mg κ (a.toList ++ b.toList) out.toList (a.toList.drop ia) (b.toList.drop ib)
  a : ia + 1 < a.size
  b : ib < b.size
structure Me (κ : PyProof.Rows.KeyKind) (a b : Array Keyed) : Prop where
  ka : ∀ p ∈ a.toList, Kd κ p
  kb : ∀ p ∈ b.toList, Kd κ p
  l : ∀ y ∈ b.toList, ∀ x, a.toList[a.size - 1]? = some x → kl κ y x
noncomputable def Gm (κ : PyProof.Rows.KeyKind) (a b r : Array Keyed) : Prop := r.toList.Perm (a.toList ++ b.toList) ∧ Srt κ r.toList
variable {a b out : Array Keyed} {ia ib : Nat}
theorem Mg.size {o : Array Keyed} {i j : Nat} (h : Mg κ (a.toList ++ b.toList) o.toList (a.toList.drop i) (b.toList.drop j)) : o.size + (a.size - i) + (b.size - j) = a.size + b.size := by
  have := h.p.length_eq
  simp only [List.length_append, List.length_drop, Array.length_toList] at this
  omega
theorem Me.done {o : Array Keyed} {i j : Nat} (h : Mg κ (a.toList ++ b.toList) o.toList (a.toList.drop i) (b.toList.drop j)) (hj : j = b.size) : Gm κ a b (o ++ a.extract i ++ b.extract j) := by
  have e : b.toList.drop j = [] := List.drop_eq_nil_of_le (by rw [Array.length_toList]; omega)
  rw [e] at h
  have q := h.endB
  unfold Gm
  rw [Array.toList_append, Array.toList_append, ext_all, ext_all, e, List.append_nil]
  exact q
theorem Me.doneA {o : Array Keyed} {i j : Nat} (h : Mg κ (a.toList ++ b.toList) o.toList (a.toList.drop i) (b.toList.drop j)) (hi : i = a.size) : Gm κ a b (o ++ a.extract i ++ b.extract j) := by
  have e : a.toList.drop i = [] := List.drop_eq_nil_of_le (by rw [Array.length_toList]; omega)
  rw [e] at h
  have q := h.endA fun x _ y hy => nomatch hy
  unfold Gm
  rw [Array.toList_append, Array.toList_append, ext_all, ext_all, e, List.append_nil]
  rw [List.append_nil] at q
  exact q
theorem Me.last (M : Me κ a b) {o : Array Keyed} {i j : Nat} (h : Mg κ (a.toList ++ b.toList) o.toList (a.toList.drop i) (b.toList.drop j)) (hi : i + 1 = a.size) : Gm κ a b (o ++ b.extract j ++ a.extract i) := by
  have q := h.endA fun x hx y hy => M.l x (List.mem_of_mem_drop hx) y (by
    have hl : i < a.toList.length := by rw [Array.length_toList]; omega
    rw [List.drop_eq_getElem_cons hl, List.drop_eq_nil_of_le (by rw [Array.length_toList]; omega)] at hy
    rw [List.mem_singleton.mp hy, show a.size - 1 = i from by omega]
    exact List.getElem?_eq_getElem hl)
  unfold Gm
  rw [Array.toList_append, Array.toList_append, ext_all, ext_all]
  exact q
theorem Mg.pushA {C db : List Keyed} {o : Array Keyed} {i : Nat} {x : Keyed} (h : Mg κ C o.toList (a.toList.drop i) db) (hx : a[i]? = some x) (hp : ∀ y ∈ db, kl κ x y) : Mg κ C (o.push x).toList (a.toList.drop (i + 1)) db := by
  rw [Array.toList_push]
  refine Mg.addA (by rw [← drop_c (by simpa using hx)]; exact h) fun z hz y hy => ?_
  rw [List.mem_singleton.mp hz]
  exact hp y hy
theorem Mg.pushB {C da : List Keyed} {o : Array Keyed} {j : Nat} {x : Keyed} (h : Mg κ C o.toList da (b.toList.drop j)) (hx : b[j]? = some x) (hp : ∀ y ∈ da, kl κ x y) : Mg κ C (o.push x).toList da (b.toList.drop (j + 1)) := by
  rw [Array.toList_push]
  refine Mg.addB (by rw [← drop_c (by simpa using hx)]; exact h) fun z hz y hy => ?_
  rw [List.mem_singleton.mp hz]
  exact hp y hy
theorem Mg.extA {C db : List Keyed} {o : Array Keyed} {i k : Nat} (h : Mg κ C o.toList (a.toList.drop i) db) (hp : ∀ x ∈ (a.toList.drop i).take k, ∀ y ∈ db, kl κ x y) : Mg κ C (o ++ a.extract i (i + k)).toList (a.toList.drop (i + k)) db := by
  rw [Array.toList_append, ext_l, Nat.add_sub_cancel_left]
  exact Mg.addA (by rw [← drop_k]; exact h) hp
theorem Mg.extB {C da : List Keyed} {o : Array Keyed} {j k : Nat} (h : Mg κ C o.toList da (b.toList.drop j)) (hp : ∀ x ∈ (b.toList.drop j).take k, ∀ y ∈ da, kl κ x y) : Mg κ C (o ++ b.extract j (j + k)).toList da (b.toList.drop (j + k)) := by
  rw [Array.toList_append, ext_l, Nat.add_sub_cancel_left]
  exact Mg.addB (by rw [← drop_k]; exact h) hp
theorem hd_le {l : List Keyed} {i : Nat} {x : Keyed} (h : l[i]? = some x) (hs : Srt κ (l.drop i)) : ∀ y ∈ l.drop i, kl κ x y := fun y hy => by
  rw [drop_c h] at hs hy
  rcases List.mem_append.mp hy with hy | hy
  · rw [List.mem_singleton.mp hy]
    exact KeyOrd.kle_refl _
  · exact (List.pairwise_append.mp hs).2.2 x (List.mem_singleton.mpr rfl) y hy
theorem s_galT (hO : κ.OneLt) {left : Bool} {key : Keyed} {arr : Array Keyed} {i : Nat} {st : SortSt} {Q : Option Nat → SortSt → Prop} (hk : kindOf st = oneType') (hkey : Kd κ key) (hs : Srt κ (arr.toList.drop i)) (hK : ∀ p ∈ arr.toList, Kd κ p) (hi : i < arr.size)
    (h : ∀ c, i + c ≤ arr.size → (∀ x ∈ (arr.toList.drop i).take c, bey κ left key x = true) → (∀ x ∈ arr.toList.drop (i + c), bey κ left key x = false) → Q (some c) st) : wpS (model prog w) A E s (gal left key arr i (arr.size - i) 0) Q st := by
  obtain ⟨c, hc, hP⟩ := cnt_ex (bey κ left key) hs (bey_down left key)
  rw [List.length_drop, Array.length_toList] at hc
  refine s_gal hO hk hkey (c := c) (fun j hj => ?_) (by omega) hc (h c (by omega) (fun x hx => ?_) fun x hx => ?_)
  · have hl : i + j < arr.toList.length := by rw [Array.length_toList]; omega
    have e : (arr.toList.drop i)[j]? = some arr.toList[i + j] := by rw [List.getElem?_drop]; exact List.getElem?_eq_getElem hl
    exact ⟨arr.toList[i + j], by rw [← Array.getElem?_toList]; exact List.getElem?_eq_getElem hl, hK _ (List.getElem_mem hl), hP j _ e⟩
  · obtain ⟨j, hj⟩ := List.getElem?_of_mem hx
    have hlt := (List.getElem?_eq_some_iff.mp hj).1
    rw [List.length_take] at hlt
    rw [List.getElem?_take_of_lt (by omega)] at hj
    rw [hP j x hj, decide_eq_true (by omega)]
  · obtain ⟨j, hj⟩ := List.getElem?_of_mem hx
    rw [List.getElem?_drop, Nat.add_assoc, ← List.getElem?_drop] at hj
    rw [hP _ x hj, decide_eq_false (by omega)]
end
end L2
set_option Elab.async false
set_option linter.all false
set_option maxRecDepth 100000
set_option maxHeartbeats 2000000
namespace L2
open PySem PySem.Spec PyProof.Rows
section
variable {κ : PyProof.Rows.KeyKind} {prog : Program} {w : World} {A : Around} {E : Value → Shared → Prop} {s : Shared}
theorem s_mlo (hO : κ.OneLt) {a b : Array Keyed} {st : SortSt} {Q : Array Keyed → SortSt → Prop} (hk : kindOf st = oneType') (M : Me κ a b) (sa : Srt κ a.toList) (sb : Srt κ b.toList) (ha : 0 < a.size) (hb : 0 < b.size)
    (h0 : ∀ y, b[0]? = some y → ∀ x ∈ a.toList, kl κ y x) (h : ∀ r g, Gm κ a b r → Q r (sg st g)) : wpS (model prog w) A E s (mlo a b) Q st := by
  have eA : ∀ {i : Nat}, i < a.size → ∃ x, a[i]? = some x ∧ x ∈ a.toList ∧ Kd κ x := fun hi => ⟨a[_], Array.getElem?_eq_getElem hi, by simp, M.ka _ (by simp)⟩
  have eB : ∀ {i : Nat}, i < b.size → ∃ x, b[i]? = some x ∧ x ∈ b.toList ∧ Kd κ x := fun hi => ⟨b[_], Array.getElem?_eq_getElem hi, by simp, M.kb _ (by simp)⟩
  have st0 : st = sg st (gallopOf st) := rfl
  unfold mlo
  refine wpS_bind (wpS_lift (wpAny_rule ⟨rfl, ?_⟩))
  dsimp only
  obtain ⟨y0, ey0, my0, ky0⟩ := eB hb
  refine wpS_bind (s_el ey0 ?_)
  have m0 : Mg κ (a.toList ++ b.toList) (#[] : Array Keyed).toList (a.toList.drop 0) (b.toList.drop 0) := ⟨by simp, .nil, by simpa using sa, by simpa using sb, fun x hx => by simp at hx⟩
  have m1 : Mg κ (a.toList ++ b.toList) #[y0].toList (a.toList.drop 0) (b.toList.drop 1) := m0.pushB ey0 fun y hy => h0 y0 ey0 y (by simpa using hy)
  by_cases hb1 : 1 = b.size
  · rw [if_pos (by simpa using hb1)]
    exact wpS_pure (h _ (gallopOf st) (Me.done m1 hb1))
  rw [if_neg (by simpa using hb1)]
  by_cases ha1 : 0 + 1 = a.size
  · rw [if_pos (by simpa using ha1)]
    exact wpS_pure (h _ (gallopOf st) (M.last m1 ha1))
  rw [if_neg (by simpa using ha1)]
  refine wpS_bind (wpS_get ?_)
  refine wpS_bind (wpS_mono (wpS_forRange (I := fun n z st' => z.1 = none ∧ Mi κ a b z.2.1 z.2.2.1 z.2.2.2.1 ∧ n + 1 ≤ z.2.1.size ∧ ∃ g, st' = sg st g) (Q := fun z st' => ∃ r, z.1 = some r ∧ Gm κ a b r ∧ ∃ g, st' = sg st g) ?_ ?_ ⟨rfl, ⟨m1, by dsimp only; omega, by dsimp only; omega⟩, by simp, gallopOf st, rfl⟩) ?_)
  · rintro n ⟨o, out, ia, ib, mg⟩ st' _ hn ⟨q0, qm, qn, g, rfl⟩
    dsimp only at q0 qm qn ⊢
    refine wpS_bind (wpS_mono (wpS_forRange (I := fun i z st' => z.1 = none ∧ Mi κ a b z.2.1 z.2.2.1 z.2.2.2.1 ∧ n + 1 + i ≤ z.2.1.size ∧ st' = sg st g) (Q := fun z st' => ((∃ r, z.1 = some r ∧ Gm κ a b r) ∨ (z.1 = none ∧ Mi κ a b z.2.1 z.2.2.1 z.2.2.2.1 ∧ n + 2 ≤ z.2.1.size)) ∧ st' = sg st g) ?_ ?_ ⟨rfl, qm, by dsimp only; omega, rfl⟩) ?_)
    · rintro i ⟨o1, out, ia, ib, ac, bc⟩ st' _ hi ⟨p0, pm, pn, rfl⟩
      dsimp only at p0 pm pn ⊢
      obtain ⟨y, ey, my, ky⟩ := eB pm.b
      obtain ⟨x, ex, mx, kx⟩ := eA (show ia < a.size from by have := pm.a; omega)
      refine wpS_bind (s_el ey (wpS_bind (s_el ex (wpS_bind (s_lt hO hk ky kx ?_)))))
      dsimp only
      have exL : a.toList[ia]? = some x := by simpa using ex
      have eyL : b.toList[ib]? = some y := by simpa using ey
      cases hlt : κ.blt (L2.ky κ y) (L2.ky κ x) with
      | true =>
        rw [if_pos rfl]
        refine wpS_bind (s_el ey ?_)
        have m2 := pm.m.pushB ey fun z hz => kl_trans (kl_of_lt hlt) (hd_le exL pm.m.sa z hz)
        by_cases e1 : ib + 1 = b.size
        · rw [if_pos (by simpa using e1)]
          exact wpS_pure ⟨.inl ⟨_, rfl, Me.done m2 e1⟩, rfl⟩
        · rw [if_neg (by simpa using e1)]
          have mi : Mi κ a b (out.push y) ia (ib + 1) := ⟨m2, pm.a, by have := pm.b; omega⟩
          split
          · exact wpS_pure ⟨.inr ⟨rfl, mi, by dsimp only; rw [Array.size_push]; omega⟩, rfl⟩
          · exact wpS_pure ⟨rfl, mi, by dsimp only; rw [Array.size_push]; omega, rfl⟩
      | false =>
        rw [if_neg Bool.false_ne_true]
        refine wpS_bind (s_el ex ?_)
        have m2 := pm.m.pushA ex fun z hz => kl_trans (kl_of_not hlt) (hd_le eyL pm.m.sb z hz)
        by_cases e1 : ia + 1 + 1 = a.size
        · rw [if_pos (by simpa using e1)]
          exact wpS_pure ⟨.inl ⟨_, rfl, M.last m2 e1⟩, rfl⟩
        · rw [if_neg (by simpa using e1)]
          have mi : Mi κ a b (out.push x) (ia + 1) ib := ⟨m2, by have := pm.a; omega, pm.b⟩
          split
          · exact wpS_pure ⟨.inr ⟨rfl, mi, by dsimp only; rw [Array.size_push]; omega⟩, rfl⟩
          · exact wpS_pure ⟨rfl, mi, by dsimp only; rw [Array.size_push]; omega, rfl⟩
    · rintro ⟨o1, out, ia, ib, ac, bc⟩ st' ⟨p0, pm, pn, rfl⟩
      dsimp only at p0 pm pn ⊢
      exact ⟨.inr ⟨p0, pm, by omega⟩, rfl⟩
    · rintro ⟨o1, out, ia, ib, ac, bc⟩ st' ⟨⟨r, e, gr⟩ | ⟨e, pm, pn⟩, rfl⟩
      · dsimp only at e ⊢
        subst e
        exact wpS_pure ⟨r, rfl, gr, g, rfl⟩
      · dsimp only at e pm pn ⊢
        subst e
        refine wpS_bind (wpS_lift (wpAny_rule ⟨rfl, ?_⟩))
        refine wpS_bind (wpS_mono (wpS_forRange (I := fun i z st' => z.1 = none ∧ Mi κ a b z.2.1 z.2.2.1 z.2.2.2.1 ∧ n + 2 ≤ z.2.1.size ∧ ∃ g, st' = sg st g) (Q := fun z st' => ((∃ r, z.1 = some r ∧ Gm κ a b r) ∨ (z.1 = none ∧ Mi κ a b z.2.1 z.2.2.1 z.2.2.2.1 ∧ n + 2 ≤ z.2.1.size)) ∧ ∃ g, st' = sg st g) ?_ ?_ ⟨rfl, pm, pn, g, rfl⟩) ?_)
        · rintro i ⟨o1, out, ia, ib, mg2, ac, bc⟩ st' _ hi ⟨p0, pm, pn, g2, rfl⟩
          dsimp only at p0 pm pn ⊢
          by_cases hmg : mg2 > 1
          case' pos => rw [if_pos hmg]
          case' neg => rw [if_neg hmg]
          all_goals
            refine wpS_bind (s_smg ?_)
            obtain ⟨y, ey, my, ky⟩ := eB pm.b
            have eyL : b.toList[ib]? = some y := by simpa using ey
            refine wpS_bind (s_el ey (wpS_bind (s_galT hO (by exact hk) ky pm.m.sa M.ka (by have := pm.a; omega) fun c hc h1 h2 => ?_)))
            dsimp only
            have mk := pm.m.extA (k := c) fun x hx z hz => kl_trans (bey_le (h1 x hx)) (hd_le eyL pm.m.sb z hz)
            have ylt : ∀ x ∈ a.toList.drop (ia + c), kl κ y x := fun x hx => kl_of_lt (bey_gt (h2 x hx))
            have hpa := pm.a
            have hpb := pm.b
            by_cases hc0 : c > 0
            case' pos =>
              rw [if_pos hc0]
              by_cases e1 : ia + c + 1 = a.size
              · rw [if_pos (by simpa using e1)]
                exact wpS_pure ⟨.inl ⟨_, rfl, M.last mk e1⟩, _, rfl⟩
              rw [if_neg (by simpa using e1)]
              by_cases e2 : ia + c = a.size
              · rw [if_pos (by simpa using e2)]
                exact wpS_pure ⟨.inl ⟨_, rfl, Me.doneA mk e2⟩, _, rfl⟩
              rw [if_neg (by simpa using e2)]
              have i1 : ia + c + 1 < a.size := by omega
              have on : n + 2 ≤ (out ++ a.extract ia (ia + c)).size := by rw [Array.size_append]; omega
              generalize out ++ a.extract ia (ia + c) = o at mk on ⊢
              generalize ia + c = i at mk ylt i1 ⊢
            case' neg =>
              rw [if_neg hc0]
              have c0 : c = 0 := by omega
              have i1 : ia + 1 < a.size := hpa
              have on : n + 2 ≤ out.size := pn
              have mk := pm.m
              rw [c0, Nat.add_zero] at ylt
              generalize out = o at mk on ⊢
              generalize ia = i at mk ylt i1 ⊢
            all_goals
              refine wpS_bind (s_el ey ?_)
              have m2 := mk.pushB ey fun z hz => ylt z hz
              by_cases e3 : ib + 1 = b.size
              · rw [if_pos (by simpa using e3)]
                exact wpS_pure ⟨.inl ⟨_, rfl, Me.done m2 e3⟩, _, rfl⟩
              rw [if_neg (by simpa using e3)]
              obtain ⟨x, ex, mx, kx⟩ := eA (show i < a.size from by omega)
              have exL : a.toList[i]? = some x := by simpa using ex
              refine wpS_bind (s_el ex (wpS_bind (s_galT hO (by exact hk) kx m2.sb M.kb (by omega) fun d hd g1 g2' => ?_)))
              dsimp only
              have mk2 := m2.extB (k := d) fun z hz z' hz' => kl_trans (kl_of_lt (bey_lt (g1 z hz))) (hd_le exL m2.sa z' hz')
              have xle : ∀ z ∈ b.toList.drop (ib + 1 + d), kl κ x z := fun z hz => bey_ge (g2' z hz)
              by_cases hd0 : d > 0
              case' pos =>
                rw [if_pos hd0]
                by_cases e4 : ib + 1 + d = b.size
                · rw [if_pos (by simpa using e4)]
                  exact wpS_pure ⟨.inl ⟨_, rfl, Me.done mk2 e4⟩, _, rfl⟩
                rw [if_neg (by simpa using e4)]
                have j1 : ib + 1 + d < b.size := by omega
                have on2 : n + 2 ≤ (o.push y ++ b.extract (ib + 1) (ib + 1 + d)).size := by rw [Array.size_append, Array.size_push]; omega
                generalize o.push y ++ b.extract (ib + 1) (ib + 1 + d) = o2 at mk2 on2 ⊢
                generalize ib + 1 + d = j at mk2 xle j1 ⊢
              case' neg =>
                rw [if_neg hd0]
                have d0 : d = 0 := by omega
                have j1 : ib + 1 < b.size := by omega
                have on2 : n + 2 ≤ (o.push y).size := by rw [Array.size_push]; omega
                have mk2 := m2
                rw [d0, Nat.add_zero] at xle
                generalize o.push y = o2 at mk2 on2 ⊢
                generalize ib + 1 = j at mk2 xle j1 ⊢
              all_goals
                refine wpS_bind (s_el ex ?_)
                have m3 := mk2.pushA ex fun z hz => xle z hz
                by_cases e5 : i + 1 + 1 = a.size
                · rw [if_pos (by simpa using e5)]
                  exact wpS_pure ⟨.inl ⟨_, rfl, M.last m3 e5⟩, _, rfl⟩
                rw [if_neg (by simpa using e5)]
                have mi : Mi κ a b (o2.push x) (i + 1) j := ⟨m3, by omega, j1⟩
                split
                · exact wpS_pure ⟨.inr ⟨rfl, mi, by dsimp only; rw [Array.size_push]; omega⟩, _, rfl⟩
                · exact wpS_pure ⟨rfl, mi, by dsimp only; rw [Array.size_push]; omega, _, rfl⟩
        · rintro ⟨o1, out, ia, ib, mg2, ac, bc⟩ st' ⟨p0, pm, pn, g2, rfl⟩
          exact ⟨.inr ⟨p0, pm, pn⟩, g2, rfl⟩
        · rintro ⟨o1, out, ia, ib, mg2, ac, bc⟩ st' ⟨⟨r, e, gr⟩ | ⟨e, pm, pn⟩, g2, rfl⟩
          · dsimp only at e ⊢
            subst e
            exact wpS_pure ⟨r, rfl, gr, g2, rfl⟩
          · dsimp only at e pm pn ⊢
            subst e
            refine wpS_bind (s_smg (wpS_pure ⟨rfl, pm, by dsimp only; omega, _, rfl⟩))
  · rintro ⟨o, out, ia, ib, mg⟩ st' ⟨q0, qm, qn, g, rfl⟩
    dsimp only at q0 qm qn
    have := qm.m.size
    have h1 := qm.a
    have h2 := qm.b
    omega
  · rintro ⟨o, out, ia, ib, mg⟩ st' ⟨r, e, gr, g, rfl⟩
    dsimp only at e ⊢
    subst e
    exact wpS_pure (h r g gr)
end
end L2
set_option Elab.async false
set_option linter.all false
set_option maxRecDepth 100000
set_option maxHeartbeats 2000000
namespace L2
open PySem PySem.Spec PyProof.Rows
noncomputable def mhi : Array Keyed → Array Keyed → StateT SortSt Sem (Array Keyed) := sortPriv% PySem.Builtin.mergeHi
section
variable {κ : PyProof.Rows.KeyKind} {prog : Program} {w : World} {A : Around} {E : Value → Shared → Prop} {s : Shared}
structure Mr (κ : PyProof.Rows.KeyKind) (C da db o : List Keyed) : Prop where
  p : (da ++ (db ++ o)).Perm C
  so : Srt κ o
  sa : Srt κ da
  sb : Srt κ db
  le : ∀ x ∈ da ++ db, ∀ y ∈ o, kl κ x y
theorem Mr.addA {C p q db o : List Keyed} (h : Mr κ C (q ++ p) db o) (hp : ∀ x ∈ p, ∀ y ∈ db, kl κ y x) : Mr κ C q db (p ++ o) := by
  obtain ⟨h1, h2, h3, h4, h5⟩ := h
  obtain ⟨p1, p2, p3⟩ := List.pairwise_append.mp h3
  refine ⟨List.Perm.trans ?_ h1, List.pairwise_append.mpr ⟨p2, h2, fun x hx y hy => h5 x (List.mem_append_left _ (List.mem_append_right _ hx)) y hy⟩, p1, h4, fun x hx y hy => ?_⟩
  · rw [List.append_assoc]
    refine List.Perm.append_left q ?_
    rw [← List.append_assoc, ← List.append_assoc]
    exact List.Perm.append_right o List.perm_append_comm
  · rcases List.mem_append.mp hy with hy | hy
    · rcases List.mem_append.mp hx with hx | hx
      · exact p3 x hx y hy
      · exact hp y hy x hx
    · refine h5 x ?_ y hy
      rcases List.mem_append.mp hx with hx | hx
      · exact List.mem_append_left _ (List.mem_append_left _ hx)
      · exact List.mem_append_right _ hx
theorem Mr.addB {C p q da o : List Keyed} (h : Mr κ C da (q ++ p) o) (hp : ∀ x ∈ p, ∀ y ∈ da, kl κ y x) : Mr κ C da q (p ++ o) := by
  obtain ⟨h1, h2, h3, h4, h5⟩ := h
  obtain ⟨p1, p2, p3⟩ := List.pairwise_append.mp h4
  refine ⟨by simpa [List.append_assoc] using h1, List.pairwise_append.mpr ⟨p2, h2, fun x hx y hy => h5 x (List.mem_append_right _ (List.mem_append_right _ hx)) y hy⟩, h3, p1, fun x hx y hy => ?_⟩
  rcases List.mem_append.mp hy with hy | hy
  · rcases List.mem_append.mp hx with hx | hx
    · exact hp y hy x hx
    · exact p3 x hx y hy
  · refine h5 x ?_ y hy
    rcases List.mem_append.mp hx with hx | hx
    · exact List.mem_append_left _ hx
    · exact List.mem_append_right _ (List.mem_append_left _ hx)
theorem Mr.end0 {C da db o : List Keyed} (h : Mr κ C da db o) (hl : ∀ x ∈ da, ∀ y ∈ db, kl κ x y) : (da ++ db ++ o).Perm C ∧ Srt κ (da ++ db ++ o) := by
  refine ⟨by rw [List.append_assoc]; exact h.p, ?_⟩
  exact List.pairwise_append.mpr ⟨List.pairwise_append.mpr ⟨h.sa, h.sb, hl⟩, h.so, h.le⟩
theorem Mr.end1 {C da db o : List Keyed} (h : Mr κ C da db o) (hl : ∀ x ∈ db, ∀ y ∈ da, kl κ x y) : (db ++ da ++ o).Perm C ∧ Srt κ (db ++ da ++ o) := by
  refine ⟨List.Perm.trans ?_ h.p, ?_⟩
  · rw [← List.append_assoc]
    exact List.Perm.append_right o List.perm_append_comm
  · refine List.pairwise_append.mpr ⟨List.pairwise_append.mpr ⟨h.sb, h.sa, hl⟩, h.so, fun x hx y hy => h.le x ?_ y hy⟩
    rcases List.mem_append.mp hx with hx | hx
    · exact List.mem_append_right _ hx
    · exact List.mem_append_left _ hx
theorem take_c {l : List Keyed} {n : Nat} {x : Keyed} (h : l[n]? = some x) : l.take (n + 1) = l.take n ++ [x] := by
  rw [List.take_succ, h]
  rfl
theorem take_k (l : List Keyed) {c n : Nat} (h : c ≤ n) : l.take n = l.take c ++ (l.drop c).take (n - c) := by
  have e := (List.take_append_drop c (l.take n)).symm
  rw [List.take_take, Nat.min_eq_left h, List.drop_take] at e
  exact e
theorem ext_0 (a : Array Keyed) (n : Nat) : (a.extract 0 n).toList = a.toList.take n := by rw [ext_l]; simp
variable {a b out : Array Keyed}
noncomputable abbrev MH (κ : PyProof.Rows.KeyKind) (a b out : Array Keyed) (na nb : Nat) : Prop := Mr κ (a.toList ++ b.toList) (a.toList.take na) (b.toList.take nb) out.toList.reverse
theorem Mr.pushA {C db : List Keyed} {o : Array Keyed} {n : Nat} {x : Keyed} (h : Mr κ C (a.toList.take (n + 1)) db o.toList.reverse) (hx : a[n]? = some x) (hp : ∀ y ∈ db, kl κ y x) : Mr κ C (a.toList.take n) db (o.push x).toList.reverse := by
  rw [Array.toList_push, List.reverse_append]
  rw [take_c (by simpa using hx)] at h
  exact h.addA fun z hz y hy => by rw [List.mem_singleton.mp hz]; exact hp y hy
theorem Mr.pushB {C da : List Keyed} {o : Array Keyed} {n : Nat} {x : Keyed} (h : Mr κ C da (b.toList.take (n + 1)) o.toList.reverse) (hx : b[n]? = some x) (hp : ∀ y ∈ da, kl κ y x) : Mr κ C da (b.toList.take n) (o.push x).toList.reverse := by
  rw [Array.toList_push, List.reverse_append]
  rw [take_c (by simpa using hx)] at h
  exact h.addB fun z hz y hy => by rw [List.mem_singleton.mp hz]; exact hp y hy
theorem Mr.extA {C db : List Keyed} {o : Array Keyed} {c n : Nat} (h : Mr κ C (a.toList.take n) db o.toList.reverse) (hc : c ≤ n) (hp : ∀ x ∈ (a.toList.drop c).take (n - c), ∀ y ∈ db, kl κ y x) : Mr κ C (a.toList.take c) db (o ++ (a.extract c n).reverse).toList.reverse := by
  rw [Array.toList_append, List.reverse_append, Array.toList_reverse, List.reverse_reverse, ext_l]
  rw [take_k _ hc] at h
  exact h.addA hp
theorem Mr.extB {C da : List Keyed} {o : Array Keyed} {c n : Nat} (h : Mr κ C da (b.toList.take n) o.toList.reverse) (hc : c ≤ n) (hp : ∀ x ∈ (b.toList.drop c).take (n - c), ∀ y ∈ da, kl κ y x) : Mr κ C da (b.toList.take c) (o ++ (b.extract c n).reverse).toList.reverse := by
  rw [Array.toList_append, List.reverse_append, Array.toList_reverse, List.reverse_reverse, ext_l]
  rw [take_k _ hc] at h
  exact h.addB hp
theorem MH.done {o : Array Keyed} {i j : Nat} (h : MH κ a b o i j) (hl : i = 0 ∨ j = 0) : Gm κ a b (a.extract 0 i ++ b.extract 0 j ++ o.reverse) := by
  have q := h.end0 fun x hx y hy => by
    rcases hl with rfl | rfl
    · simp at hx
    · simp at hy
  unfold Gm
  rw [Array.toList_append, Array.toList_append, ext_0, ext_0, Array.toList_reverse]
  exact q
theorem MH.first {o : Array Keyed} {i j : Nat} (h : MH κ a b o i j) (h0 : ∀ y, b[0]? = some y → ∀ x ∈ a.toList, kl κ y x) (hj : j = 1) : Gm κ a b (b.extract 0 j ++ a.extract 0 i ++ o.reverse) := by
  subst hj
  have q := h.end1 fun x hx y hy => by
    cases hb : b.toList with
    | nil => rw [hb] at hx; simp at hx
    | cons z l =>
      rw [hb] at hx
      have e : x = z := by simpa using hx
      rw [e]
      exact h0 z (by rw [← Array.getElem?_toList, hb]; rfl) y (List.mem_of_mem_take hy)
  unfold Gm
  rw [Array.toList_append, Array.toList_append, ext_0, ext_0, Array.toList_reverse]
  exact q
theorem lst_ge {l : List Keyed} {n : Nat} {x : Keyed} (h : l[n]? = some x) (hs : Srt κ (l.take (n + 1))) : ∀ y ∈ l.take (n + 1), kl κ y x := fun y hy => by
  rw [take_c h] at hs hy
  rcases List.mem_append.mp hy with hy | hy
  · exact (List.pairwise_append.mp hs).2.2 y hy x (List.mem_singleton.mpr rfl)
  · rw [List.mem_singleton.mp hy]
    exact KeyOrd.kle_refl _
theorem Mr.size {o : Array Keyed} {i j : Nat} (h : MH κ a b o i j) (hi : i ≤ a.size) (hj : j ≤ b.size) : o.size + i + j = a.size + b.size := by
  have := h.p.length_eq
  simp only [List.length_append, List.length_take, Array.length_toList, List.length_reverse] at this
  omega
theorem s_galH (hO : κ.OneLt) {left : Bool} {key : Keyed} {arr : Array Keyed} {n : Nat} {st : SortSt} {Q : Option Nat → SortSt → Prop} (hk : kindOf st = oneType') (hkey : Kd κ key) (hs : Srt κ (arr.toList.take (n + 1))) (hK : ∀ p ∈ arr.toList, Kd κ p) (hn : n + 1 ≤ arr.size)
    (h : ∀ c, c ≤ n + 1 → (∀ x ∈ arr.toList.take c, bey κ left key x = true) → (∀ x ∈ (arr.toList.drop c).take (n + 1 - c), bey κ left key x = false) → Q (some c) st) : wpS (model prog w) A E s (gal left key arr 0 (n + 1) n) Q st := by
  obtain ⟨c, hc, hP⟩ := cnt_ex (bey κ left key) hs (bey_down left key)
  rw [List.length_take, Array.length_toList] at hc
  refine s_gal hO hk hkey (c := c) (fun j hj => ?_) (by omega) (by omega) (h c (by omega) (fun x hx => ?_) fun x hx => ?_)
  · have hl : j < arr.toList.length := by rw [Array.length_toList]; omega
    have e : (arr.toList.take (n + 1))[j]? = some arr.toList[j] := by rw [List.getElem?_take_of_lt hj]; exact List.getElem?_eq_getElem hl
    refine ⟨arr.toList[j], by rw [Nat.zero_add, ← Array.getElem?_toList]; exact List.getElem?_eq_getElem hl, hK _ (List.getElem_mem hl), hP j _ e⟩
  · obtain ⟨j, hj⟩ := List.getElem?_of_mem hx
    have hlt := (List.getElem?_eq_some_iff.mp hj).1
    rw [List.length_take] at hlt
    rw [List.getElem?_take_of_lt (by omega)] at hj
    rw [hP j x (by rw [List.getElem?_take_of_lt (by omega)]; exact hj), decide_eq_true (by omega)]
  · obtain ⟨j, hj⟩ := List.getElem?_of_mem hx
    have hlt := (List.getElem?_eq_some_iff.mp hj).1
    rw [List.length_take] at hlt
    rw [List.getElem?_take_of_lt (by omega), List.getElem?_drop] at hj
    rw [hP (c + j) x (by rw [List.getElem?_take_of_lt (by omega)]; exact hj), decide_eq_false (by omega)]
end
end L2
set_option Elab.async false
set_option linter.all false
set_option maxRecDepth 100000
set_option maxHeartbeats 2000000
namespace L2
open PySem PySem.Spec PyProof.Rows
section
variable {κ : PyProof.Rows.KeyKind} {prog : Program} {w : World} {A : Around} {E : Value → Shared → Prop} {s : Shared}
structure Mj (κ : PyProof.Rows.KeyKind) (a b : Array Keyed) (na nb : Nat) (out : Array Keyed) : Prop where
  m : MH κ a b out na nb
  la : 1 ≤ na
  a2 : na ≤ a.size
  lb : 2 ≤ nb
  b2 : nb ≤ b.size
theorem s_mhi (hO : κ.OneLt) {a b : Array Keyed} {st : SortSt} {Q : Array Keyed → SortSt → Prop} (hk : kindOf st = oneType') (M : Me κ a b) (sa : Srt κ a.toList) (sb : Srt κ b.toList) (ha : 0 < a.size) (hb : 0 < b.size)
    (h0 : ∀ y, b[0]? = some y → ∀ x ∈ a.toList, kl κ y x) (h : ∀ r g, Gm κ a b r → Q r (sg st g)) : wpS (model prog w) A E s (mhi a b) Q st := by
  have eA : ∀ {i : Nat}, i < a.size → ∃ x, a[i]? = some x ∧ x ∈ a.toList ∧ Kd κ x := fun hi => ⟨a[_], Array.getElem?_eq_getElem hi, by simp, M.ka _ (by simp)⟩
  have eB : ∀ {i : Nat}, i < b.size → ∃ x, b[i]? = some x ∧ x ∈ b.toList ∧ Kd κ x := fun hi => ⟨b[_], Array.getElem?_eq_getElem hi, by simp, M.kb _ (by simp)⟩
  unfold mhi
  refine wpS_bind (wpS_lift (wpAny_rule ⟨rfl, ?_⟩))
  dsimp only
  obtain ⟨p, hp⟩ : ∃ p, a.size = p + 1 := ⟨a.size - 1, by omega⟩
  obtain ⟨x0, ex0, mx0, kx0⟩ := eA (show p < a.size from by omega)
  simp only [hp, Nat.add_sub_cancel]
  refine wpS_bind (s_el ex0 ?_)
  have lp : a.toList.length = p + 1 := by rw [Array.length_toList]; exact hp
  have m0 : MH κ a b #[] (p + 1) b.size := ⟨by rw [← lp, List.take_length, ← Array.length_toList, List.take_length]; simp, .nil, by rw [← lp, List.take_length]; exact sa, by rw [← Array.length_toList, List.take_length]; exact sb, fun x _ y hy => by simp at hy⟩
  have m1 : MH κ a b #[x0] p b.size := m0.pushA ex0 fun y hy => M.l y (List.mem_of_mem_take hy) x0 (by rw [show a.size - 1 = p from by omega]; simpa using ex0)
  by_cases ha1 : p = 0
  · rw [if_pos (by simpa using ha1)]
    exact wpS_pure (h _ (gallopOf st) (MH.done m1 (.inl ha1)))
  rw [if_neg (by simpa using ha1)]
  by_cases hb1 : b.size = 1
  · rw [if_pos (by simpa using hb1)]
    exact wpS_pure (h _ (gallopOf st) (MH.first m1 h0 hb1))
  rw [if_neg (by simpa using hb1)]
  refine wpS_bind (wpS_get ?_)
  refine wpS_bind (wpS_mono (wpS_forRange (I := fun n z st' => z.1 = none ∧ Mj κ a b z.2.1 z.2.2.1 z.2.2.2.1 ∧ n + 1 ≤ z.2.2.2.1.size ∧ ∃ g, st' = sg st g) (Q := fun z st' => ∃ r, z.1 = some r ∧ Gm κ a b r ∧ ∃ g, st' = sg st g) ?_ ?_ ⟨rfl, ⟨m1, by dsimp only; omega, by dsimp only; omega, by dsimp only; omega, by dsimp only; omega⟩, by simp, gallopOf st, rfl⟩) ?_)
  · rintro n ⟨o, na, nb, out, mg⟩ st' _ hn ⟨q0, qm, qn, g, rfl⟩
    dsimp only at q0 qm qn ⊢
    refine wpS_bind (wpS_mono (wpS_forRange (I := fun i z st' => z.1 = none ∧ Mj κ a b z.2.1 z.2.2.1 z.2.2.2.1 ∧ n + 1 + i ≤ z.2.2.2.1.size ∧ st' = sg st g) (Q := fun z st' => ((∃ r, z.1 = some r ∧ Gm κ a b r) ∨ (z.1 = none ∧ Mj κ a b z.2.1 z.2.2.1 z.2.2.2.1 ∧ n + 2 ≤ z.2.2.2.1.size)) ∧ st' = sg st g) ?_ ?_ ⟨rfl, qm, by dsimp only; omega, rfl⟩) ?_)
    · rintro i ⟨o1, na, nb, out, ac, bc⟩ st' _ hi ⟨p0, pm, pn, rfl⟩
      dsimp only at p0 pm pn ⊢
      have j1 := pm.la
      have j2 := pm.a2
      have j3 := pm.lb
      have j4 := pm.b2
      obtain ⟨u, rfl⟩ : ∃ u, na = u + 1 := ⟨na - 1, by omega⟩
      obtain ⟨v, rfl⟩ : ∃ v, nb = v + 1 := ⟨nb - 1, by omega⟩
      simp only [Nat.add_sub_cancel]
      obtain ⟨y, ey, my, ky⟩ := eB (show v < b.size from by omega)
      obtain ⟨x, ex, mx, kx⟩ := eA (show u < a.size from by omega)
      refine wpS_bind (s_el ey (wpS_bind (s_el ex (wpS_bind (s_lt hO hk ky kx ?_)))))
      dsimp only
      have exL : a.toList[u]? = some x := by simpa using ex
      have eyL : b.toList[v]? = some y := by simpa using ey
      cases hlt : κ.blt (L2.ky κ y) (L2.ky κ x) with
      | true =>
        rw [if_pos rfl]
        refine wpS_bind (s_el ex ?_)
        have m2 := pm.m.pushA ex fun z hz => kl_trans (lst_ge eyL pm.m.sb z hz) (kl_of_lt hlt)
        by_cases e1 : u = 0
        · rw [if_pos (by simpa using e1)]
          exact wpS_pure ⟨.inl ⟨_, rfl, MH.done m2 (.inl e1)⟩, rfl⟩
        · rw [if_neg (by simpa using e1)]
          have mi : Mj κ a b u (v + 1) (out.push x) := ⟨m2, by omega, by omega, j3, j4⟩
          split
          · exact wpS_pure ⟨.inr ⟨rfl, mi, by dsimp only; rw [Array.size_push]; omega⟩, rfl⟩
          · exact wpS_pure ⟨rfl, mi, by dsimp only; rw [Array.size_push]; omega, rfl⟩
      | false =>
        rw [if_neg Bool.false_ne_true]
        refine wpS_bind (s_el ey ?_)
        have m2 := pm.m.pushB ey fun z hz => kl_trans (lst_ge exL pm.m.sa z hz) (kl_of_not hlt)
        by_cases e1 : v = 1
        · rw [if_pos (by simpa using e1)]
          exact wpS_pure ⟨.inl ⟨_, rfl, MH.first m2 h0 e1⟩, rfl⟩
        · rw [if_neg (by simpa using e1)]
          have mi : Mj κ a b (u + 1) v (out.push y) := ⟨m2, j1, j2, by omega, by omega⟩
          split
          · exact wpS_pure ⟨.inr ⟨rfl, mi, by dsimp only; rw [Array.size_push]; omega⟩, rfl⟩
          · exact wpS_pure ⟨rfl, mi, by dsimp only; rw [Array.size_push]; omega, rfl⟩
    · rintro ⟨o1, na, nb, out, ac, bc⟩ st' ⟨p0, pm, pn, rfl⟩
      dsimp only at p0 pm pn ⊢
      exact ⟨.inr ⟨p0, pm, by omega⟩, rfl⟩
    · rintro ⟨o1, na, nb, out, ac, bc⟩ st' ⟨⟨r, e, gr⟩ | ⟨e, pm, pn⟩, rfl⟩
      · dsimp only at e ⊢
        subst e
        exact wpS_pure ⟨r, rfl, gr, g, rfl⟩
      · dsimp only at e pm pn ⊢
        subst e
        refine wpS_bind (wpS_lift (wpAny_rule ⟨rfl, ?_⟩))
        refine wpS_bind (wpS_mono (wpS_forRange (I := fun i z st' => z.1 = none ∧ Mj κ a b z.2.1 z.2.2.1 z.2.2.2.1 ∧ n + 2 ≤ z.2.2.2.1.size ∧ ∃ g, st' = sg st g) (Q := fun z st' => ((∃ r, z.1 = some r ∧ Gm κ a b r) ∨ (z.1 = none ∧ Mj κ a b z.2.1 z.2.2.1 z.2.2.2.1 ∧ n + 2 ≤ z.2.2.2.1.size)) ∧ ∃ g, st' = sg st g) ?_ ?_ ⟨rfl, pm, pn, g, rfl⟩) ?_)
        · rintro i ⟨o1, na, nb, out, mg2, ac, bc⟩ st' _ hi ⟨p0, pm, pn, g2, rfl⟩
          dsimp only at p0 pm pn ⊢
          have j1 := pm.la
          have j2 := pm.a2
          have j3 := pm.lb
          have j4 := pm.b2
          obtain ⟨u, rfl⟩ : ∃ u, na = u + 1 := ⟨na - 1, by omega⟩
          obtain ⟨v, rfl⟩ : ∃ v, nb = v + 1 := ⟨nb - 1, by omega⟩
          by_cases hmg : mg2 > 1
          case' pos => rw [if_pos hmg]
          case' neg => rw [if_neg hmg]
          all_goals
            simp only [show v + 1 - 1 = v from rfl]
            refine wpS_bind (s_smg ?_)
            obtain ⟨y, ey, my, ky⟩ := eB (show v < b.size from by omega)
            have eyL : b.toList[v]? = some y := by simpa using ey
            refine wpS_bind (s_el ey (wpS_bind (s_galH hO (by exact hk) ky pm.m.sa M.ka j2 fun c hc h1 h2 => ?_)))
            dsimp only
            have mk := pm.m.extA hc fun x hx z hz => kl_trans (lst_ge eyL pm.m.sb z hz) (kl_of_lt (bey_gt (h2 x hx)))
            have xle : ∀ x ∈ a.toList.take c, kl κ x y := fun x hx => bey_le (h1 x hx)
            by_cases hc0 : u + 1 - c > 0
            case' pos =>
              rw [if_pos hc0]
              by_cases e1 : c = 0
              · rw [if_pos (by simpa using e1)]
                exact wpS_pure ⟨.inl ⟨_, rfl, MH.done mk (.inl e1)⟩, _, rfl⟩
              rw [if_neg (by simpa using e1)]
              have i1 : 1 ≤ c := by omega
              have i2 : c ≤ a.size := by omega
              have on : n + 2 ≤ (out ++ (a.extract c (u + 1)).reverse).size := by rw [Array.size_append]; omega
              generalize out ++ (a.extract c (u + 1)).reverse = o at mk on ⊢
              generalize u + 1 - c = kk
              generalize c = i at mk xle i1 i2 ⊢
            case' neg =>
              rw [if_neg hc0]
              have c0 : c = u + 1 := by omega
              have i1 : 1 ≤ u + 1 := j1
              have i2 : u + 1 ≤ a.size := j2
              have on : n + 2 ≤ out.size := pn
              have mk := pm.m
              rw [c0] at xle
              generalize out = o at mk on ⊢
              generalize u + 1 - c = kk
              generalize u + 1 = i at mk xle i1 i2 ⊢
            all_goals
              refine wpS_bind (s_el ey ?_)
              have m2 := mk.pushB ey fun z hz => xle z hz
              by_cases e3 : v = 1
              · rw [if_pos (by simpa using e3)]
                exact wpS_pure ⟨.inl ⟨_, rfl, MH.first m2 h0 e3⟩, _, rfl⟩
              rw [if_neg (by simpa using e3)]
              obtain ⟨t, rfl⟩ : ∃ t, i = t + 1 := ⟨i - 1, by omega⟩
              obtain ⟨r, rfl⟩ : ∃ r, v = r + 1 := ⟨v - 1, by omega⟩
              simp only [show t + 1 - 1 = t from rfl]
              obtain ⟨x, ex, mx, kx⟩ := eA (show t < a.size from by omega)
              have exL : a.toList[t]? = some x := by simpa using ex
              refine wpS_bind (s_el ex (wpS_bind (s_galH hO (by exact hk) kx m2.sb M.kb (by omega) fun d hd g1 g2' => ?_)))
              dsimp only
              have mk2 := m2.extB hd fun z hz z' hz' => kl_trans (lst_ge exL m2.sa z' hz') (bey_ge (g2' z hz))
              have zlt : ∀ z ∈ b.toList.take d, kl κ z x := fun z hz => kl_of_lt (bey_lt (g1 z hz))
              by_cases hd0 : r + 1 - d > 0
              case' pos =>
                rw [if_pos hd0]
                by_cases e4 : d = 1
                · rw [if_pos (by simpa using e4)]
                  exact wpS_pure ⟨.inl ⟨_, rfl, MH.first mk2 h0 e4⟩, _, rfl⟩
                rw [if_neg (by simpa using e4)]
                by_cases e6 : d = 0
                · rw [if_pos (by simpa using e6)]
                  exact wpS_pure ⟨.inl ⟨_, rfl, MH.done mk2 (.inr e6)⟩, _, rfl⟩
                rw [if_neg (by simpa using e6)]
                have l1 : 2 ≤ d := by omega
                have l2 : d ≤ b.size := by omega
                have on2 : n + 2 ≤ (o.push y ++ (b.extract d (r + 1)).reverse).size := by rw [Array.size_append, Array.size_push]; omega
                generalize o.push y ++ (b.extract d (r + 1)).reverse = o2 at mk2 on2 ⊢
                generalize r + 1 - d = kk2
                generalize d = j at mk2 zlt l1 l2 ⊢
              case' neg =>
                rw [if_neg hd0]
                have d0 : d = r + 1 := by omega
                have l1 : 2 ≤ r + 1 := by omega
                have l2 : r + 1 ≤ b.size := by omega
                have on2 : n + 2 ≤ (o.push y).size := by rw [Array.size_push]; omega
                have mk2 := m2
                rw [d0] at zlt
                generalize o.push y = o2 at mk2 on2 ⊢
                generalize r + 1 - d = kk2
                generalize r + 1 = j at mk2 zlt l1 l2 ⊢
              all_goals
                refine wpS_bind (s_el ex ?_)
                have m3 := mk2.pushA ex fun z hz => zlt z hz
                by_cases e5 : t = 0
                · rw [if_pos (by simpa using e5)]
                  exact wpS_pure ⟨.inl ⟨_, rfl, MH.done m3 (.inl e5)⟩, _, rfl⟩
                rw [if_neg (by simpa using e5)]
                have mi : Mj κ a b t j (o2.push x) := ⟨m3, by omega, by omega, l1, l2⟩
                split
                · exact wpS_pure ⟨.inr ⟨rfl, mi, by dsimp only; rw [Array.size_push]; omega⟩, _, rfl⟩
                · exact wpS_pure ⟨rfl, mi, by dsimp only; rw [Array.size_push]; omega, _, rfl⟩
        · rintro ⟨o1, na, nb, out, mg2, ac, bc⟩ st' ⟨p0, pm, pn, g2, rfl⟩
          exact ⟨.inr ⟨p0, pm, pn⟩, g2, rfl⟩
        · rintro ⟨o1, na, nb, out, mg2, ac, bc⟩ st' ⟨⟨r, e, gr⟩ | ⟨e, pm, pn⟩, g2, rfl⟩
          · dsimp only at e ⊢
            subst e
            exact wpS_pure ⟨r, rfl, gr, g2, rfl⟩
          · dsimp only at e pm pn ⊢
            subst e
            refine wpS_bind (s_smg (wpS_pure ⟨rfl, pm, by dsimp only; omega, _, rfl⟩))
  · rintro ⟨o, na, nb, out, mg⟩ st' ⟨q0, qm, qn, g, rfl⟩
    dsimp only at q0 qm qn
    have := qm.m.size qm.a2 qm.b2
    have h1 := qm.la
    have h2 := qm.lb
    omega
  · rintro ⟨o, na, nb, out, mg⟩ st' ⟨r, e, gr, g, rfl⟩
    dsimp only at e ⊢
    subst e
    exact wpS_pure (h r g gr)
end
end L2
set_option Elab.async false
set_option linter.all false
set_option maxRecDepth 100000
set_option maxHeartbeats 2000000
namespace L2
open PySem PySem.Spec PyProof.Rows
section
variable {κ : PyProof.Rows.KeyKind} {prog : Program} {w : World} {A : Around} {E : Value → Shared → Prop} {s : Shared}
structure Fx (a X : Array Keyed) (lo hi : Nat) : Prop where
  p : X.Perm a
  f : ∀ k, (k < lo ∨ hi ≤ k) → X[k]? = a[k]?
noncomputable def Up (κ : PyProof.Rows.KeyKind) (X : Array Keyed) (lo hi : Nat) : Prop := ∀ i j, lo ≤ i → i ≤ j → j < hi → κ.kle (KK κ X i) (KK κ X j)
noncomputable def Dw (κ : PyProof.Rows.KeyKind) (X : Array Keyed) (lo hi : Nat) : Prop := ∀ i j, lo ≤ i → i ≤ j → j < hi → κ.kle (KK κ X j) (KK κ X i)
theorem Fx.rfl' {a : Array Keyed} {lo hi : Nat} : Fx a a lo hi := ⟨Array.Perm.refl _, fun _ _ => rfl⟩
theorem Fx.tr {a X Y : Array Keyed} {lo hi : Nat} (h : Fx a X lo hi) (g : Fx X Y lo hi) : Fx a Y lo hi := ⟨g.p.trans h.p, fun k hk => (g.f k hk).trans (h.f k hk)⟩
theorem Fx.sz {a X : Array Keyed} {lo hi : Nat} (h : Fx a X lo hi) : X.size = a.size := h.p.size_eq
theorem Fx.ks {a X : Array Keyed} {lo hi : Nat} (h : Fx a X lo hi) (h0 : KeysOf κ a) : KeysOf κ X := fun p hp => h0 p ((Array.perm_iff_toList_perm.mp h.p).mem_iff.mp hp)
theorem Fx.mir {a : Array Keyed} {lo hi i j : Nat} (h1 : lo ≤ i) (h2 : j ≤ hi) (h3 : j ≤ a.size) : Fx a (mirror a i j ((j - i) / 2)) lo hi :=
  ⟨mirror_perm _ _ _ _, fun k hk => by rw [getElem?_mirror_all h3, if_neg (by omega)]⟩
theorem Fx.bub {a : Array Keyed} {lo hi i d : Nat} (h1 : lo ≤ i - d) (h4 : d ≤ i) (h2 : i < hi) (h3 : i < a.size) : Fx a (bubble a i d) lo hi :=
  ⟨bubble_perm _ _ _, fun k hk => by rw [getElem?_bubble h3 d h4, if_neg (by omega), if_neg (by omega)]⟩
theorem Up.one {X : Array Keyed} {lo hi : Nat} (h : hi ≤ lo + 1) : Up κ X lo hi := fun i j h1 h2 h3 => by
  have : i = j := by omega
  subst this
  exact KeyOrd.kle_refl _
theorem Up.snoc {X : Array Keyed} {lo n : Nat} (h : Up κ X lo n) (hn : lo < n) (hl : κ.kle (KK κ X (n - 1)) (KK κ X n)) : Up κ X lo (n + 1) := fun i j h1 h2 h3 => by
  by_cases hj : j < n
  · exact h i j h1 h2 hj
  · have hj : j = n := by omega
    subst hj
    by_cases hi : i = j
    · subst hi
      exact KeyOrd.kle_refl _
    · exact KeyOrd.kle_trans (h i (j - 1) h1 (by omega) (by omega)) hl
theorem Dw.snoc {X : Array Keyed} {lo n : Nat} (h : Dw κ X lo n) (hn : lo < n) (hl : κ.kle (KK κ X n) (KK κ X (n - 1))) : Dw κ X lo (n + 1) := fun i j h1 h2 h3 => by
  by_cases hj : j < n
  · exact h i j h1 h2 hj
  · have hj : j = n := by omega
    subst hj
    by_cases hi : i = j
    · subst hi
      exact KeyOrd.kle_refl _
    · exact KeyOrd.kle_trans hl (h i (j - 1) h1 (by omega) (by omega))
theorem Dw.cg {X Y : Array Keyed} {lo n : Nat} (h : Dw κ X lo n) (e : ∀ k, KK κ Y k = KK κ X k) : Dw κ Y lo n := fun i j h1 h2 h3 => by rw [e, e]; exact h i j h1 h2 h3
theorem s_at (hO : κ.OneLt) {st : SortSt} {i j : Nat} {Q : Option Bool → SortSt → Prop} (hk : kindOf st = oneType') (h0 : KeysOf κ (arrOf st)) (hi : i < (arrOf st).size) (hj : j < (arrOf st).size)
    (h : Q (some (κ.blt (KK κ (arrOf st) i) (KK κ (arrOf st) j))) st) : wpS (model prog w) A E s (ltAt' i j) Q st := by
  have ei : (arrOf st)[i]? = some (arrOf st)[i] := Array.getElem?_eq_getElem hi
  have ej : (arrOf st)[j]? = some (arrOf st)[j] := Array.getElem?_eq_getElem hj
  have f : ∀ {k : Nat} {p : Keyed}, (arrOf st)[k]? = some p → KK κ (arrOf st) k = ky κ p := fun e => by unfold KK; rw [e]; rfl
  rw [f ei, f ej] at h
  rw [ltAt'_eq]
  refine wpS_bind (wpS_get ?_)
  exact wpS_bind (s_el ei (wpS_bind (s_el ej (s_lt hO hk (h0 _ (by simp)) (h0 _ (by simp)) h))))
theorem s_asc {st : SortSt} {X : Array Keyed} {a nrem lo : Nat} {Q : Option Nat → SortSt → Prop} {f : Nat → Option (Option Nat) × Nat → StateT SortSt Sem (ForInStep (Option (Option Nat) × Nat))} {g : Option (Option Nat) × Nat → StateT SortSt Sem (Option Nat)}
    (hf : ∀ (x n : Nat) (R : ForInStep (Option (Option Nat) × Nat) → SortSt → Prop), 1 ≤ n → n < nrem → (κ.blt (KK κ X (lo + n)) (KK κ X (lo + n - 1)) = true → R (.done (none, n)) st) → (κ.blt (KK κ X (lo + n)) (KK κ X (lo + n - 1)) = false → R (.yield (none, n + 1)) st) → wpS (model prog w) A E s (f x (none, n)) R st)
    (ha : 1 ≤ a) (han : a ≤ nrem) (hs : Up κ X lo (lo + a))
    (h : ∀ n, a ≤ n → n ≤ nrem → Up κ X lo (lo + n) → (n = nrem ∨ κ.klt (KK κ X (lo + n)) (KK κ X (lo + n - 1))) → wpS (model prog w) A E s (g (none, n)) Q st) :
    wpS (model prog w) A E s (forIn [a:nrem] (none, a) f >>= g) Q st := by
  refine wpS_bind (wpS_forRange (I := fun x z st' => st' = st ∧ z = (none, x) ∧ Up κ X lo (lo + x)) ?_ ?_ ⟨rfl, rfl, hs⟩)
  · rintro x z st' h1 h2 ⟨rfl, rfl, h3⟩
    exact hf x x _ (by omega) h2 (fun q => h x h1 (by omega) h3 (.inr q)) fun q => ⟨rfl, rfl, h3.snoc (by omega) q⟩
  · rintro z st' ⟨rfl, rfl, h3⟩
    rw [show max a nrem = nrem from by omega] at h3 ⊢
    exact h nrem han (Nat.le_refl _) h3 (.inl rfl)
end
end L2
set_option Elab.async false
set_option linter.all false
set_option maxRecDepth 100000
set_option maxHeartbeats 2000000
namespace L2
open PySem PySem.Spec PyProof.Rows
section
variable {κ : PyProof.Rows.KeyKind} {prog : Program} {w : World} {A : Around} {E : Value → Shared → Prop} {s : Shared}
theorem s_run (hO : κ.OneLt) {st : SortSt} {X0 : Array Keyed} {lo nrem : Nat} {Q : Option Nat → SortSt → Prop} (hk : kindOf st = oneType') (h0 : KeysOf κ X0) (h1 : 1 ≤ nrem) (hn : lo + nrem ≤ X0.size)
    (h : ∀ m X, Fx X0 X lo (lo + nrem) → 1 ≤ m → m ≤ nrem → Up κ X lo (lo + m) → Q (some m) (setArr st X)) : wpS (model prog w) A E s (countRun' lo nrem) Q (setArr st X0) := by
  rw [countRun'_eq]
  dsimp only
  refine s_asc (κ := κ) (X := X0) (lo := lo) (fun x n R q1 q2 r1 r2 => ?_) (Nat.le_refl 1) h1 (Up.one (Nat.le_refl _)) fun n q1 q2 q3 q4 => ?_
  · dsimp only
    refine wpS_bind (s_at hO hk h0 (by show _ < X0.size; omega) (by show _ < X0.size; omega) ?_)
    dsimp only
    cases hb : κ.blt (KK κ X0 (lo + n)) (KK κ X0 (lo + n - 1)) with
    | true => exact wpS_pure (r1 hb)
    | false => exact wpS_pure (r2 hb)
  dsimp only
  by_cases hnn : n = nrem
  · rw [if_pos (by simpa using hnn)]
    exact wpS_pure (h n X0 Fx.rfl' q1 q2 q3)
  rw [if_neg (by simpa using hnn)]
  have hlt : κ.klt (KK κ X0 (lo + n)) (KK κ X0 (lo + n - 1)) := q4.resolve_left hnn
  by_cases hgt : n > 1
  case' pos =>
    rw [if_pos hgt]
    refine wpS_bind (s_at hO hk h0 (by show _ < X0.size; omega) (by show _ < X0.size; omega) ?_)
    dsimp only
    cases hb : κ.blt (KK κ X0 lo) (KK κ X0 (lo + n - 1)) with
    | true =>
      rw [if_pos rfl]
      exact wpS_pure (h n X0 Fx.rfl' q1 q2 q3)
    | false => ?_
    rw [if_neg Bool.false_ne_true]
    refine wpS_bind (wpS_reverse ?_)
    have hal : ∀ k, lo ≤ k → k < lo + n → KK κ X0 k = KK κ X0 (lo + n - 1) := fun k k1 k2 =>
      KeyOrd.kle_antisymm (q3 k (lo + n - 1) k1 (by omega) (by omega)) (KeyOrd.kle_trans (O := κ.toKeyOrd) hb (q3 lo k (Nat.le_refl _) k1 k2))
    have me := KK_mirror_equal (κ := κ) (xs := X0) (i := lo) (j := lo + n) (by omega) hal
    have F1 : Fx X0 (mirror X0 lo (lo + n) ((lo + n - lo) / 2)) lo (lo + nrem) := Fx.mir (Nat.le_refl _) (by omega) (by omega)
    have D1 : Dw κ (mirror X0 lo (lo + n) ((lo + n - lo) / 2)) lo (lo + n + 1) := by
      refine Dw.snoc (fun i j i1 i2 i3 => ?_) (by omega) (by rw [me, me]; exact KeyOrd.kle_of_klt hlt)
      rw [me, me, hal i i1 (by omega), hal j (by omega) i3]
      exact KeyOrd.kle_refl _
    show wpS _ _ _ _ _ Q (setArr st (mirror X0 lo (lo + n) ((lo + n - lo) / 2)))
    generalize mirror X0 lo (lo + n) ((lo + n - lo) / 2) = X1 at F1 D1 ⊢
  case' neg =>
    rw [if_neg hgt]
    have F1 : Fx X0 X0 lo (lo + nrem) := Fx.rfl'
    have D1 : Dw κ X0 lo (lo + n + 1) := by
      refine Dw.snoc (fun i j i1 i2 i3 => ?_) (by omega) (KeyOrd.kle_of_klt hlt)
      have : i = j := by omega
      subst this
      exact KeyOrd.kle_refl _
    obtain ⟨X1, hX, F1, D1⟩ : ∃ X1, X0 = X1 ∧ Fx X0 X1 lo (lo + nrem) ∧ Dw κ X1 lo (lo + n + 1) := ⟨X0, rfl, F1, D1⟩
    rw [hX]
  all_goals
    refine wpS_bind (wpS_lift (wpAny_rule ⟨rfl, ?_⟩))
    refine wpS_bind (wpS_mono (wpS_forRange (I := fun x z st' => ∃ X, z.1 = none ∧ z.2.1 = x ∧ st' = setArr st X ∧ Fx X1 X lo (lo + nrem) ∧ Dw κ X lo (lo + x) ∧ z.2.2 + 1 ≤ x ∧ ∀ i, lo + x - (z.2.2 + 1) ≤ i → i < lo + x → KK κ X i = KK κ X (lo + x - 1))
      (Q := fun z st' => ∃ X, z.1 = none ∧ 1 ≤ z.2.1 ∧ z.2.1 ≤ nrem ∧ st' = setArr st X ∧ Fx X1 X lo (lo + nrem) ∧ Dw κ X lo (lo + z.2.1) ∧ z.2.2 + 1 ≤ z.2.1 ∧ ∀ i, lo + z.2.1 - (z.2.2 + 1) ≤ i → i < lo + z.2.1 → KK κ X i = KK κ X (lo + z.2.1 - 1)) ?_ ?_
      ⟨X1, rfl, rfl, rfl, Fx.rfl', D1, by dsimp only; omega, fun i i1 i2 => by dsimp only at i1; rw [show lo + (n + 1) - 1 = i from by omega]⟩) ?_)
    · rintro x ⟨o, m, neq⟩ st' x1 x2 ⟨X, rfl, rfl, rfl, hF, hD, hq, he⟩
      dsimp only at hq he x2 x1 hD ⊢
      have sz : X.size = X0.size := (F1.tr hF).sz
      have kX := (F1.tr hF).ks h0
      refine wpS_bind (s_at hO hk kX (by show _ < X.size; omega) (by show _ < X.size; omega) ?_)
      dsimp only
      cases hb : κ.blt (KK κ X (lo + m)) (KK κ X (lo + m - 1)) with
      | true =>
        rw [if_pos rfl]
        have D2 : Dw κ X lo (lo + (m + 1)) := hD.snoc (by omega) (KeyOrd.kle_of_klt hb)
        by_cases hne : neq > 0
        · rw [if_pos hne]
          have ee := KK_mirror_equal (κ := κ) (xs := X) (i := lo + m - (neq + 1)) (j := lo + m) (by omega) he
          refine wpS_bind (wpS_reverse (wpS_pure ⟨_, rfl, rfl, rfl, hF.tr (Fx.mir (by omega) (by omega) (by omega)), D2.cg ee, by dsimp only; omega, fun i i1 i2 => ?_⟩))
          dsimp only at i1
          rw [show lo + (m + 1) - 1 = i from by omega]
        · rw [if_neg hne]
          refine wpS_pure ⟨X, rfl, rfl, rfl, hF, D2, by dsimp only; omega, fun i i1 i2 => ?_⟩
          dsimp only at i1
          rw [show lo + (m + 1) - 1 = i from by omega]
      | false =>
        rw [if_neg Bool.false_ne_true]
        refine wpS_bind (s_at hO hk kX (by show _ < X.size; omega) (by show _ < X.size; omega) ?_)
        dsimp only
        cases hc : κ.blt (KK κ X (lo + m - 1)) (KK κ X (lo + m)) with
        | true =>
          rw [if_pos rfl]
          exact wpS_pure ⟨X, rfl, by dsimp only; omega, by dsimp only; omega, rfl, hF, hD, hq, he⟩
        | false =>
          rw [if_neg Bool.false_ne_true]
          have eq1 : KK κ X (lo + m) = KK κ X (lo + m - 1) := KeyOrd.kle_antisymm (O := κ.toKeyOrd) hc hb
          refine wpS_pure ⟨X, rfl, rfl, rfl, hF, hD.snoc (by omega) hc, by dsimp only; omega, fun i i1 i2 => ?_⟩
          dsimp only at i1
          rw [show lo + (m + 1) - 1 = lo + m from by omega]
          by_cases him : i = lo + m
          · rw [him]
          · rw [eq1]
            exact he i (by omega) (by omega)
    · rintro ⟨o, m, neq⟩ st' ⟨X, rfl, rfl, rfl, hF, hD, hq, he⟩
      dsimp only at hq he hD ⊢
      rw [show max (n + 1) nrem = nrem from by omega] at hD hq he ⊢
      exact ⟨X, rfl, h1, Nat.le_refl _, rfl, hF, hD, hq, he⟩
    · rintro ⟨o, m, neq⟩ st' ⟨X, rfl, m1, m2, rfl, hF, hD, hq, he⟩
      dsimp only at m1 m2 hq he hD ⊢
      have hF := F1.tr hF
      have sz : X.size = X0.size := hF.sz
      by_cases hne : neq > 0
      case' pos =>
        rw [if_pos hne]
        have ee := KK_mirror_equal (κ := κ) (xs := X) (i := lo + m - (neq + 1)) (j := lo + m) (by omega) he
        refine wpS_bind (wpS_reverse ?_)
        have hF := hF.tr (Fx.mir (i := lo + m - (neq + 1)) (j := lo + m) (lo := lo) (hi := lo + nrem) (by omega) (by omega) (by omega))
        have hD := hD.cg ee
        show wpS _ _ _ _ _ Q (setArr st (mirror X (lo + m - (neq + 1)) (lo + m) ((lo + m - (lo + m - (neq + 1))) / 2)))
        generalize mirror X (lo + m - (neq + 1)) (lo + m) ((lo + m - (lo + m - (neq + 1))) / 2) = X at hF hD ⊢
      case' neg =>
        rw [if_neg hne]
      all_goals
        have sz : X.size = X0.size := hF.sz
        refine wpS_bind (wpS_reverse ?_)
        show wpS _ _ _ _ _ Q (setArr st (mirror X lo (lo + m) ((lo + m - lo) / 2)))
        have hU : Up κ (mirror X lo (lo + m) ((lo + m - lo) / 2)) lo (lo + m) := fun i j i1 i2 i3 => by
          rw [KK_mirror (by omega), KK_mirror (by omega), if_pos ⟨i1, by omega⟩, if_pos ⟨by omega, i3⟩]
          exact hD _ _ (by omega) (by omega) (by omega)
        have hF := hF.tr (Fx.mir (i := lo) (j := lo + m) (lo := lo) (hi := lo + nrem) (Nat.le_refl _) (by omega) (by omega))
        generalize mirror X lo (lo + m) ((lo + m - lo) / 2) = Y at hF hU ⊢
        have kY := hF.ks h0
        have sY : Y.size = X0.size := hF.sz
        refine s_asc (κ := κ) (X := Y) (lo := lo) (fun x n R q1 q2 r1 r2 => ?_) m1 m2 hU fun n q1 q2 q3 q4 => wpS_pure (h n Y hF (by omega) q2 q3)
        dsimp only
        refine wpS_bind (s_at hO hk kY (by show _ < Y.size; omega) (by show _ < Y.size; omega) ?_)
        dsimp only
        cases hb : κ.blt (KK κ Y (lo + n)) (KK κ Y (lo + n - 1)) with
        | true => exact wpS_pure (r1 hb)
        | false => exact wpS_pure (r2 hb)
end
end L2
set_option Elab.async false
set_option linter.all false
set_option maxRecDepth 100000
set_option maxHeartbeats 2000000
namespace L2
open PySem PySem.Spec PyProof.Rows
section
variable {κ : PyProof.Rows.KeyKind} {prog : Program} {w : World} {A : Around} {E : Value → Shared → Prop} {s : Shared}
theorem s_ins (hO : κ.OneLt) {st : SortSt} {X0 : Array Keyed} {lo n ok : Nat} {Q : Bool → SortSt → Prop} (hk : kindOf st = oneType') (h0 : KeysOf κ X0) (hok : ok ≤ n) (hn : lo + n ≤ X0.size) (hs : Up κ X0 lo (lo + ok))
    (h : ∀ X, Fx X0 X lo (lo + n) → Up κ X lo (lo + n) → Q true (setArr st X)) : wpS (model prog w) A E s (binarySort' lo n ok) Q (setArr st X0) := by
  rw [binarySort'_eq]
  refine wpS_bind (wpS_mono (wpS_forRange (I := fun k z st' => ∃ X, z = (none, ()) ∧ st' = setArr st X ∧ Fx X0 X lo (lo + n) ∧ Up κ X lo (lo + min k n)) (Q := fun z st' => ∃ X, z = (none, ()) ∧ st' = setArr st X ∧ Fx X0 X lo (lo + n) ∧ Up κ X lo (lo + n)) ?_ ?_ ⟨X0, rfl, rfl, Fx.rfl', ?_⟩) ?_)
  · rintro k z st' k1 k2 ⟨X, rfl, rfl, hF, hU⟩
    rw [show min k n = k from by omega] at hU
    have sz : X.size = X0.size := hF.sz
    have kX := hF.ks h0
    refine wpS_bind (wpS_mono (wpS_forRange (I := fun x z st' => st' = setArr st X ∧ z.1 = none ∧ z.2.1 ≤ z.2.2 ∧ z.2.2 ≤ k ∧ z.2.2 - z.2.1 + x ≤ k ∧ (∀ i, lo ≤ i → i < lo + z.2.1 → κ.kle (KK κ X i) (KK κ X (lo + k))) ∧ ∀ i, lo + z.2.2 ≤ i → i < lo + k → κ.kle (KK κ X (lo + k)) (KK κ X i))
      (Q := fun z st' => st' = setArr st X ∧ z.1 = none ∧ z.2.1 ≤ k ∧ (∀ i, lo ≤ i → i < lo + z.2.1 → κ.kle (KK κ X i) (KK κ X (lo + k))) ∧ ∀ i, lo + z.2.1 ≤ i → i < lo + k → κ.kle (KK κ X (lo + k)) (KK κ X i)) ?_ ?_ ⟨rfl, rfl, by dsimp only; omega, by dsimp only; omega, by dsimp only; omega, fun i i1 i2 => by dsimp only at i2; omega, fun i i1 i2 => by dsimp only at i1; omega⟩) ?_)
    · rintro x ⟨o, l, r⟩ st' _ x2 ⟨rfl, rfl, g1, g2, g3, g4, g5⟩
      dsimp only at g1 g2 g3 g4 g5 ⊢
      by_cases hge : l ≥ r
      · rw [if_pos hge]
        have : l = r := by omega
        subst this
        exact wpS_pure ⟨rfl, rfl, g2, g4, g5⟩
      · rw [if_neg hge]
        refine wpS_bind (s_at hO hk kX (by show _ < X.size; omega) (by show _ < X.size; omega) ?_)
        dsimp only
        cases hb : κ.blt (KK κ X (lo + k)) (KK κ X (lo + (l + r) / 2)) with
        | true =>
          rw [if_pos rfl]
          exact wpS_pure ⟨rfl, rfl, by dsimp only; omega, by dsimp only; omega, by dsimp only; omega, g4, fun i i1 i2 => KeyOrd.kle_trans (KeyOrd.kle_of_klt hb) (hU (lo + (l + r) / 2) i (by omega) i1 i2)⟩
        | false =>
          rw [if_neg Bool.false_ne_true]
          exact wpS_pure ⟨rfl, rfl, by dsimp only; omega, by dsimp only; omega, by dsimp only; omega, fun i i1 i2 => by dsimp only at i2; exact KeyOrd.kle_trans (O := κ.toKeyOrd) (hU i (lo + (l + r) / 2) i1 (by omega) (by omega)) hb, g5⟩
    · rintro ⟨o, l, r⟩ st' ⟨rfl, rfl, g1, g2, g3, g4, g5⟩
      dsimp only at g1 g2 g3 g4 g5 ⊢
      have : l = r := by omega
      subst this
      exact ⟨rfl, rfl, g2, g4, g5⟩
    · rintro ⟨o, l, r⟩ st' ⟨rfl, rfl, g2, g4, g5⟩
      dsimp only at g2 g4 g5 ⊢
      rw [moveDown'_eq]
      have ed : lo + k - (lo + k - (lo + l)) = lo + l := by omega
      refine wpS_bind (wpS_modify (wpS_pure ⟨_, rfl, rfl, hF.tr (Fx.bub (a := X) (i := lo + k) (d := lo + k - (lo + l)) (by omega) (by omega) (by omega) (by omega)), fun i j i1 i2 i3 => ?_⟩))
      have kb := KK_bubble (κ := κ) (xs := X) (src := lo + k) (d := lo + k - (lo + l)) (by omega) (by omega)
      rw [ed] at kb
      show κ.kle (KK κ (bubble X (lo + k) (lo + k - (lo + l))) i) (KK κ (bubble X (lo + k) (lo + k - (lo + l))) j)
      rw [kb, kb]
      repeat' split
      all_goals first
        | (exfalso; omega)
        | exact KeyOrd.kle_refl _
        | exact g4 _ (by omega) (by omega)
        | exact g5 _ (by omega) (by omega)
        | exact hU _ _ (by omega) (by omega) (by omega)
  · rintro z st' ⟨X, rfl, rfl, hF, hU⟩
    rw [show min (max (max ok 1) n) n = n from by omega] at hU
    exact ⟨X, rfl, rfl, hF, hU⟩
  · by_cases h1 : ok = 0
    · exact Up.one (by omega)
    · rw [show min (max ok 1) n = ok from by omega]
      exact hs
  · rintro z st' ⟨X, rfl, rfl, hF, hU⟩
    exact wpS_pure (h X hF hU)
end
end L2
set_option Elab.async false
set_option linter.all false
set_option maxRecDepth 100000
set_option maxHeartbeats 2000000
namespace L2
open PySem PySem.Spec PyProof.Rows
section
variable {κ : PyProof.Rows.KeyKind} {prog : Program} {w : World} {A : Around} {E : Value → Shared → Prop} {s : Shared}
theorem s_set {σ : Type} {M : Model} {Q : PUnit → σ → Prop} {st st' : σ} (h : Q ⟨⟩ st') : wpS M A E s (set st' : StateT σ Sem PUnit) Q st := by
  unfold wpS
  rw [StateT.run_set]
  exact wpAny_pure ⟨rfl, h⟩
noncomputable def seg (X : Array Keyed) (lo n : Nat) : List Keyed := (X.toList.drop lo).take n
theorem seg_at {X : Array Keyed} {lo n i : Nat} (hi : i < n) : (seg X lo n)[i]? = X[lo + i]? := by
  unfold seg
  rw [List.getElem?_take_of_lt hi, List.getElem?_drop, Array.getElem?_toList]
theorem seg_len {X : Array Keyed} {lo n : Nat} (h : lo + n ≤ X.size) : (seg X lo n).length = n := by
  unfold seg
  rw [List.length_take, List.length_drop, Array.length_toList]
  omega
theorem kk_ky {X : Array Keyed} {i : Nat} {p : Keyed} (e : X[i]? = some p) : KK κ X i = ky κ p := by unfold KK; rw [e]; rfl
theorem Up.srt {X : Array Keyed} {lo n : Nat} (hU : Up κ X lo (lo + n)) (h : lo + n ≤ X.size) : Srt κ (seg X lo n) := by
  refine List.pairwise_iff_getElem.mpr fun i j hi hj hij => ?_
  rw [seg_len h] at hi hj
  have e1 : X[lo + i]? = some ((seg X lo n)[i]'(by rw [seg_len h]; exact hi)) := by rw [← seg_at hi]; exact List.getElem?_eq_getElem _
  have e2 : X[lo + j]? = some ((seg X lo n)[j]'(by rw [seg_len h]; exact hj)) := by rw [← seg_at hj]; exact List.getElem?_eq_getElem _
  have q := hU (lo + i) (lo + j) (by omega) (by omega) (by omega)
  rw [kk_ky e1, kk_ky e2] at q
  exact q
theorem Up.of {X : Array Keyed} {lo n : Nat} (hs : Srt κ (seg X lo n)) (h : lo + n ≤ X.size) : Up κ X lo (lo + n) := by
  intro i j h1 h2 h3
  by_cases hij : i = j
  · subst hij
    exact KeyOrd.kle_refl _
  obtain ⟨u, rfl⟩ : ∃ u, i = lo + u := ⟨i - lo, by omega⟩
  obtain ⟨v, rfl⟩ : ∃ v, j = lo + v := ⟨j - lo, by omega⟩
  have lu : u < (seg X lo n).length := by rw [seg_len h]; omega
  have lv : v < (seg X lo n).length := by rw [seg_len h]; omega
  have q := List.pairwise_iff_getElem.mp hs u v lu lv (by omega)
  have e1 : X[lo + u]? = some (seg X lo n)[u] := by rw [← seg_at (by omega : u < n)]; exact List.getElem?_eq_getElem _
  have e2 : X[lo + v]? = some (seg X lo n)[v] := by rw [← seg_at (by omega : v < n)]; exact List.getElem?_eq_getElem _
  rw [kk_ky e1, kk_ky e2]
  exact q
theorem Up.keep {X Y : Array Keyed} {lo hi a b : Nat} (h : Up κ X a b) (F : Fx X Y lo hi) (hd : b ≤ lo ∨ hi ≤ a) : Up κ Y a b := fun i j h1 h2 h3 => by
  rw [KK_congr (F.f i (by omega)), KK_congr (F.f j (by omega))]
  exact h i j h1 h2 h3
theorem wr_l : ∀ (l : List Keyed) (X : Array Keyed) (lo k : Nat), lo + k + l.length ≤ X.size →
    ((l.zipIdx k).foldl (fun (a : Array Keyed) (x : Keyed × Nat) => a.setIfInBounds (lo + x.2) x.1) X).toList = X.toList.take (lo + k) ++ (l ++ X.toList.drop (lo + k + l.length))
  | [], X, lo, k, _ => by simp
  | p :: l, X, lo, k, h => by
    rw [List.length_cons] at h
    rw [List.zipIdx_cons, List.foldl_cons, wr_l l _ lo (k + 1) (by rw [Array.size_setIfInBounds]; omega), Array.toList_setIfInBounds]
    dsimp only
    rw [List.take_set, List.drop_set_of_lt (by omega), ← Nat.add_assoc, List.length_cons, show lo + k + 1 + l.length = lo + k + (l.length + 1) from by omega]
    have hl : lo + k < X.toList.length := by rw [Array.length_toList]; omega
    rw [List.take_succ_eq_append_getElem hl, List.set_append_right _ _ (by rw [List.length_take]; omega), List.length_take, Nat.min_eq_left (by omega), Nat.sub_self]
    simp
theorem mrg_ok {B A1 A2 B1 B2 r : List Keyed} (sA : Srt κ (A1 ++ A2)) (sB : Srt κ (B1 ++ B2)) (h1 : ∀ x ∈ A1, ∀ y ∈ B1 ++ B2, kl κ x y) (h2 : ∀ x ∈ A2, ∀ y ∈ B2, kl κ x y) (pr : r.Perm (A2 ++ B1)) (sr : Srt κ r) : Srt κ (A1 ++ (r ++ B2)) := by
  obtain ⟨a1, a2, a3⟩ := List.pairwise_append.mp sA
  obtain ⟨b1, b2, b3⟩ := List.pairwise_append.mp sB
  refine List.pairwise_append.mpr ⟨a1, List.pairwise_append.mpr ⟨sr, b2, fun x hx y hy => ?_⟩, fun x hx y hy => ?_⟩
  · rcases List.mem_append.mp (pr.mem_iff.mp hx) with q | q
    · exact h2 x q y hy
    · exact b3 x q y hy
  · rcases List.mem_append.mp hy with q | q
    · rcases List.mem_append.mp (pr.mem_iff.mp q) with q | q
      · exact a3 x hx y q
      · exact h1 x hx y (List.mem_append_left _ q)
    · exact h1 x hx y (List.mem_append_right _ q)
noncomputable def Ch (κ : PyProof.Rows.KeyKind) (X : Array Keyed) : Nat → List (Nat × Nat × Nat) → Nat → Prop
  | a, [], b => a = b
  | a, p :: t, b => p.1 = a ∧ 1 ≤ p.2.1 ∧ Up κ X a (a + p.2.1) ∧ Ch κ X (a + p.2.1) t b
theorem Ch.len {X : Array Keyed} : ∀ {l : List (Nat × Nat × Nat)} {a b : Nat}, Ch κ X a l b → a + l.length ≤ b
  | [], a, b, h => by have h : a = b := h; subst h; exact Nat.le_refl _
  | p :: t, a, b, h => by
    have := Ch.len h.2.2.2
    have := h.2.1
    rw [List.length_cons]
    omega
theorem Ch.app {X : Array Keyed} : ∀ {l m : List (Nat × Nat × Nat)} {a c : Nat}, Ch κ X a (l ++ m) c ↔ ∃ b, Ch κ X a l b ∧ Ch κ X b m c
  | [], m, a, c => ⟨fun h => ⟨a, rfl, h⟩, fun ⟨b, h1, h2⟩ => by have h1 : a = b := h1; subst h1; exact h2⟩
  | p :: t, m, a, c => by
    refine ⟨fun h => ?_, fun ⟨b, h1, h2⟩ => ⟨h1.1, h1.2.1, h1.2.2.1, Ch.app.mpr ⟨b, h1.2.2.2, h2⟩⟩⟩
    obtain ⟨b, q1, q2⟩ := Ch.app.mp h.2.2.2
    exact ⟨b, ⟨h.1, h.2.1, h.2.2.1, q1⟩, q2⟩
theorem Ch.keep {X Y : Array Keyed} {lo hi : Nat} (F : Fx X Y lo hi) : ∀ {l : List (Nat × Nat × Nat)} {a b : Nat}, Ch κ X a l b → (b ≤ lo ∨ hi ≤ a) → Ch κ Y a l b
  | [], a, b, h, _ => h
  | p :: t, a, b, h, hd => by
    have := Ch.len h.2.2.2
    exact ⟨h.1, h.2.1, h.2.2.1.keep F (by omega), Ch.keep F h.2.2.2 (by omega)⟩
theorem Ch.mod {X : Array Keyed} (f : Nat × Nat × Nat → Nat × Nat × Nat) (hf : ∀ p, (f p).1 = p.1 ∧ (f p).2.1 = p.2.1) : ∀ {l : List (Nat × Nat × Nat)} {a b k : Nat}, Ch κ X a l b → Ch κ X a (l.modify k f) b
  | [], a, b, k, h => by simpa using h
  | p :: t, a, b, 0, h => by
    rw [List.modify_zero_cons]
    have := hf p
    unfold Ch at h ⊢
    rw [this.1, this.2]
    exact h
  | p :: t, a, b, k + 1, h => by
    rw [List.modify_succ_cons]
    exact ⟨h.1, h.2.1, h.2.2.1, Ch.mod f hf h.2.2.2⟩
end
end L2
set_option Elab.async false
set_option linter.all false
set_option maxRecDepth 100000
set_option maxHeartbeats 2000000
namespace L2
open PySem PySem.Spec PyProof.Rows
section
variable {κ : PyProof.Rows.KeyKind} {prog : Program} {w : World} {A : Around} {E : Value → Shared → Prop} {s : Shared}
theorem seg_add (X : Array Keyed) (lo m n : Nat) : seg X lo (m + n) = seg X lo m ++ seg X (lo + m) n := by
  unfold seg
  rw [List.take_add, List.drop_drop]
theorem seg_mem {X : Array Keyed} {lo n : Nat} {x : Keyed} (h : x ∈ seg X lo n) : ∃ i, i < n ∧ X[lo + i]? = some x := by
  obtain ⟨i, hi⟩ := List.mem_iff_getElem?.mp h
  have hl : i < (seg X lo n).length := (List.getElem?_eq_some_iff.mp hi).1
  have hn : i < n := by
    unfold seg at hl
    rw [List.length_take] at hl
    omega
  exact ⟨i, hn, by rw [← seg_at hn]; exact hi⟩
theorem lay_on {X W : Array Keyed} {P M N R : List Keyed} {lo hi : Nat} (eX : X.toList = P ++ (M ++ R)) (eW : W.toList = P ++ (N ++ R)) (pm : N.Perm M) (lp : P.length = lo) (ln : lo + N.length = hi) : Fx X W lo hi := by
  refine ⟨Array.perm_iff_toList_perm.mpr ?_, fun k hk => ?_⟩
  · rw [eX, eW]
    exact List.Perm.append_left P (List.Perm.append_right R pm)
  · rw [← Array.getElem?_toList, ← Array.getElem?_toList, eX, eW]
    have := pm.length_eq
    rcases hk with hk | hk
    · rw [List.getElem?_append_left (by omega), List.getElem?_append_left (by omega)]
    · rw [List.getElem?_append_right (by omega), List.getElem?_append_right (by omega), List.getElem?_append_right (by omega), List.getElem?_append_right (by omega), this]
noncomputable abbrev mk (X : Array Keyed) (p : Array (Nat × Nat × Nat)) (g : Nat) : SortSt := SortSt.mk' oneType' X p g none
theorem s_mat (hO : κ.OneLt) {X0 : Array Keyed} {p : Array (Nat × Nat × Nat)} {g i sa na pw sb nb pw2 : Nat} {Q : Bool → SortSt → Prop} (h0 : KeysOf κ X0) (e1 : p[i]? = some (sa, na, pw)) (e2 : p[i + 1]? = some (sb, nb, pw2))
    (hb : sb = sa + na) (hna : 1 ≤ na) (hnb : 1 ≤ nb) (hsz : sb + nb ≤ X0.size) (uA : Up κ X0 sa sb) (uB : Up κ X0 sb (sb + nb))
    (h : ∀ X g', Fx X0 X sa (sb + nb) → Up κ X sa (sb + nb) → Q true (mk X ((p.setIfInBounds i (sa, na + nb, pw)).eraseIdxIfInBounds (i + 1)) g')) : wpS (model prog w) A E s (mergeAt' i) Q (mk X0 p g) := by
  unfold mergeAt'
  refine wpS_bind (wpS_get ?_)
  dsimp only
  rw [e1, e2]
  dsimp only
  refine wpS_bind (s_set ?_)
  generalize (p.setIfInBounds i (sa, na + nb, pw)).eraseIdxIfInBounds (i + 1) = p2 at h ⊢
  show wpS _ _ _ _ _ Q (mk X0 p2 g)
  have kd : ∀ {i : Nat} {x : Keyed}, X0[i]? = some x → Kd κ x := fun e => h0 _ (List.mem_of_getElem? (by rw [Array.getElem?_toList]; exact e))
  have at' : ∀ {i : Nat}, i < X0.size → ∃ x, X0[i]? = some x := fun hi => ⟨_, Array.getElem?_eq_getElem hi⟩
  have uA' : Up κ X0 sa (sa + na) := by rw [← hb]; exact uA
  have sA := uA'.srt (by omega)
  have sB := uB.srt hsz
  obtain ⟨y0, ey0⟩ := at' (show sb < X0.size from by omega)
  obtain ⟨z, ez⟩ := at' (show sb - 1 < X0.size from by omega)
  have allU : (∀ x ∈ seg X0 sa na, ∀ y ∈ seg X0 sb nb, kl κ x y) → Q true (mk X0 p2 g) := fun hh => by
    refine h X0 g Fx.rfl' ?_
    have e : sb + nb = sa + (na + nb) := by omega
    rw [e]
    refine Up.of ?_ (by omega)
    rw [seg_add, ← hb]
    exact List.pairwise_append.mpr ⟨sA, sB, hh⟩
  have y0le : ∀ y ∈ seg X0 sb nb, kl κ y0 y := fun y hy => by
    obtain ⟨i, hi, e⟩ := seg_mem hy
    have := uB sb (sb + i) (Nat.le_refl _) (by omega) (by omega)
    rw [kk_ky ey0, kk_ky e] at this
    exact this
  have zge : ∀ x ∈ seg X0 sa na, kl κ x z := fun x hx => by
    obtain ⟨i, hi, e⟩ := seg_mem hx
    have := uA (sa + i) (sb - 1) (by omega) (by omega) (by omega)
    rw [kk_ky ez, kk_ky e] at this
    exact this
  obtain ⟨c, hc, hP⟩ := cnt_ex (bey κ false y0) sA (bey_down false y0)
  rw [seg_len (by omega)] at hc
  refine wpS_bind (s_el ey0 (wpS_bind (s_gal hO rfl (kd ey0) (c := c) (fun i hi => ?_) (by omega) hc ?_)))
  · obtain ⟨x, ex⟩ := at' (show sa + i < X0.size from by omega)
    exact ⟨x, ex, kd ex, hP i x (by rw [seg_at hi]; exact ex)⟩
  dsimp only
  have a1 : ∀ x ∈ seg X0 sa c, kl κ x y0 := fun x hx => by
    obtain ⟨i, hi, e⟩ := seg_mem hx
    have := hP i x (by rw [seg_at (by omega)]; exact e)
    rw [decide_eq_true hi] at this
    exact bey_le this
  have a2 : ∀ x ∈ seg X0 (sa + c) (na - c), kl κ y0 x := fun x hx => by
    obtain ⟨i, hi, e⟩ := seg_mem hx
    have := hP (c + i) x (by rw [seg_at (by omega), ← Nat.add_assoc]; exact e)
    rw [decide_eq_false (by omega)] at this
    exact kl_of_lt (bey_gt this)
  by_cases h1 : na - c = 0
  · rw [if_pos (by simpa using h1)]
    refine wpS_pure (allU fun x hx y hy => kl_trans (a1 x ?_) (y0le y hy))
    rw [show c = na from by omega]
    exact hx
  rw [if_neg (by simpa using h1)]
  rw [show sa + c + (na - c) - 1 = sb - 1 from by omega]
  obtain ⟨d, hd, hR⟩ := cnt_ex (bey κ true z) sB (bey_down true z)
  rw [seg_len (by omega)] at hd
  refine wpS_bind (s_el ez (wpS_bind (s_gal hO rfl (kd ez) (c := d) (fun i hi => ?_) (by omega) hd ?_)))
  · obtain ⟨x, ex⟩ := at' (show sb + i < X0.size from by omega)
    exact ⟨x, ex, kd ex, hR i x (by rw [seg_at hi]; exact ex)⟩
  dsimp only
  have b1 : ∀ y ∈ seg X0 sb d, kl κ y z := fun x hx => by
    obtain ⟨i, hi, e⟩ := seg_mem hx
    have := hR i x (by rw [seg_at (by omega)]; exact e)
    rw [decide_eq_true hi] at this
    exact kl_of_lt (bey_lt this)
  have b2 : ∀ y ∈ seg X0 (sb + d) (nb - d), kl κ z y := fun x hx => by
    obtain ⟨i, hi, e⟩ := seg_mem hx
    have := hR (d + i) x (by rw [seg_at (by omega), ← Nat.add_assoc]; exact e)
    rw [decide_eq_false (by omega)] at this
    exact bey_ge this
  have eA : seg X0 sa na = seg X0 sa c ++ seg X0 (sa + c) (na - c) := by rw [← seg_add, show c + (na - c) = na from by omega]
  have eB : seg X0 sb nb = seg X0 sb d ++ seg X0 (sb + d) (nb - d) := by rw [← seg_add, show d + (nb - d) = nb from by omega]
  by_cases h2 : d = 0
  · rw [if_pos (by simpa using h2)]
    refine wpS_pure (allU fun x hx y hy => kl_trans (zge x hx) (b2 y ?_))
    rw [h2]
    exact hy
  rw [if_neg (by simpa using h2)]
  have ex : (X0.extract (sa + c) sb).toList = seg X0 (sa + c) (na - c) := by rw [ext_l, show sb - (sa + c) = na - c from by omega]; rfl
  have ey : (X0.extract sb (sb + d)).toList = seg X0 sb d := by rw [ext_l, show sb + d - sb = d from by omega]; rfl
  have sx : (X0.extract (sa + c) sb).size = na - c := by rw [← Array.length_toList, ex, seg_len (by omega)]
  have sy : (X0.extract sb (sb + d)).size = d := by rw [← Array.length_toList, ey, seg_len (by omega)]
  rw [eA] at sA
  rw [eB] at sB
  obtain ⟨_, sA2, _⟩ := List.pairwise_append.mp sA
  obtain ⟨sB1, _, _⟩ := List.pairwise_append.mp sB
  have M : Me κ (X0.extract (sa + c) sb) (X0.extract sb (sb + d)) := by
    refine ⟨fun q hq => ?_, fun q hq => ?_, fun y hy x hx => ?_⟩
    · rw [ex] at hq
      obtain ⟨i, _, e⟩ := seg_mem hq
      exact kd e
    · rw [ey] at hq
      obtain ⟨i, _, e⟩ := seg_mem hq
      exact kd e
    · rw [ey] at hy
      rw [ex, sx, seg_at (by omega), show sa + c + (na - c - 1) = sb - 1 from by omega, ez] at hx
      cases hx
      exact b1 y hy
  have hh : ∀ y, (X0.extract sb (sb + d))[0]? = some y → ∀ x ∈ (X0.extract (sa + c) sb).toList, kl κ y x := fun y hy x hx => by
    rw [← Array.getElem?_toList, ey, seg_at (by omega), Nat.add_zero, ey0] at hy
    cases hy
    rw [ex] at hx
    exact a2 x hx
  have fin : ∀ (r : Array Keyed) (g' : Nat), Gm κ (X0.extract (sa + c) sb) (X0.extract sb (sb + d)) r → Q true (mk (r.toList.zipIdx.foldl (fun (a : Array Keyed) (x : Keyed × Nat) => a.setIfInBounds (sa + c + x.2) x.1) X0) p2 g') := by
    rintro r g' ⟨pr, sr⟩
    rw [ex, ey] at pr
    have lr : r.toList.length = na - c + d := by rw [pr.length_eq, List.length_append, seg_len (by omega), seg_len (by omega)]
    have eW := wr_l r.toList X0 (sa + c) 0 (by rw [lr]; omega)
    generalize r.toList.zipIdx.foldl (fun (a : Array Keyed) (x : Keyed × Nat) => a.setIfInBounds (sa + c + x.2) x.1) X0 = W at eW ⊢
    rw [Nat.add_zero, lr, show sa + c + (na - c + d) = sb + d from by omega, List.take_add] at eW
    have eR : X0.toList.drop (sb + d) = seg X0 (sb + d) (nb - d) ++ X0.toList.drop (sb + nb) := by
      rw [drop_k X0.toList (sb + d) (nb - d), show sb + d + (nb - d) = sb + nb from by omega]
      rfl
    have eW2 : W.toList = X0.toList.take sa ++ ((seg X0 sa c ++ (r.toList ++ seg X0 (sb + d) (nb - d))) ++ X0.toList.drop (sb + nb)) := by
      rw [eW, eR]
      simp only [seg, List.append_assoc]
    have eX : X0.toList = X0.toList.take sa ++ ((seg X0 sa c ++ ((seg X0 (sa + c) (na - c) ++ seg X0 sb d) ++ seg X0 (sb + d) (nb - d))) ++ X0.toList.drop (sb + nb)) := by
      have q1 : seg X0 sa c ++ ((seg X0 (sa + c) (na - c) ++ seg X0 sb d) ++ seg X0 (sb + d) (nb - d)) = seg X0 sa (na + nb) := by
        rw [seg_add, eA, ← hb, eB]
        simp only [List.append_assoc]
      rw [q1]
      unfold seg
      rw [show sb + nb = sa + (na + nb) from by omega, ← List.drop_drop, List.take_append_drop, List.take_append_drop]
    have lP : (X0.toList.take sa).length = sa := by rw [List.length_take, Array.length_toList]; omega
    have lN : (seg X0 sa c ++ (r.toList ++ seg X0 (sb + d) (nb - d))).length = na + nb := by
      rw [List.length_append, List.length_append, seg_len (by omega), seg_len (by omega), lr]
      omega
    have hF : Fx X0 W sa (sb + nb) := lay_on eX eW2 (List.Perm.append_left _ (List.Perm.append_right _ pr)) lP (by rw [lN]; omega)
    refine h W g' hF ?_
    rw [show sb + nb = sa + (na + nb) from by omega]
    refine Up.of ?_ (by rw [hF.sz]; omega)
    have eS : seg W sa (na + nb) = seg X0 sa c ++ (r.toList ++ seg X0 (sb + d) (nb - d)) := by
      show (W.toList.drop sa).take (na + nb) = _
      rw [eW2, List.drop_left' lP, List.take_left' lN]
    rw [eS]
    refine mrg_ok (B := []) sA sB (fun x hx y hy => kl_trans (a1 x hx) (y0le y (by rw [eB]; exact hy))) (fun x hx y hy => kl_trans (zge x (by rw [eA]; exact List.mem_append_right _ hx)) (b2 y hy)) pr sr
  by_cases h3 : na - c ≤ d
  · rw [if_pos h3]
    refine wpS_bind (s_mlo hO rfl M (by rw [ex]; exact sA2) (by rw [ey]; exact sB1) (by omega) (by omega) hh fun r g' hr => ?_)
    refine wpS_bind (wpS_modify (wpS_bind (wpS_get (wpS_pure ?_))))
    exact fin r g' hr
  · rw [if_neg h3]
    refine wpS_bind (s_mhi hO rfl M (by rw [ex]; exact sA2) (by rw [ey]; exact sB1) (by omega) (by omega) hh fun r g' hr => ?_)
    refine wpS_bind (wpS_modify (wpS_bind (wpS_get (wpS_pure ?_))))
    exact fin r g' hr
end
end L2
set_option Elab.async false
set_option linter.all false
set_option maxRecDepth 100000
set_option maxHeartbeats 2000000
namespace L2
open PySem PySem.Spec PyProof.Rows
section
variable {κ : PyProof.Rows.KeyKind} {prog : Program} {w : World} {A : Around} {E : Value → Shared → Prop} {s : Shared}
theorem Fx.wide {X Y : Array Keyed} {a b c d : Nat} (h : Fx X Y a b) (h1 : c ≤ a) (h2 : b ≤ d) : Fx X Y c d := ⟨h.p, fun k hk => h.f k (by omega)⟩
theorem s_matC (hO : κ.OneLt) {X0 : Array Keyed} {p : Array (Nat × Nat × Nat)} {g i lo : Nat} {Q : Bool → SortSt → Prop} (h0 : KeysOf κ X0) (hc : Ch κ X0 0 p.toList lo) (hlo : lo ≤ X0.size) (hi : i + 1 < p.size)
    (h : ∀ X p' g', Fx X0 X 0 lo → Ch κ X 0 p'.toList lo → p'.size + 1 = p.size → Q true (mk X p' g')) : wpS (model prog w) A E s (mergeAt' i) Q (mk X0 p g) := by
  have hl : i + 1 < p.toList.length := by rw [Array.length_toList]; exact hi
  obtain ⟨l1, u, v, l2, e, hl1⟩ : ∃ l1 u v l2, p.toList = l1 ++ u :: v :: l2 ∧ l1.length = i := by
    refine ⟨p.toList.take i, p.toList[i], p.toList[i + 1], p.toList.drop (i + 2), ?_, by rw [List.length_take]; omega⟩
    rw [← List.drop_eq_getElem_cons hl, ← List.drop_eq_getElem_cons (by omega), List.take_append_drop]
  obtain ⟨sa, na, pw⟩ := u
  obtain ⟨sb, nb, pw2⟩ := v
  have e1 : p[i]? = some (sa, na, pw) := by rw [← Array.getElem?_toList, e, ← hl1]; simp
  have e2 : p[i + 1]? = some (sb, nb, pw2) := by rw [← Array.getElem?_toList, e, ← hl1]; simp
  rw [e] at hc
  obtain ⟨b, c1, c2⟩ := Ch.app.mp hc
  obtain ⟨f1, f2, f3, f4, f5, f6, f7⟩ := c2
  dsimp only at f1 f2 f3 f4 f5 f6 f7
  subst f1
  have := f7.len
  have := c1.len
  refine s_mat hO h0 e1 e2 f4 f2 f5 (by omega) (by rw [f4]; exact f3) (by rw [f4]; exact f6) fun X g' hF hU => ?_
  have e3 : ((p.setIfInBounds i (sa, na + nb, pw)).eraseIdxIfInBounds (i + 1)).toList = l1 ++ (sa, na + nb, pw) :: l2 := by
    rw [Array.toList_eraseIdxIfInBounds, Array.toList_setIfInBounds, e, ← hl1]
    simp [List.eraseIdx_append_of_length_le]
  refine h X _ g' (hF.wide (Nat.zero_le _) (by omega)) ?_ ?_
  · rw [e3]
    refine Ch.app.mpr ⟨sa, c1.keep hF (.inl (Nat.le_refl _)), rfl, by dsimp only; omega, ?_, ?_⟩
    · dsimp only
      rw [show sa + (na + nb) = sb + nb from by omega]
      exact hU
    · dsimp only
      rw [show sa + (na + nb) = sa + na + nb from by omega]
      exact f7.keep hF (.inr (by omega))
  · rw [← Array.length_toList, e3, ← Array.length_toList, e]
    simp only [List.length_append, List.length_cons]
    omega
theorem s_sort (hO : κ.OneLt) {a : Array Keyed} {Q : Unit → SortSt → Prop} (h0 : KeysOf κ a)
    (h : ∀ X p g, X.Perm a → SortedToK κ X a.size → Q () (mk X p g)) : wpS (model prog w) A E s sortRuns' Q (mk a #[] 7) := by
  rw [sortRuns'_eq]
  refine wpS_bind (wpS_get ?_)
  dsimp only
  have hsz : (arrOf (mk a #[] 7)).size = a.size := rfl
  simp only [hsz]
  generalize minRun' a.size a.size 0 = mr
  refine wpS_bind (wpS_mono (wpS_forRange (I := fun x z st' => ∃ X p g, st' = mk X p g ∧ z.1 = none ∧ X.Perm a ∧ Ch κ X 0 p.toList z.2 ∧ z.2 ≤ a.size ∧ x ≤ z.2)
    (Q := fun z st' => ∃ X p g, st' = mk X p g ∧ z.1 = none ∧ X.Perm a ∧ Ch κ X 0 p.toList a.size) ?_ ?_ ⟨a, #[], 7, rfl, rfl, Array.Perm.refl _, by exact (rfl : (0 : Nat) = 0), Nat.zero_le _, Nat.zero_le _⟩) ?_)
  · rintro x ⟨o, lo⟩ st' _ hx ⟨X, p, g, rfl, rfl, hp, hC, hlo, hxl⟩
    dsimp only at hC hlo hxl ⊢
    by_cases hge : lo ≥ a.size
    · rw [if_pos hge]
      have : lo = a.size := by omega
      subst this
      exact wpS_pure ⟨X, p, g, rfl, rfl, hp, hC⟩
    rw [if_neg hge]
    have sX : X.size = a.size := hp.size_eq
    have ks : ∀ {Y : Array Keyed}, Y.Perm a → KeysOf κ Y := fun hY q hq => h0 q ((Array.perm_iff_toList_perm.mp hY).mem_iff.mp hq)
    refine wpS_bind (s_run (st := mk X p g) hO rfl (ks hp) (by omega) (by omega) fun m X1 hF hm1 hm2 hU => ?_)
    dsimp only
    have hC1 := hC.keep hF (.inl (Nat.le_refl _))
    have hp1 := hF.p.trans hp
    have sX1 : X1.size = a.size := hp1.size_eq
    show wpS _ _ _ _ _ _ (mk X1 p g)
    by_cases hlt : m < mr
    case' pos =>
      rw [if_pos hlt]
      refine wpS_bind (wpS_lift (wpAny_rule ⟨rfl, ?_⟩))
      refine wpS_bind (s_ins (st := mk X1 p g) (X0 := X1) hO rfl (ks hp1) (by omega) (by omega) hU fun X2 hF2 hU2 => ?_)
      have hC1 := hC1.keep hF2 (.inl (Nat.le_refl _))
      have hp1 := hF2.p.trans hp1
      have n1 : 1 ≤ min (a.size - lo) mr := by omega
      have n2 : lo + min (a.size - lo) mr ≤ a.size := by omega
      rw [if_neg (by simp)]
      show wpS _ _ _ _ _ _ (mk X2 p g)
      generalize min (a.size - lo) mr = n at n1 n2 hU2 ⊢
      have hU := hU2
    case' neg =>
      rw [if_neg hlt]
      have n1 : 1 ≤ m := hm1
      have n2 : lo + m ≤ a.size := by omega
      obtain ⟨n, rfl⟩ : ∃ n, n = m := ⟨m, rfl⟩
      obtain ⟨X2, rfl⟩ : ∃ X2, X2 = X1 := ⟨X1, rfl⟩
    all_goals
      have pushed : ∀ (X : Array Keyed) (p : Array (Nat × Nat × Nat)) (g : Nat), X.Perm a → Ch κ X 0 p.toList lo → Up κ X lo (lo + n) → ∃ X' p' g', mk X (p.push (lo, n, 0)) g = mk X' p' g' ∧ X'.Perm a ∧ Ch κ X' 0 p'.toList (lo + n) := fun X p g q1 q2 q3 => by
        refine ⟨X, p.push (lo, n, 0), g, rfl, q1, ?_⟩
        rw [Array.toList_push]
        exact Ch.app.mpr ⟨lo, q2, rfl, n1, q3, rfl⟩
      refine wpS_bind (wpS_get ?_)
      show wpS _ _ _ _ (match p.back? with | some (s1, n1, snd) => _ | x => _) _ _
      cases hbk : p.back? with
      | none =>
        refine wpS_bind (wpS_modify (wpS_pure ?_))
        obtain ⟨X', p', g', e, r1, r2⟩ := pushed X2 p g hp1 hC1 hU
        exact ⟨X', p', g', e, rfl, r1, r2, by dsimp only; omega, by dsimp only; omega⟩
      | some t =>
        obtain ⟨s1, l1, t3⟩ := t
        dsimp only
        generalize power' a.size (2 * s1 + l1) (2 * s1 + l1 + l1 + n) a.size = pw
        refine wpS_bind (wpS_mono (wpS_forRange (I := fun x z st' => ∃ X p g, st' = mk X p g ∧ z = (none, ()) ∧ X.Perm a ∧ Ch κ X 0 p.toList lo ∧ Up κ X lo (lo + n))
          (Q := fun z st' => ∃ X p g, st' = mk X p g ∧ z = (none, ()) ∧ X.Perm a ∧ Ch κ X 0 p.toList lo ∧ Up κ X lo (lo + n)) ?_ (fun _ _ q => q) ⟨X2, p, g, rfl, rfl, hp1, hC1, hU⟩) ?_)
        · rintro y z st' _ _ ⟨X, p, g, rfl, rfl, q1, q2, q3⟩
          refine wpS_bind (wpS_get ?_)
          show wpS _ _ _ _ (match (if p.size > 1 then p[p.size - 2]? else none) with | some (_, _, older) => _ | x => _) _ _
          have sz : X.size = a.size := q1.size_eq
          by_cases hp1 : p.size > 1
          · rw [if_pos hp1]
            obtain ⟨⟨u1, u2, u3⟩, hu⟩ : ∃ u, p[p.size - 2]? = some u := ⟨_, Array.getElem?_eq_getElem (by omega)⟩
            rw [hu]
            dsimp only
            by_cases hle : u3 ≤ pw
            · rw [if_pos hle]
              exact wpS_pure ⟨X, p, g, rfl, rfl, q1, q2, q3⟩
            · rw [if_neg hle]
              refine wpS_bind (s_matC hO (ks q1) q2 (by omega) (by show p.size - 2 + 1 < p.size; omega) fun X' p' g' r1 r2 r3 => ?_)
              rw [if_neg (by simp)]
              exact wpS_pure ⟨X', p', g', rfl, rfl, r1.p.trans q1, r2, q3.keep r1 (.inr (Nat.le_refl _))⟩
          · rw [if_neg hp1]
            exact wpS_pure ⟨X, p, g, rfl, rfl, q1, q2, q3⟩
        · rintro z st' ⟨X, p, g, rfl, rfl, q1, q2, q3⟩
          dsimp only
          refine wpS_bind (wpS_modify (wpS_bind (wpS_modify (wpS_pure ?_))))
          have hM : Ch κ X 0 (p.modify (p.size - 1) fun x => (x.1, x.2.1, pw)).toList lo := by
            rw [Array.toList_modify]
            exact Ch.mod (fun x => (x.1, x.2.1, pw)) (fun _ => ⟨rfl, rfl⟩) q2
          obtain ⟨X', p', g', e, r1, r2⟩ := pushed X _ g q1 hM q3
          exact ⟨X', p', g', e, rfl, r1, r2, by dsimp only; omega, by dsimp only; omega⟩
  · rintro ⟨o, lo⟩ st' ⟨X, p, g, rfl, rfl, hp, hC, hlo, hxl⟩
    dsimp only at hC hlo hxl ⊢
    have : lo = a.size := by omega
    subst this
    exact ⟨X, p, g, rfl, rfl, hp, hC⟩
  · rintro ⟨o, lo⟩ st' ⟨X, p, g, rfl, rfl, hp, hC⟩
    dsimp only
    have hl := hC.len
    rw [Array.length_toList] at hl
    refine wpS_bind (wpS_mono (wpS_forRange (I := fun x z st' => ∃ X p g, st' = mk X p g ∧ z = (none, ()) ∧ X.Perm a ∧ Ch κ X 0 p.toList a.size ∧ (p.size ≤ 1 ∨ p.size + x ≤ a.size))
      (Q := fun z st' => ∃ X p g, st' = mk X p g ∧ z = (none, ()) ∧ X.Perm a ∧ Ch κ X 0 p.toList a.size ∧ p.size ≤ 1) ?_ ?_ ⟨X, p, g, rfl, rfl, hp, hC, .inr (by omega)⟩) ?_)
    · rintro y z st' _ hy ⟨X, p, g, rfl, rfl, q1, q2, q3⟩
      refine wpS_bind (wpS_get ?_)
      show wpS _ _ _ _ (if p.size ≤ 1 then _ else _) _ _
      have sz : X.size = a.size := q1.size_eq
      by_cases hle : p.size ≤ 1
      · rw [if_pos hle]
        exact wpS_pure ⟨X, p, g, rfl, rfl, q1, q2, hle⟩
      · rw [if_neg hle]
        refine wpS_bind (s_matC hO (fun q hq => h0 q ((Array.perm_iff_toList_perm.mp q1).mem_iff.mp hq)) q2 (by omega) (by
          have key : ∀ (b : Prop) [Decidable b], (if b then p.size - 2 - 1 else p.size - 2) + 1 < p.size := fun b _ => by split <;> omega
          exact key _) fun X' p' g' r1 r2 r3 => ?_)
        rw [if_neg (by simp)]
        exact wpS_pure ⟨X', p', g', rfl, rfl, r1.p.trans q1, r2, .inr (by omega)⟩
    · rintro z st' ⟨X, p, g, rfl, rfl, q1, q2, q3⟩
      exact ⟨X, p, g, rfl, rfl, q1, q2, by omega⟩
    · rintro z st' ⟨X, p, g, rfl, rfl, q1, q2, q3⟩
      refine wpS_pure (h X p g q1 ?_)
      rw [← Array.length_toList] at q3
      intro i j hij hj
      match hh : p.toList, q2, q3 with
      | [], q2, _ =>
        have q2 : 0 = a.size := q2
        omega
      | [u], q2, _ =>
        obtain ⟨_, _, q, e⟩ := q2
        have e : 0 + u.2.1 = a.size := e
        rw [e] at q
        exact q i j (Nat.zero_le _) hij hj
      | _ :: _ :: _, _, q3 =>
        simp at q3
end
end L2
set_option Elab.async false
set_option linter.all false
set_option maxRecDepth 100000
set_option maxHeartbeats 2000000
namespace L2
open PySem PySem.Spec PyProof.Rows
section
variable {κ : PyProof.Rows.KeyKind} {prog : Program} {w : World} {A : Around} {E : Value → Shared → Prop} {s : Shared}
theorem sort_any (hO : κ.OneLt) {a : Addr} {vs : List Value} {n : Nat} {P : Fin → Shared → Prop} (ho : s.heap.get? a = some (seqObj "list" vs.toArray n)) (h0 : KeysOf κ (pairsOf vs))
    (hkk : ∀ v₁ v₂ rest, vs = v₁ :: v₂ :: rest → keyKind' (v₁ :: v₂ :: rest).toArray = pure oneType') (hle : vs.length < 4000)
    (h : ∀ X : Array Keyed, X.Perm (pairsOf vs) → SortedToK κ X (pairsOf vs).size → P (.done (.ret .none)) { s with heap := sortedHeap s.heap a vs (X.map (·.2)) }) :
    wpAny (model prog w) A (Builtin.«list.sort» ⟨[.ref a], []⟩) P E s := by
  by_cases h64 : vs.length < 64
  · exact list_sort_treeK hO ho h0 hkk h64 fun st' p q => h _ p q
  have lz : vs.toArray.size = vs.length := by simp
  have ln : ¬ vs.toArray.size < 2 := by omega
  rw [list_sort_plain]
  have la := Heap.lt_size ho
  refine wpAny_bind (listItems_at ho rfl (wpAny_bind (listUpdate_at ho rfl ?_ (by rw [lz, sizeLine_eq]; omega) (Nat.zero_le _))))
  obtain ⟨ep, g1⟩ : ∃ ep, (s.heap.update a (Obj.mapSeq fun _ => #[])).get? a = some (seqObj "list" #[] ep) := ⟨_, get?_update_seq ho fun _ => #[]⟩
  refine wpAny_bind (seqEpoch_at g1 rfl (wpAny_bind (wpAny_newTuple (wpAny_bind (wpAny_newList (wpAny_holding ?_))) (by rw [sizeLine_eq]; show vs.length ≤ _; omega))))
  have g3 : (((s.heap.update a (Obj.mapSeq fun _ => #[])).push (seqObj "tuple" vs.toArray 0)).push (seqObj "list" #[] 0)).get? a = some (seqObj "list" #[] ep) :=
    Heap.get?_push_of_some _ (Heap.get?_push_of_some _ g1)
  show wpAny (model prog w) A _ P E { s with heap := ((s.heap.update a (Obj.mapSeq fun _ => #[])).push (seqObj "tuple" vs.toArray 0)).push (seqObj "list" #[] 0) }
  dsimp only
  rw [if_neg ln, if_neg ln]
  obtain ⟨v₁, v₂, rest, e⟩ : ∃ v₁ v₂ rest, vs = v₁ :: v₂ :: rest := by
    match vs, h64 with
    | [], h64 => exact absurd (by simp) h64
    | [_], h64 => exact absurd (by simp) h64
    | v₁ :: v₂ :: rest, _ => exact ⟨v₁, v₂, rest, rfl⟩
  have hk2 : keyKind' vs.toArray = pure oneType' := by rw [e]; exact hkk _ _ _ e
  rw [hk2]
  refine wpAny_bind (wpAny_pure (wpAny_bind (wpAny_mono (s_sort (κ := κ) hO (a := pairsOf vs) (Q := fun _ st' => (arrOf st').Perm (pairsOf vs) ∧ failedOf st' = none ∧ SortedToK κ (arrOf st') (pairsOf vs).size) h0 fun X p g p1 p2 => ⟨p1, rfl, p2⟩) ?_ fun _ _ q => q)))
  rintro ⟨⟨⟩, st'⟩ s' ⟨rfl, hp, hf, hs⟩
  dsimp only
  have l2 : ((arrOf st').map (·.2)).size = vs.length := (Array.size_map ..).trans (hp.size_eq.trans (pairsOf_size _))
  refine wpAny_bind (seqEpoch_at g3 rfl (wpAny_bind (listUpdate_at g3 rfl ?_ (Nat.zero_le _) (by rw [l2, sizeLine_eq]; omega))))
  rw [hf]
  simp only [bne_self_eq_false, Bool.false_eq_true, if_false]
  exact wpAny_pure (h _ hp hs)
theorem sorted_any (hO : κ.OneLt) {l : Addr} {vs : List Value} {Q : Value → Shared → Prop} (hl : s.heap.IsList l vs.toArray) (h0 : KeysOf κ (pairsOf vs)) (hkk : ∀ v₁ v₂ rest, vs = v₁ :: v₂ :: rest → keyKind' (v₁ :: v₂ :: rest).toArray = pure oneType') (hle : vs.length < 4000)
    (h : ∀ X : Array Keyed, X.Perm (pairsOf vs) → SortedToK κ X (pairsOf vs).size → Q (.ref (s.heap.objs.size + 1)) { s with heap := sortedAll s.heap vs (X.map (·.2)) }) :
    wpAny (model prog w) A (call (.builtin "sorted") [.ref l]) Q E s := by
  have lz : vs.length ≤ sizeLine := by rw [sizeLine_eq]; omega
  refine Calls.call_function_entry kind_sorted plain_sorted entry_sorted (args_sorted1 _) ?_
  unfold Builtin.«sorted»
  refine wpAny_bind (m := checkCount "sorted" 1 1 _) (wpAny_pure (wpAny_bind (collect_list hl (wpAny_bind (wpAny_newList ?_ lz)) lz)))
  have ez : ((s.heap.push (seqObj "list" #[] 0)).update s.heap.objs.size (Obj.mapSeq (· ++ vs.toArray))).objs.size = s.heap.objs.size + 1 := by
    rw [Heap.size_update, size_push']
  have gL : (((s.heap.push (seqObj "list" #[] 0)).update s.heap.objs.size (Obj.mapSeq (· ++ vs.toArray))).push (seqObj "list" vs.toArray 0)).get? (s.heap.objs.size + 1) = some (seqObj "list" vs.toArray 0) := by
    rw [← ez]
    exact Heap.get?_push_size _ rfl
  show wpAny _ _ _ _ _ { s with heap := ((s.heap.push (seqObj "list" #[] 0)).update s.heap.objs.size (Obj.mapSeq (· ++ vs.toArray))).push (seqObj "list" vs.toArray 0) }
  rw [ez]
  refine wpAny_bind (wpAny_holding (wpAny_call_entry slot_list_sort ⟨_, gL, rfl⟩ entry_list_sort (sort_any hO gL h0 hkk hle fun X p q => ⟨_, rfl, ?_⟩) (args_list_sort _)))
  exact wpAny_pure ⟨_, rfl, h X p q⟩
theorem sorted_strsB {l : Addr} {vs : List Value} {ss : List Str} {Q : Value → Shared → Prop} (hl : s.heap.IsList l vs.toArray) (hS : StrsAre vs ss) (hle : vs.length < 4000)
    (h : ∀ (out : Array Value) (ss' : List Str), StrsAre out.toList ss' → ss'.Perm ss → sortedS ss' = true → Q (.ref (s.heap.objs.size + 1)) { s with heap := sortedAll s.heap vs out }) :
    wpAny (model prog w) A (call (.builtin "sorted") [.ref l]) Q E s := by
  refine sorted_any strKind_oneLt hl hS.keysOf (fun v₁ v₂ rest e => keyKind_strs (by rw [← e]; exact hS)) hle fun X p q => ?_
  obtain ⟨ss', h1, h2, h3⟩ := sorted_out_str hS p q
  exact h _ ss' h1 h2 h3
end
end L2
set_option Elab.async false
set_option linter.all false
set_option maxRecDepth 100000
set_option maxHeartbeats 4000000
namespace L2
open PySem PySem.Spec PyProof.Rows
noncomputable def sortOB (ys : List Str) : Option (List Str) := if ys.length < 4000 then some (sortS ys) else none
noncomputable def rSortSB (K : PySem.W.Frag) : List V → Hp → VK → Prop := fun vs H Q => ∃ (l : Addr) (ys : List Str), vs = [.ref l] ∧ SqL K H l (ys.map V.str) ∧ ys.length < 4000 ∧ ∀ p, H p = none → Q (.ref p) (upd H p (.lst ((sortS ys).map V.str)))
theorem call_sortedSB {X : Cx} {K : PySem.W.Frag} (h : X.K = K) : CallR X (.builtin "sorted") (rSortSB K) := by
  subst h
  intro pins s σ H vs us Q I r h
  obtain ⟨l, ys, rfl, hl, hle, q⟩ := h
  obtain ⟨u, rfl, ru⟩ := vals1 r
  cases ru
  obtain ⟨its, rv, pl, _⟩ := I.list hl
  have hlen := rv.length
  rw [List.length_map] at hlen
  refine sorted_strsB pl.isList (strsAre_of rv) (by omega) fun out ss' a1 a2 a3 => ?_
  have e := sortS_of a2 a3
  subst e
  obtain ⟨n, he⟩ := sortedAll_at s.heap its out
  refine ⟨.ref (s.heap.objs.size + 1), _, I.laid (a := s.heap.objs.size + 1) (t' := s.toks) (o := .lst ((sortS ys).map V.str)) (fun b ob q => sortedAll_old q) (Nat.le_succ _) ?_, rfl, q _ (I.hok.fresh (Nat.le_succ _))⟩
  refine ⟨?_, out.toList, n, vals_strs a1, he⟩
  rw [List.length_map, (sortS_perm ys).length_eq, sizeLine_eq]
  omega
section
variable {K : PySem.W.Frag} {σ : St} {G : Hp} {ta : TE}
theorem fv_sortSB {la : Option (List Str)} (ea : EV K ta σ G la) : FV K (tCB (rSortSB K) (tCons ta tNil)) σ G (la.bind fun ys => sortOB ys) := by
  intro G1 s1 c hc H sH Q k
  obtain ⟨a, ha, hc⟩ := Option.bind_eq_some_iff.mp hc
  obtain ⟨hle, rfl⟩ := ite_some hc
  refine ea G1 s1 a ha H sH _ fun v G2 H2 x2 r2 => ?_
  obtain ⟨l, xs, rfl, h, z, p⟩ := r2
  have e := paired_strsR p
  subst e
  refine ⟨l, a, rfl, .inl (x2.gh.rd h), hle, ?_⟩
  refine fv_of x2.gh ?_ ?_ (FV.mono x2 k)
  · rw [List.length_map, (sortS_perm a).length_eq, sizeLine_eq]
    omega
  · have hl : ∀ y ∈ a, y.length ≤ sizeLine := fun y hy => by
      have := paired_len p y hy
      exact this
    have : ∀ zs : List Str, (∀ y ∈ zs, y.length ≤ sizeLine) → Paired (Rp.rel K G2) (zs.map V.str) zs := fun zs => by
      induction zs with
      | nil => intro _; exact .nil
      | cons y zs ih => intro h; exact .cons ⟨rfl, h y List.mem_cons_self⟩ (ih fun w hw => h w (List.mem_cons_of_mem _ hw))
    exact this _ fun y hy => hl y ((sortS_perm a).mem_iff.mp hy)
end
end L2
set_option Elab.async false
set_option linter.all false
set_option maxRecDepth 100000
set_option maxHeartbeats 4000000
namespace My
open PySem PySem.Spec PyProof.Rows L2
noncomputable def m_law_letters : Option Str :=
  (some ("abcdefghijklmnopqrstuvwxyz" : Str))
noncomputable abbrev mm_law_letters (_ : Unit) : Option Str := m_law_letters
noncomputable def m_law_lamps (number_ : Int) (many_ : Int) : Option Str :=
  (some ("" : Str)).bind fun lit_ =>
  (some (number_ % 4503599627370496)).bind fun left_ =>
  ((some (26 : Int)).bind fun t13 => rngO 0 t13).bind fun as14 => (forO (S := (Str × Int)) (ρ := Str) (fun (k_ : Int) s21 =>
      (some ((decide ((s21.1.length : Int) < many_)) && ((decide ((s21.2 % (3 : Int)) = (0 : Int))) || (decide (((26 : Int) - k_) ≤ (many_ - (s21.1.length : Int))))))).bind fun b38 => (cond b38
        (((some s21.1).bind fun t51 => (m_law_letters.bind fun t49 => (some k_).bind fun t50 => (atI t49.cps.toList t50).bind fun z => some (⟨#[z]⟩ : Str)).bind fun t52 => catS t51 t52).bind fun lit_ =>
        some lit_)
        (some s21.1)).bind fun s43 =>
      (some ((s21.2 / (3 : Int)) + k_)).bind fun left_ =>
      some (Fl.nx (s43, left_))) as14 (lit_, left_)).bind fun fl16 => match fl16 with
    | .nx s21 =>
      (some s21.1)
    | .rt r => some r
    | .bk _ => none
noncomputable abbrev mm_law_lamps (x : Int × Int × Unit) : Option Str := m_law_lamps x.1 x.2.1
noncomputable def m_all_moments (lamps_ : Str) : Option (List Str) :=
  (some [("" : Str)]).bind fun found_ =>
  (some (signsO lamps_)).bind fun as7 => (forO (S := ((List Str))) (ρ := (List Str)) (fun (lamp_ : Str) s14 =>
      ((some s14).bind fun t36 => ((some s14).bind fun t35 => mapO (fun (moment_ : Str) => ((some moment_).bind fun t33 => (some lamp_).bind fun t34 => catS t33 t34)) t35).bind fun t37 => catL t36 t37).bind fun found_ =>
      some (Fl.nx found_)) as7 found_).bind fun fl9 => match fl9 with
    | .nx s14 =>
      ((some s14).bind fun t50 => sortOB t50)
    | .rt r => some r
    | .bk _ => none
noncomputable abbrev mm_all_moments (x : Str × Unit) : Option (List Str) := m_all_moments x.1
noncomputable def m_law_cell (script_ : Scr) (k_ : Int) : Option Int :=
  (some (decide (k_ < (script_.l.length : Int)))).bind fun b1 => cond b1
    (((some script_).bind fun t6 => (some k_).bind fun t7 => atI t6.l t7))
    ((some (0 : Int)))
noncomputable abbrev mm_law_cell (x : Scr × Int × Unit) : Option Int := m_law_cell x.1 x.2.1
noncomputable def m_law_holds (found_ : (List Str)) (lamps_here_ : Str) : Option Bool :=
  (some (!true)).bind fun b1 => cond b1
    ((some false))
    ((some (1 : Int)).bind fun many_ =>
    (some (signsO lamps_here_)).bind fun as17 => (forO (S := (Int)) (ρ := Bool) (fun (letter_ : Str) s24 =>
        (some (s24 * (2 : Int))).bind fun many_ =>
        some (Fl.nx many_)) as17 many_).bind fun fl19 => match fl19 with
      | .nx s24 =>
        (some (!decide ((found_.length : Int) = s24))).bind fun b51 => cond b51
          ((some false))
          (((some s24).bind fun t61 => rngO 0 t61).bind fun as62 => (forO (S := Unit) (ρ := Bool) (fun (k_ : Int) s69 =>
              ((some found_).bind fun t83 => (some k_).bind fun t84 => atI t83 t84).bind fun one_ =>
              ((some (!true)).bind fun t106 => cond t106 (some true) (((some ("" : Str)).bind fun t103 => ((some (signsO lamps_here_)).bind fun t102 => compO (fun (letter_ : Str) => (some (inS letter_ one_))) (fun (letter_ : Str) => (some letter_)) t102).bind fun t104 => joinO t103 t104).bind fun t105 => (some (!decide (one_ = t105))))).bind fun b107 => cond b107
                ((some false).bind fun rr117 => some (Fl.rt rr117))
                (((some (decide ((0 : Int) < k_))).bind fun t123 => cond t123 ((((some found_).bind fun t119 => (some (k_ - (1 : Int))).bind fun t120 => atI t119 t120).bind fun t121 => (some (decide (t121.cps.toList < one_.cps.toList)))).bind fun t122 => (some (!t122))) (some false)).bind fun b124 => cond b124
                  ((some false).bind fun rr134 => some (Fl.rt rr134))
                  (some (Fl.nx ())))) as62 ()).bind fun fl64 => match fl64 with
            | .nx s69 =>
              (some true)
            | .rt r => some r
            | .bk _ => none)
      | .rt r => some r
      | .bk _ => none)
noncomputable abbrev mm_law_holds (x : (List Str) × Str × Unit) : Option Bool := m_law_holds x.1 x.2.1
noncomputable def m_law (script_ : Scr) : Option Bool :=
  (((some script_).bind fun t1 => (some (1 : Int)).bind fun t2 => m_law_cell t1 t2).bind fun t6 => (((some script_).bind fun t3 => (some (0 : Int)).bind fun t4 => m_law_cell t3 t4).bind fun t5 => (some (t5 % (9 : Int)))).bind fun t7 => m_law_lamps t6 t7).bind fun lamps_here_ =>
  (((some script_).bind fun t14 => (some (2 : Int)).bind fun t15 => m_law_cell t14 t15).bind fun t19 => (((some script_).bind fun t16 => (some (3 : Int)).bind fun t17 => m_law_cell t16 t17).bind fun t18 => (some (t18 % (4 : Int)))).bind fun t20 => m_law_lamps t19 t20).bind fun others_ =>
  ((some lamps_here_).bind fun t27 => m_all_moments t27).bind fun found_ =>
  (((some found_).bind fun t39 => (some lamps_here_).bind fun t40 => m_law_holds t39 t40).bind fun t41 => (some (!t41))).bind fun b42 => cond b42
    ((some false))
    ((some found_).bind fun kept_ =>
    ((some others_).bind fun t58 => m_all_moments t58).bind fun beside_ =>
    ((((some beside_).bind fun t71 => (some others_).bind fun t72 => m_law_holds t71 t72).bind fun t73 => (some (!t73))).bind fun t74 => cond t74 (some true) (some (!decide (found_ = kept_)))).bind fun b75 => cond b75
      ((some false))
      ((some ("zz" : Str)).bind fun a85 => (pushO found_ a85).bind fun z93 =>
      ((((some lamps_here_).bind fun t95 => m_all_moments t95).bind fun t96 => (some (decide (t96 = kept_)))).bind fun t100 => cond t100 (((some others_).bind fun t97 => m_all_moments t97).bind fun t98 => (some others_).bind fun t99 => m_law_holds t98 t99) (some false))))
noncomputable abbrev mm_law (x : Scr × Unit) : Option Bool := m_law x.1
end My
set_option Elab.async false
set_option linter.all false
set_option maxRecDepth 100000
set_option maxHeartbeats 4000000
namespace My
open PySem PySem.Spec PyProof.Rows L2
noncomputable def top (i : Nat) : Stmt := PySem.Challenge.pw_lassoscribe_k03_all_moments.main.body.getD i (.Pass ⟨0, 0, 0, 0⟩)
noncomputable abbrev s_all_moments : Stmt := top 1
noncomputable abbrev s_law_cell : Stmt := top 3
noncomputable abbrev s_law_letters : Stmt := top 4
noncomputable abbrev s_law_lamps : Stmt := top 5
noncomputable abbrev s_law_holds : Stmt := top 6
noncomputable abbrev s_law : Stmt := top 7
structure Txt (mg : Str → Option Value) : Prop where
  isinstance_ : mg "isinstance" = none
  len_ : mg "len" = none
  list_ : mg "list" = none
  range_ : mg "range" = none
  sorted_ : mg "sorted" = none
  str_ : mg "str" = none
theorem sc_all_moments : FnScope ["lamps", "found", "lamp"] ["lamps"] (defScope s_all_moments) := ⟨rfl, rfl, rfl, by decide +kernel, rfl, by decide +kernel, by decide +kernel⟩
theorem sc_law_cell : FnScope ["_law_script", "_law_k"] ["_law_script", "_law_k"] (defScope s_law_cell) := ⟨rfl, rfl, rfl, by decide +kernel, rfl, by decide +kernel, by decide +kernel⟩
theorem sc_law_letters : FnScope [] [] (defScope s_law_letters) := ⟨rfl, rfl, rfl, by decide +kernel, rfl, by decide +kernel, by decide +kernel⟩
theorem sc_law_lamps : FnScope ["_law_number", "_law_many", "_law_lit", "_law_left", "_law_k"] ["_law_number", "_law_many"] (defScope s_law_lamps) := ⟨rfl, rfl, rfl, by decide +kernel, rfl, by decide +kernel, by decide +kernel⟩
theorem sc_law_holds : FnScope ["_law_found", "_law_lamps_here", "_law_many", "_law_letter", "_law_k", "_law_one"] ["_law_found", "_law_lamps_here"] (defScope s_law_holds) := ⟨rfl, rfl, rfl, by decide +kernel, rfl, by decide +kernel, by decide +kernel⟩
theorem sc_law : FnScope ["_law_script", "_law_lamps_here", "_law_others", "_law_found", "_law_kept", "_law_beside"] ["_law_script"] (defScope s_law) := ⟨rfl, rfl, rfl, by decide +kernel, rfl, by decide +kernel, by decide +kernel⟩
noncomputable def sp_law (K : PySem.W.Frag) : Sp := fun vs H Q _ => ∃ (a : Addr) (ns : List Int), vs = [.ref a] ∧ SqL K H a (ns.map V.int) ∧ ns.length ≤ 63 ∧ ∀ H', Q (.bl true) H'
section
variable {P : Program} {w : World} {K : PySem.W.Frag} {mg : Str → Option Value} {base : Heap}
theorem ok_law_letters {f : Addr} {fd : FuncData} (F : Fun K "_law_letters" "_law_letters" s_law_letters f fd) (T : Txt mg) : FnOk P w K mg base CX0 1 f fd [] (spM K mm_law_letters) := by
  refine F.ok sc_law_letters (fun vs H Q E h => (spM_len h).trans rfl) (fun cdv A outer s H0 vs Q E hr h => ?_)
  obtain ⟨G0, ⟨⟩, res, sg0, rfl, hm, q⟩ := h
  replace hm : m_law_letters = some res := hm
  unfold m_law_letters at hm
  have xt : Ext G0 H0 G0 H0 := Ext.refl sg0
  refine ⟨_, (pss_cons (ps_ret pe_str)
      pss_nil), ?_⟩
  exact sv_ret (K := K) (rest := tNext) (σ := []) ev_s hm xt.gh fun v1 G2 H3 x4 r5 => q v1 G2 H3 (xt.trans x4) r5
theorem ok_law_lamps {f : Addr} {fd : FuncData} (F : Fun K "_law_lamps" "_law_lamps" s_law_lamps f fd) (T : Txt mg) (D_law_letters : DefOk P w K mg base "_law_letters" 1 [] (spM K mm_law_letters)) : FnOk P w K mg base CX0 2 f fd ["_law_number", "_law_many"] (spM K mm_law_lamps) := by
  refine F.ok sc_law_lamps (fun vs H Q E h => (spM_len h).trans rfl) (fun cdv A outer s H0 vs Q E hr h => ?_)
  obtain ⟨G0, ⟨number_, ⟨many_, ⟨⟩⟩⟩, res, sg0, ⟨v_number_, _, rfl, r_number_, ⟨v_many_, _, rfl, r_many_, rfl⟩⟩, hm, q⟩ := h
  replace r_number_ : Rp.rel K G0 v_number_ number_ := r_number_
  replace r_many_ : Rp.rel K G0 v_many_ many_ := r_many_
  replace hm : m_law_lamps number_ many_ = some res := hm
  unfold m_law_lamps at hm
  have xt : Ext G0 H0 G0 H0 := Ext.refl sg0
  refine ⟨_, (pss_cons (ps_set (i := 2) sc_law_lamps.nd rfl (Or.inl rfl) pe_str)
      (pss_cons (ps_set (i := 3) sc_law_lamps.nd rfl (Or.inl rfl) (pe_op op_mod (pv 0) (pe_op op_pow pe_int pe_int)))
      (pss_cons (ps_for PassesOwn.never rfl (pi_range1 rfl T.range_ (pa_cons pe_int pa_nil)) (pg_name (i := 4) sc_law_lamps.nd rfl (Or.inl rfl)) (pss_cons (ps_if (PW.pt (pw_and (pt_cmpR op_ltU (pe_callB (call_lenK (K := K) rfl) (by rfl) T.len_ bt_len (pa_cons (pv 2) pa_nil)) (pv 1) (nomark _)) (pw_and1 (PW.pt (pw_or (pt_cmpR op_eq (pe_op op_mod (pv 3) pe_int) pe_int (nomark _)) (pw_or1 (pt_cmpR op_leU (pe_op op_sub pe_int (pv 4)) (pe_op op_sub (pv 1) (pe_callB (call_lenK (K := K) rfl) (by rfl) T.len_ bt_len (pa_cons (pv 2) pa_nil))) (nomark _)))))))) (pss_cons (ps_set (i := 2) sc_law_lamps.nd rfl (Or.inl rfl) (pe_op (op_plusK (K := K) rfl) (pv 2) (pe_ix (ix_anyK (K := K) rfl) (pe_def0 D_law_letters hr (by decide) rfl) (pv 4) (fun _ _ => rfl))))
      pss_nil) pss_nil)
      (pss_cons (ps_set (i := 3) sc_law_lamps.nd rfl (Or.inl rfl) (pe_op (op_plusK (K := K) rfl) (pe_op op_fdiv (pv 3) pe_int) (pv 4)))
      pss_nil)))
      (pss_cons (ps_ret (pv 2))
      pss_nil)))), ?_⟩
  refine bE hm fun lit_ h6 hm => ?_
  refine sv_set (K := K) ev_s h6 xt.gh fun v1 G2 H3 x4 r5 => ?_
  have xt := xt.trans x4
  have r_number_ := Rp.mono x4.gg r_number_
  have r_many_ := Rp.mono x4.gg r_many_
  refine bE hm fun left_ h12 hm => ?_
  refine sv_set (K := K) (ev_modC (ev_var rfl r_number_) (EV.of (m' := some (4503599627370496 : Int)) (ev_pow (ev_i (i := 2)) (ev_i (i := 52))) (by decide +kernel)) (by decide +kernel)) h12 xt.gh fun v7 G8 H9 x10 r11 => ?_
  have xt := xt.trans x10
  have r_number_ := Rp.mono x10.gg r_number_
  have r_many_ := Rp.mono x10.gg r_many_
  have r5 := Rp.mono x10.gg r5
  refine bE hm fun as14 h15 hm => ?_
  refine bE hm fun fl16 h17 hm => ?_
  refine sv_for (K := K) (RR := fun r v G' H' => Ext G0 H0 G' H' ∧ Rp.rel K G' v r) (iw_rng1 ev_i) h15 h17 xt.gh fun G18 H19 x20 => ⟨fun s21 S' G' H' => ∃ (v22 : V) (v23 : V) (v24 : Option V), Ext G0 H0 G' H' ∧ Same G18 G' ∧ S' = [some v_number_, some v_many_, some v22, some v23, v24] ∧ Rp.rel K G' v22 (s21.1 : Str) ∧ Rp.rel K G' v23 (s21.2 : Int), ?_, ?_, ?_, ?_, ?_⟩
  · have xt := xt.trans x20
    have r_number_ := Rp.mono x20.gg r_number_
    have r_many_ := Rp.mono x20.gg r_many_
    have r5 := Rp.mono x20.gg r5
    have r11 := Rp.mono x20.gg r11
    exact ⟨v1, v7, _, xt, (Same.refl _), rfl, r5, r11⟩
  · rintro _ S' G' H' ⟨v22, v23, v24, xt, mk25, rfl, r26, r27⟩
    exact ⟨mk25, xt.gh⟩
  · rintro xv28 a29 s21 _ G32 H33 fl30 - ⟨v22, v23, v24, xt, mk25, rfl, r26, r27⟩ rx31 hm D' kN34 kC35 kB36 kR37
    have r_number_ := Rp.mono (x20.gg.trans mk25) r_number_
    have r_many_ := Rp.mono (x20.gg.trans mk25) r_many_
    refine sv_turn ?_
    refine bE hm fun b38 h39 hm => ?_
    refine bE hm fun s43 h44 hm => ?_
    refine sv_join (fun S61 H60 => ∃ (G59 : Hp) (v46 : V), Ext G0 H0 G59 H60 ∧ Same G32 G59 ∧ S61 = [some v_number_, some v_many_, some v46, some v23, some xv28] ∧ Rp.rel K G59 v46 (s43 : Str)) (fun nx kn48 => ?_) ?_
    · refine sv_if (tv_andP (tv_test (K := K) (ev_ord (ev_lenS (ev_var rfl r26)) (ev_var rfl r_many_))) (tv_orP (tv_test (K := K) (ev_eqI (ev_modR (ev_var rfl r27)) ev_i)) (tv_test (K := K) (ev_ord (ev_sub ev_i (ev_var rfl rx31)) (ev_sub (ev_var rfl r_many_) (ev_lenS (ev_var rfl r26))))))) h39 xt.gh fun G40 H41 x42 => ?_
      have xt := xt.trans x42
      have mk25 := mk25.trans x42.gg
      have r_number_ := Rp.mono x42.gg r_number_
      have r_many_ := Rp.mono x42.gg r_many_
      have r26 := Rp.mono x42.gg r26
      have r27 := Rp.mono x42.gg r27
      have rx31 := Rp.mono x42.gg rx31
      have mk45 : Same G32 G40 := x42.gg
      have hm := h44
      cases b38 with
      | true =>
        replace hm := cT hm
        refine iteT ?_
        refine bE hm fun lit_ h58 hm => ?_
        refine sv_set (K := K) (ev_catS (ev_var rfl r26) (ev_atS (ev_def0 (m := mm_law_letters)) (ev_var rfl rx31))) h58 xt.gh fun v53 G54 H55 x56 r57 => ?_
        have xt := xt.trans x56
        have mk25 := mk25.trans x56.gg
        have mk45 := mk45.trans x56.gg
        have r_number_ := Rp.mono x56.gg r_number_
        have r_many_ := Rp.mono x56.gg r_many_
        have r26 := Rp.mono x56.gg r26
        have r27 := Rp.mono x56.gg r27
        have rx31 := Rp.mono x56.gg rx31
        cases hm
        exact kn48 _ _ ⟨G54, v53, xt, mk45, rfl, r57⟩
      | false =>
        replace hm := cF hm
        refine iteF ?_
        cases hm
        exact kn48 _ _ ⟨G40, v22, xt, mk45, rfl, r26⟩
    · rintro _ H60 ⟨G59, v46, xt, mk45, rfl, r47⟩
      have mk25 := mk25.trans mk45
      have r_number_ := Rp.mono mk45 r_number_
      have r_many_ := Rp.mono mk45 r_many_
      have r27 := Rp.mono mk45 r27
      have rx31 := Rp.mono mk45 rx31
      refine bE hm fun left_ h67 hm => ?_
      refine sv_set (K := K) (ev_add (ev_divR (ev_var rfl r27)) (ev_var rfl rx31)) h67 xt.gh fun v62 G63 H64 x65 r66 => ?_
      have xt := xt.trans x65
      have mk25 := mk25.trans x65.gg
      have r_number_ := Rp.mono x65.gg r_number_
      have r_many_ := Rp.mono x65.gg r_many_
      have r47 := Rp.mono x65.gg r47
      have r27 := Rp.mono x65.gg r27
      have rx31 := Rp.mono x65.gg rx31
      cases hm
      exact kN34 _ _ _ _ rfl ⟨v46, v62, _, xt, mk25, rfl, r47, r66⟩
  · rintro s21 _ G74 H75 rfl ⟨v68, v69, v70, xt, mk71, rfl, r72, r73⟩
    refine sv_nx ?_
    have r_number_ := Rp.mono (x20.gg.trans mk71) r_number_
    have r_many_ := Rp.mono (x20.gg.trans mk71) r_many_
    exact sv_ret (K := K) (ev_var rfl r72) hm xt.gh fun v76 G77 H78 x79 r80 => q v76 G77 H78 (xt.trans x79) r80
  · rintro r' v' G' H' rfl rl
    cases hm
    exact q v' G' H' rl.1 rl.2
theorem ok_all_moments {f : Addr} {fd : FuncData} (F : Fun K "all_moments" "all_moments" s_all_moments f fd) (T : Txt mg) : FnOk P w K mg base CX0 1 f fd ["lamps"] (spL K mm_all_moments) := by
  refine F.ok sc_all_moments (fun vs H Q E h => (spL_len h).trans rfl) (fun cdv A outer s H0 vs Q E hr h => ?_)
  obtain ⟨G0, ⟨lamps_, ⟨⟩⟩, res, sg0, ⟨v_lamps_, _, rfl, r_lamps_, rfl⟩, hm, q⟩ := h
  replace r_lamps_ : Rp.rel K G0 v_lamps_ lamps_ := r_lamps_
  replace hm : m_all_moments lamps_ = some res := hm
  unfold m_all_moments at hm
  have xt : Ext G0 H0 G0 H0 := Ext.refl sg0
  refine ⟨_, (pss_cons (ps_set (i := 1) sc_all_moments.nd rfl (Or.inl rfl) (pe_lst (pa_cons pe_str pa_nil)))
      (pss_cons (ps_for PassesOwn.never rfl (pi_anyK (K := K) rfl (pv 0)) (pg_name (i := 2) sc_all_moments.nd rfl (Or.inr rfl)) (pss_cons (ps_set (i := 1) sc_all_moments.nd rfl (Or.inl rfl) (pe_op (op_plusK (K := K) rfl) (pv 1) (pe_comp (cn := ["lamp"]) (cap := [2]) rfl ⟨by decide +kernel, rfl, by decide +kernel, free_of rfl⟩ rfl (by decide +kernel) ⟨⟨rfl, .inl rfl, rfl⟩, trivial⟩ (pi_anyK (K := K) rfl (pv 1)) (fun C s0 H0 fp => ⟨pts_nil, (pe_op (op_plusK (K := K) rfl) (pv 0) (pv 1))⟩))))
      pss_nil))
      (pss_cons (ps_ret (pe_callB (call_sortedSB (K := K) rfl) (by rfl) T.sorted_ bt_sorted (pa_cons (pv 1) pa_nil)))
      pss_nil))), ?_⟩
  refine bE hm fun found_ h6 hm => ?_
  refine sv_set (K := K) (FV.ev (fv_lst (lv_cons ev_s (lv_nil (α := Str))))) h6 xt.gh fun v1 G2 H3 x4 r5 => ?_
  have xt := xt.trans x4
  have r_lamps_ := Rp.mono x4.gg r_lamps_
  refine bE hm fun as7 h8 hm => ?_
  refine bE hm fun fl9 h10 hm => ?_
  refine sv_for (K := K) (RR := fun r v G' H' => ∃ p vs, v = V.ref p ∧ Ext G0 H0 G' H' ∧ H0 p = none ∧ Own K G' H' (V.ref p) p vs r) (iw_str (ev_var rfl r_lamps_)) h8 h10 xt.gh fun G11 H12 x13 => ⟨fun s14 S' G' H' => ∃ (v15 : V) (v16 : Option V), Ext G0 H0 G' H' ∧ Same G11 G' ∧ S' = [some v_lamps_, some v15, v16] ∧ Rp.rel K G' v15 (s14 : (List Str)), ?_, ?_, ?_, ?_, ?_⟩
  · have xt := xt.trans x13
    have r_lamps_ := Rp.mono x13.gg r_lamps_
    have r5 := Rp.mono x13.gg r5
    exact ⟨v1, _, xt, (Same.refl _), rfl, r5⟩
  · rintro _ S' G' H' ⟨v15, v16, xt, mk17, rfl, r18⟩
    exact ⟨mk17, xt.gh⟩
  · rintro xv19 a20 s14 _ G23 H24 fl21 - ⟨v15, v16, xt, mk17, rfl, r18⟩ rx22 hm D' kN25 kC26 kB27 kR28
    have r_lamps_ := Rp.mono (x13.gg.trans mk17) r_lamps_
    refine sv_turn ?_
    refine bE hm fun found_ h43 hm => ?_
    refine sv_set (K := K) (FV.ev (fv_cat (ev_var rfl r18) (FV.ev (fv_map (cap := [2]) (fe := fun (moment_ : Str) => ((some moment_).bind fun t33 => (some a20).bind fun t34 => catS t33 t34)) (iw_list (ev_var rfl r18)) fun xc32 moment_ Gc29 sc30 rc31 => (ev_catS (ev_var rfl rc31) (ev_var rfl (Rp.mono sc30 rx22))))))) h43 xt.gh fun v38 G39 H40 x41 r42 => ?_
    have xt := xt.trans x41
    have mk17 := mk17.trans x41.gg
    have r_lamps_ := Rp.mono x41.gg r_lamps_
    have r18 := Rp.mono x41.gg r18
    have rx22 := Rp.mono x41.gg rx22
    cases hm
    exact kN25 _ _ _ _ rfl ⟨v38, _, xt, mk17, rfl, r42⟩
  · rintro s14 _ G48 H49 rfl ⟨v44, v45, xt, mk46, rfl, r47⟩
    refine sv_nx ?_
    have r_lamps_ := Rp.mono (x13.gg.trans mk46) r_lamps_
    exact sv_retL (K := K) (fv_sortSB (ev_var rfl r47)) hm xt.gh fun p51 vs52 G53 H54 x55 h56 o57 => q _ _ _ _ (xt.trans x55) (xt.hh.free h56) o57
  · rintro r' v' G' H' rfl rl
    cases hm
    obtain ⟨p', vs', rfl, x', h', o'⟩ := rl
    exact q p' vs' G' H' x' h' o'
theorem ok_law_cell {f : Addr} {fd : FuncData} (F : Fun K "_law_cell" "_law_cell" s_law_cell f fd) (T : Txt mg) : FnOk P w K mg base CX0 1 f fd ["_law_script", "_law_k"] (spM K mm_law_cell) := by
  refine F.ok sc_law_cell (fun vs H Q E h => (spM_len h).trans rfl) (fun cdv A outer s H0 vs Q E hr h => ?_)
  obtain ⟨G0, ⟨script_, ⟨k_, ⟨⟩⟩⟩, res, sg0, ⟨v_script_, _, rfl, r_script_, ⟨v_k_, _, rfl, r_k_, rfl⟩⟩, hm, q⟩ := h
  replace r_script_ : Rp.rel K G0 v_script_ script_ := r_script_
  replace r_k_ : Rp.rel K G0 v_k_ k_ := r_k_
  replace hm : m_law_cell script_ k_ = some res := hm
  unfold m_law_cell at hm
  have xt : Ext G0 H0 G0 H0 := Ext.refl sg0
  refine ⟨_, (pss_cons (ps_if (pt_cmpR op_ltU (pv 1) (pe_callB (call_lenK (K := K) rfl) (by rfl) T.len_ bt_len (pa_cons (pv 0) pa_nil)) (nomark _)) (pss_cons (ps_ret (pe_ix (ix_anyK (K := K) rfl) (pv 0) (pv 1) (fun _ _ => rfl)))
      pss_nil) pss_nil)
      (pss_cons (ps_ret pe_int)
      pss_nil)), ?_⟩
  refine bE hm fun b1 h2 hm => ?_
  refine sv_if (tv_test (K := K) (ev_ord (ev_var rfl r_k_) (ev_lenX (ev_var rfl r_script_)))) h2 xt.gh fun G3 H4 x5 => ?_
  have xt := xt.trans x5
  have r_script_ := Rp.mono x5.gg r_script_
  have r_k_ := Rp.mono x5.gg r_k_
  cases b1 with
  | true =>
    replace hm := cT hm
    refine iteT ?_
    exact sv_ret (K := K) (ev_atX (ev_var rfl r_script_) (ev_var rfl r_k_)) hm xt.gh fun v8 G9 H10 x11 r12 => q v8 G9 H10 (xt.trans x11) r12
  | false =>
    replace hm := cF hm
    refine iteF ?_
    exact sv_ret (K := K) (rest := tNext) (σ := [some v_script_, some v_k_]) ev_i hm xt.gh fun v13 G14 H15 x16 r17 => q v13 G14 H15 (xt.trans x16) r17
theorem ok_law_holds {f : Addr} {fd : FuncData} (F : Fun K "_law_holds" "_law_holds" s_law_holds f fd) (T : Txt mg) : FnOk P w K mg base CX0 1 f fd ["_law_found", "_law_lamps_here"] (spM K mm_law_holds) := by
  refine F.ok sc_law_holds (fun vs H Q E h => (spM_len h).trans rfl) (fun cdv A outer s H0 vs Q E hr h => ?_)
  obtain ⟨G0, ⟨found_, ⟨lamps_here_, ⟨⟩⟩⟩, res, sg0, ⟨v_found_, _, rfl, r_found_, ⟨v_lamps_here_, _, rfl, r_lamps_here_, rfl⟩⟩, hm, q⟩ := h
  replace r_found_ : Rp.rel K G0 v_found_ found_ := r_found_
  replace r_lamps_here_ : Rp.rel K G0 v_lamps_here_ lamps_here_ := r_lamps_here_
  replace hm : m_law_holds found_ lamps_here_ = some res := hm
  unfold m_law_holds at hm
  have xt : Ext G0 H0 G0 H0 := Ext.refl sg0
  refine ⟨_, (pss_cons (ps_if (pt_not (pt_truthK (K := K) rfl (pe_callB (call_instK (K := K) rfl) (by rfl) T.isinstance_ bt_isinstance (pa_cons (pv 0) (pa_cons (pe_bltn (v := .ty "list") rfl T.list_ bt_list rfl) pa_nil))) (fun _ => rfl))) (pss_cons (ps_ret pe_bl)
      pss_nil) pss_nil)
      (pss_cons (ps_set (i := 2) sc_law_holds.nd rfl (Or.inl rfl) pe_int)
      (pss_cons (ps_for PassesOwn.never rfl (pi_anyK (K := K) rfl (pv 1)) (pg_name (i := 3) sc_law_holds.nd rfl (Or.inl rfl)) (pss_cons (ps_set (i := 2) sc_law_holds.nd rfl (Or.inl rfl) (pe_op (op_mulK (K := K) rfl) (pv 2) pe_int))
      pss_nil))
      (pss_cons (ps_if (pt_cmpR op_ne (pe_callB (call_lenK (K := K) rfl) (by rfl) T.len_ bt_len (pa_cons (pv 0) pa_nil)) (pv 2) (nomark _)) (pss_cons (ps_ret pe_bl)
      pss_nil) pss_nil)
      (pss_cons (ps_for PassesOwn.never rfl (pi_range1 rfl T.range_ (pa_cons (pv 2) pa_nil)) (pg_name (i := 4) sc_law_holds.nd rfl (Or.inl rfl)) (pss_cons (ps_set (i := 5) sc_law_holds.nd rfl (Or.inr rfl) (pe_ix (ix_anyK (K := K) rfl) (pv 0) (pv 4) (fun _ _ => rfl)))
      (pss_cons (ps_if (PW.pt (pw_or (pt_not (pt_truthK (K := K) rfl (pe_callB (call_instK (K := K) rfl) (by rfl) T.isinstance_ bt_isinstance (pa_cons (pv 5) (pa_cons (pe_bltn (v := .ty "str") rfl T.str_ bt_str rfl) pa_nil))) (fun _ => rfl))) (pw_or1 (pt_cmpR op_ne (pv 5) (pe_bmK (K := K) rfl PySem.F.plainAttrs_str PySem.F.slot_str_join PySem.F.type_str_join (mt_joinK (K := K) rfl) pe_str (pa_cons (pe_comp (cn := ["_law_one"]) (cap := [5]) rfl ⟨by decide +kernel, rfl, by decide +kernel, free_of rfl⟩ rfl (by decide +kernel) ⟨⟨rfl, .inl rfl, rfl⟩, trivial⟩ (pi_anyK (K := K) rfl (pv 1)) (fun C s0 H0 fp => ⟨(pts_one (pt_cmpR op_in_str (pv 0) (pv 1) rfl)), (pv 0)⟩)) pa_nil)) (nomark _))))) (pss_cons (ps_ret pe_bl)
      pss_nil) pss_nil)
      (pss_cons (ps_if (PW.pt (pw_and (pt_cmpR op_gtU (pv 4) pe_int (nomark _)) (pw_and1 (pt_not (pt_cmpR op_ltU (pe_ix (ix_anyK (K := K) rfl) (pv 0) (pe_op op_sub (pv 4) pe_int) (fun _ _ => rfl)) (pv 5) (nomark _)))))) (pss_cons (ps_ret pe_bl)
      pss_nil) pss_nil)
      pss_nil))))
      (pss_cons (ps_ret pe_bl)
      pss_nil)))))), ?_⟩
  refine bE hm fun b1 h2 hm => ?_
  refine sv_if (tv_not (tv_b (K := K) (ev_inst (b := true) (by decide +kernel) (ev_var rfl r_found_)))) h2 xt.gh fun G3 H4 x5 => ?_
  have xt := xt.trans x5
  have r_found_ := Rp.mono x5.gg r_found_
  have r_lamps_here_ := Rp.mono x5.gg r_lamps_here_
  cases b1 with
  | true =>
    replace hm := cT hm
    refine iteT ?_
    exact sv_ret (K := K) (rest := tNext) (σ := [some v_found_, some v_lamps_here_, none, none, none, none]) ev_b hm xt.gh fun v6 G7 H8 x9 r10 => q v6 G7 H8 (xt.trans x9) r10
  | false =>
    replace hm := cF hm
    refine iteF ?_
    refine bE hm fun many_ h16 hm => ?_
    refine sv_set (K := K) ev_i h16 xt.gh fun v11 G12 H13 x14 r15 => ?_
    have xt := xt.trans x14
    have r_found_ := Rp.mono x14.gg r_found_
    have r_lamps_here_ := Rp.mono x14.gg r_lamps_here_
    refine bE hm fun as17 h18 hm => ?_
    refine bE hm fun fl19 h20 hm => ?_
    refine sv_for (K := K) (RR := fun r v G' H' => Ext G0 H0 G' H' ∧ Rp.rel K G' v r) (iw_str (ev_var rfl r_lamps_here_)) h18 h20 xt.gh fun G21 H22 x23 => ⟨fun s24 S' G' H' => ∃ (v25 : V) (v26 : Option V), Ext G0 H0 G' H' ∧ Same G21 G' ∧ S' = [some v_found_, some v_lamps_here_, some v25, v26, none, none] ∧ Rp.rel K G' v25 (s24 : Int), ?_, ?_, ?_, ?_, ?_⟩
    · have xt := xt.trans x23
      have r_found_ := Rp.mono x23.gg r_found_
      have r_lamps_here_ := Rp.mono x23.gg r_lamps_here_
      have r15 := Rp.mono x23.gg r15
      exact ⟨v11, _, xt, (Same.refl _), rfl, r15⟩
    · rintro _ S' G' H' ⟨v25, v26, xt, mk27, rfl, r28⟩
      exact ⟨mk27, xt.gh⟩
    · rintro xv29 a30 s24 _ G33 H34 fl31 - ⟨v25, v26, xt, mk27, rfl, r28⟩ rx32 hm D' kN35 kC36 kB37 kR38
      have r_found_ := Rp.mono (x23.gg.trans mk27) r_found_
      have r_lamps_here_ := Rp.mono (x23.gg.trans mk27) r_lamps_here_
      refine sv_turn ?_
      refine bE hm fun many_ h44 hm => ?_
      refine sv_set (K := K) (ev_mulR (ev_var rfl r28)) h44 xt.gh fun v39 G40 H41 x42 r43 => ?_
      have xt := xt.trans x42
      have mk27 := mk27.trans x42.gg
      have r_found_ := Rp.mono x42.gg r_found_
      have r_lamps_here_ := Rp.mono x42.gg r_lamps_here_
      have r28 := Rp.mono x42.gg r28
      have rx32 := Rp.mono x42.gg rx32
      cases hm
      exact kN35 _ _ _ _ rfl ⟨v39, _, xt, mk27, rfl, r43⟩
    · rintro s24 _ G49 H50 rfl ⟨v45, v46, xt, mk47, rfl, r48⟩
      refine sv_nx ?_
      have r_found_ := Rp.mono (x23.gg.trans mk47) r_found_
      have r_lamps_here_ := Rp.mono (x23.gg.trans mk47) r_lamps_here_
      refine bE hm fun b51 h52 hm => ?_
      refine sv_if (tv_test (K := K) (ev_neI (ev_len (ev_var rfl r_found_)) (ev_var rfl r48))) h52 xt.gh fun G53 H54 x55 => ?_
      have xt := xt.trans x55
      have r_found_ := Rp.mono x55.gg r_found_
      have r_lamps_here_ := Rp.mono x55.gg r_lamps_here_
      have r48 := Rp.mono x55.gg r48
      cases b51 with
      | true =>
        replace hm := cT hm
        refine iteT ?_
        exact sv_ret (K := K) (rest := tNext) (σ := [some v_found_, some v_lamps_here_, some v45, v46, none, none]) ev_b hm xt.gh fun v56 G57 H58 x59 r60 => q v56 G57 H58 (xt.trans x59) r60
      | false =>
        replace hm := cF hm
        refine iteF ?_
        refine bE hm fun as62 h63 hm => ?_
        refine bE hm fun fl64 h65 hm => ?_
        refine sv_for (K := K) (RR := fun r v G' H' => Ext G0 H0 G' H' ∧ Rp.rel K G' v r) (iw_rng1 (ev_var rfl r48)) h63 h65 xt.gh fun G66 H67 x68 => ⟨fun s69 S' G' H' => ∃ (v70 : Option V) (v71 : Option V), Ext G0 H0 G' H' ∧ Same G66 G' ∧ S' = [some v_found_, some v_lamps_here_, some v45, v46, v70, v71], ?_, ?_, ?_, ?_, ?_⟩
        · have xt := xt.trans x68
          have r_found_ := Rp.mono x68.gg r_found_
          have r_lamps_here_ := Rp.mono x68.gg r_lamps_here_
          have r48 := Rp.mono x68.gg r48
          exact ⟨_, _, xt, (Same.refl _), rfl⟩
        · rintro _ S' G' H' ⟨v70, v71, xt, mk72, rfl⟩
          exact ⟨mk72, xt.gh⟩
        · rintro xv73 a74 s69 _ G77 H78 fl75 - ⟨v70, v71, xt, mk72, rfl⟩ rx76 hm D' kN79 kC80 kB81 kR82
          have r_found_ := Rp.mono (x68.gg.trans mk72) r_found_
          have r_lamps_here_ := Rp.mono (x68.gg.trans mk72) r_lamps_here_
          have r48 := Rp.mono (x68.gg.trans mk72) r48
          refine sv_turn ?_
          refine bE hm fun one_ h90 hm => ?_
          refine sv_set (K := K) (ev_at (ev_var rfl r_found_) (ev_var rfl rx76)) h90 xt.gh fun v85 G86 H87 x88 r89 => ?_
          have xt := xt.trans x88
          have mk72 := mk72.trans x88.gg
          have r_found_ := Rp.mono x88.gg r_found_
          have r_lamps_here_ := Rp.mono x88.gg r_lamps_here_
          have r48 := Rp.mono x88.gg r48
          have rx76 := Rp.mono x88.gg rx76
          refine bE hm fun b107 h108 hm => ?_
          refine sv_if (tv_or (tv_not (tv_b (K := K) (ev_inst (b := true) (by decide +kernel) (ev_var rfl r89)))) (tv_test (K := K) (ev_neS (ev_var rfl r89) (ev_join ev_s (FV.ev (fv_comp (cap := [5]) (fc := fun (letter_ : Str) => (some (inS letter_ one_))) (fe := fun (letter_ : Str) => (some letter_)) (iw_str (ev_var rfl r_lamps_here_)) fun xc101 letter_ Gc98 sc99 rc100 => ⟨(tv_test (K := K) (ev_inS (ev_var rfl rc100) (ev_var rfl (Rp.mono sc99 r89)))), (ev_var rfl rc100)⟩)))))) h108 xt.gh fun G109 H110 x111 => ?_
          have xt := xt.trans x111
          have mk72 := mk72.trans x111.gg
          have r_found_ := Rp.mono x111.gg r_found_
          have r_lamps_here_ := Rp.mono x111.gg r_lamps_here_
          have r48 := Rp.mono x111.gg r48
          have rx76 := Rp.mono x111.gg rx76
          have r89 := Rp.mono x111.gg r89
          cases b107 with
          | true =>
            replace hm := cT hm
            refine iteT ?_
            refine bE hm fun rr117 h118 hm => ?_
            cases hm
            exact sv_ret (K := K) (rest := tNext) (σ := [some v_found_, some v_lamps_here_, some v45, v46, some xv73, some v85]) ev_b h118 xt.gh fun v112 G113 H114 x115 r116 => kR82 _ v112 G113 H114 rfl ⟨xt.trans x115, r116⟩
          | false =>
            replace hm := cF hm
            refine iteF ?_
            refine bE hm fun b124 h125 hm => ?_
            refine sv_if (tv_and (tv_test (K := K) (ev_ord (ev_var rfl rx76) ev_i)) (tv_not (tv_test (K := K) (ev_ordS (ev_at (ev_var rfl r_found_) (ev_sub (ev_var rfl rx76) ev_i)) (ev_var rfl r89))))) h125 xt.gh fun G126 H127 x128 => ?_
            have xt := xt.trans x128
            have mk72 := mk72.trans x128.gg
            have r_found_ := Rp.mono x128.gg r_found_
            have r_lamps_here_ := Rp.mono x128.gg r_lamps_here_
            have r48 := Rp.mono x128.gg r48
            have rx76 := Rp.mono x128.gg rx76
            have r89 := Rp.mono x128.gg r89
            cases b124 with
            | true =>
              replace hm := cT hm
              refine iteT ?_
              refine bE hm fun rr134 h135 hm => ?_
              cases hm
              exact sv_ret (K := K) (rest := tNext) (σ := [some v_found_, some v_lamps_here_, some v45, v46, some xv73, some v85]) ev_b h135 xt.gh fun v129 G130 H131 x132 r133 => kR82 _ v129 G130 H131 rfl ⟨xt.trans x132, r133⟩
            | false =>
              replace hm := cF hm
              refine iteF ?_
              cases hm
              exact kN79 _ _ _ _ rfl ⟨_, _, xt, mk72, rfl⟩
        · rintro s69 _ G139 H140 rfl ⟨v136, v137, xt, mk138, rfl⟩
          refine sv_nx ?_
          have r_found_ := Rp.mono (x68.gg.trans mk138) r_found_
          have r_lamps_here_ := Rp.mono (x68.gg.trans mk138) r_lamps_here_
          have r48 := Rp.mono (x68.gg.trans mk138) r48
          exact sv_ret (K := K) (rest := tNext) (σ := [some v_found_, some v_lamps_here_, some v45, v46, v136, v137]) ev_b hm xt.gh fun v141 G142 H143 x144 r145 => q v141 G142 H143 (xt.trans x144) r145
        · rintro r' v' G' H' rfl rl
          cases hm
          exact q v' G' H' rl.1 rl.2
    · rintro r' v' G' H' rfl rl
      cases hm
      exact q v' G' H' rl.1 rl.2
theorem ok_law {f : Addr} {fd : FuncData} (F : Fun K "law" "law" s_law f fd) (T : Txt mg) (D_law_lamps : DefOk P w K mg base "_law_lamps" 2 ["_law_number", "_law_many"] (spM K mm_law_lamps)) (D_all_moments : DefOk P w K mg base "all_moments" 1 ["lamps"] (spL K mm_all_moments)) (D_law_cell : DefOk P w K mg base "_law_cell" 1 ["_law_script", "_law_k"] (spM K mm_law_cell)) (D_law_holds : DefOk P w K mg base "_law_holds" 1 ["_law_found", "_law_lamps_here"] (spM K mm_law_holds)) : FnOk P w K mg base CX0 3 f fd ["_law_script"] (spM K mm_law) := by
  refine F.ok sc_law (fun vs H Q E h => (spM_len h).trans rfl) (fun cdv A outer s H0 vs Q E hr h => ?_)
  obtain ⟨G0, ⟨script_, ⟨⟩⟩, res, sg0, ⟨v_script_, _, rfl, r_script_, rfl⟩, hm, q⟩ := h
  replace r_script_ : Rp.rel K G0 v_script_ script_ := r_script_
  replace hm : m_law script_ = some res := hm
  unfold m_law at hm
  have xt : Ext G0 H0 G0 H0 := Ext.refl sg0
  refine ⟨_, (pss_cons (ps_set (i := 1) sc_law.nd rfl (Or.inl rfl) (pe_def D_law_lamps hr (by decide) rfl (pa_cons (pe_def D_law_cell hr (by decide) rfl (pa_cons (pv 0) (pa_cons pe_int pa_nil))) (pa_cons (pe_op op_mod (pe_def D_law_cell hr (by decide) rfl (pa_cons (pv 0) (pa_cons pe_int pa_nil))) pe_int) pa_nil))))
      (pss_cons (ps_set (i := 2) sc_law.nd rfl (Or.inl rfl) (pe_def D_law_lamps hr (by decide) rfl (pa_cons (pe_def D_law_cell hr (by decide) rfl (pa_cons (pv 0) (pa_cons pe_int pa_nil))) (pa_cons (pe_op op_mod (pe_def D_law_cell hr (by decide) rfl (pa_cons (pv 0) (pa_cons pe_int pa_nil))) pe_int) pa_nil))))
      (pss_cons (ps_set (i := 3) sc_law.nd rfl (Or.inl rfl) (pe_def D_all_moments hr (by decide) rfl (pa_cons (pv 1) pa_nil)))
      (pss_cons (ps_if (pt_not (pt_truthK (K := K) rfl (pe_def D_law_holds hr (by decide) rfl (pa_cons (pv 3) (pa_cons (pv 1) pa_nil))) (fun _ => rfl))) (pss_cons (ps_ret pe_bl)
      pss_nil) pss_nil)
      (pss_cons (ps_set (i := 4) sc_law.nd rfl (Or.inl rfl) (pe_callTy (call_listK (K := K) rfl) (by rfl) T.list_ bt_list (pa_cons (pv 3) pa_nil)))
      (pss_cons (ps_set (i := 5) sc_law.nd rfl (Or.inl rfl) (pe_def D_all_moments hr (by decide) rfl (pa_cons (pv 2) pa_nil)))
      (pss_cons (ps_if (PW.pt (pw_or (pt_not (pt_truthK (K := K) rfl (pe_def D_law_holds hr (by decide) rfl (pa_cons (pv 5) (pa_cons (pv 2) pa_nil))) (fun _ => rfl))) (pw_or1 (pt_cmpR (op_neK (K := K) rfl (List Str) hr (by decide)) (pv 3) (pv 4) (nomark _))))) (pss_cons (ps_ret pe_bl)
      pss_nil) pss_nil)
      (pss_cons (ps_expr (pe_bmK (K := K) rfl PySem.F.plainAttrs_list PySem.F.slot_list_append PySem.F.type_list_append mt_append (pv 3) (pa_cons pe_str pa_nil)))
      (pss_cons (ps_expr (pe_bm0K (K := K) rfl PySem.F.plainAttrs_list PySem.F.slot_list_clear PySem.F.type_list_clear mt_clear (pv 5)))
      (pss_cons (ps_ret (pe_and (pe_cmpR (op_eqK (K := K) rfl (List Str) hr (by decide)) (pe_def D_all_moments hr (by decide) rfl (pa_cons (pv 1) pa_nil)) (pv 4) (nomark _)) (pe_one (pe_def D_law_holds hr (by decide) rfl (pa_cons (pe_def D_all_moments hr (by decide) rfl (pa_cons (pv 2) pa_nil)) (pa_cons (pv 2) pa_nil))))))
      pss_nil)))))))))), ?_⟩
  refine bE hm fun lamps_here_ h13 hm => ?_
  refine sv_set (K := K) (ev_def2 (m := mm_law_lamps) (ev_def2 (m := mm_law_cell) (ev_var rfl r_script_) ev_i) (ev_modR (ev_def2 (m := mm_law_cell) (ev_var rfl r_script_) ev_i))) h13 xt.gh fun v8 G9 H10 x11 r12 => ?_
  have xt := xt.trans x11
  have r_script_ := Rp.mono x11.gg r_script_
  refine bE hm fun others_ h26 hm => ?_
  refine sv_set (K := K) (ev_def2 (m := mm_law_lamps) (ev_def2 (m := mm_law_cell) (ev_var rfl r_script_) ev_i) (ev_modR (ev_def2 (m := mm_law_cell) (ev_var rfl r_script_) ev_i))) h26 xt.gh fun v21 G22 H23 x24 r25 => ?_
  have xt := xt.trans x24
  have r_script_ := Rp.mono x24.gg r_script_
  have r12 := Rp.mono x24.gg r12
  refine bE hm fun found_ h35 hm => ?_
  refine sv_own (K := K) (fv_def1 (m := mm_all_moments) (ev_var rfl r12)) h35 xt.gh fun p28 vs29 G30 H31 x32 hz33 o34 => ?_
  have hz33 := xt.hh.free hz33
  have xt := xt.trans x32
  have r_script_ := Rp.mono x32.gg r_script_
  have r12 := Rp.mono x32.gg r12
  have r25 := Rp.mono x32.gg r25
  refine bE hm fun b42 h43 hm => ?_
  refine sv_ifB o34 (tv_not (tv_b (K := K) (ev_def2 (m := mm_law_holds) (ev_var rfl o34.tell) (ev_var rfl (Rp.mono (Same.new o34.g) r12))))) h43 xt.gh fun G44 H45 x46 => ?_
  have xt := xt.trans x46
  have r_script_ := Rp.mono x46.gg r_script_
  have r12 := Rp.mono x46.gg r12
  have r25 := Rp.mono x46.gg r25
  have o34 := o34.ext x46
  cases b42 with
  | true =>
    replace hm := cT hm
    refine iteT ?_
    exact sv_ret (K := K) (rest := tNext) (σ := [some v_script_, some v8, some v21, some (V.ref p28), none, none]) ev_b hm xt.gh fun v47 G48 H49 x50 r51 => q v47 G48 H49 (xt.trans x50) r51
  | false =>
    replace hm := cF hm
    refine iteF ?_
    refine bE hm fun kept_ h57 hm => ?_
    refine sv_setFB (K := K) o34 (fv_list (ev_var rfl o34.tell)) h57 xt.gh fun v52 G53 H54 x55 r56 => ?_
    have xt := xt.trans x55
    have r_script_ := Rp.mono x55.gg r_script_
    have r12 := Rp.mono x55.gg r12
    have r25 := Rp.mono x55.gg r25
    have o34 := o34.ext x55
    refine bE hm fun beside_ h66 hm => ?_
    refine sv_own (K := K) (fv_def1 (m := mm_all_moments) (ev_var rfl r25)) h66 xt.gh fun p59 vs60 G61 H62 x63 hz64 o65 => ?_
    have ne_p28_p59 : p28 ≠ p59 := ne_of_none o34.h hz64
    have hz64 := xt.hh.free hz64
    have xt := xt.trans x63
    have r_script_ := Rp.mono x63.gg r_script_
    have r12 := Rp.mono x63.gg r12
    have r25 := Rp.mono x63.gg r25
    have o34 := o34.ext x63
    have r56 := Rp.mono x63.gg r56
    refine bE hm fun b75 h76 hm => ?_
    refine sv_ifBB o34 o65 (by first | assumption | exact Ne.symm (by assumption)) (tv_or (tv_not (tv_b (K := K) (ev_def2 (m := mm_law_holds) (ev_var rfl (o65.over (by first | assumption | exact Ne.symm (by assumption)) o34.g).tell) (ev_var rfl (Rp.mono (Same.new (o65.over (by first | assumption | exact Ne.symm (by assumption)) o34.g).g) (Rp.mono (Same.new o34.g) r25)))))) (tv_test (K := K) (ev_ne (ev_var rfl (Rp.mono (Same.new (o65.over (by first | assumption | exact Ne.symm (by assumption)) o34.g).g) o34.tell)) (ev_var rfl (Rp.mono (Same.new (o65.over (by first | assumption | exact Ne.symm (by assumption)) o34.g).g) (Rp.mono (Same.new o34.g) r56)))))) h76 xt.gh fun G77 H78 x79 => ?_
    have xt := xt.trans x79
    have r_script_ := Rp.mono x79.gg r_script_
    have r12 := Rp.mono x79.gg r12
    have r25 := Rp.mono x79.gg r25
    have o34 := o34.ext x79
    have r56 := Rp.mono x79.gg r56
    have o65 := o65.ext x79
    cases b75 with
    | true =>
      replace hm := cT hm
      refine iteT ?_
      exact sv_ret (K := K) (rest := tNext) (σ := [some v_script_, some v8, some v21, some (V.ref p28), some v52, some (V.ref p59)]) ev_b hm xt.gh fun v80 G81 H82 x83 r84 => q v80 G81 H82 (xt.trans x83) r84
    | false =>
      replace hm := cF hm
      refine iteF ?_
      refine bE hm fun a85 h86 hm => ?_
      refine bE hm fun z93 h87 hm => ?_
      refine sv_append (K := K) rfl o34 ev_s h86 h87 xt.gh fun G88 H89 w90 x91 o92 => ?_
      have xt : Ext G0 H0 G88 (upd H89 p28 (.lst (vs29 ++ [w90]))) := (xt.trans x91).put hz33 o92.g
      have r_script_ := Rp.mono x91.gg r_script_
      have r12 := Rp.mono x91.gg r12
      have r25 := Rp.mono x91.gg r25
      have r56 := Rp.mono x91.gg r56
      have o65 := (o65.ext x91).put (q := p28) (ho := .lst (vs29 ++ [w90])) (by first | assumption | exact Ne.symm (by assumption))
      refine sv_clear (K := K) rfl o65 fun o94 => ?_
      have xt : Ext G0 H0 G88 (upd (upd H89 p28 (.lst (vs29 ++ [w90]))) p59 (.lst [])) := xt.put hz64 o94.g
      have o92 := o92.put (q := p59) (ho := .lst []) (by first | assumption | exact Ne.symm (by assumption))
      exact sv_ret (K := K) (ev_and (ev_eq (FV.ev (fv_def1 (m := mm_all_moments) (ev_var rfl r12))) (ev_var rfl r56)) (ev_def2 (m := mm_law_holds) (FV.ev (fv_def1 (m := mm_all_moments) (ev_var rfl r25))) (ev_var rfl r25))) hm xt.gh fun v101 G102 H103 x104 r105 => q v101 G102 H103 (xt.trans x104) r105
end
end My
set_option Elab.async false
set_option linter.all false
set_option maxRecDepth 100000
set_option maxHeartbeats 4000000
namespace My
open PySem PySem.Spec PyProof.Rows L2
noncomputable def abcN : List Nat := List.range' 97 26
noncomputable def one (c : Nat) : Str := ⟨#[c]⟩
theorem one_len (c : Nat) : (one c).length = 1 := rfl
theorem abc_cps : ("abcdefghijklmnopqrstuvwxyz" : Str).cps.toList = abcN := by decide +kernel
theorem signs_one (x : Str) : signsO x = x.cps.toList.map one := rfl
theorem abc_pw : abcN.Pairwise (· < ·) := List.pairwise_lt_range'
noncomputable def Mom (x : Str) : Prop := x.cps.toList.Sublist abcN
theorem inS_one (c : Nat) (x : Str) : inS (one c) x = decide (c ∈ x.cps.toList) := by
  unfold inS one
  exact StrLaws.found_one x c
theorem Mom.pw {x : Str} (h : Mom x) : x.cps.toList.Pairwise (· < ·) := abc_pw.sublist h
theorem Mom.len {x : Str} (h : Mom x) : x.length ≤ 26 := by
  have := List.Sublist.length_le h
  exact this
theorem pw_eq {a b : List Nat} (ha : a.Pairwise (· < ·)) (hb : b.Pairwise (· < ·)) (h : ∀ x, x ∈ a ↔ x ∈ b) : a = b :=
  List.Perm.eq_of_pairwise (le := (· < ·)) (fun x y _ _ h1 h2 => absurd h1 (Nat.lt_asymm h2)) ha hb ((List.perm_ext_iff_of_nodup (ha.imp fun h => Nat.ne_of_lt h) (hb.imp fun h => Nat.ne_of_lt h)).mpr h)
theorem join_mom (cs : List Nat) (h : cs.length ≤ 1000) : joinO "" (cs.map one) = some (Txt.join "" (cs.map one)) := by
  refine if_pos ?_
  have e : ("" : Str).length = 0 := by decide
  have : ((cs.map one).map (·.length)).sum = cs.length := sum_ones cs
  rw [e, Nat.mul_zero, this]
  omega
theorem join_of (cs : List Nat) : (Txt.join "" (cs.map one)).cps.toList = cs := join_ones' cs
theorem filter_one (cs : List Nat) (p : Str → Bool) : (cs.map one).filter p = (cs.filter fun c => p (one c)).map one := by rw [List.filter_map]; rfl
theorem letters_eq : m_law_letters = some ("abcdefghijklmnopqrstuvwxyz" : Str) := rfl
theorem cell_ok (s : Scr) (k : Int) (hk : 0 ≤ k) {P : Int → Prop} (hp : ∀ n, P n) : OK (m_law_cell s k) P := by
  unfold m_law_cell
  simp only [Option.bind_assoc, bindS, bind_self]
  exact ok_cond (fun h => ok_at hk (of_decide_eq_true h) fun x _ => hp x) fun _ => ok_some (hp 0)
theorem lamps_ok (n m : Int) (hm : m ≤ 8) {P : Str → Prop} (hp : ∀ x : Str, Mom x → x.length ≤ 8 → P x) : OK (m_law_lamps n m) P := by
  have hs : sizeLine = 16777216 := sizeLine_eq
  unfold m_law_lamps
  rw [letters_eq]
  simp only [Option.bind_assoc, bindS, bind_self]
  refine ok_bind (ok_rng (n := 26) (by decide) (by decide) (by omega) (ok_bind (ok_for' (fun i s => s.1.length ≤ 8 ∧ s.1.cps.toList.Sublist (abcN.take i)) ⟨Nat.zero_le _, List.nil_sublist _⟩ (fun i a s ha hI => ?_) fun s hI => ok_some (hp _ (hI.2.trans (List.take_sublist _ _)) hI.1))))
  rw [List.getElem?_map] at ha
  obtain ⟨j, hj, rfl⟩ := Option.map_eq_some_iff.mp ha
  have hi : i < 26 := by
    have := (List.getElem?_eq_some_iff.mp hj).1
    rwa [List.length_range] at this
  have hj : j = i := by
    rw [List.getElem?_range hi] at hj
    exact (Option.some.inj hj).symm
  subst hj
  rw [Int.zero_add]
  have hc : ∃ c, abcN[j]? = some c := ⟨_, List.getElem?_eq_getElem (by exact hi)⟩
  obtain ⟨c, hc⟩ := hc
  have ht : abcN.take (j + 1) = abcN.take j ++ [c] := by rw [List.take_add_one, hc]; rfl
  refine ok_by (P := fun x : Str => x.length ≤ 8 ∧ x.cps.toList.Sublist (abcN.take (j + 1))) (ok_cond (fun hb => ?_) fun _ => ok_some ⟨hI.1, ?_⟩) fun x hx => ok_some ⟨_, rfl, hx⟩
  · rw [Bool.and_eq_true, decide_eq_true_eq] at hb
    have hb := hb.1
    rw [abc_cps]
    refine ok_bind (ok_atN (by exact hi) fun z hz => ?_)
    rw [hc] at hz
    cases hz
    refine ok_catS (by show s.1.length + (one c).length ≤ _; rw [one_len]; omega) ⟨?_, ?_⟩
    · show (s.1 ++ one c).length ≤ 8
      rw [len_app, one_len]
      omega
    · show (s.1 ++ one c).cps.toList.Sublist _
      rw [cps_app, ht]
      exact hI.2.append_right [c]
  · rw [ht]
    exact hI.2.trans (List.sublist_append_left _ _)
noncomputable def tx (l : List Nat) : Str := ⟨l.toArray⟩
theorem tx_cps (l : List Nat) : (tx l).cps.toList = l := rfl
theorem tx_inj {a b : List Nat} (h : tx a = tx b) : a = b := by
  have := congrArg (fun x : Str => x.cps.toList) h
  exact this
theorem tx_app (l : List Nat) (c : Nat) : tx l ++ one c = tx (l ++ [c]) := by
  apply str_ext
  rw [cps_app, tx_cps, tx_cps]
  rfl
structure Told (x : Str) (R : List Str) : Prop where
  l : R.length = 2 ^ x.length
  s : ∀ y ∈ R, y.cps.toList.Sublist x.cps.toList
  p : R.Pairwise fun a b => a.cps.toList < b.cps.toList
theorem all_ok (x : Str) (hx : Mom x) (h8 : x.length ≤ 8) : OK (m_all_moments x) (Told x) := by
  have hs : sizeLine = 16777216 := sizeLine_eq
  have pos : ∀ i, i ≤ 8 → 2 ^ i ≤ 256 := fun i hi => Nat.le_trans (Nat.pow_le_pow_right (by decide) hi) (by decide)
  have hl : x.cps.toList.length = x.length := rfl
  unfold m_all_moments
  simp only [Option.bind_assoc, bindS, bind_self]
  rw [signs_one]
  refine ok_bind (ok_for' (fun i (s : List Str) => ∃ fs : List (List Nat), s = fs.map tx ∧ fs.length = 2 ^ i ∧ (∀ y ∈ fs, y.Sublist (x.cps.toList.take i)) ∧ fs.Nodup) ⟨[[]], rfl, rfl, fun y hy => by rw [List.mem_singleton.mp hy]; exact List.nil_sublist _, by simp⟩ (fun i a s ha hI => ?_) fun s hI => ?_)
  · obtain ⟨fs, rfl, f1, f2, f3⟩ := hI
    rw [List.getElem?_map] at ha
    obtain ⟨c, hc, rfl⟩ := Option.map_eq_some_iff.mp ha
    have hi : i < x.length := (List.getElem?_eq_some_iff.mp hc).1
    have hp := pos i (by omega)
    have ht : x.cps.toList.take (i + 1) = x.cps.toList.take i ++ [c] := by rw [List.take_add_one, hc]; rfl
    have nc : c ∉ x.cps.toList.take i := fun hm => by
      have h2 : (x.cps.toList.take (i + 1)).Pairwise (· < ·) := hx.pw.sublist (List.take_sublist _ _)
      rw [ht] at h2
      exact Nat.lt_irrefl _ ((List.pairwise_append.mp h2).2.2 c hm c List.mem_cons_self)
    refine ok_bind (ok_map (g := fun m => m ++ one c) (fun m hm => ?_) (ok_bind (ok_catL (by rw [List.length_map, List.length_map, List.length_map]; omega) (ok_some ⟨_, rfl, fs ++ fs.map (· ++ [c]), ?_, ?_, ?_, ?_⟩))))
    · obtain ⟨f, hf, rfl⟩ := List.mem_map.mp hm
      refine if_pos ?_
      have := (f2 f hf).length_le
      rw [List.length_take] at this
      show f.length + 1 ≤ _
      omega
    · rw [List.map_append, List.map_map, List.map_map]
      congr 1
      exact List.map_congr_left fun f _ => tx_app f c
    · rw [List.length_append, List.length_map, f1, Nat.pow_succ]
      omega
    · intro y hy
      rw [ht]
      rcases List.mem_append.mp hy with hy | hy
      · exact (f2 y hy).trans (List.sublist_append_left _ _)
      · obtain ⟨z, hz, rfl⟩ := List.mem_map.mp hy
        exact (f2 z hz).append_right [c]
    · rw [List.nodup_append]
      refine ⟨f3, ?_, fun y hy z hz => ?_⟩
      · rw [List.nodup_iff_pairwise_ne] at f3 ⊢
        exact List.Pairwise.map _ (fun a b q e => q (List.append_cancel_right e)) f3
      · rintro rfl
        obtain ⟨z, hz, rfl⟩ := List.mem_map.mp hz
        exact nc ((f2 _ hy).subset (List.mem_append_right _ List.mem_cons_self))
  · obtain ⟨fs, rfl, f1, f2, f3⟩ := hI
    rw [List.length_map, hl] at f1 f2
    have hp := pos x.length h8
    refine ⟨_, if_pos (by rw [List.length_map]; omega), by rw [(sortS_perm _).length_eq, List.length_map]; exact f1, fun y hy => ?_, ?_⟩
    · obtain ⟨z, hz, rfl⟩ := List.mem_map.mp ((sortS_perm _).mem_iff.mp hy)
      exact (f2 z hz).trans (List.take_sublist _ _)
    · have nd : (sortS (fs.map tx)).Pairwise (· ≠ ·) := by
        rw [← List.nodup_iff_pairwise_ne, (sortS_perm _).nodup_iff, List.nodup_iff_pairwise_ne]
        rw [List.nodup_iff_pairwise_ne] at f3
        exact List.Pairwise.map _ (fun a b q e => q (tx_inj e)) f3
      have pw : (sortS (fs.map tx)).Pairwise fun a b => leS a b = true := List.pairwise_mergeSort leS_trans leS_total _
      refine List.Pairwise.imp ?_ (pw.and nd)
      rintro a b ⟨h1, h2⟩
      have h1 := leS_iff.mp h1
      refine Decidable.byContradiction fun q => h2 ?_
      exact leS_anti (leS_iff.mpr h1) (leS_iff.mpr (List.not_lt.mp q))
theorem holds_ok (x : Str) (R : List Str) (hx : Mom x) (h8 : x.length ≤ 8) (T : Told x R) : m_law_holds R x = some true := by
  have hs : sizeLine = 16777216 := sizeLine_eq
  have hl : x.cps.toList.length = x.length := rfl
  have hp : 2 ^ x.length ≤ 256 := Nat.le_trans (Nat.pow_le_pow_right (by decide) h8) (by decide)
  refine OK.eq ?_
  unfold m_law_holds
  simp only [Option.bind_assoc, bindS, bind_self]
  refine ok_cond (fun h => by cases h) fun _ => ?_
  refine ok_bind (ok_for' (fun i (s : Int) => s = ((2 ^ i : Nat) : Int)) rfl (fun i a s ha hI => ok_some ⟨_, rfl, ?_⟩) fun s hI => ?_)
  · rw [hI, Nat.pow_succ]
    rfl
  rw [signs_one, List.length_map, hl] at hI
  subst hI
  dsimp only
  refine ok_cond (fun h => ?_) fun _ => ?_
  · rw [T.l, decide_eq_true rfl] at h
    cases h
  refine ok_bind (ok_rng (n := 2 ^ x.length) (by omega) (by decide) (by omega) (ok_bind (ok_for' (fun _ _ => True) trivial (fun i a s ha _ => ?_) fun _ _ => ok_some rfl)))
  rw [List.getElem?_map] at ha
  obtain ⟨j, hj, rfl⟩ := Option.map_eq_some_iff.mp ha
  have hi : i < 2 ^ x.length := by
    have := (List.getElem?_eq_some_iff.mp hj).1
    rwa [List.length_range] at this
  have hj : j = i := by
    rw [List.getElem?_range hi] at hj
    exact (Option.some.inj hj).symm
  subst hj
  rw [Int.zero_add]
  refine ok_bind (ok_atN (by rw [T.l]; exact hi) fun y hy => ?_)
  have ys := T.s y (List.mem_of_getElem? hy)
  have yl : y.cps.toList.length ≤ 8 := Nat.le_trans ys.length_le h8
  have e : (x.cps.toList.filter fun c => inS (one c) y) = y.cps.toList := by
    refine pw_eq (hx.pw.sublist List.filter_sublist) (hx.pw.sublist ys) fun c => ?_
    rw [List.mem_filter, inS_one, decide_eq_true_eq]
    exact ⟨fun h => h.2, fun h => ⟨ys.subset h, h⟩⟩
  refine ok_by (P := fun b : Bool => b = false) (ok_cond (fun h => by cases h) fun _ => ?_) fun b hb => ?_
  · rw [signs_one]
    refine ok_bind (ok_comp (c := fun a => inS a y) (g := id) (fun _ _ => rfl) (fun _ _ _ => rfl) ?_)
    rw [List.map_id, filter_one, e]
    refine ok_bC _ (join_mom _ (by omega)) (ok_some ?_)
    have e2 : Txt.join "" (y.cps.toList.map one) = y := str_ext (join_of _)
    rw [e2, decide_eq_true rfl]
    rfl
  subst hb
  refine ok_by (P := fun b : Bool => b = false) (ok_cond (fun h => ?_) fun _ => ok_some rfl) fun b hb => by subst hb; exact ok_some ⟨_, rfl, trivial⟩
  have h0 : 0 < j := by
    rw [decide_eq_true_eq] at h
    omega
  refine ok_bind (ok_at (by omega) (by rw [T.l]; omega) fun z hz => ok_some ?_)
  rw [show ((j : Int) - 1).toNat = j - 1 from by omega] at hz
  have lt : z.cps.toList < y.cps.toList := by
    obtain ⟨q1, q2⟩ := List.getElem?_eq_some_iff.mp hz
    obtain ⟨q3, q4⟩ := List.getElem?_eq_some_iff.mp hy
    have := List.pairwise_iff_getElem.mp T.p (j - 1) j q1 q3 (by omega)
    rwa [q2, q4] at this
  rw [decide_eq_true lt]
  rfl
theorem law_true (ns : List Int) (hl : ns.length ≤ 63) : m_law ⟨ns⟩ = some true := by
  have hs : sizeLine = 16777216 := sizeLine_eq
  refine OK.eq ?_
  unfold m_law
  simp only [Option.bind_assoc, bindS, bind_self]
  refine ok_bind (cell_ok _ 1 (by decide) fun n1 => ok_bind (cell_ok _ 0 (by decide) fun n0 => ok_bind (lamps_ok _ _ (by omega) fun x hx x8 => ok_bind (cell_ok _ 2 (by decide) fun n2 => ok_bind (cell_ok _ 3 (by decide) fun n3 => ok_bind (lamps_ok _ _ (by omega) fun z hz z8 => ?_))))))
  obtain ⟨R, eR, tR⟩ := all_ok x hx x8
  obtain ⟨S, eS, tS⟩ := all_ok z hz z8
  have hp : 2 ^ x.length ≤ 256 := Nat.le_trans (Nat.pow_le_pow_right (by decide) x8) (by decide)
  rw [eR, eS]
  simp only [bindS, holds_ok x R hx x8 tR, holds_ok z S hz z8 tS]
  refine ok_cond (fun h => by cases h) fun _ => ?_
  refine ok_by (P := fun b : Bool => b = false) (ok_cond (fun h => by cases h) fun _ => ok_some (by simp)) fun b hb => ?_
  subst hb
  refine ok_cond (fun h => by cases h) fun _ => ?_
  refine ok_bind (ok_push (by rw [tR.l]; omega) ?_)
  refine ok_cond (fun _ => ok_some rfl) fun h => ?_
  simp at h
end My
set_option Elab.async false
set_option linter.all false
set_option maxRecDepth 100000
set_option maxHeartbeats 4000000
namespace My
open PySem PySem.Spec PyProof.Rows L2
theorem law_imp {K : PySem.W.Frag} {vs : List V} {H : Hp} {Q : VK} {E : XK} (h : sp_law K vs H Q E) : spM K mm_law vs H Q E := by
  obtain ⟨a, ns, rfl, hS, hl, q⟩ := h
  exact ⟨H, (⟨ns⟩, ()), true, Same.refl H, ⟨.ref a, [], rfl, ⟨a, rfl, hS⟩, rfl⟩, law_true ns hl, fun v G2 H2 x r => by cases r; exact q H2⟩
theorem _root_.L2.Fun.bn0 {K : PySem.W.Frag} {x qual : Str} {st : Stmt} {f : Addr} {fd : FuncData} (F : Fun K x qual st f fd) (h : ∀ (kV doc pm : Value) (an : Option Addr) (cdv ct : Value) , bindArgs (PySem.W.fnOf x qual (defArgs st) (defBody st) (defScope st) .none kV doc pm an cdv ct) ⟨[], []⟩ = pure (List.zip [] [])) : Binds K fd [] [] := F.binds fun kV doc pm an cdv ct us hl => match us, hl with | [], _ => h kV doc pm an cdv ct 
theorem _root_.L2.Fun.bn1 {K : PySem.W.Frag} {x qual : Str} {st : Stmt} {f : Addr} {fd : FuncData} {p0 : Str} (F : Fun K x qual st f fd) (h : ∀ (kV doc pm : Value) (an : Option Addr) (cdv ct : Value) (a0 : Value), bindArgs (PySem.W.fnOf x qual (defArgs st) (defBody st) (defScope st) .none kV doc pm an cdv ct) ⟨[a0], []⟩ = pure (List.zip [p0] [a0])) : Binds K fd [p0] [] := F.binds fun kV doc pm an cdv ct us hl => match us, hl with | [a0], _ => h kV doc pm an cdv ct a0
theorem _root_.L2.Fun.bn2 {K : PySem.W.Frag} {x qual : Str} {st : Stmt} {f : Addr} {fd : FuncData} {p0 p1 : Str} (F : Fun K x qual st f fd) (h : ∀ (kV doc pm : Value) (an : Option Addr) (cdv ct : Value) (a0 a1 : Value), bindArgs (PySem.W.fnOf x qual (defArgs st) (defBody st) (defScope st) .none kV doc pm an cdv ct) ⟨[a0, a1], []⟩ = pure (List.zip [p0, p1] [a0, a1])) : Binds K fd [p0, p1] [] := F.binds fun kV doc pm an cdv ct us hl => match us, hl with | [a0, a1], _ => h kV doc pm an cdv ct a0 a1
set_option maxHeartbeats 1000000 in
theorem all_mk {l : PySem.W.OpenLaw} {w : World} {K : PySem.W.Frag} {h : Heap} {mg : Str → Option Value} {fa : Addr} (X : K.In h) (G : h.Ns mainGlobals mg) (hfa : mg "law" = some (.ref fa))
    {f0 f1 f2 f3 f4 f5 : Addr} {od0 an0 od1 an1 od2 an2 od3 an3 od4 an4 od5 an5 : Option Addr} {sl0 sl1 sl2 sl3 sl4 sl5 : Array (Option Value)} {oc0 kV0 dc0 pm0 cd0 ct0 oc1 kV1 dc1 pm1 cd1 ct1 oc2 kV2 dc2 pm2 cd2 ct2 oc3 kV3 dc3 pm3 cd3 ct3 oc4 kV4 dc4 pm4 cd4 ct4 oc5 kV5 dc5 pm5 cd5 ct5 : Value}
    (a0 : PySem.W.nsIn K mainGlobals "all_moments" = some (some (.ref f0))) (l0 : K.lookup f0 = some ⟨oc0, od0, .func (PySem.W.fnOf "all_moments" "all_moments" (defArgs s_all_moments) (defBody s_all_moments) (defScope s_all_moments) .none kV0 dc0 pm0 an0 cd0 ct0), sl0⟩) (c0 : PySem.W.codeIn K cd0 "all_moments" = true) (k0 : PySem.W.keepIn K (.ref f0) = true)
    (a1 : PySem.W.nsIn K mainGlobals "_law_cell" = some (some (.ref f1))) (l1 : K.lookup f1 = some ⟨oc1, od1, .func (PySem.W.fnOf "_law_cell" "_law_cell" (defArgs s_law_cell) (defBody s_law_cell) (defScope s_law_cell) .none kV1 dc1 pm1 an1 cd1 ct1), sl1⟩) (c1 : PySem.W.codeIn K cd1 "_law_cell" = true) (k1 : PySem.W.keepIn K (.ref f1) = true)
    (a2 : PySem.W.nsIn K mainGlobals "_law_letters" = some (some (.ref f2))) (l2 : K.lookup f2 = some ⟨oc2, od2, .func (PySem.W.fnOf "_law_letters" "_law_letters" (defArgs s_law_letters) (defBody s_law_letters) (defScope s_law_letters) .none kV2 dc2 pm2 an2 cd2 ct2), sl2⟩) (c2 : PySem.W.codeIn K cd2 "_law_letters" = true) (k2 : PySem.W.keepIn K (.ref f2) = true)
    (a3 : PySem.W.nsIn K mainGlobals "_law_lamps" = some (some (.ref f3))) (l3 : K.lookup f3 = some ⟨oc3, od3, .func (PySem.W.fnOf "_law_lamps" "_law_lamps" (defArgs s_law_lamps) (defBody s_law_lamps) (defScope s_law_lamps) .none kV3 dc3 pm3 an3 cd3 ct3), sl3⟩) (c3 : PySem.W.codeIn K cd3 "_law_lamps" = true) (k3 : PySem.W.keepIn K (.ref f3) = true)
    (a4 : PySem.W.nsIn K mainGlobals "_law_holds" = some (some (.ref f4))) (l4 : K.lookup f4 = some ⟨oc4, od4, .func (PySem.W.fnOf "_law_holds" "_law_holds" (defArgs s_law_holds) (defBody s_law_holds) (defScope s_law_holds) .none kV4 dc4 pm4 an4 cd4 ct4), sl4⟩) (c4 : PySem.W.codeIn K cd4 "_law_holds" = true) (k4 : PySem.W.keepIn K (.ref f4) = true)
    (a5 : PySem.W.nsIn K mainGlobals "law" = some (some (.ref f5))) (l5 : K.lookup f5 = some ⟨oc5, od5, .func (PySem.W.fnOf "law" "law" (defArgs s_law) (defBody s_law) (defScope s_law) .none kV5 dc5 pm5 an5 cd5 ct5), sl5⟩) (c5 : PySem.W.codeIn K cd5 "law" = true) (k5 : PySem.W.keepIn K (.ref f5) = true)
    (z0 : PySem.W.nsIn K mainGlobals "isinstance" = some none)
    (z1 : PySem.W.nsIn K mainGlobals "len" = some none)
    (z2 : PySem.W.nsIn K mainGlobals "list" = some none)
    (z3 : PySem.W.nsIn K mainGlobals "range" = some none)
    (z4 : PySem.W.nsIn K mainGlobals "sorted" = some none)
    (z5 : PySem.W.nsIn K mainGlobals "str" = some none) :
    ∃ fd : FuncData, (∀ (s : Shared) (v : Value), BindsTo s fd ⟨[v], []⟩ [("_law_script", v)]) ∧ ∀ base : Heap, K.In base → base.Ns mainGlobals mg → FnOk l.prog w K mg base CX0 3 fa fd ["_law_script"] (sp_law K) := by
  have e := hfa.symm.trans (PySem.W.mg_of X G a5)
  cases e
  have T : Txt mg := ⟨PySem.W.mg_none_of X G z0, PySem.W.mg_none_of X G z1, PySem.W.mg_none_of X G z2, PySem.W.mg_none_of X G z3, PySem.W.mg_none_of X G z4, PySem.W.mg_none_of X G z5⟩
  have F0 := fun_mk (st := s_all_moments) l0 c0 k0
  have b0 := F0.bn1 (p0 := "lamps") fun _ _ _ _ _ _ _ => rfl
  have F1 := fun_mk (st := s_law_cell) l1 c1 k1
  have b1 := F1.bn2 (p0 := "_law_script") (p1 := "_law_k") fun _ _ _ _ _ _ _ _ => rfl
  have F2 := fun_mk (st := s_law_letters) l2 c2 k2
  have b2 := F2.bn0 fun _ _ _ _ _ _ => rfl
  have F3 := fun_mk (st := s_law_lamps) l3 c3 k3
  have b3 := F3.bn2 (p0 := "_law_number") (p1 := "_law_many") fun _ _ _ _ _ _ _ _ => rfl
  have F4 := fun_mk (st := s_law_holds) l4 c4 k4
  have b4 := F4.bn2 (p0 := "_law_found") (p1 := "_law_lamps_here") fun _ _ _ _ _ _ _ _ => rfl
  have F5 := fun_mk (st := s_law) l5 c5 k5
  refine ⟨PySem.W.fnOf "law" "law" (defArgs s_law) (defBody s_law) (defScope s_law) .none kV5 dc5 pm5 an5 cd5 ct5, fun s v => .of_eq rfl, fun base _ _ => ?_⟩
  have D_law_letters : DefOk l.prog w K mg base "_law_letters" 1 [] (spM K mm_law_letters) := def_of F2 (PySem.W.mg_of X G a2) b2 (ok_law_letters F2 T)
  have D_law_lamps : DefOk l.prog w K mg base "_law_lamps" 2 ["_law_number", "_law_many"] (spM K mm_law_lamps) := def_of F3 (PySem.W.mg_of X G a3) b3 (ok_law_lamps F3 T D_law_letters)
  have D_all_moments : DefOk l.prog w K mg base "all_moments" 1 ["lamps"] (spL K mm_all_moments) := def_of F0 (PySem.W.mg_of X G a0) b0 (ok_all_moments F0 T)
  have D_law_cell : DefOk l.prog w K mg base "_law_cell" 1 ["_law_script", "_law_k"] (spM K mm_law_cell) := def_of F1 (PySem.W.mg_of X G a1) b1 (ok_law_cell F1 T)
  have D_law_holds : DefOk l.prog w K mg base "_law_holds" 1 ["_law_found", "_law_lamps_here"] (spM K mm_law_holds) := def_of F4 (PySem.W.mg_of X G a4) b4 (ok_law_holds F4 T)
  exact (ok_law F5 T D_law_lamps D_all_moments D_law_cell D_law_holds).imp fun _ _ _ _ h => law_imp h
theorem walk {l : PySem.W.OpenLaw} {q : Program} {loose : List Str} {XP : (Str → Option Value) → Heap → Prop} {YP : World → Heap → Prop} {d : DefRec} {K : Params → PySem.W.Frag} (hn : l.most = some 63) (hdf : d.params.defaults = [])
    (hY : ∀ (w : World) (h : Heap), YP w h → (K w.params).In h)
    (F : ∀ (w : World) (mg : Str → Option Value) (fa : Addr) (h : Heap), (K w.params).In h → h.Ns mainGlobals mg → mg d.name = some (.ref fa) →
      ∃ fd : FuncData, (∀ (s : Shared) (u : Value), BindsTo s fd ⟨[u], []⟩ [("_law_script", u)]) ∧ ∀ base : Heap, (K w.params).In base → base.Ns mainGlobals mg → FnOk l.prog w (K w.params) mg base CX0 3 fa fd ["_law_script"] (sp_law (K w.params))) :
    PySem.W.WalkO q loose XP YP l.row.toRowW d [] (fun f vs => PySem.call f vs) :=
  L2.walk_of (n := 63) (k := 3) (x := "_law_script") (CX := fun _ => CX0) (sp := fun w => sp_law (K w.params)) hn (by decide) hdf ⟨rfl, by decide, by decide⟩ hY F (fun _ _ a ns hl _ hS => ⟨a, ns, rfl, hS, hl, fun _ => rfl⟩) fun _ _ _ _ _ z => z
end My
open PySem PySem.W PyProof.Rows
theorem PySem.W.Fast.te13125356920505496941 : True := trivial
set_option maxRecDepth 100000 in
set_option maxHeartbeats 0 in
theorem PySem.Challenge.cw_lassoscribe_k03_all_moments_holds : PySem.Challenge.rw_lassoscribe_k03_all_moments.Holds := by
  w_on; o_law; k_head; (case hw => w_witness2)
  k_fill
  refine My.walk (l := PySem.Challenge.rw_lassoscribe_k03_all_moments) rfl rfl (fun w h Y => PySem.W.kIn_of Y) ?F
  case F =>
    intro w mg fa h KX G hmg
    refine' My.all_mk KX G hmg ?a0 ?l0 ?c0 ?k0 ?a1 ?l1 ?c1 ?k1 ?a2 ?l2 ?c2 ?k2 ?a3 ?l3 ?c3 ?k3 ?a4 ?l4 ?c4 ?k4 ?a5 ?l5 ?c5 ?k5 ?z0 ?z1 ?z2 ?z3 ?z4 ?z5
    (case a0 => k_is)
    (case l0 => k_is)
    (case c0 => k_is)
    (case k0 => k_is)
    (case a1 => k_is)
    (case l1 => k_is)
    (case c1 => k_is)
    (case k1 => k_is)
    (case a2 => k_is)
    (case l2 => k_is)
    (case c2 => k_is)
    (case k2 => k_is)
    (case a3 => k_is)
    (case l3 => k_is)
    (case c3 => k_is)
    (case k3 => k_is)
    (case a4 => k_is)
    (case l4 => k_is)
    (case c4 => k_is)
    (case k4 => k_is)
    (case a5 => k_is)
    (case l5 => k_is)
    (case c5 => k_is)
    (case k5 => k_is)
    (case z0 => k_is)
    (case z1 => k_is)
    (case z2 => k_is)
    (case z3 => k_is)
    (case z4 => k_is)
    (case z5 => k_is)
