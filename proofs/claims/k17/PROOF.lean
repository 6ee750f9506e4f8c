import PyProof.Rows.All
import Wide.All
import OpenK.AllK
import Wide.FinOn
import Lean
import PyProof.EqAt
import PyProof.EqKinds
import PyProof.TupleCall
import PyProof.NeKinds
import PyProof.EnumFor
import PyProof.EnumMake
import PyProof.Rows.EnumRows
import PyProof.Rows.Range3
import PyProof.NoPylong
import PyProof.ListRange
import PyProof.TupleOfSeq
import PyProof.TupleOfStr
import PyProof.Draws
import PyProof.ZipIter
import PyProof.Rows.ZipGen
import PyProof.Rows.SortStr
import PyProof.Rows.TupAdd
import PyProof.SetRoads
import PyProof.Rows.SetFrom
import PyProof.StrWalks
import PyProof.CollectWalk
import KE.KDictList
import PyProof.Tail
import PyProof.TupleIter
import PyProof.AttrMiss
import KE.KDictOf
import OpenK.KTop
import PyProof.Rows.SortRev
import PyProof.Rows.CallKwBuiltin
import PyProof.Rows.CallKw2
import KE.KRevIter
import PySem.Challenge.RW_lassoscribe_k17_whole_rows_told_again
set_option Elab.async false
set_option linter.all false
set_option maxRecDepth 100000
namespace L2
open PySem PySem.Spec PyProof.Rows
abbrev Key := Sum Int Str
def keyIs : Key → Value → Bool
  | .inl k, v => Value.isInt k v
  | .inr x, v => Value.isStrOf x v
def keyH (w : World) : Key → Int
  | .inl k => hashInt k
  | .inr x => hashStr w x
theorem keyIs_shape : ∀ {k : Key} {v : Value}, keyIs k v = true → (∃ i t, k = Sum.inl i ∧ v = Value.int i t) ∨ (∃ x t, k = Sum.inr x ∧ v = Value.str x t)
  | .inl i, v, h => by
    obtain ⟨t, e⟩ := Value.isInt_shape (k := i) (v := v) h
    exact .inl ⟨i, t, rfl, e⟩
  | .inr x, v, h => by
    obtain ⟨t, e⟩ := Value.isStrOf_shape (x := x) (v := v) h
    exact .inr ⟨x, t, rfl, e⟩
theorem keyIs_int (i : Int) (t : Tok) : keyIs (.inl i) (.int i t) = true := by simp [keyIs, Value.isInt]
theorem keyIs_str (x : Str) (t : Tok) : keyIs (.inr x) (.str x t) = true := by simp [keyIs, Value.isStrOf]
theorem key_ll (a b : Int) : decide ((Sum.inl a : Key) = Sum.inl b) = (a == b) := by
  by_cases e : a = b
  · subst e; simp
  · have h : ¬ (Sum.inl a : Key) = Sum.inl b := fun q => e (Sum.inl.inj q)
    rw [decide_eq_false h]
    exact (beq_eq_false_iff_ne.mpr e).symm
theorem key_rr (a b : Str) : decide ((Sum.inr a : Key) = Sum.inr b) = decide (a = b) := by
  by_cases e : a = b
  · subst e; simp
  · have h : ¬ (Sum.inr a : Key) = Sum.inr b := fun q => e (Sum.inr.inj q)
    rw [decide_eq_false h, decide_eq_false e]
theorem key_lr (a : Int) (b : Str) : decide ((Sum.inl a : Key) = Sum.inr b) = false := decide_eq_false (fun q => nomatch q)
theorem key_rl (a : Str) (b : Int) : decide ((Sum.inr a : Key) = Sum.inl b) = false := decide_eq_false (fun q => nomatch q)
def mixKind (prog : Program) (w : World) : PySem.KeyKind prog w Key where
  is := keyIs
  hash := keyH w
  inj := fun v a b ha hb => by
    rcases keyIs_shape ha with ⟨i, t, rfl, rfl⟩ | ⟨x, t, rfl, rfl⟩
    · rcases keyIs_shape hb with ⟨j, u, rfl, e⟩ | ⟨y, u, rfl, e⟩
      · injection e with e1 _; rw [e1]
      · exact nomatch e
    · rcases keyIs_shape hb with ⟨j, u, rfl, e⟩ | ⟨y, u, rfl, e⟩
      · exact nomatch e
      · injection e with e1 _; rw [e1]
  byValue := fun k v h => by
    rcases keyIs_shape h with ⟨i, t, rfl, rfl⟩ | ⟨x, t, rfl, rfl⟩ <;> rfl
  pyHash := fun hv h => by
    rcases keyIs_shape hv with ⟨i, t, rfl, rfl⟩ | ⟨x, t, rfl, rfl⟩
    · exact wpAny_pyHash_int h
    · exact wpAny_pyHash_str h
  eqBool := fun hu hv h => by
    rcases keyIs_shape hu with ⟨i, t, rfl, rfl⟩ | ⟨x, t, rfl, rfl⟩
    · rcases keyIs_shape hv with ⟨j, u, rfl, rfl⟩ | ⟨y, u, rfl, rfl⟩
      · rw [key_ll] at h; exact wpAny_eqBool_int h
      · rw [key_lr] at h; exact SeqAt.EqAt.int_str i t y u _ _ _ _ h
    · rcases keyIs_shape hv with ⟨j, u, rfl, rfl⟩ | ⟨y, u, rfl, rfl⟩
      · rw [key_rl] at h; exact SeqAt.EqAt.str_int x t j u _ _ _ _ h
      · rw [key_rr] at h; exact wpAny_eqBool_str h
  «strs» := fun k x t v h => by
    rcases keyIs_shape h with ⟨i, u, rfl, e⟩ | ⟨y, u, rfl, e⟩
    · exact nomatch e
    · injection e with e1 _
      subst e1
      cases v <;> rfl
theorem mixKind_int (prog : Program) (w : World) (i : Int) (t : Tok) : (mixKind prog w).is (.inl i) (.int i t) = true := keyIs_int i t
theorem mixKind_str (prog : Program) (w : World) (x : Str) (t : Tok) : (mixKind prog w).is (.inr x) (.str x t) = true := keyIs_str x t
end L2
namespace L2
open PySem PySem.Spec PyProof.Rows
inductive V where
  | non | bl (b : Bool) | int (i : Int) | str (x : Str) | byt (b : Array UInt8) | flt (b : UInt64) | ref (a : Addr) | ty (n : String)
  deriving DecidableEq
def RelV : V → Value → Prop
  | .non, u => u = Value.none
  | .bl b, u => u = Value.bool b
  | .int i, u => ∃ t, u = Value.int i t
  | .str x, u => ∃ t, u = Value.str x t
  | .byt b, u => ∃ t, u = Value.bytes b t
  | .flt b, u => ∃ t, u = Value.float b t
  | .ref a, u => u = Value.ref a
  | .ty n, u => u = Value.type n
abbrev Vals : List V → List Value → Prop := Paired RelV
theorem Vals.length {xs : List V} {us : List Value} (r : Vals xs us) : xs.length = us.length := Paired.length r
theorem Vals.get : ∀ {xs : List V} {us : List Value} {i : Nat} {x : V}, Vals xs us → xs[i]? = some x → ∃ u, us[i]? = some u ∧ RelV x u
  | _, _, _, _, .nil, e => by simp at e
  | _, _, 0, _, .cons r _, e => by simp at e; subst e; exact ⟨_, rfl, r⟩
  | _, _, i + 1, x, .cons _ t, e => by
    obtain ⟨u, h1, h2⟩ := Vals.get (i := i) (x := x) t (by simpa using e)
    exact ⟨u, by simpa using h1, h2⟩
theorem Vals.set {x : V} {u : Value} (r : RelV x u) : ∀ {xs : List V} {us : List Value} (i : Nat), Vals xs us → Vals (xs.set i x) (us.set i u)
  | _, _, _, .nil => .nil
  | _, _, 0, .cons _ t => .cons r t
  | _, _, i + 1, .cons q t => .cons q (Vals.set r i t)
theorem Vals.append : ∀ {xs ys : List V} {us ws : List Value}, Vals xs us → Vals ys ws → Vals (xs ++ ys) (us ++ ws)
  | _, _, _, _, .nil, s => s
  | _, _, _, _, .cons r t, s => .cons r (Vals.append t s)
theorem Vals.take : ∀ {xs : List V} {us : List Value} (n : Nat), Vals xs us → Vals (xs.take n) (us.take n)
  | _, _, 0, _ => .nil
  | _, _, _ + 1, .nil => .nil
  | _, _, n + 1, .cons r t => .cons r (Vals.take n t)
theorem Vals.drop : ∀ {xs : List V} {us : List Value} (n : Nat), Vals xs us → Vals (xs.drop n) (us.drop n)
  | _, _, 0, r => r
  | _, _, _ + 1, .nil => .nil
  | _, _, n + 1, .cons _ t => Vals.drop n t
def RelO : Option V → Option Value → Prop
  | some v, some u => RelV v u
  | none, none => True
  | _, _ => False
def KV {κ : Type} : List (κ × V) → List (κ × Value) → Prop := Paired fun (p : κ × V) (q : κ × Value) => p.1 = q.1 ∧ RelV p.2 q.2
def kV : Key → V
  | .inl i => .int i
  | .inr x => .str x
inductive HO where
  | lst (xs : List V)
  | tup (xs : List V)
  | dK (kvs : List (Key × V)) | dT (kvs : List (List Key × V))
  | set (S : Int → Bool) (n : Nat)
  | ins (C dx : Addr) (fs : List (Str × V))
  | own (x : Addr)
  | xd (fs : List (Str × V))
  | met (f x : Addr)
  | rng (lo hi : Int)
  | frz (o : Obj) (u : HO)
  | tbl (ps : Array Value)
  | ext (φ : Heap → Prop)
abbrev Hp := Addr → Option HO
def upd (H : Hp) (a : Addr) (o : HO) : Hp := fun b => if b = a then some o else H b
theorem upd_same {H : Hp} {a : Addr} {o : HO} : upd H a o a = some o := by unfold upd; rw [if_pos rfl]
theorem upd_ne {H : Hp} {a b : Addr} {o : HO} (h : b ≠ a) : upd H a o b = H b := by unfold upd; rw [if_neg h]
theorem ne_of {H : Hp} {a b : Addr} {o u : HO} (h : H a = some o) (h' : H b = some u) (d : o ≠ u) : a ≠ b := by
  intro e; subst e; rw [h] at h'; exact d (Option.some.inj h')
theorem ne_of_none {H : Hp} {a b : Addr} {o : HO} (h : H a = some o) (h' : H b = none) : a ≠ b := by
  intro e; subst e; rw [h] at h'; cases h'
section
variable (P : Program) (w : World)
def ObjOk (H : Hp) (h : Heap) (a : Addr) : HO → Prop
  | .lst xs => xs.length ≤ sizeLine ∧ ∃ (its : List Value) (n : Nat), Vals xs its ∧ h.get? a = some { cls := .type "list", data := .seq its.toArray n }
  | .tup xs => xs.length ≤ sizeLine ∧ ∃ its : List Value, Vals xs its ∧ IsTup h a its.toArray
  | .dK kvs => kvs.length ≤ sizeLine ∧ (a == sysModules) = false ∧ ∃ vs, KV kvs vs ∧ h.DictOf (mixKind P w) a vs
  | .dT kvs => kvs.length ≤ sizeLine ∧ (a == sysModules) = false ∧ ∃ xs : List (List Key × Addr × Value),
      Paired (fun (p : List Key × V) (q : List Key × Addr × Value) => p.1 = q.1 ∧ H q.2.1 = some (.tup (p.1.map kV)) ∧ RelV p.2 q.2.2) kvs xs ∧
      ∃ o es ep, h.get? a = some o ∧ o.ExactDict ∧ o.data = .dict es ep ∧ es.toList = xs.map (entryOfKey (tupleKind (mixKind P w))) ∧ (xs.map (·.1)).Nodup
  | .set S n => h.SetOf (intKind P w) a S n
  | .ins C dx fs => H dx = some (.own a) ∧ fs.length ≤ 1000 ∧ dx ≠ a ∧ h.get? a = some (PySem.W.instObj C dx) ∧
      ∃ mA, h.Ns1 dx mA ∧ (∀ f, RelO (fs.lookup f) (mA f)) ∧ PySem.Within mA (fs.map (·.1))
  | .own _ => ∃ o, h.get? a = some o
  | .xd fs => ∃ mA, h.Ns1 a mA ∧ ∀ f, RelO (fs.lookup f) (mA f)
  | .rng lo hi => ∃ t u v, h.get? a = some { cls := .type "range", data := .fields #[.int lo t, .int hi u, .int 1 v] }
  | .frz o u => h.get? a = some o ∧ ObjOk H h a u
  | .tbl ps => h.get? a = some { cls := .none, data := .fields ps }
  | .met f x => h.get? a = some (PySem.W.methodObj (.ref f) (.ref x))
  | .ext φ => φ h ∧ (∃ o, h.get? a = some o) ∧ ∀ h1 h2 : Heap, φ h1 → (∀ o, h1.get? a = some o → h2.get? a = some o) → φ h2
def HOk (H : Hp) (h : Heap) : Prop := ∀ a o, H a = some o → ObjOk P w H h a o
end
section
variable {P : Program} {w : World} {H H' : Hp} {h h' : Heap} {a : Addr} {o : HO}
theorem ObjOk.lt (x : ObjOk P w H h a o) : a < h.objs.size := by
  cases o with
  | lst xs => obtain ⟨_, _, _, _, e⟩ := x; exact Heap.lt_size e
  | tup xs => obtain ⟨_, _, _, p⟩ := x; exact p.lt
  | dK kvs => obtain ⟨_, _, _, _, o, _, _, e, _⟩ := x; exact Heap.lt_size e
  | dT kvs => obtain ⟨_, _, _, _, o, _, _, e, _⟩ := x; exact Heap.lt_size e
  | set S n => obtain ⟨o, _, _, _, e, _⟩ := x; exact Heap.lt_size e
  | ins C dx fs => obtain ⟨_, _, _, e, _⟩ := x; exact Heap.lt_size e
  | own y => obtain ⟨_, e⟩ := x; exact Heap.lt_size e
  | xd fs => obtain ⟨_, ⟨_, _, _, e, _⟩, _⟩ := x; exact Heap.lt_size e
  | rng lo hi => obtain ⟨_, _, _, e⟩ := x; exact Heap.lt_size e
  | frz ob u => obtain ⟨e, _⟩ := x; exact Heap.lt_size e
  | tbl ps => exact Heap.lt_size (show h.get? a = some _ from x)
  | met f y => exact Heap.lt_size (show h.get? a = some _ from x)
  | ext φ => obtain ⟨_, ⟨_, e⟩, _⟩ := x; exact Heap.lt_size e
theorem Paired.mapP {α β : Type} {F G : α → β → Prop} : ∀ {l₁ : List α} {l₂ : List β}, Paired F l₁ l₂ → (∀ a b, F a b → G a b) → Paired G l₁ l₂
  | _, _, .nil, _ => .nil
  | _, _, .cons r t, f => .cons (f _ _ r) (Paired.mapP t f)
theorem Paired.imp' {α β : Type} {F G : α → β → Prop} (f : ∀ a b, F a b → G a b) {l₁ : List α} {l₂ : List β} (r : Paired F l₁ l₂) : Paired G l₁ l₂ := Paired.mapP r f
theorem ObjOk.stay (x : ObjOk P w H h a o) (k : ∀ b u, (b = a ∨ H b = some (.own a)) → h.get? b = some u → h'.get? b = some u)
    (ho : ∀ b, H b = some (.own a) → H' b = some (.own a)) (ht : ∀ b xs, H b = some (.tup xs) → H' b = some (.tup xs)) : ObjOk P w H' h' a o := by
  induction o with
  | lst xs => obtain ⟨z, its, n, r, e⟩ := x; exact ⟨z, its, n, r, k _ _ (.inl rfl) e⟩
  | tup xs => obtain ⟨z, its, r, ob, e, c⟩ := x; exact ⟨z, its, r, ob, k _ _ (.inl rfl) e, c⟩
  | dK kvs => obtain ⟨z, y, vs, r, ob, es, ep, e, c⟩ := x; exact ⟨z, y, vs, r, ob, es, ep, k _ _ (.inl rfl) e, c⟩
  | dT kvs =>
    obtain ⟨z, y, xs, r, ob, es, ep, e, c⟩ := x
    exact ⟨z, y, xs, Paired.mapP r fun p q z => ⟨z.1, ht _ _ z.2.1, z.2.2⟩, ob, es, ep, k _ _ (.inl rfl) e, c⟩
  | set S n => obtain ⟨ob, es, ep, t, e, c⟩ := x; exact ⟨ob, es, ep, t, k _ _ (.inl rfl) e, c⟩
  | ins C dx fs =>
    obtain ⟨d, z, ne, e, mA, ⟨od, es, ep, e2, c⟩, r⟩ := x
    exact ⟨ho _ d, z, ne, k _ _ (.inl rfl) e, mA, ⟨od, es, ep, k _ _ (.inr d) e2, c⟩, r⟩
  | own y => obtain ⟨ob, e⟩ := x; exact ⟨ob, k _ _ (.inl rfl) e⟩
  | xd fs => obtain ⟨mA, ⟨od, es, ep, e, c⟩, r⟩ := x; exact ⟨mA, ⟨od, es, ep, k _ _ (.inl rfl) e, c⟩, r⟩
  | rng lo hi => obtain ⟨t, u, v, e⟩ := x; exact ⟨t, u, v, k _ _ (.inl rfl) e⟩
  | frz ob u ih => obtain ⟨e, q⟩ := x; exact ⟨k _ _ (.inl rfl) e, ih q⟩
  | tbl ps =>
    have e : h.get? a = some { cls := .none, data := .fields ps } := x
    show h'.get? a = some { cls := .none, data := .fields ps }
    exact k a _ (.inl rfl) e
  | met f y =>
    have e : h.get? a = some (PySem.W.methodObj (.ref f) (.ref y)) := x
    show h'.get? a = some (PySem.W.methodObj (.ref f) (.ref y))
    exact k a _ (.inl rfl) e
  | ext φ => obtain ⟨p, ⟨o, e⟩, st⟩ := x; exact ⟨st _ _ p fun o q => k _ _ (.inl rfl) q, ⟨o, k _ _ (.inl rfl) e⟩, st⟩
theorem HOk.lt (x : HOk P w H h) (e : H a = some o) : a < h.objs.size := (x a o e).lt
theorem HOk.fresh (x : HOk P w H h) (e : h.objs.size ≤ a) : H a = none := by
  cases q : H a with
  | none => rfl
  | some u => exact absurd (Nat.lt_of_lt_of_le (x.lt q) e) (Nat.lt_irrefl _)
theorem HOk.kept (x : HOk P w H h) (k : ∀ b u, h.get? b = some u → h'.get? b = some u) : HOk P w H h' := fun a o e =>
  (x a o e).stay (fun b u _ q => k b u q) (fun _ q => q) fun _ _ q => q
theorem HOk.laid (x : HOk P w H h) (k : ∀ b u, h.get? b = some u → h'.get? b = some u) (hp : h.objs.size ≤ a) (new : ObjOk P w (upd H a o) h' a o) : HOk P w (upd H a o) h' := fun b u e => by
  have hn := x.fresh hp
  by_cases hb : b = a
  · subst hb; rw [upd_same] at e; cases e; exact new
  · rw [upd_ne hb] at e
    exact (x b u e).stay (fun c v _ q => k c v q) (fun c q => by rw [upd_ne (ne_of_none q hn)]; exact q) fun c xs q => by rw [upd_ne (ne_of_none q hn)]; exact q
end
def Rd (H : Hp) (a : Addr) (u : HO) : Prop := H a = some u ∨ ∃ o, H a = some (.frz o u)
theorem Rd.of {H : Hp} {a : Addr} {u : HO} (h : H a = some u) : Rd H a u := .inl h
theorem Rd.ok {P : Program} {w : World} {H : Hp} {h : Heap} {a : Addr} {u : HO} (r : Rd H a u) (x : HOk P w H h) : ObjOk P w H h a u := by
  rcases r with r | ⟨o, r⟩
  · exact x a u r
  · obtain ⟨_, q⟩ := x a _ r
    exact q
def Mut : Option HO → Prop
  | some (.lst _) => True
  | some (.dK _) => True
  | some (.dT _) => True
  | some (.set _ _) => True
  | some (.ins _ _ _) => True
  | some (.ext _) => True
  | _ => False
section
variable {P : Program} {w : World} {H : Hp} {h h' : Heap} {x e : Addr} {o' : HO}
theorem HOk.write (ok : HOk P w H h) (mu : Mut (H x)) (he : e = x ∨ H e = some (.own x)) (k : ∀ b u, b ≠ e → h.get? b = some u → h'.get? b = some u) (heo : ∃ u, h'.get? e = some u)
    (new : ObjOk P w (upd H x o') h' x o') : HOk P w (upd H x o') h' := fun b u q => by
  have nown : ∀ c y, H c = some (.own y) → c ≠ x := fun c y r z => by subst z; rw [r] at mu; exact mu
  have ntup : ∀ c xs, H c = some (.tup xs) → c ≠ x := fun c xs r z => by subst z; rw [r] at mu; exact mu
  by_cases hb : b = x
  · subst hb; rw [upd_same] at q; cases q; exact new
  · rw [upd_ne hb] at q
    by_cases hbe : b = e
    · have q' : H b = some (.own x) := by
        rcases he with z | z
        · exact absurd (hbe.trans z) hb
        · rw [hbe]; exact z
      rw [q] at q'; cases q'
      obtain ⟨v, hv⟩ := heo
      exact ⟨v, by rw [hbe]; exact hv⟩
    · refine (ok b u q).stay (fun c v hc r => k c v ?_ r) (fun c r => by rw [upd_ne (nown c b r)]; exact r) fun c xs r => by rw [upd_ne (ntup c xs r)]; exact r
      rcases hc with rfl | hc
      · exact hbe
      · rintro rfl
        rcases he with z | z
        · exact nown c b hc z
        · rw [hc] at z; cases z; exact hb rfl
end
structure Un (fs ex : List Addr) (H H' : Hp) (h h' : Heap) : Prop where
  keep : ∀ b o, h.get? b = some o → H b = none → b ∉ fs → b ∉ ex → h'.get? b = some o
  slot : ∀ b o, h.get? b = some o → H b = none → b ∈ fs → b ∉ ex → ∃ sl, h'.get? b = some { o with slots := sl }
  free : ∀ b o, h.get? b = some o → H b = none → b ∉ ex → H' b = none
  there : ∀ b o, h.get? b = some o → b ∉ ex → ∃ o', h'.get? b = some o'
  tups : ∀ b xs, H b = some (.tup xs) → H' b = some (.tup xs)
  frzs : ∀ b o u, H b = some (.frz o u) → H' b = some (.frz o u)
  tbls : ∀ b ps, H b = some (.tbl ps) → ∃ more, H' b = some (.tbl (ps ++ more))
section
variable {fs fs' ex ex' : List Addr} {H H1 H2 : Hp} {h h1 h2 h' : Heap} {a x e : Addr} {o : HO}
theorem Un.any (u : Un fs ex H H1 h h1) {b : Addr} {ob : Obj} (q : h.get? b = some ob) (n : H b = none) (hx : b ∉ ex) : ∃ sl, h1.get? b = some { ob with slots := sl } := by
  by_cases hb : b ∈ fs
  · exact u.slot b ob q n hb hx
  · exact ⟨ob.slots, u.keep b ob q n hb hx⟩
theorem Un.trans (a : Un fs ex H H1 h h1) (b : Un fs ex H1 H2 h1 h2) : Un fs ex H H2 h h2 where
  keep := fun c ob q n hc hx => b.keep c ob (a.keep c ob q n hc hx) (a.free c ob q n hx) hc hx
  slot := fun c ob q n hc hx => by
    obtain ⟨sl, e1⟩ := a.slot c ob q n hc hx
    obtain ⟨sl', e2⟩ := b.slot c _ e1 (a.free c ob q n hx) hc hx
    exact ⟨sl', e2⟩
  free := fun c ob q n hx => by
    obtain ⟨o', e1⟩ := a.there c ob q hx
    exact b.free c o' e1 (a.free c ob q n hx) hx
  there := fun c ob q hx => by
    obtain ⟨o', e1⟩ := a.there c ob q hx
    exact b.there c o' e1 hx
  tups := fun c xs q => b.tups c xs (a.tups c xs q)
  frzs := fun c ob xs q => b.frzs c ob xs (a.frzs c ob xs q)
  tbls := fun c ps q => by
    obtain ⟨m1, e1⟩ := a.tbls c ps q
    obtain ⟨m2, e2⟩ := b.tbls c _ e1
    exact ⟨m1 ++ m2, by rw [e2, Array.append_assoc]⟩
theorem Un.kept (k : ∀ b u, h.get? b = some u → h'.get? b = some u) : Un fs ex H H h h' :=
  ⟨fun b ob q _ _ _ => k b ob q, fun b ob q _ _ _ => ⟨ob.slots, k b ob q⟩, fun _ _ _ n _ => n, fun b ob q _ => ⟨ob, k b ob q⟩, fun _ _ q => q, fun _ _ _ q => q, fun _ ps q => ⟨#[], by rw [q]; simp⟩⟩
theorem Un.refl : Un fs ex H H h h := Un.kept fun _ _ q => q
theorem Un.laid (k : ∀ b u, h.get? b = some u → h'.get? b = some u) (hp : h.objs.size ≤ a) (hn : H a = none) : Un fs ex H (upd H a o) h h' where
  keep := fun b u q _ _ _ => k b u q
  slot := fun b u q _ _ _ => ⟨u.slots, k b u q⟩
  free := fun b u q n _ => by rw [upd_ne (Nat.ne_of_lt (Nat.lt_of_lt_of_le (Heap.lt_size q) hp))]; exact n
  there := fun b u q _ => ⟨u, k b u q⟩
  tups := fun b xs q => by rw [upd_ne (ne_of_none q hn)]; exact q
  frzs := fun b u xs q => by rw [upd_ne (ne_of_none q hn)]; exact q
  tbls := fun b ps q => ⟨#[], by rw [upd_ne (ne_of_none q hn), q]; simp⟩
theorem Un.write (mu : Mut (H x)) (he : e = x ∨ H e = some (.own x)) (k : ∀ b u, b ≠ e → h.get? b = some u → h'.get? b = some u) (heo : ∃ u, h'.get? e = some u) : Un fs ex H (upd H x o) h h' := by
  have hx : ∀ b, H b = none → b ≠ x := fun b n z => by subst z; rw [n] at mu; exact mu
  have hb : ∀ b, H b = none → b ≠ e := fun b n z => by
    subst z
    rcases he with r | r
    · exact hx b n r
    · rw [n] at r; cases r
  have hm : ∀ b u, H b = some u → ¬ Mut (some u) → b ≠ x := fun b u q nm z => by subst z; rw [q] at mu; exact nm mu
  refine ⟨fun b u q n _ _ => k b u (hb b n) q, fun b u q n _ _ => ⟨u.slots, k b u (hb b n) q⟩, fun b u q n _ => by rw [upd_ne (hx b n)]; exact n, fun b u q _ => ?_,
    fun b xs q => by rw [upd_ne (hm b _ q fun z => z)]; exact q, fun b u xs q => by rw [upd_ne (hm b _ q fun z => z)]; exact q, fun b ps q => ⟨#[], by rw [upd_ne (hm b _ q fun z => z), q]; simp⟩⟩
  by_cases hbe : b = e
  · subst hbe; exact heo
  · exact ⟨u, k b u hbe q⟩
theorem Un.mono (u : Un fs ex H H1 h h1) (hs : ∀ b ∈ fs, b ∈ fs') (hx : ∀ b ∈ ex, b ∈ ex') : Un fs' ex' H H1 h h1 :=
  ⟨fun b ob q n hb he => u.keep b ob q n (fun z => hb (hs b z)) fun z => he (hx b z), fun _ _ q n _ he => u.any q n fun z => he (hx _ z), fun b ob q n he => u.free b ob q n fun z => he (hx b z), fun b ob q he => u.there b ob q fun z => he (hx b z), u.tups, u.frzs, u.tbls⟩
end
def trk (h : Heap) (H : Hp) : List Addr := (List.range h.objs.size).filter fun a => (H a).isSome
def hidT (h : Heap) (H : Hp) : Heap := PySem.W.hideAll h (trk h H)
theorem hidT_size (h : Heap) (H : Hp) : (hidT h H).objs.size = h.objs.size := PySem.W.hideAll_size _ _
theorem hidT_get {h : Heap} {H : Hp} {b : Addr} {o : Obj} (e : h.get? b = some o) (n : H b = none) : (hidT h H).get? b = some o :=
  PySem.W.hideAll_get _ e fun hm => by
    have q : (H b).isSome = true := (List.mem_filter.mp hm).2
    rw [n] at q; simp at q
theorem of_hidT {h : Heap} {H : Hp} {b : Addr} {o : Obj} (e : (hidT h H).get? b = some o) : h.get? b = some o ∧ H b = none := by
  have e' : h.get? b = some o := PySem.W.of_hideAll (trk h H) e
  refine ⟨e', ?_⟩
  cases q : H b with
  | none => rfl
  | some x =>
    have hm : b ∈ trk h H := List.mem_filter.mpr ⟨List.mem_range.mpr (Heap.lt_size e'), by simp [q]⟩
    have z : (hidT h H).get? b = none := PySem.W.hideAll_none (trk h H) hm
    rw [z] at e; cases e
def allNews (g h : Heap) (L : Addr) : List (Addr × Obj) := (List.range h.objs.size).filterMap fun a => if a = L ∨ (g.get? a).isSome = true then none else (h.get? a).map fun o => (a, o)
def rest (g h : Heap) (L d : Addr) : List (Addr × Obj) := (allNews g h L).filter fun p => decide (p.1 ≠ d)
end L2
namespace L2
open PySem PySem.Spec PyProof.Rows
structure Mod (K : PySem.W.Frag) (mg : Str → Option Value) (base : Heap) : Prop where
  kin : K.In base
  glob : base.Ns mainGlobals mg
  blt : ∃ mb, base.Ns builtinsNs mb ∧ ∀ x : Str, x ≠ "__name__" → mb x = bootBuiltins x
  nolimit : base.NoLimit
structure Cx where
  prog : Program
  w : World
  K : PySem.W.Frag
  mg : Str → Option Value
  base : Heap
  A : Around
  N : List Str
  s₀ : Shared
  H₀ : Hp
  env : Env
  outer : List Env
  stack : List Env
  ex : List Addr
  fn : Str → Bool
  calm : Bool
  pn : List (Addr × Obj)
  xe : Value → Shared → Prop
def frs (l : List Env) : List Addr := l.filterMap (·.frame)
abbrev Cx.fs (X : Cx) : List Addr := frs X.outer
def Vis (sc : Scope) (x : Str) : Prop := sc.names.lookup x = some .local ∨ sc.names.lookup x = some .cell ∨ sc.names.lookup x = some .free
def Loc (sc : Scope) (x : Str) : Prop := sc.names.lookup x = some .local ∨ sc.names.lookup x = some .cell
def Look (env : Env) (h : Heap) (m : Str → Option Value) (x : Str) (u : Value) : Prop :=
  (env.kindOf x = some .local ∧ m x = some u) ∨ ((env.kindOf x = some .cell ∨ env.kindOf x = some .free) ∧ ∃ c, env.cells.lookup x = some c ∧ h.IsCell c (some u))
structure Cx.Ok (X : Cx) : Prop where
  mod : Mod X.K X.mg X.base
  kind : X.env.scope.kind = .function
  glob : X.env.globals = mainGlobals
  blt : X.env.builtins = builtinsNs
  above : X.s₀.heap.objs.size ≤ X.env.locals
  inj : ∀ x y c, X.env.cells.lookup x = some c → X.env.cells.lookup y = some c → x = y
  has : ∀ x, (X.env.kindOf x = some .cell ∨ X.env.kindOf x = some .free) → ∃ c, X.env.cells.lookup x = some c
  cab : ∀ x c, X.fn x = true → X.env.cells.lookup x = some c → X.s₀.heap.objs.size ≤ c
  hd : X.calm = true → X.A.handled = none
  frames : X.A.frames = some X.stack
  stk : X.stack = X.outer ∨ (X.stack = X.env :: X.outer ∧ X.env.frame = some X.env.locals)
  exf : ∀ b ∈ X.ex, b ≠ X.env.locals ∧ ∀ x c, X.env.cells.lookup x = some c → c ≠ b
  bs : ∀ b o, X.base.get? b = some o → X.s₀.heap.get? b = some o ∧ X.H₀ b = none
  bsz : X.base.objs.size ≤ X.s₀.heap.objs.size
  noex : ∀ b o, X.base.get? b = some o → b ∉ X.ex
  exfs : ∀ b ∈ X.ex, b ∉ X.fs
  funs : X.s₀.heap.FunFrames X.base X.outer
  frf : ∀ b ∈ X.fs, X.H₀ b = none
structure Inv (X : Cx) (pins : List (Addr × Obj)) (σ : List (Option V)) (H : Hp) (s : Shared) : Prop where
  ok : X.Ok
  os : s.os = X.s₀.os
  bare : AllBare s.gens
  base : Un X.fs X.ex X.H₀ H X.s₀.heap s.heap
  loc : ∃ m, s.heap.Ns X.env.locals m ∧ ∀ (i : Nat) (x : Str) (v : V), X.N[i]? = some x → σ[i]? = some (some v) → Vis X.env.scope x → ∃ u, RelV v u ∧ Look X.env s.heap m x u
  cell : ∀ x c, X.env.cells.lookup x = some c → ∃ v, s.heap.IsCell c v
  free : H X.env.locals = none
  freeC : ∀ x c, X.env.cells.lookup x = some c → H c = none
  pin : ∀ p ∈ X.pn ++ pins, s.heap.get? p.1 = some p.2 ∧ H p.1 = none ∧ p.1 ≠ X.env.locals ∧ p.1 ∉ X.fs ∧ ∀ v, p.2.data ≠ .cell v
  hok : HOk X.prog X.w H s.heap
  len : σ.length = X.N.length
section
variable {X : Cx} {pins : List (Addr × Obj)} {σ : List (Option V)} {H H' : Hp} {s : Shared} {h' : Heap}
theorem Cx.Ok.nofr (ok : X.Ok) {b : Addr} {o : Obj} (e : X.base.get? b = some o) : b ∉ X.fs := fun hb => by
  have := (ok.funs.mem hb).1
  rw [e] at this; cases this
theorem Inv.bs (I : Inv X pins σ H s) : ∀ b o, X.base.get? b = some o → s.heap.get? b = some o ∧ H b = none := fun b o e =>
  ⟨I.base.keep b o (I.ok.bs b o e).1 (I.ok.bs b o e).2 (I.ok.nofr e) (I.ok.noex b o e), I.base.free b o (I.ok.bs b o e).1 (I.ok.bs b o e).2 (I.ok.noex b o e)⟩
theorem Inv.bk (I : Inv X pins σ H s) : ∀ b o, X.base.get? b = some o → s.heap.get? b = some o := fun b o e => (I.bs b o e).1
theorem Inv.mod (I : Inv X pins σ H s) : Mod X.K X.mg X.base := I.ok.mod
theorem Inv.kIn (I : Inv X pins σ H s) : X.K.In s.heap := I.ok.mod.kin.keeps I.bk
theorem Inv.nolimit (I : Inv X pins σ H s) : s.heap.NoLimit := I.ok.mod.nolimit.keeps I.bk
theorem Inv.lt (I : Inv X pins σ H s) : X.env.locals < s.heap.objs.size := let ⟨_, hn, _⟩ := I.loc; hn.lt
theorem Inv.sz (I : Inv X pins σ H s) : X.s₀.heap.objs.size ≤ s.heap.objs.size := Nat.le_trans I.ok.above (Nat.le_of_lt I.lt)
theorem Inv.nofs (I : Inv X pins σ H s) {a : Addr} (h : s.heap.objs.size ≤ a) : a ∉ X.fs := fun hb => by
  obtain ⟨_, o, ho, _⟩ := I.ok.funs.mem hb
  exact absurd (Nat.lt_of_lt_of_le (Heap.lt_size ho) (Nat.le_trans I.sz h)) (Nat.lt_irrefl _)
theorem Inv.cne (I : Inv X pins σ H s) : ∀ x c, X.env.cells.lookup x = some c → c ≠ X.env.locals := fun x c e z => by
  obtain ⟨v, o, ho, hd⟩ := I.cell x c e
  obtain ⟨m, ⟨o', es, ep, ho', hd', _⟩, _⟩ := I.loc
  rw [z, ho'] at ho; cases ho; rw [hd'] at hd; cases hd
theorem Inv.funs (I : Inv X pins σ H s) : s.heap.FunFrames X.base X.outer := by
  have all : ∀ (l : List Env), (∀ b ∈ frs l, b ∈ X.fs) → X.s₀.heap.FunFrames X.base l → s.heap.FunFrames X.base l := by
    intro l
    induction l with
    | nil => intro _ _; trivial
    | cons env r ih =>
      intro hs hl
      obtain ⟨hk, ⟨L, o, hf, hn, ho, hd⟩, hr⟩ := hl
      have hL : L ∈ X.fs := hs L (by unfold frs; rw [List.filterMap_cons, hf]; exact List.mem_cons_self)
      obtain ⟨sl, e⟩ := I.base.slot L o ho (I.ok.frf L hL) hL fun z => I.ok.exfs L z hL
      exact ⟨hk, ⟨L, _, hf, hn, e, hd⟩, ih (fun b hb => hs b (by unfold frs; rw [List.filterMap_cons, hf]; exact List.mem_cons_of_mem _ hb)) hr⟩
  exact all X.outer (fun _ hb => hb) I.ok.funs
theorem Inv.stack (I : Inv X pins σ H s) : s.heap.FunFrames X.base X.stack := by
  rcases I.ok.stk with e | ⟨e, hf⟩
  · rw [e]; exact I.funs
  · rw [e]
    obtain ⟨m, hn, _⟩ := I.loc
    refine .cons (by rw [I.ok.kind]; decide) hf hn ?_ I.funs
    exact Heap.get?_none_of_le (Nat.le_trans I.ok.bsz I.ok.above)
theorem Inv.stkSub (I : Inv X pins σ H s) : ∀ b ∈ frs X.stack, b ∈ X.env.locals :: X.fs := fun b hb => by
  rcases I.ok.stk with e | ⟨e, hf⟩
  · rw [e] at hb; exact List.mem_cons_of_mem _ hb
  · rw [e] at hb
    unfold frs at hb
    rw [List.filterMap_cons, hf] at hb
    exact hb
theorem Inv.stkFree (I : Inv X pins σ H s) : ∀ b ∈ frs X.stack, H b = none := fun b hb => by
  rcases List.mem_cons.mp (I.stkSub b hb) with e | hb
  · rw [e]; exact I.free
  · obtain ⟨_, o, ho, _⟩ := I.ok.funs.mem hb
    exact I.base.free b o ho (I.ok.frf b hb) fun z => I.ok.exfs b z hb
theorem Inv.step {g' : Array GenState} {t' : Nat} {d' : Drawn} {ch : List Addr} (I : Inv X pins σ H s)
    (hch : ∀ b ∈ ch, (b ∈ X.ex ∨ X.s₀.heap.objs.size ≤ b) ∧ b ≠ X.env.locals ∧ (∀ x c, X.env.cells.lookup x = some c → c ≠ b) ∧ ∀ p ∈ X.pn ++ pins, p.1 ≠ b)
    (keep : ∀ b o, b ≠ X.env.locals → b ∉ X.fs → b ∉ ch → s.heap.get? b = some o → H b = none → h'.get? b = some o)
    (slot : ∀ b o, b ≠ X.env.locals → b ∈ X.fs → b ∉ ch → s.heap.get? b = some o → H b = none → ∃ sl, h'.get? b = some { o with slots := sl }) (free : ∀ b o, b ∉ ch → s.heap.get? b = some o → H b = none → H' b = none)
    (there : ∀ b o, b ∉ ch → s.heap.get? b = some o → ∃ o', h'.get? b = some o')
    (tups : ∀ b xs, H b = some (.tup xs) → H' b = some (.tup xs)) (frzs : ∀ b o u, H b = some (.frz o u) → H' b = some (.frz o u)) (tbls : ∀ b ps, H b = some (.tbl ps) → ∃ more, H' b = some (.tbl (ps ++ more)))
    (ns : ∀ m, s.heap.Ns X.env.locals m → h'.Ns X.env.locals m) (hok : HOk X.prog X.w H' h') (hg : AllBare g') :
    Inv X pins σ H' { s with heap := h', gens := g', drawn := d', toks := t' } := by
  have neL : ∀ b o, X.s₀.heap.get? b = some o → b ≠ X.env.locals := fun b o e => Nat.ne_of_lt (Nat.lt_of_lt_of_le (Heap.lt_size e) I.ok.above)
  have neC : ∀ b o, X.s₀.heap.get? b = some o → b ∉ X.ex → b ∉ ch := fun b o e hx hb => by
    rcases (hch b hb).1 with z | z
    · exact hx z
    · exact absurd (Nat.lt_of_lt_of_le (Heap.lt_size e) z) (Nat.lt_irrefl _)
  have cellK : ∀ x c, X.env.cells.lookup x = some c → ∀ v, s.heap.IsCell c v → h'.IsCell c v := fun x c e v ⟨o, ho, hd⟩ => by
    have nch : c ∉ ch := fun z => (hch c z).2.2.1 x c e rfl
    by_cases hc : c ∈ X.fs
    · obtain ⟨sl, q⟩ := slot c o (I.cne x c e) hc nch ho (I.freeC x c e)
      exact ⟨_, q, hd⟩
    · exact ⟨o, keep c o (I.cne x c e) hc nch ho (I.freeC x c e), hd⟩
  refine ⟨I.ok, I.os, hg, ⟨fun b o e n hb hx => ?_, fun b o e n hb hx => ?_, fun b o e n hx => ?_, fun b o e hx => ?_, fun b xs e => tups b xs (I.base.tups b xs e), fun b o xs e => frzs b o xs (I.base.frzs b o xs e), fun b ps e => ?_⟩, ?_, fun x c e => ?_, ?_, fun x c e => ?_, fun p hp => ?_, hok, I.len⟩
  · exact keep b o (neL b o e) hb (neC b o e hx) (I.base.keep b o e n hb hx) (I.base.free b o e n hx)
  · obtain ⟨sl, e1⟩ := I.base.slot b o e n hb hx
    obtain ⟨sl', e2⟩ := slot b _ (neL b o e) hb (neC b o e hx) e1 (I.base.free b o e n hx)
    exact ⟨sl', e2⟩
  · obtain ⟨o', e1⟩ := I.base.there b o e hx
    exact free b o' (neC b o e hx) e1 (I.base.free b o e n hx)
  · obtain ⟨o', e1⟩ := I.base.there b o e hx
    exact there b o' (neC b o e hx) e1
  · obtain ⟨m1, e1⟩ := I.base.tbls b ps e
    obtain ⟨m2, e2⟩ := tbls b _ e1
    exact ⟨m1 ++ m2, by rw [e2, Array.append_assoc]⟩
  · obtain ⟨m, hn, hl⟩ := I.loc
    refine ⟨m, ns m hn, fun i x v e1 e2 e3 => ?_⟩
    obtain ⟨u, r, l⟩ := hl i x v e1 e2 e3
    refine ⟨u, r, ?_⟩
    rcases l with l | ⟨k, c, e, z⟩
    · exact .inl l
    · exact .inr ⟨k, c, e, cellK x c e _ z⟩
  · obtain ⟨v, z⟩ := I.cell x c e
    exact ⟨v, cellK x c e v z⟩
  · obtain ⟨m, ⟨o, _, _, ho, _⟩, _⟩ := I.loc
    exact free _ o (fun z => (hch _ z).2.1 rfl) ho I.free
  · obtain ⟨v, o, ho, hd⟩ := I.cell x c e
    exact free c o (fun z => (hch c z).2.2.1 x c e rfl) ho (I.freeC x c e)
  · obtain ⟨e, n, ne, nf, d⟩ := I.pin p hp
    have nch : p.1 ∉ ch := fun z => (hch p.1 z).2.2.2 p hp rfl
    exact ⟨keep p.1 p.2 ne nf nch e n, free p.1 p.2 nch e n, ne, nf, d⟩
theorem Inv.un {t' : Nat} (I : Inv X pins σ H s) (u : Un X.fs [] H H' s.heap h') (hok : HOk X.prog X.w H' h') : Inv X pins σ H' { s with heap := h', toks := t' } := by
  obtain ⟨m, ⟨o, es, ep, ho, r⟩, _⟩ := id I.loc
  obtain ⟨sl, hL⟩ := u.any ho I.free (by simp)
  exact I.step (g' := s.gens) (d' := s.drawn) (ch := []) (fun _ z => nomatch z) (fun b o _ hb _ e n => u.keep b o e n hb (by simp)) (fun b o _ hb _ e n => u.slot b o e n hb (by simp)) (fun b o _ e n => u.free b o e n (by simp)) (fun b o _ e => u.there b o e (by simp)) u.tups u.frzs u.tbls (fun m' hm => by
    obtain ⟨o', es', ep', ho', r'⟩ := hm
    rw [ho] at ho'; cases ho'
    exact ⟨_, es', ep', hL, r'⟩) hok I.bare
theorem Inv.call {g' : Array GenState} {t' : Nat} {d' : Drawn} {ch : List Addr} (I : Inv X pins σ H s) (u : Un (frs X.stack) ch H H' s.heap h') (hok : HOk X.prog X.w H' h') (hg : AllBare g')
    (hch : ∀ b ∈ ch, (b ∈ X.ex ∨ X.s₀.heap.objs.size ≤ b) ∧ b ≠ X.env.locals ∧ (∀ x c, X.env.cells.lookup x = some c → c ≠ b) ∧ ∀ p ∈ X.pn ++ pins, p.1 ≠ b) :
    Inv X pins σ H' { s with heap := h', gens := g', drawn := d', toks := t' } := by
  obtain ⟨m, ⟨o, es, ep, ho, r⟩, _⟩ := id I.loc
  obtain ⟨sl, hL⟩ := u.any ho I.free fun z => (hch _ z).2.1 rfl
  exact I.step (ch := ch) hch (fun b o hL hb hc e n => u.keep b o e n (fun z => (List.mem_cons.mp (I.stkSub b z)).elim hL hb) hc) (fun b o _ _ hc e n => u.any e n hc) (fun b o hc e n => u.free b o e n hc) (fun b o hc e => u.there b o e hc) u.tups u.frzs u.tbls (fun m' hm => by
    obtain ⟨o', es', ep', ho', r'⟩ := hm
    rw [ho] at ho'; cases ho'
    exact ⟨_, es', ep', hL, r'⟩) hok hg
theorem Inv.turned {t' : Nat} {it : Addr} (I : Inv X pins σ H s) (k : ∀ b o, b ≠ it → s.heap.get? b = some o → h'.get? b = some o) (hn : H it = none) (hL : it ≠ X.env.locals)
    (h1 : it ∈ X.ex ∨ X.s₀.heap.objs.size ≤ it) (h2 : ∀ x c, X.env.cells.lookup x = some c → c ≠ it) (h3 : ∀ p ∈ X.pn ++ pins, p.1 ≠ it) : Inv X pins σ H { s with heap := h', toks := t' } := by
  have nit : ∀ b u, H b = some u → b ≠ it := fun b u e z => by rw [z, hn] at e; cases e
  refine I.step (g' := s.gens) (d' := s.drawn) (ch := [it]) (fun b hb => ?_) (fun b o _ _ hc e _ => k b o (fun z => hc (by simp [z])) e) (fun b o _ _ hc e _ => ⟨o.slots, k b o (fun z => hc (by simp [z])) e⟩) (fun _ _ _ _ n => n)
    (fun b o hc e => ⟨o, k b o (fun z => hc (by simp [z])) e⟩) (fun _ _ e => e) (fun _ _ _ e => e) (fun b ps e => ⟨#[], by rw [e]; simp⟩) (fun m hm => ?_) (fun b u e => ?_) I.bare
  · have e : b = it := by simpa using hb
    subst e
    exact ⟨h1, hL, h2, h3⟩
  · obtain ⟨o, es, ep, ho, r⟩ := hm
    exact ⟨o, es, ep, k _ o (Ne.symm hL) ho, r⟩
  · refine (I.hok b u e).stay (fun c v hc q => k c v ?_ q) (fun _ q => q) fun _ _ q => q
    rcases hc with z | z
    · rw [z]; exact nit b u e
    · exact nit c _ z
theorem Inv.tok (I : Inv X pins σ H s) (t : Nat) : Inv X pins σ H { s with toks := t } := I.un (h' := s.heap) (t' := t) Un.refl I.hok
theorem Inv.kept {t' : Nat} (I : Inv X pins σ H s) (k : ∀ b u, s.heap.get? b = some u → h'.get? b = some u) : Inv X pins σ H { s with heap := h', toks := t' } := I.un (Un.kept k) (I.hok.kept k)
theorem Inv.laid {a : Addr} {o : HO} {t' : Nat} (I : Inv X pins σ H s) (k : ∀ b u, s.heap.get? b = some u → h'.get? b = some u) (hp : s.heap.objs.size ≤ a) (new : ObjOk X.prog X.w (upd H a o) h' a o) :
    Inv X pins σ (upd H a o) { s with heap := h', toks := t' } := I.un (Un.laid k hp (I.hok.fresh hp)) (I.hok.laid k hp new)
theorem Inv.write {x e : Addr} {o : HO} {t' : Nat} (I : Inv X pins σ H s) (mu : Mut (H x)) (he : e = x ∨ H e = some (.own x)) (k : ∀ b u, b ≠ e → s.heap.get? b = some u → h'.get? b = some u) (heo : ∃ u, h'.get? e = some u)
    (new : ObjOk X.prog X.w (upd H x o) h' x o) : Inv X pins σ (upd H x o) { s with heap := h', toks := t' } := I.un (Un.write mu he k heo) (I.hok.write mu he k heo new)
theorem Inv.weak {σ' : List (Option V)} (I : Inv X pins σ H s) (hl : σ'.length = σ.length) (w : ∀ (i : Nat) v, σ'[i]? = some (some v) → σ[i]? = some (some v)) : Inv X pins σ' H s :=
  ⟨I.ok, I.os, I.bare, I.base, let ⟨m, hn, hl'⟩ := I.loc; ⟨m, hn, fun i x v e1 e2 e3 => hl' i x v e1 (w i v e2) e3⟩, I.cell, I.free, I.freeC, I.pin, I.hok, hl.trans I.len⟩
theorem Inv.pins_of {pins' : List (Addr × Obj)} (I : Inv X pins σ H s) (h : ∀ p ∈ pins', s.heap.get? p.1 = some p.2 ∧ H p.1 = none ∧ p.1 ≠ X.env.locals ∧ p.1 ∉ X.fs ∧ ∀ v, p.2.data ≠ .cell v) : Inv X pins' σ H s :=
  ⟨I.ok, I.os, I.bare, I.base, I.loc, I.cell, I.free, I.freeC, fun p hp => (List.mem_append.mp hp).elim (fun z => I.pin p (List.mem_append_left _ z)) (h p), I.hok, I.len⟩
theorem nodup_ix {N : List Str} (hN : N.Nodup) {i j : Nat} {x : Str} (a : N[i]? = some x) (b : N[j]? = some x) : i = j := by
  obtain ⟨h1, e1⟩ := List.getElem?_eq_some_iff.mp a
  obtain ⟨h2, e2⟩ := List.getElem?_eq_some_iff.mp b
  exact (List.getElem_inj hN).mp (e1.trans e2.symm)
theorem store_ok2 {M : Model} {A : Around} {E : Value → Shared → Prop} {i : Nat} {x : Str} {v : V} {u : Value} {Q : Unit → Shared → Prop} (I : Inv X pins σ H s) (hN : X.N.Nodup) (hi : X.N[i]? = some x) (hx : Loc X.env.scope x) (r : RelV v u)
    (h : ∀ s', Inv X pins (σ.set i (some v)) H s' → (∃ a, Heap.SameBut a s.heap s'.heap ∧ (a = X.env.locals ∨ X.env.cells.lookup x = some a)) → Q () s') (hf : X.fn x = true ∨ X.env.scope.names.lookup x = some .local := by first | exact .inl rfl | exact .inr rfl | assumption) : wpAny M A (storeName X.env x u) Q E s := by
  obtain ⟨m, hn, hl⟩ := id I.loc
  have hcls : (X.env.scope.kind == .class || (X.env.scope.kind == .module && X.env.locals != X.env.globals)) = false := by rw [I.ok.kind]; rfl
  have hiσ : i < σ.length := by rw [I.len]; exact (List.getElem?_eq_some_iff.mp hi).1
  have cne := I.cne
  have tracked : ∀ {a : Addr} {h' : Heap}, (∃ o, s.heap.get? a = some o ∧ H a = none) → Heap.SameBut a s.heap h' → HOk X.prog X.w H h' := fun {a h'} ha hs b ob e => by
    obtain ⟨_, _, hfree⟩ := ha
    refine (I.hok b ob e).stay (fun c w' hc q => (hs.2 c ?_).trans q) (fun _ q => q) fun _ _ q => q
    rintro rfl
    rcases hc with rfl | hc
    · rw [hfree] at e; cases e
    · rw [hfree] at hc; cases hc
  rcases hx with hk | hk
  · refine wpAny_storeName_local hk hn (fun h' hn' hs => ?_) hcls
    obtain ⟨oL, _, _, hoL, _⟩ := id hn
    refine h _ ⟨I.ok, I.os, I.bare, ⟨fun b o e n hb hx => ?_, fun b o e n hb hx => ?_, I.base.free, fun b o e hx => ?_, I.base.tups, I.base.frzs, I.base.tbls⟩, ⟨_, hn', fun j y v' e1 e2 e3 => ?_⟩, fun y c e => ?_, I.free, I.freeC, fun p hp => ?_, tracked ⟨oL, hoL, I.free⟩ hs, by simpa using I.len⟩ ⟨_, hs, .inl rfl⟩
    · exact (hs.2 b (Nat.ne_of_lt (Nat.lt_of_lt_of_le (Heap.lt_size e) I.ok.above))).trans (I.base.keep b o e n hb hx)
    · obtain ⟨sl, e1⟩ := I.base.slot b o e n hb hx
      exact ⟨sl, (hs.2 b (Nat.ne_of_lt (Nat.lt_of_lt_of_le (Heap.lt_size e) I.ok.above))).trans e1⟩
    · obtain ⟨o', e1⟩ := I.base.there b o e hx
      exact ⟨o', (hs.2 b (Nat.ne_of_lt (Nat.lt_of_lt_of_le (Heap.lt_size e) I.ok.above))).trans e1⟩
    · by_cases hj : j = i
      · subst hj
        rw [hi] at e1; cases e1
        rw [List.getElem?_set_self hiσ] at e2
        cases e2
        exact ⟨u, r, .inl ⟨hk, by simp⟩⟩
      · rw [List.getElem?_set_ne (Ne.symm hj)] at e2
        obtain ⟨u', r', q⟩ := hl j y v' e1 e2 e3
        refine ⟨u', r', ?_⟩
        rcases q with ⟨k, e⟩ | ⟨k, c, e, z⟩
        · refine .inl ⟨k, ?_⟩
          have : y ≠ x := fun e => hj (nodup_ix hN e1 (e ▸ hi))
          simp [this, e]
        · exact .inr ⟨k, c, e, z.sameBut hs (cne y c e)⟩
    · obtain ⟨w', z⟩ := I.cell y c e
      exact ⟨w', z.sameBut hs (cne y c e)⟩
    · obtain ⟨e, n, ne, nf, d⟩ := I.pin p hp
      exact ⟨(hs.2 p.1 ne).trans e, n, ne, nf, d⟩
  · have hfn : X.fn x = true := by
      rcases hf with z | z
      · exact z
      · rw [z] at hk; cases hk
    obtain ⟨c, hc⟩ := I.ok.has x (.inl hk)
    obtain ⟨w', z⟩ := I.cell x c hc
    refine wpAny_storeName_cell I.ok.kind hk hc z (fun h' hc' hs => ?_)
    obtain ⟨oc, hoc, hocd⟩ := id z
    refine h { s with heap := h' } ⟨I.ok, I.os, I.bare, ⟨fun b o e n hb hx => ?_, fun b o e n hb hx => ?_, I.base.free, fun b o e hx => ?_, I.base.tups, I.base.frzs, I.base.tbls⟩, ⟨m, hn.sameBut hs (Ne.symm (cne x c hc)), fun j y v' e1 e2 e3 => ?_⟩, fun y c' e => ?_, I.free, I.freeC, fun p hp => ?_, tracked ⟨oc, hoc, I.freeC x c hc⟩ hs, by simpa using I.len⟩ ⟨c, hs, .inr hc⟩
    · exact (hs.2 b (Nat.ne_of_lt (Nat.lt_of_lt_of_le (Heap.lt_size e) (I.ok.cab x c hfn hc)))).trans (I.base.keep b o e n hb hx)
    · obtain ⟨sl, e1⟩ := I.base.slot b o e n hb hx
      exact ⟨sl, (hs.2 b (Nat.ne_of_lt (Nat.lt_of_lt_of_le (Heap.lt_size e) (I.ok.cab x c hfn hc)))).trans e1⟩
    · obtain ⟨o', e1⟩ := I.base.there b o e hx
      exact ⟨o', (hs.2 b (Nat.ne_of_lt (Nat.lt_of_lt_of_le (Heap.lt_size e) (I.ok.cab x c hfn hc)))).trans e1⟩
    · by_cases hj : j = i
      · subst hj
        rw [hi] at e1; cases e1
        rw [List.getElem?_set_self hiσ] at e2
        cases e2
        exact ⟨u, r, .inr ⟨.inl hk, c, hc, hc'⟩⟩
      · rw [List.getElem?_set_ne (Ne.symm hj)] at e2
        obtain ⟨u', r', q⟩ := hl j y v' e1 e2 e3
        refine ⟨u', r', ?_⟩
        rcases q with q | ⟨k, c', e, z'⟩
        · exact .inl q
        · refine .inr ⟨k, c', e, z'.sameBut hs ?_⟩
          rintro rfl
          exact hj (nodup_ix hN e1 (I.ok.inj _ _ _ e hc ▸ hi))
    · by_cases hcc : c' = c
      · subst hcc; exact ⟨_, hc'⟩
      · obtain ⟨w2, z2⟩ := I.cell y c' e
        exact ⟨w2, z2.sameBut hs hcc⟩
    · obtain ⟨e, n, ne, nf, d⟩ := I.pin p hp
      refine ⟨(hs.2 p.1 ?_).trans e, n, ne, nf, d⟩
      intro q
      rw [q, hoc] at e
      have q' : oc = p.2 := Option.some.inj e
      exact d w' (by rw [← q']; exact hocd)
theorem store_ok {M : Model} {A : Around} {E : Value → Shared → Prop} {i : Nat} {x : Str} {v : V} {u : Value} {Q : Unit → Shared → Prop} (I : Inv X pins σ H s) (hN : X.N.Nodup) (hi : X.N[i]? = some x) (hx : Loc X.env.scope x) (r : RelV v u)
    (h : ∀ s', Inv X pins (σ.set i (some v)) H s' → Q () s') (hf : X.fn x = true ∨ X.env.scope.names.lookup x = some .local := by first | exact .inl rfl | exact .inr rfl | assumption) : wpAny M A (storeName X.env x u) Q E s :=
  store_ok2 I hN hi hx r (fun s' I' _ => h s' I') hf
theorem Inv.call' {s' : Shared} {ch : List Addr} (I : Inv X pins σ H s) (ho : s'.os = s.os) (u : Un (frs X.stack) ch H H' s.heap s'.heap) (hok : HOk X.prog X.w H' s'.heap) (hg : AllBare s'.gens)
    (hch : ∀ b ∈ ch, (b ∈ X.ex ∨ X.s₀.heap.objs.size ≤ b) ∧ b ≠ X.env.locals ∧ (∀ x c, X.env.cells.lookup x = some c → c ≠ b) ∧ ∀ p ∈ X.pn ++ pins, p.1 ≠ b) : Inv X pins σ H' s' := by
  obtain ⟨h', g', d', t', o'⟩ := s'
  have e : o' = s.os := ho
  subst e
  exact I.call (g' := g') (t' := t') (d' := d') u hok hg hch
end
abbrev XK := Value → Option Addr → Hp → Prop
abbrev St := List (Option V)
abbrev VK := V → Hp → Prop
abbrev TE := St → Hp → VK → Prop
abbrev TT := St → Hp → (Bool → Hp → Prop) → Prop
abbrev TA := St → Hp → (List V → Hp → Prop) → Prop
structure Ends where
  nx : St → Hp → Prop
  rt : VK
  bk : St → Hp → Prop := fun _ _ => False
  ct : St → Hp → Prop := fun _ _ => False
abbrev TS := Ends → St → Hp → Prop
def EP (X : Cx) (pins : List (Addr × Obj)) (σ : St) (Q : VK) (u : Value) (s' : Shared) : Prop := ∃ v H', Inv X pins σ H' s' ∧ RelV v u ∧ Q v H'
def TP (X : Cx) (pins : List (Addr × Obj)) (σ : St) (Q : Bool → Hp → Prop) (b : Bool) (s' : Shared) : Prop := ∃ H', Inv X pins σ H' s' ∧ Q b H'
def AP (X : Cx) (pins : List (Addr × Obj)) (σ : St) (Q : List V → Hp → Prop) (us : List Value) (s' : Shared) : Prop := ∃ vs H', Inv X pins σ H' s' ∧ Vals vs us ∧ Q vs H'
def SP (X : Cx) (pins : List (Addr × Obj)) (D : Ends) (f : Flow) (s' : Shared) : Prop :=
  match f with
  | .next => ∃ σ' H', Inv X pins σ' H' s' ∧ D.nx σ' H'
  | .brk => ∃ σ' H', Inv X pins σ' H' s' ∧ D.bk σ' H'
  | .cont => ∃ σ' H', Inv X pins σ' H' s' ∧ D.ct σ' H'
  | .ret u => ∃ v σ' H', Inv X pins σ' H' s' ∧ RelV v u ∧ D.rt v H'
def PE (X : Cx) (e : Expr) (t : TE) : Prop :=
  ∀ (pins : List (Addr × Obj)) (s : Shared) (σ : St) (H : Hp) (Q : VK), Inv X pins σ H s → t σ H Q → wpAny (model X.prog X.w) X.A (eval e X.env) (EP X pins σ Q) X.xe s
def PT (X : Cx) (e : Expr) (t : TT) : Prop :=
  ∀ (pins : List (Addr × Obj)) (s : Shared) (σ : St) (H : Hp) (Q : Bool → Hp → Prop), Inv X pins σ H s → t σ H Q → wpAny (model X.prog X.w) X.A (isTrue e X.env (eval e X.env)) (TP X pins σ Q) X.xe s
def PW (X : Cx) (e : Expr) (t : TT) : Prop :=
  ∀ (whole : Sem Value) (pins : List (Addr × Obj)) (s : Shared) (σ : St) (H : Hp) (Q : Bool → Hp → Prop), Inv X pins σ H s → t σ H Q → wpAny (model X.prog X.w) X.A (isTrue e X.env whole) (TP X pins σ Q) X.xe s
theorem PW.pt {X : Cx} {e : Expr} {t : TT} (h : PW X e t) : PT X e t := h _
def PA (X : Cx) (es : List Expr) (t : TA) : Prop :=
  ∀ (pos : Pos) (pins : List (Addr × Obj)) (s : Shared) (σ : St) (H : Hp) (Q : List V → Hp → Prop), Inv X pins σ H s → t σ H Q → wpAny (model X.prog X.w) X.A (spliced (backTo pos (starEach es X.env))) (AP X pins σ Q) X.xe s
def PS (X : Cx) (st : Stmt) (t : TS) : Prop :=
  ∀ (pins : List (Addr × Obj)) (s : Shared) (σ : St) (H : Hp) (D : Ends), Inv X pins σ H s → t D σ H → wpAny (model X.prog X.w) X.A (exec st X.env) (SP X pins D) X.xe s
def PSs (X : Cx) (st : List Stmt) (t : TS) : Prop :=
  ∀ (pins : List (Addr × Obj)) (s : Shared) (σ : St) (H : Hp) (D : Ends), Inv X pins σ H s → t D σ H → wpAny (model X.prog X.w) X.A (execs st X.env) (SP X pins D) X.xe s
theorem thn {α : Type} {t : Sem α} {Q Q' : α → Shared → Prop} {M : Model} {A : Around} {E : Value → Shared → Prop} {s : Shared} (h : wpAny M A t Q E s) (hQ : ∀ a s, Q a s → Q' a s) : wpAny M A t Q' E s := wpAny_mono h hQ fun _ _ x => x
end L2
namespace L2
open PySem PySem.Spec PyProof.Rows
section
variable {X : Cx}
abbrev tVar (i : Nat) : TE := fun σ H Q => ∃ v, σ[i]? = some (some v) ∧ Q v H
abbrev tC (v : V) : TE := fun _ H Q => Q v H
theorem pe_var {i : Nat} {x : Str} {pos : Pos} (hN : X.N[i]? = some x) (hv : Vis X.env.scope x) (hd : (x == ("__debug__" : Str)) = false := by decide) (hcd : (x == ("__classdict__" : Str)) = false := by decide) : PE X (.Name x pos) (tVar i) := by
  intro pins s σ H Q I h
  obtain ⟨v, e, h⟩ := h
  obtain ⟨m, hn, hl⟩ := I.loc
  obtain ⟨u, r, l⟩ := hl i x v hN e hv
  have fin : EP X pins σ Q u s := ⟨v, H, I, r, h⟩
  rcases l with ⟨hk, hm⟩ | ⟨hk, c, hc, hcell⟩
  · exact wpAny_Name (wpAny_loadName_local I.ok.kind hk hn hm fin) hd
  · rcases hk with hk | hk
    · exact wpAny_Name (wpAny_loadName_cell I.ok.kind hk hc hcell fin) hd
    · exact wpAny_Name (wpAny_loadName_free I.ok.kind hk hc hcell fin hcd) hd
theorem pe_int {i j pos} : PE X (.Constant (.int i) j pos) (tC (.int i)) := fun _ _ _ H _ I h => wpAny_Constant_int ⟨.int i, H, I.tok _, ⟨_, rfl⟩, h⟩
theorem pe_bl {b j pos} : PE X (.Constant (.bool b) j pos) (tC (.bl b)) := fun _ _ _ H _ I h => Constant_bool ⟨.bl b, H, I, rfl, h⟩
theorem pe_str {x j pos} : PE X (.Constant (.str x) j pos) (tC (.str x)) := fun _ _ _ H _ I h => Calls.Constant_str ⟨.str x, H, I.tok _, ⟨_, rfl⟩, h⟩
def Gl (X : Cx) (x : Str) : Prop := X.env.kindOf x = some .globalImplicit
theorem ld_glob {E : Value → Shared → Prop} {pins : List (Addr × Obj)} {s : Shared} {σ : St} {H : Hp} {x : Str} {u : Value} {pos : Pos} {Q : Value → Shared → Prop} (I : Inv X pins σ H s) (hg : Gl X x) (hm : X.mg x = some u) (h : Q u s)
    (hd : (x == ("__debug__" : Str)) = false := by decide) : wpAny (model X.prog X.w) X.A (eval (.Name x pos) X.env) Q E s :=
  Calls.Name_function_global I.ok.kind hg (Calls.loadGlobal_global (by rw [I.ok.glob]; exact I.mod.glob.keeps I.bk) hm h) hd
theorem ld_blt {E : Value → Shared → Prop} {pins : List (Addr × Obj)} {s : Shared} {σ : St} {H : Hp} {x : Str} {u : Value} {pos : Pos} {Q : Value → Shared → Prop} (I : Inv X pins σ H s) (hg : Gl X x) (hm : X.mg x = none) (hv : bootBuiltins x = some u) (h : Q u s)
    (hn : x ≠ "__name__" := by decide) (hd : (x == ("__debug__" : Str)) = false := by decide) : wpAny (model X.prog X.w) X.A (eval (.Name x pos) X.env) Q E s := by
  obtain ⟨mb, h1, h2⟩ := I.mod.blt
  exact Calls.Name_function_global I.ok.kind hg (Calls.loadGlobal_builtin (by rw [I.ok.glob]; exact I.mod.glob.keeps I.bk) hm (by rw [I.ok.blt]; exact h1.keeps I.bk) ((h2 x hn).trans hv) h) hd
theorem pe_bltn {x : Str} {v : V} {u : Value} {pos : Pos} (hg : Gl X x) (hm : X.mg x = none) (hv : bootBuiltins x = some u) (r : RelV v u) (hn : x ≠ "__name__" := by decide) (hd : (x == ("__debug__" : Str)) = false := by decide) : PE X (.Name x pos) (tC v) :=
  fun _ _ _ H _ I h => ld_blt I hg hm hv ⟨v, H, I, r, h⟩ hn hd
variable {a b : Expr} {ta tb : TE} {pos : Pos}
def PC (X : Cx) (op : CmpOp) (a b : Expr) (t : TE) : Prop :=
  ∀ (pins : List (Addr × Obj)) (s : Shared) (σ : St) (H : Hp) (Q : VK), Inv X pins σ H s → t σ H Q →
    wpAny (model X.prog X.w) X.A (eval a X.env) (fun v s₁ => wpAny (model X.prog X.w) X.A (eval b X.env) (fun u s₂ => wpAny (model X.prog X.w) X.A (compareOp op v u) (EP X pins σ Q) X.xe s₂) X.xe s₁) X.xe s
theorem nobehind (b : Expr) {op : CmpOp} (h : op ≠ .In) (h2 : op ≠ .NotIn) : behindInMarks op b = false := by
  have e1 : (op == CmpOp.In) = false := by cases op <;> first | rfl | exact absurd rfl h
  have e2 : (op == CmpOp.NotIn) = false := by cases op <;> first | rfl | exact absurd rfl h2
  cases b <;> simp [behindInMarks, e1, e2]
def tB (t : TE) : TT := fun σ H Q => t σ H fun x H1 => ∃ c, x = .bl c ∧ Q c H1
theorem pt_cmp {op : CmpOp} {t : TE} (h : PC X op a b t) (h1 : behindInMarks op b = false := by first | exact nobehind _ (by decide) (by decide) | rfl) : PT X (.Compare a [op] [b] pos) (tB t) := by
  intro pins s σ H Q I hw
  refine wpAny_isTrue_Compare1 (thn (h pins s σ H _ I hw) fun v s1 h1 => thn h1 fun u s2 h2 => thn h2 fun c s3 ⟨x, H1, I1, r1, q1⟩ => ?_) h1
  obtain ⟨d, rfl, q⟩ := q1
  cases r1
  exact wpAny_truthy_bool ⟨H1, I1, q⟩
variable {tA tB' : TT} {rest : List Expr}
abbrev tAnd (t u : TT) : TT := fun σ H Q => t σ H fun c H1 => if c = true then u σ H1 Q else Q false H1
abbrev tOr (t u : TT) : TT := fun σ H Q => t σ H fun c H1 => if c = true then Q true H1 else u σ H1 Q
abbrev tNot (t : TT) : TT := fun σ H Q => t σ H fun c H1 => Q (!c) H1
theorem pw_and1 (ha : PT X a tA) : PW X (.BoolOp .And [a] pos) tA := by
  intro wh pins s σ H Q I h
  refine isTrue_and (thn (ha pins s σ H Q I h) fun c s1 e => ?_)
  cases c with
  | true => exact isTrue_and_nil e
  | false => exact e
theorem pw_or1 (ha : PT X a tA) : PW X (.BoolOp .Or [a] pos) tA := by
  intro wh pins s σ H Q I h
  refine isTrue_or (thn (ha pins s σ H Q I h) fun c s1 e => ?_)
  cases c with
  | false => exact isTrue_or_nil e
  | true => exact e
theorem pw_and (ha : PT X a tA) (hb : PW X (.BoolOp .And (b :: rest) pos) tB') : PW X (.BoolOp .And (a :: b :: rest) pos) (tAnd tA tB') := by
  intro wh pins s σ H Q I h
  refine isTrue_and (thn (ha pins s σ H _ I h) fun c s1 ⟨H1, I1, q1⟩ => ?_)
  cases c with
  | true => exact hb wh pins s1 σ H1 Q I1 q1
  | false => exact ⟨H1, I1, q1⟩
theorem pw_or (ha : PT X a tA) (hb : PW X (.BoolOp .Or (b :: rest) pos) tB') : PW X (.BoolOp .Or (a :: b :: rest) pos) (tOr tA tB') := by
  intro wh pins s σ H Q I h
  refine isTrue_or (thn (ha pins s σ H _ I h) fun c s1 ⟨H1, I1, q1⟩ => ?_)
  cases c with
  | true => exact ⟨H1, I1, q1⟩
  | false => exact hb wh pins s1 σ H1 Q I1 q1
theorem pt_not (ha : PT X a tA) : PT X (.UnaryOp .Not a pos) (tNot tA) := by
  intro pins s σ H Q I h
  exact isTrue_not (ha pins s σ H (fun c H1 => Q (!c) H1) I h)
abbrev tAndV (ta tb : TE) : TE := fun σ H Q => ta σ H fun x H1 => ∃ c, x = .bl c ∧ if c = true then tb σ H1 Q else Q (.bl false) H1
theorem pe_one {op} {t : TE} (h : PE X a t) : PE X (.BoolOp op [a] pos) t := fun pins s σ H Q I hw => BoolOp_one (h pins s σ H Q I hw)
theorem pe_and (ha : PE X a ta) (hb : PE X (.BoolOp .And (b :: rest) pos) tb) : PE X (.BoolOp .And (a :: b :: rest) pos) (tAndV ta tb) := by
  intro pins s σ H Q I h
  refine BoolOp_and (thn (ha pins s σ H _ I h) fun v s1 ⟨x, H1, I1, r1, q1⟩ => ?_)
  obtain ⟨c, rfl, q1⟩ := q1
  cases r1
  refine wpAny_truthy_bool ?_
  cases c with
  | true => exact hb pins s1 σ H1 Q I1 q1
  | false => exact ⟨.bl false, H1, I1, rfl, q1⟩
end
end L2
namespace L2
open PySem PySem.Spec PyProof.Rows
def SqL (K : PySem.W.Frag) (H : Hp) (a : Addr) (xs : List V) : Prop :=
  Rd H a (.lst xs) ∨
    ∃ (o : Obj) (its : Array Value) (n : Nat), K.lookup a = some o ∧ o.cls = .type "list" ∧ o.dict = none ∧ o.data = .seq its n ∧ its.size ≤ sizeLine ∧ Vals xs its.toList
def SqT (K : PySem.W.Frag) (H : Hp) (a : Addr) (xs : List V) : Prop :=
  Rd H a (.tup xs) ∨
    ∃ (o : Obj) (its : Array Value) (n : Nat), K.lookup a = some o ∧ o.cls = .type "tuple" ∧ o.data = .seq its n ∧ its.size ≤ sizeLine ∧ Vals xs its.toList
def absV : Value → Option V
  | .none => some .non
  | .bool b => some (.bl b)
  | .int i _ => some (.int i)
  | .str x _ => some (.str x)
  | .bytes b _ => some (.byt b)
  | .float b _ => some (.flt b)
  | .ref a => some (.ref a)
  | .type n => some (.ty n)
  | _ => none
theorem RelV.abs {x : V} {u : Value} (r : RelV x u) : absV u = some x := by
  cases x with
  | non => cases r; rfl
  | bl _ => cases r; rfl
  | int _ => obtain ⟨t, rfl⟩ := r; rfl
  | str _ => obtain ⟨t, rfl⟩ := r; rfl
  | byt _ => obtain ⟨t, rfl⟩ := r; rfl
  | flt _ => obtain ⟨t, rfl⟩ := r; rfl
  | ref _ => cases r; rfl
  | ty _ => cases r; rfl
theorem RelV.inj {x y : V} {u : Value} (r : RelV x u) (q : RelV y u) : x = y := Option.some.inj (r.abs.symm.trans q.abs)
theorem Vals.inj : ∀ {xs ys : List V} {us : List Value}, Vals xs us → Vals ys us → xs = ys
  | _, _, _, .nil, .nil => rfl
  | _, _, _, .cons r t, .cons r' t' => by rw [r.inj r', Vals.inj t t']
section
variable {X : Cx} {pins : List (Addr × Obj)} {σ : St} {H : Hp} {s : Shared} {a : Addr} {xs ys : List V}
theorem SqL.of {K : PySem.W.Frag} (h : H a = some (.lst xs)) : SqL K H a xs := .inl (.inl h)
theorem SqT.of {K : PySem.W.Frag} (h : H a = some (.tup xs)) : SqT K H a xs := .inl (.inl h)
theorem Inv.list (I : Inv X pins σ H s) (h : SqL X.K H a xs) : ∃ its : List Value, Vals xs its ∧ PlainL s.heap a its.toArray ∧ xs.length ≤ sizeLine := by
  rcases h with h | ⟨o, its, n, hk, hc, hd, hs, hz, r⟩
  · obtain ⟨z, its, n, r, e⟩ := h.ok I.hok
    exact ⟨its, r, ⟨_, n, e, rfl, rfl, rfl⟩, z⟩
  · refine ⟨its.toList, r, ⟨o, n, I.kIn a o hk, hc, hd, by simpa using hs⟩, ?_⟩
    have e := r.length
    simp only [Array.length_toList] at e
    omega
theorem Inv.tuple (I : Inv X pins σ H s) (h : SqT X.K H a xs) : ∃ its : List Value, Vals xs its ∧ IsTup s.heap a its.toArray ∧ xs.length ≤ sizeLine := by
  rcases h with h | ⟨o, its, n, hk, hc, hs, hz, r⟩
  · obtain ⟨z, its, r, p⟩ := h.ok I.hok
    exact ⟨its, r, p, z⟩
  · refine ⟨its.toList, r, ⟨o, I.kIn a o hk, hc, n, by simpa using hs⟩, ?_⟩
    have e := r.length
    simp only [Array.length_toList] at e
    omega
theorem Inv.list_inj (I : Inv X pins σ H s) (h : SqL X.K H a xs) (h' : SqL X.K H a ys) : xs = ys := by
  obtain ⟨its, r, ⟨o, n, e, _, _, d⟩, _⟩ := I.list h
  obtain ⟨its', r', ⟨o', n', e', _, _, d'⟩, _⟩ := I.list h'
  rw [e] at e'; cases e'
  rw [d] at d'
  injection d' with d1 _
  have : its = its' := by simpa using congrArg Array.toList d1
  subst this
  exact r.inj r'
theorem Inv.tuple_inj (I : Inv X pins σ H s) (h : SqT X.K H a xs) (h' : SqT X.K H a ys) : xs = ys := by
  obtain ⟨its, r, ⟨o, e, _, n, d⟩, _⟩ := I.tuple h
  obtain ⟨its', r', ⟨o', e', _, n', d'⟩, _⟩ := I.tuple h'
  rw [e] at e'; cases e'
  rw [d] at d'
  injection d' with d1 _
  have : its = its' := by simpa using congrArg Array.toList d1
  subst this
  exact r.inj r'
end
abbrev Cx.wish (X : Cx) (E : Value → Shared → Prop) : Cx := { X with xe := E }
abbrev Cx.nox (X : Cx) : Cx := X.wish fun _ _ => False
theorem Cx.Ok.wish {X : Cx} (ok : X.Ok) (E : Value → Shared → Prop) : (X.wish E).Ok :=
  ⟨ok.mod, ok.kind, ok.glob, ok.blt, ok.above, ok.inj, ok.has, ok.cab, ok.hd, ok.frames, ok.stk, ok.exf, ok.bs, ok.bsz, ok.noex, ok.exfs, ok.funs, ok.frf⟩
theorem Cx.Ok.unwish {X : Cx} {E : Value → Shared → Prop} (ok : (X.wish E).Ok) : X.Ok :=
  ⟨ok.mod, ok.kind, ok.glob, ok.blt, ok.above, ok.inj, ok.has, ok.cab, ok.hd, ok.frames, ok.stk, ok.exf, ok.bs, ok.bsz, ok.noex, ok.exfs, ok.funs, ok.frf⟩
section
variable {X : Cx} {pins : List (Addr × Obj)} {σ : St} {H : Hp} {s : Shared} {E : Value → Shared → Prop}
theorem Inv.wish (I : Inv X pins σ H s) (E : Value → Shared → Prop) : Inv (X.wish E) pins σ H s := ⟨I.ok.wish E, I.os, I.bare, I.base, I.loc, I.cell, I.free, I.freeC, I.pin, I.hok, I.len⟩
theorem Inv.unwish (I : Inv (X.wish E) pins σ H s) : Inv X pins σ H s := ⟨I.ok.unwish, I.os, I.bare, I.base, I.loc, I.cell, I.free, I.freeC, I.pin, I.hok, I.len⟩
theorem SP.unwish {D : Ends} {f : Flow} {s' : Shared} (h : SP (X.wish E) pins D f s') : SP X pins D f s' := by
  cases f with
  | next => obtain ⟨σ', H', I, q⟩ := h; exact ⟨σ', H', I.unwish, q⟩
  | brk => obtain ⟨σ', H', I, q⟩ := h; exact ⟨σ', H', I.unwish, q⟩
  | cont => obtain ⟨σ', H', I, q⟩ := h; exact ⟨σ', H', I.unwish, q⟩
  | ret u => obtain ⟨v, σ', H', I, r, q⟩ := h; exact ⟨v, σ', H', I.unwish, r, q⟩
theorem PE.nox {e : Expr} {t : TE} (h : PE X.nox e t) : PE X e t := fun pins s σ H Q I hw =>
  wpAny_mono (h pins s σ H Q (I.wish _) hw) (fun _ _ ⟨v, H', I', r, q⟩ => ⟨v, H', I'.unwish, r, q⟩) fun _ _ z => False.elim z
theorem PT.nox {e : Expr} {t : TT} (h : PT X.nox e t) : PT X e t := fun pins s σ H Q I hw =>
  wpAny_mono (h pins s σ H Q (I.wish _) hw) (fun _ _ ⟨H', I', q⟩ => ⟨H', I'.unwish, q⟩) fun _ _ z => False.elim z
theorem PSs.nox {st : List Stmt} {t : TS} (h : PSs X.nox st t) : PSs X st t := fun pins s σ H D I hw =>
  wpAny_mono (h pins s σ H D (I.wish _) hw) (fun _ _ q => q.unwish) fun _ _ z => False.elim z
end
section
variable {X : Cx} {st : Stmt} {rest : List Stmt} {t u : TS} {e : Expr} {te : TE} {pos : Pos}
abbrev tNext : TS := fun D σ H => D.nx σ H
abbrev tSeq (t u : TS) : TS := fun D σ H => t { D with nx := u D } σ H
theorem pss_nil : PSs X [] tNext := fun _ _ σ H _ I h => wpAny_execs_nil ⟨σ, H, I, h⟩
theorem pss_cons (h1 : PS X st t) (h2 : PSs X rest u) : PSs X (st :: rest) (tSeq t u) := by
  intro pins s σ H D I h
  refine wpAny_execs_cons (thn (h1 pins s σ H { D with nx := u D } I h) fun f s1 q => ?_)
  cases f with
  | next =>
    obtain ⟨σ', H', I', q⟩ := q
    exact h2 pins s1 σ' H' D I' q
  | ret v => exact q
  | brk => exact q
  | cont => exact q
theorem Inv.quiet {pins : List (Addr × Obj)} {σ : St} {H : Hp} {s : Shared} (I : Inv X pins σ H s) : interactive X.env = false := by simp [interactive, I.ok.kind]
abbrev tDrop (te : TE) : TS := fun D σ H => te σ H fun _ H1 => D.nx σ H1
theorem ps_expr (he : PE X e te) (hs : swapsWith e none pos.line X.env = pure false := by rfl) : PS X (.Expr e pos) (tDrop te) := by
  intro pins s σ H D I h
  exact wpAny_Expr_any (thn (he pins s σ H _ I h) fun v s1 ⟨x, H1, I1, r1, q1⟩ => ⟨σ, H1, I1, q1⟩) I.quiet hs
abbrev tRet (te : TE) : TS := fun D σ H => te σ H D.rt
theorem ps_ret (he : PE X e te) : PS X (.Return (some e) pos) (tRet te) := by
  intro pins s σ H D I h
  exact wpAny_Return_some (thn (he pins s σ H _ I h) fun v s1 ⟨x, H1, I1, r1, q1⟩ => ⟨x, σ, H1, I1, r1, q1⟩)
abbrev tIfS (c : TT) (t u : TS) : TS := fun D σ H => c σ H fun b H1 => if b = true then t D σ H1 else u D σ H1
theorem ps_if {c : Expr} {a b : List Stmt} {tc : TT} (hc : PT X c tc) (ha : PSs X a t) (hb : PSs X b u) : PS X (.If c a b pos) (tIfS tc t u) := by
  intro pins s σ H D I h
  refine wpAny_If (thn (hc pins s σ H _ I h) fun d s1 ⟨H1, I1, q1⟩ => ?_)
  cases d with
  | true => exact ha pins s1 σ H1 D I1 q1
  | false => exact hb pins s1 σ H1 D I1 q1
end
abbrev TG := V → St → Hp → (St → Hp → Prop) → Prop
abbrev TGs := List V → St → Hp → (St → Hp → Prop) → Prop
def PG (X : Cx) (target : Expr) (t : TG) : Prop :=
  ∀ (pins : List (Addr × Obj)) (s : Shared) (σ : St) (H : Hp) (v : V) (u : Value) (Q : St → Hp → Prop), Inv X pins σ H s → RelV v u → t v σ H Q →
    wpAny (model X.prog X.w) X.A (assign target X.env u) (fun _ s' => ∃ σ' H', Inv X pins σ' H' s' ∧ Q σ' H') X.xe s
def PGs (X : Cx) (ts : List Expr) (t : TGs) : Prop :=
  ∀ (pins : List (Addr × Obj)) (s : Shared) (σ : St) (H : Hp) (vs : List V) (us : List Value) (Q : St → Hp → Prop), Inv X pins σ H s → Vals vs us → t vs σ H Q →
    wpAny (model X.prog X.w) X.A (assignInOrder ((assignEach ts X.env).map (·.2)) us) (fun _ s' => ∃ σ' H', Inv X pins σ' H' s' ∧ Q σ' H') X.xe s
section
variable {X : Cx} {pos : Pos}
abbrev gName (i : Nat) : TG := fun v σ H Q => Q (σ.set i (some v)) H
theorem pg_name {i : Nat} {x : Str} (hN : X.N.Nodup) (hi : X.N[i]? = some x) (hx : Loc X.env.scope x) (hf : X.fn x = true ∨ X.env.scope.names.lookup x = some .local := by first | exact .inl rfl | exact .inr rfl | assumption) : PG X (.Name x pos) (gName i) := by
  intro pins s σ H v u Q I r h
  exact wpAny_assign_Name (store_ok I hN hi hx r (fun s' I' => ⟨_, H, I', h⟩) hf)
def gNil : TGs := fun vs σ H Q => vs = [] ∧ Q σ H
def gCons (t : TG) (u : TGs) : TGs := fun vs σ H Q => ∃ v r, vs = v :: r ∧ t v σ H fun σ' H' => u r σ' H' Q
theorem pgs_nil : PGs X [] gNil := by
  intro pins s σ H vs us Q I r h
  obtain ⟨e, h⟩ := h
  subst e
  cases r
  exact assignInOrder_nil ⟨σ, H, I, h⟩
theorem pgs_cons {e : Expr} {es : List Expr} {t : TG} {u : TGs} (h1 : PG X e t) (h2 : PGs X es u)
    (hs : (assignEach (e :: es) X.env).map (·.2) = assign e X.env :: (assignEach es X.env).map (·.2) := by rfl) : PGs X (e :: es) (gCons t u) := by
  intro pins s σ H vs us Q I r h
  obtain ⟨v, vr, e1, h⟩ := h
  subst e1
  cases r with
  | cons r rr =>
    rw [hs]
    refine assignInOrder_cons (thn (h1 pins s σ H _ _ _ I r h) fun _ s1 ⟨σ1, H1, I1, q1⟩ => ?_)
    exact h2 pins s1 σ1 H1 _ _ Q I1 rr q1
def gTup (K : PySem.W.Frag) (n : Nat) (t : TGs) : TG := fun v σ H Q => ∃ a xs, v = .ref a ∧ SqT K H a xs ∧ xs.length = n ∧ t xs σ H Q
theorem pg_tup {es : List Expr} {k : Nat} {t : TGs} {n : Nat} (hc : X.calm = true) (h : PGs X es t)
    (hn : (assignEach es X.env).length = n := by rfl) (hst : (assignEach es X.env).findIdx? (·.1) = none := by rfl) : PG X (.Tuple es k pos) (gTup X.K n t) := by
  intro pins s σ H v u Q I r hw
  obtain ⟨a, xs, e1, hq, hl, hw⟩ := hw
  subst e1
  cases r
  obtain ⟨its, rv, ht, hz⟩ := I.tuple hq
  refine assign_Tuple_tuple (I.ok.hd hc) ht (by simp [hn, ← hl, rv.length]) hst fun h' hx => ?_
  have I1 : Inv X pins σ H { s with heap := h' } := I.kept (t' := s.toks) fun b o e => hx b o (Nat.ne_of_lt (Heap.lt_size e)) e
  exact h pins _ σ H xs _ Q I1 (by simpa using rv) hw
abbrev tAsg (te : TE) (g : TG) : TS := fun D σ H => te σ H fun x H1 => g x σ H1 D.nx
theorem ps_asg {tg e : Expr} {te : TE} {g : TG} (he : PE X e te) (hg : PG X tg g) (hs : swapsWithSole [tg] e pos.line X.env = pure false := by rfl) (hw : swappedStores [tg] e X.env = pure none := by rfl)
    (h1 : (assignEach [tg] X.env).map (·.2) = [assign tg X.env] := by rfl) : PS X (.Assign [tg] e pos) (tAsg te g) := by
  intro pins s σ H D I h
  refine wpAny_Assign_stores (thn (he pins s σ H _ I h) fun v s1 ⟨x, H1, I1, r1, q1⟩ => ?_) hs hw
  rw [h1]
  exact thn (hg pins s1 σ H1 x v _ I1 r1 q1) fun _ s2 q => q
theorem ps_set {i : Nat} {x : Str} {e : Expr} {te : TE} {pos' : Pos} (hN : X.N.Nodup) (hi : X.N[i]? = some x) (hx : Loc X.env.scope x) (he : PE X e te) (hs : swapsWith e (some (.Name x pos')) pos.line X.env = pure false := by rfl) (hf : X.fn x = true ∨ X.env.scope.names.lookup x = some .local := by first | exact .inl rfl | exact .inr rfl | assumption) :
    PS X (.Assign [.Name x pos'] e pos) (tAsg te (gName i)) := by
  intro pins s σ H D I h
  refine wpAny_Assign_Name (thn (he pins s σ H _ I h) fun v s1 ⟨y, H1, I1, r1, q1⟩ => ?_) hs
  exact store_ok I1 hN hi hx r1 (fun s2 I2 => ⟨_, H1, I2, q1⟩) hf
end
section
variable {X : Cx} {pos : Pos}
end
structure It where
  go : Nat → Hp → Prop
  yld : Nat → Hp → V → Hp → Prop
  stop : Nat → Hp → Prop
def FpOk (X : Cx) (pins : List (Addr × Obj)) (H : Hp) (b : Addr) : Prop :=
  H b = none ∧ b ≠ X.env.locals ∧ b ∉ X.fs ∧ (b ∈ X.ex ∨ X.s₀.heap.objs.size ≤ b) ∧ (∀ x c, X.env.cells.lookup x = some c → c ≠ b) ∧ ∀ p ∈ X.pn ++ pins, p.1 ≠ b
theorem Inv.fpOk {X : Cx} {pins : List (Addr × Obj)} {σ : St} {H H' : Hp} {s : Shared} {b : Addr} (I : Inv X pins σ H s) (hb : s.heap.objs.size ≤ b) (hn : H' b = none) : FpOk X pins H' b := by
  refine ⟨hn, Nat.ne_of_gt (Nat.lt_of_lt_of_le I.lt hb), I.nofs hb, .inr (Nat.le_trans I.sz hb), fun x c e z => ?_, fun p hp z => ?_⟩
  · obtain ⟨v, q⟩ := I.cell x c e
    exact absurd (Nat.lt_of_lt_of_le q.lt (by rw [z]; exact hb)) (Nat.lt_irrefl _)
  · exact absurd (Nat.lt_of_lt_of_le (Heap.lt_size (I.pin p hp).1) (by rw [z]; exact hb)) (Nat.lt_irrefl _)
structure Turn (P : Program) (w : World) (K : PySem.W.Frag) (tg : Expr) (J : It) (fp : List Addr) (it : Addr) (tn : Nat → Heap → Prop) : Prop where
  mem : it ∈ fp
  obj : ∀ i h, tn i h → ∀ b ∈ fp, ∃ o, h.get? b = some o ∧ ∀ v, o.data ≠ .cell v
  keep : ∀ i h h', tn i h → (∀ b ∈ fp, ∀ o, h.get? b = some o → h'.get? b = some o) → tn i h'
  item : ∀ (X : Cx), X.prog = P → X.w = w → X.K = K → X.calm = true → ∀ (i : Nat) (pins : List (Addr × Obj)) (s : Shared) (σ : St) (H : Hp) (E : Value → Shared → Prop), Inv X pins σ H s → (∀ b ∈ fp, FpOk X pins H b) → tn i s.heap → J.go i H →
    wpAny (model P w) X.A (pyNext (.ref it)) (fun r s1 => ∃ u, r = some u ∧
      wpAny (model P w) X.A (letOwnedTupleGo tg (.ref it) u) (fun _ s2 => ∃ x H', Inv X pins σ H' s2 ∧ RelV x u ∧ J.yld i H x H' ∧ tn (i + 1) s2.heap ∧ ∀ b ∈ fp, H' b = none) E s1) E s
  done : ∀ (X : Cx), X.prog = P → X.w = w → X.K = K → X.calm = true → ∀ (i : Nat) (pins : List (Addr × Obj)) (s : Shared) (σ : St) (H : Hp) (E : Value → Shared → Prop), Inv X pins σ H s → (∀ b ∈ fp, FpOk X pins H b) → tn i s.heap → J.stop i H →
    wpAny (model P w) X.A (pyNext (.ref it)) (fun r s1 => r = none ∧ Inv X pins σ H s1) E s
  self : ∀ (A : Around) (i : Nat) (s : Shared) (Q : Value → Shared → Prop) (E : Value → Shared → Prop), tn i s.heap → Q (.ref it) s → wpAny (model P w) A (pyIter (.ref it)) Q E s
abbrev TI := St → Hp → (It → Hp → Prop) → Prop
def PIE (X : Cx) (pins : List (Addr × Obj)) (σ : St) (tg : Expr) (R : It → Hp → Prop) (itv : Value) (s2 : Shared) : Prop :=
  ∃ (it : Addr) (fp : List Addr) (tn : Nat → Heap → Prop) (J : It) (H' : Hp), itv = .ref it ∧ Inv X pins σ H' s2 ∧ Turn X.prog X.w X.K tg J fp it tn ∧ tn 0 s2.heap ∧ (∀ b ∈ fp, FpOk X pins H' b) ∧ R J H'
def PI (X : Cx) (tg iter : Expr) (wi : TI) : Prop :=
  ∀ (pins : List (Addr × Obj)) (s : Shared) (σ : St) (H : Hp) (R : It → Hp → Prop), Inv X pins σ H s → wi σ H R →
    wpAny (model X.prog X.w) X.A (eval iter X.env) (fun v s1 => wpAny (model X.prog X.w) X.A (pyIter v) (PIE X pins σ tg R) X.xe s1) X.xe s
theorem go_of {M : Model} {A : Around} {E : Value → Shared → Prop} {s : Shared} {tg : Expr} {it : Addr} {u : Value} {o : Obj} {n : String} {vs : Array Value} {Q : Unit → Shared → Prop} (ho : s.heap.get? it = some o) (hc : o.cls = .type n) (hd : o.data = .fields vs)
    (hn : ["enumerate", "zip", "dict_itemiterator", "dict_reverseitemiterator", "odict_iterator", "itertools.zip_longest", "itertools.pairwise"].contains n = false) (hQ : Q () s) : wpAny M A (letOwnedTupleGo tg (.ref it) u) Q E s := by
  unfold letOwnedTupleGo
  cases tg <;> first
    | exact wpAny_pure hQ
    | (cases u <;> first
        | exact wpAny_pure hQ
        | (refine wpAny_bind (wpAny_load ho ?_)
           rw [hc, hd]
           show wpAny M A (if (["enumerate", "zip", "dict_itemiterator", "dict_reverseitemiterator", "odict_iterator", "itertools.zip_longest", "itertools.pairwise"].contains n && vs[0]? == some (rawInt _)) = true then _ else _) Q E s
           rw [if_neg (by intro h; rw [hn, Bool.false_and] at h; cases h)]
           exact wpAny_pure hQ))
def Itl (K : PySem.W.Frag) (a : Addr) : It :=
  ⟨fun i H => ∃ xs x, SqL K H a xs ∧ xs[i]? = some x, fun i H x H' => H' = H ∧ ∀ xs, SqL K H a xs → xs[i]? = some x, fun i H => ∃ xs, SqL K H a xs ∧ xs.length ≤ i⟩
def Itt (K : PySem.W.Frag) (a : Addr) : It :=
  ⟨fun i H => ∃ xs x, SqT K H a xs ∧ xs[i]? = some x, fun i H x H' => H' = H ∧ ∀ xs, SqT K H a xs → xs[i]? = some x, fun i H => ∃ xs, SqT K H a xs ∧ xs.length ≤ i⟩
def Itr (lo : Int) (n : Nat) : It := ⟨fun i _ => i < n, fun i H x H' => H' = H ∧ x = .int (lo + i), fun i _ => n ≤ i⟩
theorem turn_list {P : Program} {w : World} {K : PySem.W.Frag} {tg : Expr} (a it : Addr) : Turn P w K tg (Itl K a) [it] it (fun i h => h.IsListIter it a i) where
  mem := by simp
  obj := fun i h st b hb => by
    have e : b = it := by simpa using hb
    subst e
    obtain ⟨o, e, c, d⟩ := st
    exact ⟨o, e, fun v z => by rw [d] at z; cases z⟩
  keep := fun i h h' st k => st.at fun o e => k it (by simp) o e
  item := by
    intro X hP hw hK hc i pins s σ H E I hf st hg
    subst hP hw hK
    obtain ⟨xs, x, hq, hx⟩ := hg
    obtain ⟨its, rv, p, hz⟩ := I.list hq
    obtain ⟨u, hu, ru⟩ := rv.get hx
    obtain ⟨f0, f1, f2, f3, f4, f5⟩ := hf it (by simp)
    refine wpAny_pyNext_list_item st p.isList (x := u) (by simpa using hu) fun h' st' sb => ?_
    have I1 : Inv X pins σ H { s with heap := h' } := I.turned (t' := s.toks) (fun b o hb e => (sb.2 b hb).trans e) f0 f1 f3 f4 f5
    obtain ⟨o, e, c, d⟩ := id st'
    exact ⟨u, rfl, go_of (s := { s with heap := h' }) e c d (by decide) ⟨x, H, I1, ru, ⟨rfl, fun ys hy => by rw [I.list_inj hy hq]; exact hx⟩, st', fun b hb => (hf b hb).1⟩⟩
  done := by
    intro X hP hw hK hc i pins s σ H E I hf st hg
    subst hP hw hK
    obtain ⟨xs, hq, hx⟩ := hg
    obtain ⟨its, rv, p, hz⟩ := I.list hq
    obtain ⟨f0, f1, f2, f3, f4, f5⟩ := hf it (by simp)
    have hl := rv.length
    exact wpAny_pyNext_list_end (I.ok.hd hc) st p.isList (by simp; omega) fun h' eb => ⟨rfl, I.turned (t' := s.toks) (fun b o hb e => eb b o hb e) f0 f1 f3 f4 f5⟩
  self := fun _ _ _ _ _ st h => wpAny_pyIter_listiter st h
theorem turn_tuple {P : Program} {w : World} {K : PySem.W.Frag} {tg : Expr} (a it : Addr) : Turn P w K tg (Itt K a) [it] it (fun i h => h.IsTupleIter it a i) where
  mem := by simp
  obj := fun i h st b hb => by
    have e : b = it := by simpa using hb
    subst e
    obtain ⟨o, e, c, d⟩ := st
    exact ⟨o, e, fun v z => by rw [d] at z; cases z⟩
  keep := fun i h h' st k => st.at fun o e => k it (by simp) o e
  item := by
    intro X hP hw hK hc i pins s σ H E I hf st hg
    subst hP hw hK
    obtain ⟨xs, x, hq, hx⟩ := hg
    obtain ⟨its, rv, p, hz⟩ := I.tuple hq
    obtain ⟨u, hu, ru⟩ := rv.get hx
    obtain ⟨f0, f1, f2, f3, f4, f5⟩ := hf it (by simp)
    refine wpAny_pyNext_tuple_item st (show s.heap.IsTuple a its.toArray from p) (x := u) (by simpa using hu) fun h' st' sb => ?_
    have I1 : Inv X pins σ H { s with heap := h' } := I.turned (t' := s.toks) (fun b o hb e => (sb.2 b hb).trans e) f0 f1 f3 f4 f5
    obtain ⟨o, e, c, d⟩ := id st'
    exact ⟨u, rfl, go_of (s := { s with heap := h' }) e c d (by decide) ⟨x, H, I1, ru, ⟨rfl, fun ys hy => by rw [I.tuple_inj hy hq]; exact hx⟩, st', fun b hb => (hf b hb).1⟩⟩
  done := by
    intro X hP hw hK hc i pins s σ H E I hf st hg
    subst hP hw hK
    obtain ⟨xs, hq, hx⟩ := hg
    obtain ⟨its, rv, p, hz⟩ := I.tuple hq
    obtain ⟨f0, f1, f2, f3, f4, f5⟩ := hf it (by simp)
    have hl := rv.length
    exact wpAny_pyNext_tuple_end (I.ok.hd hc) st (show s.heap.IsTuple a its.toArray from p) (by simp; omega) fun h' eb => ⟨rfl, I.turned (t' := s.toks) (fun b o hb e => eb b o hb e) f0 f1 f3 f4 f5⟩
  self := fun _ _ _ _ _ st h => wpAny_pyIter_tupleiter st h
theorem turn_range {P : Program} {w : World} {K : PySem.W.Frag} {tg : Expr} (it : Addr) (lo : Int) (n : Nat) : Turn P w K tg (Itr lo n) [it] it (fun i h => IsRangeIter h it (lo + (i : Nat) * 1) ((n : Int) - (i : Nat)) 1) where
  mem := by simp
  obj := fun i h st b hb => by
    have e : b = it := by simpa using hb
    subst e
    exact ⟨_, st, fun v z => by
      have z' : Data.fields _ = Data.cell v := z
      cases z'⟩
  keep := fun i h h' st k => k it (by simp) _ st
  item := by
    intro X hP hw hK hc i pins s σ H E I hf st hg
    subst hP hw hK
    obtain ⟨f0, f1, f2, f3, f4, f5⟩ := hf it (by simp)
    have W := Walks.range (prog := X.prog) (w := X.w) (I.ok.hd hc) it lo 1 n
    refine W.item i s _ _ hg st fun v h' tk hv st' kk => ?_
    obtain ⟨t, rfl⟩ := hv
    have I1 : Inv X pins σ H { s with heap := h', toks := tk } := I.turned (fun b o hb e => kk b o (by simpa using hb) e) f0 f1 f3 f4 f5
    refine ⟨_, rfl, go_of (s := { s with heap := h', toks := tk }) (n := "range_iterator") st' rfl rfl (by decide) ⟨.int (lo + i), H, I1, ⟨t, ?_⟩, ⟨rfl, rfl⟩, st', fun b hb => (hf b hb).1⟩⟩
    rw [Int.mul_one]
  done := by
    intro X hP hw hK hc i pins s σ H E I hf st hg
    subst hP hw hK
    obtain ⟨f0, f1, f2, f3, f4, f5⟩ := hf it (by simp)
    exact wpAny_pyNext_range_end (I.ok.hd hc) st (by have : n ≤ i := hg; omega) fun h' eb => ⟨rfl, I.turned (t' := s.toks) (fun b o hb e => eb b o hb e) f0 f1 f3 f4 f5⟩
  self := fun _ _ _ _ _ st h => wpAny_pyIter_rangeiter st h
end L2
namespace L2
open PySem PySem.Spec PyProof.Rows
section
variable {X : Cx} {tg : Expr}
theorem range_it {pins : List (Addr × Obj)} {σ : St} {H : Hp} {s : Shared} {R : It → Hp → Prop} {E : Value → Shared → Prop} {lo hi : Int} {t u v : Tok} {tk : Nat} (I : Inv X pins σ H s) (h1 : -(2 ^ 62) ≤ lo) (h2 : lo < 2 ^ 62) (h3 : -(2 ^ 62) ≤ hi) (h4 : hi < 2 ^ 62)
    (q : R (Itr lo (hi - lo).toNat) H) : wpAny (model X.prog X.w) X.A (pyIter (.ref s.heap.objs.size)) (PIE X pins σ tg R) E { s with heap := s.heap.push { cls := .type "range", data := .fields #[.int lo t, .int hi u, .int 1 v] }, toks := tk } := by
  refine wpAny_pyIter_range (IsRange.new ..) (small_one h1 h2 h3 h4) ?_
  have I1 : Inv X pins σ H { s with heap := s.heap.push { cls := .type "range", data := .fields #[.int lo t, .int hi u, .int 1 v] }, toks := tk } := I.kept fun b o e => Heap.get?_push_of_some _ e
  refine ⟨(s.heap.push { cls := .type "range", data := .fields #[.int lo t, .int hi u, .int 1 v] }).objs.size, [(s.heap.push { cls := .type "range", data := .fields #[.int lo t, .int hi u, .int 1 v] }).objs.size], _, _, H, rfl,
    I1.kept (t' := tk) fun b o e => Heap.get?_push_of_some _ e, turn_range _ lo (hi - lo).toNat, ?_, fun b hb => ?_, q⟩
  · have e1 : lo + ((0 : Nat) : Int) * 1 = lo := by simp
    have e2 : (((hi - lo).toNat : Nat) : Int) - ((0 : Nat) : Int) = Builtin.Range.rangeSize lo hi 1 := by rw [rangeSize_one]; split <;> omega
    show IsRangeIter _ _ (lo + ((0 : Nat) : Int) * 1) ((((hi - lo).toNat : Nat) : Int) - ((0 : Nat) : Int)) 1
    rw [e1, e2]
    exact Heap.get?_push_size _ rfl
  · have e : b = (s.heap.push { cls := .type "range", data := .fields #[.int lo t, .int hi u, .int 1 v] }).objs.size := by simpa using hb
    subst e
    exact I1.fpOk (Nat.le_refl _) (I1.hok.fresh (Nat.le_refl _))
def iRng1 (ta : TA) : TI := fun σ H R => ta σ H fun vs H1 => ∃ j : Int, vs = [.int j] ∧ -(2 ^ 62) ≤ j ∧ j < 2 ^ 62 ∧ R (Itr 0 j.toNat) H1
theorem pi_range1 {a : Expr} {ta : TA} {p pos : Pos} (hg : Gl X "range") (hm : X.mg "range" = none) (ha : PA X [a] ta) (hs : starEach [a] X.env = [(false, eval a X.env)] := by rfl) : PI X tg (.Call (.Name "range" p) [a] [] pos) (iRng1 ta) := by
  intro pins s σ H R I h
  refine Call_ (ld_blt I hg hm boot_range (PyProof.Rows.callWith_type1 (thn (ha pos pins s σ H _ I h) fun us s1 ⟨vs, H1, I1, r1, q1⟩ => ?_) hs rfl))
  obtain ⟨j, e, q1, q2, q⟩ := q1
  subst e
  cases r1 with
  | cons r rr =>
    cases rr
    obtain ⟨t, rfl⟩ := r
    exact call_range_1 (range_it I1 (by omega) (by omega) q1 q2 (by simpa using q))
def tFor (wi : TI) (g : TG) (tb : TS) : TS := fun D σ H => wi σ H fun J H1 => ∃ W : Nat → Nat → St → Hp → Prop, (∃ m, W 0 m σ H1) ∧ ∀ i m σ H, W i m σ H →
  (J.stop i H ∧ D.nx σ H) ∨ (J.go i H ∧ ∃ N : St → Hp → Prop, (∀ σ' H', N σ' H' → ∃ m', m' < m ∧ W (i + 1) m' σ' H') ∧ ∀ x H', J.yld i H x H' → g x σ H' fun σ2 H2 => tb { D with nx := N, ct := N, bk := D.nx } σ2 H2)
def pinsAt (fp : List Addr) (h : Heap) : List (Addr × Obj) := fp.filterMap fun b => (h.get? b).map fun o => (b, o)
theorem mem_pinsAt {fp : List Addr} {h : Heap} {b : Addr} {o : Obj} (hb : b ∈ fp) (e : h.get? b = some o) : (b, o) ∈ pinsAt fp h := List.mem_filterMap.mpr ⟨b, hb, by rw [e]; rfl⟩
theorem of_pinsAt {fp : List Addr} {h : Heap} {p : Addr × Obj} (hp : p ∈ pinsAt fp h) : p.1 ∈ fp ∧ h.get? p.1 = some p.2 := by
  obtain ⟨b, hb, e⟩ := List.mem_filterMap.mp hp
  cases q : h.get? b with
  | none => rw [q] at e; cases e
  | some o =>
    rw [q] at e
    have e' : (b, o) = p := Option.some.inj e
    subst e'
    exact ⟨hb, q⟩
theorem Inv.pinned {pins : List (Addr × Obj)} {σ : St} {H : Hp} {s : Shared} {fp : List Addr} (I : Inv X pins σ H s) (hf : ∀ b ∈ fp, FpOk X pins H b) (ho : ∀ b ∈ fp, ∃ o, s.heap.get? b = some o ∧ ∀ v, o.data ≠ .cell v) : Inv X (pins ++ pinsAt fp s.heap) σ H s :=
  I.pins_of fun p hp => (List.mem_append.mp hp).elim (fun z => I.pin p (List.mem_append_right _ z)) fun z => by
    obtain ⟨hb, e⟩ := of_pinsAt z
    obtain ⟨f0, f1, f2, _⟩ := hf p.1 hb
    obtain ⟨o, e', d⟩ := ho p.1 hb
    rw [e] at e'; cases e'
    exact ⟨e, f0, f1, f2, d⟩
theorem Inv.unpinned {pins pl : List (Addr × Obj)} {σ : St} {H : Hp} {s : Shared} (I : Inv X (pins ++ pl) σ H s) : Inv X pins σ H s := I.pins_of fun p hp => I.pin p (List.mem_append_right _ (List.mem_append_left _ hp))
theorem ps_for {iter : Expr} {body : List Stmt} {wi : TI} {g : TG} {tb : TS} {pos : Pos} (hp : PassesOwn (model X.prog X.w) X.A X.env X.xe) (hc : X.calm = true) (hi : PI X tg iter wi) (hg : PG X tg g) (hb : PSs X body tb)
    (hs : ∀ x, foldedSetIterable iter X.env x = pure x := by intro _; rfl) : PS X (.For tg iter body [] pos) (tFor wi g tb) := by
  intro pins s σ H D I h
  refine wpAny_For (thn (hi pins s σ H _ I h) fun v s1 h1 => thn h1 fun itv s2 h2 => ?_) hs
  obtain ⟨it, fp, tn, J, H2, e, I2, T, st2, f2, W, ⟨m0, w0⟩, turn⟩ := h2
  subst e
  have stat : ∀ {H' : Hp}, (∀ b ∈ fp, H' b = none) → ∀ b ∈ fp, FpOk X pins H' b := fun hn b hb => ⟨hn b hb, (f2 b hb).2⟩
  refine codeAny_forLoop_any (fun n s' => ∃ i σ' H', Inv X pins σ' H' s' ∧ tn i s'.heap ∧ (∀ b ∈ fp, H' b = none) ∧ W i n σ' H') ?_ m0 ⟨0, σ, H2, I2, st2, fun b hb => (f2 b hb).1, w0⟩
  rintro n s3 ⟨i, σ3, H3, I3, st3, fr3, w3⟩
  rcases turn i n σ3 H3 w3 with ⟨stop, qn⟩ | ⟨go, N, hN, step⟩
  · refine wpAny_passesOwn hp (thn (T.done X rfl rfl rfl hc i pins s3 σ3 H3 X.xe I3 (stat fr3) st3 stop) fun r s4 ⟨hr, I4⟩ => ?_)
    subst hr
    exact wpAny_execs_nil ⟨σ3, H3, I4, qn⟩
  · refine wpAny_passesOwn hp (thn (T.item X rfl rfl rfl hc i pins s3 σ3 H3 X.xe I3 (stat fr3) st3 go) fun r s4 ⟨u, hr, h4⟩ => ?_)
    subst hr
    refine wpAny_passesOwn hp (thn h4 fun _ s5 ⟨x, H5, I5, r5, y5, st5, fr5⟩ => ?_)
    have I5' := I5.pinned (stat fr5) (T.obj _ _ st5)
    refine wpAny_passesOwn hp (thn (hg _ s5 σ3 H5 x u _ I5' r5 (step x H5 y5)) fun _ s6 ⟨σ6, H6, I6, q6⟩ => ?_)
    refine wpAny_passesOwn hp (thn (hb _ s6 σ6 H6 _ I6 q6) fun f s7 q7 => ?_)
    have again : ∀ {σ7 : St} {H7 : Hp}, Inv X (pins ++ pinsAt fp s5.heap) σ7 H7 s7 → N σ7 H7 → ∃ m, m < n ∧ ∃ i σ' H', Inv X pins σ' H' s7 ∧ tn i s7.heap ∧ (∀ b ∈ fp, H' b = none) ∧ W i m σ' H' := fun {σ7 H7} I7 n7 => by
      obtain ⟨m', hm, w7⟩ := hN σ7 H7 n7
      refine ⟨m', hm, i + 1, σ7, H7, I7.unpinned, T.keep _ _ _ st5 fun b hb o e => (I7.pin (b, o) (List.mem_append_right _ (List.mem_append_right _ (mem_pinsAt hb e)))).1, fun b hb => ?_, w7⟩
      obtain ⟨o, e, d⟩ := T.obj _ _ st5 b hb
      exact (I7.pin (b, o) (List.mem_append_right _ (List.mem_append_right _ (mem_pinsAt hb e)))).2.1
    cases f with
    | next => obtain ⟨σ7, H7, I7, n7⟩ := q7; exact again I7 n7
    | cont => obtain ⟨σ7, H7, I7, n7⟩ := q7; exact again I7 n7
    | brk => obtain ⟨σ7, H7, I7, q7⟩ := q7; exact ⟨σ7, H7, I7.unpinned, q7⟩
    | ret v => obtain ⟨x7, σ7, H7, I7, r7, q7⟩ := q7; exact ⟨x7, σ7, H7, I7.unpinned, r7, q7⟩
end
end L2
namespace L2
open PySem PySem.Spec PyProof.Rows
abbrev R2 := V → V → Hp → VK → Prop
def OpR (X : Cx) (f : Value → Value → Sem Value) (r : R2) : Prop :=
  ∀ (pins : List (Addr × Obj)) (s : Shared) (σ : St) (H : Hp) (x y : V) (v u : Value) (Q : VK), Inv X pins σ H s → RelV x v → RelV y u → r x y H Q →
    wpAny (model X.prog X.w) X.A (f v u) (EP X pins σ Q) X.xe s
def UnR (X : Cx) (f : Value → Sem Value) (r : V → Hp → VK → Prop) : Prop :=
  ∀ (pins : List (Addr × Obj)) (s : Shared) (σ : St) (H : Hp) (x : V) (v : Value) (Q : VK), Inv X pins σ H s → RelV x v → r x H Q →
    wpAny (model X.prog X.w) X.A (f v) (EP X pins σ Q) X.xe s
def CallR (X : Cx) (f : Value) (r : List V → Hp → VK → Prop) : Prop :=
  ∀ (pins : List (Addr × Obj)) (s : Shared) (σ : St) (H : Hp) (xs : List V) (us : List Value) (Q : VK), Inv X pins σ H s → Vals xs us → r xs H Q →
    wpAny (model X.prog X.w) X.A (call f us) (EP X pins σ Q) X.xe s
def TruR (X : Cx) (r : V → Hp → (Bool → Hp → Prop) → Prop) : Prop :=
  ∀ (pins : List (Addr × Obj)) (s : Shared) (σ : St) (H : Hp) (x : V) (v : Value) (Q : Bool → Hp → Prop), Inv X pins σ H s → RelV x v → r x H Q →
    wpAny (model X.prog X.w) X.A (truthy v) (TP X pins σ Q) X.xe s
abbrev tOp (r : R2) (ta tb : TE) : TE := fun σ H Q => ta σ H fun x H1 => tb σ H1 fun y H2 => r x y H2 Q
abbrev tUn (r : V → Hp → VK → Prop) (ta : TE) : TE := fun σ H Q => ta σ H fun x H1 => r x H1 Q
def rI (C : Int → Int → Prop) (g : Int → Int → V) : R2 := fun x y H Q => ∃ i j, x = .int i ∧ y = .int j ∧ C i j ∧ Q (g i j) H
def rI0 (g : Int → Int → V) : R2 := fun x y H Q => ∃ i j, x = .int i ∧ y = .int j ∧ Q (g i j) H
def rU (g : Int → V) : V → Hp → VK → Prop := fun x H Q => ∃ i, x = .int i ∧ Q (g i) H
section
variable {X : Cx} {a b c : Expr} {ta tb tc : TE} {pos : Pos}
theorem binT (ha : PE X a ta) (hb : PE X b tb) {pins : List (Addr × Obj)} {s : Shared} {σ : St} {H : Hp} {R : V → V → Hp → Prop} (I : Inv X pins σ H s)
    (h : ta σ H fun x H1 => tb σ H1 fun y H2 => R x y H2) {Q : Value → Shared → Prop} {f : Value → Value → Sem Value}
    (hf : ∀ v u s2 x y H2, Inv X pins σ H2 s2 → RelV x v → RelV y u → R x y H2 → wpAny (model X.prog X.w) X.A (f v u) Q X.xe s2) :
    wpAny (model X.prog X.w) X.A (eval a X.env) (fun v s₁ => wpAny (model X.prog X.w) X.A (eval b X.env) (fun u s₂ => wpAny (model X.prog X.w) X.A (f v u) Q X.xe s₂) X.xe s₁) X.xe s := by
  refine thn (ha pins s σ H _ I h) fun v s1 ⟨x, H1, I1, r1, q1⟩ => ?_
  refine thn (hb pins s1 σ H1 _ I1 q1) fun u s2 ⟨y, H2, I2, r2, q2⟩ => ?_
  exact hf v u s2 x y H2 I2 r1 r2 q2
theorem pe_op {op : Operator} {r : R2} (ho : OpR X (binaryOp op) r) (ha : PE X a ta) (hb : PE X b tb) : PE X (.BinOp a op b pos) (tOp r ta tb) := by
  intro pins s σ H Q I h
  exact wpAny_BinOp (binT ha hb I h fun v u s2 x y H2 I2 rx ry q => ho pins s2 σ H2 x y v u Q I2 rx ry q)
theorem pe_un {op : UnaryOp} {r : V → Hp → VK → Prop} (ho : UnR X (unaryOp op) r) (ha : PE X a ta) : PE X (.UnaryOp op a pos) (tUn r ta) := by
  intro pins s σ H Q I h
  exact UnaryOp_ (thn (ha pins s σ H _ I h) fun v s1 ⟨x, H1, I1, r1, q1⟩ => ho pins s1 σ H1 x v Q I1 r1 q1)
theorem opI {f : Value → Value → Sem Value} {C : Int → Int → Prop} {g : Int → Int → Int}
    (rule : ∀ (i j : Int) (t u : Tok) (s : Shared) (Q : Value → Shared → Prop) (E : Value → Shared → Prop), C i j → Q (.int (g i j) s.toks) { s with toks := s.toks + 1 } → wpAny (model X.prog X.w) X.A (f (.int i t) (.int j u)) Q E s) :
    OpR X f (rI C fun i j => .int (g i j)) := by
  intro pins s σ H x y v u Q I rx ry h
  obtain ⟨i, j, rfl, rfl, hc, q⟩ := h
  obtain ⟨t, rfl⟩ := rx
  obtain ⟨t', rfl⟩ := ry
  exact rule i j t t' s _ _ hc ⟨.int (g i j), H, I.tok _, ⟨_, rfl⟩, q⟩
theorem opI0 {f : Value → Value → Sem Value} {g : Int → Int → Int}
    (rule : ∀ (i j : Int) (t u : Tok) (s : Shared) (Q : Value → Shared → Prop) (E : Value → Shared → Prop), Q (.int (g i j) s.toks) { s with toks := s.toks + 1 } → wpAny (model X.prog X.w) X.A (f (.int i t) (.int j u)) Q E s) :
    OpR X f (rI0 fun i j => .int (g i j)) := by
  intro pins s σ H x y v u Q I rx ry h
  obtain ⟨i, j, rfl, rfl, q⟩ := h
  obtain ⟨t, rfl⟩ := rx
  obtain ⟨t', rfl⟩ := ry
  exact rule i j t t' s _ _ ⟨.int (g i j), H, I.tok _, ⟨_, rfl⟩, q⟩
theorem opB0 {f : Value → Value → Sem Value} {g : Int → Int → Bool}
    (rule : ∀ (i j : Int) (t u : Tok) (s : Shared) (Q : Value → Shared → Prop) (E : Value → Shared → Prop), Q (.bool (g i j)) s → wpAny (model X.prog X.w) X.A (f (.int i t) (.int j u)) Q E s) :
    OpR X f (rI0 fun i j => .bl (g i j)) := by
  intro pins s σ H x y v u Q I rx ry h
  obtain ⟨i, j, rfl, rfl, q⟩ := h
  obtain ⟨t, rfl⟩ := rx
  obtain ⟨t', rfl⟩ := ry
  exact rule i j t t' s _ _ ⟨.bl (g i j), H, I, rfl, q⟩
def CDiv (i j : Int) : Prop := 0 < j ∧ j < 1073741824
def CPow (i j : Int) : Prop := 0 ≤ j ∧ j ≤ 1000000 ∧ i.natAbs < 2 ^ 64
def CMul (i j : Int) : Prop := (-(2 ^ 64) < i ∧ i < 2 ^ 64) ∨ (-(2 ^ 64) < j ∧ j < 2 ^ 64)
theorem CMul.ok {i j : Int} (h : CMul i j) : IntMulOk i j := by
  rcases h with ⟨h1, h2⟩ | ⟨h1, h2⟩
  · exact .of_left (intBits_le_64 h1 h2)
  · exact .of_right (intBits_le_64 h1 h2)
theorem op_add : OpR X (binaryOp .Add) (rI0 fun i j => .int (i + j)) := opI0 fun _ _ _ _ _ _ _ q => add_int q
theorem op_sub : OpR X (binaryOp .Sub) (rI0 fun i j => .int (i - j)) := opI0 fun _ _ _ _ _ _ _ q => sub_int q
theorem op_mul : OpR X (binaryOp .Mult) (rI CMul fun i j => .int (i * j)) := opI fun _ _ _ _ _ _ _ hc q => mul_int q hc.ok
theorem op_fdiv : OpR X (binaryOp .FloorDiv) (rI CDiv fun i j => .int (i / j)) := opI fun i j _ _ _ _ _ hc q => by
  have h1 : (0 : Int) < j := hc.1
  have h2 : j < 1073741824 := hc.2
  exact floordiv_int (by omega) (by rw [Int.fdiv_eq_ediv_of_nonneg i (by omega)]; exact q) (.inl (PyProof.noPylong_small (by omega)))
theorem op_mod : OpR X (binaryOp .Mod) (rI (fun _ j => 0 < j) fun i j => .int (i % j)) := opI fun i j _ _ _ _ _ hc q => by
  have h1 : (0 : Int) < j := hc
  exact mod_int' (by omega) (by rw [Int.fmod_eq_emod_of_nonneg i (by omega)]; exact q)
theorem op_pow : OpR X (binaryOp .Pow) (rI CPow fun i j => .int (i ^ j.toNat)) := opI fun _ _ _ _ _ _ _ hc q => pow_int_small hc.1 hc.2.1 hc.2.2 q
theorem unI {f : Value → Sem Value} {g : Int → Int}
    (rule : ∀ (i : Int) (t : Tok) (s : Shared) (Q : Value → Shared → Prop) (E : Value → Shared → Prop), Q (.int (g i) s.toks) { s with toks := s.toks + 1 } → wpAny (model X.prog X.w) X.A (f (.int i t)) Q E s) :
    UnR X f (rU fun i => .int (g i)) := by
  intro pins s σ H x v Q I rx h
  obtain ⟨i, rfl, q⟩ := h
  obtain ⟨t, rfl⟩ := rx
  exact rule i t s _ _ ⟨.int (g i), H, I.tok _, ⟨_, rfl⟩, q⟩
theorem un_neg : UnR X (unaryOp .USub) (rU fun i => .int (-i)) := unI fun _ _ _ _ _ q => neg_int q
end
def scal : V → V → Bool
  | .non, .non => true | .non, .int _ => true | .int _, .non => true | .non, .bl _ => true | .bl _, .non => true | .non, .str _ => true | .str _, .non => true
  | .int _, .int _ => true | .bl _, .bl _ => true | .str _, .str _ => true | .byt _, .byt _ => true
  | .int _, .str _ => true | .str _, .int _ => true | .bl _, .str _ => true | .str _, .bl _ => true
  | _, _ => false
def rEq : R2 := fun x y H Q => scal x y = true ∧ Q (.bl (decide (x = y))) H
def rNe : R2 := fun x y H Q => scal x y = true ∧ Q (.bl (!decide (x = y))) H
theorem dec_int {i j : Int} : decide (V.int i = V.int j) = (i == j) := by
  rw [Bool.eq_iff_iff]
  simp
theorem dec_bl {i j : Bool} : decide (V.bl i = V.bl j) = (i == j) := by
  rw [Bool.eq_iff_iff]
  simp
theorem dec_str {i j : Str} : decide (V.str i = V.str j) = (i == j) := by
  rw [Bool.eq_iff_iff]
  simp
theorem dec_byt {i j : Array UInt8} : decide (V.byt i = V.byt j) = (i.toList == j.toList) := by
  rw [Bool.eq_iff_iff]
  cases i
  cases j
  simp
section
variable {X : Cx} {a b c : Expr} {ta tb tc : TE} {pos : Pos}
theorem fin_bl {pins : List (Addr × Obj)} {σ : St} {H : Hp} {s : Shared} {Q : VK} {k k' : Bool} (I : Inv X pins σ H s) (q : Q (.bl k) H) (e : k = k') : EP X pins σ Q (.bool k') s := by
  subst e
  exact ⟨.bl k, H, I, rfl, q⟩
theorem op_eq : OpR X (compareOp .Eq) rEq := by
  intro pins s σ H x y v u Q I rx ry h
  obtain ⟨hs, q⟩ := h
  cases x with
  | non =>
    cases rx
    cases y with
    | non => cases ry; exact PySem.EqNone.eq_none_none (fin_bl I q (by simp))
    | bl j => cases ry; exact PySem.EqNone.eq_none_bool (fin_bl I q (by simp))
    | int j => obtain ⟨t', rfl⟩ := ry; exact PySem.EqNone.eq_none_int (fin_bl I q (by simp))
    | str j => obtain ⟨t', rfl⟩ := ry; exact PySem.EqNone.eq_none_str (fin_bl I q (by simp))
    | _ => exact absurd (show false = true from hs) Bool.false_ne_true
  | bl i =>
    cases rx
    cases y with
    | non => cases ry; exact PySem.EqNone.eq_bool_none (fin_bl I q (by simp))
    | bl j => cases ry; exact eq_bool (fin_bl I q dec_bl)
    | str j => obtain ⟨t', rfl⟩ := ry; exact PySem.EqMixed.eq_bool_str (fin_bl I q (by simp))
    | _ => exact absurd (show false = true from hs) Bool.false_ne_true
  | int i =>
    obtain ⟨t, rfl⟩ := rx
    cases y with
    | non => cases ry; exact PySem.EqNone.eq_int_none (fin_bl I q (by simp))
    | int j => obtain ⟨t', rfl⟩ := ry; exact eq_int (fin_bl I q dec_int)
    | str j => obtain ⟨t', rfl⟩ := ry; exact PySem.EqMixed.eq_int_str (fin_bl I q (by simp))
    | _ => exact absurd (show false = true from hs) Bool.false_ne_true
  | str i =>
    obtain ⟨t, rfl⟩ := rx
    cases y with
    | non => cases ry; exact PySem.EqNone.eq_str_none (fin_bl I q (by simp))
    | bl j => cases ry; exact PySem.EqMixed.eq_str_bool (fin_bl I q (by simp))
    | int j => obtain ⟨t', rfl⟩ := ry; exact PySem.EqMixed.eq_str_int (fin_bl I q (by simp))
    | str j => obtain ⟨t', rfl⟩ := ry; exact eq_str (fin_bl I q dec_str)
    | _ => exact absurd (show false = true from hs) Bool.false_ne_true
  | byt i =>
    obtain ⟨t, rfl⟩ := rx
    cases y with
    | byt j => obtain ⟨t', rfl⟩ := ry; exact PySem.W.eq_bytes (fin_bl I q dec_byt)
    | _ => exact absurd (show false = true from hs) Bool.false_ne_true
  | _ => cases y <;> exact absurd (show false = true from hs) Bool.false_ne_true
theorem op_ne : OpR X (compareOp .NotEq) rNe := by
  intro pins s σ H x y v u Q I rx ry h
  obtain ⟨hs, q⟩ := h
  cases x with
  | non =>
    cases rx
    cases y with
    | non => cases ry; exact PySem.EqNone.ne_none_none (fin_bl I q (by simp))
    | bl j => cases ry; exact PySem.EqNone.ne_none_bool (fin_bl I q (by simp))
    | int j => obtain ⟨t', rfl⟩ := ry; exact PySem.EqNone.ne_none_int (fin_bl I q (by simp))
    | str j => obtain ⟨t', rfl⟩ := ry; exact PySem.EqNone.ne_none_str (fin_bl I q (by simp))
    | _ => exact absurd (show false = true from hs) Bool.false_ne_true
  | bl i =>
    cases rx
    cases y with
    | non => cases ry; exact PySem.EqNone.ne_bool_none (fin_bl I q (by simp))
    | bl j => cases ry; exact ne_bool (fin_bl I q (congrArg not dec_bl))
    | str j => obtain ⟨t', rfl⟩ := ry; exact PySem.EqMixed.ne_bool_str (fin_bl I q (by simp))
    | _ => exact absurd (show false = true from hs) Bool.false_ne_true
  | int i =>
    obtain ⟨t, rfl⟩ := rx
    cases y with
    | non => cases ry; exact PySem.EqNone.ne_int_none (fin_bl I q (by simp))
    | int j => obtain ⟨t', rfl⟩ := ry; exact ne_int (fin_bl I q (congrArg not dec_int))
    | str j => obtain ⟨t', rfl⟩ := ry; exact PySem.EqMixed.ne_int_str (fin_bl I q (by simp))
    | _ => exact absurd (show false = true from hs) Bool.false_ne_true
  | str i =>
    obtain ⟨t, rfl⟩ := rx
    cases y with
    | non => cases ry; exact PySem.EqNone.ne_str_none (fin_bl I q (by simp))
    | bl j => cases ry; exact PySem.EqMixed.ne_str_bool (fin_bl I q (by simp))
    | int j => obtain ⟨t', rfl⟩ := ry; exact PySem.EqMixed.ne_str_int (fin_bl I q (by simp))
    | str j => obtain ⟨t', rfl⟩ := ry; exact ne_str (fin_bl I q (congrArg not dec_str))
    | _ => exact absurd (show false = true from hs) Bool.false_ne_true
  | byt i =>
    obtain ⟨t, rfl⟩ := rx
    cases y with
    | byt j => obtain ⟨t', rfl⟩ := ry; exact PySem.W.ne_bytes (fin_bl I q (congrArg not dec_byt))
    | _ => exact absurd (show false = true from hs) Bool.false_ne_true
  | _ => cases y <;> exact absurd (show false = true from hs) Bool.false_ne_true
theorem op_lt : OpR X (compareOp .Lt) (rI0 fun i j => .bl (decide (i < j))) := opB0 fun _ _ _ _ _ _ _ q => lt_int q
theorem op_le : OpR X (compareOp .LtE) (rI0 fun i j => .bl (decide (i ≤ j))) := opB0 fun _ _ _ _ _ _ _ q => le_int q
theorem nomark (b : Expr) {op : CmpOp} (h : op ≠ .In := by decide) (h2 : op ≠ .NotIn := by decide) : behindInMarks op b = false := by
  have e1 : (op == CmpOp.In) = false := by cases op <;> first | rfl | exact absurd rfl h
  have e2 : (op == CmpOp.NotIn) = false := by cases op <;> first | rfl | exact absurd rfl h2
  cases b <;> simp [behindInMarks, e1, e2]
theorem pe_cmpR {op : CmpOp} {r : R2} (ho : OpR X (compareOp op) r) (ha : PE X a ta) (hb : PE X b tb) (hm : behindInMarks op b = false) : PE X (.Compare a [op] [b] pos) (tOp r ta tb) := by
  intro pins s σ H Q I h
  exact wpAny_Compare1 (binT ha hb I h fun v u s2 x y H2 I2 rx ry q => ho pins s2 σ H2 x y v u Q I2 rx ry q) hm
abbrev tTest (t : TE) : TT := fun σ H Q => t σ H fun x H' => ∃ k, x = .bl k ∧ Q k H'
theorem pt_cmpR {op : CmpOp} {r : R2} (ho : OpR X (compareOp op) r) (ha : PE X a ta) (hb : PE X b tb) (hm : behindInMarks op b = false) : PT X (.Compare a [op] [b] pos) (tTest (tOp r ta tb)) := by
  intro pins s σ H Q I h
  refine wpAny_isTrue_Compare1 (thn (ha pins s σ H _ I h) fun v s1 ⟨x, H1, I1, r1, q1⟩ => thn (hb pins s1 σ H1 _ I1 q1) fun u s2 ⟨y, H2, I2, r2, q2⟩ =>
    thn (ho pins s2 σ H2 x y v u _ I2 r1 r2 q2) fun c s3 ⟨z, H3, I3, r3, k, e, q3⟩ => ?_) hm
  subst e
  cases r3
  exact wpAny_truthy_bool ⟨H3, I3, q3⟩
def TruV (K : PySem.W.Frag) (x : V) (H : Hp) (k : Bool) : Prop :=
  match x with
  | .non => k = false
  | .bl b => k = b
  | .int i => k = (i != 0)
  | .str y => y.length ≤ sizeLine ∧ k = ((y.length : Int) != 0)
  | .byt y => y.size ≤ sizeLine ∧ k = ((y.size : Int) != 0)
  | .ref p => (∃ xs, SqL K H p xs ∧ k = !xs.isEmpty) ∨ (∃ xs, SqT K H p xs ∧ k = !xs.isEmpty) ∨ ∃ kvs, H p = some (.dK kvs) ∧ k = !kvs.isEmpty
  | _ => False
theorem isEmpty_kv {κ : Type} {kvs : List (κ × V)} {vs : List (κ × Value)} (r : KV kvs vs) : (!vs.isEmpty) = !kvs.isEmpty := by
  cases r <;> rfl
theorem isEmpty_of {xs : List V} {its : List Value} (r : Vals xs its) : (!its.toArray.isEmpty) = !xs.isEmpty := by
  cases r <;> simp
theorem line63 : (sizeLine : Nat) < 2 ^ 63 := by rw [sizeLine_eq]; decide
theorem tru_ok : TruR X (fun x H Q => ∃ k, TruV X.K x H k ∧ Q k H) := by
  intro pins s σ H x v Q I rx h
  obtain ⟨k, e, q⟩ := h
  have hl := line63
  have hs : sizeLine = 16777216 := sizeLine_eq
  cases x with
  | non =>
    cases rx
    have e' : k = false := e
    subst e'
    exact truthy_none ⟨H, I, q⟩
  | bl b =>
    cases rx
    have e' : k = b := e
    subst e'
    exact wpAny_truthy_bool ⟨H, I, q⟩
  | int i =>
    obtain ⟨t, rfl⟩ := rx
    have e' : k = (i != 0) := e
    subst e'
    exact PySem.P.truthy_int ⟨H, I, q⟩
  | str y =>
    obtain ⟨t, rfl⟩ := rx
    obtain ⟨hy, e'⟩ : y.length ≤ sizeLine ∧ k = ((y.length : Int) != 0) := e
    subst e'
    exact PySem.P.truthy_str (by omega) ⟨H, I.tok _, q⟩
  | byt y =>
    obtain ⟨t, rfl⟩ := rx
    obtain ⟨hy, e'⟩ : y.size ≤ sizeLine ∧ k = ((y.size : Int) != 0) := e
    subst e'
    exact PySem.W.truthy_bytes (by omega) ⟨H, I.tok _, q⟩
  | ref p =>
    cases rx
    have e' : (∃ xs, SqL X.K H p xs ∧ k = !xs.isEmpty) ∨ (∃ xs, SqT X.K H p xs ∧ k = !xs.isEmpty) ∨ ∃ kvs, H p = some (.dK kvs) ∧ k = !kvs.isEmpty := e
    rcases e' with ⟨xs, hx, e'⟩ | ⟨xs, hx, e'⟩ | ⟨kvs, hx, e'⟩
    · subst e'
      obtain ⟨its, r, pl, hz⟩ := I.list hx
      have hlen := r.length
      exact wpAny_truthy_list pl.isList (by simp only [List.size_toArray]; omega) ⟨H, I.tok _, by rw [isEmpty_of r]; exact q⟩
    · subst e'
      obtain ⟨its, r, pl, hz⟩ := I.tuple hx
      have hlen := r.length
      exact truthy_tuple pl (by simp only [List.size_toArray]; omega) ⟨H, I.tok _, by rw [isEmpty_of r]; exact q⟩
    · subst e'
      obtain ⟨hz, hS, vs, r, m⟩ : kvs.length ≤ sizeLine ∧ (p == sysModules) = false ∧ ∃ vs, KV kvs vs ∧ s.heap.DictOf (mixKind X.prog X.w) p vs := I.hok p _ hx
      have hlen : kvs.length = vs.length := Paired.length r
      exact wpAny_truthy_dict hS m (by omega) ⟨H, I.tok _, by rw [isEmpty_kv r]; exact q⟩
  | _ => exact (show False from e).elim
theorem pt_truth (ha : PE X a ta) (he : ∀ whole, isTrue a X.env whole = (do let v ← whole; standAt a.pos; holding [v] (truthy v))) :
    PT X a (fun σ H Q => ta σ H fun x H' => ∃ k, TruV X.K x H' k ∧ Q k H') := by
  intro pins s σ H Q I h
  exact isTrue_plain (thn (ha pins s σ H _ I h) fun v s1 ⟨x, H1, I1, r1, q1⟩ => tru_ok pins s1 σ H1 x v Q I1 r1 q1) (he _)
theorem op_add_str : OpR X (binaryOp .Add) (fun x y H Q => ∃ i j, x = .str i ∧ y = .str j ∧ i.length + j.length ≤ sizeLine ∧ Q (.str (i ++ j)) H) := by
  intro pins s σ H x y v u Q I rx ry h
  obtain ⟨i, j, rfl, rfl, hz, q⟩ := h
  obtain ⟨t, rfl⟩ := rx
  obtain ⟨t', rfl⟩ := ry
  exact add_str (fun t' tk => ⟨.str (i ++ j), H, I.tok _, ⟨_, rfl⟩, q⟩) hz
theorem vals1 {x : V} {us : List Value} (r : Vals [x] us) : ∃ u, us = [u] ∧ RelV x u := by
  cases r with
  | cons r1 r2 => cases r2; exact ⟨_, rfl, r1⟩
theorem vals2 {x y : V} {us : List Value} (r : Vals [x, y] us) : ∃ u w', us = [u, w'] ∧ RelV x u ∧ RelV y w' := by
  cases r with
  | cons r1 r2 =>
    cases r2 with
    | cons r3 r4 => cases r4; exact ⟨_, _, rfl, r1, r3⟩
theorem call_min2 (hc : X.calm = true) : CallR X (.builtin "min") (fun xs H Q => ∃ i j, xs = [.int i, .int j] ∧ Q (.int (if j < i then j else i)) H) := by
  intro pins s σ H xs us Q I r h
  obtain ⟨i, j, rfl, q⟩ := h
  obtain ⟨u, w', rfl, ⟨t, rfl⟩, ⟨t', rfl⟩⟩ := vals2 r
  refine min_two_ints (I.ok.hd hc) fun h' tk k => ⟨_, H, I.kept k, ?_, q⟩
  by_cases hj : j < i
  · rw [if_pos hj, if_pos hj]; exact ⟨_, rfl⟩
  · rw [if_neg hj, if_neg hj]; exact ⟨_, rfl⟩
end
end L2
namespace L2
open PySem PySem.Spec PyProof.Rows
section
variable {prog : Program} {w : World} {A : Around} {E : Value → Shared → Prop} {s : Shared} {K : PySem.W.Frag} {x dx C f : Addr} {mA : Str → Option Value} {name : Str} {v : Value}
end
theorem RelO.some_of {v : V} {o : Option Value} (r : RelO (some v) o) : ∃ u, o = some u ∧ RelV v u := by
  cases o with
  | none => exact (show False from r).elim
  | some u => exact ⟨u, rfl, r⟩
section
variable {P : Program} {w : World} {H H' : Hp} {h h' : Heap} {a C dx : Addr} {fs fs' : List (Str × V)}
end
section
variable {X : Cx} {pins : List (Addr × Obj)} {σ : St} {H : Hp} {s : Shared} {a C dx : Addr} {fs : List (Str × V)} {f : Str} {v : V} {A : Around} {E : Value → Shared → Prop}
end
section
variable {X : Cx} {o e value : Expr} {f : Str} {pos pos' tpos : Pos} {ta tv : TE}
end
section
variable {X : Cx} {pins : List (Addr × Obj)} {σ : St} {H : Hp} {s : Shared} {A : Around} {E : Value → Shared → Prop} {Q : Value → Shared → Prop} {c : Value} {b : Bool}
end
end L2
namespace L2
open PySem PySem.Spec PyProof.Rows
structure Room (k : Nat) (A : Around) : Prop where
  hd : A.handled = none
  dp : A.depth + 3 * k + 5 < recursionLimit
  un : A.units + 16 * k + 200 < cLine
theorem Room.mono {j k : Nat} {A : Around} (r : Room k A) (h : j ≤ k) : Room j A := ⟨r.hd, by have := r.dp; omega, by have := r.un; omega⟩
theorem Room.deeper {k : Nat} {A : Around} (r : Room (k + 1) A) (env : Env) : Room k (A.deeper env) :=
  ⟨r.hd, by have := r.dp; show A.depth + 1 + 3 * k + 5 < _; omega, by have := r.un; show A.units + 3 + 16 * k + 200 < _; omega⟩
theorem Room.in1 {k : Nat} {A : Around} (r : Room (k + 1) A) : Room k A.in1 :=
  ⟨r.hd, by have := r.dp; show A.depth + 3 * k + 5 < _; omega, by have := r.un; show A.units + 1 + 16 * k + 200 < _; omega⟩
theorem Room.depth {k : Nat} {A : Around} (r : Room k A) : A.depth < recursionLimit := by have := r.dp; omega
theorem Room.units {k : Nat} {A : Around} (r : Room k A) : A.units + 64 < cLine := by have := r.un; omega
abbrev tNil : TA := fun _ H Q => Q [] H
abbrev tCons (ta : TE) (tr : TA) : TA := fun σ H Q => ta σ H fun x H1 => tr σ H1 fun xs H2 => Q (x :: xs) H2
section
variable {X : Cx} {e : Expr} {es : List Expr} {te : TE} {t : TA} {pos : Pos}
theorem pa_nil : PA X [] tNil := fun _ _ _ _ H Q I h => Calls.spliced_nil ⟨[], H, I, .nil, h⟩
theorem pa_cons (ha : PE X e te) (hr : PA X es t) (hs : starEach (e :: es) X.env = (false, eval e X.env) :: starEach es X.env := by rfl) : PA X (e :: es) (tCons te t) := by
  intro pos pins s σ H Q I h
  rw [hs]
  show wpAny _ _ (spliced ((false, eval e X.env) :: backTo pos (starEach es X.env))) _ _ s
  refine Calls.spliced_cons (thn (ha pins s σ H _ I h) fun u s1 ⟨x, H1, I1, r1, q1⟩ => ?_)
  exact thn (hr pos pins s1 σ H1 _ I1 q1) fun us s2 ⟨xs, H2, I2, r2, q2⟩ => ⟨x :: xs, H2, I2, .cons r1 r2, q2⟩
abbrev tTup (t : TA) : TE := fun σ H Q => t σ H fun xs H1 => xs.length ≤ sizeLine ∧ ∀ p, H1 p = none → Q (.ref p) (upd H1 p (.tup xs))
abbrev tLst (t : TA) : TE := fun σ H Q => t σ H fun xs H1 => xs.length ≤ sizeLine ∧ ∀ p, H1 p = none → Q (.ref p) (upd H1 p (.lst xs))
theorem pe_tup {x1} (h : PA X es t) : PE X (.Tuple es x1 pos) (tTup t) := by
  intro pins s σ H Q I hq
  refine wpAny_Tuple_spliced (thn (h pos pins s σ H _ I hq) fun us s1 ⟨xs, H1, I1, r, z, q⟩ => ⟨by rw [← r.length]; exact z, ?_⟩)
  have hf : H1 s1.heap.objs.size = none := I1.hok.fresh (Nat.le_refl _)
  refine ⟨.ref s1.heap.objs.size, upd H1 s1.heap.objs.size (.tup xs), I1.laid (t' := s1.toks) (fun b u e => Heap.get?_push_of_some _ e) (Nat.le_refl _) ?_, rfl, q _ hf⟩
  exact ⟨z, us, r, ⟨_, Heap.get?_push_size _ rfl, rfl, _, rfl⟩⟩
theorem pe_lst (h : PA X es t) : PE X (.List es pos) (tLst t) := by
  intro pins s σ H Q I hq
  refine wpAny_List_spliced (thn (h pos pins s σ H _ I hq) fun us s1 ⟨xs, H1, I1, r, z, q⟩ => ⟨by rw [← r.length]; exact z, ?_⟩)
  have hf : H1 s1.heap.objs.size = none := I1.hok.fresh (Nat.le_refl _)
  refine ⟨.ref s1.heap.objs.size, upd H1 s1.heap.objs.size (.lst xs), I1.laid (t' := s1.toks) (fun b u e => Heap.get?_push_of_some _ e) (Nat.le_refl _) ?_, rfl, q _ hf⟩
  exact ⟨z, us, 0, r, Heap.get?_push_size _ rfl⟩
end
abbrev Sp := List V → Hp → VK → XK → Prop
abbrev CXT := List Env → Hp → Shared → XK → Value → Shared → Prop
structure Env0 (P : Program) (w : World) (K : PySem.W.Frag) (mg : Str → Option Value) (base : Heap) (A : Around) (outer : List Env) (s : Shared) (H : Hp) : Prop where
  frames : A.frames = some outer
  mod : Mod K mg base
  bs : ∀ b o, base.get? b = some o → s.heap.get? b = some o ∧ H b = none
  bsz : base.objs.size ≤ s.heap.objs.size
  funs : s.heap.FunFrames base outer
  frf : ∀ b ∈ frs outer, H b = none
  hok : HOk P w H s.heap
  bare : AllBare s.gens
def CE (outer : List Env) (P : Program) (w : World) (H : Hp) (s : Shared) (Q : VK) (u : Value) (s' : Shared) : Prop :=
  ∃ v H', s'.os = s.os ∧ AllBare s'.gens ∧ Un (frs outer) [] H H' s.heap s'.heap ∧ HOk P w H' s'.heap ∧ RelV v u ∧ Q v H'
def CR (CX : CXT) (outer : List Env) (P : Program) (w : World) (H : Hp) (s : Shared) (Q : VK) (E : XK) (r : Result) (s' : Shared) : Prop :=
  match r with
  | .ok (.ret u) => CE outer P w H s Q u s'
  | .ok _ => False
  | .error e => CX outer H s E e s'
structure FnOk (P : Program) (w : World) (K : PySem.W.Frag) (mg : Str → Option Value) (base : Heap) (CX : CXT) (k : Nat) (f : Addr) (fd : FuncData) (ps : List Str) (sp : Sp) : Prop where
  len : ∀ vs H Q E, sp vs H Q E → vs.length = ps.length
  run : ∀ (A : Around) (outer : List Env) (s : Shared) (H : Hp) (args : Args) (us : List Value) (vs : List V) (Q : VK) (E : XK), Room k A → Env0 P w K mg base A outer s H → BindsTo s fd args (ps.zip us) → Vals vs us → sp vs H Q E →
    codeAny (model P w) A (.call (.ref f) args) (CR CX outer P w H s Q E) s
theorem FnOk.mono {P : Program} {w : World} {K : PySem.W.Frag} {mg : Str → Option Value} {base : Heap} {CX : CXT} {j k : Nat} {f : Addr} {fd : FuncData} {ps : List Str} {sp : Sp} (F : FnOk P w K mg base CX j f fd ps sp) (h : j ≤ k) :
    FnOk P w K mg base CX k f fd ps sp := ⟨F.len, fun A outer s H args us vs Q E hr => F.run A outer s H args us vs Q E (hr.mono h)⟩
theorem FnOk.imp {P : Program} {w : World} {K : PySem.W.Frag} {mg : Str → Option Value} {base : Heap} {CX : CXT} {k : Nat} {f : Addr} {fd : FuncData} {ps : List Str} {sp sp' : Sp} (F : FnOk P w K mg base CX k f fd ps sp)
    (h : ∀ vs H Q E, sp' vs H Q E → sp vs H Q E) : FnOk P w K mg base CX k f fd ps sp' :=
  ⟨fun vs H Q E q => F.len vs H Q E (h _ _ _ _ q), fun A outer s H args us vs Q E hr he hb hv hs => F.run A outer s H args us vs Q E hr he hb hv (h _ _ _ _ hs)⟩
theorem Env0.in1 {P : Program} {w : World} {K : PySem.W.Frag} {mg : Str → Option Value} {base : Heap} {A : Around} {outer : List Env} {s : Shared} {H : Hp} (e : Env0 P w K mg base A outer s H) :
    Env0 P w K mg base A.in1 outer s H := ⟨e.frames, e.mod, e.bs, e.bsz, e.funs, e.frf, e.hok, e.bare⟩
section
variable {X : Cx} {pins : List (Addr × Obj)} {σ : St} {H : Hp} {s s' : Shared}
theorem Inv.env0 (I : Inv X pins σ H s) : Env0 X.prog X.w X.K X.mg X.base X.A X.stack s H :=
  ⟨I.ok.frames, I.ok.mod, I.bs, Nat.le_trans I.ok.bsz I.sz, I.stack, I.stkFree, I.hok, I.bare⟩
theorem Inv.after {Q : VK} {u : Value} (I : Inv X pins σ H s) (h : CE X.stack X.prog X.w H s Q u s') : EP X pins σ Q u s' := by
  obtain ⟨v, H', os, bare, un, hok, r, q⟩ := h
  obtain ⟨hh, g, d, t, os'⟩ := s'
  obtain rfl : os' = s.os := os
  exact ⟨v, H', I.call (h' := hh) (g' := g) (d' := d) (t' := t) (ch := []) un hok bare (fun b z => absurd z (by simp)), r, q⟩
end
abbrev tCall (sp : Sp) (dvs : List V) (E : XK) (t : TA) : TE := fun σ H Q => t σ H fun vs H1 => sp (vs ++ dvs) H1 Q E
def Binds (K : PySem.W.Frag) (fd : FuncData) (ps : List Str) (ds : List Value) : Prop :=
  ∀ (s : Shared) (us : List Value), K.In s.heap → (us ++ ds).length = ps.length → BindsTo s fd ⟨us, []⟩ (ps.zip (us ++ ds))
theorem Binds.all {K : PySem.W.Frag} {fd : FuncData} {ps : List Str} (h : ∀ us : List Value, us.length = ps.length → bindArgs fd ⟨us, []⟩ = pure (ps.zip us)) : Binds K fd ps [] := fun s us _ hl => by
  rw [List.append_nil] at hl ⊢
  exact .of_eq (h us hl)
def Passes (CX : CXT) (X : Cx) (E : XK) : Prop := ∀ (pins : List (Addr × Obj)) (σ : St) (H : Hp) (s : Shared) (e : Value) (s' : Shared), Inv X pins σ H s → CX X.stack H s E e s' → X.xe e s'
section
variable {X : Cx} {CX : CXT} {k : Nat} {f C : Addr} {fd : FuncData} {ps : List Str} {sp : Sp} {dvs : List V} {ds : List Value} {E : XK} {x m : Str} {p pos apos : Pos} {e o : Expr} {es : List Expr} {ta : TE} {t : TA}
theorem run_fn {pins : List (Addr × Obj)} {σ : St} {H : Hp} {s : Shared} {Q : VK} {us : List Value} {vs : List V} (F : FnOk X.prog X.w X.K X.mg X.base CX k f fd ps sp) (hr : Room k X.A) (hb : Binds X.K fd ps ds) (hd : Vals dvs ds) (hx : Passes CX X E)
    (I : Inv X pins σ H s) (r : Vals vs us) (h : sp (vs ++ dvs) H Q E) : wpAny (model X.prog X.w) X.A (call (.ref f) us) (EP X pins σ Q) X.xe s := by
  have r2 : Vals (vs ++ dvs) (us ++ ds) := r.append hd
  have hl : (us ++ ds).length = ps.length := by rw [← r2.length]; exact F.len _ _ _ _ h
  refine wpAny_call (codeAny_mono (F.run X.A X.stack s H ⟨us, []⟩ (us ++ ds) (vs ++ dvs) Q E hr I.env0 (hb s us I.kIn hl) r2 h) fun r s' hq => ?_)
  cases r with
  | error e => exact hx pins σ H s e s' I hq
  | ok fl =>
    cases fl with
    | ret u => exact I.after hq
    | next => exact False.elim hq
    | brk => exact False.elim hq
    | cont => exact False.elim hq
theorem pe_call (F : FnOk X.prog X.w X.K X.mg X.base CX k f fd ps sp) (hr : Room k X.A) (hg : Gl X x) (hm : X.mg x = some (.ref f)) (hk : PySem.W.keepIn X.K (.ref f) = true) (hb : Binds X.K fd ps ds) (hd : Vals dvs ds) (hx : Passes CX X E)
    (ha : PA X (e :: es) t) (hdb : (x == ("__debug__" : Str)) = false := by decide) (he : starEach (e :: es) X.env = (false, eval e X.env) :: starEach es X.env := by rfl) (hpl : (backTo pos (starEach es X.env)).any (·.1) = false := by rfl) :
    PE X (.Call (.Name x p) (e :: es) [] pos) (tCall sp dvs E t) := by
  intro pins s σ H Q I h
  refine wpAny_Call_Name_kw (ld_glob I hg hm ?_ hdb)
  refine PySem.W.callWith_K (h₀ := X.base) I.ok.mod.kin hk (thn (ha pos pins s σ H _ I h) fun us s1 ⟨vs, H1, I1, r, q⟩ => ⟨I1.kIn, ?_⟩) he hpl
  exact run_fn F hr hb hd hx I1 r q
end
section
variable {X : Cx} {CX : CXT} {k : Nat} {f C : Addr} {fd : FuncData} {ps ks : List Str} {sp : Sp} {E : XK} {x m : Str} {p pos apos kpos : Pos} {e o : Expr} {es : List Expr} {kws : List Keyword} {te ta : TE} {t tk : TA} {nm : Option Str}
variable {g : List Value → List Value → List Value} {gV : List V → List V → List V}
end
structure FnScope (N P : List Str) (sc : Scope) : Prop where
  kind : sc.kind = .function
  co : sc.isCoroutine = false
  gen : sc.isGenerator = false
  nd : N.Nodup
  pre : N.take P.length = P
  par : ∀ x ∈ P, sc.names.lookup x = some .local ∨ sc.names.lookup x = some .cell
  nofree : ∀ y ∈ sc.names, y.2 ≠ .free
theorem bindL_out {kindOf : Str → Option NameKind} {x : Str} : ∀ {binds : List (Str × Value)} {m : Str → Option Value}, (∀ v, (x, v) ∉ binds) → bindL kindOf binds m x = m x
  | [], _, _ => rfl
  | (n, v) :: r, m, h => by
    unfold bindL
    rw [bindL_out fun w hw => h w (List.mem_cons_of_mem _ hw)]
    split
    · have : x ≠ n := by rintro rfl; exact h v List.mem_cons_self
      simp [this]
    · rfl
theorem bindC_out {kindOf : Str → Option NameKind} {x : Str} : ∀ {binds : List (Str × Value)} {m : Str → Option Value}, (∀ v, (x, v) ∉ binds) → bindC kindOf binds m x = m x
  | [], _, _ => rfl
  | (n, v) :: r, m, h => by
    unfold bindC
    rw [bindC_out fun w hw => h w (List.mem_cons_of_mem _ hw)]
    split
    · rfl
    · have : x ≠ n := by rintro rfl; exact h v List.mem_cons_self
      simp [this]
theorem bindL_get {kindOf : Str → Option NameKind} {x : Str} {v : Value} : ∀ {P : List Str} {vs : List Value} {i : Nat} {m : Str → Option Value}, P.Nodup → P[i]? = some x → vs[i]? = some v → kindOf x = some .local →
    bindL kindOf (P.zip vs) m x = some v
  | [], _, _, _, _, h, _, _ => by simp at h
  | _ :: _, [], _, _, _, _, h, _ => by simp at h
  | p :: P, w :: vs, 0, m, nd, h1, h2, hk => by
    simp at h1 h2; subst h1; subst h2
    show bindL kindOf ((p, w) :: P.zip vs) m p = _
    unfold bindL
    rw [bindL_out fun v hv => (List.nodup_cons.mp nd).1 (List.of_mem_zip hv).1, if_pos hk]
    simp
  | p :: P, w :: vs, i + 1, m, nd, h1, h2, hk => by
    show bindL kindOf ((p, w) :: P.zip vs) m x = _
    unfold bindL
    exact bindL_get (i := i) (List.nodup_cons.mp nd).2 (by simpa using h1) (by simpa using h2) hk
theorem bindC_get {kindOf : Str → Option NameKind} {x : Str} {v : Value} : ∀ {P : List Str} {vs : List Value} {i : Nat} {m : Str → Option Value}, P.Nodup → P[i]? = some x → vs[i]? = some v → kindOf x ≠ some .local →
    bindC kindOf (P.zip vs) m x = some v
  | [], _, _, _, _, h, _, _ => by simp at h
  | _ :: _, [], _, _, _, _, h, _ => by simp at h
  | p :: P, w :: vs, 0, m, nd, h1, h2, hk => by
    simp at h1 h2; subst h1; subst h2
    show bindC kindOf ((p, w) :: P.zip vs) m p = _
    unfold bindC
    rw [bindC_out fun v hv => (List.nodup_cons.mp nd).1 (List.of_mem_zip hv).1, if_neg hk]
    simp
  | p :: P, w :: vs, i + 1, m, nd, h1, h2, hk => by
    show bindC kindOf ((p, w) :: P.zip vs) m x = _
    unfold bindC
    exact bindC_get (i := i) (List.nodup_cons.mp nd).2 (by simpa using h1) (by simpa using h2) hk
def start (N : List Str) (vs : List V) : St := vs.map some ++ List.replicate (N.length - vs.length) none
def cxOf (CX : CXT) (P : Program) (w : World) (K : PySem.W.Frag) (mg : Str → Option Value) (base : Heap) (N : List Str) (qual : Str) (scope : Scope) (f : Addr) (cd : Value) (A : Around) (outer : List Env) (s : Shared) (H : Hp) (E : XK) : Cx where
  prog := P
  w := w
  K := K
  mg := mg
  base := base
  A := A.deeper (envOfC qual scope s.heap.objs.size f cd)
  N := N
  s₀ := s
  H₀ := H
  env := envOfC qual scope s.heap.objs.size f cd
  outer := outer
  stack := envOfC qual scope s.heap.objs.size f cd :: outer
  ex := []
  calm := true
  fn := fun _ => true
  pn := []
  xe := fun e s' => wpAny (model P w) (A.deeper (envOfC qual scope s.heap.objs.size f cd)) (leaving (envOfC qual scope s.heap.objs.size f cd) e) (fun _ s'' => CX outer H s E e s'') (fun e' s'' => CX outer H s E e' s'') s'
theorem cell_has {sc : Scope} {n : Nat} {x : Str} (h : sc.names.lookup x = some .cell) : ∃ c, (cellsFrom n sc.names []).lookup x = some c := by
  have q := PySem.W.cellsFrom_some sc.names n [] (.inl h)
  exact Option.isSome_iff_exists.mp q
theorem inv_start {CX : CXT} {P : Program} {w : World} {K : PySem.W.Frag} {mg : Str → Option Value} {base : Heap} {N ps : List Str} {qual : Str} {scope : Scope} {f : Addr} {cd : Value} {A : Around} {outer : List Env} {s s1 : Shared} {H : Hp} {E : XK} {us : List Value} {vs : List V}
    (S : FnScope N ps scope) (hd : A.handled = none) (e0 : Env0 P w K mg base A outer s H) (hl : vs.length = ps.length) (r : Vals vs us)
    (x : InCallC s s.heap.objs.size (bindL (envOfC qual scope s.heap.objs.size f cd).kindOf (ps.zip us) fun _ => none) (cellsFrom (s.heap.objs.size + 1) scope.names []) (bindC (envOfC qual scope s.heap.objs.size f cd).kindOf (ps.zip us) fun _ => none) s1) :
    Inv (cxOf CX P w K mg base N qual scope f cd A outer s H E) [] (start N vs) H s1 := by
  have hpl : ps.length ≤ N.length := by have := congrArg List.length S.pre; rw [List.length_take] at this; omega
  obtain ⟨h1, tk, rfl, hk⟩ := x.done
  have noA : ∀ b : Addr, b ∉ (cxOf CX P w K mg base N qual scope f cd A outer s H E).ex := fun b z => absurd (show b ∈ ([] : List Addr) from z) (by simp)
  refine ⟨⟨e0.mod, S.kind, rfl, rfl, Nat.le_refl _, fun y z c h1 h2 => ?_, fun y hy => ?_, fun y c _ h => ?_, fun _ => hd, Around.frames_deeper e0.frames, .inr ⟨rfl, rfl⟩, fun b z => absurd z (noA b), e0.bs, e0.bsz, fun b _ _ => noA b, fun b z => absurd z (noA b), e0.funs, e0.frf⟩,
    rfl, e0.bare, Un.kept hk, ⟨_, x.toInCall.ns, fun i y v h1 h2 h3 => ?_⟩, fun y c h => ⟨_, x.cell y c h⟩, e0.hok.fresh (Nat.le_refl _), fun y c h => ?_, fun p hp => absurd (show p ∈ ([] : List (Addr × Obj)) from hp) (by simp), e0.hok.kept hk, ?_⟩
  · exact name_of_addr x.apart (PySem.mem_of_lookup h1) (PySem.mem_of_lookup h2)
  · have hy : scope.names.lookup y = some .cell ∨ scope.names.lookup y = some .free := hy
    rcases hy with hy | hy
    · exact cell_has hy
    · exact absurd rfl (S.nofree _ (PySem.mem_of_lookup hy))
  · exact Nat.le_of_lt (x.above y c (PySem.mem_of_lookup h))
  · have hi : i < vs.length := by
      unfold start at h2
      by_cases hi : i < vs.length
      · exact hi
      · rw [List.getElem?_append_right (by simpa using hi)] at h2
        rw [List.getElem?_replicate] at h2
        split at h2 <;> cases h2
    have ha : vs[i]? = some v := by
      unfold start at h2
      rw [List.getElem?_append_left (by simpa using hi), List.getElem?_map] at h2
      cases e : vs[i]? with
      | none => rw [e] at h2; cases h2
      | some a => rw [e] at h2; cases h2; rfl
    obtain ⟨u, hu, rv⟩ := r.get ha
    have hp : ps[i]? = some y := by
      rw [← S.pre, List.getElem?_take_of_lt (by omega)]; exact h1
    have ndP : ps.Nodup := by rw [← S.pre]; exact S.nd.sublist (List.take_sublist _ _)
    refine ⟨u, rv, ?_⟩
    rcases S.par y (List.mem_of_getElem? hp) with k | k
    · exact .inl ⟨k, bindL_get ndP hp hu k⟩
    · obtain ⟨c, e⟩ := cell_has (n := s.heap.objs.size + 1) k
      refine .inr ⟨.inl k, c, e, ?_⟩
      have q := x.cell y c e
      rw [bindC_get ndP hp hu (by show scope.names.lookup y ≠ _; rw [k]; decide)] at q
      exact q
  · exact e0.hok.fresh (Nat.le_of_lt (x.above y c (PySem.mem_of_lookup h)))
  · unfold start
    show _ = N.length
    rw [List.length_append, List.length_map, List.length_replicate]
    omega
theorem fn_of {CX : CXT} {P : Program} {w : World} {K : PySem.W.Frag} {mg : Str → Option Value} {base : Heap} {k : Nat} {f : Addr} {name qual : Str} {params : Arguments} {body : List Stmt} {scope : Scope} {dV kV doc pm cdv ct oc : Value} {an od : Option Addr}
    {osl : Array (Option Value)} {N ps : List Str} {sp : Sp} (lk : K.lookup f = some ⟨oc, od, .func (PySem.W.fnOf name qual params body scope dV kV doc pm an cdv ct), osl⟩) (hcd : PySem.W.codeIn K cdv qual = true) (S : FnScope N ps scope)
    (len : ∀ vs H Q E, sp vs H Q E → vs.length = ps.length)
    (hbody : ∀ (A : Around) (outer : List Env) (s : Shared) (H : Hp) (vs : List V) (Q : VK) (E : XK), Room k (A.deeper (envOfC qual scope s.heap.objs.size f cdv)) → sp vs H Q E →
      ∃ t, PSs (cxOf CX P w K mg base N qual scope f cdv A outer s H E) body t ∧ t { nx := fun _ H' => Q .non H', rt := Q } (start N vs) H) :
    FnOk P w K mg base CX (k + 1) f (PySem.W.fnOf name qual params body scope dV kV doc pm an cdv ct) ps sp := by
  refine ⟨len, fun A outer s H args us vs Q E hr e0 hb r hsp => ?_⟩
  have hl := len _ _ _ _ hsp
  have KX : K.In s.heap := e0.mod.kin.keeps fun b o e => (e0.bs b o e).1
  have lim : s.heap.NoLimit := e0.mod.nolimit.keeps fun b o e => (e0.bs b o e).1
  have hkind : ∀ y ∈ ps.zip us, scope.names.lookup y.1 = some .local ∨ (scope.names.lookup y.1 = some .cell ∧ ((cellsFrom (s.heap.objs.size + 1) scope.names []).lookup y.1).isSome = true) := fun ⟨n, v⟩ hy => by
    rcases S.par n (List.of_mem_zip hy).1 with q | q
    · exact .inl q
    · exact .inr ⟨q, PySem.W.cellsFrom_some _ _ _ (.inl q)⟩
  refine codeAny_call_function hr.depth (KX _ _ lk) rfl S.co S.gen rfl (PySem.W.codeRec_of KX hcd) (hb _ _ _ _ ?_)
  refine wpAny_newFunctionEnv_cells S.kind hkind fun env he s1 x => ?_
  subst he
  refine ⟨lim.keeps x.toInCall.keep, codeAny_func ?_⟩
  obtain ⟨t, ht, hq⟩ := hbody A outer s H vs Q E (hr.deeper _) hsp
  have I : Inv (cxOf CX P w K mg base N qual scope f cdv A outer s H E) [] (start N vs) H s1 := inv_start S hr.hd e0 hl r x
  refine wpAny_mono (ht [] s1 (start N vs) H _ I hq) (fun fl s' hs => ?_) fun e s' hs => hs
  have fin : ∀ {σ' : St} {H' : Hp} {v : V} {u : Value}, Inv (cxOf CX P w K mg base N qual scope f cdv A outer s H E) [] σ' H' s' → RelV v u → Q v H' → CE outer P w H s Q u s' :=
    fun {σ' H' v u} J rv q => ⟨v, H', J.os, J.bare, J.base, J.hok, rv, q⟩
  cases fl with
  | ret u =>
    obtain ⟨v, σ', H', J, rv, q⟩ := hs
    exact fin J rv q
  | next =>
    obtain ⟨σ', H', J, q⟩ := hs
    exact fin (v := V.non) (u := Value.none) J rfl q
  | brk =>
    obtain ⟨_, _, _, q⟩ := hs
    exact False.elim q
  | cont =>
    obtain ⟨_, _, _, q⟩ := hs
    exact False.elim q
end L2
namespace L2
open PySem PySem.Spec PyProof.Rows
section
variable {X : Cx} {x : Str} {p pos : Pos} {e : Expr} {es : List Expr} {t : TA} {id T : String} {r : List V → Hp → VK → Prop}
abbrev tCB (r : List V → Hp → VK → Prop) (t : TA) : TE := fun σ H Q => t σ H fun vs H1 => r vs H1 Q
theorem pe_callB (hc : CallR X (.builtin id) r) (hg : Gl X x) (hm : X.mg x = none) (hv : bootBuiltins x = some (.builtin id)) (ha : PA X (e :: es) t) (hn : x ≠ "__name__" := by decide) (hdb : (x == ("__debug__" : Str)) = false := by decide)
    (he : starEach (e :: es) X.env = (false, eval e X.env) :: starEach es X.env := by rfl) (hpl : (backTo pos (starEach es X.env)).any (·.1) = false := by rfl) : PE X (.Call (.Name x p) (e :: es) [] pos) (tCB r t) := by
  intro pins s σ H Q I h
  refine wpAny_Call_Name_kw (ld_blt I hg hm hv ?_ hn hdb)
  exact PyProof.Rows.callWith_builtin1 (thn (ha pos pins s σ H _ I h) fun us s1 ⟨vs, H1, I1, r1, q1⟩ => hc pins s1 σ H1 vs us Q I1 r1 q1) he hpl
theorem pe_callTy (hc : CallR X (.type T) r) (hg : Gl X x) (hm : X.mg x = none) (hv : bootBuiltins x = some (.type T)) (ha : PA X (e :: es) t) (hn : x ≠ "__name__" := by decide) (hdb : (x == ("__debug__" : Str)) = false := by decide)
    (he : starEach (e :: es) X.env = (false, eval e X.env) :: starEach es X.env := by rfl) (hpl : (backTo pos (starEach es X.env)).any (·.1) = false := by rfl) : PE X (.Call (.Name x p) (e :: es) [] pos) (tCB r t) := by
  intro pins s σ H Q I h
  refine wpAny_Call_Name_kw (ld_blt I hg hm hv ?_ hn hdb)
  exact PyProof.Rows.callWith_type1 (thn (ha pos pins s σ H _ I h) fun us s1 ⟨vs, H1, I1, r1, q1⟩ => hc pins s1 σ H1 vs us Q I1 r1 q1) he hpl
end
end L2
namespace HT
open PySem PyProof.Rows
section
open PySem.SeqAt
open PySem.AutoSeq1 (wpAny_loadPart')
open PySem.MeetsSeq PySem.MeetsSeq2 PySem.MeetsSeq3
end
section
variable {prog : Program} {w : World} {A : Around} {E : Value → Shared → Prop} {s : Shared}
def sIx (n d : Nat) : Option Int → Nat
  | none => d
  | some v => if v < 0 then (v + (n : Int)).toNat else min v.toNat n
theorem sIx_none (n d : Nat) : sIx n d none = d := rfl
theorem sIx_nat (n d k : Nat) : sIx n d (some (k : Int)) = min k n := by
  show (if (k : Int) < 0 then ((k : Int) + (n : Int)).toNat else min (k : Int).toNat n) = min k n
  rw [if_neg (by omega), Int.toNat_natCast]
theorem sIx_le (n d : Nat) (hd : d ≤ n) (o : Option Int) : sIx n d o ≤ n := by
  cases o with
  | none => exact hd
  | some v =>
    show (if v < 0 then (v + (n : Int)).toNat else min v.toNat n) ≤ n
    by_cases hv : v < 0
    · rw [if_pos hv]; omega
    · rw [if_neg hv]; exact Nat.min_le_right _ _
theorem clip_eq (v : Int) (n d : Nat) : (if v < 0 then max (v + (n : Int)) 0 else min v (n : Int)) = ((sIx n d (some v) : Nat) : Int) := by
  show (if v < 0 then max (v + (n : Int)) 0 else min v (n : Int)) = (((if v < 0 then (v + (n : Int)).toNat else min v.toNat n) : Nat) : Int)
  by_cases hv : v < 0
  · simp only [if_pos hv]; omega
  · simp only [if_neg hv]; omega
theorem adjust_gen (lo hi : Option Int) (n : Nat) : Builtin.Slice.sliceAdjust lo hi 1 (n : Int) = (((sIx n 0 lo : Nat) : Int), ((sIx n n hi : Nat) : Int)) := by
  have h1 : ¬ ((1 : Int) < 0) := by omega
  unfold Builtin.Slice.sliceAdjust
  simp only [h1, if_false]
  refine Prod.ext ?_ ?_
  · cases lo with
    | none => rfl
    | some v => exact clip_eq v n 0
  · cases hi with
    | none => rfl
    | some v => exact clip_eq v n n
theorem places_gen (i j : Nat) : Builtin.Slice.slicePlaces (i : Int) (j : Int) 1 = j - i := by
  unfold Builtin.Slice.slicePlaces
  have h1 : (1 : Int) > 0 := by omega
  simp only [h1, if_true, Int.ediv_one]
  split <;> omega
theorem slicePart_ {v : Value} {o : Option Int} {Q : Option Int → Shared → Prop} (p : IsPart v o) (h : Q o s) : wpAny (model prog w) A (Builtin.Slice.slicePartIndex v) Q E s := by
  cases p with
  | none => exact slicePart_none h
  | int i t => exact slicePart_int h
theorem sliceApplied_gen {sl : Addr} {vl vu : Value} {lo hi : Option Int} {n : Nat} {Q : Int × Int × Nat → Shared → Prop} (hs : s.heap.IsSliceOf sl vl vu .none) (pl : IsPart vl lo) (pu : IsPart vu hi)
    (h : Q (((sIx n 0 lo : Nat) : Int), 1, sIx n n hi - sIx n 0 lo) s) : wpAny (model prog w) A (Builtin.Slice.sliceApplied (.ref sl) (pure (n : Int))) Q E s := by
  obtain ⟨os, hos, hcs, hds⟩ := id hs
  unfold Builtin.Slice.sliceApplied Builtin.Slice.sliceFields
  refine wpAny_bind (wpAny_bind (wpAny_field hos hds (x := vl) rfl (wpAny_bind (wpAny_field hos hds (x := vu) rfl (wpAny_bind (wpAny_field hos hds (x := .none) rfl (wpAny_pure ?_)))))))
  refine wpAny_bind (slicePart_none ?_)
  show wpAny _ _ (if ((1 : Int) == 0) = true then _ else _) _ _ s
  rw [if_neg (by decide)]
  refine wpAny_bind (slicePart_ pl (wpAny_bind (slicePart_ pu (wpAny_bind (wpAny_pure ?_)))))
  show wpAny _ _ (match Builtin.Slice.sliceAdjust lo hi 1 (n : Int) with | (lo, hi) => pure (lo, (1 : Int), Builtin.Slice.slicePlaces lo hi 1)) _ _ s
  rw [adjust_gen lo hi n]
  show wpAny _ _ (pure (((sIx n 0 lo : Nat) : Int), (1 : Int), Builtin.Slice.slicePlaces ((sIx n 0 lo : Nat) : Int) ((sIx n n hi : Nat) : Int) 1)) _ _ s
  rw [places_gen]
  exact wpAny_pure h
theorem pick_gen (xs : Array Value) (i k : Nat) : ((List.range k).filterMap fun (m : Nat) => xs[((i : Int) + (m : Int) * 1).toNat]?).toArray = ((xs.toList.drop i).take k).toArray := by
  have e : (fun (m : Nat) => xs[((i : Int) + (m : Int) * 1).toNat]?) = fun m => xs[i + m]? := by
    funext m
    have : ((i : Int) + (m : Int) * 1).toNat = i + m := by omega
    rw [this]
  rw [e]
  have := pick_run xs i k
  rw [List.filterMap_map] at this
  have e2 : ((fun x => xs[x]?) ∘ fun x => i + x) = fun m => xs[i + m]? := rfl
  rw [e2] at this
  rw [this]
theorem getItem_tuple_cut {t sl : Addr} {items : Array Value} {vl vu : Value} {lo hi : Option Int} {Q : Value → Shared → Prop} (ht : IsTup s.heap t items) (hs : s.heap.IsSliceOf sl vl vu .none) (pl : IsPart vl lo) (pu : IsPart vu hi)
    (hw : ¬ (sIx items.size 0 lo = 0 ∧ sIx items.size items.size hi = items.size))
    (h : Q (.ref s.heap.objs.size) { s with heap := s.heap.push { cls := .type "tuple", data := .seq ((items.toList.drop (sIx items.size 0 lo)).take (sIx items.size items.size hi - sIx items.size 0 lo)).toArray } })
    (hsz : items.size ≤ sizeLine) : wpAny (model prog w) A (getItem (.ref t) (.ref sl)) Q E s := by
  have htake : sizeOk (.seq ((items.toList.drop (sIx items.size 0 lo)).take (sIx items.size items.size hi - sIx items.size 0 lo)).toArray) := by
    show ((items.toList.drop (sIx items.size 0 lo)).take (sIx items.size items.size hi - sIx items.size 0 lo)).toArray.size ≤ sizeLine
    rw [List.size_toArray, List.length_take, List.length_drop, Array.length_toList]
    omega
  have hj : sIx items.size items.size hi ≤ items.size := sIx_le _ _ (Nat.le_refl _) hi
  obtain ⟨os, hos, hcs, hds⟩ := id hs
  have hTs : s.TypeIs (.ref sl) "slice" := ⟨os, hos, hcs⟩
  unfold getItem
  try with_reducible refine wpAny_holding ?_
  first | refine wpAny_bind (wpAny_pure ?_) | skip
  refine wpAny_bind (wpAny_sequenceKey ht.typeIs (by decide) ?_)
  refine wpAny_bind (wpAny_callSpecial?_slot (name := Str.ofString "__getitem__") ht.typeIs PyProof.Rows.slot_tuple_getitem
    (wpAny_call_entry PyProof.Rows.slot_tuple_getitem ht.typeIs entry_tuple_getitem ?_ (args_tuple_getitem _ _)))
  show wpAny _ _ (Builtin.Tuple.tupleItemsOf (.ref t) >>= _) _ _ s
  refine wpAny_bind (tupleItemsOf_ ht ?_)
  refine wpAny_bind (wpAny_typeOf hTs ?_)
  rw [if_pos (by decide)]
  refine wpAny_bind (sliceApplied_gen hs pl pu ?_)
  have hno : ¬ ((((sIx items.size 0 lo : Nat) : Int) == 0 && (1 : Int) == 1 && (sIx items.size items.size hi - sIx items.size 0 lo) == items.size) = true) := by
    intro q
    rw [Bool.and_eq_true, Bool.and_eq_true] at q
    have q1 : ((sIx items.size 0 lo : Nat) : Int) = 0 := eq_of_beq q.1.1
    have q2 : sIx items.size items.size hi - sIx items.size 0 lo = items.size := eq_of_beq q.2
    exact hw ⟨by omega, by omega⟩
  show wpAny _ _ (if (((sIx items.size 0 lo : Nat) : Int) == 0 && (1 : Int) == 1 && (sIx items.size items.size hi - sIx items.size 0 lo) == items.size) = true then _ else _) _ _ s
  rw [if_neg hno, pick_gen]
  first
    | exact wpAny_bind (m := Builtin.Tuple.tupleExact _) (wpAny_newObj_type (wpAny_pure ⟨_, rfl, wpAny_pure h⟩) htake)
    | exact wpAny_bind (m := Builtin.Tuple.tupleExact _) (wpAny_newObj_type (wpAny_bind (wpAny_pure (wpAny_pure ⟨_, rfl, wpAny_pure h⟩))) htake)
    | exact wpAny_bind (wpAny_bind (m := Builtin.Tuple.tupleExact _) (wpAny_newObj_type (wpAny_pure (wpAny_pure ⟨_, rfl, wpAny_pure h⟩)) htake))
    | exact wpAny_bind (wpAny_bind (m := Builtin.Tuple.tupleExact _) (wpAny_newObj_type (wpAny_pure ⟨_, rfl, wpAny_pure h⟩) htake))
end
end HT
namespace L2
open PySem PySem.Spec PyProof.Rows
abbrev TO := St → Hp → (Option Int → Hp → Prop) → Prop
def PO (X : Cx) (e : Option Expr) (t : TO) : Prop :=
  ∀ (pins : List (Addr × Obj)) (s : Shared) (σ : St) (H : Hp) (Q : Option Int → Hp → Prop), Inv X pins σ H s → t σ H Q →
    wpAny (model X.prog X.w) X.A (evalPart e X.env) (fun u s' => ∃ o H', Inv X pins σ H' s' ∧ IsPart u o ∧ Q o H') X.xe s
abbrev tNoPart : TO := fun _ H Q => Q none H
abbrev tPart (t : TE) : TO := fun σ H Q => t σ H fun x H1 => ∃ i, x = .int i ∧ Q (some i) H1
section
variable {X : Cx} {e : Expr} {te : TE} {lo hi : Option Expr} {tl th : TO} {pos p2 : Pos}
theorem po_none : PO X none tNoPart := by
  intro pins s σ H Q I h
  rw [evalPart_none]
  exact wpAny_pure ⟨none, H, I, .none, h⟩
theorem po_some (h : PE X e te) : PO X (some e) (tPart te) := by
  intro pins s σ H Q I hw
  rw [evalPart_some]
  refine thn (h pins s σ H _ I hw) fun u s1 ⟨x, H1, I1, r1, q1⟩ => ?_
  obtain ⟨i, rfl, q⟩ := q1
  obtain ⟨t, rfl⟩ := r1
  exact ⟨some i, H1, I1, .int i t, q⟩
def SlR (X : Cx) (r : V → Option Int → Option Int → Hp → VK → Prop) : Prop :=
  ∀ (pins : List (Addr × Obj)) (s : Shared) (σ : St) (H : Hp) (x : V) (v vl vu : Value) (lo hi : Option Int) (sl : Addr) (Q : VK), Inv X pins σ H s → RelV x v → s.heap.IsSliceOf sl vl vu .none → IsPart vl lo → IsPart vu hi → r x lo hi H Q →
    ∃ T id, typeLookup (.type T) "__getitem__" = pure (some (.builtin id)) ∧ s.TypeIs v T ∧ wpAny (model X.prog X.w) X.A (getItem v (.ref sl)) (EP X pins σ Q) X.xe s
abbrev tSl (r : V → Option Int → Option Int → Hp → VK → Prop) (te : TE) (tl th : TO) : TE := fun σ H Q => te σ H fun x H1 => tl σ H1 fun l H2 => th σ H2 fun u H3 => r x l u H3 Q
theorem pe_slice {r : V → Option Int → Option Int → Hp → VK → Prop} (hr : SlR X r) (he : PE X e te) (hl : PO X lo tl) (hu : PO X hi th) : PE X (.Subscript e (.Slice lo hi none p2) pos) (tSl r te tl th) := by
  intro pins s σ H Q I h
  refine Subscript_ (thn (he pins s σ H _ I h) fun v s1 ⟨x, H1, I1, r1, q1⟩ => ?_)
  refine wpAny_Slice (thn (hl pins s1 σ H1 _ I1 q1) fun vl s2 ⟨l, H2, I2, pl, q2⟩ => thn (hu pins s2 σ H2 _ I2 q2) fun vu s3 ⟨u, H3, I3, pu, q3⟩ => ?_)
  rw [evalPart_none]
  refine wpAny_pure ?_
  have I4 : Inv X pins σ H3 { s3 with heap := s3.heap.push { cls := .type "slice", data := .fields #[vl, vu, .none] } } := I3.kept (t' := s3.toks) fun b ob q => Heap.get?_push_of_some _ q
  obtain ⟨T, id, hT, ht, hg⟩ := hr pins { s3 with heap := s3.heap.push { cls := .type "slice", data := .fields #[vl, vu, .none] } } σ H3 x v vl vu l u s3.heap.objs.size Q I4 r1 (Heap.IsSliceOf.new ..) pl pu q3
  show wpAny (model X.prog X.w) X.A (subscriptTail e (.Slice lo hi none p2) v (.ref s3.heap.objs.size)) (EP X pins σ Q) X.xe { s3 with heap := s3.heap.push { cls := .type "slice", data := .fields #[vl, vu, .none] } }
  exact tail_any (ops := [.ref s3.heap.objs.size, v]) ht hT hg (by with_unfolding_all rfl)
def cutV (xs : List V) (lo hi : Option Int) : List V := (xs.drop (HT.sIx xs.length 0 lo)).take (HT.sIx xs.length xs.length hi - HT.sIx xs.length 0 lo)
theorem cutV_length (xs : List V) (lo hi : Option Int) : (cutV xs lo hi).length ≤ xs.length := by
  unfold cutV
  rw [List.length_take, List.length_drop]
  omega
def rSlT (K : PySem.W.Frag) : V → Option Int → Option Int → Hp → VK → Prop := fun x lo hi H Q => ∃ a xs, x = .ref a ∧ SqT K H a xs ∧
  ¬ (HT.sIx xs.length 0 lo = 0 ∧ HT.sIx xs.length xs.length hi = xs.length) ∧ ∀ p, H p = none → Q (.ref p) (upd H p (.tup (cutV xs lo hi)))
theorem sl_tup : SlR X (rSlT X.K) := by
  intro pins s σ H x v vl vu lo hi sl Q I rx hs pl pu h
  obtain ⟨a, xs, rfl, hx, hw, q⟩ := h
  cases rx
  obtain ⟨its, r, ht, hz⟩ := I.tuple hx
  have hlen : its.toArray.size = xs.length := by rw [List.size_toArray]; exact r.length.symm
  refine ⟨"tuple", _, PyProof.Rows.slot_tuple_getitem.lookup, ht.typeIs, ?_⟩
  refine HT.getItem_tuple_cut ht hs pl pu (by rw [hlen]; exact hw) ?_ (by rw [hlen]; exact hz)
  rw [hlen]
  refine ⟨.ref s.heap.objs.size, _, I.laid (t' := s.toks) (o := .tup (cutV xs lo hi)) (fun b ob q => Heap.get?_push_of_some _ q) (Nat.le_refl _) ?_, rfl, q _ (I.hok.fresh (Nat.le_refl _))⟩
  exact ⟨Nat.le_trans (cutV_length xs lo hi) hz, _, (r.drop (HT.sIx xs.length 0 lo)).take (HT.sIx xs.length xs.length hi - HT.sIx xs.length 0 lo), IsTup.new _ _⟩
end
end L2
namespace L2
open PySem PySem.Spec PyProof.Rows
def ixN (n : Nat) (i : Int) : Option Nat := if 0 ≤ i then (if i < n then some i.toNat else none) else if -(n : Int) ≤ i then some (i + n).toNat else none
def atI {α : Type} (xs : List α) (i : Int) : Option α := (ixN xs.length i).bind fun j => xs[j]?
theorem ixN_seq {n : Nat} {i : Int} {j : Nat} (h : ixN n i = some j) : seqIndex? i n = some j ∧ j < n ∧ -(n : Int) ≤ i ∧ i < n := by
  unfold ixN at h
  by_cases h0 : 0 ≤ i
  · rw [if_pos h0] at h
    by_cases h1 : i < n
    · rw [if_pos h1] at h
      have e : i.toNat = j := Option.some.inj h
      exact ⟨by rw [seqIndex_of h0 h1, e], by omega, by omega, h1⟩
    · rw [if_neg h1] at h; cases h
  · rw [if_neg h0] at h
    by_cases h1 : -(n : Int) ≤ i
    · rw [if_pos h1] at h
      have e : (i + n).toNat = j := Option.some.inj h
      exact ⟨by rw [seqIndex_neg (by omega) h1, e], by omega, h1, by omega⟩
    · rw [if_neg h1] at h; cases h
theorem atI_get {α : Type} {xs : List α} {i : Int} {v : α} (h : atI xs i = some v) : ∃ j, seqIndex? i xs.length = some j ∧ xs[j]? = some v ∧ j < xs.length ∧ -(xs.length : Int) ≤ i ∧ i < xs.length := by
  unfold atI at h
  cases e : ixN xs.length i with
  | none => rw [e] at h; cases h
  | some j =>
    rw [e] at h
    obtain ⟨h1, h2, h3, h4⟩ := ixN_seq e
    exact ⟨j, h1, h, h2, h3, h4⟩
theorem atI_nat {α : Type} {xs : List α} {j : Nat} {v : α} (h : xs[j]? = some v) : atI xs (j : Int) = some v := by
  have hj : j < xs.length := (List.getElem?_eq_some_iff.mp h).1
  have e : ixN xs.length (j : Int) = some j := by
    unfold ixN
    rw [if_pos (by omega), if_pos (by omega)]; simp
  unfold atI; rw [e]; exact h
theorem atI_last {α : Type} (xs : List α) (v : α) : atI (xs ++ [v]) (-1) = some v := by
  have hl : (xs ++ [v]).length = xs.length + 1 := by simp
  have e : ixN (xs ++ [v]).length (-1) = some xs.length := by
    unfold ixN
    rw [hl, if_neg (by decide), if_pos (by omega)]
    congr 1
    omega
  unfold atI
  rw [e]
  show (xs ++ [v])[xs.length]? = some v
  simp
def PlainIx (b : Expr) : Prop := ∀ o i, subscripted b false o i = operate [o, i] (getItem o i)
def IxR (X : Cx) (r : R2) : Prop :=
  ∀ (value slice : Expr) (pins : List (Addr × Obj)) (s : Shared) (σ : St) (H : Hp) (x y : V) (v u : Value) (Q : VK), Inv X pins σ H s → RelV x v → RelV y u → r x y H Q →
    subscripted slice false v u = operate [v, u] (getItem v u) → wpAny (model X.prog X.w) X.A (subscriptTail value slice v u) (EP X pins σ Q) X.xe s
def MtR (X : Cx) (id : String) (r : V → List V → Hp → VK → Prop) : Prop :=
  ∀ (pins : List (Addr × Obj)) (s : Shared) (σ : St) (H : Hp) (x : V) (xs : List V) (v : Value) (us : List Value) (Q : VK), Inv X pins σ H s → RelV x v → Vals xs us → r x xs H Q →
    wpAny (model X.prog X.w) X.A (call (.builtin id) (v :: us)) (EP X pins σ Q) X.xe s
section
variable {X : Cx} {a b : Expr} {ta tb : TE} {pos : Pos}
theorem pe_ix {r : R2} (hr : IxR X r) (ha : PE X a ta) (hb : PE X b tb) (hs : PlainIx b) : PE X (.Subscript a b pos) (tOp r ta tb) := by
  intro pins s σ H Q I h
  exact Subscript_ (binT ha hb I h fun v u s2 x y H2 I2 rx ry q => hr a b pins s2 σ H2 x y v u Q I2 rx ry q (hs _ _))
def rIxL (K : PySem.W.Frag) : R2 := fun x y H Q => ∃ p xs i v, x = .ref p ∧ y = .int i ∧ SqL K H p xs ∧ atI xs i = some v ∧ Q v H
def rIxT (K : PySem.W.Frag) : R2 := fun x y H Q => ∃ p xs i v, x = .ref p ∧ y = .int i ∧ SqT K H p xs ∧ atI xs i = some v ∧ Q v H
def rIxS : R2 := fun x y H Q => ∃ z i c, x = .str z ∧ y = .int i ∧ z.length ≤ sizeLine ∧ atI z.cps.toList i = some c ∧ Q (.str ⟨#[c]⟩) H
theorem ix_list : IxR X (rIxL X.K) := by
  intro value slice pins s σ H x y v u Q I rx ry h hs
  obtain ⟨p, xs, i, z, rfl, rfl, hq, he, q⟩ := h
  cases rx
  obtain ⟨t, rfl⟩ := ry
  obtain ⟨its, r, pl, hz⟩ := I.list hq
  obtain ⟨j, h1, h2, h3, h4, h5⟩ := atI_get he
  obtain ⟨w, ew, rw'⟩ := r.get h2
  have hl := r.length
  have hn := line63
  have fin : EP X pins σ Q w s := ⟨z, H, I, rw', q⟩
  by_cases h0 : 0 ≤ i
  · have hj : i.toNat = j := by
      rw [seqIndex_of h0 h5] at h1
      exact Option.some.inj h1
    exact item_listR pl.isList h0 (by omega) (by rw [hj]; simpa using ew) fin hs
  · have hj : (i + (its.toArray.size : Int)).toNat = j := by
      rw [seqIndex_neg (by omega) h4] at h1
      rw [List.size_toArray, ← hl]
      exact Option.some.inj h1
    exact subscriptTail_builtinR (x := w) pl.isList.typeIs slot_list_getitem.lookup
      (wpAny_getItem_list_neg (Q := fun r s' => r = w ∧ EP X pins σ Q r s') pl.isList (by omega) (by rw [List.size_toArray] <;> omega) (by omega) (by rw [hj]; simpa using ew) ⟨rfl, fin⟩) hs
theorem ix_tup : IxR X (rIxT X.K) := by
  intro value slice pins s σ H x y v u Q I rx ry h hs
  obtain ⟨p, xs, i, z, rfl, rfl, hq, he, q⟩ := h
  cases rx
  obtain ⟨t, rfl⟩ := ry
  obtain ⟨its, r, pl, hz⟩ := I.tuple hq
  obtain ⟨j, h1, h2, h3, h4, h5⟩ := atI_get he
  obtain ⟨w, ew, rw'⟩ := r.get h2
  have hl := r.length
  have hn := line63
  have fin : EP X pins σ Q w s := ⟨z, H, I, rw', q⟩
  exact subscriptTail_builtinR (x := w) pl.typeIs slot_tuple_getitem.lookup
    (getItem_tuple (j := j) (Q := fun r s' => r = w ∧ EP X pins σ Q r s') pl (by omega) (by omega) (by rw [List.size_toArray, ← hl]; exact h1) (by simpa using ew) ⟨rfl, fin⟩) hs
theorem ix_str : IxR X rIxS := by
  intro value slice pins s σ H x y v u Q I rx ry h hs
  obtain ⟨z, i, c, rfl, rfl, hz, he, q⟩ := h
  obtain ⟨t, rfl⟩ := rx
  obtain ⟨t', rfl⟩ := ry
  obtain ⟨j, h1, h2, h3, h4, h5⟩ := atI_get he
  have hl : z.cps.toList.length = z.length := by simp [Str.length]
  rw [hl] at h1 h4 h5
  have hn := line63
  exact tail_any (typeIs_str s z t) slot_str_getitem.lookup (getItem_str (c := c) (by
    have e1 : decide (i < -(2 ^ 63 : Int)) = false := decide_eq_false (by omega)
    have e2 : decide (i ≥ 2 ^ 63) = false := decide_eq_false (by omega)
    rw [e1, e2, Bool.or_false]) (by rw [h1]; simpa using h2) ⟨.str ⟨#[c]⟩, H, I.tok _, ⟨_, rfl⟩, q⟩) hs
theorem Inv.lst {pins : List (Addr × Obj)} {σ : St} {H : Hp} {s : Shared} {p : Addr} {xs : List V} (I : Inv X pins σ H s) (h : H p = some (.lst xs)) :
    ∃ (its : List Value) (n : Nat), Vals xs its ∧ s.heap.get? p = some { cls := .type "list", data := .seq its.toArray n } ∧ xs.length ≤ sizeLine := by
  obtain ⟨z, its, n, r, e⟩ := I.hok p _ h
  exact ⟨its, n, r, e, z⟩
theorem slice_bounds (lo hi : Option Int) (n : Nat) : (sliceBounds lo hi none n).1 = ((HT.sIx n 0 lo : Nat) : Int) ∧ (sliceBounds lo hi none n).2.1 = ((HT.sIx n n hi : Nat) : Int) ∧ (sliceBounds lo hi none n).2.2 = 1 := by
  refine ⟨?_, ?_, rfl⟩
  · cases lo with
    | none => simp [sliceBounds, HT.sIx]
    | some i =>
      simp only [sliceBounds, HT.sIx, Option.getD_none, show (1 : Int) > 0 by decide, if_true]
      by_cases h : i < 0
      · simp only [h, if_true] <;> omega
      · simp only [h, if_false] <;> omega
  · cases hi with
    | none => simp [sliceBounds, HT.sIx]
    | some i =>
      simp only [sliceBounds, HT.sIx, Option.getD_none, show (1 : Int) > 0 by decide, if_true]
      by_cases h : i < 0
      · simp only [h, if_true] <;> omega
      · simp only [h, if_false] <;> omega
theorem slicePick_cut (its : List Value) (lo hi : Option Int) : slicePick its.toArray lo hi none = ((its.drop (HT.sIx its.length 0 lo)).take (HT.sIx its.length its.length hi - HT.sIx its.length 0 lo)).toArray := by
  obtain ⟨h1, h2, h3⟩ := slice_bounds lo hi its.toArray.size
  unfold slicePick
  rw [h1, h2, h3]
  simp only [sliceRange_one, pick_run, List.size_toArray] <;> rfl
def rSlL (K : PySem.W.Frag) : V → Option Int → Option Int → Hp → VK → Prop := fun x lo hi H Q => ∃ a xs, x = .ref a ∧ SqL K H a xs ∧ ∀ p, H p = none → Q (.ref p) (upd H p (.lst (cutV xs lo hi)))
theorem sl_list : SlR X (rSlL X.K) := by
  intro pins s σ H x v vl vu lo hi sl Q I rx hs pl pu h
  obtain ⟨a, xs, rfl, hx, q⟩ := h
  cases rx
  obtain ⟨its, r, ht, hz⟩ := I.list hx
  have hlen := r.length
  refine ⟨"list", _, slot_list_getitem.lookup, ht.isList.typeIs, ?_⟩
  refine wpAny_getItem_list_slice ht.isList hs pl pu .none (by simp) ?_ (by rw [List.size_toArray] <;> omega)
  rw [slicePick_cut, ← hlen]
  refine ⟨.ref s.heap.objs.size, _, I.laid (t' := s.toks) (o := .lst (cutV xs lo hi)) (fun b ob q => Heap.get?_push_of_some _ q) (Nat.le_refl _) ?_, rfl, q _ (I.hok.fresh (Nat.le_refl _))⟩
  exact ⟨Nat.le_trans (cutV_length xs lo hi) hz, _, 0, (r.drop (HT.sIx xs.length 0 lo)).take (HT.sIx xs.length xs.length hi - HT.sIx xs.length 0 lo), Heap.get?_push_size _ rfl⟩
def flatV : V → Bool
  | .non => true
  | .bl _ => true
  | .int _ => true
  | .str _ => true
  | _ => false
def eqV : V → V → Bool
  | .non, .non => true
  | .bl a, .bl b => a == b
  | .bl a, .int b => (if a then 1 else 0) == b
  | .int a, .bl b => a == (if b then 1 else 0)
  | .int a, .int b => a == b
  | .str a, .str b => a == b
  | _, _ => false
theorem call_len_seq : CallR X (.builtin "len") (fun xs H Q => ∃ p ys, xs = [.ref p] ∧ (SqL X.K H p ys ∨ SqT X.K H p ys) ∧ Q (.int ys.length) H) := by
  intro pins s σ H xs us Q I r h
  obtain ⟨p, ys, rfl, hq, q⟩ := h
  obtain ⟨u, rfl, rx⟩ := vals1 r
  cases rx
  have hn := line63
  rcases hq with hq | hq
  · obtain ⟨its, r', pl, hz⟩ := I.list hq
    have hlen := r'.length
    exact Calls.call_len_list pl.isList (by simp only [List.size_toArray] <;> omega) ⟨.int ys.length, H, I.tok _, ⟨s.toks + 1, by rw [List.size_toArray, hlen]⟩, q⟩
  · obtain ⟨its, r', pl, hz⟩ := I.tuple hq
    have hlen := r'.length
    exact len_tuple pl (by simp only [List.size_toArray] <;> omega) ⟨.int ys.length, H, I.tok _, ⟨s.toks + 1, by rw [List.size_toArray, hlen]⟩, q⟩
theorem call_len_str : CallR X (.builtin "len") (fun xs H Q => ∃ z, xs = [.str z] ∧ z.length ≤ sizeLine ∧ Q (.int z.length) H) := by
  intro pins s σ H xs us Q I r h
  obtain ⟨z, rfl, hz, q⟩ := h
  obtain ⟨u, rfl, t, rfl⟩ := vals1 r
  have hn := line63
  exact len_str (by omega) ⟨.int z.length, H, I.tok _, ⟨_, rfl⟩, q⟩
theorem call_list_of : CallR X (.type "list") (fun xs H Q => ∃ p ys, xs = [.ref p] ∧ (SqL X.K H p ys ∨ SqT X.K H p ys) ∧ ∀ l, H l = none → Q (.ref l) (upd H l (.lst ys))) := by
  intro pins s σ H xs us Q I r h
  obtain ⟨p, ys, rfl, hq, q⟩ := h
  obtain ⟨u, rfl, rx⟩ := vals1 r
  cases rx
  have fin : ∀ (its : List Value), Vals ys its → ys.length ≤ sizeLine → ∀ (h' : Heap) (c' : Nat), (∀ b o', s.heap.get? b = some o' → h'.get? b = some o') →
      h'.get? s.heap.objs.size = some { cls := .type "list", dict := none, data := .seq its.toArray c', slots := #[] } → EP X pins σ Q (.ref s.heap.objs.size) { s with heap := h' } := fun its r' hz h' c' kp e =>
    ⟨.ref s.heap.objs.size, _, I.laid (t' := s.toks) kp (Nat.le_refl _) (show ObjOk X.prog X.w _ h' _ (.lst ys) from ⟨hz, its, c', r', e⟩), rfl, q _ (I.hok.fresh (Nat.le_refl _))⟩
  rcases hq with hq | hq
  · obtain ⟨its, r', pl, hz⟩ := I.list hq
    have hlen := r'.length
    obtain ⟨o, ho, hc, n, hd⟩ := pl.isList
    exact call_list_seq p (.inl rfl) ho hc hd (fun h' c' kp e => fin its r' hz h' c' kp e) (by simp only [List.size_toArray] <;> omega)
  · obtain ⟨its, r', pl, hz⟩ := I.tuple hq
    have hlen := r'.length
    obtain ⟨o, ho, hc, n, hd⟩ := pl
    exact call_list_seq p (.inr rfl) ho hc hd (fun h' c' kp e => fin its r' hz h' c' kp e) (by simp only [List.size_toArray] <;> omega)
theorem call_tuple_of : CallR X (.type "tuple") (fun xs H Q => ∃ p ys, xs = [.ref p] ∧ ((SqL X.K H p ys ∧ ∀ l, H l = none → Q (.ref l) (upd H l (.tup ys))) ∨ (SqT X.K H p ys ∧ Q (.ref p) H))) := by
  intro pins s σ H xs us Q I r h
  obtain ⟨p, ys, rfl, h⟩ := h
  obtain ⟨u, rfl, rx⟩ := vals1 r
  cases rx
  rcases h with ⟨hq, q⟩ | ⟨hq, q⟩
  · obtain ⟨its, r', pl, hz⟩ := I.list hq
    have hlen := r'.length
    refine call_tuple_list pl.isList (fun h' kp => ?_) (by simp only [List.size_toArray] <;> omega)
    have I1 : Inv X pins σ H { s with heap := h' } := I.kept (t' := s.toks) kp
    have I2 : Inv X pins σ (upd H h'.objs.size (.tup ys)) { s with heap := h'.push { cls := .type "tuple", data := .seq its.toArray } } :=
      I1.laid (t' := s.toks) (fun b o e => Heap.get?_push_of_some _ e) (Nat.le_refl _) (show ObjOk X.prog X.w _ _ _ (.tup ys) from ⟨hz, its, r', IsTup.new _ _⟩)
    exact ⟨.ref h'.objs.size, _, I2, rfl, q _ (I1.hok.fresh (Nat.le_refl _))⟩
  · obtain ⟨its, r', pl, hz⟩ := I.tuple hq
    exact call_tuple_same pl ⟨.ref p, H, I, rfl, q⟩
def tyV (K : PySem.W.Frag) (T : String) (x : V) (H : Hp) : Prop := match x with
  | .str _ => T = "str"
  | .int _ => T = "int"
  | .ref p => (T = "list" ∧ ∃ xs, SqL K H p xs) ∨ (T = "tuple" ∧ ∃ o, K.lookup p = some o ∧ o.cls = .type "tuple" ∧ o.dict = none) ∨
      (T = "dict" ∧ ((∃ kvs, H p = some (.dK kvs)) ∨ ∃ kvs, H p = some (.dT kvs))) ∨ (T = "set" ∧ ∃ S n, H p = some (.set S n))
  | _ => False
theorem tyV_is {pins : List (Addr × Obj)} {σ : St} {H : Hp} {s : Shared} {T : String} {x : V} {v : Value} (I : Inv X pins σ H s) (r : RelV x v) (ty : tyV X.K T x H) :
    s.TypeIs v T ∧ ∀ a, v = .ref a → ∃ ob, s.heap.get? a = some ob ∧ ob.dict = none := by
  cases x with
  | str z =>
    obtain ⟨t, rfl⟩ := r
    cases (show T = "str" from ty)
    exact ⟨typeIs_str s z t, fun _ e => nomatch e⟩
  | int i =>
    obtain ⟨t, rfl⟩ := r
    cases (show T = "int" from ty)
    exact ⟨typeIs_int s i t, fun _ e => nomatch e⟩
  | ref p =>
    cases r
    rcases ty with ⟨rfl, xs, hq⟩ | ⟨rfl, o, hk, hc, hd⟩ | ⟨rfl, hk⟩ | ⟨rfl, S, n, hk⟩
    · obtain ⟨its, _, pl, _⟩ := I.list hq
      refine ⟨pl.isList.typeIs, fun a e => ?_⟩
      cases e
      obtain ⟨o, n, e, c, hd, _⟩ := pl
      exact ⟨o, e, hd⟩
    · refine ⟨⟨o, I.kIn p o hk, hc⟩, fun a e => ?_⟩
      cases e
      exact ⟨o, I.kIn _ o hk, hd⟩
    · have z : ∃ o, s.heap.get? p = some o ∧ o.ExactDict := by
        rcases hk with ⟨kvs, hk⟩ | ⟨kvs, hk⟩
        · obtain ⟨_, _, _, _, o, _, _, e, ex, _⟩ := I.hok p _ hk
          exact ⟨o, e, ex⟩
        · obtain ⟨_, _, _, _, o, _, _, e, ex, _⟩ := I.hok p _ hk
          exact ⟨o, e, ex⟩
      obtain ⟨o, e, ex⟩ := z
      refine ⟨⟨o, e, ex.1⟩, fun a e2 => ?_⟩
      cases e2
      exact ⟨o, e, ex.2.1⟩
    · obtain ⟨o, _, _, _, e, ex, _⟩ := I.hok p _ hk
      refine ⟨⟨o, e, ex.1⟩, fun a e2 => ?_⟩
      cases e2
      exact ⟨o, e, ex.2.1⟩
  | _ => exact False.elim ty
abbrev tBM (K : PySem.W.Frag) (T : String) (r : V → List V → Hp → VK → Prop) (to : TE) (t : TA) : TE := fun σ H Q => to σ H fun x H1 => tyV K T x H1 ∧ t σ H1 fun xs H2 => r x xs H2 Q
variable {o e : Expr} {es : List Expr} {to : TE} {t : TA} {name : Str} {apos cpos : Pos} {T id : String} {r : V → List V → Hp → VK → Prop}
theorem pe_bm (pa : PlainAttrs T) (slot : Slot T name id) (hty : typeOf (.builtin id) = pure (.type "method_descriptor")) (hm : MtR X id r) (ho : PE X o to) (ha : PA X (e :: es) t)
    (hbase : attributeBase o name X.env (eval o X.env) = eval o X.env := by rfl)
    (hfew : ((backTo cpos (starEach (e :: es) X.env)).all (fun x => !x.1) && (backToKw cpos (keywordEach [] X.env)).all (fun x => x.1.isSome)
      && decide ((e :: es).length + ([] : List Keyword).length + (if ([] : List Keyword).isEmpty then 0 else 1) < 30)) = true := by rfl)
    (hline : (apos.endLine == cpos.line) = true := by rfl) (hs : starEach (e :: es) X.env = (false, eval e X.env) :: starEach es X.env := by rfl) (hplain : (backTo cpos (starEach es X.env)).any (·.1) = false := by rfl) :
    PE X (.Call (.Attribute o name apos) (e :: es) [] cpos) (tBM X.K T r to t) := by
  intro pins s σ H Q I h
  refine wpAny_Call_method_late hbase hfew hline rfl (thn (ho pins s σ H _ I h) fun v s1 ⟨x, H1, I1, r1, ty, q1⟩ => ?_)
  obtain ⟨h1, h2⟩ := tyV_is I1 r1 ty
  refine ⟨T, id, pa, slot, hty, h1, h2, ?_⟩
  have hA := ha cpos pins s1 σ H1 _ I1 q1
  rw [hs] at hA ⊢
  refine Calls.callWith_builtin (by show (false || (backTo cpos (starEach es X.env)).any (·.1)) = false; rw [hplain] <;> rfl) (Calls.evalArgs_plain ?_)
  exact thn hA fun us s2 ⟨vs, H2, I2, r2, q2⟩ => hm pins s2 σ H2 x vs v us Q I2 r1 r2 q2
end
end L2
namespace L2
open PySem PySem.Spec PyProof.Rows
def MtM (X : Cx) (id : String) (r : V → List V → Hp → VK → Prop) : Prop :=
  ∀ (pins : List (Addr × Obj)) (s : Shared) (σ : St) (H : Hp) (x : V) (xs : List V) (v : Value) (us : List Value) (Q : VK), Inv X pins σ H s → RelV x v → Vals xs us → r x xs H Q →
    wpAny (model X.prog X.w) X.A (call (.builtin id) (v :: us)) (EP X pins σ Q) X.xe s
theorem Vals.one : ∀ {x : V} {us : List Value}, Vals [x] us → ∃ u, us = [u] ∧ RelV x u
  | _, _, .cons r .nil => ⟨_, rfl, r⟩
theorem Vals.dropLast {xs : List V} {us : List Value} (h : Vals xs us) : Vals xs.dropLast us.dropLast := by
  induction h with
  | nil => exact .nil
  | cons r t ih =>
    cases t with
    | nil => exact .nil
    | cons q t' => exact .cons r ih
theorem Vals.reverse {xs : List V} {us : List Value} (h : Vals xs us) : Vals xs.reverse us.reverse := by
  induction h with
  | nil => exact .nil
  | cons r t ih => rw [List.reverse_cons, List.reverse_cons]; exact Vals.append ih (.cons r .nil)
theorem Vals.rep {xs : List V} {us : List Value} (h : Vals xs us) : ∀ k : Nat, Vals (List.replicate k xs).flatten (List.replicate k us).flatten
  | 0 => .nil
  | k + 1 => by
    rw [List.replicate_succ, List.replicate_succ, List.flatten_cons, List.flatten_cons]
    exact Vals.append h (Vals.rep h k)
theorem foldl_rep (its : List Value) : ∀ (k : Nat) (acc : List Value),
    List.foldl (fun x1 x2 => x1 ++ x2) acc.toArray (List.replicate k its.toArray) = (acc ++ (List.replicate k its).flatten).toArray
  | 0, acc => by simp
  | k + 1, acc => by
    have e : acc.toArray ++ its.toArray = (acc ++ its).toArray := by simp
    have e2 : (acc ++ its) ++ (List.replicate k its).flatten = acc ++ (List.replicate (k + 1) its).flatten := by
      rw [List.replicate_succ, List.flatten_cons, List.append_assoc]
    rw [← e2, ← foldl_rep its k (acc ++ its), ← e, List.replicate_succ, List.foldl_cons]
section
variable {X : Cx} {pins : List (Addr × Obj)} {σ : St} {H : Hp} {s : Shared} {l b : Addr} {xs ys zs : List V}
theorem Inv.lset {its its' : List Value} {n : Nat} {f : Array Value → Array Value} {t' : Nat} (I : Inv X pins σ H s) (hH : H l = some (.lst xs))
    (e : s.heap.get? l = some { cls := .type "list", data := .seq its.toArray n }) (hf : f its.toArray = its'.toArray) (hv : Vals ys its') (hz : ys.length ≤ sizeLine) :
    Inv X pins σ (upd H l (.lst ys)) { s with heap := s.heap.update l (Obj.mapSeq f), toks := t' } := by
  have q := PySem.IsL.update e f
  rw [hf] at q
  refine I.write (x := l) (e := l) (by rw [hH]; exact trivial) (.inl rfl) (fun b' u hb hu => (Heap.get?_update_other s.heap (Obj.mapSeq f) (Ne.symm hb)).trans hu) ⟨_, q⟩ ?_
  exact ⟨hz, its', _, hv, q⟩
theorem Inv.lnew {its : List Value} {t' : Nat} (I : Inv X pins σ H s) (hv : Vals ys its) (hz : ys.length ≤ sizeLine) :
    Inv X pins σ (upd H s.heap.objs.size (.lst ys)) { s with heap := s.heap.push { cls := .type "list", data := .seq its.toArray }, toks := t' } :=
  I.laid (fun _ _ q => Heap.get?_push_of_some _ q) (Nat.le_refl _) ⟨hz, its, 0, hv, Heap.get?_push_size _ rfl⟩
theorem Inv.fresh (I : Inv X pins σ H s) : H s.heap.objs.size = none := I.hok.fresh (Nat.le_refl _)
theorem Inv.lstM (I : Inv X pins σ H s) (hH : H l = some (.lst xs)) : xs.length ≤ sizeLine ∧ ∃ (its : List Value) (n : Nat), Vals xs its ∧ xs.length = its.length ∧ s.heap.get? l = some { cls := .type "list", data := .seq its.toArray n } := by
  obtain ⟨z, its, n, r, e⟩ := I.hok l _ hH
  exact ⟨z, its, n, r, r.length, e⟩
theorem notLongL {n : Nat} (h : n ≤ sizeLine) : Builtin.List.listTooLong n = false := by
  unfold Builtin.List.listTooLong
  exact decide_eq_false (by omega)
end
section
variable {X : Cx}
def rAppend : V → List V → Hp → VK → Prop := fun x vs H Q => ∃ l xs y, x = .ref l ∧ vs = [y] ∧ H l = some (.lst xs) ∧ xs.length < sizeLine ∧ Q .non (upd H l (.lst (xs ++ [y])))
theorem mt_append : MtM X "list.append" rAppend := by
  intro pins s σ H x vs v us Q I rx rv h
  obtain ⟨l, xs, y, rfl, rfl, hH, hz, q⟩ := h
  cases rx
  obtain ⟨u, rfl, ru⟩ := rv.one
  obtain ⟨z, its, n, r, hl, e⟩ := I.lstM hH
  refine call_meets F.slot_list_append ⟨_, e, rfl⟩ F.entry_list_append (F.args_list_append_2 _ _) (PySem.list_append l its.toArray n u (by rw [List.size_toArray]; omega)) ⟨e, ?_⟩
  refine ⟨.non, _, I.lset (its' := its ++ [u]) hH e (by simp) (r.append (.cons ru .nil)) ?_, rfl, q⟩
  rw [List.length_append, List.length_singleton]
  omega
def rRep : R2 := fun x y H Q => ∃ l k xs, x = .ref l ∧ y = .int k ∧ H l = some (.lst xs) ∧ -(2 ^ 63) ≤ k ∧ k < 2 ^ 63 ∧ xs.length * k.toNat ≤ sizeLine ∧
  ∀ p, H p = none → Q (.ref p) (upd H p (.lst (List.replicate k.toNat xs).flatten))
theorem len_rep {α : Type} (xs : List α) (k : Nat) : (List.replicate k xs).flatten.length = k * xs.length := by
  induction k with
  | zero => simp
  | succ k ih => rw [List.replicate_succ, List.flatten_cons, List.length_append, ih, Nat.succ_mul, Nat.add_comm]
theorem op_rep : OpR X (binaryOp .Mult) rRep := by
  intro pins s σ H x y v u Q I rx ry h
  obtain ⟨l, k, xs, rfl, rfl, hH, h1, h2, hz, q⟩ := h
  cases rx
  obtain ⟨t, rfl⟩ := ry
  obtain ⟨z, its, n, r, hl, e⟩ := I.lstM hH
  have hlen : its.toArray.size * k.toNat ≤ sizeLine := by rw [List.size_toArray, ← hl]; exact hz
  have hcap : ¬ its.toArray.size * k.toNat > (2 ^ 63 - 1) / 8 := by
    have : (sizeLine : Nat) ≤ (2 ^ 63 - 1) / 8 := by decide
    omega
  have hfit : ¬ (!Builtin.List.listFitsIndex k) = true := by
    rw [fitsIndex_both h1 h2]
    exact Bool.false_ne_true
  have hlong : ¬ Builtin.List.listTooLong (its.toArray.size * k.toNat) = true := by
    rw [notLongL hlen]
    exact Bool.false_ne_true
  have hnew : List.foldl (fun x1 x2 => x1 ++ x2) #[] (List.replicate (if its.toArray.isEmpty = true then 0 else k.toNat) its.toArray) = (List.replicate k.toNat its).flatten.toArray := by
    have f0 : ∀ m : Nat, List.foldl (fun x1 x2 => x1 ++ x2) #[] (List.replicate m its.toArray) = (List.replicate m its).flatten.toArray := fun m => by
      have := foldl_rep its m []
      rw [List.nil_append] at this
      exact this
    rw [f0]
    cases its with
    | nil => simp
    | cons a r' => rw [if_neg (by simp)]
  refine wpAny_binaryOp_repeat_ref (T := "list") (U := "int") (by decide) ⟨_, e, rfl⟩ (fun s' => typeIs_int s' k t) noFill_list_mul F.fills_int_mul F.slot_int_rmul repeat_list F.slot_int_index.lookup
    (call_meets F.slot_int_rmul (typeIs_int s k t) F.entry_int_rmul (F.args_int_rmul_2 _ _) (int___rmul___int_list k t l its.toArray n)
      ⟨e, rfl, ⟨_, e, rfl⟩, call_meets F.slot_list_mul ⟨_, e, rfl⟩ F.entry_list_mul (F.args_list_mul_2 _ _) (AutoListH.list___mul___list_int_3 l its.toArray n k t hfit hcap hlong) ⟨e, ?_⟩⟩)
  rw [hnew]
  exact ⟨.ref _, _, I.lnew (t' := s.toks) (r.rep k.toNat) (by rw [len_rep, Nat.mul_comm]; exact hz), rfl, q _ I.fresh⟩
end
section
variable {prog : Program} {w : World} {A : Around} {E : Value → Shared → Prop} {s : Shared}
end
section
variable {X : Cx}
end
end L2
namespace Att
open PySem PySem.W PySem.Calls PyProof.Rows
theorem ints_of_wellAll {P : Params} {h : Heap} : ∀ (ns : List Int) (vs : List Value), WellAll P h vs (ns.map WData.int) → IntsAre vs ns := by
  intro ns
  induction ns with
  | nil =>
    intro vs w
    rw [List.map_nil] at w
    cases w
    exact .nil
  | cons n ns ih =>
    intro vs w
    rw [List.map_cons] at w
    cases w with
    | cons a b =>
      cases a
      exact .cons _ _ (ih _ b)
theorem script_of {l : OpenLaw} {n : Nat} (hn : l.most = some n) {P : Params} {h : Heap} {args : List WData} {vals : List Value}
    (hpre : l.row.toRowW.claim.pre args = true) (hwl : WellAll P h vals args) :
    ∃ a vs ns, vals = [Value.ref a] ∧ args = [WData.list (ns.map WData.int)] ∧ h.get? a = some { cls := .type "list", data := .seq vs.toArray } ∧ IntsAre vs ns ∧ ns.length ≤ n := by
  have hsh : WShape.hasAll [] args [.list .int] = true := (pre_splitW hpre).1
  have hc : l.pre.holds [] { args := args } = true := (pre_splitW hpre).2
  obtain ⟨d, r, rfl, h1, h2⟩ := hasAllW_cons hsh
  obtain rfl := hasAllW_nil h2
  obtain ⟨xs, rfl, h3⟩ := hasW_list h1
  obtain ⟨ns, rfl⟩ := items_int h3
  have hlen : ns.length ≤ n := by
    unfold OpenLaw.pre at hc
    have h4 : (WTm.not (.lt (.lit (.int (n : Int))) (.len (.arg 0)))).holds [] { args := [.list (ns.map .int)] } = true := by
      have h4 := (holds_andW hc).1
      rw [hn] at h4
      exact h4
    have h5 := condW_of h4 (w_not (w_lt w_lit (w_len_list (w_arg rfl))))
    rw [List.length_map] at h5
    refine Nat.le_of_not_lt fun q => ?_
    have q' : (n : Int) < ((ns.length : Nat) : Int) := by omega
    first
      | (rw [decide_eq_true q'] at h5; exact absurd h5 (by decide))
      | (simp at h5; omega)
  cases hwl with
  | cons w1 w2 =>
    cases w2
    cases w1 with
    | list ho hall => exact ⟨_, _, ns, rfl, rfl, ho, ints_of_wellAll ns _ hall, hlen⟩
theorem post_true (l : OpenLaw) (args : List WData) : l.row.toRowW.claim.post args (.bool true) args = true :=
  postW_of (r := l.row.toRowW) (X := (true == true))
    (show WShape.has [] (.bool true) .bool = true by first | rfl | decide | simp [WShape.has, WShape.arms, WShape.armsAll])
    (show (WTm.eq .res (.lit (.bool true))).value [] { args := args, res := some (.bool true), after := args } = some (.bool (true == true)) from w_eq_bool (w_res rfl) w_lit) rfl
theorem attach_call {l : OpenLaw} {n : Nat} {q : Program} {loose : List Str} {XP : (Str → Option Value) → Heap → Prop} {YP : World → Heap → Prop} {d : DefRec}
    (hn : l.most = some n) (hdf : d.params.defaults = [])
    (call : ∀ (w : World) (s₀ s₁ : Shared) (mg mb : Str → Option Value) (fa : Addr) (o : Obj) (pm cd doc : Value) (a : Addr) (vs : List Value) (ns : List Int),
      Ground q loose [] XP w s₀ mg mb s₁.heap → YP w s₁.heap →
      s₁.heap.get? fa = some o → o.data = .func (docDef d.name d.params d.body d.scope pm cd doc) → s₁.heap.CodeRec cd d.name → mg d.name = some (.ref fa) →
      s₁.heap.get? a = some { cls := .type "list", data := .seq vs.toArray } → IntsAre vs ns → ns.length ≤ n → s₁.gens = #[] →
      codeAny (model l.prog w) callerA (.call (.ref fa) ⟨[.ref a], []⟩) (fun r s' => r = .ok (.ret (.bool true)) ∧ OldK s₁.heap s'.heap ∧ s'.os = s₁.os ∧ AllBare s'.gens) s₁) :
    WalkO q loose XP YP l.row.toRowW d [] (fun f vs => PySem.call f vs) := by
  intro w s₀ s₁ mg mb G Y fa o pm cd doc dV kV ho hd hcd hD hmg hg args vals as hpre hlay hrd hwl hlo
  obtain rfl : dV = .none := Dflts.none hD hdf
  obtain rfl : kV = .none := Dflts.noKw hD
  obtain ⟨a, vs, ns, rfl, rfl, hobj, hints, hlen⟩ := script_of hn hpre hwl
  refine enter_call (codeAny_mono (call w s₀ s₁ mg mb fa o pm cd doc a vs ns G Y ho (fd_plain hd) hcd hmg hobj hints hlen hg) fun r s' hq => ?_)
  obtain ⟨rfl, h2, h3, h4⟩ := hq
  exact ⟨.inl ⟨.bool true, .bool true, [], rfl, fun _ => rfl, .bool true, post_true l _, fun _ => ⟨List.Pairwise.nil, fun _ hm => (nomatch hm)⟩⟩, h2, h3, h4⟩
section
variable {prog : Program} {w : World} {A : Around} {E : Value → Shared → Prop} {s : Shared} {K : Frag}
end
end Att
namespace L2
open PySem PySem.Spec PyProof.Rows
theorem vals_ints : ∀ {vs : List Value} {ns : List Int}, IntsAre vs ns → Vals (ns.map V.int) vs
  | _, _, .nil => .nil
  | _, _, .cons n t h => .cons ⟨t, rfl⟩ (vals_ints h)
def Only (H : Hp) : Prop := ∀ b, H b = none ∨ ∃ o xs, H b = some (.frz o (.lst xs))
theorem law_call {P : Program} {w : World} {K : PySem.W.Frag} {mg mb : Str → Option Value} {CX : CXT} {k : Nat} {fa a : Addr} {fd : FuncData} {x : Str} {sp : Sp} {s₁ : Shared} {vs : List Value} {ns : List Int}
    (KX : K.In s₁.heap) (hns : s₁.heap.Ns mainGlobals mg) (hb : s₁.heap.Ns builtinsNs mb) (hbb : ∀ x : Str, x ≠ "__name__" → mb x = bootBuiltins x) (hlim : s₁.heap.NoLimit) (hg : s₁.gens = #[])
    (ha : s₁.heap.get? a = some { cls := .type "list", data := .seq vs.toArray }) (hi : IntsAre vs ns) (hl : ns.length ≤ sizeLine) (hr : Room k callerA)
    (F : ∀ base : Heap, K.In base → base.Ns mainGlobals mg → FnOk P w K mg base CX k fa fd [x] sp) (hbind : ∀ (s : Shared) (u : Value), BindsTo s fd ⟨[u], []⟩ [(x, u)])
    (hsp : ∀ H : Hp, Only H → SqL K H a (ns.map V.int) → sp [.ref a] H (fun v _ => v = .bl true) fun _ _ _ => False)
    (hCX : ∀ H e s', CX [] H s₁ (fun _ _ _ => False) e s' → False) :
    codeAny (model P w) callerA (.call (.ref fa) ⟨[.ref a], []⟩) (fun r s' => r = .ok (.ret (.bool true)) ∧ OldK s₁.heap s'.heap ∧ s'.os = s₁.os ∧ AllBare s'.gens) s₁ := by
  have rv := vals_ints hi
  have lenV := hi.length
  have core : ∀ H : Hp, Only H → SqL K H a (ns.map V.int) → HOk P w H s₁.heap → (∀ b, H b ≠ none → b = a) → (H a ≠ none → K.lookup a = none) →
      codeAny (model P w) callerA (.call (.ref fa) ⟨[.ref a], []⟩) (fun r s' => r = .ok (.ret (.bool true)) ∧ OldK s₁.heap s'.heap ∧ s'.os = s₁.os ∧ AllBare s'.gens) s₁ := by
    intro H hO hS hok hA hK
    have base_of : ∀ {b : Addr} {o : Obj}, s₁.heap.get? b = some o → H b = none → (hidT s₁.heap H).get? b = some o := fun e n => hidT_get e n
    have noA : ∀ {b : Addr} {o : Obj} {es : Array DictEntry} {ep : Nat}, s₁.heap.get? b = some o → o.data = .dict es ep → H b = none := fun {b o es ep} e d => by
      cases q : H b with
      | none => rfl
      | some u =>
        have e' : b = a := hA b (by rw [q]; simp)
        subst e'
        rw [ha] at e; cases e
        have d' : Data.seq vs.toArray _ = Data.dict es ep := d
        cases d'
    have nsK : ∀ {b : Addr} {m : Str → Option Value}, s₁.heap.Ns b m → (hidT s₁.heap H).Ns b m := fun {b m} ⟨o, es, ep, e, d, r⟩ => ⟨o, es, ep, base_of e (noA e d), d, r⟩
    have hKb : K.In (hidT s₁.heap H) := fun b o e => base_of (KX b o e) (by
      cases q : H b with
      | none => rfl
      | some u =>
        have e' : b = a := hA b (by rw [q]; simp)
        subst e'
        rw [hK (by rw [q]; simp)] at e; cases e)
    have hM : Mod K mg (hidT s₁.heap H) := ⟨hKb, nsK hns, ⟨mb, nsK hb, hbb⟩, let ⟨mc, h1, h2⟩ := hlim; ⟨mc, nsK h1, h2⟩⟩
    have e0 : Env0 P w K mg (hidT s₁.heap H) callerA [] s₁ H := ⟨rfl, hM, fun b o e => of_hidT e, Nat.le_of_eq (hidT_size _ _), trivial, fun b hb => absurd (show b ∈ ([] : List Addr) from hb) (by simp), hok, .of_eq hg⟩
    refine codeAny_mono ((F _ hKb (nsK hns)).run callerA [] s₁ H ⟨[.ref a], []⟩ [.ref a] [.ref a] _ _ hr e0 (hbind s₁ (.ref a)) (.cons rfl .nil) (hsp H hO hS)) fun r s' h => ?_
    cases r with
    | error e => exact (hCX H e s' h).elim
    | ok fl =>
      cases fl with
      | next => exact False.elim h
      | brk => exact False.elim h
      | cont => exact False.elim h
      | ret u =>
        obtain ⟨v, H', os, bare, un, hok', r', q⟩ := h
        have q' : v = .bl true := q
        subst q'
        obtain rfl : u = Value.bool true := r'
        refine ⟨rfl, OldK.of_keep fun b o e => ?_, os, bare⟩
        cases q : H b with
        | none => exact un.keep b o e q (by intro z; exact absurd (show b ∈ ([] : List Addr) from z) (by simp)) (by simp)
        | some u =>
          rcases hO b with z | ⟨ob, xs, z⟩
          · rw [q] at z; cases z
          · have z2 := un.frzs b ob _ z
            obtain ⟨e1, _⟩ := hok b _ z
            obtain ⟨e2, _⟩ := hok' b _ z2
            rw [e] at e1; cases e1
            exact e2
  cases hk : K.lookup a with
  | some o =>
    have e := KX a o hk
    rw [ha] at e
    cases e
    refine core (fun _ => none) (fun _ => .inl rfl) (.inr ⟨_, vs.toArray, _, hk, rfl, rfl, rfl, by rw [List.size_toArray, lenV]; exact hl, by simpa using rv⟩) (fun b u z => by have z' : (none : Option HO) = some u := z; cases z') (fun b z => absurd rfl z) fun z => absurd rfl z
  | none =>
    refine core (fun b => if b = a then some (.frz { cls := .type "list", data := .seq vs.toArray } (.lst (ns.map V.int))) else none) (fun b => ?_) (.inl (.inr ⟨{ cls := .type "list", data := .seq vs.toArray }, if_pos rfl⟩)) (fun b u z => ?_) (fun b z => ?_) fun _ => hk
    · by_cases hb : b = a
      · exact .inr ⟨_, _, if_pos hb⟩
      · exact .inl (if_neg hb)
    · by_cases hb : b = a
      · have z' := (if_pos hb).symm.trans z
        cases z'
        subst hb
        exact ⟨ha, by rw [List.length_map]; exact hl, vs, _, rv, ha⟩
      · have z' := (if_neg hb).symm.trans z
        cases z'
    · by_cases hb : b = a
      · exact hb
      · exact absurd (if_neg hb) z
end L2
namespace L2
open PySem PySem.Spec PyProof.Rows
theorem walk_of {l : PySem.W.OpenLaw} {n k : Nat} {q : Program} {loose : List Str} {XP : (Str → Option Value) → Heap → Prop} {YP : World → Heap → Prop} {d : DefRec} {K : Params → PySem.W.Frag} {CX : World → CXT} {sp : World → Sp} {x : Str}
    (hn : l.most = some n) (hn2 : n ≤ sizeLine) (hdf : d.params.defaults = []) (hr : Room k callerA)
    (hY : ∀ (w : World) (h : Heap), YP w h → (K w.params).In h)
    (F : ∀ (w : World) (mg : Str → Option Value) (fa : Addr) (h : Heap), (K w.params).In h → h.Ns mainGlobals mg → mg d.name = some (.ref fa) →
      ∃ fd : FuncData, (∀ (s : Shared) (u : Value), BindsTo s fd ⟨[u], []⟩ [(x, u)]) ∧
        ∀ base : Heap, (K w.params).In base → base.Ns mainGlobals mg → FnOk l.prog w (K w.params) mg base (CX w) k fa fd [x] (sp w))
    (hsp : ∀ (w : World) (H : Hp) (a : Addr) (ns : List Int), ns.length ≤ n → Only H → SqL (K w.params) H a (ns.map V.int) → sp w [.ref a] H (fun v _ => v = .bl true) fun _ _ _ => False)
    (hCX : ∀ (w : World) (H : Hp) (s : Shared) (e : Value) (s' : Shared), CX w [] H s (fun _ _ _ => False) e s' → False) :
    PySem.W.WalkO q loose XP YP l.row.toRowW d [] (fun f vs => PySem.call f vs) := by
  refine Att.attach_call hn hdf fun w s₀ s₁ mg mb fa o pm cd doc a vs ns G Y ho hd hcd hmg hobj hints hlen hg => ?_
  have KX := hY w _ Y
  obtain ⟨fd, hb, hF⟩ := F w mg fa _ KX G.T.g hmg
  exact law_call KX G.T.g G.T.b G.T.builtins G.T.nolimit hg hobj hints (Nat.le_trans hlen hn2) hr hF hb (fun H hO hS => hsp w H a ns hlen hO hS) fun H e s' => hCX w H s₁ e s'
end L2
namespace L2
open PySem PySem.Spec PyProof.Rows
def defArgs (s : Stmt) : Arguments := match s with
  | .FunctionDef _ a _ _ _ _ _ _ _ _ => a
  | _ => { posonlyargs := [], args := [], vararg := none, kwonlyargs := [], kw_defaults := [], kwarg := none, defaults := [] }
def defBody (s : Stmt) : List Stmt := match s with
  | .FunctionDef _ _ b _ _ _ _ _ _ _ => b
  | _ => []
def defScope (s : Stmt) : Scope := match s with
  | .FunctionDef _ _ _ _ _ _ sc _ _ _ => sc
  | _ => { kind := .function, names := [], isGenerator := false, isCoroutine := false }
abbrev CX0 : CXT := fun _ _ _ _ _ _ => False
abbrev E0 : XK := fun _ _ _ => False
theorem pass0 {X : Cx} : Passes CX0 X E0 := fun _ _ _ _ _ _ _ h => h.elim
structure Fun (K : PySem.W.Frag) (x qual : Str) (st : Stmt) (f : Addr) (fd : FuncData) : Prop where
  ex : ∃ (oc : Value) (od : Option Addr) (kV doc pm : Value) (an : Option Addr) (cdv ct : Value) (osl : Array (Option Value)),
    fd = PySem.W.fnOf x qual (defArgs st) (defBody st) (defScope st) .none kV doc pm an cdv ct ∧ K.lookup f = some ⟨oc, od, .func fd, osl⟩ ∧ PySem.W.codeIn K cdv qual = true
  kp : PySem.W.keepIn K (.ref f) = true
section
variable {P : Program} {w : World} {K : PySem.W.Frag} {mg : Str → Option Value} {base : Heap}
theorem Fun.ok {x qual : Str} {st : Stmt} {f : Addr} {fd : FuncData} {N ps : List Str} {k : Nat} {sp : Sp} (F : Fun K x qual st f fd) (S : FnScope N ps (defScope st)) (len : ∀ vs H Q E, sp vs H Q E → vs.length = ps.length)
    (hbody : ∀ (cdv : Value) (A : Around) (outer : List Env) (s : Shared) (H : Hp) (vs : List V) (Q : VK) (E : XK), Room k (A.deeper (envOfC qual (defScope st) s.heap.objs.size f cdv)) → sp vs H Q E →
      ∃ t, PSs (cxOf CX0 P w K mg base N qual (defScope st) f cdv A outer s H E).nox (defBody st) t ∧ t { nx := fun _ H' => Q .non H', rt := Q } (start N vs) H) : FnOk P w K mg base CX0 (k + 1) f fd ps sp := by
  obtain ⟨oc, od, kV, doc, pm, an, cdv, ct, osl, rfl, lk, hcd⟩ := F.ex
  refine fn_of lk hcd S len fun A outer s H vs Q E hr hsp => ?_
  obtain ⟨t, h, q⟩ := hbody cdv A outer s H vs Q E hr hsp
  exact ⟨t, h.nox, q⟩
theorem Fun.binds {x qual : Str} {st : Stmt} {f : Addr} {fd : FuncData} {ps : List Str} (F : Fun K x qual st f fd)
    (h : ∀ (kV doc pm : Value) (an : Option Addr) (cdv ct : Value) (us : List Value), us.length = ps.length → bindArgs (PySem.W.fnOf x qual (defArgs st) (defBody st) (defScope st) .none kV doc pm an cdv ct) ⟨us, []⟩ = pure (ps.zip us)) : Binds K fd ps [] := by
  obtain ⟨oc, od, kV, doc, pm, an, cdv, ct, osl, rfl, lk, hcd⟩ := F.ex
  exact .all (h kV doc pm an cdv ct)
theorem fun_mk {x qual : Str} {st : Stmt} {f : Addr} {oc : Value} {od an : Option Addr} {osl : Array (Option Value)} {kV doc pm cdv ct : Value} (l : K.lookup f = some ⟨oc, od, .func (PySem.W.fnOf x qual (defArgs st) (defBody st) (defScope st) .none kV doc pm an cdv ct), osl⟩)
    (c : PySem.W.codeIn K cdv qual = true) (k : PySem.W.keepIn K (.ref f) = true) : Fun K x qual st f (PySem.W.fnOf x qual (defArgs st) (defBody st) (defScope st) .none kV doc pm an cdv ct) := ⟨⟨oc, od, kV, doc, pm, an, cdv, ct, osl, rfl, l, c⟩, k⟩
end
section
variable {X : Cx}
theorem pv (i : Nat) {x : Str} {pos : Pos} (hN : X.N[i]? = some x := by rfl) (hv : Vis X.env.scope x := by first | exact Or.inl rfl | exact Or.inr (Or.inl rfl) | exact Or.inr (Or.inr rfl)) (hd : (x == ("__debug__" : Str)) = false := by decide)
    (hcd : (x == ("__classdict__" : Str)) = false := by decide) : PE X (.Name x pos) (tVar i) := pe_var hN hv hd hcd
end
theorem iteF {A B : Prop} (h : B) : if false = true then A else B := by
  rw [if_neg Bool.false_ne_true]
  exact h
theorem iteT {A B : Prop} (h : A) : if true = true then A else B := by
  rw [if_pos rfl]
  exact h
def Same (H H' : Hp) : Prop := ∀ b o, H b = some o → H' b = some o
theorem Same.refl (H : Hp) : Same H H := fun _ _ h => h
theorem Same.trans {H H1 H2 : Hp} (a : Same H H1) (b : Same H1 H2) : Same H H2 := fun c o h => b c o (a c o h)
theorem Same.free {H H' : Hp} (e : Same H H') {l : Addr} (h : H' l = Option.none) : H l = Option.none := by
  cases q : H l with
  | none => rfl
  | some o =>
    rw [e l o q] at h
    cases h
theorem Same.seq {K : PySem.W.Frag} {H H' : Hp} {a : Addr} {xs : List V} (e : Same H H') (h : SqL K H a xs) : SqL K H' a xs := by
  rcases h with (h | ⟨o, h⟩) | h
  · exact .inl (.inl (e _ _ h))
  · exact .inl (.inr ⟨o, e _ _ h⟩)
  · exact .inr h
end L2
namespace L2
open PySem PySem.Spec PyProof.Rows
section
variable {κ : Type} [DecidableEq κ]
def valV (kvs : List (κ × V)) (k : κ) : Option V := (kvs.find? fun kv => decide (kv.1 = k)).map (·.2)
def putK (kvs : List (κ × V)) (k : κ) (v : V) : List (κ × V) :=
  if (kvs.any fun kv => decide (kv.1 = k)) = true then kvs.map (fun kv => if kv.1 = k then (kv.1, v) else kv) else kvs ++ [(k, v)]
def dropK (kvs : List (κ × V)) (k : κ) : List (κ × V) := kvs.filter fun kv => decide (kv.1 ≠ k)
theorem valV_pos {p : κ × V} {r : List (κ × V)} {k : κ} (e : p.1 = k) : valV (p :: r) k = some p.2 := by simp [valV, List.find?_cons, e]
theorem valV_neg {p : κ × V} {r : List (κ × V)} {k : κ} (e : ¬ p.1 = k) : valV (p :: r) k = valV r k := by simp [valV, List.find?_cons, e]
theorem valV_any (k : κ) : ∀ kvs : List (κ × V), (kvs.any fun kv => decide (kv.1 = k)) = (valV kvs k).isSome
  | [] => rfl
  | p :: r => by
    rw [List.any_cons]
    by_cases e : p.1 = k
    · simp only [valV_pos e, decide_eq_true e, Bool.true_or, Option.isSome_some]
    · rw [valV_neg e, decide_eq_false e, Bool.false_or]; exact valV_any k r
theorem valV_snoc (k j : κ) (y : V) : ∀ kvs : List (κ × V), valV kvs k = none → valV (kvs ++ [(k, y)]) j = if j = k then some y else valV kvs j
  | [], _ => by
    by_cases e : k = j
    · rw [if_pos e.symm]; exact valV_pos (p := (k, y)) e
    · rw [if_neg (fun z => e z.symm)]; exact valV_neg (p := (k, y)) e
  | p :: r, hn => by
    rw [List.cons_append]
    have hk : ¬ p.1 = k := fun z => by rw [valV_pos z] at hn; cases hn
    rw [valV_neg hk] at hn
    have ih := valV_snoc k j y r hn
    by_cases e : p.1 = j
    · rw [valV_pos e, valV_pos e, if_neg (fun z => hk (e.trans z))]
    · rw [valV_neg e, valV_neg e, ih]
theorem length_putK (kvs : List (κ × V)) (k : κ) (v : V) : (putK kvs k v).length ≤ kvs.length + 1 := by
  unfold putK
  split
  · rw [List.length_map]; omega
  · rw [List.length_append, List.length_cons, List.length_nil]; omega
theorem putK_new {kvs : List (κ × V)} {k : κ} (v : V) (h : valV kvs k = none) : putK kvs k v = kvs ++ [(k, v)] := by
  unfold putK
  rw [valV_any, h]
  exact if_neg (by decide)
theorem RelO.isSome_eq {o : Option V} {u : Option Value} (r : RelO o u) : o.isSome = u.isSome := by
  cases o with
  | none => cases u with
    | none => rfl
    | some _ => exact (show False from r).elim
  | some _ => cases u with
    | none => exact (show False from r).elim
    | some _ => rfl
theorem RelO.getD {o : Option V} {u : Option Value} {d : V} {d' : Value} (r : RelO o u) (rd : RelV d d') : RelV (o.getD d) (u.getD d') := by
  cases o with
  | none => cases u with
    | none => exact rd
    | some _ => exact (show False from r).elim
  | some _ => cases u with
    | none => exact (show False from r).elim
    | some _ => exact r
theorem KV.val {kvs : List (κ × V)} {vs : List (κ × Value)} (r : KV kvs vs) (k : κ) : RelO (valV kvs k) (valueAt vs k) := by
  unfold KV at r
  induction r with
  | nil => exact True.intro
  | @cons p q ps qs h t ih =>
    obtain ⟨h1, h2⟩ := h
    by_cases e : p.1 = k
    · have e' : q.1 = k := h1.symm.trans e
      have b : valueAt (q :: qs) k = some q.2 := by simp [valueAt, List.find?_cons, e']
      rw [valV_pos e, b]; exact h2
    · have e' : ¬ q.1 = k := fun z => e (h1.trans z)
      have b : valueAt (q :: qs) k = valueAt qs k := by simp [valueAt, List.find?_cons, e']
      rw [valV_neg e, b]; exact ih
theorem KV.any {kvs : List (κ × V)} {vs : List (κ × Value)} (r : KV kvs vs) (k : κ) : (kvs.any fun kv => decide (kv.1 = k)) = vs.any fun kv => decide (kv.1 = k) := by
  unfold KV at r
  induction r with
  | nil => rfl
  | cons h t ih => rw [List.any_cons, List.any_cons, ih, h.1]
theorem KV.repl {kvs : List (κ × V)} {vs : List (κ × Value)} (r : KV kvs vs) (k : κ) {y : V} {u : Value} (ry : RelV y u) :
    KV (kvs.map fun kv => if kv.1 = k then (kv.1, y) else kv) (vs.map fun kv => if kv.1 = k then (kv.1, u) else kv) := by
  unfold KV at r ⊢
  induction r with
  | nil => exact .nil
  | @cons p q ps qs h t ih =>
    rw [List.map_cons, List.map_cons]
    refine .cons ?_ ih
    obtain ⟨h1, h2⟩ := h
    by_cases e : p.1 = k
    · rw [if_pos e, if_pos (h1.symm.trans e)]; exact ⟨h1, ry⟩
    · rw [if_neg e, if_neg (fun z => e (h1.trans z))]; exact ⟨h1, h2⟩
theorem KV.put {kvs : List (κ × V)} {vs : List (κ × Value)} (r : KV kvs vs) (k : κ) {y : V} {u : Value} (ry : RelV y u) : KV (putK kvs k y) (stored vs k u) := by
  unfold putK stored
  rw [r.any k]
  by_cases e : (vs.any fun kv => decide (kv.1 = k)) = true
  · rw [if_pos e, if_pos e]; exact r.repl k ry
  · rw [if_neg e, if_neg e]; exact Paired.snoc r ⟨rfl, ry⟩
theorem KV.drop {kvs : List (κ × V)} {vs : List (κ × Value)} (r : KV kvs vs) (k : κ) : KV (dropK kvs k) (without vs k) := by
  unfold KV at r ⊢
  unfold dropK without
  induction r with
  | nil => exact .nil
  | @cons p q ps qs h t ih =>
    obtain ⟨h1, h2⟩ := h
    rw [List.filter_cons, List.filter_cons]
    by_cases e : p.1 = k
    · have a : ¬ decide (p.1 ≠ k) = true := by simp [e]
      have b : ¬ decide (q.1 ≠ k) = true := by simp [h1.symm.trans e]
      rw [if_neg a, if_neg b]; exact ih
    · have e' : ¬ q.1 = k := fun z => e (h1.trans z)
      have a : decide (p.1 ≠ k) = true := by simp [e]
      have b : decide (q.1 ≠ k) = true := by simp [e']
      rw [if_pos a, if_pos b]; exact .cons ⟨h1, h2⟩ ih
theorem KV.length {kvs : List (κ × V)} {vs : List (κ × Value)} (r : KV kvs vs) : kvs.length = vs.length := Paired.length r
end
theorem kV_is {P : Program} {w : World} {k : Key} {u : Value} (r : RelV (kV k) u) : (mixKind P w).is k u = true := by
  cases k with
  | inl i => obtain ⟨t, e⟩ := (show ∃ t, u = Value.int i t from r); subst e; exact mixKind_int P w i t
  | inr x => obtain ⟨t, e⟩ := (show ∃ t, u = Value.str x t from r); subst e; exact mixKind_str P w x t
theorem items_are {P : Program} {w : World} : ∀ {ks : List Key} {us : List Value}, Vals (ks.map kV) us → ItemsAre (mixKind P w) ks us
  | [], _, r => by rw [List.map_nil] at r; cases r; exact .nil
  | k :: ks, _, r => by
    rw [List.map_cons] at r
    cases r with
    | cons h t => exact .cons (kV_is h) (items_are t)
abbrev KT (H : Hp) : List (List Key × V) → List (List Key × Addr × Value) → Prop := Paired fun p q => p.1 = q.1 ∧ H q.2.1 = some (.tup (p.1.map kV)) ∧ RelV p.2 q.2.2
theorem KT.val {H : Hp} {kvs : List (List Key × V)} {xs : List (List Key × Addr × Value)} (r : KT H kvs xs) (k : List Key) : RelO (valV kvs k) ((atKey xs k).map (·.2)) := by
  induction r with
  | nil => exact True.intro
  | @cons p q ps qs h t ih =>
    obtain ⟨h1, _, h2⟩ := h
    by_cases e : p.1 = k
    · have e' : q.1 = k := h1.symm.trans e
      have b : atKey (q :: qs) k = some q.2 := by simp [atKey, List.find?_cons, e']
      rw [valV_pos e, b]; exact h2
    · have e' : ¬ q.1 = k := fun z => e (h1.trans z)
      have b : atKey (q :: qs) k = atKey qs k := by simp [atKey, List.find?_cons, e']
      rw [valV_neg e, b]; exact ih
theorem KT.repl {H : Hp} {kvs : List (List Key × V)} {xs : List (List Key × Addr × Value)} (r : KT H kvs xs) (k : List Key) {y : V} {u : Value} (ry : RelV y u) :
    KT H (kvs.map fun kv => if kv.1 = k then (kv.1, y) else kv) (xs.map (putAt k u)) := by
  induction r with
  | nil => exact .nil
  | @cons p q ps qs h t ih =>
    rw [List.map_cons, List.map_cons]
    refine .cons ?_ ih
    obtain ⟨h1, h2, h3⟩ := h
    unfold putAt
    by_cases e : p.1 = k
    · rw [if_pos e, if_pos (h1.symm.trans e)]; exact ⟨h1, h2, ry⟩
    · rw [if_neg e, if_neg (fun z => e (h1.trans z))]; exact ⟨h1, h2, h3⟩
theorem KT.put {H : Hp} {kvs : List (List Key × V)} {xs : List (List Key × Addr × Value)} (r : KT H kvs xs) (k : List Key) {b : Addr} {y : V} {u : Value} (hb : H b = some (.tup (k.map kV))) (ry : RelV y u) :
    KT H (putK kvs k y) (storedH xs k b u) := by
  have e : (kvs.any fun kv => decide (kv.1 = k)) = (atKey xs k).isSome := by
    rw [valV_any, (r.val k).isSome_eq, Option.isSome_map]
  unfold putK storedH
  rw [e]
  by_cases q : (atKey xs k).isSome = true
  · rw [if_pos q, if_pos q]; exact r.repl k ry
  · rw [if_neg q, if_neg q]; exact Paired.snoc r ⟨rfl, hb, ry⟩
theorem KT.keeps {H H' : Hp} {kvs : List (List Key × V)} {xs : List (List Key × Addr × Value)} (r : KT H kvs xs) (ht : ∀ b ys, H b = some (.tup ys) → H' b = some (.tup ys)) : KT H' kvs xs :=
  Paired.mapP r fun _ _ z => ⟨z.1, ht _ _ z.2.1, z.2.2⟩
section
variable {P : Program} {w : World} {H : Hp} {h : Heap} {a : Addr}
theorem rd_of {u : HO} (ok : HOk P w H h) (e : Rd H a u) : ObjOk P w H h a u := e.ok ok
theorem dk_rd {kvs : List (Key × V)} (ok : HOk P w H h) (e : Rd H a (.dK kvs)) : kvs.length ≤ sizeLine ∧ (a == sysModules) = false ∧ ∃ vs, KV kvs vs ∧ h.DictOf (mixKind P w) a vs :=
  show ObjOk P w H h a (.dK kvs) from rd_of ok e
theorem dk_of {kvs : List (Key × V)} (ok : HOk P w H h) (e : H a = some (.dK kvs)) : kvs.length ≤ sizeLine ∧ (a == sysModules) = false ∧ ∃ vs, KV kvs vs ∧ h.DictOf (mixKind P w) a vs := dk_rd ok (.inl e)
theorem key_of {ks : List Key} (ok : HOk P w H h) (e : H a = some (.tup (ks.map kV))) : (tupleKind (mixKind P w)).is h ks a := by
  obtain ⟨_, its, r, o, h1, h2, n, h3⟩ := (show ObjOk P w H h a (.tup (ks.map kV)) from ok a _ e)
  exact ⟨o, its.toArray, n, h1, h2, h3, by simpa using items_are r⟩
theorem dt_rd {kvs : List (List Key × V)} (ok : HOk P w H h) (e : Rd H a (.dT kvs)) : kvs.length ≤ sizeLine ∧ (a == sysModules) = false ∧
    ∃ xs, KT H kvs xs ∧ h.DictOfH (tupleKind (mixKind P w)) a xs := by
  obtain ⟨z, y, xs, r, o, es, ep, h1, h2, h3, h4, h5⟩ := (show ObjOk P w H h a (.dT kvs) from rd_of ok e)
  refine ⟨z, y, xs, r, o, es, ep, h1, h2, h3, h4, fun x hx => ?_, h5⟩
  have all : ∀ {l : List (List Key × V)} {m : List (List Key × Addr × Value)}, KT H l m → ∀ x ∈ m, (tupleKind (mixKind P w)).is h x.1 x.2.1 := by
    intro l m q
    induction q with
    | nil => intro x hx; exact nomatch hx
    | @cons p q ps qs hq t ih =>
      intro x hx
      rcases List.mem_cons.mp hx with e | hx
      · subst e
        exact key_of ok (by rw [← hq.1]; exact hq.2.1)
      · exact ih x hx
  exact all r x hx
theorem dt_of {kvs : List (List Key × V)} (ok : HOk P w H h) (e : H a = some (.dT kvs)) : kvs.length ≤ sizeLine ∧ (a == sysModules) = false ∧
    ∃ xs, KT H kvs xs ∧ h.DictOfH (tupleKind (mixKind P w)) a xs := dt_rd ok (.inl e)
end
def DGet (H : Hp) (a : Addr) (y : V) (r : Option V) : Prop :=
  (∃ kvs k, Rd H a (.dK kvs) ∧ y = kV k ∧ r = valV kvs k) ∨ ∃ kvs k b, Rd H a (.dT kvs) ∧ y = .ref b ∧ H b = some (.tup (k.map kV)) ∧ r = valV kvs k
def DPut (H : Hp) (a : Addr) (y v : V) (H' : Hp) : Prop :=
  (∃ kvs k, H a = some (.dK kvs) ∧ y = kV k ∧ kvs.length < sizeLine ∧ H' = upd H a (.dK (putK kvs k v))) ∨
  ∃ kvs k b, H a = some (.dT kvs) ∧ y = .ref b ∧ H b = some (.tup (k.map kV)) ∧ kvs.length < sizeLine ∧ H' = upd H a (.dT (putK kvs k v))
theorem DGet.k {H : Hp} {a : Addr} {kvs : List (Key × V)} {k : Key} (e : H a = some (.dK kvs)) : DGet H a (kV k) (valV kvs k) := .inl ⟨kvs, k, .inl e, rfl, rfl⟩
theorem DGet.t {H : Hp} {a b : Addr} {kvs : List (List Key × V)} {k : List Key} (e : H a = some (.dT kvs)) (eb : H b = some (.tup (k.map kV))) : DGet H a (.ref b) (valV kvs k) := .inr ⟨kvs, k, b, .inl e, rfl, eb, rfl⟩
theorem DPut.k {H : Hp} {a : Addr} {kvs : List (Key × V)} {k : Key} {v : V} (e : H a = some (.dK kvs)) (hl : kvs.length < sizeLine) : DPut H a (kV k) v (upd H a (.dK (putK kvs k v))) := .inl ⟨kvs, k, e, rfl, hl, rfl⟩
theorem DPut.t {H : Hp} {a b : Addr} {kvs : List (List Key × V)} {k : List Key} {v : V} (e : H a = some (.dT kvs)) (eb : H b = some (.tup (k.map kV))) (hl : kvs.length < sizeLine) :
    DPut H a (.ref b) v (upd H a (.dT (putK kvs k v))) := .inr ⟨kvs, k, b, e, rfl, eb, hl, rfl⟩
section
variable {X : Cx} {pins : List (Addr × Obj)} {σ : St} {H : Hp} {s : Shared} {a : Addr} {y v : V} {u r : Value} {o : Option V} {A : Around} {E : Value → Shared → Prop}
theorem Inv.big (I : Inv X pins σ H s) : sysModules < s.heap.objs.size := by
  have h : mainGlobals < s.heap.objs.size := (I.mod.glob.keeps I.bk).lt
  exact Nat.lt_trans (by decide) h
theorem d_getItem {Q : Value → Shared → Prop} (hu : A.units + 1 < cLine) (I : Inv X pins σ H s) (g : DGet H a y (some v)) (ry : RelV y u) (h : ∀ w' s', Inv X pins σ H s' → RelV v w' → Q w' s') :
    wpAny (model X.prog X.w) A (getItem (.ref a) u) Q E s := by
  rcases g with ⟨kvs, k, e, ey, l⟩ | ⟨kvs, k, b, e, ey, eb, l⟩
  · subst ey
    obtain ⟨z, hd, vs, rel, dd⟩ := dk_rd I.hok e
    obtain ⟨w', hw, rw'⟩ := RelO.some_of (v := v) (o := valueAt vs k) (by rw [l]; exact rel.val k)
    exact wpAny_getItem_of (kV_is ry) dd.mapOf hw (h w' _ (I.tok _) rw')
  · subst ey
    cases (show u = Value.ref b from ry)
    obtain ⟨z, hd, xs, rel, dd⟩ := dt_rd I.hok e
    obtain ⟨w', hw, rw'⟩ := RelO.some_of (v := v) (o := (atKey xs k).map (·.2)) (by rw [l]; exact rel.val k)
    obtain ⟨p, hp, hp2⟩ := Option.map_eq_some_iff.mp hw
    refine wpAny_getItem_heap (tupleKind_room_in1 hu) (key_of I.hok eb) dd hp ?_
    rw [hp2]
    exact h w' _ (I.tok _) rw'
theorem d_notIn {Q : Value → Shared → Prop} (hu : A.units + 1 < cLine) (I : Inv X pins σ H s) (g : DGet H a y o) (ry : RelV y u) (h : ∀ s', Inv X pins σ H s' → Q (.bool (!o.isSome)) s') :
    wpAny (model X.prog X.w) A (compareOp .NotIn u (.ref a)) Q E s := by
  rcases g with ⟨kvs, k, e, ey, l⟩ | ⟨kvs, k, b, e, ey, eb, l⟩
  · subst ey
    obtain ⟨z, hd, vs, rel, dd⟩ := dk_rd I.hok e
    refine wpAny_notIn_of (kV_is ry) hd dd.mapOf ?_
    rw [← (rel.val k).isSome_eq, ← l]
    exact h _ (I.tok _)
  · subst ey
    cases (show u = Value.ref b from ry)
    obtain ⟨z, hd, xs, rel, dd⟩ := dt_rd I.hok e
    refine wpAny_notIn_heap (tupleKind_room_in1 hu) (key_of I.hok eb) hd dd ?_
    have q := (rel.val k).isSome_eq
    rw [Option.isSome_map] at q
    rw [← q, ← l]
    exact h _ (I.tok _)
theorem d_write {h' : Heap} {t' : Nat} {ob : HO} (I : Inv X pins σ H s) (mu : Mut (H a)) (hs : Heap.SameBut a s.heap h') (he : ∃ q, h'.get? a = some q) (new : ObjOk X.prog X.w (upd H a ob) h' a ob) :
    Inv X pins σ (upd H a ob) { s with heap := h', toks := t' } :=
  I.write (x := a) (e := a) mu (.inl rfl) (fun b q hb z => (hs.2 b hb).trans z) he new
theorem dk_new {P : Program} {w : World} {H' : Hp} {h' : Heap} {kvs : List (Key × V)} {vs : List (Key × Value)} (z : kvs.length ≤ sizeLine) (hd : (a == sysModules) = false) (rel : KV kvs vs) (dd : h'.DictOf (mixKind P w) a vs) :
    ObjOk P w H' h' a (.dK kvs) := ⟨z, hd, vs, rel, dd⟩
theorem d_setItem {H' : Hp} {Q : Unit → Shared → Prop} (hu : A.units + 1 < cLine) (I : Inv X pins σ H s) (g : DPut H a y v H') (ry : RelV y u) (rv : RelV v r) (h : ∀ s', Inv X pins σ H' s' → Q () s') :
    wpAny (model X.prog X.w) A (setItem (.ref a) u r) Q E s := by
  rcases g with ⟨kvs, k, e, ey, l, eH⟩ | ⟨kvs, k, b, e, ey, eb, l, eH⟩
  · subst ey eH
    obtain ⟨z, hd, vs, rel, dd⟩ := dk_of I.hok e
    have hz : vs.length ≤ sizeLine := by rw [← rel.length]; exact z
    have hl : (putK kvs k v).length ≤ sizeLine := by have := length_putK kvs k v; omega
    refine wpAny_setItem_pairs (hsz := hz) (kV_is ry) dd fun h' dd' hs => h _ ?_
    have he : ∃ q, h'.get? a = some q := let ⟨q, _, _, hq, _⟩ := dd'; ⟨q, hq⟩
    exact d_write I (by rw [e]; exact True.intro) hs he (dk_new hl hd (rel.put k rv) dd')
  · subst ey eH
    cases (show u = Value.ref b from ry)
    obtain ⟨z, hd, xs, rel, dd⟩ := dt_of I.hok e
    have hz : xs.length ≤ sizeLine := by rw [← Paired.length rel]; exact z
    have hl : (putK kvs k v).length ≤ sizeLine := by have := length_putK kvs k v; omega
    refine wpAny_setItem_heap (hsz := hz) (tupleKind_room_in1 hu) (key_of I.hok eb) dd fun h' dd' hs => h _ ?_
    obtain ⟨q, es, ep, hq, h2, h3, h4, _, h5⟩ := dd'
    refine d_write I (by rw [e]; exact True.intro) hs ⟨q, hq⟩ ⟨hl, hd, _, (rel.put k eb rv).keeps fun c ys ec => ?_, q, es, ep, hq, h2, h3, h4, h5⟩
    rw [upd_ne (ne_of ec e (fun z => nomatch z))]
    exact ec
end
section
variable {X : Cx} {pins : List (Addr × Obj)} {σ : St} {H : Hp} {s : Shared} {a : Addr} {kvs : List (Key × V)} {k : Key} {u : Value} {A : Around} {E : Value → Shared → Prop}
end
def NoSl (i : Expr) : Prop := ∀ ov iv, subscripted i false ov iv = operate [ov, iv] (getItem ov iv)
theorem subD_of {prog : Program} {w : World} {A : Around} {E : Value → Shared → Prop} {s : Shared} {env : Env} {value slice : Expr} {pos : Pos} {T id : String} {Q : Value → Shared → Prop}
    (hl : typeLookup (.type T) "__getitem__" = pure (some (.builtin id))) (hs : NoSl slice)
    (h : wpAny (model prog w) A (eval value env) (fun o s₁ => wpAny (model prog w) A (eval slice env) (fun i s₂ => s₂.TypeIs o T ∧ wpAny (model prog w) A (getItem o i) Q E s₂) E s₁) E s) :
    wpAny (model prog w) A (eval (.Subscript value slice pos) env) Q E s := by
  refine Subscript_ (wpAny_mono h (fun o s₁ h₁ => wpAny_mono h₁ (fun i s₂ h₂ => ?_) fun _ _ x => x) fun _ _ x => x)
  obtain ⟨hT, h₂⟩ := h₂
  unfold subscriptTail
  refine wpAny_bind ?_
  rw [getitemInPython_of_ne hT.not_modules]
  refine wpAny_bind (wpAny_specialOf hT hl ?_)
  have fin : wpAny (model prog w) A (subscripted slice false o i) (fun r s₃ => wpAny (model prog w) A (letTemporaryGo value o r >>= fun _ => pure r) Q E s₃) E s₂ := by
    rw [hs o i]
    exact wpAny_operating (wpAny_mono h₂ (fun r s₃ h₃ => wpAny_bind (wpAny_letTemporaryGo (wpAny_pure h₃))) fun _ _ x => x)
  first
    | exact wpAny_pure (wpAny_bind fin)
    | exact wpAny_bind (wpAny_pure (wpAny_bind fin))
    | exact wpAny_bind fin
theorem dict_typeIs {X : Cx} {pins : List (Addr × Obj)} {σ : St} {H : Hp} {s : Shared} {a : Addr} {y : V} {o : Option V} (I : Inv X pins σ H s) (g : DGet H a y o) : s.TypeIs (.ref a) "dict" := by
  rcases g with ⟨kvs, k, e, _, _⟩ | ⟨kvs, k, b, e, _, _, _⟩
  · obtain ⟨_, _, vs, _, dd⟩ := dk_rd I.hok e
    exact dd.typeIs
  · obtain ⟨_, _, xs, _, dd⟩ := dt_rd I.hok e
    exact dd.typeIs
def tDGet (td ty : TE) : TE := fun σ H Q => td σ H fun x H1 => ty σ H1 fun y H2 => ∃ a v, x = .ref a ∧ DGet H2 a y (some v) ∧ Q v H2
def tDNotIn (ty td : TE) : TE := fun σ H Q => ty σ H fun y H1 => td σ H1 fun x H2 => ∃ a o, x = .ref a ∧ DGet H2 a y o ∧ Q (.bl (!o.isSome)) H2
def sDPut (td ty tv : TE) : TS := fun D σ H => tv σ H fun v H1 => td σ H1 fun x H2 => ty σ H2 fun y H3 => ∃ a H4, x = .ref a ∧ DPut H3 a y v H4 ∧ D.nx σ H4
section
variable {X : Cx} {o i e value : Expr} {pos pos' tpos : Pos} {td ty tv : TE}
theorem pe_dget (hu : X.A.units + 1 < cLine) (ho : PE X o td) (hi : PE X i ty) (hs : NoSl i) : PE X (.Subscript o i pos) (tDGet td ty) := by
  intro pins s σ H Q I h
  refine subD_of PySem.F.slot_dict_getitem.lookup hs (thn (ho pins s σ H _ I h) fun u s1 ⟨x, H1, I1, rx, q1⟩ => thn (hi pins s1 σ H1 _ I1 q1) fun iv s2 ⟨y, H2, I2, ry, a, v, ex, g, q2⟩ => ?_)
  subst ex
  obtain rfl : u = Value.ref a := rx
  exact ⟨dict_typeIs I2 g, d_getItem hu I2 g ry fun w' s3 I3 rw' => ⟨v, H2, I3, rw', q2⟩⟩
theorem pc_dnotin (hu : X.A.units + 1 < cLine) (hi : PE X i ty) (ho : PE X o td) : PC X .NotIn i o (tDNotIn ty td) := by
  intro pins s σ H Q I h
  refine thn (hi pins s σ H _ I h) fun iv s1 ⟨y, H1, I1, ry, q1⟩ => thn (ho pins s1 σ H1 _ I1 q1) fun u s2 ⟨x, H2, I2, rx, a, ov, ex, g, q2⟩ => ?_
  subst ex
  obtain rfl : u = Value.ref a := rx
  exact d_notIn hu I2 g ry fun s3 I3 => ⟨.bl (!ov.isSome), H2, I3, rfl, q2⟩
theorem ps_dput (hu : X.A.units + 1 < cLine) (ho : PE X o td) (hi : PE X i ty) (hv : PE X value tv) (hs : swapsWith value (some (.Subscript o i pos')) pos.line X.env = pure false) :
    PS X (.Assign [.Subscript o i pos'] value pos) (sDPut td ty tv) := by
  intro pins s σ H D I h
  refine wpAny_Assign_Subscript (thn (hv pins s σ H _ I h) fun r s1 ⟨v, H1, I1, rv, q1⟩ => thn (ho pins s1 σ H1 _ I1 q1) fun u s2 ⟨x, H2, I2, rx, q2⟩ => thn (hi pins s2 σ H2 _ I2 q2) fun iv s3 ⟨y, H3, I3, ry, a, H4, ex, g, q3⟩ => ?_) hs
  subst ex
  obtain rfl : u = Value.ref a := rx
  exact d_setItem hu I3 g ry rv fun s4 I4 => ⟨σ, H4, I4, q3⟩
end
theorem dt_empty {P : Program} {w : World} {H : Hp} (h : Heap) (hb : sysModules < h.objs.size) : ObjOk P w H (h.push { cls := .type "dict", data := .dict #[] }) h.objs.size (.dT []) :=
  ⟨Nat.zero_le _, beq_eq_false_iff_ne.mpr (Ne.symm (Nat.ne_of_lt hb)), [], .nil, _, #[], 0, Heap.get?_push_size _ rfl, ⟨rfl, rfl, rfl⟩, rfl, rfl, List.nodup_nil⟩
def tDNewT : TE := fun _ H Q => ∀ p, H p = none → Q (.ref p) (upd H p (.dT []))
section
variable {X : Cx} {pos : Pos}
theorem pe_dnewT : PE X (.Dict [] [] pos) tDNewT := fun pins s σ H Q I h =>
  wpAny_Dict_empty ⟨.ref s.heap.objs.size, _, I.laid (a := s.heap.objs.size) (o := .dT []) (t' := s.toks) (fun _ _ q => Heap.get?_push_of_some _ q) (Nat.le_refl _) (dt_empty s.heap I.big), rfl, h _ (I.hok.fresh (Nat.le_refl _))⟩
end
section
variable {X : Cx} {pins : List (Addr × Obj)} {σ : St} {H : Hp} {s : Shared} {a : Addr} {y d : V} {u r : Value} {o : Option V} {A : Around} {E : Value → Shared → Prop}
end
section
variable {X : Cx} {o e f : Expr} {apos cpos : Pos} {td ty tx : TE}
end
section
variable {X : Cx} {pins : List (Addr × Obj)} {σ : St} {H : Hp} {s : Shared} {a : Addr} {kvs : List (Key × V)} {A : Around} {E : Value → Shared → Prop}
end
section
variable {X : Cx} {pins : List (Addr × Obj)} {σ : St} {H : Hp} {s : Shared} {a : Addr} {y : V} {u : Value} {A : Around} {E : Value → Shared → Prop}
end
end L2
set_option Elab.async false
set_option maxRecDepth 100000
namespace L2
open PySem PySem.Spec PyProof.Rows
end L2
set_option Elab.async false
set_option maxRecDepth 100000
namespace L2
open PySem PySem.Spec PyProof.Rows
def clOf (scope : Scope) (env : Env) : List (Str × Addr) :=
  (scope.names.filterMap fun p => if p.2 == NameKind.free then (env.cells.lookup p.1).map fun c => (p.1, c) else none).reverse
theorem closure_loop {env : Env} : ∀ (names : List (Str × NameKind)) (acc : List (Str × Addr)), (∀ y ∈ names, y.2 = .free → ∃ c, env.cells.lookup y.1 = some c) →
    (forIn names acc fun (x : Str × NameKind) (cs : List (Str × Addr)) => (match x with
      | (name, kind) => if (kind == NameKind.free) = true then do
          let c ← cellOf env name
          pure (ForInStep.yield ((name, c) :: cs))
        else pure (ForInStep.yield cs) : Sem (ForInStep (List (Str × Addr))))) =
      pure ((names.filterMap fun p => if p.2 == NameKind.free then (env.cells.lookup p.1).map fun c => (p.1, c) else none).reverse ++ acc)
  | [], acc, _ => rfl
  | (n, k) :: r, acc, h => by
    rw [List.forIn_cons]
    by_cases hk : k = .free
    · subst hk
      obtain ⟨c, hc⟩ := h (n, .free) List.mem_cons_self rfl
      have e1 : cellOf env n = pure c := by unfold cellOf; rw [hc]
      have ih := closure_loop r ((n, c) :: acc) fun y hy => h y (List.mem_cons_of_mem _ hy)
      simp only [beq_self_eq_true, if_true, e1, pure_bind, List.filterMap_cons, hc, Option.map_some, List.reverse_cons, List.append_assoc, List.singleton_append]
      exact ih
    · have hb : (k == NameKind.free) = false := by simpa using hk
      have ih := closure_loop r acc fun y hy => h y (List.mem_cons_of_mem _ hy)
      simp only [hb, Bool.false_eq_true, if_false, pure_bind, List.filterMap_cons]
      exact ih
theorem closureFor_eq {scope : Scope} {env : Env} (h : ∀ y ∈ scope.names, y.2 = .free → ∃ c, env.cells.lookup y.1 = some c) : closureFor scope env = pure (clOf scope env) := by
  have e := closure_loop (env := env) scope.names [] h
  unfold closureFor
  rw [List.append_nil] at e
  exact (congrArg (· >>= pure) e).trans (by rfl)
theorem clOf_mem {scope : Scope} {env : Env} {y : Str} {c : Addr} (h : (y, c) ∈ clOf scope env) : (y, NameKind.free) ∈ scope.names ∧ env.cells.lookup y = some c := by
  unfold clOf at h
  obtain ⟨⟨n, k⟩, hp, e⟩ := List.mem_filterMap.mp (List.mem_reverse.mp h)
  by_cases hk : k = .free
  · subst hk
    simp only [beq_self_eq_true, if_true] at e
    cases hc : env.cells.lookup n with
    | none => rw [hc] at e; cases e
    | some c' =>
      rw [hc] at e
      have e' : (n, c') = (y, c) := Option.some.inj e
      cases e'
      exact ⟨hp, hc⟩
  · have hb : (k == NameKind.free) = false := by simpa using hk
    simp only [hb, Bool.false_eq_true, if_false] at e
    cases e
theorem clOf_sub {scope : Scope} {env : Env} {y : Str} {c : Addr} (h : (clOf scope env).lookup y = some c) : env.cells.lookup y = some c := (clOf_mem (PySem.mem_of_lookup h)).2
theorem lookup_of_mem {α : Type} {y : Str} : ∀ {l : List (Str × α)} {c : α}, (y, c) ∈ l → ∃ c', l.lookup y = some c'
  | (n, a) :: r, c, h => by
    by_cases e : y = n
    · subst e; exact ⟨a, by simp [List.lookup_cons]⟩
    · have hb : (y == n) = false := by simpa using e
      rcases List.mem_cons.mp h with h | h
      · cases h; exact absurd rfl e
      · obtain ⟨c', h'⟩ := lookup_of_mem h
        exact ⟨c', by simp [List.lookup_cons, hb, h']⟩
theorem clOf_has {scope : Scope} {env : Env} {y : Str} {c : Addr} (h1 : (y, NameKind.free) ∈ scope.names) (h2 : env.cells.lookup y = some c) : (clOf scope env).lookup y = some c := by
  have m : (y, c) ∈ clOf scope env := by
    unfold clOf
    exact List.mem_reverse.mpr (List.mem_filterMap.mpr ⟨(y, .free), h1, by simp [h2]⟩)
  obtain ⟨c', h'⟩ := lookup_of_mem m
  have := clOf_sub h'
  rw [h2] at this
  cases this
  exact h'
theorem relabel_free {scope : Scope} {env : Env} (hcell : ∀ y ∈ scope.names, y.2 ≠ .cell) {y : Str} (h : (relabel scope env).names.lookup y = some .cell ∨ (relabel scope env).names.lookup y = some .free) : (y, NameKind.free) ∈ scope.names := by
  have m : ∃ k, (k = .cell ∨ k = .free) ∧ (y, k) ∈ (relabel scope env).names := by
    rcases h with h | h
    · exact ⟨_, .inl rfl, PySem.mem_of_lookup h⟩
    · exact ⟨_, .inr rfl, PySem.mem_of_lookup h⟩
  obtain ⟨k, hk, hm⟩ := m
  unfold relabel at hm
  obtain ⟨⟨n, k'⟩, hp, e⟩ := List.mem_map.mp hm
  dsimp only at e
  by_cases hf : k' = .free
  · subst hf
    split at e <;> (cases e; exact hp)
  · have hb : (k' == NameKind.free) = false := by simpa using hf
    rw [hb, Bool.false_and, Bool.false_and, if_neg (by decide)] at e
    cases e
    rcases hk with hk | hk
    · exact absurd hk (hcell _ hp)
    · exact absurd hk hf
def cxComp (X : Cx) (N : List Str) (scope : Scope) (C : Addr) (s : Shared) (H : Hp) (fp : List Addr) : Cx where
  prog := X.prog
  w := X.w
  K := X.K
  mg := X.mg
  base := X.base
  A := X.A
  N := N
  s₀ := s
  H₀ := H
  env := compEnvC scope (clOf scope X.env) C X.env
  outer := X.stack
  stack := X.stack
  ex := fp
  fn := fun _ => false
  calm := true
  pn := []
  xe := fun _ _ => False
def Caps (X : Cx) (scope : Scope) : List Str → List Nat → Prop
  | [], [] => True
  | x :: xs, i :: is => (X.N[i]? = some x ∧ (X.env.scope.names.lookup x = some .cell ∨ X.env.scope.names.lookup x = some .free) ∧ scope.names.lookup x = some .free) ∧ Caps X scope xs is
  | _, _ => False
theorem Caps.len {X : Cx} {scope : Scope} : ∀ {xs : List Str} {is : List Nat}, Caps X scope xs is → is.length = xs.length
  | [], [], _ => rfl
  | _ :: _, _ :: _, h => congrArg (· + 1) (Caps.len h.2)
  | [], _ :: _, h => h.elim
  | _ :: _, [], h => h.elim
theorem Caps.at {X : Cx} {scope : Scope} : ∀ {xs : List Str} {is : List Nat} {j : Nat} {x : Str}, Caps X scope xs is → xs[j]? = some x → ∃ i, is[j]? = some i ∧ X.N[i]? = some x ∧ (X.env.scope.names.lookup x = some .cell ∨ X.env.scope.names.lookup x = some .free) ∧ scope.names.lookup x = some .free
  | [], [], _, _, _, e => by simp at e
  | y :: _, i :: _, 0, x, h, e => by
    simp at e; subst e
    exact ⟨i, rfl, h.1⟩
  | _ :: xs, _ :: is, j + 1, x, h, e => by
    obtain ⟨i, h1, h2⟩ := Caps.at (j := j) h.2 (by simpa using e)
    exact ⟨i, by simpa using h1, h2⟩
  | [], _ :: _, _, _, h, _ => h.elim
  | _ :: _, [], _, _, h, _ => h.elim
def inner (cap : List Nat) (σ : St) : St := none :: cap.map fun i => (σ[i]?).join
def PTs (X : Cx) (ifs : List Expr) (t : TT) : Prop :=
  ∀ (pins : List (Addr × Obj)) (s : Shared) (σ : St) (H : Hp) (Q : Bool → Hp → Prop), Inv X pins σ H s → t σ H Q →
    wpAny (model X.prog X.w) X.A (forIn ifs true fun c r => if r = true then do let ok ← isTrue c X.env (eval c X.env); pure (ForInStep.yield ok) else pure (ForInStep.yield r)) (TP X pins σ Q) X.xe s
def tYes : TT := fun _ H Q => Q true H
theorem pts_nil {X : Cx} : PTs X [] tYes := fun _ _ _ H _ I h => wpAny_tests_nil ⟨H, I, h⟩
theorem compLoop_any {prog : Program} {w : World} {A : Around} {R : Result → Shared → Prop} {s : Shared} {elt target iter : Expr} {ifs : List Expr} {scope : Scope} {pos : Pos} {it acc : Value} {env : Env} (I : Nat → Shared → Prop)
    (turn : ∀ n s, I n s → wpAny (model prog w) A (pyNext it) (fun r s₁ => match r with
      | none => R (.ok .next) s₁
      | some v => wpAny (model prog w) A (letOwnedTupleGo target it v) (fun _ s₁' => wpAny (model prog w) A (assign target env v) (fun _ s₂ =>
          wpAny (model prog w) A (forIn ifs true fun c r => if r = true then do let ok ← isTrue c env (eval c env); pure (ForInStep.yield ok) else pure (ForInStep.yield r)) (fun ok s₃ =>
            if ok = true then wpAny (model prog w) A (eval elt env) (fun x s₄ =>
              wpAny (model prog w) A (call (.builtin "list.append") [acc, x]) (fun _ s₅ => ∃ m, m < n ∧ I m s₅) (fun _ _ => False) s₄) (fun _ _ => False) s₃
            else ∃ m, m < n ∧ I m s₃) (fun _ _ => False) s₂) (fun _ _ => False) s₁') (fun _ _ => False) s₁) (fun _ _ => False) s)
    (n : Nat) (h : I n s) :
    codeAny (model prog w) A (.compLoop (.ListComp elt [⟨target, iter, ifs, 0⟩] scope pos) 0 it acc env) R s := by
  refine codeAny_loop rfl I (fun n s hI => ?_) n h
  show wpAny _ A ((compTurn (.ListComp elt [⟨target, iter, ifs, 0⟩] scope pos) 0 it acc env).onRaise (fun x => do noteFrame x env; theTreesLotGoes x)) _ _ s
  refine wpAny_noted ?_
  rw [compTurn_list]
  refine wpAny_bind (wpAny_standAt (wpAny_bind (wpAny_mono (turn n s hI) (fun r s₁ h₁ => ?_) fun _ _ h' => h'.elim)))
  cases r with
  | none => exact wpAny_pure h₁
  | some v =>
    refine wpAny_bind (wpAny_mono h₁ (fun _ s₁' h₁' => ?_) fun _ _ h' => h'.elim)
    refine wpAny_bind (wpAny_mono h₁' (fun _ s₂ h₂ => wpAny_bind (wpAny_mono h₂ (fun ok s₃ h₃ => ?_) fun _ _ h' => h'.elim)) fun _ _ h' => h'.elim)
    cases ok with
    | false => exact wpAny_pure ⟨rfl, h₃⟩
    | true =>
      exact wpAny_bind (wpAny_bind (wpAny_mono h₃ (fun x s₄ h₄ => wpAny_bind (wpAny_mono h₄ (fun _ s₅ h₅ => wpAny_pure (wpAny_pure ⟨rfl, h₅⟩)) fun _ _ h' => h'.elim)) fun _ _ h' => h'.elim))
def tComp (cap : List Nat) (wi : TI) (tc : TT) (te : TE) : TE := fun σ H Q => wi σ H fun J H1 => ∀ p, H1 p = none →
  ∃ W : Nat → Nat → List V → Hp → Prop, (∃ m, W 0 m [] (upd H1 p (.lst []))) ∧ ∀ i m xs H2, W i m xs H2 →
    (J.stop i H2 ∧ Q (.ref p) H2) ∨ (J.go i H2 ∧ ∃ N : List V → Hp → Prop, (∀ xs' H', N xs' H' → ∃ m', m' < m ∧ W (i + 1) m' xs' H') ∧
      ∀ x H3, J.yld i H2 x H3 → tc ((inner cap σ).set 0 (some x)) H3 fun b H5 => if b = true then te ((inner cap σ).set 0 (some x)) H5 fun v H6 => H6 p = some (.lst xs) ∧ xs.length < sizeLine ∧ N (xs ++ [v]) (upd H6 p (.lst (xs ++ [v]))) else N xs H5)
section
variable {X : Cx} {pins : List (Addr × Obj)} {σ : St}
structure CompScope (X : Cx) (scope : Scope) : Prop where
  cell : ∀ y ∈ scope.names, y.2 ≠ .cell
  kind : scope.kind = .function
  names : ∀ y ∈ scope.names, y.2 = .local → scope.names.lookup y.1 = some .local
  free : ∀ y ∈ scope.names, y.2 = .free → X.env.scope.names.lookup y.1 = some .cell ∨ X.env.scope.names.lookup y.1 = some .free
theorem CompScope.clos {scope : Scope} {H : Hp} {s : Shared} (S : CompScope X scope) (I : Inv X pins σ H s) : closureFor scope X.env = pure (clOf scope X.env) :=
  closureFor_eq fun y hy hf => I.ok.has y.1 (S.free y hy hf)
theorem comp_start {scope : Scope} {x : Str} {cn : List Str} {cap : List Nat} {s3 : Shared} {H3 : Hp} {fp : List Addr} {h₁ : Heap} {tk : Nat} {H2 : Hp} (S : CompScope X scope) (I : Inv X pins σ H3 s3) (hc : X.calm = true) (hcap : Caps X scope cn cap)
    (f2 : ∀ b ∈ fp, FpOk X pins H2 b) (lt : ∀ b ∈ fp, b < s3.heap.objs.size) (keep : ∀ b o, s3.heap.get? b = some o → h₁.get? b = some o) (hns : h₁.Ns s3.heap.objs.size fun _ => none) :
    Inv (cxComp X (x :: cn) scope s3.heap.objs.size s3 H3 fp) [] (inner cap σ) H3 { s3 with heap := h₁, toks := tk } := by
  have noS : ∀ b o, X.base.get? b = some o → b < X.s₀.heap.objs.size := fun b o e => Nat.lt_of_lt_of_le (Heap.lt_size e) I.ok.bsz
  refine ⟨⟨I.ok.mod, S.kind, I.ok.glob, I.ok.blt, Nat.le_refl _, fun y z c h1 h2 => I.ok.inj y z c (clOf_sub h1) (clOf_sub h2), fun y hy => ?_, fun y c h => ?_, fun _ => I.ok.hd hc, I.ok.frames, .inl rfl, fun b hb => ⟨Nat.ne_of_lt (lt b hb), fun y c h => (f2 b hb).2.2.2.2.1 y c (clOf_sub h)⟩,
    I.bs, Nat.le_trans I.ok.bsz I.sz, fun b o e hb => ?_, fun b hb z => ?_, I.stack, I.stkFree⟩, rfl, I.bare, Un.kept keep, ⟨_, hns, fun i y v e1 e2 e3 => ?_⟩, fun y c e => ?_, I.hok.fresh (Nat.le_refl _), fun y c e => I.freeC y c (clOf_sub e), fun p hp => absurd (show p ∈ ([] : List (Addr × Obj)) from hp) (by simp), I.hok.kept keep, ?_⟩
  · have m := relabel_free S.cell hy
    obtain ⟨c, hc'⟩ := I.ok.has y (S.free _ m rfl)
    exact ⟨c, clOf_has m hc'⟩
  · cases h
  · rcases (f2 b hb).2.2.2.1 with z | z
    · exact I.ok.noex b o e z
    · exact absurd (Nat.lt_of_lt_of_le (noS b o e) z) (Nat.lt_irrefl _)
  · rcases List.mem_cons.mp (I.stkSub b z) with e | e
    · exact (f2 b hb).2.1 e
    · exact (f2 b hb).2.2.1 e
  · cases i with
    | zero =>
      have e2 : (some none : Option (Option V)) = some (some v) := e2
      cases e2
    | succ j =>
      have e1 : cn[j]? = some y := e1
      obtain ⟨k, hk, hN, hkind, hfr⟩ := hcap.at e1
      have e2 : (cap.map fun i => (σ[i]?).join)[j]? = some (some v) := e2
      rw [List.getElem?_map, hk] at e2
      have e2 : (σ[k]?).join = some v := Option.some.inj e2
      have e2 : σ[k]? = some (some v) := by
        cases q : σ[k]? with
        | none => rw [q] at e2; cases e2
        | some o => rw [q] at e2; cases o with
          | none => cases e2
          | some v' => have e2 : some v' = some v := e2; rw [e2]
      obtain ⟨m, hn, hl⟩ := I.loc
      obtain ⟨u, r, l⟩ := hl k y v hN e2 (.inr hkind)
      refine ⟨u, r, ?_⟩
      rcases l with ⟨kl, _⟩ | ⟨_, c, hc', o, ho, hd⟩
      · have kl : X.env.scope.names.lookup y = some .local := kl
        rw [kl] at hkind
        rcases hkind with z | z <;> cases z
      · refine .inr ⟨?_, c, clOf_has (PySem.mem_of_lookup hfr) hc', o, keep c o ho, hd⟩
        rcases e3 with z | z
        ·
          exfalso
          have z : (relabel scope X.env).names.lookup y = some .local := z
          have hm := PySem.mem_of_lookup z
          unfold relabel at hm
          obtain ⟨⟨n, k'⟩, hp, e⟩ := List.mem_map.mp hm
          dsimp only at e
          have hl2 : (y, NameKind.local) ∈ scope.names := by
            split at e
            · cases e
            · cases e; exact hp
          have := S.names _ hl2 rfl
          rw [hfr] at this
          cases this
        · exact z
  · obtain ⟨v, o, ho, hd⟩ := I.cell y c (clOf_sub e)
    exact ⟨v, o, keep c o ho, hd⟩
  · show (inner cap σ).length = (x :: cn).length
    unfold inner
    rw [List.length_cons, List.length_map, hcap.len, List.length_cons]
theorem comp_out {scope : Scope} {N : List Str} {C : Addr} {s3 s' : Shared} {H2 H3 Hf : Hp} {fp : List Addr} {pins' : List (Addr × Obj)} {σ' : St} (I : Inv X pins σ H3 s3) (J : Inv (cxComp X N scope C s3 H3 fp) pins' σ' Hf s') (f2 : ∀ b ∈ fp, FpOk X pins H2 b) : Inv X pins σ Hf s' :=
  I.call' (ch := fp) J.os J.base J.hok J.bare fun b hb => ⟨(f2 b hb).2.2.2.1, (f2 b hb).2.1, (f2 b hb).2.2.2.2.1, (f2 b hb).2.2.2.2.2⟩
theorem comp_core {scope : Scope} {x : Str} {px pos : Pos} {elt iter : Expr} {ifs : List Expr} {cn : List Str} {cap : List Nat} {s2 : Shared} {H2 : Hp} {it : Addr} {fp : List Addr} {tn : Nat → Heap → Prop} {J : It} {tc : TT} {te : TE} {Q : VK} {RR : Value → Addr → Result → Shared → Prop} {E : Value → Shared → Prop}
    (S : CompScope X scope) (I2 : Inv X pins σ H2 s2) (hc : X.calm = true) (hcap : Caps X scope cn cap) (hx : scope.names.lookup x = some .local) (hnd : (x :: cn).Nodup)
    (T : Turn X.prog X.w X.K (.Name x px) J fp it tn) (st2 : tn 0 s2.heap) (f2 : ∀ b ∈ fp, FpOk X pins H2 b)
    (body : ∀ (C : Addr) (s : Shared) (H : Hp) (fp : List Addr), PTs (cxComp X (x :: cn) scope C s H fp) ifs tc ∧ PE (cxComp X (x :: cn) scope C s H fp) elt te)
    (q : ∀ p, H2 p = none → ∃ W : Nat → Nat → List V → Hp → Prop, (∃ m, W 0 m [] (upd H2 p (.lst []))) ∧ ∀ i m xs H3, W i m xs H3 →
      (J.stop i H3 ∧ Q (.ref p) H3) ∨ (J.go i H3 ∧ ∃ N : List V → Hp → Prop, (∀ xs' H', N xs' H' → ∃ m', m' < m ∧ W (i + 1) m' xs' H') ∧
        ∀ v H4, J.yld i H3 v H4 → tc ((inner cap σ).set 0 (some v)) H4 fun b H5 => if b = true then te ((inner cap σ).set 0 (some v)) H5 fun v H6 => H6 p = some (.lst xs) ∧ xs.length < sizeLine ∧ N (xs ++ [v]) (upd H6 p (.lst (xs ++ [v]))) else N xs H5))
    (hRR : ∀ (p C : Addr) (s3 s' : Shared) (H3 Hf : Hp) (σ' : St), Inv X pins σ H3 s3 → s3.heap.objs.size = C → Inv (cxComp X (x :: cn) scope C s3 H3 fp) [] σ' Hf s' → Q (.ref p) Hf → RR (.ref p) C (.ok .next) s') :
    wpAny (model X.prog X.w) X.A (newList []) (fun acc s₃ => wpAny (model X.prog X.w) X.A (newFunctionEnv scope X.env.globals (clOf scope X.env) [] X.env.qual none .none (some X.env)) (fun cenv s₄ =>
      codeAny (model X.prog X.w) X.A (.compStart (.ListComp elt [⟨.Name x px, iter, ifs, 0⟩] scope pos) 0 (.ref it) acc { cenv with scope := relabel scope X.env }) (RR acc cenv.locals) s₄) E s₃) E s2 := by
  refine wpAny_newObj_type (wpAny_newFunctionEnv S.cell (by intro y hy; simp at hy) (fun h₁ hns₁ hsb₁ => ?_) S.kind)
  dsimp only at hns₁ hsb₁ ⊢
  have hfr : H2 s2.heap.objs.size = none := I2.hok.fresh (Nat.le_refl _)
  obtain ⟨W, ⟨m0, w0⟩, turn⟩ := q _ hfr
  have I3 : Inv X pins σ (upd H2 s2.heap.objs.size (.lst [])) { s2 with heap := s2.heap.push { cls := .type "list", data := .seq ([] : List Value).toArray } } :=
    I2.lnew (its := []) (t' := s2.toks) .nil (Nat.zero_le _)
  generalize hs3 : ({ s2 with heap := s2.heap.push { cls := .type "list", data := .seq ([] : List Value).toArray } } : Shared) = s3 at I3
  have hs3h : s3.heap = s2.heap.push { cls := .type "list", data := .seq ([] : List Value).toArray } := by rw [← hs3]
  have hst3 : tn 0 s3.heap := T.keep _ _ _ st2 fun b hb o e => by rw [hs3h]; exact Heap.get?_push_of_some _ e
  have ltf : ∀ b ∈ fp, b < s3.heap.objs.size := fun b hb => by
    obtain ⟨o, e, _⟩ := T.obj _ _ hst3 b hb
    exact Heap.lt_size e
  have hC : (s2.heap.push { cls := .type "list", dict := none, data := .seq ([] : List Value).toArray }).objs.size = s3.heap.objs.size := by rw [hs3h]
  rw [hC] at hns₁ hsb₁ ⊢
  have keep : ∀ b o, s3.heap.get? b = some o → h₁.get? b = some o := fun b o e => by
    refine hsb₁.extBut b o (Nat.ne_of_lt (Heap.lt_size e)) (Heap.get?_push_of_some _ ?_)
    rw [hs3h] at e
    exact e
  have J4 : Inv (cxComp X (x :: cn) scope s3.heap.objs.size s3 (upd H2 s2.heap.objs.size (.lst [])) fp) [] (inner cap σ) (upd H2 s2.heap.objs.size (.lst [])) { s3 with heap := h₁, toks := s2.toks + ([] : List (Str × Value)).length } :=
    comp_start S I3 hc hcap f2 ltf keep hns₁
  have st4 : tn 0 h₁ := T.keep _ _ _ hst3 fun b hb o e => keep b o e
  have fr4 : ∀ b ∈ fp, (upd H2 s2.heap.objs.size (.lst [])) b = none := fun b hb => by
    obtain ⟨o, e, _⟩ := T.obj _ _ st2 b hb
    rw [upd_ne (Nat.ne_of_lt (Heap.lt_size e))]
    exact (f2 b hb).1
  have hst : ({ s2 with heap := h₁, toks := s2.toks + ([] : List (Str × Value)).length } : Shared) = { s3 with heap := h₁, toks := s2.toks + ([] : List (Str × Value)).length } := by rw [← hs3]
  have loop : codeAny (model X.prog X.w) X.A (.compLoop (.ListComp elt [⟨.Name x px, iter, ifs, 0⟩] scope pos) 0 (.ref it) (.ref s2.heap.objs.size) (compEnvC scope (clOf scope X.env) s3.heap.objs.size X.env))
      (RR (.ref s2.heap.objs.size) s3.heap.objs.size) { s2 with heap := h₁, toks := s2.toks + ([] : List (Str × Value)).length } := by
    rw [hst]
    generalize hX' : cxComp X (x :: cn) scope s3.heap.objs.size s3 (upd H2 s2.heap.objs.size (.lst [])) fp = X' at J4
    have hfpk : ∀ {Hc : Hp}, (∀ b ∈ fp, Hc b = none) → ∀ b ∈ fp, FpOk X' [] Hc b := fun {Hc} hn b hb => by
      subst hX'
      refine ⟨hn b hb, (J4.ok.exf b hb).1, J4.ok.exfs b hb, .inl hb, (J4.ok.exf b hb).2, fun p hp => absurd (show p ∈ ([] : List (Addr × Obj)) from hp) (by simp)⟩
    refine compLoop_any (fun n s' => ∃ i xs Hc, Inv X' [] (inner cap σ) Hc s' ∧ tn i s'.heap ∧ (∀ b ∈ fp, Hc b = none) ∧ W i n xs Hc) ?_ m0 ⟨0, [], _, J4, st4, fr4, w0⟩
    rintro n s5 ⟨i, xs, Hc, I5, st5, fr5, w5⟩
    have B := body s3.heap.objs.size s3 (upd H2 s2.heap.objs.size (.lst [])) fp
    rcases turn i n xs Hc w5 with ⟨stop, qn⟩ | ⟨go, N, hN, step⟩
    · subst hX'
      refine thn (T.done (cxComp X (x :: cn) scope s3.heap.objs.size s3 (upd H2 s2.heap.objs.size (.lst [])) fp) rfl rfl rfl rfl i [] s5 (inner cap σ) Hc (fun _ _ => False) I5 (hfpk fr5) st5 stop) fun r s6 ⟨hr, I6⟩ => ?_
      subst hr
      exact hRR _ _ s3 s6 _ Hc _ I3 rfl I6 qn
    · subst hX'
      refine thn (T.item (cxComp X (x :: cn) scope s3.heap.objs.size s3 (upd H2 s2.heap.objs.size (.lst [])) fp) rfl rfl rfl rfl i [] s5 (inner cap σ) Hc (fun _ _ => False) I5 (hfpk fr5) st5 go) fun r s6 ⟨u, hr, h6⟩ => ?_
      subst hr
      refine thn h6 fun _ s7 ⟨v, H7, I7, r7, y7, st7, fr7⟩ => ?_
      have I7' := I7.pinned (hfpk fr7) (T.obj _ _ st7)
      have hlook : (relabel scope X.env).names.lookup x = some .local := lookup_relabel_local hx
      refine wpAny_assign_Name (store_ok (X := cxComp X (x :: cn) scope s3.heap.objs.size s3 (upd H2 s2.heap.objs.size (.lst [])) fp) I7' (i := 0) hnd rfl (.inl hlook) r7 (fun s8 I8 => ?_) (.inr hlook))
      have again : ∀ {s9 : Shared} {H9 : Hp} {ys : List V}, Inv (cxComp X (x :: cn) scope s3.heap.objs.size s3 (upd H2 s2.heap.objs.size (.lst [])) fp) ([] ++ pinsAt fp s7.heap) ((inner cap σ).set 0 (some v)) H9 s9 → N ys H9 →
          ∃ m, m < n ∧ ∃ i xs Hc, Inv (cxComp X (x :: cn) scope s3.heap.objs.size s3 (upd H2 s2.heap.objs.size (.lst [])) fp) [] (inner cap σ) Hc s9 ∧ tn i s9.heap ∧ (∀ b ∈ fp, Hc b = none) ∧ W i m xs Hc := fun {s9 H9 ys} I9 n9 => by
        obtain ⟨m', hm, w9⟩ := hN ys H9 n9
        refine ⟨m', hm, i + 1, ys, H9, (I9.unpinned (pins := [])).weak (by simp [inner]) (fun j w e => ?_), T.keep _ _ _ st7 fun b hb o e => (I9.pin (b, o) (List.mem_append_right _ (List.mem_append_right _ (mem_pinsAt hb e)))).1, fun b hb => ?_, w9⟩
        · cases j with
          | zero =>
            have e : (some none : Option (Option V)) = some (some w) := e
            cases e
          | succ j => exact e
        · obtain ⟨o, e, _⟩ := T.obj _ _ st7 b hb
          exact (I9.pin (b, o) (List.mem_append_right _ (List.mem_append_right _ (mem_pinsAt hb e)))).2.1
      refine thn (B.1 _ s8 _ H7 _ I8 (step v H7 y7)) fun ok s9 ⟨H9, I9, q9⟩ => ?_
      cases ok with
      | false =>
        rw [if_neg Bool.false_ne_true] at q9 ⊢
        exact again I9 q9
      | true =>
        rw [if_pos rfl] at q9 ⊢
        refine thn (B.2 _ s9 _ H9 _ I9 q9) fun uy s10 ⟨y, H10, I10, r10, hp, hl, n10⟩ => ?_
        refine thn (mt_append _ s10 _ H10 (.ref s2.heap.objs.size) [y] (.ref s2.heap.objs.size) [uy] (fun _ H11 => N (xs ++ [y]) H11) I10 rfl (.cons r10 .nil) ⟨_, xs, y, rfl, rfl, hp, hl, n10⟩) fun _ s11 ⟨_, H11, I11, _, n11⟩ => ?_
        exact again I11 n11
  exact codeAny_compStart_list loop (T.self _ _ _ _ _ st4 loop)
theorem pe_comp {scope : Scope} {x : Str} {px pos : Pos} {elt iter : Expr} {ifs : List Expr} {cn : List Str} {cap : List Nat} {wi : TI} {tc : TT} {te : TE}
    (hc : X.calm = true) (S : CompScope X scope) (hx : scope.names.lookup x = some .local) (hnd : (x :: cn).Nodup) (hcap : Caps X scope cn cap) (hi : PI X (.Name x px) iter wi)
    (body : ∀ (C : Addr) (s : Shared) (H : Hp) (fp : List Addr), PTs (cxComp X (x :: cn) scope C s H fp) ifs tc ∧ PE (cxComp X (x :: cn) scope C s H fp) elt te)
    (hs : ∀ x, foldedSetIterable iter X.env x = pure x := by intro _; rfl) : PE X (.ListComp elt [⟨.Name x px, iter, ifs, 0⟩] scope pos) (tComp cap wi tc te) := by
  intro pins s σ H Q I h
  rw [eval_ListComp]
  refine wpAny_comprehension_free (use := none) rfl hs (S.clos I) S.kind S.names (thn (hi pins s σ H _ I h) fun xv s1 h1 => thn h1 fun itv s2 h2 => ?_)
  obtain ⟨it, fp, tn, J, H2, e, I2, T, st2, f2, q⟩ := h2
  subst e
  refine comp_core (RR := fun acc C => compPost (model X.prog X.w) X.A X.xe none (EP X pins σ Q) acc C) S I2 hc hcap hx hnd T st2 f2 body q ?_
  intro p C s3 s' H3 Hf σ' I3 hC J' qf
  subst hC
  have I4 := comp_out I3 J' f2
  obtain ⟨m, hn, _⟩ := J'.loc
  refine ⟨m, hn, fun h' hs' => ?_⟩
  refine ⟨.ref p, Hf, ?_, rfl, qf⟩
  have f := I3.fpOk (H' := Hf) (Nat.le_refl _) J'.free
  exact I4.turned (t' := s'.toks) (it := s3.heap.objs.size) (fun b o hb e => (hs'.2 b hb).trans e) f.1 f.2.1 f.2.2.2.1 f.2.2.2.2.1 f.2.2.2.2.2
theorem ps_setcomp {scope : Scope} {x y : Str} {px py pos spos : Pos} {elt iter : Expr} {ifs : List Expr} {cn : List Str} {cap : List Nat} {wi : TI} {tc : TT} {te : TE} {i : Nat}
    (hN : X.N.Nodup) (hi : X.N[i]? = some y) (hy : Loc X.env.scope y) (hc : X.calm = true) (S : CompScope X scope) (hx : scope.names.lookup x = some .local) (hnd : (x :: cn).Nodup) (hcap : Caps X scope cn cap) (hit : PI X (.Name x px) iter wi)
    (body : ∀ (C : Addr) (s : Shared) (H : Hp) (fp : List Addr), PTs (cxComp X (x :: cn) scope C s H fp) ifs tc ∧ PE (cxComp X (x :: cn) scope C s H fp) elt te)
    (hsw : swapsWith (.ListComp elt [⟨.Name x px, iter, ifs, 0⟩] scope pos) (some (.Name y py)) spos.line X.env = pure true := by rfl)
    (hf : X.fn y = true ∨ X.env.scope.names.lookup y = some .local := by first | exact .inl rfl | exact .inr rfl | assumption)
    (hs : ∀ x, foldedSetIterable iter X.env x = pure x := by intro _; rfl) : PS X (.Assign [.Name y py] (.ListComp elt [⟨.Name x px, iter, ifs, 0⟩] scope pos) spos) (tAsg (tComp cap wi tc te) (gName i)) := by
  intro pins s σ H D I h
  rw [exec_Assign_Name_used _ _ _ _ hsw]
  refine wpAny_bind (wpAny_standAt (wpAny_bind ?_))
  show wpAny _ X.A (do let _ ← comprehension (.ListComp elt [⟨.Name x px, iter, ifs, 0⟩] scope pos) scope X.env _ (newList []) false (eval iter X.env) (some (assign (.Name y py) X.env))) _ _ s
  refine wpAny_bind (wpAny_mono (wpAny_comprehension_free (use := some (assign (.Name y py) X.env)) (Q := fun _ s' => SP X pins D .next s') rfl hs (S.clos I) S.kind S.names
    (thn (hit pins s σ H _ I h) fun xv s1 h1 => thn h1 fun itv s2 h2 => ?_)) (fun _ s' hq => wpAny_pure (wpAny_pure hq)) fun _ _ e => e)
  obtain ⟨it, fp, tn, J, H2, e, I2, T, st2, f2, q⟩ := h2
  subst e
  refine comp_core (Q := fun v H1 => gName i v σ H1 D.nx) (RR := fun acc C => compPost (model X.prog X.w) X.A X.xe (some (assign (.Name y py) X.env)) (fun _ s' => SP X pins D .next s') acc C) S I2 hc hcap hx hnd T st2 f2 body q ?_
  intro p C s3 s' H3 Hf σ' I3 hC J' qf
  subst hC
  have I4 := comp_out I3 J' f2
  obtain ⟨m, hn, _⟩ := J'.loc
  have f := I3.fpOk (H' := Hf) (Nat.le_refl _) J'.free
  show wpAny _ X.A (assign (.Name y py) X.env (.ref p)) _ _ _
  refine wpAny_assign_Name (store_ok2 (v := V.ref p) I4 hN hi hy rfl (fun s'' I5 ch => ?_) hf)
  obtain ⟨a, hsb, ha⟩ := ch
  have hCa : s3.heap.objs.size ≠ a := by
    rcases ha with rfl | ha
    · exact f.2.1
    · exact fun z => f.2.2.2.2.1 y a ha z.symm
  refine ⟨m, hn.sameBut hsb hCa, fun h' hs' => ?_⟩
  exact ⟨_, Hf, I5.turned (t' := s''.toks) (it := s3.heap.objs.size) (fun b o hb e => (hs'.2 b hb).trans e) f.1 f.2.1 f.2.2.2.1 f.2.2.2.2.1 f.2.2.2.2.2, qf⟩
end
end L2
set_option Elab.async false
set_option maxRecDepth 100000
namespace L2
open PySem PySem.Spec PyProof.Rows
theorem bt_len : bootBuiltins "len" = some (.builtin "len") := by decide +kernel
theorem bt_isinstance : bootBuiltins "isinstance" = some (.builtin "isinstance") := by decide +kernel
theorem bt_max : bootBuiltins "max" = some (.builtin "max") := by decide +kernel
theorem bt_min : bootBuiltins "min" = some (.builtin "min") := by decide +kernel
theorem bt_list : bootBuiltins "list" = some (.type "list") := by decide +kernel
theorem bt_tuple : bootBuiltins "tuple" = some (.type "tuple") := by decide +kernel
def kitC (T c : String) : Option Bool := if (T == c) = true then some true else if PySem.W.kitMeta c = true then (fastBuiltinMro T).map (·.contains (.type c)) else none
theorem kit_of {K : PySem.W.Frag} {T c : String} {b : Bool} (h : kitC T c = some b) : PySem.W.kitOne K (.type T) (.type c) = some b := by
  unfold kitC at h
  unfold PySem.W.kitOne
  by_cases e : T = c
  · subst e
    rw [if_pos (by simp)] at h
    rw [if_pos (by simp)]
    exact h
  · rw [if_neg (by simpa using e)] at h
    rw [if_neg (by intro z; exact e (by simpa using z))]
    exact h
structure DefOk (P : Program) (w : World) (K : PySem.W.Frag) (mg : Str → Option Value) (base : Heap) (x : Str) (k : Nat) (ps : List Str) (sp : Sp) : Prop where
  ex : ∃ f fd, FnOk P w K mg base CX0 k f fd ps sp ∧ mg x = some (.ref f) ∧ PySem.W.keepIn K (.ref f) = true ∧ Binds K fd ps []
section
variable {X : Cx} {x : Str} {k j : Nat} {ps : List Str} {sp : Sp} {e : Expr} {es : List Expr} {t : TA} {p pos : Pos}
theorem pe_def (F : DefOk X.prog X.w X.K X.mg X.base x k ps sp) (hr : Room j X.A) (hj : k ≤ j) (hg : Gl X x) (ha : PA X (e :: es) t) (hdb : (x == ("__debug__" : Str)) = false := by decide)
    (he : starEach (e :: es) X.env = (false, eval e X.env) :: starEach es X.env := by rfl) (hpl : (backTo pos (starEach es X.env)).any (·.1) = false := by rfl) :
    PE X (.Call (.Name x p) (e :: es) [] pos) (tCall sp [] E0 t) := by
  obtain ⟨f, fd, G, m, kp, b⟩ := F.ex
  exact pe_call G (hr.mono hj) hg m kp b .nil pass0 ha hdb he hpl
end
theorem def_of {P : Program} {w : World} {K : PySem.W.Frag} {mg : Str → Option Value} {base : Heap} {x : Str} {st : Stmt} {f : Addr} {fd : FuncData} {k : Nat} {ps : List Str} {sp : Sp} (F : Fun K x x st f fd) (m : mg x = some (.ref f)) (b : Binds K fd ps []) (G : FnOk P w K mg base CX0 k f fd ps sp) : DefOk P w K mg base x k ps sp :=
  ⟨f, fd, G, m, F.kp, b⟩
theorem free_of {X : Cx} {scope : Scope} (h : (scope.names.all fun p => p.2 != .free || X.env.scope.names.lookup p.1 == some .cell || X.env.scope.names.lookup p.1 == some .free) = true) :
    ∀ y ∈ scope.names, y.2 = .free → X.env.scope.names.lookup y.1 = some .cell ∨ X.env.scope.names.lookup y.1 = some .free := fun y hy hf => by
  have := List.all_eq_true.mp h y hy
  rw [hf] at this
  simpa using this
theorem Same.new {H : Hp} {p : Addr} {o : HO} (h : H p = none) : Same H (upd H p o) := fun b u e => by rw [upd_ne (ne_of_none e h)]; exact e
theorem Same.put {H H' : Hp} {p : Addr} {o : HO} (s : Same H H') (h : H p = none) : Same H (upd H' p o) := fun b u e => by rw [upd_ne (ne_of_none e h)]; exact s b u e
def Its (x : Str) : It := ⟨fun i _ => i < x.cps.size, fun i H v H' => H' = H ∧ ∃ c, x.cps[i]? = some c ∧ v = .str ⟨#[c]⟩, fun i _ => i = x.cps.size⟩
def StrIt (it : Addr) (x : Str) (t : Tok) (i : Nat) (h : Heap) : Prop := h.IsStrIter it "str_ascii_iterator" x t i ∨ h.IsStrIter it "str_iterator" x t i
theorem turn_str {P : Program} {w : World} {K : PySem.W.Frag} {tg : Expr} (x : Str) (t : Tok) (it : Addr) : Turn P w K tg (Its x) [it] it (StrIt it x t) where
  mem := by simp
  obj := fun i h st b hb => by
    have e : b = it := by simpa using hb
    subst e
    rcases st with ⟨o, e, c, d⟩ | ⟨o, e, c, d⟩ <;> exact ⟨o, e, fun v z => by rw [d] at z; cases z⟩
  keep := fun i h h' st k => by
    rcases st with ⟨o, e, r⟩ | ⟨o, e, r⟩
    · exact .inl ⟨o, k it (by simp) o e, r⟩
    · exact .inr ⟨o, k it (by simp) o e, r⟩
  item := by
    intro X hP hw hK hc i pins s σ H E I hf st hg
    subst hP hw hK
    obtain ⟨f0, f1, f2, f3, f4, f5⟩ := hf it (by simp)
    rcases st with st | st
    · refine (Walks.strAscii (prog := X.prog) (w := X.w) (I.ok.hd hc) it x t).item i s _ _ hg st fun v h' tk hv st' kk => ?_
      obtain ⟨c, u, hcx, rfl⟩ := hv
      have I1 := I.turned (h' := h') (t' := tk) (fun b o hb e => kk b o (by simpa using hb) e) f0 f1 f3 f4 f5
      obtain ⟨o, e, hc', d⟩ := id st'
      exact ⟨_, rfl, go_of (s := { s with heap := h', toks := tk }) e hc' d (by decide) ⟨.str ⟨#[c]⟩, H, I1, ⟨u, rfl⟩, ⟨rfl, c, hcx, rfl⟩, .inl st', fun b hb => (hf b hb).1⟩⟩
    · refine (Walks.strWide (prog := X.prog) (w := X.w) (I.ok.hd hc) it x t).item i s _ _ hg st fun v h' tk hv st' kk => ?_
      obtain ⟨c, u, hcx, rfl⟩ := hv
      have I1 := I.turned (h' := h') (t' := tk) (fun b o hb e => kk b o (by simpa using hb) e) f0 f1 f3 f4 f5
      obtain ⟨o, e, hc', d⟩ := id st'
      exact ⟨_, rfl, go_of (s := { s with heap := h', toks := tk }) e hc' d (by decide) ⟨.str ⟨#[c]⟩, H, I1, ⟨u, rfl⟩, ⟨rfl, c, hcx, rfl⟩, .inr st', fun b hb => (hf b hb).1⟩⟩
  done := by
    intro X hP hw hK hc i pins s σ H E I hf st hg
    subst hP hw hK
    obtain ⟨f0, f1, f2, f3, f4, f5⟩ := hf it (by simp)
    have hg : i = x.cps.size := hg
    subst hg
    rcases st with st | st
    · exact (Walks.strAscii (prog := X.prog) (w := X.w) (I.ok.hd hc) it x t).done s _ _ st fun h' tk kk => ⟨rfl, I.turned (fun b o hb e => kk b o (by simpa using hb) e) f0 f1 f3 f4 f5⟩
    · exact (Walks.strWide (prog := X.prog) (w := X.w) (I.ok.hd hc) it x t).done s _ _ st fun h' tk kk => ⟨rfl, I.turned (fun b o hb e => kk b o (by simpa using hb) e) f0 f1 f3 f4 f5⟩
  self := fun _ _ _ _ _ st h => by
    rcases st with st | st
    · exact wpAny_pyIter_striter_ascii st h
    · exact wpAny_pyIter_striter_wide st h
section
variable {X : Cx} {tg : Expr}
def iAny (K : PySem.W.Frag) (tl : TE) : TI := fun σ H R => tl σ H fun v H1 => match v with
  | .str x => R (Its x) H1
  | .ref a => ((∃ xs, SqL K H1 a xs) ∧ R (Itl K a) H1) ∨ ((∃ xs, SqT K H1 a xs) ∧ R (Itt K a) H1)
  | _ => False
theorem pi_any {l : Expr} {tl : TE} (hl : PE X l tl) : PI X tg l (iAny X.K tl) := by
  intro pins s σ H R I h
  refine thn (hl pins s σ H _ I h) fun v s1 ⟨x, H1, I1, r1, q1⟩ => ?_
  have one : ∀ b ∈ [s1.heap.objs.size], FpOk X pins H1 b := fun b hb => by
    have e : b = s1.heap.objs.size := by simpa using hb
    subst e
    exact I1.fpOk (Nat.le_refl _) (I1.hok.fresh (Nat.le_refl _))
  cases x with
  | str z =>
    obtain ⟨t, rfl⟩ := r1
    have q1 : R (Its z) H1 := q1
    cases ha : z.cps.all (· < 128)
    · exact wpAny_pyIter_wide ha ⟨s1.heap.objs.size, [s1.heap.objs.size], _, _, H1, rfl, I1.kept (t' := s1.toks) fun b o e => Heap.get?_push_of_some _ e, turn_str z t _, .inr ⟨_, Heap.get?_push_size _ rfl, rfl, rfl⟩, one, q1⟩
    · exact wpAny_pyIter_ascii ha ⟨s1.heap.objs.size, [s1.heap.objs.size], _, _, H1, rfl, I1.kept (t' := s1.toks) fun b o e => Heap.get?_push_of_some _ e, turn_str z t _, .inl ⟨_, Heap.get?_push_size _ rfl, rfl, rfl⟩, one, q1⟩
  | ref a =>
    cases r1
    have q1 : ((∃ xs, SqL X.K H1 a xs) ∧ R (Itl X.K a) H1) ∨ ((∃ xs, SqT X.K H1 a xs) ∧ R (Itt X.K a) H1) := q1
    rcases q1 with ⟨⟨xs, hq⟩, q⟩ | ⟨⟨xs, hq⟩, q⟩
    · obtain ⟨its, rv, p, hz⟩ := I1.list hq
      exact wpAny_pyIter_list p.isList ⟨s1.heap.objs.size, [s1.heap.objs.size], _, _, H1, rfl, I1.kept (t' := s1.toks) fun b o e => Heap.get?_push_of_some _ e, turn_list a _, ⟨_, Heap.get?_push_size _ rfl, rfl, rfl⟩, one, q⟩
    · obtain ⟨its, rv, p, hz⟩ := I1.tuple hq
      exact wpAny_pyIter_tuple (show s1.heap.IsTuple a its.toArray from p) ⟨s1.heap.objs.size, [s1.heap.objs.size], _, _, H1, rfl, I1.kept (t' := s1.toks) fun b o e => Heap.get?_push_of_some _ e, turn_tuple a _, ⟨_, Heap.get?_push_size _ rfl, rfl, rfl⟩, one, q⟩
  | _ => exact (show False from q1).elim
end
structure Yields (J : It) (H : Hp) (xs : List V) : Prop where
  go : ∀ i H', Same H H' → i < xs.length → J.go i H'
  stop : ∀ H', Same H H' → J.stop xs.length H'
  yld : ∀ i H' x H'', Same H H' → i < xs.length → J.yld i H' x H'' → H'' = H' ∧ xs[i]? = some x
theorem yields_range (lo : Int) (n : Nat) (H : Hp) : Yields (Itr lo n) H ((List.range n).map fun (i : Nat) => V.int (lo + (i : Int))) where
  go := fun i H' _ hi => by
    show i < n
    simpa using hi
  stop := fun H' _ => by
    show n ≤ ((List.range n).map fun (i : Nat) => V.int (lo + (i : Int))).length
    simp
  yld := fun i H' v H'' _ hi y => by
    obtain ⟨rfl, rfl⟩ := y
    rw [List.length_map, List.length_range] at hi
    refine ⟨rfl, ?_⟩
    simp [hi]
theorem yields_list {K : PySem.W.Frag} {a : Addr} {xs : List V} {H : Hp} (h : SqL K H a xs) : Yields (Itl K a) H xs where
  go := fun i H' s hi => ⟨xs, xs[i], s.seq h, by simp [hi]⟩
  stop := fun H' s => ⟨xs, s.seq h, Nat.le_refl _⟩
  yld := fun i H' v H'' s _ y => ⟨y.1, y.2 xs (s.seq h)⟩
section
variable {X : Cx}
def rPlus (K : PySem.W.Frag) : R2 := fun x y H Q => match x, y with
  | .int i, .int j => Q (.int (i + j)) H
  | .str a, .str b => a.length + b.length ≤ sizeLine ∧ Q (.str (a ++ b)) H
  | .ref a, .ref b => ∃ xs ys, Rd H a (.lst xs) ∧ Rd H b (.lst ys) ∧ xs.length + ys.length ≤ sizeLine ∧ ∀ p, H p = none → Q (.ref p) (upd H p (.lst (xs ++ ys)))
  | _, _ => False
theorem op_catS : OpR X (binaryOp .Add) (fun x y H Q => ∃ a b xs ys, x = .ref a ∧ y = .ref b ∧ Rd H a (.lst xs) ∧ Rd H b (.lst ys) ∧ xs.length + ys.length ≤ sizeLine ∧ ∀ p, H p = none → Q (.ref p) (upd H p (.lst (xs ++ ys)))) := by
  intro pins s σ H x y v u Q I rx ry h
  obtain ⟨l, b, xs, zs, rfl, rfl, hH, hB, hz, q⟩ := h
  cases rx
  cases ry
  obtain ⟨z, its, n, r, e⟩ := hH.ok I.hok
  obtain ⟨z2, its2, n2, r2, e2⟩ := hB.ok I.hok
  have hl := r.length
  have hl2 := r2.length
  refine PySem.P.add_list e e2 ?_ (by rw [List.size_toArray, List.size_toArray]; omega)
  have ea : its.toArray ++ its2.toArray = (its ++ its2).toArray := by simp
  rw [ea]
  exact ⟨.ref _, _, I.lnew (t' := s.toks) (r.append r2) (by rw [List.length_append]; omega), rfl, q _ I.fresh⟩
theorem op_plus : OpR X (binaryOp .Add) (rPlus X.K) := by
  intro pins s σ H x y v u Q I rx ry h
  cases x with
  | int i => cases y with
    | int j => exact op_add pins s σ H _ _ v u Q I rx ry ⟨i, j, rfl, rfl, h⟩
    | _ => exact (show False from h).elim
  | str a => cases y with
    | str b => exact op_add_str pins s σ H _ _ v u Q I rx ry ⟨a, b, rfl, rfl, h.1, h.2⟩
    | _ => exact (show False from h).elim
  | ref a => cases y with
    | ref b =>
      obtain ⟨xs, ys, h1, h2, h3, h4⟩ := h
      exact op_catS pins s σ H _ _ v u Q I rx ry ⟨a, b, xs, ys, rfl, rfl, h1, h2, h3, h4⟩
    | _ => exact (show False from h).elim
  | _ => exact (show False from h).elim
def rOrd (fi : Int → Int → Bool) (fs : List Nat → List Nat → Bool) : R2 := fun x y H Q => match x, y with
  | .int i, .int j => Q (.bl (fi i j)) H
  | .str a, .str b => Q (.bl (fs a.cps.toList b.cps.toList)) H
  | _, _ => False
theorem ord_of {f : Value → Value → Sem Value} {fi : Int → Int → Bool} {fs : List Nat → List Nat → Bool} (hi : OpR X f (rI0 fun i j => .bl (fi i j)))
    (hs : ∀ (s : Shared) (a b : Str) (t u : Tok) (Q : Value → Shared → Prop), Q (.bool (fs a.cps.toList b.cps.toList)) s → wpAny (model X.prog X.w) X.A (f (.str a t) (.str b u)) Q X.xe s) : OpR X f (rOrd fi fs) := by
  intro pins s σ H x y v u Q I rx ry h
  cases x with
  | int i => cases y with
    | int j => exact hi pins s σ H _ _ v u Q I rx ry ⟨i, j, rfl, rfl, h⟩
    | _ => exact (show False from h).elim
  | str a => cases y with
    | str b =>
      obtain ⟨t, rfl⟩ := rx
      obtain ⟨t', rfl⟩ := ry
      exact hs s a b t t' _ ⟨.bl _, H, I, rfl, h⟩
    | _ => exact (show False from h).elim
  | _ => exact (show False from h).elim
theorem op_ltU : OpR X (compareOp .Lt) (rOrd (fun i j => decide (i < j)) fun a b => decide (a < b)) := ord_of op_lt fun _ _ _ _ _ _ h => lt_str h
theorem op_leU : OpR X (compareOp .LtE) (rOrd (fun i j => decide (i ≤ j)) fun a b => !decide (b < a)) := ord_of op_le fun _ _ _ _ _ _ h => PySem.P.le_str h
def rMul (K : PySem.W.Frag) : R2 := fun x y H Q => match x, y with
  | .int i, .int j => CMul i j ∧ Q (.int (i * j)) H
  | .ref l, .int k => ∃ xs, H l = some (.lst xs) ∧ -(2 ^ 63) ≤ k ∧ k < 2 ^ 63 ∧ xs.length * k.toNat ≤ sizeLine ∧ ∀ p, H p = none → Q (.ref p) (upd H p (.lst (List.replicate k.toNat xs).flatten))
  | _, _ => False
theorem op_mulU : OpR X (binaryOp .Mult) (rMul X.K) := by
  intro pins s σ H x y v u Q I rx ry h
  cases x with
  | int i => cases y with
    | int j => exact op_mul pins s σ H _ _ v u Q I rx ry ⟨i, j, rfl, rfl, h.1, h.2⟩
    | _ => exact (show False from h).elim
  | ref l => cases y with
    | int k =>
      obtain ⟨xs, h1, h2, h3, h4, h5⟩ := h
      exact op_rep pins s σ H _ _ v u Q I rx ry ⟨l, k, xs, rfl, rfl, h1, h2, h3, h4, h5⟩
    | _ => exact (show False from h).elim
  | _ => exact (show False from h).elim
def rSl (K : PySem.W.Frag) : V → Option Int → Option Int → Hp → VK → Prop := fun x lo hi H Q => match x with
  | .str z => z.length ≤ sizeLine ∧ Q (.str (Txt.slice z lo hi)) H
  | .ref a => (∃ xs, SqL K H a xs ∧ ∀ p, H p = none → Q (.ref p) (upd H p (.lst (cutV xs lo hi))))
  | _ => False
theorem sl_str : SlR X (fun x lo hi H Q => ∃ z, x = .str z ∧ z.length ≤ sizeLine ∧ Q (.str (Txt.slice z lo hi)) H) := by
  intro pins s σ H x v vl vu lo hi sl Q I rx hs pl pu h
  obtain ⟨z, rfl, hz, q⟩ := h
  obtain ⟨t, rfl⟩ := rx
  refine ⟨"str", _, F.slot_str_getitem.lookup, typeIs_str _ _ _, ?_⟩
  have fin : ∀ (t' : Tok) (k : Nat), EP X pins σ Q (.str (Txt.slice z lo hi) t') { s with toks := k } := fun t' k => ⟨.str _, H, I.tok k, ⟨t', rfl⟩, q⟩
  cases pl with
  | none => cases pu with
    | none => exact wpAny_getItem_str_slice (l := none) (u := none) (st := none) hs rfl (post_val_or_str ⟨Nat.le_trans (Txt.slice_le z _ _) hz, fin⟩)
    | int j uj => exact wpAny_getItem_str_slice (l := none) (u := some (j, uj)) (st := none) hs rfl (post_val_or_str ⟨Nat.le_trans (Txt.slice_le z _ _) hz, fin⟩)
  | int i ui => cases pu with
    | none => exact wpAny_getItem_str_slice (l := some (i, ui)) (u := none) (st := none) hs rfl (post_val_or_str ⟨Nat.le_trans (Txt.slice_le z _ _) hz, fin⟩)
    | int j uj => exact wpAny_getItem_str_slice (l := some (i, ui)) (u := some (j, uj)) (st := none) hs rfl (post_val_or_str ⟨Nat.le_trans (Txt.slice_le z _ _) hz, fin⟩)
theorem sl_any : SlR X (rSl X.K) := by
  intro pins s σ H x v vl vu lo hi sl Q I rx hs pl pu h
  cases x with
  | str z => exact sl_str pins s σ H _ v vl vu lo hi sl Q I rx hs pl pu ⟨z, rfl, h.1, h.2⟩
  | ref a =>
    obtain ⟨xs, h1, h2⟩ := h
    exact sl_list pins s σ H _ v vl vu lo hi sl Q I rx hs pl pu ⟨a, xs, rfl, h1, h2⟩
  | _ => exact (show False from h).elim
def rAt (K : PySem.W.Frag) : R2 := fun x y H Q => match x, y with
  | .str z, .int i => z.length ≤ sizeLine ∧ ∃ c, atI z.cps.toList i = some c ∧ Q (.str ⟨#[c]⟩) H
  | .ref p, .int i => (∃ xs v, SqL K H p xs ∧ atI xs i = some v ∧ Q v H) ∨ (∃ xs v, SqT K H p xs ∧ atI xs i = some v ∧ Q v H)
  | _, _ => False
theorem ix_any : IxR X (rAt X.K) := by
  intro value slice pins s σ H x y v u Q I rx ry q hs
  cases x with
  | str z => cases y with
    | int i =>
      obtain ⟨hz, c, hc, q⟩ := q
      exact ix_str value slice pins s σ H _ _ v u Q I rx ry ⟨z, i, c, rfl, rfl, hz, hc, q⟩ hs
    | _ => exact (show False from q).elim
  | ref p => cases y with
    | int i =>
      rcases q with ⟨xs, w', h1, h2, h3⟩ | ⟨xs, w', h1, h2, h3⟩
      · exact ix_list value slice pins s σ H _ _ v u Q I rx ry ⟨p, xs, i, w', rfl, rfl, h1, h2, h3⟩ hs
      · exact ix_tup value slice pins s σ H _ _ v u Q I rx ry ⟨p, xs, i, w', rfl, rfl, h1, h2, h3⟩ hs
    | _ => exact (show False from q).elim
  | _ => exact (show False from q).elim
def rLen (K : PySem.W.Frag) : List V → Hp → VK → Prop := fun vs H Q => match vs with
  | [.str z] => z.length ≤ sizeLine ∧ Q (.int z.length) H
  | [.ref p] => ∃ ys, (SqL K H p ys ∨ SqT K H p ys) ∧ Q (.int ys.length) H
  | _ => False
theorem call_lenU : CallR X (.builtin "len") (rLen X.K) := by
  intro pins s σ H vs us Q I r h
  match vs, h with
  | [.str z], h => exact call_len_str pins s σ H _ us Q I r ⟨z, rfl, h.1, h.2⟩
  | [.ref p], h =>
    obtain ⟨ys, h1, h2⟩ := h
    exact call_len_seq pins s σ H _ us Q I r ⟨p, ys, rfl, h1, h2⟩
end
end L2
set_option Elab.async false
set_option maxRecDepth 100000
namespace L2
open PySem PySem.Spec PyProof.Rows
structure EqTy (K : PySem.W.Frag) (k : Nat) {α : Type} [DecidableEq α] (R : Hp → V → α → Prop) : Prop where
  fn : ∀ {X : Cx} {pins : List (Addr × Obj)} {σ : St} {H : Hp} {s : Shared} {x : V} {a b : α}, X.K = K → Inv X pins σ H s → R H x a → R H x b → a = b
  eq : ∀ {X : Cx} {pins : List (Addr × Obj)} {σ : St} {H : Hp} {s : Shared} {x y : V} {u v : Value} {a b : α} (A : Around), X.K = K → Inv X pins σ H s → A.units + k < cLine → RelV x u → RelV y v → R H x a → R H y b → SeqAt.EqAt A s u v (decide (a = b))
  rc : ∀ {X : Cx} {pins : List (Addr × Obj)} {σ : St} {H : Hp} {s : Shared} {x y : V} {u v : Value} {a b : α} (A : Around), X.K = K → Inv X pins σ H s → A.units + k < cLine → RelV x u → RelV y v → R H x a → R H y b → SeqAt.RcAt A s u v (decide (a = b)) ∧ SeqAt.RcNeAt A s u v (!decide (a = b))
def isStr : Hp → V → Str → Prop := fun _ x a => x = .str a
def isInt : Hp → V → Int → Prop := fun _ x a => x = .int a
def isBl : Hp → V → Bool → Prop := fun _ x a => x = .bl a
theorem dec_beq {α : Type} [DecidableEq α] [BEq α] [LawfulBEq α] (a b : α) : (a == b) = decide (a = b) := by
  by_cases h : a = b
  · subst h; simp
  · rw [decide_eq_false h]; simpa using h
theorem eqStr {K : PySem.W.Frag} : EqTy K 0 isStr where
  fn := fun _ _ h1 h2 => by cases h1; cases h2; rfl
  eq := fun A _ _ _ r1 r2 h1 h2 => by
    cases h1; cases h2
    obtain ⟨t, rfl⟩ := r1
    obtain ⟨t', rfl⟩ := r2
    rw [← dec_beq]
    exact SeqAt.EqAt.str_str _ _ _ _
  rc := fun A _ _ _ r1 r2 h1 h2 => by
    cases h1; cases h2
    obtain ⟨t, rfl⟩ := r1
    obtain ⟨t', rfl⟩ := r2
    rw [← dec_beq]
    exact ⟨SeqAt.RcAt.str_str _ _ _ _, SeqAt.RcNeAt.str_str _ _ _ _⟩
theorem eqInt {K : PySem.W.Frag} : EqTy K 0 isInt where
  fn := fun _ _ h1 h2 => by cases h1; cases h2; rfl
  eq := fun A _ _ _ r1 r2 h1 h2 => by
    cases h1; cases h2
    obtain ⟨t, rfl⟩ := r1
    obtain ⟨t', rfl⟩ := r2
    rw [← dec_beq]
    exact SeqAt.EqAt.int_int _ _ _ _
  rc := fun A _ _ _ r1 r2 h1 h2 => by
    cases h1; cases h2
    obtain ⟨t, rfl⟩ := r1
    obtain ⟨t', rfl⟩ := r2
    rw [← dec_beq]
    exact ⟨SeqAt.RcAt.int_int _ _ _ _, SeqAt.RcNeAt.int_int _ _ _ _⟩
theorem eqBl {K : PySem.W.Frag} : EqTy K 0 isBl where
  fn := fun _ _ h1 h2 => by cases h1; cases h2; rfl
  eq := fun A _ _ _ r1 r2 h1 h2 => by
    cases h1; cases h2
    cases r1; cases r2
    rw [← dec_beq]
    exact SeqAt.EqAt.bool_bool _ _
  rc := fun A _ _ _ r1 r2 h1 h2 => by
    cases h1; cases h2
    cases r1; cases r2
    rw [← dec_beq]
    exact ⟨SeqAt.RcAt.bool_bool _ _, SeqAt.RcNeAt.bool_bool _ _⟩
theorem Paired.at' {α β : Type} {F : α → β → Prop} : ∀ {l₁ : List α} {l₂ : List β} {i : Nat} {a : α} {b : β}, Paired F l₁ l₂ → l₁[i]? = some a → l₂[i]? = some b → F a b
  | _, _, _, _, _, .nil, e, _ => by simp at e
  | _, _, 0, _, _, .cons h _, e1, e2 => by simp at e1 e2; subst e1; subst e2; exact h
  | _, _, i + 1, _, _, .cons _ t, e1, e2 => Paired.at' (i := i) t (by simpa using e1) (by simpa using e2)
theorem paired_fn {α β : Type} {F : α → β → Prop} (hf : ∀ a b c, F a b → F a c → b = c) : ∀ {xs : List α} {as bs : List β}, Paired F xs as → Paired F xs bs → as = bs
  | _, _, _, .nil, .nil => rfl
  | _, _, _, .cons h t, .cons h' t' => by rw [hf _ _ _ h h', paired_fn hf t t']
theorem all_dec {α : Type} [DecidableEq α] : ∀ (as bs : List α) (hl : as.length = bs.length), ((List.range as.length).all fun j => decide (as[j]? = bs[j]?)) = decide (as = bs) := by
  intro as bs hl
  apply Bool.eq_iff_iff.mpr
  rw [decide_eq_true_iff, List.all_eq_true]
  constructor
  · intro h
    apply List.ext_getElem?
    intro i
    by_cases hi : i < as.length
    · exact of_decide_eq_true (h i (List.mem_range.mpr hi))
    · rw [List.getElem?_eq_none (by omega), List.getElem?_eq_none (by omega)]
  · rintro rfl i _
    simp
def isLst (K : PySem.W.Frag) {α : Type} (R : Hp → V → α → Prop) : Hp → V → List α → Prop := fun H x as => ∃ l xs, x = .ref l ∧ SqL K H l xs ∧ Paired (R H) xs as
theorem items_eqAt {K : PySem.W.Frag} {k : Nat} {α : Type} [DecidableEq α] {R : Hp → V → α → Prop} (E : EqTy K k R) {X : Cx} {pins : List (Addr × Obj)} {σ : St} {H : Hp} {s : Shared} {A : Around} (hK : X.K = K) (I : Inv X pins σ H s) (hu : A.units + (k + 1) < cLine)
    {xs ys : List V} {us vs : List Value} {as bs : List α} (rx : Vals xs us) (ry : Vals ys vs) (px : Paired (R H) xs as) (py : Paired (R H) ys bs) :
    ∀ j (h1 : j < us.toArray.size) (h2 : j < vs.toArray.size), SeqAt.EqAt A.in1 s us.toArray[j] vs.toArray[j] (decide (as[j]? = bs[j]?)) := by
  intro j h1 h2
  have h1' : j < us.length := by simpa using h1
  have h2' : j < vs.length := by simpa using h2
  have lx := rx.length
  have ly := ry.length
  have lpx := Paired.length px
  have lpy := Paired.length py
  have ex : xs[j]? = some xs[j] := List.getElem?_eq_getElem (by omega)
  have ey : ys[j]? = some ys[j] := List.getElem?_eq_getElem (by omega)
  have ea : as[j]? = some as[j] := List.getElem?_eq_getElem (by omega)
  have eb : bs[j]? = some bs[j] := List.getElem?_eq_getElem (by omega)
  obtain ⟨u, hu', ru⟩ := rx.get ex
  obtain ⟨v, hv', rv⟩ := ry.get ey
  have e1 : us.toArray[j] = u := by
    rw [List.getElem?_eq_getElem h1'] at hu'
    simpa using hu'
  have e2 : vs.toArray[j] = v := by
    rw [List.getElem?_eq_getElem h2'] at hv'
    simpa using hv'
  rw [e1, e2, ea, eb]
  have := E.eq A.in1 hK I (show A.units + 1 + k < cLine by omega) ru rv (Paired.at' px ex ea) (Paired.at' py ey eb)
  have e3 : decide (some as[j] = some bs[j]) = decide (as[j] = bs[j]) := by simp
  rw [e3]
  exact this
theorem eqLst {K : PySem.W.Frag} {k : Nat} {α : Type} [DecidableEq α] {R : Hp → V → α → Prop} (E : EqTy K k R) : EqTy K (k + 1) (isLst K R) := by
  have fn : ∀ {X : Cx} {pins : List (Addr × Obj)} {σ : St} {H : Hp} {s : Shared} {x : V} {a b : List α}, X.K = K → Inv X pins σ H s → isLst K R H x a → isLst K R H x b → a = b := by
    intro X pins σ H s x a b hK I ha hb
    obtain ⟨l, xs, rfl, h1, p1⟩ := ha
    obtain ⟨l', ys, e, h2, p2⟩ := hb
    cases e
    subst hK
    have := I.list_inj h1 h2
    subst this
    exact paired_fn (F := R H) (fun _ _ _ p q => E.fn rfl I p q) p1 p2
  have rc : ∀ {X : Cx} {pins : List (Addr × Obj)} {σ : St} {H : Hp} {s : Shared} {x y : V} {u v : Value} {a b : List α} (A : Around), X.K = K → Inv X pins σ H s → A.units + (k + 1) < cLine → RelV x u → RelV y v → isLst K R H x a → isLst K R H y b →
      SeqAt.RcAt A s u v (decide (a = b)) ∧ SeqAt.RcNeAt A s u v (!decide (a = b)) := by
    intro X pins σ H s x y u v a b A hK I hu r1 r2 ha hb
    obtain ⟨l, xs, rfl, h1, p1⟩ := ha
    obtain ⟨l', ys, rfl, h2, p2⟩ := hb
    cases r1; cases r2
    subst hK
    obtain ⟨us, rx, plx, _⟩ := I.list h1
    obtain ⟨vs, ry, ply, _⟩ := I.list h2
    have lx := rx.length
    have ly := ry.length
    have lpx := Paired.length p1
    have lpy := Paired.length p2
    by_cases hl : a.length = b.length
    · have hsz : us.toArray.size = vs.toArray.size := by simp; omega
      have it := items_eqAt E rfl I hu rx ry p1 p2
      have ed : ((List.range us.toArray.size).all fun j => decide (a[j]? = b[j]?)) = decide (a = b) := by
        rw [← all_dec a b hl, List.size_toArray, ← lx, lpx]
      rw [← ed]
      exact ⟨SeqAt.RcAt.lists plx.isList ply.isList hsz (by omega) it, SeqAt.RcNeAt.lists plx.isList ply.isList hsz (by omega) it⟩
    · have hsz : (us.toArray.size != vs.toArray.size) = true := by simp; omega
      have ne : a ≠ b := fun e => hl (by rw [e])
      rw [decide_eq_false ne]
      exact ⟨SeqAt.RcAt.lists_lengths plx.isList ply.isList hsz (by omega), SeqAt.RcNeAt.lists_lengths plx.isList ply.isList hsz (by omega)⟩
  refine ⟨fn, ?_, rc⟩
  intro X pins σ H s x y u v a b A hK I hu r1 r2 ha hb
  have h := (rc A hK I hu r1 r2 ha hb).1
  obtain ⟨l, xs, rfl, h1, p1⟩ := id ha
  obtain ⟨l', ys, rfl, h2, p2⟩ := id hb
  cases r1; cases r2
  by_cases e : l = l'
  · subst e
    have : a = b := fn hK I ha hb
    rw [decide_eq_true this]
    exact SeqAt.EqAt.same _
  · exact SeqAt.EqAt.of_refs e h
def isPair (K : PySem.W.Frag) {α β : Type} (R : Hp → V → α → Prop) (S : Hp → V → β → Prop) : Hp → V → α × β → Prop := fun H x p => ∃ t a b, x = .ref t ∧ SqT K H t [a, b] ∧ R H a p.1 ∧ S H b p.2
theorem eqPair {K : PySem.W.Frag} {k : Nat} {α β : Type} [DecidableEq α] [DecidableEq β] {R : Hp → V → α → Prop} {S : Hp → V → β → Prop} (E : EqTy K k R) (G : EqTy K k S) : EqTy K (k + 1) (isPair K R S) := by
  have fn : ∀ {X : Cx} {pins : List (Addr × Obj)} {σ : St} {H : Hp} {s : Shared} {x : V} {a b : α × β}, X.K = K → Inv X pins σ H s → isPair K R S H x a → isPair K R S H x b → a = b := by
    intro X pins σ H s x a b hK I ha hb
    obtain ⟨l, x1, x2, rfl, h1, p1, p2⟩ := ha
    obtain ⟨l', y1, y2, e, h2, q1, q2⟩ := hb
    cases e
    subst hK
    have := I.tuple_inj h1 h2
    cases this
    exact Prod.ext (E.fn rfl I p1 q1) (G.fn rfl I p2 q2)
  have rc : ∀ {X : Cx} {pins : List (Addr × Obj)} {σ : St} {H : Hp} {s : Shared} {x y : V} {u v : Value} {a b : α × β} (A : Around), X.K = K → Inv X pins σ H s → A.units + (k + 1) < cLine → RelV x u → RelV y v → isPair K R S H x a → isPair K R S H y b →
      SeqAt.RcAt A s u v (decide (a = b)) ∧ SeqAt.RcNeAt A s u v (!decide (a = b)) := by
    intro X pins σ H s x y u v a b A hK I hu r1 r2 ha hb
    obtain ⟨l, x1, x2, rfl, h1, p1, p2⟩ := ha
    obtain ⟨l', y1, y2, rfl, h2, q1, q2⟩ := hb
    cases r1; cases r2
    subst hK
    obtain ⟨us, rx, plx, _⟩ := I.tuple h1
    obtain ⟨vs, ry, ply, _⟩ := I.tuple h2
    obtain ⟨u1, u2, rfl, ru1, ru2⟩ := vals2 rx
    obtain ⟨v1, v2, rfl, rv1, rv2⟩ := vals2 ry
    have e1 := E.eq A.in1 rfl I (show A.units + 1 + k < cLine by omega) ru1 rv1 p1 q1
    have e2 := G.eq A.in1 rfl I (show A.units + 1 + k < cLine by omega) ru2 rv2 p2 q2
    have it : ∀ j (h1 : j < [u1, u2].toArray.size) (h2 : j < [v1, v2].toArray.size), SeqAt.EqAt A.in1 s [u1, u2].toArray[j] [v1, v2].toArray[j] ((fun j => if j = 0 then decide (a.1 = b.1) else decide (a.2 = b.2)) j) := by
      intro j h1 h2
      match j, h1 with
      | 0, _ => exact e1
      | 1, _ => exact e2
      | j + 2, h => exact absurd h (by simp)
    have ed : ((List.range (min [u1, u2].toArray.size [v1, v2].toArray.size)).all (fun j => if j = 0 then decide (a.1 = b.1) else decide (a.2 = b.2)) && [u1, u2].toArray.size == [v1, v2].toArray.size) = decide (a = b) := by
      apply Bool.eq_iff_iff.mpr
      rw [decide_eq_true_iff]
      constructor
      · intro h
        have h : (decide (a.1 = b.1) && (decide (a.2 = b.2) && true) && true) = true := h
        simp only [Bool.and_true, Bool.and_eq_true, decide_eq_true_iff] at h
        exact Prod.ext h.1 h.2
      · rintro rfl
        show (decide (a.1 = a.1) && (decide (a.2 = a.2) && true) && true) = true
        simp
    rw [← ed]
    exact ⟨SeqAt.RcAt.tuples plx ply (by omega) it, SeqAt.RcNeAt.tuples plx ply (by omega) it⟩
  refine ⟨fn, ?_, rc⟩
  intro X pins σ H s x y u v a b A hK I hu r1 r2 ha hb
  have h := (rc A hK I hu r1 r2 ha hb).1
  obtain ⟨l, x1, x2, rfl, h1, p1, p2⟩ := id ha
  obtain ⟨l', y1, y2, rfl, h2, q1, q2⟩ := id hb
  cases r1; cases r2
  by_cases e : l = l'
  · subst e
    have : a = b := fn hK I ha hb
    rw [decide_eq_true this]
    exact SeqAt.EqAt.same _
  · exact SeqAt.EqAt.of_refs e h
section
variable {X : Cx}
theorem op_eqD {k j : Nat} {α : Type} [DecidableEq α] {R : Hp → V → α → Prop} (E : EqTy X.K k R) (hr : Room j X.A) (hk : k ≤ 10) : OpR X (compareOp .Eq) (fun x y H Q => ∃ a b, R H x a ∧ R H y b ∧ Q (.bl (decide (a = b))) H) := by
  intro pins s σ H x y v u Q I rx ry h
  obtain ⟨a, b, h1, h2, q⟩ := h
  exact (E.rc X.A rfl I (by have := hr.un; omega) rx ry h1 h2).1 _ _ _ _ ⟨.bl _, H, I, rfl, q⟩
theorem op_neD {k j : Nat} {α : Type} [DecidableEq α] {R : Hp → V → α → Prop} (E : EqTy X.K k R) (hr : Room j X.A) (hk : k ≤ 10) : OpR X (compareOp .NotEq) (fun x y H Q => ∃ a b, R H x a ∧ R H y b ∧ Q (.bl (!decide (a = b))) H) := by
  intro pins s σ H x y v u Q I rx ry h
  obtain ⟨a, b, h1, h2, q⟩ := h
  exact (E.rc X.A rfl I (by have := hr.un; omega) rx ry h1 h2).2 _ _ _ _ ⟨.bl _, H, I, rfl, q⟩
end
end L2
set_option Elab.async false
set_option linter.all false
set_option maxRecDepth 100000
set_option maxHeartbeats 4000000
namespace L2
open PySem PySem.Spec PyProof.Rows
class Rp (α : Type) where
  rel : PySem.W.Frag → Hp → V → α → Prop
  mono : ∀ {K : PySem.W.Frag} {H H' : Hp} {v : V} {a : α}, Same H H' → rel K H v a → rel K H' v a
theorem Same.rd {H H' : Hp} {a : Addr} {u : HO} (s : Same H H') (h : Rd H a u) : Rd H' a u := by
  rcases h with h | ⟨o, h⟩
  · exact .inl (s _ _ h)
  · exact .inr ⟨o, s _ _ h⟩
theorem Same.tup {K : PySem.W.Frag} {H H' : Hp} {a : Addr} {xs : List V} (e : Same H H') (h : SqT K H a xs) : SqT K H' a xs := by
  rcases h with h | h
  · exact .inl (e.rd h)
  · exact .inr h
instance rpInt : Rp Int := ⟨fun _ _ v a => v = .int a, fun _ h => h⟩
instance rpBool : Rp Bool := ⟨fun _ _ v a => v = .bl a, fun _ h => h⟩
instance rpStr : Rp Str := ⟨fun _ _ v a => v = .str a ∧ a.length ≤ sizeLine, fun _ h => h⟩
instance rpUnit : Rp Unit := ⟨fun _ _ v _ => v = .non, fun _ h => h⟩
instance rpList {α : Type} [Rp α] : Rp (List α) :=
  ⟨fun K H v as => ∃ l xs, v = .ref l ∧ Rd H l (.lst xs) ∧ xs.length ≤ sizeLine ∧ Paired (Rp.rel K H) xs as,
   fun s ⟨l, xs, e, h, z, p⟩ => ⟨l, xs, e, s.rd h, z, Paired.imp' (fun _ _ r => Rp.mono s r) p⟩⟩
instance rpPair {α β : Type} [Rp α] [Rp β] : Rp (α × β) :=
  ⟨fun K H v p => ∃ t a b, v = .ref t ∧ SqT K H t [a, b] ∧ Rp.rel K H a p.1 ∧ Rp.rel K H b p.2,
   fun s ⟨t, a, b, e, h, r1, r2⟩ => ⟨t, a, b, e, s.tup h, Rp.mono s r1, Rp.mono s r2⟩⟩
structure T3 (α β γ : Type) where
  a : α
  b : β
  c : γ
  deriving DecidableEq
structure Tp (α : Type) where
  l : List α
  deriving DecidableEq
instance rpT3 {α β γ : Type} [Rp α] [Rp β] [Rp γ] : Rp (T3 α β γ) :=
  ⟨fun K H v p => ∃ t a b c, v = .ref t ∧ SqT K H t [a, b, c] ∧ Rp.rel K H a p.a ∧ Rp.rel K H b p.b ∧ Rp.rel K H c p.c,
   fun s ⟨t, a, b, c, e, h, r1, r2, r3⟩ => ⟨t, a, b, c, e, s.tup h, Rp.mono s r1, Rp.mono s r2, Rp.mono s r3⟩⟩
instance rpTp {α : Type} [Rp α] : Rp (Tp α) :=
  ⟨fun K H v as => ∃ t xs, v = .ref t ∧ SqT K H t xs ∧ xs.length ≤ sizeLine ∧ Paired (Rp.rel K H) xs as.l,
   fun s ⟨l, xs, e, h, z, p⟩ => ⟨l, xs, e, s.tup h, z, Paired.imp' (fun _ _ r => Rp.mono s r) p⟩⟩
instance rpOpt {α : Type} [Rp α] : Rp (Option α) :=
  ⟨fun K H v o => match o with | none => v = .non | some a => Rp.rel K H v a,
   fun {K H H' v o} s h => by cases o with | none => exact h | some a => exact Rp.mono (α := α) s h⟩
class RpA (α : Type) where
  n : Nat
  rel : PySem.W.Frag → Hp → List V → α → Prop
  mono : ∀ {K : PySem.W.Frag} {H H' : Hp} {v : List V} {a : α}, Same H H' → rel K H v a → rel K H' v a
  len : ∀ {K : PySem.W.Frag} {H : Hp} {v : List V} {a : α}, rel K H v a → v.length = n
instance raNil : RpA Unit := ⟨0, fun _ _ vs _ => vs = [], fun _ h => h, fun h => by rw [h]; rfl⟩
instance raCons {α β : Type} [Rp α] [RpA β] : RpA (α × β) :=
  ⟨RpA.n β + 1, fun K H vs p => ∃ v r, vs = v :: r ∧ Rp.rel K H v p.1 ∧ RpA.rel K H r p.2,
   fun s ⟨v, r, e, h1, h2⟩ => ⟨v, r, e, Rp.mono s h1, RpA.mono s h2⟩, fun ⟨v, r, e, h1, h2⟩ => by rw [e, List.length_cons, RpA.len h2]⟩
structure Ext (G H G' H' : Hp) : Prop where
  gg : Same G G'
  gh : Same G' H'
  hh : Same H H'
  no : ∀ b, G b = none → H b ≠ none → G' b = none
section
variable {G H G1 H1 G2 H2 G0 H0 : Hp} {p : Addr} {o : HO}
theorem Ext.refl (s : Same G H) : Ext G H G H := ⟨.refl _, s, .refl _, fun _ h _ => h⟩
theorem Ext.trans (x : Ext G H G1 H1) (y : Ext G1 H1 G2 H2) : Ext G H G2 H2 :=
  ⟨x.gg.trans y.gg, y.gh, x.hh.trans y.hh, fun b h1 h2 => y.no b (x.no b h1 h2) fun z => h2 (x.hh.free z)⟩
theorem Same.both (s : Same G H) : Same (upd G p o) (upd H p o) := fun b u e => by
  by_cases hb : b = p
  · subst hb
    rw [upd_same] at e ⊢
    exact e
  · rw [upd_ne hb] at e ⊢
    exact s b u e
theorem Ext.new (s : Same G H) (h : H p = none) : Ext G H (upd G p o) (upd H p o) :=
  ⟨Same.new (s.free h), s.both, Same.new h, fun b h1 h2 => by
    have hb : b ≠ p := fun z => h2 (by rw [z]; exact h)
    rw [upd_ne hb]
    exact h1⟩
theorem Ext.own (s : Same G H) (h : H p = none) : Ext G H G (upd H p o) := ⟨.refl _, s.trans (Same.new h), Same.new h, fun _ h _ => h⟩
theorem Ext.put (x : Ext G0 H0 G H) (h0 : H0 p = none) (hg : G p = none) : Ext G0 H0 G (upd H p o) := ⟨x.gg, x.gh.put hg, x.hh.put h0, x.no⟩
theorem Ext.frz (x : Ext G0 H0 G H) (h0 : H0 p = none) (hg : G p = none) (hh : H p = some o) : Ext G0 H0 (upd G p o) H :=
  ⟨x.gg.trans (Same.new hg), fun b u e => by
    by_cases hb : b = p
    · subst hb
      rw [upd_same] at e
      rw [hh]
      exact e
    · rw [upd_ne hb] at e
      exact x.gh b u e, x.hh, fun b h1 h2 => by
    have hb : b ≠ p := fun z => h2 (by rw [z]; exact h0)
    rw [upd_ne hb]
    exact x.no b h1 h2⟩
end
section
variable {K : PySem.W.Frag} {σ : St} {G : Hp}
def EV (K : PySem.W.Frag) {α : Type} [Rp α] (te : TE) (σ : St) (G : Hp) (m : Option α) : Prop :=
  ∀ G1, Same G G1 → ∀ a, m = some a → ∀ H, Same G1 H → ∀ Q : VK, (∀ v G2 H2, Ext G1 H G2 H2 → Rp.rel K G2 v a → Q v H2) → te σ H Q
def TV (t : TT) (σ : St) (G : Hp) (m : Option Bool) : Prop :=
  ∀ G1, Same G G1 → ∀ a, m = some a → ∀ H, Same G1 H → ∀ Q : Bool → Hp → Prop, (∀ G2 H2, Ext G1 H G2 H2 → Q a H2) → t σ H Q
def AV (K : PySem.W.Frag) {α : Type} [RpA α] (t : TA) (σ : St) (G : Hp) (m : Option α) : Prop :=
  ∀ G1, Same G G1 → ∀ a, m = some a → ∀ H, Same G1 H → ∀ Q : List V → Hp → Prop, (∀ vs G2 H2, Ext G1 H G2 H2 → RpA.rel K G2 vs a → Q vs H2) → t σ H Q
def LV (K : PySem.W.Frag) {α : Type} [Rp α] (t : TA) (σ : St) (G : Hp) (n : Nat) (m : Option (List α)) : Prop :=
  ∀ G1, Same G G1 → ∀ a, m = some a → ∀ H, Same G1 H → ∀ Q : List V → Hp → Prop, (∀ vs G2 H2, Ext G1 H G2 H2 → vs.length = n → Paired (Rp.rel K G2) vs a → Q vs H2) → t σ H Q
def OV (t : TO) (σ : St) (G : Hp) (m : Option (Option Int)) : Prop :=
  ∀ G1, Same G G1 → ∀ a, m = some a → ∀ H, Same G1 H → ∀ Q : Option Int → Hp → Prop, (∀ G2 H2, Ext G1 H G2 H2 → Q a H2) → t σ H Q
def FV (K : PySem.W.Frag) {α : Type} [Rp α] (te : TE) (σ : St) (G : Hp) (m : Option (List α)) : Prop :=
  ∀ G1, Same G G1 → ∀ a, m = some a → ∀ H, Same G1 H → ∀ Q : VK, (∀ p vs G2 H2, Ext G1 H G2 H2 → H p = none → G2 p = none → H2 p = some (.lst vs) → vs.length ≤ sizeLine → Paired (Rp.rel K G2) vs a → Q (.ref p) H2) → te σ H Q
section
variable {α β γ δ : Type} [Rp α] [Rp β] [Rp γ] [Rp δ] {ta tb tc td : TE} {ma : Option α} {mb : Option β} {mc : Option γ}
theorem EV.run {te : TE} {H : Hp} {a : α} {Q : VK} {m : Option α} (e : EV K te σ G m) (hm : m = some a) (s : Same G H) (k : ∀ v G2 H2, Ext G H G2 H2 → Rp.rel K G2 v a → Q v H2) : te σ H Q := e G (.refl G) a hm H s Q k
theorem TV.run {t : TT} {H : Hp} {a : Bool} {Q : Bool → Hp → Prop} {m : Option Bool} (e : TV t σ G m) (hm : m = some a) (s : Same G H) (k : ∀ G2 H2, Ext G H G2 H2 → Q a H2) : t σ H Q := e G (.refl G) a hm H s Q k
theorem EV.of {te : TE} {m m' : Option α} (e : EV K te σ G m) (h : m = m') : EV K te σ G m' := h ▸ e
theorem FV.ev {te : TE} {m : Option (List α)} (e : FV K te σ G m) : EV K te σ G m := by
  intro G1 s1 a ha H sH Q k
  refine e G1 s1 a ha H sH Q fun p vs G2 H2 x h0 hg hh hz hp => ?_
  exact k _ _ _ (x.frz h0 hg hh) ⟨p, vs, rfl, .inl upd_same, hz, Paired.imp' (fun _ _ r => Rp.mono (Same.new hg) r) hp⟩
theorem ev_var {i : Nat} {v : V} {a : α} (h : σ[i]? = some (some v)) (r : Rp.rel K G v a) : EV K (tVar i) σ G (some a) := fun G1 s a' e H sH Q k => by
  cases e
  exact ⟨v, h, k v G1 H (.refl sH) (Rp.mono s r)⟩
theorem ev_c {v : V} {a : α} (h : ∀ G, Rp.rel K G v a) : EV K (tC v) σ G (some a) := fun G1 s a' e H sH Q k => by
  cases e
  exact k v G1 H (.refl sH) (h _)
theorem ev_i {i : Int} : EV K (tC (.int i)) σ G (some i) := ev_c fun _ => rfl
theorem ev_b {b : Bool} : EV K (tC (.bl b)) σ G (some b) := ev_c fun _ => rfl
theorem ev_s {x : Str} (h : x.length ≤ sizeLine := by decide +kernel) : EV K (tC (.str x)) σ G (some x) := ev_c fun _ => ⟨rfl, h⟩
theorem ev_bin {r : R2} {f : α → β → Option γ}
    (h : ∀ {G H : Hp} {v u : V} {a : α} {b : β} {c : γ}, Same G H → Rp.rel K G v a → Rp.rel K G u b → f a b = some c → ∀ {Q : VK}, (∀ w G2 H2, Ext G H G2 H2 → Rp.rel K G2 w c → Q w H2) → r v u H Q)
    (ea : EV K ta σ G ma) (eb : EV K tb σ G mb) : EV K (tOp r ta tb) σ G (ma.bind fun a => mb.bind fun b => f a b) := by
  intro G1 s1 c hc H sH Q k
  obtain ⟨a, ha, hc⟩ := Option.bind_eq_some_iff.mp hc
  obtain ⟨b, hb, hc⟩ := Option.bind_eq_some_iff.mp hc
  refine ea G1 s1 a ha H sH _ fun v G2 H2 x2 r2 => ?_
  refine eb G2 (s1.trans x2.gg) b hb H2 x2.gh _ fun u G3 H3 x3 r3 => ?_
  exact h x3.gh (Rp.mono x3.gg r2) r3 hc fun w G4 H4 x4 r4 => k w G4 H4 ((x2.trans x3).trans x4) r4
theorem ev_un {r : V → Hp → VK → Prop} {f : α → Option γ}
    (h : ∀ {G H : Hp} {v : V} {a : α} {c : γ}, Same G H → Rp.rel K G v a → f a = some c → ∀ {Q : VK}, (∀ w G2 H2, Ext G H G2 H2 → Rp.rel K G2 w c → Q w H2) → r v H Q)
    (ea : EV K ta σ G ma) : EV K (tUn r ta) σ G (ma.bind fun a => f a) := by
  intro G1 s1 c hc H sH Q k
  obtain ⟨a, ha, hc⟩ := Option.bind_eq_some_iff.mp hc
  refine ea G1 s1 a ha H sH _ fun v G2 H2 x2 r2 => ?_
  exact h x2.gh r2 hc fun w G4 H4 x4 r4 => k w G4 H4 (x2.trans x4) r4
instance decMul (i j : Int) : Decidable (CMul i j) := by unfold CMul; infer_instance
instance decDiv (i j : Int) : Decidable (CDiv i j) := by unfold CDiv; infer_instance
instance decPow (i j : Int) : Decidable (CPow i j) := by unfold CPow; infer_instance
def mulO (a b : Int) : Option Int := if CMul a b then some (a * b) else none
def divO (a b : Int) : Option Int := if CDiv a b then some (a / b) else none
def modO (a b : Int) : Option Int := if 0 < b then some (a % b) else none
def powO (a b : Int) : Option Int := if CPow a b then some (a ^ b.toNat) else none
theorem ite_some {p : Prop} [Decidable p] {α : Type} {a c : α} (h : (if p then some a else none) = some c) : p ∧ a = c := by
  by_cases hp : p
  · rw [if_pos hp] at h
    exact ⟨hp, Option.some.inj h⟩
  · rw [if_neg hp] at h
    cases h
section
variable {ia ib : Option Int}
theorem ev_add (ea : EV K ta σ G ia) (eb : EV K tb σ G ib) : EV K (tOp (rPlus K) ta tb) σ G (ia.bind fun a => ib.bind fun b => some (a + b)) :=
  ev_bin (fun s ra rb e Q k => by cases ra; cases rb; cases e; exact k _ _ _ (.refl s) rfl) ea eb
theorem ev_sub (ea : EV K ta σ G ia) (eb : EV K tb σ G ib) : EV K (tOp (rI0 fun i j => .int (i - j)) ta tb) σ G (ia.bind fun a => ib.bind fun b => some (a - b)) :=
  ev_bin (fun s ra rb e Q k => by cases ra; cases rb; cases e; exact ⟨_, _, rfl, rfl, k _ _ _ (.refl s) rfl⟩) ea eb
theorem ev_mul (ea : EV K ta σ G ia) (eb : EV K tb σ G ib) : EV K (tOp (rMul K) ta tb) σ G (ia.bind fun a => ib.bind fun b => mulO a b) :=
  ev_bin (fun s ra rb e Q k => by cases ra; cases rb; obtain ⟨h, rfl⟩ := ite_some e; exact ⟨h, k _ _ _ (.refl s) rfl⟩) ea eb
theorem ev_mod (ea : EV K ta σ G ia) (eb : EV K tb σ G ib) : EV K (tOp (rI (fun _ j => 0 < j) fun i j => .int (i % j)) ta tb) σ G (ia.bind fun a => ib.bind fun b => modO a b) :=
  ev_bin (fun s ra rb e Q k => by cases ra; cases rb; obtain ⟨h, rfl⟩ := ite_some e; exact ⟨_, _, rfl, rfl, h, k _ _ _ (.refl s) rfl⟩) ea eb
theorem ev_div (ea : EV K ta σ G ia) (eb : EV K tb σ G ib) : EV K (tOp (rI CDiv fun i j => .int (i / j)) ta tb) σ G (ia.bind fun a => ib.bind fun b => divO a b) :=
  ev_bin (fun s ra rb e Q k => by cases ra; cases rb; obtain ⟨h, rfl⟩ := ite_some e; exact ⟨_, _, rfl, rfl, h, k _ _ _ (.refl s) rfl⟩) ea eb
theorem ev_pow (ea : EV K ta σ G ia) (eb : EV K tb σ G ib) : EV K (tOp (rI CPow fun i j => .int (i ^ j.toNat)) ta tb) σ G (ia.bind fun a => ib.bind fun b => powO a b) :=
  ev_bin (fun s ra rb e Q k => by cases ra; cases rb; obtain ⟨h, rfl⟩ := ite_some e; exact ⟨_, _, rfl, rfl, h, k _ _ _ (.refl s) rfl⟩) ea eb
theorem ev_neg (ea : EV K ta σ G ia) : EV K (tUn (rU fun i => .int (-i)) ta) σ G (ia.bind fun a => some (-a)) :=
  ev_un (fun s ra e Q k => by cases ra; cases e; exact ⟨_, rfl, k _ _ _ (.refl s) rfl⟩) ea
theorem ev_ord {p : Int → Int → Bool} {q : List Nat → List Nat → Bool} (ea : EV K ta σ G ia) (eb : EV K tb σ G ib) : EV K (tOp (rOrd p q) ta tb) σ G (ia.bind fun a => ib.bind fun b => some (p a b)) :=
  ev_bin (fun s ra rb e Q k => by cases ra; cases rb; cases e; exact k _ _ _ (.refl s) rfl) ea eb
theorem ev_eqI (ea : EV K ta σ G ia) (eb : EV K tb σ G ib) : EV K (tOp rEq ta tb) σ G (ia.bind fun a => ib.bind fun b => some (decide (a = b))) :=
  ev_bin (fun s ra rb e Q k => by cases ra; cases rb; cases e; exact ⟨rfl, k _ _ _ (.refl s) (by show V.bl _ = V.bl _; congr 1; simp)⟩) ea eb
theorem ev_neI (ea : EV K ta σ G ia) (eb : EV K tb σ G ib) : EV K (tOp rNe ta tb) σ G (ia.bind fun a => ib.bind fun b => some (!decide (a = b))) :=
  ev_bin (fun s ra rb e Q k => by cases ra; cases rb; cases e; exact ⟨rfl, k _ _ _ (.refl s) (by show V.bl _ = V.bl _; congr 1; simp)⟩) ea eb
end
section
variable {ba bb : Option Bool}
theorem ev_and (ea : EV K ta σ G ba) (eb : EV K tb σ G bb) : EV K (tAndV ta tb) σ G (ba.bind fun a => cond a bb (some false)) := by
  intro G1 s1 c hc H sH Q k
  obtain ⟨a, ha, hc⟩ := Option.bind_eq_some_iff.mp hc
  refine ea G1 s1 a ha H sH _ fun v G2 H2 x2 r2 => ?_
  cases r2
  refine ⟨_, rfl, ?_⟩
  cases a with
  | false => cases hc; exact iteF (k _ _ _ x2 rfl)
  | true => exact iteT (eb G2 (s1.trans x2.gg) c hc H2 x2.gh _ fun u G3 H3 x3 r3 => k _ _ _ (x2.trans x3) r3)
theorem tv_test (ea : EV K ta σ G ba) : TV (tTest ta) σ G ba := by
  intro G1 s1 c hc H sH Q k
  refine ea G1 s1 c hc H sH _ fun v G2 H2 x2 r2 => ?_
  cases r2
  exact ⟨_, rfl, k _ _ x2⟩
theorem tv_not {t : TT} (ea : TV t σ G ba) : TV (tNot t) σ G (ba.bind fun a => some (!a)) := by
  intro G1 s1 c hc H sH Q k
  obtain ⟨a, ha, hc⟩ := Option.bind_eq_some_iff.mp hc
  cases hc
  exact ea G1 s1 a ha H sH _ fun G2 H2 x2 => k _ _ x2
theorem tv_and {t u : TT} (ea : TV t σ G ba) (eb : TV u σ G bb) : TV (tAnd t u) σ G (ba.bind fun a => cond a bb (some false)) := by
  intro G1 s1 c hc H sH Q k
  obtain ⟨a, ha, hc⟩ := Option.bind_eq_some_iff.mp hc
  refine ea G1 s1 a ha H sH _ fun G2 H2 x2 => ?_
  cases a with
  | false => cases hc; exact iteF (k _ _ x2)
  | true => exact iteT (eb G2 (s1.trans x2.gg) c hc H2 x2.gh _ fun G3 H3 x3 => k _ _ (x2.trans x3))
theorem tv_or {t u : TT} (ea : TV t σ G ba) (eb : TV u σ G bb) : TV (tOr t u) σ G (ba.bind fun a => cond a (some true) bb) := by
  intro G1 s1 c hc H sH Q k
  obtain ⟨a, ha, hc⟩ := Option.bind_eq_some_iff.mp hc
  refine ea G1 s1 a ha H sH _ fun G2 H2 x2 => ?_
  cases a with
  | true => cases hc; exact iteT (k _ _ x2)
  | false => exact iteF (eb G2 (s1.trans x2.gg) c hc H2 x2.gh _ fun G3 H3 x3 => k _ _ (x2.trans x3))
theorem tv_tru {f : α → Bool} (h : ∀ {G : Hp} {v : V} {a : α}, Rp.rel K G v a → TruV K v G (f a)) (mn : ∀ {G H : Hp} {v : V} {k : Bool}, Same G H → TruV K v G k → TruV K v H k) (ea : EV K ta σ G ma) :
    TV (fun σ H Q => ta σ H fun x H' => ∃ k, TruV K x H' k ∧ Q k H') σ G (ma.bind fun a => some (f a)) := by
  intro G1 s1 c hc H sH Q k
  obtain ⟨a, ha, hc⟩ := Option.bind_eq_some_iff.mp hc
  cases hc
  refine ea G1 s1 a ha H sH _ fun v G2 H2 x2 r2 => ?_
  exact ⟨_, mn x2.gh (h r2), k _ _ x2⟩
end
end
end
end L2
set_option Elab.async false
set_option linter.all false
set_option maxRecDepth 100000
set_option maxHeartbeats 4000000
namespace L2
open PySem PySem.Spec PyProof.Rows
section
variable {K : PySem.W.Frag} {σ : St} {G : Hp} {α β γ δ : Type} [Rp α] [Rp β] [Rp γ] [Rp δ] {ta tb tc td : TE} {ma : Option α} {mb : Option β} {mc : Option γ} {md : Option δ}
section
variable {sa sb : Option Str} {ia ib : Option Int}
theorem ev_eqS (ea : EV K ta σ G sa) (eb : EV K tb σ G sb) : EV K (tOp rEq ta tb) σ G (sa.bind fun a => sb.bind fun b => some (decide (a = b))) :=
  ev_bin (fun s ra rb e Q k => by obtain ⟨rfl, z1⟩ := ra; obtain ⟨rfl, z2⟩ := rb; cases e; exact ⟨rfl, k _ _ _ (.refl s) (by show V.bl _ = V.bl _; congr 1; simp)⟩) ea eb
theorem ev_atS (ea : EV K ta σ G sa) (eb : EV K tb σ G ib) : EV K (tOp (rAt K) ta tb) σ G (sa.bind fun a => ib.bind fun i => (atI a.cps.toList i).bind fun c => some (⟨#[c]⟩ : Str)) :=
  ev_bin (fun s ra rb e Q k => by
    obtain ⟨rfl, z1⟩ := ra; cases rb
    obtain ⟨c, hc, e⟩ := Option.bind_eq_some_iff.mp e
    cases e
    exact ⟨z1, c, hc, k _ _ _ (.refl s) ⟨rfl, by show 1 ≤ sizeLine; decide⟩⟩) ea eb
end
theorem paired_atI {R : V → α → Prop} {xs : List V} {as : List α} {i : Int} {a : α} (p : Paired R xs as) (h : atI as i = some a) : ∃ v, atI xs i = some v ∧ R v a := by
  have hl := Paired.length p
  unfold atI at h ⊢
  obtain ⟨j, hj, h⟩ := Option.bind_eq_some_iff.mp h
  rw [hl, hj]
  have hlt : j < xs.length := by
    have := (List.getElem?_eq_some_iff.mp h).1
    omega
  exact ⟨xs[j], List.getElem?_eq_getElem hlt, Paired.at' p (List.getElem?_eq_getElem hlt) h⟩
theorem Paired.app {α β : Type} {F : α → β → Prop} : ∀ {l1 l2 : List α} {m1 m2 : List β}, Paired F l1 m1 → Paired F l2 m2 → Paired F (l1 ++ l2) (m1 ++ m2)
  | _, _, _, _, .nil, h => h
  | _, _, _, _, .cons r t, h => .cons r (Paired.app t h)
theorem Paired.tk {α β : Type} {F : α → β → Prop} : ∀ (n : Nat) {l : List α} {m : List β}, Paired F l m → Paired F (l.take n) (m.take n)
  | 0, _, _, _ => by simpa using .nil
  | n + 1, _, _, .nil => by simpa using .nil
  | n + 1, _, _, .cons r t => .cons r (Paired.tk n t)
theorem Paired.dp {α β : Type} {F : α → β → Prop} : ∀ (n : Nat) {l : List α} {m : List β}, Paired F l m → Paired F (l.drop n) (m.drop n)
  | 0, _, _, h => h
  | n + 1, _, _, .nil => by simpa using .nil
  | n + 1, _, _, .cons r t => Paired.dp n t
theorem Paired.rep {α β : Type} {F : α → β → Prop} {l : List α} {m : List β} (h : Paired F l m) : ∀ n : Nat, Paired F (List.replicate n l).flatten (List.replicate n m).flatten
  | 0 => .nil
  | n + 1 => by
    rw [List.replicate_succ, List.replicate_succ, List.flatten_cons, List.flatten_cons]
    exact Paired.app h (Paired.rep h n)
section
variable {la lb : Option (List α)} {ia ib : Option Int}
theorem ev_at (ea : EV K ta σ G la) (eb : EV K tb σ G ib) : EV K (tOp (rAt K) ta tb) σ G (la.bind fun a => ib.bind fun i => atI a i) :=
  ev_bin (fun s ra rb e Q k => by
    obtain ⟨l, xs, rfl, h, z, p⟩ := ra; cases rb
    obtain ⟨v, hv, r⟩ := paired_atI p e
    exact .inl ⟨xs, v, .inl (s.rd h), hv, k _ _ _ (.refl s) r⟩) ea eb
theorem ev_atT {pa : Option (Tp α)} (ea : EV K ta σ G pa) (eb : EV K tb σ G ib) : EV K (tOp (rAt K) ta tb) σ G (pa.bind fun a => ib.bind fun i => atI a.l i) :=
  ev_bin (fun s ra rb e Q k => by
    obtain ⟨l, xs, rfl, h, z, p⟩ := ra; cases rb
    obtain ⟨v, hv, r⟩ := paired_atI p e
    exact .inr ⟨xs, v, s.tup h, hv, k _ _ _ (.refl s) r⟩) ea eb
theorem ev_part {τ : Type} [Rp τ] {mt : Option τ} {i : Int} {f : τ → α} (h : ∀ {G : Hp} {v : V} {p : τ}, Rp.rel K G v p → ∃ t xs w, v = .ref t ∧ SqT K G t xs ∧ atI xs i = some w ∧ Rp.rel K G w (f p)) (ea : EV K ta σ G mt) :
    EV K (tOp (rAt K) ta (tC (.int i))) σ G (mt.bind fun p => some (f p)) := by
  intro G1 s1 c hc H sH Q k
  obtain ⟨a, ha, hc⟩ := Option.bind_eq_some_iff.mp hc
  cases hc
  refine ea G1 s1 a ha H sH _ fun v G2 H2 x2 r2 => ?_
  obtain ⟨t, xs, w, rfl, ht, hw, r⟩ := h r2
  exact .inr ⟨xs, w, x2.gh.tup ht, hw, k _ _ _ x2 r⟩
theorem ev_fst {mt : Option (α × β)} (ea : EV K ta σ G mt) : EV K (tOp (rAt K) ta (tC (.int 0))) σ G (mt.bind fun p => some p.1) :=
  ev_part (τ := α × β) (fun ⟨t, a, b, e, h, r1, r2⟩ => ⟨t, _, a, e, h, rfl, r1⟩) ea
theorem ev_snd {mt : Option (α × β)} (ea : EV K ta σ G mt) : EV K (tOp (rAt K) ta (tC (.int 1))) σ G (mt.bind fun p => some p.2) :=
  ev_part (τ := α × β) (fun ⟨t, a, b, e, h, r1, r2⟩ => ⟨t, _, b, e, h, rfl, r2⟩) ea
theorem fv_of {H : Hp} {Q : VK} {as : List α} {G1 : Hp} (s : Same G1 H) {vs : List V} (hz : vs.length ≤ sizeLine) (hp : Paired (Rp.rel K G1) vs as)
    (k : ∀ p vs G2 H2, Ext G1 H G2 H2 → H p = none → G2 p = none → H2 p = some (.lst vs) → vs.length ≤ sizeLine → Paired (Rp.rel K G2) vs as → Q (.ref p) H2) : ∀ p, H p = none → Q (.ref p) (upd H p (.lst vs)) :=
  fun p h => k p vs G1 _ (.own s h) h (s.free h) upd_same hz hp
theorem FV.mono {H H' G1 G2 : Hp} {as : List α} {Q : VK} (x : Ext G1 H G2 H')
    (k : ∀ p vs G3 H3, Ext G1 H G3 H3 → H p = none → G3 p = none → H3 p = some (.lst vs) → vs.length ≤ sizeLine → Paired (Rp.rel K G3) vs as → Q (.ref p) H3) :
    ∀ p vs G3 H3, Ext G2 H' G3 H3 → H' p = none → G3 p = none → H3 p = some (.lst vs) → vs.length ≤ sizeLine → Paired (Rp.rel K G3) vs as → Q (.ref p) H3 :=
  fun p vs G3 H3 y h0 => k p vs G3 H3 (x.trans y) (x.hh.free h0)
def catL {α : Type} (a b : List α) : Option (List α) := if a.length + b.length ≤ sizeLine then some (a ++ b) else none
theorem fv_cat (ea : EV K ta σ G la) (eb : EV K tb σ G lb) : FV K (tOp (rPlus K) ta tb) σ G (la.bind fun a => lb.bind fun b => catL a b) := by
  intro G1 s1 c hc H sH Q k
  obtain ⟨a, ha, hc⟩ := Option.bind_eq_some_iff.mp hc
  obtain ⟨b, hb, hc⟩ := Option.bind_eq_some_iff.mp hc
  obtain ⟨hl, rfl⟩ := ite_some hc
  refine ea G1 s1 a ha H sH _ fun v G2 H2 x2 r2 => ?_
  refine eb G2 (s1.trans x2.gg) b hb H2 x2.gh _ fun u G3 H3 x3 r3 => ?_
  obtain ⟨l1, xs, rfl, h1, z1, p1⟩ := Rp.mono x3.gg r2
  obtain ⟨l2, ys, rfl, h2, z2, p2⟩ := r3
  have e1 := Paired.length p1
  have e2 := Paired.length p2
  have hz : (xs ++ ys).length ≤ sizeLine := by rw [List.length_append]; omega
  exact ⟨xs, ys, x3.gh.rd h1, x3.gh.rd h2, by rw [List.length_append] at hz; exact hz, fv_of x3.gh hz (Paired.app p1 p2) (FV.mono (x2.trans x3) k)⟩
def cutA {α : Type} (xs : List α) (lo hi : Option Int) : List α := (xs.drop (HT.sIx xs.length 0 lo)).take (HT.sIx xs.length xs.length hi - HT.sIx xs.length 0 lo)
theorem Paired.cut {α : Type} {R : V → α → Prop} {xs : List V} {as : List α} (p : Paired R xs as) (lo hi : Option Int) : Paired R (cutV xs lo hi) (cutA as lo hi) := by
  unfold cutV cutA
  rw [Paired.length p]
  exact Paired.tk _ (Paired.dp _ p)
section
variable {t1 t2 : TO} {m1 m2 : Option (Option Int)}
theorem ov_none : OV tNoPart σ G (some none) := fun G1 s1 a ha H sH Q k => by
  cases ha
  exact k _ _ (.refl sH)
theorem ov_some (ea : EV K ta σ G ia) : OV (tPart ta) σ G (ia.bind fun i => some (some i)) := by
  intro G1 s1 c hc H sH Q k
  obtain ⟨a, ha, hc⟩ := Option.bind_eq_some_iff.mp hc
  cases hc
  refine ea G1 s1 a ha H sH _ fun v G2 H2 x2 r2 => ?_
  cases r2
  exact ⟨_, rfl, k _ _ x2⟩
theorem fv_slice (ea : EV K ta σ G la) (e1 : OV t1 σ G m1) (e2 : OV t2 σ G m2) : FV K (tSl (rSl K) ta t1 t2) σ G (la.bind fun a => m1.bind fun lo => m2.bind fun hi => some (cutA a lo hi)) := by
  intro G1 s1 c hc H sH Q k
  obtain ⟨a, ha, hc⟩ := Option.bind_eq_some_iff.mp hc
  obtain ⟨lo, hlo, hc⟩ := Option.bind_eq_some_iff.mp hc
  obtain ⟨hi, hhi, hc⟩ := Option.bind_eq_some_iff.mp hc
  cases hc
  refine ea G1 s1 a ha H sH _ fun v G2 H2 x2 r2 => ?_
  refine e1 G2 (s1.trans x2.gg) lo hlo H2 x2.gh _ fun G3 H3 x3 => ?_
  refine e2 G3 (s1.trans (x2.trans x3).gg) hi hhi H3 x3.gh _ fun G4 H4 x4 => ?_
  obtain ⟨l, xs, rfl, h, z, p⟩ := Rp.mono (x3.trans x4).gg r2
  exact ⟨xs, .inl (x4.gh.rd h), fv_of x4.gh (Nat.le_trans (cutV_length _ _ _) z) (Paired.cut p lo hi) (FV.mono ((x2.trans x3).trans x4) k)⟩
end
end
section
variable {t : TA} {n : Nat} {ml : Option (List α)}
theorem lv_nil : LV K tNil σ G 0 (some ([] : List α)) := fun G1 s1 a ha H sH Q k => by
  cases ha
  exact k _ _ _ (.refl sH) rfl .nil
theorem lv_cons (ea : EV K ta σ G ma) (er : LV K t σ G n ml) : LV K (tCons ta t) σ G (n + 1) (ma.bind fun a => ml.bind fun r => some (a :: r)) := by
  intro G1 s1 c hc H sH Q k
  obtain ⟨a, ha, hc⟩ := Option.bind_eq_some_iff.mp hc
  obtain ⟨r, hr, hc⟩ := Option.bind_eq_some_iff.mp hc
  cases hc
  refine ea G1 s1 a ha H sH _ fun v G2 H2 x2 r2 => ?_
  refine er G2 (s1.trans x2.gg) r hr H2 x2.gh _ fun vs G3 H3 x3 hl hp => ?_
  exact k _ _ _ (x2.trans x3) (by rw [List.length_cons, hl]) (.cons (Rp.mono x3.gg r2) hp)
theorem fv_lst (e : LV K t σ G n ml) (hn : n ≤ sizeLine := by decide) : FV K (tLst t) σ G ml := by
  intro G1 s1 c hc H sH Q k
  refine e G1 s1 c hc H sH _ fun vs G2 H2 x2 hl hp => ?_
  exact ⟨by omega, fv_of x2.gh (by omega) hp (FV.mono x2 k)⟩
theorem ev_tupL (e : LV K t σ G n ml) (hn : n ≤ sizeLine := by decide) : EV K (tTup t) σ G (ml.bind fun l => some (Tp.mk l)) := by
  intro G1 s1 c hc H sH Q k
  obtain ⟨l, hl, hc⟩ := Option.bind_eq_some_iff.mp hc
  cases hc
  refine e G1 s1 l hl H sH _ fun vs G2 H2 x2 hl hp => ⟨by omega, fun p h => ?_⟩
  exact k _ _ _ (x2.trans (.new x2.gh h)) ⟨p, vs, rfl, SqT.of upd_same, by omega, Paired.imp' (fun _ _ r => Rp.mono (Same.new (x2.gh.free h)) r) hp⟩
theorem ev_tup2 (ea : EV K ta σ G ma) (eb : EV K tb σ G mb) : EV K (tTup (tCons ta (tCons tb tNil))) σ G (ma.bind fun a => mb.bind fun b => some (a, b)) := by
  intro G1 s1 c hc H sH Q k
  obtain ⟨a, ha, hc⟩ := Option.bind_eq_some_iff.mp hc
  obtain ⟨b, hb, hc⟩ := Option.bind_eq_some_iff.mp hc
  cases hc
  refine ea G1 s1 a ha H sH _ fun v G2 H2 x2 r2 => ?_
  refine eb G2 (s1.trans x2.gg) b hb H2 x2.gh _ fun u G3 H3 x3 r3 => ⟨by show 2 ≤ sizeLine; decide, fun p h => ?_⟩
  have s := Same.new (o := .tup [v, u]) (x3.gh.free h)
  exact k _ _ _ ((x2.trans x3).trans (.new x3.gh h)) ⟨p, v, u, rfl, SqT.of upd_same, Rp.mono (x3.gg.trans s) r2, Rp.mono s r3⟩
end
section
variable {t : TA} {A B : Type} [RpA A] [RpA B] {mA : Option A}
theorem av_nil : AV K tNil σ G (some ()) := fun G1 s1 a ha H sH Q k => by
  cases ha
  exact k _ _ _ (.refl sH) rfl
theorem av_cons (ea : EV K ta σ G ma) (er : AV K t σ G mA) : AV K (tCons ta t) σ G (ma.bind fun a => mA.bind fun r => some (a, r)) := by
  intro G1 s1 c hc H sH Q k
  obtain ⟨a, ha, hc⟩ := Option.bind_eq_some_iff.mp hc
  obtain ⟨r, hr, hc⟩ := Option.bind_eq_some_iff.mp hc
  cases hc
  refine ea G1 s1 a ha H sH _ fun v G2 H2 x2 r2 => ?_
  refine er G2 (s1.trans x2.gg) r hr H2 x2.gh _ fun vs G3 H3 x3 hp => ?_
  exact k _ _ _ (x2.trans x3) ⟨v, vs, rfl, Rp.mono x3.gg r2, hp⟩
def spM (K : PySem.W.Frag) {A : Type} {ρ : Type} [RpA A] [Rp ρ] (m : A → Option ρ) : Sp := fun vs H Q _ =>
  ∃ G a r, Same G H ∧ RpA.rel K G vs a ∧ m a = some r ∧ ∀ v G2 H2, Ext G H G2 H2 → Rp.rel K G2 v r → Q v H2
theorem spM_len {A : Type} {ρ : Type} [RpA A] [Rp ρ] {m : A → Option ρ} {vs : List V} {H : Hp} {Q : VK} {E : XK} (h : spM K m vs H Q E) : vs.length = RpA.n A := by
  obtain ⟨G, a, r, _, h, _⟩ := h
  exact RpA.len h
theorem ev_def {m : A → Option α} (ea : AV K t σ G mA) : EV K (tCall (spM K m) [] E0 t) σ G (mA.bind fun a => m a) := by
  intro G1 s1 c hc H sH Q k
  obtain ⟨a, ha, hc⟩ := Option.bind_eq_some_iff.mp hc
  refine ea G1 s1 a ha H sH _ fun vs G2 H2 x2 hp => ?_
  show spM K m (vs ++ []) H2 Q E0
  rw [List.append_nil]
  exact ⟨G2, a, c, x2.gh, hp, hc, fun v G3 H3 x3 r3 => k v G3 H3 (x2.trans x3) r3⟩
theorem ev_len {la : Option (List α)} (ea : EV K ta σ G la) : EV K (tCB (rLen K) (tCons ta tNil)) σ G (la.bind fun a => some (a.length : Int)) := by
  intro G1 s1 c hc H sH Q k
  obtain ⟨a, ha, hc⟩ := Option.bind_eq_some_iff.mp hc
  cases hc
  refine ea G1 s1 a ha H sH _ fun v G2 H2 x2 r2 => ?_
  obtain ⟨l, xs, rfl, h, z, p⟩ := r2
  exact ⟨xs, .inl (.inl (x2.gh.rd h)), by rw [Paired.length p]; exact k _ _ _ x2 rfl⟩
theorem ev_len2 {la : Option (α × β)} (ea : EV K ta σ G la) : EV K (tCB (rLen K) (tCons ta tNil)) σ G (la.bind fun _ => some (2 : Int)) := by
  intro G1 s1 c hc H sH Q k
  obtain ⟨a, ha, hc⟩ := Option.bind_eq_some_iff.mp hc
  cases hc
  refine ea G1 s1 a ha H sH _ fun v G2 H2 x2 r2 => ?_
  obtain ⟨t, x, y, rfl, h, _⟩ := r2
  exact ⟨_, .inr (x2.gh.tup h), k _ _ _ x2 rfl⟩
theorem ev_min {ia ib : Option Int} (ea : EV K ta σ G ia) (eb : EV K tb σ G ib) : EV K (tCB (fun xs H Q => ∃ i j, xs = [.int i, .int j] ∧ Q (.int (if j < i then j else i)) H) (tCons ta (tCons tb tNil))) σ G (ia.bind fun a => ib.bind fun b => some (if b < a then b else a)) := by
  intro G1 s1 c hc H sH Q k
  obtain ⟨a, ha, hc⟩ := Option.bind_eq_some_iff.mp hc
  obtain ⟨b, hb, hc⟩ := Option.bind_eq_some_iff.mp hc
  cases hc
  refine ea G1 s1 a ha H sH _ fun v G2 H2 x2 r2 => ?_
  refine eb G2 (s1.trans x2.gg) b hb H2 x2.gh _ fun u G3 H3 x3 r3 => ?_
  cases r2; cases r3
  exact ⟨_, _, rfl, k _ _ _ (x2.trans x3) rfl⟩
theorem fv_list {la : Option (List α)} (ea : EV K ta σ G la) : FV K (tCB (fun xs H Q => ∃ p ys, xs = [.ref p] ∧ (SqL K H p ys ∨ SqT K H p ys) ∧ ∀ l, H l = none → Q (.ref l) (upd H l (.lst ys))) (tCons ta tNil)) σ G la := by
  intro G1 s1 a ha H sH Q k
  refine ea G1 s1 a ha H sH _ fun v G2 H2 x2 r2 => ?_
  obtain ⟨l, xs, rfl, h, z, p⟩ := r2
  exact ⟨l, xs, rfl, .inl (.inl (x2.gh.rd h)), fv_of x2.gh z p (FV.mono x2 k)⟩
end
inductive TyS (K : PySem.W.Frag) (H : Hp) : V → String → Prop where
  | non : TyS K H .non "NoneType"
  | bl (x : Bool) : TyS K H (.bl x) "bool"
  | int (i : Int) : TyS K H (.int i) "int"
  | str (x : Str) : TyS K H (.str x) "str"
  | lst {a : Addr} {xs : List V} (e : SqL K H a xs) : TyS K H (.ref a) "list"
  | tup {a : Addr} {xs : List V} (e : SqT K H a xs) : TyS K H (.ref a) "tuple"
  | dK {a : Addr} {kvs : List (Key × V)} (e : Rd H a (.dK kvs)) : TyS K H (.ref a) "dict"
  | dT {a : Addr} {kvs : List (List Key × V)} (e : Rd H a (.dT kvs)) : TyS K H (.ref a) "dict"
def rInst (K : PySem.W.Frag) : List V → Hp → VK → Prop := fun vs H Q => ∃ x t T b, vs = [x, .ty T] ∧ TyS K H x t ∧ kitC t T = some b ∧ Q (.bl b) H
theorem call_inst {X : Cx} : CallR X (.builtin "isinstance") (rInst X.K) := by
  intro pins s σ H vs us Q I r h
  obtain ⟨x, t, T, b, rfl, ty, e, q⟩ := h
  obtain ⟨u, w', rfl, rx, r2⟩ := vals2 r
  obtain rfl : w' = Value.type T := r2
  have e := kit_of (K := X.K) e
  have fin : ∀ tk, EP X pins σ Q (.bool b) { s with toks := tk } := fun tk => ⟨.bl b, H, I.tok tk, rfl, q⟩
  cases ty with
  | non => cases (show u = Value.none from rx); exact PySem.W.kia_one PySem.W.kitx_none I.kIn True.intro e (fun z => nomatch z) fin
  | bl y => cases (show u = Value.bool y from rx); exact PySem.W.kia_one PySem.W.kitx_bool I.kIn True.intro e (fun z => nomatch z) fin
  | int i => obtain ⟨t, q'⟩ := (show ∃ t, u = Value.int i t from rx); cases q'; exact PySem.W.kia_one PySem.W.kitx_int I.kIn True.intro e (fun z => nomatch z) fin
  | str y => obtain ⟨t, q'⟩ := (show ∃ t, u = Value.str y t from rx); cases q'; exact PySem.W.kia_one PySem.W.kitx_str I.kIn True.intro e (fun z => nomatch z) fin
  | @lst a xs ea =>
    cases (show u = Value.ref a from rx)
    obtain ⟨its, _, pl, _⟩ := I.list ea
    obtain ⟨o, n, h1, h2, _⟩ := pl
    exact PySem.W.kia_one PySem.W.kitx_list I.kIn ⟨o, h1, h2⟩ e (fun z => nomatch z) fin
  | @tup a xs ea =>
    cases (show u = Value.ref a from rx)
    obtain ⟨its, _, pl, _⟩ := I.tuple ea
    obtain ⟨o, h1, h2, _⟩ := pl
    exact PySem.W.kia_one PySem.W.kitx_tuple I.kIn ⟨o, h1, h2⟩ e (fun z => nomatch z) fin
  | @dK a kvs ea =>
    cases (show u = Value.ref a from rx)
    obtain ⟨_, _, vs, _, p⟩ := ea.ok I.hok
    obtain ⟨o, es, ep, h1, h2, _⟩ := p
    exact PySem.W.kia_one PySem.W.kitx_dict I.kIn ⟨o, h1, h2.1⟩ e (fun z => nomatch z) fin
  | @dT a kvs ea =>
    cases (show u = Value.ref a from rx)
    obtain ⟨_, _, xs, _, o, es, ep, h1, h2, _⟩ := ea.ok I.hok
    exact PySem.W.kia_one PySem.W.kitx_dict I.kIn ⟨o, h1, h2.1⟩ e (fun z => nomatch z) fin
class RpT (α : Type) [Rp α] where
  tn : String
  ty : ∀ {K : PySem.W.Frag} {H : Hp} {v : V} {a : α}, Rp.rel K H v a → TyS K H v tn
instance rtInt : RpT Int := ⟨"int", fun h => by cases h; exact .int _⟩
instance rtBool : RpT Bool := ⟨"bool", fun h => by cases h; exact .bl _⟩
instance rtStr : RpT Str := ⟨"str", fun h => by obtain ⟨rfl, _⟩ := h; exact .str _⟩
instance rtUnit : RpT Unit := ⟨"NoneType", fun h => by cases h; exact .non⟩
instance rtList : RpT (List α) := ⟨"list", fun h => by obtain ⟨l, xs, rfl, h, _⟩ := h; exact .lst (.inl h)⟩
instance rtPair : RpT (α × β) := ⟨"tuple", fun h => by obtain ⟨l, x, y, rfl, h, _⟩ := h; exact .tup h⟩
instance rtT3 : RpT (T3 α β γ) := ⟨"tuple", fun h => by obtain ⟨l, x, y, z, rfl, h, _⟩ := h; exact .tup h⟩
instance rtTp : RpT (Tp α) := ⟨"tuple", fun h => by obtain ⟨l, xs, rfl, h, _⟩ := h; exact .tup h⟩
theorem TyS.mono {H H' : Hp} {v : V} {t : String} (s : Same H H') (h : TyS K H v t) : TyS K H' v t := by
  cases h with
  | non => exact .non
  | bl => exact .bl _
  | int => exact .int _
  | str => exact .str _
  | lst e => exact .lst (s.seq e)
  | tup e => exact .tup (s.tup e)
  | dK e => exact .dK (s.rd e)
  | dT e => exact .dT (s.rd e)
theorem ev_inst [RpT α] {T : String} {b : Bool} (h : kitC (RpT.tn α) T = some b) (ea : EV K ta σ G ma) : EV K (tCB (rInst K) (tCons ta (tCons (tC (.ty T)) tNil))) σ G (ma.bind fun _ => some b) := by
  intro G1 s1 c hc H sH Q k
  obtain ⟨a, ha, hc⟩ := Option.bind_eq_some_iff.mp hc
  cases hc
  refine ea G1 s1 a ha H sH _ fun v G2 H2 x2 r2 => ?_
  exact ⟨_, _, _, _, rfl, (RpT.ty r2).mono x2.gh, h, k _ _ _ x2 rfl⟩
theorem EqTy.imp {k : Nat} {α : Type} [DecidableEq α] {R R' : Hp → V → α → Prop} (E : EqTy K k R) (h : ∀ H v a, R' H v a → R H v a) : EqTy K k R' :=
  ⟨fun hK I a b => E.fn hK I (h _ _ _ a) (h _ _ _ b), fun A hK I hu r1 r2 a b => E.eq A hK I hu r1 r2 (h _ _ _ a) (h _ _ _ b), fun A hK I hu r1 r2 a b => E.rc A hK I hu r1 r2 (h _ _ _ a) (h _ _ _ b)⟩
class RpE (α : Type) [Rp α] [DecidableEq α] where
  k : Nat
  ty : ∀ K : PySem.W.Frag, EqTy K k (Rp.rel (α := α) K)
instance reInt : RpE Int := ⟨0, fun _ => eqInt⟩
instance reBool : RpE Bool := ⟨0, fun _ => eqBl⟩
instance reStr : RpE Str := ⟨0, fun _ => eqStr.imp fun _ _ _ h => h.1⟩
instance reList {α : Type} [Rp α] [DecidableEq α] [RpE α] : RpE (List α) := ⟨RpE.k α + 1, fun K => (eqLst (RpE.ty K)).imp fun _ _ _ ⟨l, xs, e, h, _, p⟩ => ⟨l, xs, e, .inl h, p⟩⟩
theorem EqTy.up {k j : Nat} {α : Type} [DecidableEq α] {R : Hp → V → α → Prop} (E : EqTy K k R) (h : k ≤ j) : EqTy K j R :=
  ⟨fun hK I a b => E.fn hK I a b, fun A hK I hu r1 r2 a b => E.eq A hK I (by omega) r1 r2 a b, fun A hK I hu r1 r2 a b => E.rc A hK I (by omega) r1 r2 a b⟩
instance rePair {α β : Type} [Rp α] [DecidableEq α] [RpE α] [Rp β] [DecidableEq β] [RpE β] : RpE (α × β) :=
  ⟨max (RpE.k α) (RpE.k β) + 1, fun K => (eqPair ((RpE.ty (α := α) K).up (Nat.le_max_left _ _)) ((RpE.ty (α := β) K).up (Nat.le_max_right _ _)))⟩
section
variable {α : Type} [Rp α] [DecidableEq α] {m1 m2 : Option α}
def rEqD (K : PySem.W.Frag) (α : Type) [Rp α] [DecidableEq α] : R2 := fun x y H Q => ∃ a b : α, Rp.rel K H x a ∧ Rp.rel K H y b ∧ Q (.bl (decide (a = b))) H
def rNeD (K : PySem.W.Frag) (α : Type) [Rp α] [DecidableEq α] : R2 := fun x y H Q => ∃ a b : α, Rp.rel K H x a ∧ Rp.rel K H y b ∧ Q (.bl (!decide (a = b))) H
theorem op_eqM {X : Cx} {j : Nat} (α : Type) [Rp α] [DecidableEq α] [RpE α] (hr : Room j X.A) (hk : RpE.k α ≤ 10) : OpR X (compareOp .Eq) (rEqD X.K α) := op_eqD (RpE.ty X.K) hr hk
theorem op_neM {X : Cx} {j : Nat} (α : Type) [Rp α] [DecidableEq α] [RpE α] (hr : Room j X.A) (hk : RpE.k α ≤ 10) : OpR X (compareOp .NotEq) (rNeD X.K α) := op_neD (RpE.ty X.K) hr hk
theorem ev_eq (ea : EV K ta σ G m1) (eb : EV K tb σ G m2) : EV K (tOp (rEqD K α) ta tb) σ G (m1.bind fun a => m2.bind fun b => some (decide (a = b))) :=
  ev_bin (fun s ra rb e Q k => by cases e; exact ⟨_, _, Rp.mono s ra, Rp.mono s rb, k _ _ _ (.refl s) rfl⟩) ea eb
theorem ev_ne (ea : EV K ta σ G m1) (eb : EV K tb σ G m2) : EV K (tOp (rNeD K α) ta tb) σ G (m1.bind fun a => m2.bind fun b => some (!decide (a = b))) :=
  ev_bin (fun s ra rb e Q k => by cases e; exact ⟨_, _, Rp.mono s ra, Rp.mono s rb, k _ _ _ (.refl s) rfl⟩) ea eb
end
end
end L2
set_option Elab.async false
set_option linter.all false
set_option maxRecDepth 100000
set_option maxHeartbeats 4000000
namespace L2
open PySem PySem.Spec PyProof.Rows
inductive Fl (S ρ : Type) where
  | nx (s : S)
  | bk (s : S)
  | rt (r : ρ)
def forO {α S ρ : Type} (f : α → S → Option (Fl S ρ)) : List α → S → Option (Fl S ρ)
  | [], s => some (.nx s)
  | a :: as, s => (f a s).bind fun fl => match fl with
    | .nx s' => forO f as s'
    | .bk s' => some (.nx s')
    | .rt r => some (.rt r)
def compO {α β : Type} (fc : α → Option Bool) (fe : α → Option β) : List α → Option (List β)
  | [] => some []
  | a :: r => (fc a).bind fun b => cond b ((fe a).bind fun y => (compO fc fe r).bind fun ys => some (y :: ys)) (compO fc fe r)
def mapO {α β : Type} (fe : α → Option β) : List α → Option (List β)
  | [] => some []
  | a :: r => (fe a).bind fun y => (mapO fe r).bind fun ys => some (y :: ys)
theorem compO_true {α β : Type} (fe : α → Option β) : ∀ as, compO (fun _ => some true) fe as = mapO fe as
  | [] => rfl
  | a :: r => by
    show ((fe a).bind fun y => (compO (fun _ => some true) fe r).bind fun ys => some (y :: ys)) = _
    rw [compO_true fe r]
    rfl
def rngO (lo hi : Int) : Option (List Int) := if (-(2 ^ 62) ≤ lo ∧ lo < 2 ^ 62 ∧ -(2 ^ 62) ≤ hi ∧ hi < 2 ^ 62) ∧ (hi - lo).toNat ≤ sizeLine then some ((List.range (hi - lo).toNat).map fun (i : Nat) => lo + (i : Int)) else none
section
variable {K : PySem.W.Frag} {σ : St} {G : Hp} {α β γ δ : Type} [Rp α] [Rp β] [Rp γ] [Rp δ] {ta tb tc td : TE} {ma : Option α} {mb : Option β} {mc : Option γ} {md : Option δ}
def IW (K : PySem.W.Frag) {α : Type} [Rp α] (wi : TI) (σ : St) (G : Hp) (m : Option (List α)) : Prop :=
  ∀ G1, Same G G1 → ∀ a, m = some a → ∀ H, Same G1 H → ∀ R : It → Hp → Prop, (∀ J vs G2 H2, Ext G1 H G2 H2 → Yields J G2 vs → vs.length ≤ sizeLine → Paired (Rp.rel K G2) vs a → R J H2) → wi σ H R
theorem yields_tup {a : Addr} {xs : List V} {H : Hp} (h : SqT K H a xs) : Yields (Itt K a) H xs where
  go := fun i H' s hi => ⟨xs, xs[i], s.tup h, by simp [hi]⟩
  stop := fun H' s => ⟨xs, s.tup h, Nat.le_refl _⟩
  yld := fun i H' v H'' s _ y => ⟨y.1, y.2 xs (s.tup h)⟩
theorem iw_list {la : Option (List α)} (ea : EV K ta σ G la) : IW K (iAny K ta) σ G la := by
  intro G1 s1 a ha H sH R k
  refine ea G1 s1 a ha H sH _ fun v G2 H2 x2 r2 => ?_
  obtain ⟨l, xs, rfl, h, z, p⟩ := r2
  exact .inl ⟨⟨xs, .inl (x2.gh.rd h)⟩, k _ xs G2 H2 x2 (yields_list (.inl h)) z p⟩
theorem iw_tup {la : Option (Tp α)} (ea : EV K ta σ G la) : IW K (iAny K ta) σ G (la.bind fun a => some a.l) := by
  intro G1 s1 a ha H sH R k
  obtain ⟨b, hb, ha⟩ := Option.bind_eq_some_iff.mp ha
  cases ha
  refine ea G1 s1 b hb H sH _ fun v G2 H2 x2 r2 => ?_
  obtain ⟨l, xs, rfl, h, z, p⟩ := r2
  exact .inr ⟨⟨xs, x2.gh.tup h⟩, k _ xs G2 H2 x2 (yields_tup h) z p⟩
theorem paired_ints (H : Hp) (f : Nat → Int) : ∀ l : List Nat, Paired (Rp.rel K H) (l.map fun i => V.int (f i)) (l.map fun i => f i)
  | [] => .nil
  | a :: r => .cons rfl (paired_ints H f r)
theorem iw_rng1 {ia : Option Int} (ea : EV K ta σ G ia) : IW K (iRng1 (tCons ta tNil)) σ G (ia.bind fun j => rngO 0 j) := by
  intro G1 s1 a ha H sH R k
  obtain ⟨j, hj, ha⟩ := Option.bind_eq_some_iff.mp ha
  obtain ⟨⟨hb, hz⟩, rfl⟩ := ite_some ha
  refine ea G1 s1 j hj H sH _ fun v G2 H2 x2 r2 => ?_
  cases r2
  refine ⟨j, rfl, hb.2.2.1, hb.2.2.2, ?_⟩
  have e : (j - 0).toNat = j.toNat := by omega
  rw [e] at hz k
  exact k (Itr 0 j.toNat) _ G2 H2 x2 (yields_range 0 j.toNat G2) (by rw [List.length_map, List.length_range]; exact hz) (paired_ints G2 (fun i => (0 : Int) + (i : Int)) _)
theorem tv_yes : TV tYes σ G (some true) := fun G1 s1 a ha H sH Q k => by
  cases ha
  exact k _ _ (.refl sH)
theorem Paired.getR {F : V → α → Prop} : ∀ {xs : List V} {as : List α} {i : Nat} {v : V}, Paired F xs as → xs[i]? = some v → ∃ a, as[i]? = some a ∧ F v a
  | _, _, _, _, .nil, e => by simp at e
  | _, _, 0, _, .cons r _, e => by simp at e; subst e; exact ⟨_, rfl, r⟩
  | _, _, i + 1, _, .cons _ t, e => Paired.getR (i := i) t (by simpa using e)
theorem fv_comp {cap : List Nat} {wi : TI} {tt : TT} {te : TE} {mi : Option (List α)} {fc : α → Option Bool} {fe : α → Option β} (ei : IW K wi σ G mi)
    (hb : ∀ (x : V) (a : α) (G1 : Hp), Same G G1 → Rp.rel K G1 x a → TV tt ((inner cap σ).set 0 (some x)) G1 (fc a) ∧ EV K te ((inner cap σ).set 0 (some x)) G1 (fe a)) :
    FV K (tComp cap wi tt te) σ G (mi.bind fun as => compO fc fe as) := by
  intro G1 s1 c hc H sH Q k
  obtain ⟨as, has, hc⟩ := Option.bind_eq_some_iff.mp hc
  refine ei G1 s1 as has H sH _ fun J vs Ga Ha xa Y hz pr p hp => ?_
  have hla := Paired.length pr
  refine ⟨fun i m ys H2 => m = vs.length - i ∧ i ≤ vs.length ∧ ∃ G2 bs cs, Ext Ga Ha G2 H2 ∧ G2 p = none ∧ H2 p = some (.lst ys) ∧ ys.length ≤ i ∧ Paired (Rp.rel K G2) ys bs ∧ compO fc fe (as.drop i) = some cs ∧ c = bs ++ cs,
    ⟨vs.length, by simp, Nat.zero_le _, Ga, [], c, .own xa.gh hp, xa.gh.free hp, upd_same, Nat.le_refl _, .nil, hc, rfl⟩, ?_⟩
  rintro i m ys H2 ⟨rfl, hi, G2, bs, cs, x2, hg, hh, hy, hpr, hcs, rfl⟩
  by_cases hlt : i < vs.length
  · refine .inr ⟨Y.go i _ (x2.gg.trans x2.gh) hlt, fun ys' H' => ∃ G2 bs' cs', Ext Ga Ha G2 H' ∧ G2 p = none ∧ H' p = some (.lst ys') ∧ ys'.length ≤ i + 1 ∧ Paired (Rp.rel K G2) ys' bs' ∧ compO fc fe (as.drop (i + 1)) = some cs' ∧ bs ++ cs = bs' ++ cs',
      fun ys' H' ⟨G3, bs', cs', h⟩ => ⟨vs.length - (i + 1), by omega, rfl, hlt, G3, bs', cs', h⟩, fun x H3 y => ?_⟩
    obtain ⟨rfl, hx⟩ := Y.yld i _ x H3 (x2.gg.trans x2.gh) hlt y
    obtain ⟨a, hai, ra⟩ := Paired.getR pr hx
    have hd : as.drop i = a :: as.drop (i + 1) := by
      obtain ⟨h1, h2⟩ := List.getElem?_eq_some_iff.mp hai
      rw [List.drop_eq_getElem_cons h1, h2]
    rw [hd] at hcs
    obtain ⟨b, hbb, hcs⟩ := Option.bind_eq_some_iff.mp hcs
    have B := hb x a G2 (s1.trans (xa.gg.trans x2.gg)) (Rp.mono x2.gg ra)
    refine B.1 G2 (.refl _) b hbb _ x2.gh _ fun G5 H5 x5 => ?_
    have hp5 : H5 p = some (.lst ys) := x5.hh _ _ hh
    have hg5 : G5 p = none := x5.no p hg (by rw [hh]; exact fun z => nomatch z)
    cases b with
    | false =>
      rw [if_neg Bool.false_ne_true]
      exact ⟨G5, bs, cs, x2.trans x5, hg5, hp5, by omega, Paired.imp' (fun _ _ r => Rp.mono x5.gg r) hpr, hcs, rfl⟩
    | true =>
      rw [if_pos rfl]
      obtain ⟨z, hze, hcs⟩ := Option.bind_eq_some_iff.mp hcs
      obtain ⟨cs', hcs', hcs⟩ := Option.bind_eq_some_iff.mp hcs
      cases hcs
      refine B.2 G5 x5.gg z hze H5 x5.gh _ fun v G6 H6 x6 r6 => ?_
      have hp6 : H6 p = some (.lst ys) := x6.hh _ _ hp5
      have hg6 : G6 p = none := x6.no p hg5 (by rw [hp5]; exact fun z => nomatch z)
      refine ⟨hp6, by omega, G6, bs ++ [z], cs', ((x2.trans x5).trans x6).put hp hg6, hg6, upd_same, ?_, Paired.app (Paired.imp' (fun _ _ r => Rp.mono (x5.trans x6).gg r) hpr) (.cons r6 .nil), hcs', by simp⟩
      rw [List.length_append, List.length_singleton]
      omega
  · have e : i = vs.length := by omega
    subst e
    have hd : as.drop vs.length = [] := List.drop_eq_nil_of_le (by omega)
    rw [hd] at hcs
    cases hcs
    refine .inl ⟨Y.stop _ (x2.gg.trans x2.gh), ?_⟩
    rw [List.append_nil] at k
    exact k p ys G2 H2 (xa.trans x2) (xa.hh.free hp) hg hh (by omega) hpr
theorem fv_map {cap : List Nat} {wi : TI} {te : TE} {mi : Option (List α)} {fe : α → Option β} (ei : IW K wi σ G mi)
    (hb : ∀ (x : V) (a : α) (G1 : Hp), Same G G1 → Rp.rel K G1 x a → EV K te ((inner cap σ).set 0 (some x)) G1 (fe a)) :
    FV K (tComp cap wi tYes te) σ G (mi.bind fun as => mapO fe as) := by
  have h := fv_comp (tt := tYes) (fc := fun _ => some true) ei fun x a G1 s r => ⟨tv_yes, hb x a G1 s r⟩
  have e : (fun as => compO (fun _ => some true) fe as) = fun as => mapO fe as := funext (compO_true fe)
  rw [e] at h
  exact h
end
section
variable {K : PySem.W.Frag} {σ : St} {G H : Hp} {α β : Type} [Rp α] [Rp β] {te : TE} {tt : TT} {t u rest : TS} {D : Ends} {i : Nat} {a : α} {m : Option α}
theorem sv_set (e : EV K te σ G m) (hm : m = some a) (s : Same G H) (k : ∀ v G2 H2, Ext G H G2 H2 → Rp.rel K G2 v a → rest D (σ.set i (some v)) H2) : tSeq (tAsg te (gName i)) rest D σ H := e.run hm s k
theorem sv_ret (e : EV K te σ G m) (hm : m = some a) (s : Same G H) (k : ∀ v G2 H2, Ext G H G2 H2 → Rp.rel K G2 v a → D.rt v H2) : tSeq (tRet te) rest D σ H := e.run hm s k
theorem sv_if {b : Bool} {m : Option Bool} (e : TV tt σ G m) (hm : m = some b) (s : Same G H) (k : ∀ G2 H2, Ext G H G2 H2 → if b = true then t { D with nx := rest D } σ H2 else u { D with nx := rest D } σ H2) :
    tSeq (tIfS tt t u) rest D σ H := e.run hm s k
theorem sv_join (Pv : St → Hp → Prop) (h : ∀ nx : St → Hp → Prop, (∀ σ' H', Pv σ' H' → nx σ' H') → tSeq t tNext { D with nx := nx } σ H) (key : ∀ σ' H', Pv σ' H' → rest D σ' H') : tSeq t rest D σ H := h (rest D) key
structure LoopOb (K : PySem.W.Frag) {α S ρ : Type} [Rp α] (RR : ρ → V → Hp → Hp → Prop) (f : α → S → Option (Fl S ρ)) (g : TG) (tb : TS) (D : Ends) (σ : St) (G2 H2 : Hp) (as : List α) (s0 : S) (res : Fl S ρ) (RS : S → St → Hp → Hp → Prop) : Prop where
  start : RS s0 σ G2 H2
  keep : ∀ s σ' G' H', RS s σ' G' H' → Same G2 G' ∧ Same G' H'
  step : ∀ (x : V) (a : α) (s : S) (σ1 : St) (G1 H1 : Hp) (fl : Fl S ρ), a ∈ as → RS s σ1 G1 H1 → Rp.rel K G1 x a → f a s = some fl → ∀ D' : Ends, (∀ s' σ' G' H', fl = .nx s' → RS s' σ' G' H' → D'.nx σ' H') → (∀ s' σ' G' H', fl = .nx s' → RS s' σ' G' H' → D'.ct σ' H') →
    (∀ s' σ' G' H', fl = .bk s' → RS s' σ' G' H' → D'.bk σ' H') → (∀ r v G' H', fl = .rt r → RR r v G' H' → D'.rt v H') → g x σ1 H1 fun σ2 H2 => tb D' σ2 H2
  nxt : ∀ s σ' G' H', res = .nx s → RS s σ' G' H' → D.nx σ' H'
  rtn : ∀ r v G' H', res = .rt r → RR r v G' H' → D.rt v H'
theorem sv_for {S ρ : Type} {RR : ρ → V → Hp → Hp → Prop} {f : α → S → Option (Fl S ρ)} {wi : TI} {g : TG} {tb : TS} {mi : Option (List α)} {as : List α} {s0 : S} {res : Fl S ρ} (ei : IW K wi σ G mi) (hm : mi = some as) (hf : forO f as s0 = some res) (sg : Same G H)
    (k : ∀ G2 H2, Ext G H G2 H2 → ∃ RS, LoopOb K RR f g tb { D with nx := rest D } σ G2 H2 as s0 res RS) : tSeq (tFor wi g tb) rest D σ H := by
  refine ei G (.refl G) as hm H sg _ fun J vs G2 H2 x2 Y hz pr => ?_
  obtain ⟨RS, L⟩ := k G2 H2 x2
  have hla := Paired.length pr
  refine ⟨fun i m σ' H' => m = vs.length - i ∧ i ≤ vs.length ∧ ∃ s G', RS s σ' G' H' ∧ forO f (as.drop i) s = some res, ⟨vs.length, by simp, Nat.zero_le _, s0, G2, L.start, hf⟩, ?_⟩
  rintro i m σ' H' ⟨rfl, hi, s, G', rs, hfo⟩
  obtain ⟨k1, k2⟩ := L.keep _ _ _ _ rs
  by_cases hlt : i < vs.length
  · refine .inr ⟨Y.go i _ (k1.trans k2) hlt, fun σ'' H'' => ∃ s' G'', RS s' σ'' G'' H'' ∧ forO f (as.drop (i + 1)) s' = some res, fun σ'' H'' ⟨s', G'', h⟩ => ⟨vs.length - (i + 1), by omega, rfl, hlt, s', G'', h⟩, fun x H3 y => ?_⟩
    obtain ⟨rfl, hx⟩ := Y.yld i _ x H3 (k1.trans k2) hlt y
    obtain ⟨a, hai, ra⟩ := Paired.getR pr hx
    have hd : as.drop i = a :: as.drop (i + 1) := by
      obtain ⟨h1, h2⟩ := List.getElem?_eq_some_iff.mp hai
      rw [List.drop_eq_getElem_cons h1, h2]
    rw [hd] at hfo
    obtain ⟨fl, hfl, hfo⟩ := Option.bind_eq_some_iff.mp hfo
    refine L.step x a s σ' G' _ fl (List.mem_of_getElem? hai) rs (Rp.mono k1 ra) hfl _ ?_ ?_ ?_ ?_
    · intro s' σ'' G'' H'' e r
      subst e
      exact ⟨s', G'', r, hfo⟩
    · intro s' σ'' G'' H'' e r
      subst e
      exact ⟨s', G'', r, hfo⟩
    · intro s' σ'' G'' H'' e r
      subst e
      exact L.nxt s' σ'' G'' H'' (Option.some.inj hfo).symm r
    · intro r v G'' H'' e rl
      subst e
      exact L.rtn r v G'' H'' (Option.some.inj hfo).symm rl
  · have e : i = vs.length := by omega
    subst e
    have hd : as.drop vs.length = [] := List.drop_eq_nil_of_le (by omega)
    rw [hd] at hfo
    exact .inl ⟨Y.stop _ (k1.trans k2), L.nxt s σ' G' H' (Option.some.inj hfo).symm rs⟩
end
structure Own (K : PySem.W.Frag) {α : Type} [Rp α] (G H : Hp) (v : V) (p : Addr) (vs : List V) (as : List α) : Prop where
  v : v = .ref p
  g : G p = none
  h : H p = some (.lst vs)
  z : vs.length ≤ sizeLine
  p : Paired (Rp.rel K G) vs as
section
variable {K : PySem.W.Frag} {σ : St} {G H G1 H1 G0 H0 : Hp} {α β : Type} [Rp α] [Rp β] {te ti : TE} {tt : TT} {t u rest : TS} {D : Ends} {i : Nat} {a : α} {m : Option α} {as : List α} {v : V} {p q : Addr} {vs : List V}
theorem Own.ext (o : Own K G H v p vs as) (x : Ext G H G1 H1) : Own K G1 H1 v p vs as :=
  ⟨o.v, x.no p o.g (by rw [o.h]; exact fun z => nomatch z), x.hh _ _ o.h, o.z, Paired.imp' (fun _ _ r => Rp.mono x.gg r) o.p⟩
theorem Own.put {ho : HO} (o : Own K G H v p vs as) (h : p ≠ q) : Own K G (upd H q ho) v p vs as := ⟨o.v, o.g, by rw [upd_ne h]; exact o.h, o.z, o.p⟩
theorem Own.tell (o : Own K G H v p vs as) : Rp.rel K (upd G p (.lst vs)) v as := ⟨p, vs, o.v, .inl upd_same, o.z, Paired.imp' (fun _ _ r => Rp.mono (Same.new o.g) r) o.p⟩
theorem Own.same (o : Own K G H v p vs as) (s : Same G H) : Same (upd G p (.lst vs)) H := fun b x e => by
  by_cases hb : b = p
  · subst hb
    rw [upd_same] at e
    rw [o.h]
    exact e
  · rw [upd_ne hb] at e
    exact s b x e
theorem sv_own {m : Option (List α)} {as : List α} (e : FV K te σ G m) (hm : m = some as) (s : Same G H) (k : ∀ p vs G2 H2, Ext G H G2 H2 → H p = none → Own K G2 H2 (.ref p) p vs as → rest D (σ.set i (some (.ref p))) H2) : tSeq (tAsg te (gName i)) rest D σ H :=
  e G (.refl G) as hm H s _ fun p vs G2 H2 x h0 hg hh hz hp => k p vs G2 H2 x h0 ⟨rfl, hg, hh, hz, hp⟩
def pushO {α : Type} (as : List α) (a : α) : Option (List α) := if as.length < sizeLine then some (as ++ [a]) else none
theorem sv_append {as' : List α} (hσ : σ[i]? = some (some v)) (o : Own K G H v p vs as) (e : EV K te σ G m) (hm : m = some a) (hp : pushO as a = some as') (s : Same G H)
    (k : ∀ G2 H2 w, Ext G H G2 H2 → Own K G2 (upd H2 p (.lst (vs ++ [w]))) v p (vs ++ [w]) as' → rest D σ (upd H2 p (.lst (vs ++ [w])))) : tSeq (tDrop (tBM K "list" rAppend (tVar i) (tCons te tNil))) rest D σ H := by
  obtain ⟨hl, rfl⟩ := ite_some hp
  have hlen := Paired.length o.p
  obtain ⟨rfl, og, oh, oz, op⟩ := o
  refine ⟨_, hσ, .inl ⟨rfl, _, SqL.of oh⟩, ?_⟩
  refine e.run hm s fun w G2 H2 x r => ?_
  refine ⟨p, vs, w, rfl, rfl, x.hh _ _ oh, by omega, ?_⟩
  refine k G2 H2 w x ⟨rfl, x.no p og (by rw [oh]; exact fun z => nomatch z), upd_same, ?_, Paired.app (Paired.imp' (fun _ _ r => Rp.mono x.gg r) op) (.cons r .nil)⟩
  rw [List.length_append, List.length_singleton]
  omega
structure TupK (H H' : Hp) : Prop where
  rd : ∀ b xs, Rd H b (.tup xs) → Rd H' b (.tup xs)
  eq : ∀ b xs, H b = some (.tup xs) → H' b = some (.tup xs)
class Imm (α : Type) [Rp α] : Prop where
  im : ∀ {K : PySem.W.Frag} {H H' : Hp} {v : V} {a : α}, TupK H H' → Rp.rel K H v a → Rp.rel K H' v a
instance imInt : Imm Int := ⟨fun _ h => h⟩
instance imBool : Imm Bool := ⟨fun _ h => h⟩
instance imStr : Imm Str := ⟨fun _ h => h⟩
instance imUnit : Imm Unit := ⟨fun _ h => h⟩
theorem SqT.im {H H' : Hp} {t : Addr} {xs : List V} (f : TupK H H') (h : SqT K H t xs) : SqT K H' t xs := by
  rcases h with h | h
  · exact .inl (f.rd _ _ h)
  · exact .inr h
instance imPair {α β : Type} [Rp α] [Rp β] [Imm α] [Imm β] : Imm (α × β) := ⟨fun f ⟨t, a, b, e, h, r1, r2⟩ => ⟨t, a, b, e, h.im f, Imm.im f r1, Imm.im f r2⟩⟩
instance imT3 {α β γ : Type} [Rp α] [Rp β] [Rp γ] [Imm α] [Imm β] [Imm γ] : Imm (T3 α β γ) := ⟨fun f ⟨t, a, b, c, e, h, r1, r2, r3⟩ => ⟨t, a, b, c, e, h.im f, Imm.im f r1, Imm.im f r2, Imm.im f r3⟩⟩
instance imTp {α : Type} [Rp α] [Imm α] : Imm (Tp α) := ⟨fun f ⟨t, xs, e, h, z, p⟩ => ⟨t, xs, e, h.im f, z, Paired.imp' (fun _ _ r => Imm.im f r) p⟩⟩
instance imOpt {α : Type} [Rp α] [Imm α] : Imm (Option α) := ⟨fun {K H H' v a} f h => by cases a with | none => exact h | some a => exact Imm.im (α := α) f h⟩
def del (G : Hp) (p : Addr) : Hp := fun b => if b = p then none else G b
theorem del_ne {G : Hp} {p b : Addr} (h : b ≠ p) : del G p b = G b := by unfold del; rw [if_neg h]
theorem del_same {G : Hp} {p : Addr} : del G p p = none := by unfold del; rw [if_pos rfl]
theorem Ext.del {ho : HO} {G2 H2 : Hp} (hg : G p = none) (x : Ext (upd G p ho) H G2 H2) : Ext G H (L2.del G2 p) H2 :=
  ⟨fun b o e => by
    have hb : b ≠ p := ne_of_none e hg
    rw [del_ne hb]
    exact x.gg b o (by rw [upd_ne hb]; exact e), fun b o e => by
    by_cases hb : b = p
    · subst hb
      rw [del_same] at e
      cases e
    · rw [del_ne hb] at e
      exact x.gh b o e, x.hh, fun b h1 h2 => by
    by_cases hb : b = p
    · subst hb
      exact del_same
    · rw [del_ne hb]
      exact x.no b (by rw [upd_ne hb]; exact h1) h2⟩
theorem Imm.del {β : Type} [Rp β] [Imm β] {G2 : Hp} {w : V} {c : β} {ys : List V} (h : G2 p = some (.lst ys)) (r : Rp.rel K G2 w c) : Rp.rel K (L2.del G2 p) w c :=
  Imm.im ⟨fun b xs e => by
    have hb : b ≠ p := fun z => by
      subst z
      rcases e with e | ⟨o, e⟩ <;> (rw [h] at e; cases e)
    rcases e with e | ⟨o, e⟩
    · exact .inl (by rw [del_ne hb]; exact e)
    · exact .inr ⟨o, by rw [del_ne hb]; exact e⟩, fun b xs e => by
    have hb : b ≠ p := fun z => by
      subst z
      rw [h] at e
      cases e
    rw [del_ne hb]
    exact e⟩ r
theorem EV.runB {β : Type} [Rp β] [Imm β] {mb : Option β} {b : β} {Q : VK} (o : Own K G H v p vs as) (e : EV K te σ (upd G p (.lst vs)) mb) (hm : mb = some b) (s : Same G H) (k : ∀ w G2 H2, Ext G H G2 H2 → Rp.rel K G2 w b → Q w H2) : te σ H Q :=
  e.run hm (o.same s) fun w G2 H2 x r => k w (del G2 p) H2 (x.del o.g) (Imm.del (x.gg _ _ upd_same) r)
theorem TV.runB {mb : Option Bool} {b : Bool} {Q : Bool → Hp → Prop} (o : Own K G H v p vs as) (e : TV tt σ (upd G p (.lst vs)) mb) (hm : mb = some b) (s : Same G H) (k : ∀ G2 H2, Ext G H G2 H2 → Q b H2) : tt σ H Q :=
  e.run hm (o.same s) fun G2 H2 x => k (del G2 p) H2 (x.del o.g)
end
end L2
set_option Elab.async false
set_option linter.all false
set_option maxRecDepth 100000
set_option maxHeartbeats 4000000
namespace L2
open PySem PySem.Spec PyProof.Rows
section
variable {K : PySem.W.Frag} {σ : St} {G : Hp}
theorem ev_def1 {ρ A0 : Type} [Rp ρ] [Rp A0] {t0 : TE} {m0 : Option A0} {m : A0 × Unit → Option ρ} (e0 : EV K t0 σ G m0) : EV K (tCall (spM K m) [] E0 (tCons t0 tNil)) σ G (m0.bind fun a0 => m (a0, ())) := by
  intro G1 s1 c hc H sH Q k
  obtain ⟨a0, ha0, hc⟩ := Option.bind_eq_some_iff.mp hc
  refine e0 G1 s1 a0 ha0 H sH _ fun v0 G2 H2 x0 r0 => ?_
  have y0 := x0
  exact ⟨G2, _, c, y0.gh, ⟨v0, _, rfl, r0, rfl⟩, hc, fun v G9 H9 x9 r9 => k v G9 H9 (y0.trans x9) r9⟩
theorem ev_def2 {ρ A0 A1 : Type} [Rp ρ] [Rp A0] [Rp A1] {t0 t1 : TE} {m0 : Option A0} {m1 : Option A1} {m : A0 × A1 × Unit → Option ρ} (e0 : EV K t0 σ G m0) (e1 : EV K t1 σ G m1) : EV K (tCall (spM K m) [] E0 (tCons t0 (tCons t1 tNil))) σ G (m0.bind fun a0 => m1.bind fun a1 => m (a0, a1, ())) := by
  intro G1 s1 c hc H sH Q k
  obtain ⟨a0, ha0, hc⟩ := Option.bind_eq_some_iff.mp hc
  obtain ⟨a1, ha1, hc⟩ := Option.bind_eq_some_iff.mp hc
  refine e0 G1 s1 a0 ha0 H sH _ fun v0 G2 H2 x0 r0 => ?_
  have y0 := x0
  refine e1 G2 (s1.trans y0.gg) a1 ha1 H2 y0.gh _ fun v1 G3 H3 x1 r1 => ?_
  have y1 := y0.trans x1
  exact ⟨G3, _, c, y1.gh, ⟨v0, _, rfl, (Rp.mono x1.gg r0), ⟨v1, _, rfl, r1, rfl⟩⟩, hc, fun v G9 H9 x9 r9 => k v G9 H9 (y1.trans x9) r9⟩
section
variable {ta tb : TE} {a b : Bool} {tt tu : TT} {mb : Option Bool}
theorem TV.of {m m' : Option Bool} (e : TV tt σ G m) (h : m = m') : TV tt σ G m' := h ▸ e
theorem tv_andP (ea : TV tt σ G (some a)) (eb : TV tu σ G (some b)) : TV (tAnd tt tu) σ G (some (a && b)) := (tv_and ea eb).of (by cases a <;> rfl)
theorem tv_orP (ea : TV tt σ G (some a)) (eb : TV tu σ G (some b)) : TV (tOr tt tu) σ G (some (a || b)) := (tv_or ea eb).of (by cases a <;> rfl)
theorem TruV.mono {G H : Hp} {v : V} {k : Bool} (s : Same G H) (h : TruV K v G k) : TruV K v H k := by
  cases v with
  | ref p =>
    rcases h with ⟨xs, hx, e⟩ | ⟨xs, hx, e⟩ | ⟨kvs, hx, e⟩
    · exact .inl ⟨xs, s.seq hx, e⟩
    · exact .inr (.inl ⟨xs, s.tup hx, e⟩)
    · exact .inr (.inr ⟨kvs, s _ _ hx, e⟩)
  | _ => exact h
theorem tv_b {mb : Option Bool} (ea : EV K ta σ G mb) : TV (fun σ H Q => ta σ H fun x H' => ∃ k, TruV K x H' k ∧ Q k H') σ G mb := by
  have h := tv_tru (K := K) (f := fun (a : Bool) => a) (fun {G v a} (r : Rp.rel K G v a) => by cases r; exact rfl) (fun s => TruV.mono s) ea
  refine h.of ?_
  cases mb <;> rfl
end
theorem cT {α : Type} {A B : Option α} {r : Option α} (h : cond true A B = r) : A = r := h
theorem cF {α : Type} {A B : Option α} {r : Option α} (h : cond false A B = r) : B = r := h
theorem sv_turn {i : Nat} {x : V} {σ : St} {H : Hp} {tb : TS} {D : Ends} (h : tb D (σ.set i (some x)) H) : gName i x σ H fun σ2 H2 => tb D σ2 H2 := h
end
end L2
set_option Elab.async false
set_option linter.all false
set_option maxRecDepth 100000
set_option maxHeartbeats 4000000
namespace L2
open PySem PySem.Spec PyProof.Rows
section
variable {K : PySem.W.Frag} {σ : St} {G H : Hp} {α β γ : Type} [Rp α] [Rp β] [Rp γ] {ta tb te : TE} {ia ib : Option Int} {c : Int} {rest t u : TS} {D : Ends} {i j : Nat} {tt : TT}
theorem ev_mulR (ea : EV K ta σ G ia) (hc : -(2 ^ 64) < c ∧ c < 2 ^ 64 := by decide) : EV K (tOp (rMul K) ta (tC (.int c))) σ G (ia.bind fun a => some (a * c)) := by
  have h := ev_mul ea (ev_i (K := K) (σ := σ) (G := G) (i := c))
  have e : (ia.bind fun a => (some c).bind fun b => mulO a b) = ia.bind fun a => some (a * c) := by
    congr 1; funext a
    show mulO a c = _
    unfold mulO
    rw [if_pos (.inr hc)]
  exact h.of e
theorem ev_mulL (eb : EV K tb σ G ib) (hc : -(2 ^ 64) < c ∧ c < 2 ^ 64 := by decide) : EV K (tOp (rMul K) (tC (.int c)) tb) σ G (ib.bind fun b => some (c * b)) := by
  have h := ev_mul (ev_i (K := K) (σ := σ) (G := G) (i := c)) eb
  have e : ((some c).bind fun a => ib.bind fun b => mulO a b) = ib.bind fun b => some (c * b) := by
    show (ib.bind fun b => mulO c b) = _
    congr 1; funext b
    unfold mulO
    rw [if_pos (.inl hc)]
  exact h.of e
theorem ev_modR (ea : EV K ta σ G ia) (hc : 0 < c := by decide) : EV K (tOp (rI (fun _ j => 0 < j) fun i j => .int (i % j)) ta (tC (.int c))) σ G (ia.bind fun a => some (a % c)) := by
  have h := ev_mod ea (ev_i (K := K) (σ := σ) (G := G) (i := c))
  have e : (ia.bind fun a => (some c).bind fun b => modO a b) = ia.bind fun a => some (a % c) := by
    congr 1; funext a
    show modO a c = _
    unfold modO
    rw [if_pos hc]
  exact h.of e
theorem ev_modC (ea : EV K ta σ G ia) (eb : EV K tb σ G (some c)) (hc : 0 < c) : EV K (tOp (rI (fun _ j => 0 < j) fun i j => .int (i % j)) ta tb) σ G (ia.bind fun a => some (a % c)) := by
  have h := ev_mod ea eb
  have e : (ia.bind fun a => (some c).bind fun b => modO a b) = ia.bind fun a => some (a % c) := by
    congr 1; funext a
    show modO a c = _
    unfold modO
    rw [if_pos hc]
  exact h.of e
theorem ev_divR (ea : EV K ta σ G ia) (hc : 0 < c ∧ c < 1073741824 := by decide) : EV K (tOp (rI CDiv fun i j => .int (i / j)) ta (tC (.int c))) σ G (ia.bind fun a => some (a / c)) := by
  have h := ev_div ea (ev_i (K := K) (σ := σ) (G := G) (i := c))
  have e : (ia.bind fun a => (some c).bind fun b => divO a b) = ia.bind fun a => some (a / c) := by
    congr 1; funext a
    show divO a c = _
    unfold divO
    rw [if_pos (show CDiv a c from hc)]
  exact h.of e
structure Scr where
  l : List Int
instance rpScr : Rp Scr := ⟨fun K H v a => ∃ l, v = .ref l ∧ SqL K H l (a.l.map V.int), fun s ⟨l, e, h⟩ => ⟨l, e, s.seq h⟩⟩
theorem ev_lenX {ma : Option Scr} (ea : EV K ta σ G ma) : EV K (tCB (rLen K) (tCons ta tNil)) σ G (ma.bind fun a => some (a.l.length : Int)) := by
  intro G1 s1 c hc H sH Q k
  obtain ⟨a, ha, hc⟩ := Option.bind_eq_some_iff.mp hc
  cases hc
  refine ea G1 s1 a ha H sH _ fun v G2 H2 x2 r2 => ?_
  obtain ⟨l, rfl, h⟩ := r2
  exact ⟨_, .inl (x2.gh.seq h), by rw [List.length_map]; exact k _ _ _ x2 rfl⟩
theorem pairedI {H : Hp} : ∀ ns : List Int, Paired (Rp.rel K H) (ns.map V.int) ns
  | [] => .nil
  | _ :: r => .cons rfl (pairedI r)
theorem ev_atX {ma : Option Scr} (ea : EV K ta σ G ma) (eb : EV K tb σ G ib) : EV K (tOp (rAt K) ta tb) σ G (ma.bind fun a => ib.bind fun i => atI a.l i) :=
  ev_bin (fun s ra rb e Q k => by
    obtain ⟨l, rfl, h⟩ := ra; cases rb
    obtain ⟨v, hv, r⟩ := paired_atI (pairedI (K := K) _) e
    exact .inl ⟨_, v, s.seq h, hv, k _ _ _ (.refl s) r⟩) ea eb
theorem sv_setB {a : α} {m : Option α} [Imm α] {v : V} {p : Addr} {vs : List V} {as : List β} (o : Own K G H v p vs as) (e : EV K te σ (upd G p (.lst vs)) m) (hm : m = some a) (s : Same G H) (k : ∀ v G2 H2, Ext G H G2 H2 → Rp.rel K G2 v a → rest D (σ.set i (some v)) H2) :
    tSeq (tAsg te (gName i)) rest D σ H := EV.runB o e hm s k
theorem sv_ifB {b : Bool} {m : Option Bool} {v : V} {p : Addr} {vs : List V} {as : List β} (o : Own K G H v p vs as) (e : TV tt σ (upd G p (.lst vs)) m) (hm : m = some b) (s : Same G H) (k : ∀ G2 H2, Ext G H G2 H2 → if b = true then t { D with nx := rest D } σ H2 else u { D with nx := rest D } σ H2) :
    tSeq (tIfS tt t u) rest D σ H := TV.runB o e hm s k
theorem sv_unpack {a : α × β} {m : Option (α × β)} (e : EV K te σ G m) (hm : m = some a) (s : Same G H) (k : ∀ v1 v2 G2 H2, Ext G H G2 H2 → Rp.rel K G2 v1 a.1 → Rp.rel K G2 v2 a.2 → rest D ((σ.set i (some v1)).set j (some v2)) H2) :
    tSeq (tAsg te (gTup K 2 (gCons (gName i) (gCons (gName j) gNil)))) rest D σ H := by
  refine e.run hm s fun v G2 H2 x r => ?_
  obtain ⟨t, x1, x2, rfl, ht, r1, r2⟩ := r
  exact ⟨t, _, rfl, x.gh.tup ht, rfl, x1, _, rfl, x2, _, rfl, rfl, k _ _ _ _ x r1 r2⟩
end
end L2
set_option Elab.async false
set_option linter.all false
set_option maxRecDepth 100000
set_option maxHeartbeats 4000000
namespace L2
open PySem PySem.Spec PyProof.Rows
structure Own2 (K : PySem.W.Frag) {α β : Type} [Rp α] [Rp β] (G H : Hp) (v : V) (p q : Addr) (vs ws : List V) (a : List α × List β) : Prop where
  t : ∃ t, v = .ref t ∧ G t = some (.tup [.ref p, .ref q])
  o1 : Own K G H (.ref p) p vs a.1
  o2 : Own K G H (.ref q) q ws a.2
  ne : p ≠ q
section
variable {K : PySem.W.Frag} {σ : St} {G H G1 H1 G0 H0 : Hp} {α β γ : Type} [Rp α] [Rp β] [Rp γ] {ta tb te ti : TE} {tt : TT} {t u rest : TS} {D : Ends} {i j : Nat} {v : V} {p q r : Addr} {vs ws : List V} {a : List α × List β}
theorem Own2.ext (o : Own2 K G H v p q vs ws a) (x : Ext G H G1 H1) : Own2 K G1 H1 v p q vs ws a :=
  ⟨let ⟨t, e, h⟩ := o.t; ⟨t, e, x.gg _ _ h⟩, o.o1.ext x, o.o2.ext x, o.ne⟩
theorem Own2.put {ho : HO} (o : Own2 K G H v p q vs ws a) (h1 : p ≠ r) (h2 : q ≠ r) : Own2 K G (upd H r ho) v p q vs ws a := ⟨o.t, o.o1.put h1, o.o2.put h2, o.ne⟩
def two (G : Hp) (p q : Addr) (vs ws : List V) : Hp := upd (upd G p (.lst vs)) q (.lst ws)
theorem Own2.g2 (o : Own2 K G H v p q vs ws a) : (upd G p (.lst vs)) q = none := by rw [upd_ne (Ne.symm o.ne)]; exact o.o2.g
theorem Own2.up (o : Own2 K G H v p q vs ws a) : Same G (two G p q vs ws) := (Same.new o.o1.g).trans (Same.new o.g2)
theorem Own2.same (o : Own2 K G H v p q vs ws a) (s : Same G H) : Same (two G p q vs ws) H := fun b x e => by
  unfold two at e
  by_cases hb : b = q
  · subst hb
    rw [upd_same] at e
    rw [o.o2.h]
    exact e
  · rw [upd_ne hb] at e
    exact o.o1.same s b x e
theorem Own2.tell (o : Own2 K G H v p q vs ws a) : Rp.rel K (two G p q vs ws) v a := by
  obtain ⟨t, rfl, ht⟩ := o.t
  refine ⟨t, .ref p, .ref q, rfl, SqT.of (o.up _ _ ht), ⟨p, vs, rfl, .inl ?_, o.o1.z, Paired.imp' (fun _ _ r => Rp.mono o.up r) o.o1.p⟩, ⟨q, ws, rfl, .inl upd_same, o.o2.z, Paired.imp' (fun _ _ r => Rp.mono o.up r) o.o2.p⟩⟩
  unfold two
  rw [upd_ne o.ne]
  exact upd_same
theorem Own2.frz (o : Own2 K G H v p q vs ws a) (x : Ext G0 H0 G H) (h1 : H0 p = none) (h2 : H0 q = none) : Ext G0 H0 (two G p q vs ws) H :=
  (x.frz h1 o.o1.g o.o1.h).frz h2 o.g2 o.o2.h
def NV (K : PySem.W.Frag) {α β : Type} [Rp α] [Rp β] (te : TE) (σ : St) (G : Hp) (m : Option (List α × List β)) : Prop :=
  ∀ G1, Same G G1 → ∀ a, m = some a → ∀ H, Same G1 H → ∀ Q : VK, (∀ v p q vs ws G2 H2, Ext G1 H G2 H2 → H p = none → H q = none → Own2 K G2 H2 v p q vs ws a → Q v H2) → te σ H Q
theorem NV.ev {m : Option (List α × List β)} (e : NV K te σ G m) : EV K te σ G m := by
  intro G1 s1 a ha H sH Q k
  refine e G1 s1 a ha H sH Q fun v p q vs ws G2 H2 x h1 h2 o => ?_
  exact k v _ H2 (o.frz x h1 h2) o.tell
def spN (K : PySem.W.Frag) {A : Type} [RpA A] {α β : Type} [Rp α] [Rp β] (m : A → Option (List α × List β)) : Sp := fun vs H Q _ =>
  ∃ G a r, Same G H ∧ RpA.rel K G vs a ∧ m a = some r ∧ ∀ v p q vs ws G2 H2, Ext G H G2 H2 → H p = none → H q = none → Own2 K G2 H2 v p q vs ws r → Q v H2
theorem spN_len {A : Type} [RpA A] {m : A → Option (List α × List β)} {vs : List V} {H : Hp} {Q : VK} {E : XK} (h : spN K m vs H Q E) : vs.length = RpA.n A := by
  obtain ⟨G, a, r, _, h, _⟩ := h
  exact RpA.len h
theorem nv_def1 {A0 : Type} [Rp A0] {t0 : TE} {m0 : Option A0} {m : A0 × Unit → Option (List α × List β)} (e0 : EV K t0 σ G m0) : NV K (tCall (spN K m) [] E0 (tCons t0 tNil)) σ G (m0.bind fun a0 => m (a0, ())) := by
  intro G1 s1 c hc H sH Q k
  obtain ⟨a0, ha0, hc⟩ := Option.bind_eq_some_iff.mp hc
  refine e0 G1 s1 a0 ha0 H sH _ fun v0 G2 H2 x0 r0 => ?_
  have y0 := x0
  exact ⟨G2, _, c, y0.gh, ⟨v0, _, rfl, r0, rfl⟩, hc, fun v p q vs ws G9 H9 x9 h1 h2 o => k v p q vs ws G9 H9 (y0.trans x9) (y0.hh.free h1) (y0.hh.free h2) o⟩
theorem sv_retO2 {v1 v2 : V} {as : List α} {bs : List β} (h1 : σ[i]? = some (some v1)) (h2 : σ[j]? = some (some v2)) (o1 : Own K G H v1 p vs as) (o2 : Own K G H v2 q ws bs) (ne : p ≠ q) (s : Same G H)
    (k : ∀ v G2 H2, Ext G H G2 H2 → Own2 K G2 H2 v p q vs ws (as, bs) → D.rt v H2) : tSeq (tRet (tTup (tCons (tVar i) (tCons (tVar j) tNil)))) rest D σ H := by
  obtain ⟨rfl, g1, hh1, z1, p1⟩ := o1
  obtain ⟨rfl, g2, hh2, z2, p2⟩ := o2
  refine ⟨_, h1, _, h2, by show 2 ≤ sizeLine; decide, fun t ht => ?_⟩
  have x4 : Ext G H (upd G t (.tup [.ref p, .ref q])) (upd H t (.tup [.ref p, .ref q])) := .new s ht
  exact k (.ref t) _ _ x4 ⟨⟨t, rfl, upd_same⟩, Own.ext ⟨rfl, g1, hh1, z1, p1⟩ x4, Own.ext ⟨rfl, g2, hh2, z2, p2⟩ x4, ne⟩
end
end L2
set_option Elab.async false
set_option linter.all false
set_option maxRecDepth 100000
set_option maxHeartbeats 4000000
namespace L2
open PySem PySem.Spec PyProof.Rows
section
variable {X : Cx} {K : PySem.W.Frag}
theorem op_plusK (h : X.K = K) : OpR X (binaryOp .Add) (rPlus K) := h ▸ op_plus
theorem op_mulK (h : X.K = K) : OpR X (binaryOp .Mult) (rMul K) := h ▸ op_mulU
theorem sl_anyK (h : X.K = K) : SlR X (rSl K) := h ▸ sl_any
theorem ix_anyK (h : X.K = K) : IxR X (rAt K) := h ▸ ix_any
theorem call_lenK (h : X.K = K) : CallR X (.builtin "len") (rLen K) := h ▸ call_lenU
theorem call_instK (h : X.K = K) : CallR X (.builtin "isinstance") (rInst K) := h ▸ call_inst
theorem op_eqK {j : Nat} (h : X.K = K) (α : Type) [Rp α] [DecidableEq α] [RpE α] (hr : Room j X.A) (hk : RpE.k α ≤ 10) : OpR X (compareOp .Eq) (rEqD K α) := h ▸ op_eqM α hr hk
theorem op_neK {j : Nat} (h : X.K = K) (α : Type) [Rp α] [DecidableEq α] [RpE α] (hr : Room j X.A) (hk : RpE.k α ≤ 10) : OpR X (compareOp .NotEq) (rNeD K α) := h ▸ op_neM α hr hk
theorem call_listK (h : X.K = K) : CallR X (.type "list") (fun xs H Q => ∃ p ys, xs = [.ref p] ∧ (SqL K H p ys ∨ SqT K H p ys) ∧ ∀ l, H l = none → Q (.ref l) (upd H l (.lst ys))) := h ▸ call_list_of
theorem pi_anyK {tg l : Expr} {tl : TE} (h : X.K = K) (hl : PE X l tl) : PI X tg l (iAny K tl) := h ▸ pi_any hl
theorem pt_truthK {a : Expr} {ta : TE} (h : X.K = K) (ha : PE X a ta) (he : ∀ whole, isTrue a X.env whole = (do let v ← whole; standAt a.pos; holding [v] (truthy v))) :
    PT X a (fun σ H Q => ta σ H fun x H' => ∃ k, TruV K x H' k ∧ Q k H') := h ▸ pt_truth ha he
section
variable {o e : Expr} {es : List Expr} {to : TE} {t : TA} {name : Str} {apos cpos : Pos} {T id : String} {r : V → List V → Hp → VK → Prop}
theorem pe_bmK (h : X.K = K) (pa : PlainAttrs T) (slot : Slot T name id) (hty : typeOf (.builtin id) = pure (.type "method_descriptor")) (hm : MtR X id r) (ho : PE X o to) (ha : PA X (e :: es) t)
    (hbase : attributeBase o name X.env (eval o X.env) = eval o X.env := by rfl)
    (hfew : ((backTo cpos (starEach (e :: es) X.env)).all (fun x => !x.1) && (backToKw cpos (keywordEach [] X.env)).all (fun x => x.1.isSome)
      && decide ((e :: es).length + ([] : List Keyword).length + (if ([] : List Keyword).isEmpty then 0 else 1) < 30)) = true := by rfl)
    (hline : (apos.endLine == cpos.line) = true := by rfl) (hs : starEach (e :: es) X.env = (false, eval e X.env) :: starEach es X.env := by rfl) (hplain : (backTo cpos (starEach es X.env)).any (·.1) = false := by rfl) :
    PE X (.Call (.Attribute o name apos) (e :: es) [] cpos) (tBM K T r to t) := h ▸ pe_bm pa slot hty hm ho ha hbase hfew hline hs hplain
end
end
theorem sv_nx {f : St → Hp → Prop} {rt : VK} {bk ct : St → Hp → Prop} {σ : St} {H : Hp} (h : f σ H) : ({ nx := f, rt := rt, bk := bk, ct := ct } : Ends).nx σ H := h
end L2
set_option Elab.async false
set_option linter.all false
set_option maxRecDepth 100000
set_option maxHeartbeats 4000000
namespace L2
open PySem PySem.Spec PyProof.Rows
section
variable {K : PySem.W.Frag} {σ : St} {G H : Hp} {α β γ : Type} [Rp α] [Rp β] [Rp γ] {ta tb te : TE} {rest t u : TS} {D : Ends} {i j : Nat}
end
end L2
set_option Elab.async false
set_option linter.all false
set_option maxRecDepth 100000
set_option maxHeartbeats 4000000
namespace L2
open PySem PySem.Spec PyProof.Rows
inductive D where
  | non
  | bl (b : Bool)
  | int (i : Int)
  | str (x : Str)
  | lst (l : List D)
  | tup (l : List D)
  | dic
mutual
inductive RelD (K : PySem.W.Frag) (H : Hp) : V → D → Prop where
  | non : RelD K H .non .non
  | bl (b : Bool) : RelD K H (.bl b) (.bl b)
  | int (i : Int) : RelD K H (.int i) (.int i)
  | str (x : Str) (z : x.length ≤ sizeLine) : RelD K H (.str x) (.str x)
  | lst {a : Addr} {xs : List V} {ds : List D} (h : Rd H a (.lst xs)) (z : xs.length ≤ sizeLine) (r : RelDs K H xs ds) : RelD K H (.ref a) (.lst ds)
  | tup {a : Addr} {xs : List V} {ds : List D} (h : SqT K H a xs) (z : xs.length ≤ sizeLine) (r : RelDs K H xs ds) : RelD K H (.ref a) (.tup ds)
  | dK {a : Addr} {kvs : List (Key × V)} (h : Rd H a (.dK kvs)) : RelD K H (.ref a) .dic
inductive RelDs (K : PySem.W.Frag) (H : Hp) : List V → List D → Prop where
  | nil : RelDs K H [] []
  | cons {x : V} {d : D} {xs : List V} {ds : List D} (h : RelD K H x d) (t : RelDs K H xs ds) : RelDs K H (x :: xs) (d :: ds)
end
mutual
theorem RelD.mono {K : PySem.W.Frag} {H H' : Hp} (s : Same H H') : ∀ {v : V} {d : D}, RelD K H v d → RelD K H' v d
  | _, _, .non => .non
  | _, _, .bl b => .bl b
  | _, _, .int i => .int i
  | _, _, .str x z => .str x z
  | _, _, .lst h z r => .lst (s.rd h) z (RelDs.mono s r)
  | _, _, .tup h z r => .tup (s.tup h) z (RelDs.mono s r)
  | _, _, .dK h => .dK (s.rd h)
theorem RelDs.mono {K : PySem.W.Frag} {H H' : Hp} (s : Same H H') : ∀ {v : List V} {d : List D}, RelDs K H v d → RelDs K H' v d
  | _, _, .nil => .nil
  | _, _, .cons h t => .cons (RelD.mono s h) (RelDs.mono s t)
end
instance rpD : Rp D := ⟨RelD, fun s h => RelD.mono s h⟩
theorem relDs_of {K : PySem.W.Frag} {H : Hp} : ∀ {xs : List V} {ds : List D}, Paired (Rp.rel K H) xs ds → RelDs K H xs ds
  | _, _, .nil => .nil
  | _, _, .cons h t => .cons h (relDs_of t)
theorem of_relDs {K : PySem.W.Frag} {H : Hp} : ∀ {xs : List V} {ds : List D}, RelDs K H xs ds → Paired (Rp.rel K H) xs ds
  | _, _, .nil => .nil
  | _, _, .cons h t => .cons h (of_relDs t)
class ToD (α : Type) [Rp α] where
  to : α → D
  rel : ∀ {K : PySem.W.Frag} {H : Hp} {v : V} {a : α}, Rp.rel K H v a → RelD K H v (to a)
theorem toDs {K : PySem.W.Frag} {H : Hp} {α : Type} [Rp α] [ToD α] : ∀ {xs : List V} {as : List α}, Paired (Rp.rel K H) xs as → Paired (Rp.rel (α := D) K H) xs (as.map ToD.to)
  | _, _, .nil => .nil
  | _, _, .cons h t => .cons (ToD.rel h) (toDs t)
instance tdD : ToD D := ⟨id, fun h => h⟩
instance tdInt : ToD Int := ⟨.int, fun h => by cases h; exact .int _⟩
instance tdBool : ToD Bool := ⟨.bl, fun h => by cases h; exact .bl _⟩
instance tdStr : ToD Str := ⟨.str, fun h => by obtain ⟨rfl, z⟩ := h; exact .str _ z⟩
instance tdUnit : ToD Unit := ⟨fun _ => .non, fun h => by cases h; exact .non⟩
instance tdList {α : Type} [Rp α] [ToD α] : ToD (List α) := ⟨fun l => .lst (l.map ToD.to), fun ⟨l, xs, e, h, z, p⟩ => by subst e; exact .lst h z (relDs_of (toDs p))⟩
instance tdTp {α : Type} [Rp α] [ToD α] : ToD (Tp α) := ⟨fun l => .tup (l.l.map ToD.to), fun ⟨l, xs, e, h, z, p⟩ => by subst e; exact .tup h z (relDs_of (toDs p))⟩
instance tdPair {α β : Type} [Rp α] [ToD α] [Rp β] [ToD β] : ToD (α × β) := ⟨fun p => .tup [ToD.to p.1, ToD.to p.2], fun ⟨t, x, y, e, h, r1, r2⟩ => by subst e; exact .tup h (by show 2 ≤ sizeLine; decide) (.cons (ToD.rel r1) (.cons (ToD.rel r2) .nil))⟩
def dk : D → String
  | .non => "NoneType"
  | .bl _ => "bool"
  | .int _ => "int"
  | .str _ => "str"
  | .lst _ => "list"
  | .tup _ => "tuple"
  | .dic => "dict"
def isK (T : String) (d : D) : Bool := dk d == T || (T == "int" && dk d == "bool")
section
variable {K : PySem.W.Frag} {σ : St} {G : Hp} {α β : Type} [Rp α] [Rp β] {ta tb te : TE} {md : Option D}
theorem ev_toD [ToD α] {m : Option α} (e : EV K te σ G m) : EV K te σ G (m.bind fun a => some (ToD.to a)) := by
  intro G1 s1 c hc H sH Q k
  obtain ⟨a, ha, hc⟩ := Option.bind_eq_some_iff.mp hc
  cases hc
  exact e G1 s1 a ha H sH Q fun v G2 H2 x r => k v G2 H2 x (ToD.rel r)
theorem RelD.ty {H : Hp} {v : V} {d : D} (r : RelD K H v d) : TyS K H v (dk d) := by
  cases r with
  | non => exact .non
  | bl => exact .bl _
  | int => exact .int _
  | str => exact .str _
  | lst h => exact .lst (.inl h)
  | tup h => exact .tup h
  | dK h => exact .dK h
theorem kit_all : ∀ n ∈ ["NoneType", "bool", "int", "str", "list", "tuple", "dict"], ∀ T ∈ ["str", "list", "tuple", "bool", "int", "dict"], kitC n T = some (n == T || (T == "int" && n == "bool")) := by decide +kernel
theorem isK_ok {T : String} (hT : T ∈ ["str", "list", "tuple", "bool", "int", "dict"]) (d : D) : kitC (dk d) T = some (isK T d) := by
  unfold isK
  exact kit_all (dk d) (by cases d <;> simp [dk]) T hT
theorem ev_instD {T : String} (hT : T ∈ ["str", "list", "tuple", "bool", "int", "dict"]) (ea : EV K ta σ G md) : EV K (tCB (rInst K) (tCons ta (tCons (tC (.ty T)) tNil))) σ G (md.bind fun d => some (isK T d)) := by
  intro G1 s1 c hc H sH Q k
  obtain ⟨a, ha, hc⟩ := Option.bind_eq_some_iff.mp hc
  cases hc
  refine ea G1 s1 a ha H sH _ fun v G2 H2 x2 r2 => ?_
  exact ⟨_, _, _, _, rfl, (RelD.ty r2).mono x2.gh, isK_ok hT a, k _ _ _ x2 rfl⟩
theorem RelDs.len {H : Hp} {xs : List V} {ds : List D} (r : RelDs K H xs ds) : xs.length = ds.length := Paired.length (of_relDs r)
theorem call_tupK {X : Cx} (h : X.K = K) : CallR X (.type "tuple") (fun xs H Q => ∃ p ys, xs = [.ref p] ∧ ((SqL K H p ys ∧ ∀ l, H l = none → Q (.ref l) (upd H l (.tup ys))) ∨ (SqT K H p ys ∧ Q (.ref p) H))) := h ▸ call_tuple_of
theorem ev_tuple {la : Option (List α)} (ea : EV K ta σ G la) : EV K (tCB (fun xs H Q => ∃ p ys, xs = [.ref p] ∧ ((SqL K H p ys ∧ ∀ l, H l = none → Q (.ref l) (upd H l (.tup ys))) ∨ (SqT K H p ys ∧ Q (.ref p) H))) (tCons ta tNil)) σ G (la.bind fun a => some (Tp.mk a)) := by
  intro G1 s1 c hc H sH Q k
  obtain ⟨a, ha, hc⟩ := Option.bind_eq_some_iff.mp hc
  cases hc
  refine ea G1 s1 a ha H sH _ fun v G2 H2 x2 r2 => ?_
  obtain ⟨l, xs, rfl, h, z, p⟩ := r2
  refine ⟨l, xs, rfl, .inl ⟨.inl (x2.gh.rd h), fun q hq => ?_⟩⟩
  exact k _ _ _ (x2.trans (.new x2.gh hq)) ⟨q, xs, rfl, SqT.of upd_same, z, Paired.imp' (fun _ _ r => Rp.mono (Same.new (x2.gh.free hq)) r) p⟩
end
end L2
set_option Elab.async false
set_option linter.all false
set_option maxRecDepth 100000
set_option maxHeartbeats 4000000
namespace L2
open PySem PySem.Spec PyProof.Rows
section
variable {K : PySem.W.Frag} {σ : St} {G : Hp} {ta : TE}
end
end L2
set_option Elab.async false
set_option linter.all false
set_option maxRecDepth 100000
set_option maxHeartbeats 4000000
namespace L2
open PySem PySem.Spec PyProof.Rows
def OK {α : Type} (m : Option α) (P : α → Prop) : Prop := ∃ a, m = some a ∧ P a
section
variable {α β S ρ : Type} {m : Option α} {P Q : α → Prop} {R : β → Prop}
theorem OK.mono (h : OK m P) (k : ∀ a, P a → Q a) : OK m Q := let ⟨a, e, p⟩ := h; ⟨a, e, k a p⟩
theorem ok_some {a : α} (h : P a) : OK (some a) P := ⟨a, rfl, h⟩
theorem ok_bind {f : α → Option β} (h : OK m fun a => OK (f a) R) : OK (m.bind f) R := by
  obtain ⟨a, rfl, h⟩ := h
  exact h
theorem ok_by {f : α → Option β} (h : OK m P) (k : ∀ a, P a → OK (f a) R) : OK (m.bind f) R := ok_bind (h.mono k)
theorem ok_cond {b : Bool} {x y : Option α} (h1 : b = true → OK x P) (h2 : b = false → OK y P) : OK (cond b x y) P := by
  cases b with
  | true => exact h1 rfl
  | false => exact h2 rfl
theorem OK.eq {a : α} (h : OK m fun b => b = a) : m = some a := by obtain ⟨b, e, rfl⟩ := h; exact e
theorem OK.of {a : α} (e : m = some a) (h : P a) : OK m P := ⟨a, e, h⟩
theorem bindS {α β : Type} (a : α) (f : α → Option β) : (some a).bind f = f a := by rw [Option.bind_some]
theorem bind_self {α : Type} (m : Option α) : (m.bind fun x => some x) = m := by cases m <;> rfl
theorem ok_mod {a b : Int} {P : Int → Prop} (hb : 0 < b) (h : P (a % b)) : OK (modO a b) P := ⟨_, if_pos hb, h⟩
theorem ok_mul {a b : Int} {P : Int → Prop} (hb : CMul a b) (h : P (a * b)) : OK (mulO a b) P := ⟨_, if_pos hb, h⟩
theorem ok_catL {a b : List α} {P : List α → Prop} (hb : a.length + b.length ≤ sizeLine) (h : P (a ++ b)) : OK (catL a b) P := ⟨_, if_pos hb, h⟩
theorem ok_push {a : List α} {b : α} {P : List α → Prop} (hb : a.length < sizeLine) (h : P (a ++ [b])) : OK (pushO a b) P := ⟨_, if_pos hb, h⟩
theorem ok_rng {lo hi : Int} {n : Nat} {P : List Int → Prop} (hn : hi - lo = n) (h0 : -1000000000 ≤ lo ∧ lo ≤ 1000000000) (h1 : n ≤ sizeLine) (h : P ((List.range n).map fun (i : Nat) => lo + (i : Int))) : OK (rngO lo hi) P := by
  have hs : sizeLine = 16777216 := sizeLine_eq
  have e : (hi - lo).toNat = n := by omega
  refine ⟨_, if_pos ⟨⟨by omega, by omega, by omega, by omega⟩, by omega⟩, ?_⟩
  rw [e]
  exact h
theorem ok_at {a : List α} {i : Int} (h0 : 0 ≤ i) (h1 : i < a.length) (h : ∀ x, a[i.toNat]? = some x → P x) : OK (atI a i) P := by
  obtain ⟨k, rfl⟩ := Int.eq_ofNat_of_zero_le h0
  have hk : k < a.length := by omega
  refine ⟨a[k], atI_nat (by simp [hk]), h _ ?_⟩
  rw [Int.toNat_natCast]
  simp [hk]
theorem ok_last {a : List α} (h : a ≠ []) (k : P (a.getLast h)) : OK (atI a (-1)) P := by
  refine ⟨_, ?_, k⟩
  have := atI_last a.dropLast (a.getLast h)
  rwa [List.dropLast_concat_getLast] at this
theorem ok_for {f : α → S → Option (Fl S ρ)} {as : List α} {s0 : S} (I : Nat → S → Prop) (J : S → Prop) (R : ρ → Prop) {P : Fl S ρ → Prop} (h0 : I 0 s0)
    (hs : ∀ (i : Nat) a s, as[i]? = some a → I i s → OK (f a s) fun fl => match fl with | .nx s' => I (i + 1) s' | .bk s' => J s' | .rt r => R r)
    (hn : ∀ s, I as.length s → P (.nx s)) (hj : ∀ s, J s → P (.nx s)) (hr : ∀ r, R r → P (.rt r)) : OK (forO f as s0) P := by
  have key : ∀ (n i : Nat) (s : S), n = as.length - i → i ≤ as.length → I i s → OK (forO f (as.drop i) s) P := by
    intro n
    induction n with
    | zero =>
      intro i s hn0 hi hI
      have e : i = as.length := by omega
      subst e
      rw [List.drop_length]
      exact ok_some (hn s hI)
    | succ n ih =>
      intro i s hn0 hi hI
      have hlt : i < as.length := by omega
      rw [List.drop_eq_getElem_cons hlt]
      obtain ⟨fl, e, h⟩ := hs i as[i] s (by simp [hlt]) hI
      show OK ((f as[i] s).bind _) P
      rw [e]
      cases fl with
      | nx s' => exact ih (i + 1) s' (by omega) hlt h
      | bk s' => exact ok_some (hj s' h)
      | rt r => exact ok_some (hr r h)
  exact key as.length 0 s0 (by omega) (Nat.zero_le _) h0
theorem ok_for' {f : α → S → Option (Fl S ρ)} {as : List α} {s0 : S} (I : Nat → S → Prop) {P : Fl S ρ → Prop} (h0 : I 0 s0)
    (hs : ∀ (i : Nat) a s, as[i]? = some a → I i s → OK (f a s) fun fl => ∃ s', fl = .nx s' ∧ I (i + 1) s') (hn : ∀ s, I as.length s → P (.nx s)) : OK (forO f as s0) P :=
  ok_for I (fun _ => False) (fun _ => False) h0 (fun i a s ha hI => (hs i a s ha hI).mono fun fl ⟨s', e, h⟩ => by subst e; exact h) hn (fun _ h => h.elim) fun _ h => h.elim
theorem ok_map {f : α → Option β} {g : α → β} {P : List β → Prop} : ∀ {as : List α}, (∀ a ∈ as, f a = some (g a)) → P (as.map g) → OK (mapO f as) P := by
  intro as
  have key : ∀ as : List α, (∀ a ∈ as, f a = some (g a)) → mapO f as = some (as.map g) := by
    intro as
    induction as with
    | nil => intro _; rfl
    | cons a r ih =>
      intro h
      show ((f a).bind fun y => (mapO f r).bind fun ys => some (y :: ys)) = _
      rw [h a List.mem_cons_self, ih fun x hx => h x (List.mem_cons_of_mem _ hx)]
      rfl
  exact fun h p => ⟨_, key as h, p⟩
theorem ok_mapR {f : α → Option β} {R : α → β → Prop} {P : List β → Prop} : ∀ {as : List α}, (∀ a ∈ as, OK (f a) (R a)) → (∀ bs : List β, bs.length = as.length → (∀ b ∈ bs, ∃ a ∈ as, R a b) → (∀ (i : Nat) a b, as[i]? = some a → bs[i]? = some b → R a b) → P bs) → OK (mapO f as) P := by
  intro as
  have key : ∀ as : List α, (∀ a ∈ as, OK (f a) (R a)) → OK (mapO f as) fun bs => bs.length = as.length ∧ (∀ b ∈ bs, ∃ a ∈ as, R a b) ∧ ∀ (i : Nat) a b, as[i]? = some a → bs[i]? = some b → R a b := by
    intro as
    induction as with
    | nil => intro _; exact ok_some ⟨rfl, fun b h => by simp at h, fun i a b h => by simp at h⟩
    | cons a r ih =>
      intro h
      refine ok_by (h a List.mem_cons_self) fun y hy => ok_by (ih fun x hx => h x (List.mem_cons_of_mem _ hx)) fun ys ⟨h1, h2, h3⟩ => ok_some ⟨by simp [h1], ?_, ?_⟩
      · intro b hb
        rcases List.mem_cons.mp hb with e | e
        · subst e
          exact ⟨a, List.mem_cons_self, hy⟩
        · obtain ⟨x, hx, hr⟩ := h2 b e
          exact ⟨x, List.mem_cons_of_mem _ hx, hr⟩
      · intro i x b hx hb
        cases i with
        | zero => simp at hx hb; subst hx; subst hb; exact hy
        | succ i => exact h3 i x b (by simpa using hx) (by simpa using hb)
  exact fun h p => (key as h).mono fun bs ⟨h1, h2, h3⟩ => p bs h1 h2 h3
end
end L2
set_option Elab.async false
set_option linter.all false
set_option maxRecDepth 100000
namespace Lasso
variable {α β : Type}
end Lasso
set_option Elab.async false
set_option linter.all false
set_option maxRecDepth 100000
namespace Lasso
variable {α : Type} [DecidableEq α]
end Lasso
set_option Elab.async false
set_option linter.all false
set_option maxRecDepth 100000
set_option maxHeartbeats 4000000
namespace L2
open PySem PySem.Spec PyProof.Rows
section
variable {K : PySem.W.Frag} {σ : St} {G H G0 H0 Gx G1 H1 G2 H2 : Hp} {α β : Type} [Rp α] [Rp β] {ta tb tc te : TE} {tt : TT} {t u rest : TS} {D : Ends} {i j : Nat} {v : V}
end
end L2
set_option Elab.async false
set_option linter.all false
set_option maxRecDepth 100000
set_option maxHeartbeats 4000000
namespace L2
open PySem PySem.Spec PyProof.Rows
section
variable {X : Cx} {K : PySem.W.Frag} {o : Expr} {to : TE} {name : Str} {apos cpos : Pos} {T id : String} {r : V → List V → Hp → VK → Prop}
end
section
variable {K : PySem.W.Frag} {σ : St} {G H G1 H1 G0 H0 : Hp} {α β : Type} [Rp α] [Rp β] {te ti : TE} {tt : TT} {t u rest : TS} {D : Ends} {i j : Nat} {a : α} {m : Option α} {as : List α} {v : V} {p q : Addr} {vs : List V}
def era (H : Hp) (C : List Addr) : Hp := fun a => if a ∈ C then none else H a
theorem era_in {C : List Addr} {b : Addr} (h : b ∈ C) : era H C b = none := if_pos h
theorem era_out {C : List Addr} {b : Addr} (h : b ∉ C) : era H C b = H b := if_neg h
theorem era_same {C : List Addr} : Same (era H C) H := fun b o e => by
  by_cases h : b ∈ C
  · rw [era_in h] at e
    cases e
  · rw [era_out h] at e
    exact e
theorem Ext.begin {C : List Addr} (s : Same G H) : Ext G (era H C) G H := ⟨.refl _, s, era_same, fun _ h _ => h⟩
theorem Ext.past {C : List Addr} (x : Ext G0 H0 G H) (h0 : ∀ b ∈ C, H0 b = none) (y : Ext G (era H C) G1 H1) : Ext G0 H0 G1 H1 := by
  refine ⟨x.gg.trans y.gg, y.gh, fun b o e => ?_, fun b g h => ?_⟩
  · have hb : b ∉ C := fun hc => by
      rw [h0 b hc] at e
      cases e
    exact y.hh b o (by rw [era_out hb]; exact x.hh b o e)
  · have hb : b ∉ C := fun hc => h (h0 b hc)
    refine y.no b (x.no b g h) ?_
    rw [era_out hb]
    cases e : H0 b with
    | none => exact absurd e h
    | some o =>
      rw [x.hh b o e]
      exact fun z => nomatch z
theorem Own.past {C : List Addr} (o : Own K G H v p vs as) (hp : p ∉ C) (y : Ext G (era H C) G1 H1) : Own K G1 H1 v p vs as :=
  ⟨o.v, y.no p o.g (by rw [era_out hp, o.h]; exact fun z => nomatch z), y.hh _ _ (by rw [era_out hp]; exact o.h), o.z, Paired.imp' (fun _ _ r => Rp.mono y.gg r) o.p⟩
end
end L2
set_option Elab.async false
set_option linter.all false
set_option maxRecDepth 100000
set_option maxHeartbeats 4000000
namespace L2
open PySem PySem.Spec PyProof.Rows
inductive Nt where
  | txt (x : Str)
  | tup (l : List Nt)
  | int (n : Int)
mutual
def Nt.dec : (a b : Nt) → Decidable (a = b)
  | .txt x, .txt y => if h : x = y then .isTrue (by rw [h]) else .isFalse fun e => h (by cases e; rfl)
  | .txt _, .tup _ => .isFalse fun e => by cases e
  | .tup _, .txt _ => .isFalse fun e => by cases e
  | .int m, .int n => if h : m = n then .isTrue (by rw [h]) else .isFalse fun e => h (by cases e; rfl)
  | .int _, .txt _ => .isFalse fun e => by cases e
  | .int _, .tup _ => .isFalse fun e => by cases e
  | .txt _, .int _ => .isFalse fun e => by cases e
  | .tup _, .int _ => .isFalse fun e => by cases e
  | .tup l, .tup m => match Nt.decs l m with
    | .isTrue h => .isTrue (by rw [h])
    | .isFalse h => .isFalse fun e => h (by cases e; rfl)
def Nt.decs : (l m : List Nt) → Decidable (l = m)
  | [], [] => .isTrue rfl
  | [], _ :: _ => .isFalse fun e => by cases e
  | _ :: _, [] => .isFalse fun e => by cases e
  | a :: l, b :: m => match Nt.dec a b with
    | .isFalse h => .isFalse fun e => h (by cases e; rfl)
    | .isTrue h => match Nt.decs l m with
      | .isTrue h2 => .isTrue (by rw [h, h2])
      | .isFalse h2 => .isFalse fun e => h2 (by cases e; rfl)
end
instance ntDec : DecidableEq Nt := Nt.dec
mutual
def Nt.dep : Nt → Nat
  | .txt _ => 0
  | .int _ => 0
  | .tup l => Nt.deps l + 1
def Nt.deps : List Nt → Nat
  | [] => 0
  | a :: l => max (Nt.dep a) (Nt.deps l)
end
mutual
inductive RelN (K : PySem.W.Frag) (H : Hp) : V → Nt → Prop where
  | txt (x : Str) (z : x.length ≤ sizeLine) : RelN K H (.str x) (.txt x)
  | int (n : Int) : RelN K H (.int n) (.int n)
  | tup {a : Addr} {xs : List V} {ds : List Nt} (h : SqT K H a xs) (z : xs.length ≤ sizeLine) (r : RelNs K H xs ds) (l : ds[0]? = some (.txt "lamp") → H a = some (.tup xs)) : RelN K H (.ref a) (.tup ds)
inductive RelNs (K : PySem.W.Frag) (H : Hp) : List V → List Nt → Prop where
  | nil : RelNs K H [] []
  | cons {x : V} {d : Nt} {xs : List V} {ds : List Nt} (h : RelN K H x d) (t : RelNs K H xs ds) : RelNs K H (x :: xs) (d :: ds)
end
mutual
theorem RelN.mono {K : PySem.W.Frag} {H H' : Hp} (s : Same H H') : ∀ {v : V} {d : Nt}, RelN K H v d → RelN K H' v d
  | _, _, .txt x z => .txt x z
  | _, _, .int n => .int n
  | _, _, .tup h z r l => .tup (s.tup h) z (RelNs.mono s r) fun e => s _ _ (l e)
theorem RelNs.mono {K : PySem.W.Frag} {H H' : Hp} (s : Same H H') : ∀ {v : List V} {d : List Nt}, RelNs K H v d → RelNs K H' v d
  | _, _, .nil => .nil
  | _, _, .cons h t => .cons (RelN.mono s h) (RelNs.mono s t)
end
instance rpN : Rp Nt := ⟨RelN, fun s h => RelN.mono s h⟩
theorem relNs_of {K : PySem.W.Frag} {H : Hp} : ∀ {xs : List V} {ds : List Nt}, Paired (Rp.rel K H) xs ds → RelNs K H xs ds
  | _, _, .nil => .nil
  | _, _, .cons h t => .cons h (relNs_of t)
theorem of_relNs {K : PySem.W.Frag} {H : Hp} : ∀ {xs : List V} {ds : List Nt}, RelNs K H xs ds → Paired (Rp.rel K H) xs ds
  | _, _, .nil => .nil
  | _, _, .cons h t => .cons h (of_relNs t)
theorem SqT.keep {K : PySem.W.Frag} {H H' : Hp} {a : Addr} {xs : List V} (s : TupK H H') (h : SqT K H a xs) : SqT K H' a xs := by
  rcases h with h | h
  · exact .inl (s.rd _ _ h)
  · exact .inr h
mutual
theorem RelN.keep {K : PySem.W.Frag} {H H' : Hp} (s : TupK H H') : ∀ {v : V} {d : Nt}, RelN K H v d → RelN K H' v d
  | _, _, .txt x z => .txt x z
  | _, _, .int n => .int n
  | _, _, .tup h z r l => .tup (SqT.keep s h) z (RelNs.keep s r) fun e => s.eq _ _ (l e)
theorem RelNs.keep {K : PySem.W.Frag} {H H' : Hp} (s : TupK H H') : ∀ {v : List V} {d : List Nt}, RelNs K H v d → RelNs K H' v d
  | _, _, .nil => .nil
  | _, _, .cons h t => .cons (RelN.keep s h) (RelNs.keep s t)
end
instance imN : Imm Nt := ⟨fun s h => RelN.keep s h⟩
def isTxt : Hp → V → Nt → Prop := fun _ v a => (∃ x, v = .str x ∧ a = .txt x) ∨ ∃ n, v = .int n ∧ a = .int n
def isU (K : PySem.W.Frag) (R : Hp → V → Nt → Prop) : Hp → V → Nt → Prop := fun H v a => isTxt H v a ∨ ∃ t xs l, v = .ref t ∧ SqT K H t xs ∧ a = .tup l ∧ Paired (R H) xs l
theorem txt_dec (x y : Str) : decide (Nt.txt x = Nt.txt y) = (x == y) := by
  rw [dec_beq]
  exact decide_eq_decide.mpr ⟨fun e => by cases e; rfl, fun e => by rw [e]⟩
theorem int_dec (m n : Int) : decide (Nt.int m = Nt.int n) = (m == n) := by
  rw [show (m == n) = decide (m = n) from rfl]
  exact decide_eq_decide.mpr ⟨fun e => by cases e; rfl, fun e => by rw [e]⟩
theorem eqTxt {K : PySem.W.Frag} : EqTy K 0 isTxt where
  fn := fun _ _ h h' => by
    rcases h with ⟨x, h1, e1⟩ | ⟨x, h1, e1⟩ <;> rcases h' with ⟨y, h2, e2⟩ | ⟨y, h2, e2⟩ <;> (subst h1; first | (cases h2; rw [e1, e2]; done) | cases h2)
  eq := fun A _ _ _ r1 r2 h h' => by
    rcases h with ⟨x, h1, e1⟩ | ⟨x, h1, e1⟩ <;> rcases h' with ⟨y, h2, e2⟩ | ⟨y, h2, e2⟩ <;> subst h1 <;> subst h2 <;> subst e1 <;> subst e2 <;> obtain ⟨t, rfl⟩ := r1 <;> obtain ⟨t', rfl⟩ := r2
    · rw [txt_dec]
      exact SeqAt.EqAt.str_str _ _ _ _
    · rw [decide_eq_false (fun e => by cases e)]
      exact SeqAt.EqAt.str_int _ _ _ _
    · rw [decide_eq_false (fun e => by cases e)]
      exact SeqAt.EqAt.int_str _ _ _ _
    · rw [int_dec]
      exact SeqAt.EqAt.int_int _ _ _ _
  rc := fun A _ _ _ r1 r2 h h' => by
    rcases h with ⟨x, h1, e1⟩ | ⟨x, h1, e1⟩ <;> rcases h' with ⟨y, h2, e2⟩ | ⟨y, h2, e2⟩ <;> subst h1 <;> subst h2 <;> subst e1 <;> subst e2 <;> obtain ⟨t, rfl⟩ := r1 <;> obtain ⟨t', rfl⟩ := r2
    · rw [txt_dec]
      exact ⟨SeqAt.RcAt.str_str _ _ _ _, SeqAt.RcNeAt.str_str _ _ _ _⟩
    · rw [decide_eq_false (fun e => by cases e)]
      exact ⟨SeqAt.RcAt.str_int _ _ _ _, SeqAt.RcNeAt.str_int _ _ _ _⟩
    · rw [decide_eq_false (fun e => by cases e)]
      exact ⟨SeqAt.RcAt.int_str _ _ _ _, SeqAt.RcNeAt.int_str _ _ _ _⟩
    · rw [int_dec]
      exact ⟨SeqAt.RcAt.int_int _ _ _ _, SeqAt.RcNeAt.int_int _ _ _ _⟩
theorem tups_dec {as bs : List Nt} {n m : Nat} (hn : n = as.length) (hm : m = bs.length) : ((List.range (min n m)).all (fun j => decide (as[j]? = bs[j]?)) && n == m) = decide (Nt.tup as = Nt.tup bs) := by
  subst hn
  subst hm
  by_cases hl : as.length = bs.length
  · rw [← hl, Nat.min_self, beq_self_eq_true, Bool.and_true, all_dec as bs hl]
    exact decide_eq_decide.mpr ⟨fun e => by rw [e], fun e => by cases e; rfl⟩
  · have h : (as.length == bs.length) = false := by simpa using hl
    have ne : Nt.tup as ≠ Nt.tup bs := fun e => by
      cases e
      exact hl rfl
    rw [h, Bool.and_false, decide_eq_false ne]
theorem eqNu {K : PySem.W.Frag} {k : Nat} {R : Hp → V → Nt → Prop} (E : EqTy K k R) : EqTy K (k + 1) (isU K R) := by
  have fn : ∀ {X : Cx} {pins : List (Addr × Obj)} {σ : St} {H : Hp} {s : Shared} {x : V} {a b : Nt}, X.K = K → Inv X pins σ H s → isU K R H x a → isU K R H x b → a = b := by
    intro X pins σ H s x a b hK I ha hb
    rcases ha with ha | ⟨t, xs, l, rfl, h1, rfl, p1⟩
    · rcases hb with hb | ⟨t, xs, l, e, _⟩
      · exact eqTxt.fn (K := K) hK I ha hb
      · subst e
        rcases ha with ⟨z, e, _⟩ | ⟨z, e, _⟩ <;> cases e
    · rcases hb with hb | ⟨t', ys, l', e, h2, rfl, p2⟩
      · rcases hb with ⟨z, e, _⟩ | ⟨z, e, _⟩ <;> cases e
      · cases e
        subst hK
        have := I.tuple_inj h1 h2
        subst this
        rw [paired_fn (F := R H) (fun _ _ _ p q => E.fn rfl I p q) p1 p2]
  have rc : ∀ {X : Cx} {pins : List (Addr × Obj)} {σ : St} {H : Hp} {s : Shared} {x y : V} {u v : Value} {a b : Nt} (A : Around), X.K = K → Inv X pins σ H s → A.units + (k + 1) < cLine → RelV x u → RelV y v → isU K R H x a → isU K R H y b →
      SeqAt.RcAt A s u v (decide (a = b)) ∧ SeqAt.RcNeAt A s u v (!decide (a = b)) := by
    intro X pins σ H s x y u v a b A hK I hu r1 r2 ha hb
    rcases ha with ha | ⟨t, xs, l, rfl, h1, rfl, p1⟩
    · rcases hb with hb | ⟨t', ys, l', rfl, h2, rfl, p2⟩
      · exact eqTxt.rc (K := K) A hK I (by omega) r1 r2 ha hb
      · subst hK
        obtain ⟨vs, ry, ply, _⟩ := I.tuple h2
        rcases ha with ⟨z, rfl, rfl⟩ | ⟨z, rfl, rfl⟩ <;> obtain ⟨tk, rfl⟩ := r1 <;> cases r2 <;> rw [decide_eq_false (fun e => by cases e)]
        · exact ⟨SeqAt.RcAt.str_tuple _ _ ply (by omega), SeqAt.RcNeAt.str_tuple _ _ ply (by omega)⟩
        · exact ⟨SeqAt.RcAt.int_tuple _ _ ply (by omega), SeqAt.RcNeAt.int_tuple _ _ ply (by omega)⟩
    · rcases hb with hb | ⟨t', ys, l', rfl, h2, rfl, p2⟩
      · subst hK
        obtain ⟨us, rx, plx, _⟩ := I.tuple h1
        rcases hb with ⟨z, rfl, rfl⟩ | ⟨z, rfl, rfl⟩ <;> obtain ⟨tk, rfl⟩ := r2 <;> cases r1 <;> rw [decide_eq_false (fun e => by cases e)]
        · exact ⟨SeqAt.RcAt.tuple_str _ _ plx (by omega), SeqAt.RcNeAt.tuple_str _ _ plx (by omega)⟩
        · exact ⟨SeqAt.RcAt.tuple_int _ _ plx (by omega), SeqAt.RcNeAt.tuple_int _ _ plx (by omega)⟩
      · cases r1; cases r2
        subst hK
        obtain ⟨us, rx, plx, _⟩ := I.tuple h1
        obtain ⟨vs, ry, ply, _⟩ := I.tuple h2
        have lx := rx.length
        have ly := ry.length
        have lpx := Paired.length p1
        have lpy := Paired.length p2
        have it := items_eqAt E rfl I hu rx ry p1 p2
        rw [← tups_dec (as := l) (bs := l') (n := us.toArray.size) (m := vs.toArray.size) (by simp; omega) (by simp; omega)]
        exact ⟨SeqAt.RcAt.tuples plx ply (by omega) it, SeqAt.RcNeAt.tuples plx ply (by omega) it⟩
  refine ⟨fn, ?_, rc⟩
  intro X pins σ H s x y u v a b A hK I hu r1 r2 ha hb
  have h := (rc A hK I hu r1 r2 ha hb).1
  rcases id ha with ha' | ⟨t, xs, l, rfl, h1, rfl, p1⟩
  · rcases id hb with hb' | ⟨t', ys, l', rfl, h2, rfl, p2⟩
    · exact eqTxt.eq (K := K) A hK I (by omega) r1 r2 ha' hb'
    · subst hK
      obtain ⟨vs, ry, ply, _⟩ := I.tuple h2
      rcases ha' with ⟨z, rfl, rfl⟩ | ⟨z, rfl, rfl⟩ <;> obtain ⟨tk, rfl⟩ := r1 <;> cases r2 <;> rw [decide_eq_false (fun e => by cases e)]
      · exact SeqAt.EqAt.str_tuple _ _ ply (by omega)
      · exact SeqAt.EqAt.int_tuple _ _ ply (by omega)
  · rcases id hb with hb' | ⟨t', ys, l', rfl, h2, rfl, p2⟩
    · subst hK
      obtain ⟨us, rx, plx, _⟩ := I.tuple h1
      rcases hb' with ⟨z, rfl, rfl⟩ | ⟨z, rfl, rfl⟩ <;> obtain ⟨tk, rfl⟩ := r2 <;> cases r1 <;> rw [decide_eq_false (fun e => by cases e)]
      · exact SeqAt.EqAt.tuple_str _ _ plx (by omega)
      · exact SeqAt.EqAt.tuple_int _ _ plx (by omega)
    · cases r1; cases r2
      by_cases e : t = t'
      · subst e
        have := fn hK I ha hb
        rw [decide_eq_true this]
        exact SeqAt.EqAt.same _
      · exact SeqAt.EqAt.of_refs e h
def isN (K : PySem.W.Frag) (d : Nat) : Hp → V → Nt → Prop := fun H v a => RelN K H v a ∧ a.dep ≤ d
theorem isNs {K : PySem.W.Frag} {H : Hp} {d : Nat} : ∀ {xs : List V} {l : List Nt}, RelNs K H xs l → Nt.deps l ≤ d → Paired (isN K d H) xs l
  | _, _, .nil, _ => .nil
  | _, _, .cons h t, hd => by
    unfold Nt.deps at hd
    exact .cons ⟨h, by omega⟩ (isNs t (by omega))
theorem eqN {K : PySem.W.Frag} : ∀ d : Nat, EqTy K d (isN K d)
  | 0 => eqTxt.imp fun H v a ⟨h, hd⟩ => by
    cases h with
    | txt x z => exact .inl ⟨x, rfl, rfl⟩
    | int n => exact .inr ⟨n, rfl, rfl⟩
    | tup h z r l =>
      unfold Nt.dep at hd
      omega
  | d + 1 => (eqNu (eqN d)).imp fun H v a ⟨h, hd⟩ => by
    cases h with
    | txt x z => exact .inl (.inl ⟨x, rfl, rfl⟩)
    | int n => exact .inl (.inr ⟨n, rfl, rfl⟩)
    | tup h z r l =>
      unfold Nt.dep at hd
      exact .inr ⟨_, _, _, rfl, h, rfl, isNs r (by omega)⟩
def rEqN (K : PySem.W.Frag) : R2 := fun x y H Q => ∃ a b : Nt, isN K 180 H x a ∧ isN K 180 H y b ∧ Q (.bl (decide (a = b))) H
def rNeN (K : PySem.W.Frag) : R2 := fun x y H Q => ∃ a b : Nt, isN K 180 H x a ∧ isN K 180 H y b ∧ Q (.bl (!decide (a = b))) H
theorem op_eqN {X : Cx} {K : PySem.W.Frag} {j : Nat} (hK : X.K = K) (hr : Room j X.A) : OpR X (compareOp .Eq) (rEqN K) := by
  intro pins s σ H x y v u Q I rx ry h
  obtain ⟨a, b, h1, h2, q⟩ := h
  exact ((eqN 180).rc X.A hK I (by have := hr.un; omega) rx ry h1 h2).1 _ _ _ _ ⟨.bl _, H, I, rfl, q⟩
theorem op_neN {X : Cx} {K : PySem.W.Frag} {j : Nat} (hK : X.K = K) (hr : Room j X.A) : OpR X (compareOp .NotEq) (rNeN K) := by
  intro pins s σ H x y v u Q I rx ry h
  obtain ⟨a, b, h1, h2, q⟩ := h
  exact ((eqN 180).rc X.A hK I (by have := hr.un; omega) rx ry h1 h2).2 _ _ _ _ ⟨.bl _, H, I, rfl, q⟩
def eqNO (a b : Nt) : Option Bool := if a.dep ≤ 180 ∧ b.dep ≤ 180 then some (decide (a = b)) else none
def neNO (a b : Nt) : Option Bool := if a.dep ≤ 180 ∧ b.dep ≤ 180 then some (!decide (a = b)) else none
section
variable {K : PySem.W.Frag} {σ : St} {G : Hp} {ta tb te : TE} {m1 m2 md : Option Nt}
theorem ev_eqN (ea : EV K ta σ G m1) (eb : EV K tb σ G m2) : EV K (tOp (rEqN K) ta tb) σ G (m1.bind fun a => m2.bind fun b => eqNO a b) :=
  ev_bin (fun s ra rb e Q k => by
    obtain ⟨⟨h1, h2⟩, rfl⟩ := ite_some e
    exact ⟨_, _, ⟨RelN.mono s ra, h1⟩, ⟨RelN.mono s rb, h2⟩, k _ _ _ (.refl s) rfl⟩) ea eb
theorem ev_neN (ea : EV K ta σ G m1) (eb : EV K tb σ G m2) : EV K (tOp (rNeN K) ta tb) σ G (m1.bind fun a => m2.bind fun b => neNO a b) :=
  ev_bin (fun s ra rb e Q k => by
    obtain ⟨⟨h1, h2⟩, rfl⟩ := ite_some e
    exact ⟨_, _, ⟨RelN.mono s ra, h1⟩, ⟨RelN.mono s rb, h2⟩, k _ _ _ (.refl s) rfl⟩) ea eb
def tupNO (t : Tp Nt) : Option Nt := if t.l[0]? = some (.txt "lamp") then none else some (.tup t.l)
theorem ev_tupN {m : Option (Tp Nt)} (e : EV K te σ G m) : EV K te σ G (m.bind fun t => tupNO t) := by
  intro G1 s1 c hc H sH Q k
  obtain ⟨t, ht, hc⟩ := Option.bind_eq_some_iff.mp hc
  unfold tupNO at hc
  by_cases hl : t.l[0]? = some (.txt "lamp")
  · rw [if_pos hl] at hc
    cases hc
  · rw [if_neg hl] at hc
    cases hc
    exact e G1 s1 t ht H sH Q fun v G2 H2 x2 ⟨a, xs, e, h, z, p⟩ => k v G2 H2 x2 (by subst e; exact .tup h z (relNs_of p) fun e => absurd e hl)
def asTxt : Nt → Option Str
  | .txt x => some x
  | _ => none
def asTup : Nt → Option (Tp Nt)
  | .tup l => some ⟨l⟩
  | _ => none
theorem ev_asTxt (e : EV K te σ G md) : EV K te σ G (md.bind fun d => asTxt d) := by
  intro G1 s1 c hc H sH Q k
  obtain ⟨d, hd, hc⟩ := Option.bind_eq_some_iff.mp hc
  refine e G1 s1 d hd H sH Q fun v G2 H2 x r => ?_
  cases r with
  | txt y z =>
    cases hc
    exact k _ _ _ x ⟨rfl, z⟩
  | int n => cases hc
  | tup h z r l => cases hc
theorem ev_asTup (e : EV K te σ G md) : EV K te σ G (md.bind fun d => asTup d) := by
  intro G1 s1 c hc H sH Q k
  obtain ⟨d, hd, hc⟩ := Option.bind_eq_some_iff.mp hc
  refine e G1 s1 d hd H sH Q fun v G2 H2 x r => ?_
  cases r with
  | txt y z => cases hc
  | int n => cases hc
  | tup h z r l =>
    cases hc
    exact k _ _ _ x ⟨_, _, rfl, h, z, of_relNs r⟩
end
end L2
set_option Elab.async false
set_option linter.all false
set_option maxRecDepth 100000
set_option maxHeartbeats 4000000
namespace L2
open PySem PySem.Spec PyProof.Rows
section
variable {X : Cx} {K : PySem.W.Frag}
theorem sl_tupK (h : X.K = K) : SlR X (rSlT K) := h ▸ sl_tup
end
section
variable {K : PySem.W.Frag} {σ : St} {G : Hp} {α : Type} [Rp α] {ta tb tc te : TE} {t1 t2 : TO} {ia ib ic : Option Int} {m1 m2 : Option (Option Int)}
def cutT? {α : Type} (l : List α) (lo hi : Option Int) : Option (Tp α) := if ¬ (HT.sIx l.length 0 lo = 0 ∧ HT.sIx l.length l.length hi = l.length) then some ⟨cutA l lo hi⟩ else none
theorem ev_sliceT {ma : Option (Tp α)} (ea : EV K ta σ G ma) (e1 : OV t1 σ G m1) (e2 : OV t2 σ G m2) : EV K (tSl (rSlT K) ta t1 t2) σ G (ma.bind fun a => m1.bind fun lo => m2.bind fun hi => cutT? a.l lo hi) := by
  intro G1 s1 c hc H sH Q k
  obtain ⟨a, ha, hc⟩ := Option.bind_eq_some_iff.mp hc
  obtain ⟨lo, hlo, hc⟩ := Option.bind_eq_some_iff.mp hc
  obtain ⟨hi, hhi, hc⟩ := Option.bind_eq_some_iff.mp hc
  obtain ⟨hw, rfl⟩ := ite_some hc
  refine ea G1 s1 a ha H sH _ fun v G2 H2 x2 r2 => ?_
  refine e1 G2 (s1.trans x2.gg) lo hlo H2 x2.gh _ fun G3 H3 x3 => ?_
  refine e2 G3 (s1.trans (x2.trans x3).gg) hi hhi H3 x3.gh _ fun G4 H4 x4 => ?_
  obtain ⟨l, xs, rfl, h, z, p⟩ := Rp.mono (x3.trans x4).gg r2
  have hl := Paired.length p
  refine ⟨l, xs, rfl, x4.gh.tup h, by rw [hl]; exact hw, fun q hq => ?_⟩
  have hg : G4 q = none := x4.gh.free hq
  refine k _ (upd G4 q (.tup (cutV xs lo hi))) _ (((x2.trans x3).trans x4).trans ⟨Same.new hg, fun b o e => ?_, Same.new hq, fun b h1 h2 => ?_⟩) ⟨q, _, rfl, .inl (.inl upd_same), Nat.le_trans (cutV_length _ _ _) z, Paired.imp' (fun _ _ r => Rp.mono (Same.new hg) r) (Paired.cut p lo hi)⟩
  · by_cases hb : b = q
    · subst hb
      rw [upd_same] at e ⊢
      exact e
    · rw [upd_ne hb] at e ⊢
      exact x4.gh b o e
  · have hb : b ≠ q := fun e => h2 (by rw [e]; exact hq)
    rw [upd_ne hb]
    exact h1
class Flat (α : Type) [Rp α] [DecidableEq α] : Prop where
  fl : ∀ {K : PySem.W.Frag} {H : Hp} {v : V} {a : α}, Rp.rel K H v a → flatV v = true
  eq : ∀ {K : PySem.W.Frag} {H H' : Hp} {v u : V} {a b : α}, Rp.rel K H v a → Rp.rel K H' u b → eqV v u = decide (a = b)
instance flInt : Flat Int := ⟨fun h => by cases h; rfl, fun h h' => by cases h; cases h'; exact dec_beq _ _⟩
instance flStr : Flat Str := ⟨fun h => by obtain ⟨rfl, _⟩ := h; rfl, fun h h' => by obtain ⟨rfl, _⟩ := h; obtain ⟨rfl, _⟩ := h'; exact dec_beq _ _⟩
instance flBool : Flat Bool := ⟨fun h => by cases h; rfl, fun h h' => by cases h; cases h'; exact dec_beq _ _⟩
end
mutual
def Nt.toD : Nt → D
  | .txt x => .str x
  | .int n => .int n
  | .tup l => .tup (Nt.toDs l)
def Nt.toDs : List Nt → List D
  | [] => []
  | a :: l => Nt.toD a :: Nt.toDs l
end
mutual
theorem RelN.toD {K : PySem.W.Frag} {H : Hp} : ∀ {v : V} {a : Nt}, RelN K H v a → RelD K H v a.toD
  | _, _, .txt x z => by unfold Nt.toD; exact .str x z
  | _, _, .int n => by unfold Nt.toD; exact .int n
  | _, _, .tup h z r _ => by unfold Nt.toD; exact .tup h z (RelNs.toD r)
theorem RelNs.toD {K : PySem.W.Frag} {H : Hp} : ∀ {xs : List V} {l : List Nt}, RelNs K H xs l → RelDs K H xs (Nt.toDs l)
  | _, _, .nil => by unfold Nt.toDs; exact .nil
  | _, _, .cons h t => by unfold Nt.toDs; exact .cons (RelN.toD h) (RelNs.toD t)
end
instance tdN : ToD Nt := ⟨Nt.toD, fun h => RelN.toD h⟩
end L2
set_option Elab.async false
set_option linter.all false
set_option maxRecDepth 100000
set_option maxHeartbeats 4000000
namespace L2
open PySem PySem.Spec PyProof.Rows
section
variable {K : PySem.W.Frag} {σ : St} {G H G1 H1 G0 H0 : Hp} {α β γ : Type} [Rp α] [Rp β] [Rp γ] {te ti : TE} {tt : TT} {t u rest : TS} {D : Ends} {i j : Nat} {as : List α} {bs : List β} {v w : V} {p q : Addr} {vs ws : List V}
theorem Own.over {o : HO} (h : Own K G H v p vs as) (ne : p ≠ q) (hq : G q = none) : Own K (upd G q o) H v p vs as :=
  ⟨h.v, by rw [upd_ne ne]; exact h.g, h.h, h.z, Paired.imp' (fun _ _ r => Rp.mono (Same.new hq) r) h.p⟩
end
end L2
set_option Elab.async false
set_option linter.all false
set_option maxRecDepth 100000
set_option maxHeartbeats 4000000
namespace L2
open PySem PySem.Spec PyProof.Rows
section
variable {K : PySem.W.Frag} {σ : St} {G H G1 H1 G2 H2 G0 H0 : Hp} {α β γ δ : Type} [Rp α] [Rp β] [Rp γ] [Rp δ] {te ta tb ti : TE} {t : TA} {tt : TT} {rest : TS} {D : Ends} {i j n : Nat} {as as' : List α} {v w : V} {p q : Addr} {vs ws : List V}
def cutX (x : Scr) (lo hi : Option Int) : Option (List Int) := if x.l.length ≤ sizeLine then some (cutA x.l lo hi) else none
theorem paired_scr (H : Hp) : ∀ l : List Int, Paired (Rp.rel K H) (l.map V.int) l
  | [] => .nil
  | a :: r => .cons rfl (paired_scr H r)
theorem fv_sliceX {t1 t2 : TO} {m1 m2 : Option (Option Int)} {ma : Option Scr} (ea : EV K ta σ G ma) (e1 : OV t1 σ G m1) (e2 : OV t2 σ G m2) : FV K (tSl (rSl K) ta t1 t2) σ G (ma.bind fun a => m1.bind fun lo => m2.bind fun hi => cutX a lo hi) := by
  intro G1 s1 c hc H sH Q k
  obtain ⟨a, ha, hc⟩ := Option.bind_eq_some_iff.mp hc
  obtain ⟨lo, hlo, hc⟩ := Option.bind_eq_some_iff.mp hc
  obtain ⟨hi, hhi, hc⟩ := Option.bind_eq_some_iff.mp hc
  obtain ⟨z, rfl⟩ := ite_some hc
  refine ea G1 s1 a ha H sH _ fun v G2 H2 x2 r2 => ?_
  refine e1 G2 (s1.trans x2.gg) lo hlo H2 x2.gh _ fun G3 H3 x3 => ?_
  refine e2 G3 (s1.trans (x2.trans x3).gg) hi hhi H3 x3.gh _ fun G4 H4 x4 => ?_
  obtain ⟨l, rfl, h⟩ := Rp.mono (x3.trans x4).gg r2
  exact ⟨_, x4.gh.seq h, fv_of x4.gh (Nat.le_trans (cutV_length _ _ _) (by rw [List.length_map]; exact z)) (Paired.cut (paired_scr G4 a.l) lo hi) (FV.mono ((x2.trans x3).trans x4) k)⟩
end
end L2
set_option Elab.async false
set_option linter.all false
set_option maxRecDepth 100000
set_option maxHeartbeats 4000000
namespace L2
open PySem PySem.Spec PyProof.Rows
section
variable {K : PySem.W.Frag} {σ : St} {G : Hp} {ta : TE}
end
end L2
set_option Elab.async false
set_option linter.all false
set_option maxRecDepth 100000
set_option maxHeartbeats 4000000
namespace L2
open PySem PySem.Spec PyProof.Rows
section
variable {K : PySem.W.Frag} {σ : St} {G H : Hp} {α β γ : Type} [Rp α] [Rp β] [Rp γ] {ta tb te : TE} {rest : TS} {D : Ends} {i j : Nat}
end
end L2
set_option Elab.async false
set_option linter.all false
set_option maxRecDepth 100000
set_option maxHeartbeats 4000000
namespace L2
open PySem PySem.Spec PyProof.Rows
def isTps (K : PySem.W.Frag) {α : Type} (R : Hp → V → α → Prop) : Hp → V → Tp α → Prop := fun H x a => ∃ t xs, x = .ref t ∧ SqT K H t xs ∧ Paired (R H) xs a.l
theorem tp_dec {α : Type} [DecidableEq α] {as bs : Tp α} {n m : Nat} (hn : n = as.l.length) (hm : m = bs.l.length) : ((List.range (min n m)).all (fun j => decide (as.l[j]? = bs.l[j]?)) && n == m) = decide (as = bs) := by
  obtain ⟨as⟩ := as
  obtain ⟨bs⟩ := bs
  subst hn
  subst hm
  by_cases hl : as.length = bs.length
  · show ((List.range (min as.length bs.length)).all (fun j => decide (as[j]? = bs[j]?)) && as.length == bs.length) = _
    rw [← hl, Nat.min_self, beq_self_eq_true, Bool.and_true, all_dec as bs hl]
    exact decide_eq_decide.mpr ⟨fun e => by rw [e], fun e => by cases e; rfl⟩
  · have h : (as.length == bs.length) = false := by simpa using hl
    have ne : Tp.mk as ≠ Tp.mk bs := fun e => by
      cases e
      exact hl rfl
    show (_ && as.length == bs.length) = _
    rw [h, Bool.and_false, decide_eq_false ne]
theorem eqTp {K : PySem.W.Frag} {k : Nat} {α : Type} [DecidableEq α] {R : Hp → V → α → Prop} (E : EqTy K k R) : EqTy K (k + 1) (isTps K R) := by
  have fn : ∀ {X : Cx} {pins : List (Addr × Obj)} {σ : St} {H : Hp} {s : Shared} {x : V} {a b : Tp α}, X.K = K → Inv X pins σ H s → isTps K R H x a → isTps K R H x b → a = b := by
    intro X pins σ H s x a b hK I ha hb
    obtain ⟨a⟩ := a
    obtain ⟨b⟩ := b
    obtain ⟨l, xs, rfl, h1, p1⟩ := ha
    obtain ⟨l', ys, e, h2, p2⟩ := hb
    cases e
    subst hK
    have := I.tuple_inj h1 h2
    subst this
    exact congrArg Tp.mk (paired_fn (F := R H) (fun _ _ _ p q => E.fn rfl I p q) p1 p2)
  have rc : ∀ {X : Cx} {pins : List (Addr × Obj)} {σ : St} {H : Hp} {s : Shared} {x y : V} {u v : Value} {a b : Tp α} (A : Around), X.K = K → Inv X pins σ H s → A.units + (k + 1) < cLine → RelV x u → RelV y v → isTps K R H x a → isTps K R H y b →
      SeqAt.RcAt A s u v (decide (a = b)) ∧ SeqAt.RcNeAt A s u v (!decide (a = b)) := by
    intro X pins σ H s x y u v a b A hK I hu r1 r2 ha hb
    obtain ⟨l, xs, rfl, h1, p1⟩ := ha
    obtain ⟨l', ys, rfl, h2, p2⟩ := hb
    cases r1; cases r2
    subst hK
    obtain ⟨us, rx, plx, _⟩ := I.tuple h1
    obtain ⟨vs, ry, ply, _⟩ := I.tuple h2
    have lx := rx.length
    have ly := ry.length
    have lpx := Paired.length p1
    have lpy := Paired.length p2
    have it := items_eqAt E rfl I hu rx ry p1 p2
    rw [← tp_dec (as := a) (bs := b) (n := us.toArray.size) (m := vs.toArray.size) (by simp; omega) (by simp; omega)]
    exact ⟨SeqAt.RcAt.tuples plx ply (by omega) it, SeqAt.RcNeAt.tuples plx ply (by omega) it⟩
  refine ⟨fn, ?_, rc⟩
  intro X pins σ H s x y u v a b A hK I hu r1 r2 ha hb
  have h := (rc A hK I hu r1 r2 ha hb).1
  obtain ⟨l, xs, rfl, h1, p1⟩ := id ha
  obtain ⟨l', ys, rfl, h2, p2⟩ := id hb
  cases r1; cases r2
  by_cases e : l = l'
  · subst e
    have : a = b := fn hK I ha hb
    rw [decide_eq_true this]
    exact SeqAt.EqAt.same _
  · exact SeqAt.EqAt.of_refs e h
theorem vals3' {x y z : V} {us : List Value} (h : Vals [x, y, z] us) : ∃ a b c, us = [a, b, c] ∧ RelV x a ∧ RelV y b ∧ RelV z c := by
  cases h with
  | cons r t => cases t with
    | cons r' t' => cases t' with
      | cons r'' t'' => cases t''; exact ⟨_, _, _, rfl, r, r', r''⟩
def isT3 (K : PySem.W.Frag) {α β γ : Type} (R : Hp → V → α → Prop) (S : Hp → V → β → Prop) (T : Hp → V → γ → Prop) : Hp → V → T3 α β γ → Prop := fun H x p => ∃ t a b c, x = .ref t ∧ SqT K H t [a, b, c] ∧ R H a p.a ∧ S H b p.b ∧ T H c p.c
theorem eqT3 {K : PySem.W.Frag} {k : Nat} {α β γ : Type} [DecidableEq α] [DecidableEq β] [DecidableEq γ] {R : Hp → V → α → Prop} {S : Hp → V → β → Prop} {T : Hp → V → γ → Prop} (E : EqTy K k R) (G : EqTy K k S) (F : EqTy K k T) : EqTy K (k + 1) (isT3 K R S T) := by
  have fn : ∀ {X : Cx} {pins : List (Addr × Obj)} {σ : St} {H : Hp} {s : Shared} {x : V} {a b : T3 α β γ}, X.K = K → Inv X pins σ H s → isT3 K R S T H x a → isT3 K R S T H x b → a = b := by
    intro X pins σ H s x a b hK I ha hb
    obtain ⟨l, x1, x2, x3, rfl, h1, p1, p2, p3⟩ := ha
    obtain ⟨l', y1, y2, y3, e, h2, q1, q2, q3⟩ := hb
    cases e
    subst hK
    have := I.tuple_inj h1 h2
    cases this
    obtain ⟨a1, a2, a3⟩ := a
    obtain ⟨b1, b2, b3⟩ := b
    have e1 : a1 = b1 := E.fn rfl I p1 q1
    have e2 : a2 = b2 := G.fn rfl I p2 q2
    have e3 : a3 = b3 := F.fn rfl I p3 q3
    rw [e1, e2, e3]
  have rc : ∀ {X : Cx} {pins : List (Addr × Obj)} {σ : St} {H : Hp} {s : Shared} {x y : V} {u v : Value} {a b : T3 α β γ} (A : Around), X.K = K → Inv X pins σ H s → A.units + (k + 1) < cLine → RelV x u → RelV y v → isT3 K R S T H x a → isT3 K R S T H y b →
      SeqAt.RcAt A s u v (decide (a = b)) ∧ SeqAt.RcNeAt A s u v (!decide (a = b)) := by
    intro X pins σ H s x y u v a b A hK I hu r1 r2 ha hb
    obtain ⟨l, x1, x2, x3, rfl, h1, p1, p2, p3⟩ := ha
    obtain ⟨l', y1, y2, y3, rfl, h2, q1, q2, q3⟩ := hb
    cases r1; cases r2
    subst hK
    obtain ⟨us, rx, plx, _⟩ := I.tuple h1
    obtain ⟨vs, ry, ply, _⟩ := I.tuple h2
    obtain ⟨u1, u2, u3, rfl, ru1, ru2, ru3⟩ := vals3' rx
    obtain ⟨v1, v2, v3, rfl, rv1, rv2, rv3⟩ := vals3' ry
    have e1 := E.eq A.in1 rfl I (show A.units + 1 + k < cLine by omega) ru1 rv1 p1 q1
    have e2 := G.eq A.in1 rfl I (show A.units + 1 + k < cLine by omega) ru2 rv2 p2 q2
    have e3 := F.eq A.in1 rfl I (show A.units + 1 + k < cLine by omega) ru3 rv3 p3 q3
    have it : ∀ j (h1 : j < [u1, u2, u3].toArray.size) (h2 : j < [v1, v2, v3].toArray.size), SeqAt.EqAt A.in1 s [u1, u2, u3].toArray[j] [v1, v2, v3].toArray[j] ((fun j => if j = 0 then decide (a.a = b.a) else if j = 1 then decide (a.b = b.b) else decide (a.c = b.c)) j) := by
      intro j h1 h2
      match j, h1 with
      | 0, _ => exact e1
      | 1, _ => exact e2
      | 2, _ => exact e3
      | j + 3, h => exact absurd h (by simp)
    have ed : ((List.range (min [u1, u2, u3].toArray.size [v1, v2, v3].toArray.size)).all (fun j => if j = 0 then decide (a.a = b.a) else if j = 1 then decide (a.b = b.b) else decide (a.c = b.c)) && [u1, u2, u3].toArray.size == [v1, v2, v3].toArray.size) = decide (a = b) := by
      apply Bool.eq_iff_iff.mpr
      rw [decide_eq_true_iff]
      constructor
      · intro h
        have h : (decide (a.a = b.a) && (decide (a.b = b.b) && (decide (a.c = b.c) && true)) && true) = true := h
        simp only [Bool.and_true, Bool.and_eq_true, decide_eq_true_iff] at h
        obtain ⟨a1, a2, a3⟩ := a
        obtain ⟨b1, b2, b3⟩ := b
        obtain ⟨h1, h2, h3⟩ := h
        dsimp only at h1 h2 h3
        rw [h1, h2, h3]
      · rintro rfl
        show (decide (a.a = a.a) && (decide (a.b = a.b) && (decide (a.c = a.c) && true)) && true) = true
        simp
    rw [← ed]
    exact ⟨SeqAt.RcAt.tuples plx ply (by omega) it, SeqAt.RcNeAt.tuples plx ply (by omega) it⟩
  refine ⟨fn, ?_, rc⟩
  intro X pins σ H s x y u v a b A hK I hu r1 r2 ha hb
  have h := (rc A hK I hu r1 r2 ha hb).1
  obtain ⟨l, x1, x2, x3, rfl, h1, p1, p2, p3⟩ := id ha
  obtain ⟨l', y1, y2, y3, rfl, h2, q1, q2, q3⟩ := id hb
  cases r1; cases r2
  by_cases e : l = l'
  · subst e
    have : a = b := fn hK I ha hb
    rw [decide_eq_true this]
    exact SeqAt.EqAt.same _
  · exact SeqAt.EqAt.of_refs e h
class NoN (α : Type) [Rp α] : Prop where
  no_non : ∀ {K : PySem.W.Frag} {H : Hp} {x : V} {a : α}, Rp.rel K H x a → x ≠ .non
  ne : ∀ {K : PySem.W.Frag} {X : Cx} {pins : List (Addr × Obj)} {σ : St} {H : Hp} {s : Shared} {x : V} {u : Value} {a : α} (A : Around), X.K = K → Inv X pins σ H s → A.units < cLine → RelV x u → Rp.rel K H x a →
    (SeqAt.EqAt A s .none u false ∧ SeqAt.RcAt A s .none u false ∧ SeqAt.RcNeAt A s .none u true) ∧ SeqAt.EqAt A s u .none false ∧ SeqAt.RcAt A s u .none false ∧ SeqAt.RcNeAt A s u .none true
instance nnInt : NoN Int := ⟨fun h => (by cases h; exact fun z => (nomatch z)), fun A hK I hu r h => by
  cases h
  obtain ⟨t, rfl⟩ := r
  exact ⟨⟨SeqAt.EqAt.none_int _ _, SeqAt.RcAt.none_int _ _, SeqAt.RcNeAt.none_int _ _⟩, SeqAt.EqAt.int_none _ _, SeqAt.RcAt.int_none _ _, SeqAt.RcNeAt.int_none _ _⟩⟩
instance nnPair {α β : Type} [Rp α] [Rp β] : NoN (α × β) := ⟨fun h => (by obtain ⟨_, _, _, rfl, _⟩ := h; exact fun z => (nomatch z)), fun A hK I hu r h => by
  obtain ⟨t, x, y, rfl, h, _⟩ := h
  cases r
  subst hK
  obtain ⟨us, rx, pl, _⟩ := I.tuple h
  exact ⟨⟨SeqAt.EqAt.none_tuple pl hu, SeqAt.RcAt.none_tuple pl hu, SeqAt.RcNeAt.none_tuple pl hu⟩, SeqAt.EqAt.tuple_none pl hu, SeqAt.RcAt.tuple_none pl hu, SeqAt.RcNeAt.tuple_none pl hu⟩⟩
theorem eqOpt {K : PySem.W.Frag} {k : Nat} {α : Type} [Rp α] [DecidableEq α] [NoN α] (E : EqTy K k (Rp.rel (α := α) K)) : EqTy K k (Rp.rel (α := Option α) K) where
  fn := by
    intro X pins σ H s x a b hK I ha hb
    cases a with
    | none =>
      cases b with
      | none => rfl
      | some b =>
        have ha : x = .non := ha
        subst ha
        exact absurd rfl (NoN.no_non (α := α) hb)
    | some a =>
      cases b with
      | none =>
        have hb : x = .non := hb
        subst hb
        exact absurd rfl (NoN.no_non (α := α) ha)
      | some b => exact congrArg some (E.fn hK I ha hb)
  eq := by
    intro X pins σ H s x y u v a b A hK I hu r1 r2 ha hb
    cases a with
    | none =>
      have ha : x = .non := ha
      subst ha
      cases r1
      cases b with
      | none =>
        have hb : y = .non := hb
        subst hb
        cases r2
        exact SeqAt.EqAt.same _
      | some b => exact (NoN.ne (α := α) A hK I (by omega) r2 hb).1.1
    | some a =>
      cases b with
      | none =>
        have hb : y = .non := hb
        subst hb
        cases r2
        exact (NoN.ne (α := α) A hK I (by omega) r1 ha).2.1
      | some b =>
        have := E.eq A hK I hu r1 r2 ha hb
        have e3 : decide (some a = some b) = decide (a = b) := by simp
        rw [e3]
        exact this
  rc := by
    intro X pins σ H s x y u v a b A hK I hu r1 r2 ha hb
    cases a with
    | none =>
      have ha : x = .non := ha
      subst ha
      cases r1
      cases b with
      | none =>
        have hb : y = .non := hb
        subst hb
        cases r2
        exact ⟨SeqAt.RcAt.none_none, SeqAt.RcNeAt.none_none⟩
      | some b => exact (NoN.ne (α := α) A hK I (by omega) r2 hb).1.2
    | some a =>
      cases b with
      | none =>
        have hb : y = .non := hb
        subst hb
        cases r2
        exact (NoN.ne (α := α) A hK I (by omega) r1 ha).2.2
      | some b =>
        have := E.rc A hK I hu r1 r2 ha hb
        have e3 : decide (some a = some b) = decide (a = b) := by simp
        rw [e3]
        exact this
instance reTp {α : Type} [Rp α] [DecidableEq α] [RpE α] : RpE (Tp α) := ⟨RpE.k α + 1, fun K => (eqTp (RpE.ty K)).imp fun _ _ _ ⟨l, xs, e, h, _, p⟩ => ⟨l, xs, e, h, p⟩⟩
instance reT3 {α β γ : Type} [Rp α] [DecidableEq α] [RpE α] [Rp β] [DecidableEq β] [RpE β] [Rp γ] [DecidableEq γ] [RpE γ] : RpE (T3 α β γ) :=
  ⟨max (RpE.k α) (max (RpE.k β) (RpE.k γ)) + 1, fun K => eqT3 ((RpE.ty (α := α) K).up (Nat.le_max_left _ _)) ((RpE.ty (α := β) K).up (Nat.le_trans (Nat.le_max_left _ _) (Nat.le_max_right _ _))) ((RpE.ty (α := γ) K).up (Nat.le_trans (Nat.le_max_right _ _) (Nat.le_max_right _ _)))⟩
instance reOpt {α : Type} [Rp α] [DecidableEq α] [RpE α] [NoN α] : RpE (Option α) := ⟨RpE.k α, fun K => eqOpt (RpE.ty K)⟩
class Fix (α : Type) [Rp α] : Prop where
  fx : ∀ {K : PySem.W.Frag} {G G' : Hp} {v : V} {a : α}, Rp.rel K G v a → Rp.rel K G' v a
instance fxInt : Fix Int := ⟨fun h => h⟩
instance fxBool : Fix Bool := ⟨fun h => h⟩
instance fxStr : Fix Str := ⟨fun h => h⟩
section
variable {K : PySem.W.Frag} {σ : St} {G Gx H G1 H1 G0 H0 : Hp} {α β γ : Type} [Rp α] [Rp β] [Rp γ] {te ta tb tc ti : TE} {tt : TT} {t u rest : TS} {D : Ends} {i j : Nat} {as : List α} {bs : List β} {v w : V} {p q : Addr} {vs ws : List V}
variable {a : T3 α (List β) γ}
end
end L2
set_option Elab.async false
set_option linter.all false
set_option maxRecDepth 100000
set_option maxHeartbeats 4000000
namespace L2
open PySem PySem.Spec PyProof.Rows
section
variable {K : PySem.W.Frag} {σ : St} {G : Hp} {ta tb : TE}
end
end L2
set_option Elab.async false
set_option linter.all false
set_option maxRecDepth 100000
set_option maxHeartbeats 4000000
namespace L3
open PySem
section
variable {prog : Program} {w : World} {A : Around} {E : Value → Shared → Prop} {s : Shared}
end
section
variable {prog : Program} {w : World} {A : Around} {E : Value → Shared → Prop} {s : Shared}
end
end L3
set_option Elab.async false
set_option linter.all false
set_option maxRecDepth 100000
set_option maxHeartbeats 4000000
namespace L2
open PySem PySem.Spec PyProof.Rows
def rRng1 : List V → Hp → VK → Prop := fun xs H Q => ∃ j : Int, xs = [.int j] ∧ ∀ p, H p = none → Q (.ref p) (upd H p (.rng 0 j))
theorem call_rng1 {X : Cx} : CallR X (.type "range") rRng1 := by
  intro pins s σ H xs us Q I r h
  obtain ⟨j, rfl, q⟩ := h
  obtain ⟨u, rfl, t, rfl⟩ := vals1 r
  exact call_range_1 ⟨.ref s.heap.objs.size, _, I.laid (a := s.heap.objs.size) (o := .rng 0 j) (fun b o e => Heap.get?_push_of_some _ e) (Nat.le_refl _) ⟨_, _, _, Heap.get?_push_size _ rfl⟩, rfl, q _ (I.hok.fresh (Nat.le_refl _))⟩
def intsV (lo hi : Int) : List V := (List.range (hi - lo).toNat).map fun (i : Nat) => V.int (lo + (i : Int))
def rngB (lo hi : Int) : Prop := (-(2 ^ 62) ≤ lo ∧ lo < 2 ^ 62 ∧ -(2 ^ 62) ≤ hi ∧ hi < 2 ^ 62) ∧ (hi - lo).toNat ≤ sizeLine
theorem items_ints {lo hi : Int} {acc : Array Value} (h : ItemsOf (fun i v => ∃ t, v = .int (lo + i * 1) t) acc (hi - lo).toNat) : Vals (intsV lo hi) acc.toList := by
  have key : ∀ (n : Nat) (l : List Value) (k : Nat), l.length = n → (∀ (j : Nat) (v : Value), l[j]? = some v → ∃ t, v = Value.int (lo + ((k + j : Nat) : Int)) t) → Vals ((List.range n).map fun (i : Nat) => V.int (lo + ((k + i : Nat) : Int))) l := by
    intro n
    induction n with
    | zero =>
      intro l k hl _
      cases l with
      | nil => exact .nil
      | cons _ _ => cases hl
    | succ n ih =>
      intro l k hl hp
      cases l with
      | nil => cases hl
      | cons x l =>
        rw [List.range_succ_eq_map, List.map_cons, List.map_map]
        obtain ⟨t, e⟩ := hp 0 x rfl
        refine .cons ⟨t, e⟩ ?_
        have := ih l (k + 1) (by simpa using hl) fun j v hv => by
          obtain ⟨t, e⟩ := hp (j + 1) v (by simpa using hv)
          refine ⟨t, ?_⟩
          rw [e]
          congr 3
          omega
        refine cast (congrArg (fun z => Vals z l) (List.map_congr_left fun i _ => ?_)) this
        show V.int (lo + ((k + 1 + i : Nat) : Int)) = V.int (lo + ((k + (i + 1) : Nat) : Int))
        congr 3
        omega
  have := key (hi - lo).toNat acc.toList 0 (by simpa using h.1) fun j v hv => by
    obtain ⟨t, e⟩ := h.2 j v (by simpa using hv)
    refine ⟨t, ?_⟩
    rw [e]
    simp
  unfold intsV
  refine cast (congrArg (fun z => Vals z acc.toList) (List.map_congr_left fun i _ => ?_)) this
  simp
def rLstR : List V → Hp → VK → Prop := fun xs H Q => ∃ p lo hi, xs = [.ref p] ∧ H p = some (.rng lo hi) ∧ rngB lo hi ∧ ∀ l, H l = none → Q (.ref l) (upd H l (.lst (intsV lo hi)))
theorem ints_length (lo hi : Int) : (intsV lo hi).length = (hi - lo).toNat := by
  unfold intsV
  rw [List.length_map, List.length_range]
theorem rsize (lo hi : Int) : Builtin.Range.rangeSize lo hi 1 = ((hi - lo).toNat : Int) := by
  rw [rangeSize_one]
  split <;> omega
theorem call_lstR {X : Cx} (hc : X.calm = true) : CallR X (.type "list") rLstR := by
  intro pins s σ H xs us Q I r h
  obtain ⟨p, lo, hi, rfl, hp, ⟨hb, hz⟩, q⟩ := h
  obtain ⟨u, rfl, ru⟩ := vals1 r
  cases ru
  obtain ⟨t, u, v, e⟩ := (show ObjOk X.prog X.w H s.heap p (.rng lo hi) from I.hok p _ hp)
  have hs : sizeLine = 16777216 := sizeLine_eq
  refine call_list_range (I.ok.hd hc) e (small_one hb.1 hb.2.1 hb.2.2.1 hb.2.2.2) (rsize lo hi) (by omega) fun h' tk acc c' hk e' hi' => ?_
  exact ⟨.ref s.heap.objs.size, _, I.laid (t' := tk) hk (Nat.le_refl _) (show ObjOk X.prog X.w _ _ _ (.lst (intsV lo hi)) from ⟨by rw [ints_length]; exact hz, acc.toList, c', items_ints hi', by simpa using e'⟩), rfl, q _ (I.hok.fresh (Nat.le_refl _))⟩
section
variable {K : PySem.W.Frag} {σ : St} {G : Hp} {ta tb : TE} {ia ib : Option Int}
end
end L2
set_option Elab.async false
set_option linter.all false
set_option maxRecDepth 100000
set_option maxHeartbeats 4000000
namespace L2
open PySem PySem.Spec PyProof.Rows
section
variable {X : Cx} {pins : List (Addr × Obj)} {σ : St}
end
end L2
set_option Elab.async false
set_option linter.all false
set_option maxRecDepth 100000
set_option maxHeartbeats 4000000
namespace L2
open PySem PySem.Spec PyProof.Rows
section
variable {K : PySem.W.Frag} {σ : St} {G : Hp} {α β : Type} [Rp α] [Rp β] {ta : TE}
end
end L2
set_option Elab.async false
set_option linter.all false
set_option maxRecDepth 100000
set_option maxHeartbeats 4000000
namespace L2
open PySem PySem.Spec PyProof.Rows
inductive SI where
  | s (x : Str)
  | i (n : Int)
  deriving DecidableEq
def RelSI (v : V) : SI → Prop
  | .s x => v = .str x ∧ x.length ≤ sizeLine
  | .i n => v = .int n
instance rpSI : Rp SI := ⟨fun _ _ v a => RelSI v a, fun _ h => h⟩
instance imSI : Imm SI := ⟨fun _ h => h⟩
theorem eqSI {K : PySem.W.Frag} : EqTy K 0 (Rp.rel (α := SI) K) where
  fn := fun {X pins σ H s x a b} hK I h1 h2 => by
    cases a with
    | s y => cases b with
      | s z => obtain ⟨rfl, _⟩ := h1; obtain ⟨e, _⟩ := h2; cases e; rfl
      | i n => obtain ⟨rfl, _⟩ := h1; cases h2
    | i m => cases b with
      | s z => obtain ⟨rfl, _⟩ := h2; cases h1
      | i n =>
        have h1 : x = .int m := h1
        have h2 : x = .int n := h2
        subst h1
        cases h2
        rfl
  eq := fun {X pins σ H s x y u v a b} A hK I hu r1 r2 h1 h2 => by
    cases a with
    | s p => cases b with
      | s q =>
        obtain ⟨rfl, _⟩ := h1
        obtain ⟨rfl, _⟩ := h2
        have := eqStr.eq (K := K) (a := p) (b := q) A hK I hu r1 r2 rfl rfl
        rwa [show decide (SI.s p = SI.s q) = decide (p = q) from decide_eq_decide.mpr ⟨fun e => by cases e; rfl, fun e => by rw [e]⟩]
      | i n =>
        obtain ⟨rfl, _⟩ := h1
        have h2 : y = .int n := h2
        subst h2
        obtain ⟨t, rfl⟩ := r1
        obtain ⟨t', rfl⟩ := r2
        rw [decide_eq_false (fun e => by cases e)]
        exact SeqAt.EqAt.str_int _ _ _ _
    | i m => cases b with
      | s q =>
        obtain ⟨rfl, _⟩ := h2
        have h1 : x = .int m := h1
        subst h1
        obtain ⟨t, rfl⟩ := r1
        obtain ⟨t', rfl⟩ := r2
        rw [decide_eq_false (fun e => by cases e)]
        exact SeqAt.EqAt.int_str _ _ _ _
      | i n =>
        have := eqInt.eq (K := K) (a := m) (b := n) A hK I hu r1 r2 h1 h2
        rwa [show decide (SI.i m = SI.i n) = decide (m = n) from decide_eq_decide.mpr ⟨fun e => by cases e; rfl, fun e => by rw [e]⟩]
  rc := fun {X pins σ H s x y u v a b} A hK I hu r1 r2 h1 h2 => by
    cases a with
    | s p => cases b with
      | s q =>
        obtain ⟨rfl, _⟩ := h1
        obtain ⟨rfl, _⟩ := h2
        have := eqStr.rc (K := K) (a := p) (b := q) A hK I hu r1 r2 rfl rfl
        rwa [show decide (SI.s p = SI.s q) = decide (p = q) from decide_eq_decide.mpr ⟨fun e => by cases e; rfl, fun e => by rw [e]⟩]
      | i n =>
        obtain ⟨rfl, _⟩ := h1
        have h2 : y = .int n := h2
        subst h2
        obtain ⟨t, rfl⟩ := r1
        obtain ⟨t', rfl⟩ := r2
        rw [decide_eq_false (fun e => by cases e)]
        exact ⟨SeqAt.RcAt.str_int _ _ _ _, SeqAt.RcNeAt.str_int _ _ _ _⟩
    | i m => cases b with
      | s q =>
        obtain ⟨rfl, _⟩ := h2
        have h1 : x = .int m := h1
        subst h1
        obtain ⟨t, rfl⟩ := r1
        obtain ⟨t', rfl⟩ := r2
        rw [decide_eq_false (fun e => by cases e)]
        exact ⟨SeqAt.RcAt.int_str _ _ _ _, SeqAt.RcNeAt.int_str _ _ _ _⟩
      | i n =>
        have := eqInt.rc (K := K) (a := m) (b := n) A hK I hu r1 r2 h1 h2
        rwa [show decide (SI.i m = SI.i n) = decide (m = n) from decide_eq_decide.mpr ⟨fun e => by cases e; rfl, fun e => by rw [e]⟩]
instance reSI : RpE SI := ⟨0, fun _ => eqSI⟩
theorem room_u {j : Nat} {A : Around} (hr : Room j A) : A.units + 1 < cLine := by
  have := hr.un
  omega
def asS : SI → Option Str
  | .s x => some x
  | .i _ => none
def asI : SI → Option Int
  | .s _ => none
  | .i n => some n
section
variable {K : PySem.W.Frag} {σ : St} {G H : Hp} {ta tb te td ti : TE} {α : Type} [Rp α] {md : Option SI} {rest : TS} {D : Ends} {i : Nat}
theorem ev_toS {m : Option Str} (e : EV K te σ G m) : EV K te σ G (m.bind fun x => some (SI.s x)) := by
  intro G1 s1 c hc H sH Q k
  obtain ⟨x, hx, hc⟩ := Option.bind_eq_some_iff.mp hc
  cases hc
  exact e G1 s1 x hx H sH Q fun v G2 H2 x2 r => k v G2 H2 x2 r
theorem ev_toI {m : Option Int} (e : EV K te σ G m) : EV K te σ G (m.bind fun x => some (SI.i x)) := by
  intro G1 s1 c hc H sH Q k
  obtain ⟨x, hx, hc⟩ := Option.bind_eq_some_iff.mp hc
  cases hc
  exact e G1 s1 x hx H sH Q fun v G2 H2 x2 r => k v G2 H2 x2 r
theorem ev_asS (e : EV K te σ G md) : EV K te σ G (md.bind fun d => asS d) := by
  intro G1 s1 c hc H sH Q k
  obtain ⟨d, hd, hc⟩ := Option.bind_eq_some_iff.mp hc
  refine e G1 s1 d hd H sH Q fun v G2 H2 x r => ?_
  cases d with
  | s y => cases hc; exact k _ _ _ x r
  | i n => cases hc
theorem ev_asI (e : EV K te σ G md) : EV K te σ G (md.bind fun d => asI d) := by
  intro G1 s1 c hc H sH Q k
  obtain ⟨d, hd, hc⟩ := Option.bind_eq_some_iff.mp hc
  refine e G1 s1 d hd H sH Q fun v G2 H2 x r => ?_
  cases d with
  | s y => cases hc
  | i n => cases hc; exact k _ _ _ x r
end
def rInE (K : PySem.W.Frag) (α : Type) [Rp α] [DecidableEq α] (neg : Bool) : R2 := fun x y H Q => ∃ p xs a as, y = .ref p ∧ SqL K H p xs ∧ Rp.rel (α := α) K H x a ∧ Paired (Rp.rel (α := α) K H) xs as ∧ Q (.bl (if neg then !decide (a ∈ as) else decide (a ∈ as))) H
open Classical in
noncomputable def eqW {α : Type} [Rp α] (K : PySem.W.Frag) (H : Hp) (a : α) (u : Value) : Bool := decide (∃ y, RelV y u ∧ Rp.rel K H y a)
theorem eqW_of {α : Type} [Rp α] [DecidableEq α] [RpE α] {X : Cx} {pins : List (Addr × Obj)} {σ : St} {H : Hp} {s : Shared} (I : Inv X pins σ H s) {a b : α} {y : V} {u : Value} (r : RelV y u) (h : Rp.rel X.K H y b) : eqW X.K H a u = decide (b = a) := by
  unfold eqW
  classical
  by_cases e : b = a
  · subst e
    rw [decide_eq_true rfl, decide_eq_true]
    exact ⟨y, r, h⟩
  · rw [decide_eq_false e, decide_eq_false]
    rintro ⟨z, rz, hz⟩
    have := RelV.inj r rz
    subst this
    exact e ((RpE.ty X.K).fn rfl I h hz)
theorem any_eqW {α : Type} [Rp α] [DecidableEq α] [RpE α] {X : Cx} {pins : List (Addr × Obj)} {σ : St} {H : Hp} {s : Shared} (I : Inv X pins σ H s) {a : α} : ∀ {xs : List V} {us : List Value} {as : List α}, Vals xs us → Paired (Rp.rel X.K H) xs as → us.any (eqW X.K H a) = decide (a ∈ as)
  | _, _, _, .nil, .nil => by simp
  | y :: xs, u :: us, b :: as, .cons r t, .cons h p => by
    rw [List.any_cons, eqW_of I r h, any_eqW I t p]
    by_cases e : b = a
    · subst e; simp
    · rw [decide_eq_false e, Bool.false_or]
      exact decide_eq_decide.mpr ⟨fun m => List.mem_cons_of_mem _ m, fun m => by
        rcases List.mem_cons.mp m with rfl | m
        · exact absurd rfl e
        · exact m⟩
theorem mem_eqW {α : Type} [Rp α] [DecidableEq α] [RpE α] {X : Cx} {A : Around} {pins : List (Addr × Obj)} {σ : St} {H : Hp} {s : Shared} (I : Inv X pins σ H s) (hA : A.units + RpE.k α < cLine) {a : α} {x : V} {v : Value} (rx : RelV x v) (hx : Rp.rel X.K H x a) : ∀ {xs : List V} {us : List Value} {as : List α}, Vals xs us → Paired (Rp.rel X.K H) xs as → ∀ u ∈ us, SeqAt.EqAt A s u v (eqW X.K H a u)
  | _, _, _, .nil, .nil => fun u hu => by cases hu
  | y :: xs, u :: us, b :: as, .cons r t, .cons h p => fun u' hu => by
    rcases List.mem_cons.mp hu with rfl | hu
    · rw [eqW_of I r h]
      exact (RpE.ty X.K).eq A rfl I hA r rx h hx
    · exact mem_eqW I hA rx hx t p u' hu
theorem op_notInE {X : Cx} {K : PySem.W.Frag} {j : Nat} (hK : X.K = K) (α : Type) [Rp α] [DecidableEq α] [RpE α] (hr : Room j X.A) (hk : RpE.k α ≤ 40) : OpR X (compareOp .NotIn) (rInE K α true) := by
  subst hK
  intro pins s σ H x y v u Q I rx ry h
  obtain ⟨p, xs, a, as, rfl, hq, hx, pr, q⟩ := h
  cases ry
  obtain ⟨its, r, pl, hz⟩ := I.list hq
  refine SeqAt.notIn_listAt (eqW X.K H a) pl.isList (fun w hw => mem_eqW I (by have := hr.un; rw [Around.in1_units]; omega) rx hx r pr w (by simpa using hw)) ⟨.bl _, H, I, rfl, ?_⟩
  rw [show its.toArray.any (eqW X.K H a) = its.any (eqW X.K H a) by simp, any_eqW I r pr]
  exact q
section
variable {K : PySem.W.Frag} {σ : St} {G H : Hp} {ta tb te td ti : TE} {α : Type} [Rp α]
theorem ev_notInE [DecidableEq α] {ma : Option α} {ml : Option (List α)} (ea : EV K ta σ G ma) (eb : EV K tb σ G ml) : EV K (tOp (rInE K α true) ta tb) σ G (ma.bind fun a => ml.bind fun l => some (!decide (a ∈ l))) :=
  ev_bin (fun {G' H' x y a b c} s ra rb e Q k => by
    cases e
    obtain ⟨l, xs, rfl, h, z, p⟩ := rb
    exact ⟨l, xs, a, b, rfl, .inl (s.rd h), Rp.mono s ra, Paired.imp' (fun _ _ r => Rp.mono s r) p, k _ _ _ (.refl s) rfl⟩) ea eb
end
theorem bt_sum : bootBuiltins "sum" = some (.builtin "sum") := by decide +kernel
def sumO (ns : List Int) : Option Int := if ns.length ≤ 1000 ∧ ∀ n ∈ ns, 0 ≤ n ∧ n ≤ 1000000000 then some ns.sum else none
def rSumI (K : PySem.W.Frag) : List V → Hp → VK → Prop := fun vs H Q => ∃ (l : Addr) (ns : List Int) (m : Int), vs = [.ref l] ∧ SqL K H l (ns.map V.int) ∧ sumO ns = some m ∧ Q (.int m) H
theorem ints_atF {ns : List Int} {its : List Value} (r : Vals (ns.map V.int) its) {i : Nat} {v : Value} (h : its.toArray[i]? = some v) : ∃ t, v = .int (ns.getD i 0) t := by
  have h : its[i]? = some v := by simpa using h
  have hl := r.length
  rw [List.length_map] at hl
  obtain ⟨hi, _⟩ := List.getElem?_eq_some_iff.mp h
  have e : (ns.map V.int)[i]? = some (V.int (ns.getD i 0)) := by
    have : i < ns.length := by omega
    simp [this]
  obtain ⟨u, hu, ru⟩ := r.get e
  rw [h] at hu
  cases hu
  exact ru
theorem preSum_take (ns : List Int) : ∀ j, j ≤ ns.length → preSum (fun i => ns.getD i 0) j = (ns.take j).sum
  | 0, _ => by simp [preSum]
  | j + 1, h => by
    have hj : j < ns.length := by omega
    show preSum (fun i => ns.getD i 0) j + ns.getD j 0 = _
    rw [preSum_take ns j (by omega), List.take_succ, List.sum_append]
    simp [hj]
theorem sum_bound : ∀ {ns : List Int}, (∀ n ∈ ns, 0 ≤ n ∧ n ≤ 1000000000) → 0 ≤ ns.sum ∧ ns.sum ≤ 1000000000 * (ns.length : Int)
  | [], _ => by simp
  | a :: r, h => by
    have h1 := h a List.mem_cons_self
    have h2 := sum_bound fun n hn => h n (List.mem_cons_of_mem _ hn)
    rw [List.sum_cons, List.length_cons]
    push_cast
    omega
theorem call_sumK {X : Cx} {K : PySem.W.Frag} (hc : X.calm = true) (h : X.K = K) : CallR X (.builtin "sum") (rSumI K) := by
  subst h
  intro pins s σ H vs us Q I r h
  obtain ⟨l, ns, m, rfl, hl, hm, q⟩ := h
  obtain ⟨⟨hn, hb⟩, rfl⟩ := ite_some hm
  obtain ⟨u, rfl, ru⟩ := vals1 r
  cases ru
  obtain ⟨its, rv, pl, _⟩ := I.list hl
  have hL := pl.isList
  have hlt : l < s.heap.objs.size := by obtain ⟨_, e, _⟩ := hL; exact Heap.lt_size e
  have hlen := rv.length
  rw [List.length_map] at hlen
  have tk : ∀ j, 0 ≤ (ns.take j).sum ∧ (ns.take j).sum ≤ 1000000000 * 1000 := fun j => by
    have h1 := sum_bound (ns := ns.take j) fun n hn => hb n (List.mem_of_mem_take hn)
    have h2 : (ns.take j).length ≤ 1000 := by rw [List.length_take]; omega
    omega
  refine call_sum_walk (wpAny_pyIter_list hL ?_)
  refine ⟨_, _, _, _, _, _, fun i => ns.getD i 0, rfl, Walks.list (A := X.A.in1) (I.ok.hd hc) _ l (Nat.ne_of_lt hlt) its.toArray, ⟨⟨_, Heap.get?_push_size _ rfl, rfl, rfl⟩, hL.push _⟩, ?_, ?_, ?_, fun h' tk' t' hk => ?_⟩
  · intro b hb'
    have : b = s.heap.objs.size ∨ b = l := by simpa using hb'
    rcases this with rfl | rfl
    · trace_state
      exact Heap.lt_size (Heap.get?_push_size _ rfl)
    · exact Nat.lt_trans hlt (Heap.lt_size (Heap.get?_push_size _ rfl))
  · intro i v hP
    exact ints_atF rv hP
  · intro j hj
    have hj : j < ns.length := by rw [List.size_toArray] at hj; omega
    have e1 : ns.getD j 0 ∈ ns := by simp [hj]
    have b1 := hb _ e1
    rw [preSum_take ns (j + 1) (by omega)]
    have := tk (j + 1)
    unfold InLong
    dsimp only
    omega
  · rw [preSum_take ns _ (by rw [List.size_toArray]; omega), List.take_of_length_le (by rw [List.size_toArray]; omega)]
    refine ⟨.int _, H, I.kept fun b o eb => ?_, ⟨t', rfl⟩, q⟩
    refine hk b o (fun hm => ?_) (Heap.get?_push_of_some _ eb)
    have : b = s.heap.objs.size := by simpa using hm
    exact absurd (this ▸ Heap.lt_size eb) (Nat.lt_irrefl _)
theorem paired_intsR {K : PySem.W.Frag} {H : Hp} : ∀ {xs : List V} {ns : List Int}, Paired (Rp.rel K H) xs ns → xs = ns.map V.int
  | _, _, .nil => rfl
  | _, _, .cons h t => by
    cases h
    rw [List.map_cons, paired_intsR t]
section
variable {K : PySem.W.Frag} {σ : St} {G H : Hp} {ta tb te td ti : TE} {α : Type} [Rp α]
theorem ev_sum {lb : Option (List Int)} (ea : EV K ta σ G lb) : EV K (tCB (rSumI K) (tCons ta tNil)) σ G (lb.bind fun ns => sumO ns) := by
  intro G1 s1 c hc H sH Q k
  obtain ⟨a, ha, hc⟩ := Option.bind_eq_some_iff.mp hc
  refine ea G1 s1 a ha H sH _ fun v G2 H2 x2 r2 => ?_
  obtain ⟨l, xs, rfl, h, z, p⟩ := r2
  have e := paired_intsR p
  subst e
  exact ⟨l, a, c, rfl, .inl (x2.gh.rd h), hc, k _ _ _ x2 rfl⟩
end
structure Mp (α : Type) where
  l : List (Int × α)
def RelE (K : PySem.W.Frag) {α : Type} [Rp α] (H : Hp) (kv : Key × V) (q : Int × α) : Prop := kv.1 = .inl q.1 ∧ Rp.rel K H kv.2 q.2
instance rpMp {α : Type} [Rp α] : Rp (Mp α) := ⟨fun K H v a => ∃ p kvs, v = .ref p ∧ H p = some (.dK kvs) ∧ Paired (RelE K H) kvs a.l,
  fun s ⟨p, kvs, e, h, pr⟩ => ⟨p, kvs, e, s _ _ h, Paired.imp' (fun _ _ r => ⟨r.1, Rp.mono s r.2⟩) pr⟩⟩
section
variable {K : PySem.W.Frag} {σ : St} {G H G1 H1 G0 H0 : Hp} {α β : Type} [Rp α] [Rp β] {td te ti : TE} {rest : TS} {D : Ends} {i : Nat} {a : Mp α} {v : V} {p q : Addr} {kvs : List (Key × V)}
end
section
variable {K : PySem.W.Frag} {σ : St} {G H : Hp} {α : Type} [Rp α] {te : TE} {rest : TS} {D : Ends} {i : Nat} {a : α} {m : Option α} {as : List α} {v : V} {p : Addr} {vs : List V}
theorem sv_appendB [Imm α] {as' : List α} (hσ : σ[i]? = some (some v)) (o : Own K G H v p vs as) (e : EV K te σ (upd G p (.lst vs)) m) (hm : m = some a) (hp : pushO as a = some as') (s : Same G H)
    (k : ∀ G2 H2 w, Ext G H G2 H2 → Own K G2 (upd H2 p (.lst (vs ++ [w]))) v p (vs ++ [w]) as' → rest D σ (upd H2 p (.lst (vs ++ [w])))) : tSeq (tDrop (tBM K "list" rAppend (tVar i) (tCons te tNil))) rest D σ H := by
  obtain ⟨hl, rfl⟩ := ite_some hp
  have hlen := Paired.length o.p
  have ov := o.v
  subst ov
  refine ⟨_, hσ, .inl ⟨rfl, _, SqL.of o.h⟩, ?_⟩
  refine EV.runB o e hm s fun w G2 H2 x r => ?_
  have o2 := o.ext x
  refine ⟨p, vs, w, rfl, rfl, o2.h, by omega, ?_⟩
  refine k G2 H2 w x ⟨rfl, o2.g, upd_same, ?_, Paired.app o2.p (.cons r .nil)⟩
  rw [List.length_append, List.length_singleton]
  omega
end
end L2
set_option Elab.async false
set_option linter.all false
set_option maxRecDepth 100000
set_option maxHeartbeats 4000000
namespace L2
open PySem PySem.Spec PyProof.Rows
section
variable {X : Cx} {e : Expr} {te : TE} {lo hi : Option Expr} {se : Expr} {tl th ts : TO} {pos p2 : Pos}
end
section
variable {K : PySem.W.Frag} {σ : St} {G H : Hp} {ta t3 : TE} {t1 t2 : TO} {α : Type} [Rp α] {m1 m2 : Option (Option Int)} {c : Int}
end
end L2
set_option Elab.async false
set_option linter.all false
set_option maxRecDepth 100000
set_option maxHeartbeats 4000000
namespace L2
open PySem PySem.Spec PyProof.Rows
section
variable {K : PySem.W.Frag} {σ : St} {G : Hp} {α β γ : Type} [Rp α] [Rp β] [Rp γ] {ta tb : TE}
end
end L2
namespace L2
open PySem PySem.Spec PyProof.Rows
section
variable {K : PySem.W.Frag} {σ : St} {G H : Hp} {ta tb te : TE} {rest : TS} {D : Ends} {i : Nat} {v : V} {p : Addr} {vs : List V}
end
end L2
set_option Elab.async false
set_option linter.all false
set_option maxRecDepth 100000
set_option maxHeartbeats 4000000
namespace L2
open PySem PySem.Spec PyProof.Rows
section
variable {K : PySem.W.Frag} {σ : St} {G : Hp} {ta : TE}
end
end L2
set_option Elab.async false
set_option linter.all false
set_option maxRecDepth 100000
set_option maxHeartbeats 4000000
namespace L2
open PySem PySem.Spec PyProof.Rows
def rCatTp (K : PySem.W.Frag) : R2 := fun x y H Q => ∃ a b xs ys, x = .ref a ∧ y = .ref b ∧ SqT K H a xs ∧ SqT K H b ys ∧ xs.length + ys.length ≤ sizeLine ∧ (xs = [] → Q (.ref b) H) ∧ (ys = [] → Q (.ref a) H) ∧ ∀ p, H p = none → Q (.ref p) (upd H p (.tup (xs ++ ys)))
theorem op_catTp {X : Cx} {K : PySem.W.Frag} (h : X.K = K) : OpR X (binaryOp .Add) (rCatTp K) := by
  subst h
  intro pins s σ H x y v u Q I rx ry h
  obtain ⟨t, b, xs, ys, rfl, rfl, h1, h2, hz, q0, q1, q2⟩ := h
  cases rx
  cases ry
  obtain ⟨vs, rv, ht, _⟩ := I.tuple h1
  obtain ⟨ws, rw', hb, _⟩ := I.tuple h2
  have l1 := rv.length
  have l2 := rw'.length
  obtain ⟨⟨cls, dd, data, sl⟩, ho, hc, n, hd⟩ := id ht
  obtain ⟨⟨cls2, dd2, data2, sl2⟩, ho2, hc2, n2, hd2⟩ := id hb
  simp only at hc hd hc2 hd2
  subst hc hd hc2 hd2
  have e : vs.toArray ++ ws.toArray = (vs ++ ws).toArray := by simp
  by_cases hv : vs = []
  · have hx : xs = [] := List.length_eq_zero_iff.mp (by rw [l1, hv]; rfl)
    exact concat_meets ⟨_, ho, rfl⟩ ⟨_, ho2, rfl⟩ noFill_tuple_add seq_tuple_add PySem.F.slot_tuple_add PySem.F.entry_tuple_add (PySem.F.args_tuple_add_2 _ _)
      (tuple_addW0 t b vs.toArray ws.toArray n n2 dd dd2 sl sl2 (by simp [hv])) ⟨ho, ho2, ⟨.ref b, H, I.tok _, rfl, q0 hx⟩⟩
  · by_cases hw : ws = []
    · have hy : ys = [] := List.length_eq_zero_iff.mp (by rw [l2, hw]; rfl)
      exact concat_meets ⟨_, ho, rfl⟩ ⟨_, ho2, rfl⟩ noFill_tuple_add seq_tuple_add PySem.F.slot_tuple_add PySem.F.entry_tuple_add (PySem.F.args_tuple_add_2 _ _)
        (tuple_addW1 t b vs.toArray ws.toArray n n2 dd dd2 sl sl2 (by simpa using hv) (by simp [hw])) ⟨ho, ho2, ⟨.ref t, H, I.tok _, rfl, q1 hy⟩⟩
    · refine concat_meets ⟨_, ho, rfl⟩ ⟨_, ho2, rfl⟩ noFill_tuple_add seq_tuple_add PySem.F.slot_tuple_add PySem.F.entry_tuple_add (PySem.F.args_tuple_add_2 _ _)
        (tuple_addW2 t b vs.toArray ws.toArray n n2 dd dd2 sl sl2 (by simpa using hv) (by simpa using hw) (by rw [List.size_toArray, List.size_toArray]; omega)) ⟨ho, ho2, ?_⟩
      rw [e]
      exact ⟨.ref s.heap.objs.size, _, I.laid (t' := s.toks) (o := .tup (xs ++ ys)) (fun b ob q => Heap.get?_push_of_some _ q) (Nat.le_refl _) ⟨by rw [List.length_append]; exact hz, vs ++ ws, rv.append rw', IsTup.new _ _⟩, rfl, q2 _ (I.hok.fresh (Nat.le_refl _))⟩
def catTO {α : Type} (a b : Tp α) : Option (Tp α) := if a.l.length + b.l.length ≤ sizeLine then some ⟨a.l ++ b.l⟩ else none
section
variable {K : PySem.W.Frag} {σ : St} {G : Hp} {α : Type} [Rp α] {ta tb : TE}
theorem ev_catTp {m1 m2 : Option (Tp α)} (ea : EV K ta σ G m1) (eb : EV K tb σ G m2) : EV K (tOp (rCatTp K) ta tb) σ G (m1.bind fun a => m2.bind fun b => catTO a b) :=
  ev_bin (fun {G' H' x y a b c} s ra rb e Q k => by
    obtain ⟨hz, rfl⟩ := ite_some e
    obtain ⟨l, xs, rfl, h, z, p⟩ := ra
    obtain ⟨l', ys, rfl, h', z', p'⟩ := rb
    have e1 := Paired.length p
    have e2 := Paired.length p'
    refine ⟨l, l', xs, ys, rfl, rfl, s.tup h, s.tup h', by omega, fun hx => ?_, fun hy => ?_, fun q hq => ?_⟩
    · have ea : a.l = [] := List.length_eq_zero_iff.mp (by rw [← e1, hx]; rfl)
      exact k _ _ _ (.refl s) ⟨l', ys, rfl, h', z', by show Paired _ ys (a.l ++ b.l); rw [ea]; exact p'⟩
    · have eb : b.l = [] := List.length_eq_zero_iff.mp (by rw [← e2, hy]; rfl)
      exact k _ _ _ (.refl s) ⟨l, xs, rfl, h, z, by show Paired _ xs (a.l ++ b.l); rw [eb, List.append_nil]; exact p⟩
    · have sn := Same.new (o := .tup (xs ++ ys)) (s.free hq)
      exact k _ _ _ (.new s hq) ⟨q, xs ++ ys, rfl, SqT.of upd_same, by rw [List.length_append]; omega, Paired.app (Paired.imp' (fun _ _ r => Rp.mono sn r) p) (Paired.imp' (fun _ _ r => Rp.mono sn r) p')⟩) ea eb
end
end L2
set_option Elab.async false
set_option linter.all false
set_option maxRecDepth 100000
namespace L2
open PySem PySem.Spec PyProof.Rows
section
variable {X : Cx} {pins : List (Addr × Obj)} {σ : St}
end
end L2
set_option Elab.async false
set_option linter.all false
set_option maxRecDepth 100000
set_option maxHeartbeats 4000000
namespace L2
open PySem PySem.Spec PyProof.Rows
end L2
set_option Elab.async false
set_option linter.all false
set_option maxRecDepth 100000
set_option maxHeartbeats 4000000
namespace L2
open PySem PySem.Spec PyProof.Rows
section
variable {prog : Program} {w : World} {A : Around} {E : Value → Shared → Prop} {s : Shared}
end
end L2
set_option Elab.async false
set_option linter.all false
set_option maxRecDepth 100000
set_option maxHeartbeats 4000000
namespace L2
open PySem PySem.Spec PyProof.Rows
section
variable {prog : Program} {w : World} {A : Around} {R : Result → Shared → Prop} {I : Addr} {fp wr : List Addr} {G : Array GenState → Array GenState → Prop} {n : Nat} {P : Nat → Value → Prop} {St : Nat → Shared → Prop}
end
section
variable {prog : Program} {w : World} {A : Around} {E : Value → Shared → Prop} {s : Shared}
end
end L2
set_option Elab.async false
set_option linter.all false
set_option maxRecDepth 100000
set_option maxHeartbeats 4000000
namespace L2
open PySem PySem.Spec PyProof.Rows
section
variable {prog : Program} {w : World} {A : Around} {E : Value → Shared → Prop} {s : Shared}
end
end L2
set_option Elab.async false
set_option linter.all false
set_option maxRecDepth 100000
set_option maxHeartbeats 4000000
namespace L2
open PySem PySem.Spec PyProof.Rows
section
variable {prog : Program} {w : World} {A : Around} {E : Value → Shared → Prop} {s : Shared}
end
end L2
set_option Elab.async false
set_option linter.all false
set_option maxRecDepth 100000
set_option maxHeartbeats 4000000
namespace L2
open PySem PySem.Spec PyProof.Rows
section
variable {prog : Program} {w : World} {A : Around} {E : Value → Shared → Prop} {s : Shared} {I a T : Addr} {es xs : Array (Int × Value)} {ep : Nat} {t : SetTable} {ks : List Key}
end
end L2
set_option Elab.async false
set_option linter.all false
set_option maxRecDepth 100000
set_option maxHeartbeats 4000000
namespace L2
open PySem PySem.Spec PyProof.Rows
section
variable {prog : Program} {w : World} {A : Around} {E : Value → Shared → Prop} {s : Shared} {a : Addr} {es : Array (Int × Value)} {ep : Nat} {t : SetTable} {ks : List Key}
end
end L2
set_option Elab.async false
set_option linter.all false
set_option maxRecDepth 100000
set_option maxHeartbeats 4000000
namespace L2
open PySem PySem.Spec PyProof.Rows
section
variable {X : Cx} {pins : List (Addr × Obj)} {σ : List (Option V)} {H : Hp} {s s' : Shared}
theorem Inv.same (I : Inv X pins σ H s) (e1 : s'.heap = s.heap) (e2 : s'.gens = s.gens) (e3 : s'.os = s.os) : Inv X pins σ H s' := by
  obtain ⟨h, g, d, t, o⟩ := s
  obtain ⟨h', g', d', t', o'⟩ := s'
  dsimp only at e1 e2 e3
  subst e1; subst e2; subst e3
  exact ⟨I.ok, I.os, I.bare, I.base, I.loc, I.cell, I.free, I.freeC, I.pin, I.hok, I.len⟩
end
section
variable {K : PySem.W.Frag} {σ : St} {G : Hp} {ta tb : TE} {w : World}
end
end L2
set_option Elab.async false
set_option linter.all false
set_option maxRecDepth 100000
set_option maxHeartbeats 4000000
namespace L2
open PySem PySem.Spec PyProof.Rows
end L2
set_option Elab.async false
set_option linter.all false
set_option maxRecDepth 100000
set_option maxHeartbeats 4000000
namespace L2
open PySem PySem.Spec PyProof.Rows
end L2
set_option Elab.async false
set_option linter.all false
set_option maxRecDepth 100000
set_option maxHeartbeats 4000000
namespace L2
open PySem PySem.Spec PyProof.Rows
section
variable {prog : Program} {w : World} {A : Around} {E : Value → Shared → Prop} {s : Shared}
end
end L2
set_option Elab.async false
set_option linter.all false
set_option maxRecDepth 100000
set_option maxHeartbeats 4000000
namespace L2
open PySem PySem.Spec PyProof.Rows
section
variable {prog : Program} {w : World} {A : Around} {E : Value → Shared → Prop} {s : Shared}
end
end L2
set_option Elab.async false
set_option linter.all false
set_option maxRecDepth 100000
set_option maxHeartbeats 4000000
namespace L2
open PySem PySem.Spec PyProof.Rows
section
variable {prog : Program} {w : World} {A : Around} {E : Value → Shared → Prop} {s : Shared}
end
end L2
set_option Elab.async false
set_option linter.all false
set_option maxRecDepth 100000
set_option maxHeartbeats 4000000
namespace L2
open PySem PySem.Spec PyProof.Rows
section
variable {prog : Program} {w : World} {A : Around} {E : Value → Shared → Prop} {s : Shared}
end
end L2
set_option Elab.async false
set_option linter.all false
set_option maxRecDepth 100000
set_option maxHeartbeats 4000000
namespace L2
open PySem PySem.Spec PyProof.Rows
section
variable {K : PySem.W.Frag} {σ : St} {G : Hp} {ta tb : TE} {w : World}
end
end L2
set_option Elab.async false
set_option linter.all false
set_option maxRecDepth 100000
set_option maxHeartbeats 4000000
namespace L2
open PySem PySem.Spec PyProof.Rows
section
variable {K : PySem.W.Frag} {σ : St} {G H G0 H0 : Hp} {α β : Type} [Rp α] [Rp β] {ta td ti : TE} {rest : TS} {D : Ends} {i : Nat} {a : Mp α} {v : V} {p : Addr} {kvs : List (Key × V)}
end
section
variable {K : PySem.W.Frag} {σ : St} {G : Hp} {α : Type} [Rp α] {ta : TE}
end
end L2
set_option Elab.async false
set_option linter.all false
set_option maxRecDepth 100000
set_option maxHeartbeats 4000000
namespace L2
open PySem PySem.Spec PyProof.Rows
section
variable {K : PySem.W.Frag} {σ : St} {G H : Hp} {α : Type} [Rp α] {rest : TS} {D : Ends} {i : Nat} {as as' : List α} {v : V} {p : Addr} {vs : List V}
end
end L2
set_option Elab.async false
set_option linter.all false
set_option maxRecDepth 100000
set_option maxHeartbeats 4000000
namespace L2
open PySem PySem.Spec PyProof.Rows
section
variable {K : PySem.W.Frag} {σ : St} {G H : Hp} {α : Type} [Rp α] {te : TE} {rest : TS} {D : Ends} {i : Nat} {m : Option (Tp α)} {b : Tp α} {as as' : List α} {v : V} {p : Addr} {vs : List V}
end
structure MpS (α : Type) where
  l : List (Str × α)
def RelS (K : PySem.W.Frag) {α : Type} [Rp α] (H : Hp) (kv : Key × V) (q : Str × α) : Prop := kv.1 = .inr q.1 ∧ Rp.rel K H kv.2 q.2
instance rpMpS {α : Type} [Rp α] : Rp (MpS α) := ⟨fun K H v a => ∃ p kvs, v = .ref p ∧ H p = some (.dK kvs) ∧ Paired (RelS K H) kvs a.l,
  fun s ⟨p, kvs, e, h, pr⟩ => ⟨p, kvs, e, s _ _ h, Paired.imp' (fun _ _ r => ⟨r.1, Rp.mono s r.2⟩) pr⟩⟩
section
variable {K : PySem.W.Frag} {σ : St} {G H G1 H1 G0 H0 : Hp} {α β : Type} [Rp α] [Rp β] {td te ti : TE} {rest : TS} {D : Ends} {i : Nat} {a : MpS α} {v : V} {p q : Addr} {kvs : List (Key × V)}
end
section
variable {X : Cx} {i o : Expr} {ty td : TE} {pos : Pos}
end
end L2
set_option Elab.async false
set_option linter.all false
set_option maxRecDepth 100000
set_option maxHeartbeats 4000000
namespace L2
open PySem PySem.Spec PyProof.Rows
section
variable {prog : Program} {w : World} {A : Around} {E : Value → Shared → Prop} {s : Shared}
end
end L2
set_option Elab.async false
set_option linter.all false
set_option maxRecDepth 100000
set_option maxHeartbeats 4000000
namespace L2
open PySem PySem.Spec PyProof.Rows
section
variable {prog : Program} {w : World} {A : Around} {E : Value → Shared → Prop} {s : Shared} {z TI TO : Addr} {f0 f1 : Value}
end
end L2
set_option Elab.async false
set_option linter.all false
set_option maxRecDepth 100000
set_option maxHeartbeats 4000000
namespace L2
open PySem PySem.Spec PyProof.Rows
section
variable {prog : Program} {w : World} {A : Around} {E : Value → Shared → Prop} {s : Shared}
end
end L2
set_option Elab.async false
set_option linter.all false
set_option maxRecDepth 100000
set_option maxHeartbeats 4000000
namespace L2
open PySem PySem.Spec PyProof.Rows
section
variable {prog : Program} {w : World} {A : Around} {E : Value → Shared → Prop} {s : Shared}
end
end L2
set_option Elab.async false
set_option linter.all false
set_option maxRecDepth 100000
set_option maxHeartbeats 4000000
namespace L2
open PySem PySem.Spec PyProof.Rows
section
variable {K : PySem.W.Frag} {σ : St} {G H G0 H0 : Hp} {α β : Type} [Rp α] [Rp β] {ta tb : TE}
end
end L2
set_option Elab.async false
set_option linter.all false
set_option maxRecDepth 100000
set_option maxHeartbeats 4000000
namespace L2
open PySem PySem.Spec PyProof.Rows
section
variable {X : Cx} {i o : Expr} {ty : TE} {pos : Pos} {a : Addr} {w : World} {K : PySem.W.Frag} {l : List (Str × Int)}
end
section
variable {K : PySem.W.Frag} {σ : St} {G : Hp} {ty : TE} {l : List (Str × Int)}
end
end L2
set_option Elab.async false
set_option linter.all false
set_option maxRecDepth 100000
set_option maxHeartbeats 4000000
namespace HT
open PySem PySem.Spec PyProof.Rows
section
variable {prog : Program} {w : World} {A : Around} {E : Value → Shared → Prop} {s : Shared}
theorem getItem_tuple_all {t sl : Addr} {items : Array Value} {vl vu : Value} {lo hi : Option Int} {Q : Value → Shared → Prop} (ht : IsTup s.heap t items) (hs : s.heap.IsSliceOf sl vl vu .none) (pl : IsPart vl lo) (pu : IsPart vu hi)
    (hw : sIx items.size 0 lo = 0 ∧ sIx items.size items.size hi = items.size) (h : Q (.ref t) s) : wpAny (model prog w) A (getItem (.ref t) (.ref sl)) Q E s := by
  obtain ⟨os, hos, hcs, hds⟩ := id hs
  have hTs : s.TypeIs (.ref sl) "slice" := ⟨os, hos, hcs⟩
  unfold getItem
  try with_reducible refine wpAny_holding ?_
  first | refine wpAny_bind (wpAny_pure ?_) | skip
  refine wpAny_bind (wpAny_sequenceKey ht.typeIs (by decide) ?_)
  refine wpAny_bind (wpAny_callSpecial?_slot (name := Str.ofString "__getitem__") ht.typeIs PyProof.Rows.slot_tuple_getitem (wpAny_call_entry PyProof.Rows.slot_tuple_getitem ht.typeIs entry_tuple_getitem ?_ (args_tuple_getitem _ _)))
  show wpAny _ _ (Builtin.Tuple.tupleItemsOf (.ref t) >>= _) _ _ s
  refine wpAny_bind (tupleItemsOf_ ht ?_)
  refine wpAny_bind (wpAny_typeOf hTs ?_)
  rw [if_pos (by decide)]
  refine wpAny_bind (sliceApplied_gen hs pl pu ?_)
  show wpAny _ _ (if (((sIx items.size 0 lo : Nat) : Int) == 0 && (1 : Int) == 1 && (sIx items.size items.size hi - sIx items.size 0 lo) == items.size) = true then _ else _) _ _ s
  rw [if_pos (by rw [hw.1, hw.2]; simp)]
  refine wpAny_bind ?_
  unfold Builtin.Tuple.tupleIsExact
  refine wpAny_bind (wpAny_typeOf ht.typeIs (wpAny_pure ?_))
  rw [if_pos (by decide)]
  refine wpAny_bind (wpAny_rule ?_)
  exact wpAny_pure ⟨_, rfl, wpAny_pure h⟩
end
end HT
namespace L2
open PySem PySem.Spec PyProof.Rows
def rSlA (K : PySem.W.Frag) : V → Option Int → Option Int → Hp → VK → Prop := fun x lo hi H Q => ∃ a xs, x = .ref a ∧ SqT K H a xs ∧
  ((HT.sIx xs.length 0 lo = 0 ∧ HT.sIx xs.length xs.length hi = xs.length) → Q (.ref a) H) ∧
  (¬ (HT.sIx xs.length 0 lo = 0 ∧ HT.sIx xs.length xs.length hi = xs.length) → ∀ p, H p = none → Q (.ref p) (upd H p (.tup (cutV xs lo hi))))
theorem sl_tupA {X : Cx} {K : PySem.W.Frag} (h : X.K = K) : SlR X (rSlA K) := by
  subst h
  intro pins s σ H x v vl vu lo hi sl Q I rx hs pl pu h
  obtain ⟨a, xs, rfl, hx, q1, q2⟩ := h
  by_cases hw : HT.sIx xs.length 0 lo = 0 ∧ HT.sIx xs.length xs.length hi = xs.length
  · cases rx
    obtain ⟨its, r, ht, hz⟩ := I.tuple hx
    have hlen : its.toArray.size = xs.length := by rw [List.size_toArray]; exact r.length.symm
    exact ⟨"tuple", _, PyProof.Rows.slot_tuple_getitem.lookup, ht.typeIs, HT.getItem_tuple_all ht hs pl pu (by rw [hlen]; exact hw) ⟨.ref a, H, I, rfl, q1 hw⟩⟩
  · exact sl_tup pins s σ H _ v vl vu lo hi sl Q I rx hs pl pu ⟨a, xs, rfl, hx, hw, q2 hw⟩
section
variable {K : PySem.W.Frag} {σ : St} {G : Hp} {α : Type} [Rp α] {ta tb tc te : TE} {t1 t2 : TO} {sa sb sc : Option Str} {m1 m2 : Option (Option Int)}
theorem cutA_all {α : Type} {l : List α} {lo hi : Option Int} (h : HT.sIx l.length 0 lo = 0 ∧ HT.sIx l.length l.length hi = l.length) : cutA l lo hi = l := by
  unfold cutA
  rw [h.1, h.2]
  simp
theorem ev_sliceTA {ma : Option (Tp α)} (ea : EV K ta σ G ma) (e1 : OV t1 σ G m1) (e2 : OV t2 σ G m2) : EV K (tSl (rSlA K) ta t1 t2) σ G (ma.bind fun a => m1.bind fun lo => m2.bind fun hi => some (Tp.mk (cutA a.l lo hi))) := by
  intro G1 s1 c hc H sH Q k
  obtain ⟨a, ha, hc⟩ := Option.bind_eq_some_iff.mp hc
  obtain ⟨lo, hlo, hc⟩ := Option.bind_eq_some_iff.mp hc
  obtain ⟨hi, hhi, hc⟩ := Option.bind_eq_some_iff.mp hc
  cases hc
  refine ea G1 s1 a ha H sH _ fun v G2 H2 x2 r2 => ?_
  refine e1 G2 (s1.trans x2.gg) lo hlo H2 x2.gh _ fun G3 H3 x3 => ?_
  refine e2 G3 (s1.trans (x2.trans x3).gg) hi hhi H3 x3.gh _ fun G4 H4 x4 => ?_
  obtain ⟨l, xs, rfl, h, z, p⟩ := Rp.mono (x3.trans x4).gg r2
  have hl := Paired.length p
  refine ⟨l, xs, rfl, x4.gh.tup h, fun hw => ?_, fun hw q hq => ?_⟩
  · rw [hl] at hw
    rw [cutA_all hw] at k
    exact k _ G4 H4 ((x2.trans x3).trans x4) ⟨l, xs, rfl, h, z, p⟩
  · have hg : G4 q = none := x4.gh.free hq
    exact k _ (upd G4 q (.tup (cutV xs lo hi))) _ (((x2.trans x3).trans x4).trans (.new x4.gh hq)) ⟨q, _, rfl, .inl (.inl upd_same), Nat.le_trans (cutV_length _ _ _) z, Paired.imp' (fun _ _ r => Rp.mono (Same.new hg) r) (Paired.cut p lo hi)⟩
end
end L2
set_option Elab.async false
set_option linter.all false
set_option maxRecDepth 100000
set_option maxHeartbeats 4000000
namespace L2
open PySem PySem.Spec PyProof.Rows
section
variable {prog : Program} {w : World} {A : Around} {E : Value → Shared → Prop} {s : Shared}
end
end L2
set_option Elab.async false
set_option linter.all false
set_option maxRecDepth 100000
set_option maxHeartbeats 4000000
namespace L2
open PySem PySem.Spec PyProof.Rows
def LObj (acc : Array Value) (c : Nat) : Obj := { cls := .type "list", dict := none, data := .seq acc c, slots := #[] }
section
variable {prog : Program} {w : World} {A : Around} {E : Value → Shared → Prop} {s : Shared}
end
end L2
set_option Elab.async false
set_option linter.all false
set_option maxRecDepth 100000
set_option maxHeartbeats 4000000
namespace L2
open PySem PySem.Spec PyProof.Rows
section
variable {prog : Program} {w : World} {A : Around} {E : Value → Shared → Prop} {s : Shared}
end
end L2
set_option Elab.async false
set_option linter.all false
set_option maxRecDepth 100000
set_option maxHeartbeats 4000000
namespace L2
open PySem PySem.Spec PyProof.Rows
section
variable {K : PySem.W.Frag} {σ : St} {G H : Hp} {α β : Type} [Rp α] [Rp β] {ta tb : TE}
end
end L2
set_option Elab.async false
set_option linter.all false
set_option maxRecDepth 100000
set_option maxHeartbeats 4000000
namespace L2
open PySem PySem.Spec PyProof.Rows
section
variable {K : PySem.W.Frag} {σ : St} {G H : Hp} {ta tb te : TE} {rest : TS} {D : Ends} {i : Nat} {v : V} {p : Addr} {vs : List V} {β : Type} [Rp β]
end
end L2
set_option Elab.async false
set_option linter.all false
set_option maxRecDepth 100000
set_option maxHeartbeats 4000000
namespace L2
open PySem PySem.Spec PyProof.Rows
section
variable {K : PySem.W.Frag} {σ : St} {G : Hp} {α : Type} [Rp α] [DecidableEq α] {ta tb : TE} {ma : Option α} {ml : Option (List α)}
end
end L2
set_option Elab.async false
set_option linter.all false
set_option maxRecDepth 100000
set_option maxHeartbeats 4000000
namespace L2
open PySem PySem.Spec PyProof.Rows
section
variable {X : Cx} {es : List Expr} {t : TA} {te : TE} {p : Pos}
end
end L2
set_option Elab.async false
set_option linter.all false
set_option maxRecDepth 100000
set_option maxHeartbeats 4000000
namespace L2
open PySem PySem.Spec PyProof.Rows
def siK : SI → Key
  | .s x => .inr x
  | .i n => .inl n
theorem siK_inj : ∀ {a b : SI}, siK a = siK b → a = b
  | .s x, .s y, e => by rw [Sum.inr.inj e]
  | .s _, .i _, e => nomatch e
  | .i _, .s _, e => nomatch e
  | .i m, .i n, e => by rw [Sum.inl.inj e]
theorem keys_inj : ∀ {l m : List SI}, l.map siK = m.map siK → l = m
  | [], [], _ => rfl
  | [], _ :: _, e => nomatch e
  | _ :: _, [], e => nomatch e
  | a :: l, b :: m, e => by
    rw [List.map_cons, List.map_cons] at e
    obtain ⟨h1, h2⟩ := List.cons.inj e
    rw [siK_inj h1, keys_inj h2]
def rowK (r : Tp SI) : List Key := r.l.map siK
theorem rowK_inj {a b : Tp SI} (e : rowK a = rowK b) : a = b := by
  cases a
  cases b
  exact congrArg Tp.mk (keys_inj e)
def encB : Nat → List (Tp SI) → List (List Key × V)
  | _, [] => []
  | i, r :: rs => (rowK r, .int (i : Int)) :: encB (i + 1) rs
def idxB : Nat → List (Tp SI) → Tp SI → Option Int
  | _, [], _ => none
  | i, a :: rs, r => if a = r then some (i : Int) else idxB (i + 1) rs r
theorem val_enc (r : Tp SI) : ∀ (rows : List (Tp SI)) (i : Nat), valV (encB i rows) (rowK r) = (idxB i rows r).map V.int
  | [], _ => rfl
  | a :: rs, i => by
    unfold encB idxB
    by_cases h : a = r
    · rw [if_pos h, valV_pos (by rw [h])]
      rfl
    · rw [if_neg h, valV_neg (fun e => h (rowK_inj e))]
      exact val_enc r rs (i + 1)
theorem encB_len : ∀ (rows : List (Tp SI)) (i : Nat), (encB i rows).length = rows.length
  | [], _ => rfl
  | a :: rs, i => by
    unfold encB
    rw [List.length_cons, List.length_cons, encB_len rs]
theorem encB_app (r : Tp SI) : ∀ (rows : List (Tp SI)) (i : Nat), encB i (rows ++ [r]) = encB i rows ++ [(rowK r, .int ((i + rows.length : Nat) : Int))]
  | [], _ => rfl
  | a :: rs, i => by
    rw [List.cons_append]
    unfold encB
    rw [encB_app r rs (i + 1), List.cons_append, List.length_cons]
    congr 4
    congr 1
    omega
structure Rk where
  l : List SI
instance rpRk : Rp Rk := ⟨fun K H v r => ∃ t xs, v = .ref t ∧ H t = some (.tup xs) ∧ xs.length ≤ sizeLine ∧ Paired (Rp.rel K H) xs r.l,
  fun s ⟨t, xs, e, h, z, p⟩ => ⟨t, xs, e, s _ _ h, z, Paired.imp' (fun _ _ r => Rp.mono s r) p⟩⟩
def Rk.tp (r : Rk) : Tp SI := ⟨r.l⟩
def Rk.of (r : Tp SI) : Rk := ⟨r.l⟩
theorem Rk.rel {K : PySem.W.Frag} {H : Hp} {v : V} {r : Rk} (h : Rp.rel K H v r) : Rp.rel K H v r.tp :=
  let ⟨t, xs, e, h, z, p⟩ := h
  ⟨t, xs, e, SqT.of h, z, p⟩
theorem sis_eq {K : PySem.W.Frag} {H : Hp} : ∀ {xs : List V} {l : List SI}, Paired (Rp.rel K H) xs l → xs = (l.map siK).map kV
  | _, _, .nil => rfl
  | _, _, .cons (b := .s x) h t => by
    rw [List.map_cons, List.map_cons, ← sis_eq t]
    exact congrArg (· :: _) h.1
  | _, _, .cons (b := .i n) h t => by
    rw [List.map_cons, List.map_cons, ← sis_eq t]
    exact congrArg (· :: _) (show _ = V.int n from h)
def rownO (rows : List (Tp SI)) (r : Rk) : Option (List (Tp SI) × Int) := match idxB 0 rows r.tp with
  | some n => some (rows, n)
  | none => if rows.length < sizeLine then some (rows ++ [r.tp], (rows.length : Int)) else none
structure OwnB (K : PySem.W.Frag) (G H : Hp) (p q : Addr) (vs : List V) (rows : List (Tp SI)) : Prop where
  l : Own K G H (.ref p) p vs rows
  ne : p ≠ q
  g : G q = none
  h : H q = some (.dT (encB 0 rows))
  t : Paired (Rp.rel K G) vs (rows.map Rk.of)
def spB (K : PySem.W.Frag) {α : Type} [Rp α] (m : List (Tp SI) → α → Option (List (Tp SI) × Int)) : Sp := fun vs H Q _ =>
  ∃ G p q v xs rows a r, vs = [.ref p, .ref q, v] ∧ Same G H ∧ OwnB K G H p q xs rows ∧ Rp.rel K G v a ∧ m rows a = some r ∧
    ∀ G2 H2 xs', Ext G (era H [p, q]) G2 H2 → OwnB K G2 H2 p q xs' r.1 → Q (.int r.2) H2
section
variable {K : PySem.W.Frag} {σ : St} {G H G1 H1 G0 H0 : Hp} {D : Ends} {p q l : Addr} {xs : List V} {rows : List (Tp SI)}
theorem spB_len {α : Type} [Rp α] {m : List (Tp SI) → α → Option (List (Tp SI) × Int)} {vs : List V} {Q : VK} {E : XK} (h : spB K m vs H Q E) : vs.length = 3 := by
  obtain ⟨G, p, q, v, xs, rows, a, r, rfl, _⟩ := h
  rfl
theorem OwnB.ext (o : OwnB K G H p q xs rows) (x : Ext G H G1 H1) : OwnB K G1 H1 p q xs rows :=
  ⟨o.l.ext x, o.ne, x.no q o.g (by rw [o.h]; exact fun z => nomatch z), x.hh _ _ o.h, Paired.imp' (fun _ _ r => Rp.mono x.gg r) o.t⟩
theorem OwnB.put {ho : HO} (o : OwnB K G H p q xs rows) (h1 : p ≠ l) (h2 : q ≠ l) : OwnB K G (upd H l ho) p q xs rows :=
  ⟨o.l.put h1, o.ne, o.g, by rw [upd_ne h2]; exact o.h, o.t⟩
theorem rown_body {v : V} {row : Rk} {r : List (Tp SI) × Int} (s : Same G H) (o : OwnB K G H p q xs rows) (rv : Rp.rel K G v row) (hm : rownO rows row = some r)
    (k : ∀ G2 H2 xs', Ext G (era H [p, q]) G2 H2 → OwnB K G2 H2 p q xs' r.1 → D.rt (.int r.2) H2) :
    tSeq (tIfS (tB (tDNotIn (tVar 2) (tVar 1)))
        (tSeq (sDPut (tVar 1) (tVar 2) (tCB (rLen K) (tCons (tVar 0) tNil))) (tSeq (tDrop (tBM K "list" rAppend (tVar 0) (tCons (tVar 2) tNil))) tNext)) tNext)
      (tSeq (tRet (tDGet (tVar 1) (tVar 2))) tNext) D [some (.ref p), some (.ref q), some v] H := by
  obtain ⟨t, ys, rfl, ht, hz, pr⟩ := id rv
  have e1 := sis_eq pr
  have ht' : H t = some (.tup ((rowK row.tp).map kV)) := by
    rw [s _ _ ht, e1]
    rfl
  have hv := val_enc row.tp rows 0
  have b0 := Ext.begin (C := [p, q]) s
  refine ⟨_, rfl, _, rfl, q, _, rfl, DGet.t o.h ht', _, rfl, ?_⟩
  unfold rownO at hm
  cases hi : idxB 0 rows row.tp with
  | some n =>
    rw [hi] at hm hv
    cases hm
    rw [hv]
    refine iteF ?_
    exact ⟨_, rfl, _, rfl, q, .int n, rfl, .inr ⟨_, _, t, .inl o.h, rfl, ht', hv.symm⟩, k G H xs b0 o⟩
  | none =>
    rw [hi] at hm hv
    obtain ⟨hl, e⟩ := ite_some hm
    cases e
    rw [hv]
    refine iteT ?_
    have oh := o.l.h
    have hlen := Paired.length o.l.p
    have npq : p ≠ q := o.ne
    refine ⟨_, rfl, xs, .inl (SqL.of oh), ?_⟩
    refine ⟨_, rfl, _, rfl, q, _, rfl, DPut.t o.h ht' (by rw [encB_len]; exact hl), ?_⟩
    have enc : putK (encB 0 rows) (rowK row.tp) (.int (xs.length : Int)) = encB 0 (rows ++ [row.tp]) := by
      rw [putK_new _ hv, encB_app, Nat.zero_add, hlen]
    rw [enc]
    have hp1 : upd H q (.dT (encB 0 (rows ++ [row.tp]))) p = some (.lst xs) := by
      rw [upd_ne npq]
      exact oh
    refine ⟨_, rfl, .inl ⟨rfl, _, SqL.of hp1⟩, _, rfl, p, xs, .ref t, rfl, rfl, hp1, by omega, ?_⟩
    have tp : t ≠ p := fun z => by
      rw [z, oh] at ht'
      cases ht'
    have tq : t ≠ q := fun z => by
      rw [z, o.h] at ht'
      cases ht'
    have hq2 : upd (upd H q (.dT (encB 0 (rows ++ [row.tp])))) p (.lst (xs ++ [.ref t])) q = some (.dT (encB 0 (rows ++ [row.tp]))) := by
      rw [upd_ne (Ne.symm npq)]
      exact upd_same
    have ht2 : upd (upd H q (.dT (encB 0 (rows ++ [row.tp])))) p (.lst (xs ++ [.ref t])) t = some (.tup ((rowK row.tp).map kV)) := by
      rw [upd_ne tp, upd_ne tq]
      exact ht'
    refine ⟨_, rfl, _, rfl, q, .int (rows.length : Int), rfl, .inr ⟨_, _, t, .inl hq2, rfl, ht2, ?_⟩, ?_⟩
    · rw [encB_app, valV_snoc _ _ _ _ hv, if_pos rfl, Nat.zero_add]
    · refine k G _ (xs ++ [.ref t]) ((b0.put (era_in (by simp)) o.g).put (era_in (by simp)) o.l.g) ⟨⟨rfl, o.l.g, upd_same, ?_, Paired.app o.l.p (.cons (Rk.rel rv) .nil)⟩, npq, o.g, hq2, by rw [List.map_append]; exact Paired.app o.t (.cons rv .nil)⟩
      rw [List.length_append, List.length_singleton]
      omega
def sisO : List Nt → Option (List SI)
  | [] => some []
  | .txt x :: r => (sisO r).bind fun l => some (.s x :: l)
  | .tup _ :: _ => none
  | .int _ :: _ => none
theorem sis_rel : ∀ {xs : List V} {l : List Nt} {ks : List SI}, RelNs K G xs l → sisO l = some ks → Paired (Rp.rel K G) xs ks
  | _, _, _, .nil, e => by
    cases e
    exact .nil
  | _, _, _, .cons (.txt x z) t, e => by
    obtain ⟨l', h, e⟩ := Option.bind_eq_some_iff.mp e
    cases e
    exact .cons ⟨rfl, z⟩ (sis_rel t h)
  | _, _, _, .cons (.tup _ _ _ _) t, e => nomatch (show (none : Option (List SI)) = some _ from e)
  | _, _, _, .cons (.int _) t, e => nomatch (show (none : Option (List SI)) = some _ from e)
def layF (lay : List (Tp SI) → Nt → Option (List (Tp SI) × Int)) (a : Nt) (s : List (Tp SI) × List SI) : Option (Fl (List (Tp SI) × List SI) Unit) :=
  (lay s.1 a).bind fun z => if s.2.length + 1 ≤ sizeLine then some (.nx (z.1, s.2 ++ [.i z.2])) else none
def layE : Fl (List (Tp SI) × List SI) Unit → Option (List (Tp SI) × Int)
  | .nx z => rownO z.1 ⟨z.2⟩
  | _ => none
def layO (pm : Nt → Option (Tp Nt)) : Nat → List (Tp SI) → Nt → Option (List (Tp SI) × Int)
  | 0 => fun _ _ => none
  | n + 1 => fun rows a => (asTup a).bind fun t => (atI t.l 0).bind fun b => (asTxt b).bind fun w =>
      cond (decide (w = "lamp")) ((sisO t.l).bind fun l => rownO rows ⟨l⟩)
      ((pm a).bind fun ps => (forO (layF (layO pm n)) ps.l (rows, [.s w])).bind fun z => layE z)
theorem lay_body {pm : Nt → Option (Tp Nt)} {mp : Nt × Unit → Option (Tp Nt)} (hpm : ∀ a, mp (a, ()) = pm a) {n : Nat} {v : V} {a : Nt} {r : List (Tp SI) × Int} (s : Same G H) (o : OwnB K G H p q xs rows) (rv : Rp.rel K G v a) (hm : layO pm (n + 1) rows a = some r)
    (k : ∀ G2 H2 xs', Ext G (era H [p, q]) G2 H2 → OwnB K G2 H2 p q xs' r.1 → D.rt (.int r.2) H2) :
    tSeq (tIfS (tTest (tOp rEq (tOp (rAt K) (tVar 2) (tC (.int 0))) (tC (.str "lamp"))))
        (tSeq (tRet (tCall (spB K rownO) [] E0 (tCons (tVar 0) (tCons (tVar 1) (tCons (tVar 2) tNil))))) tNext) tNext)
      (tSeq (tAsg (tTup (tCons (tOp (rAt K) (tVar 2) (tC (.int 0))) tNil)) (gName 3))
      (tSeq (tFor (iAny K (tCall (spM K mp) [] E0 (tCons (tVar 2) tNil))) (gName 4)
        (tSeq (tAsg (tOp (rCatTp K) (tVar 3) (tTup (tCons (tCall (spB K (layO pm n)) [] E0 (tCons (tVar 0) (tCons (tVar 1) (tCons (tVar 4) tNil)))) tNil))) (gName 3)) tNext))
      (tSeq (tRet (tCall (spB K rownO) [] E0 (tCons (tVar 0) (tCons (tVar 1) (tCons (tVar 3) tNil))))) tNext))) D [some (.ref p), some (.ref q), some v, none, none] H := by
  obtain ⟨t, htu, hm⟩ := Option.bind_eq_some_iff.mp (show _ = some r from hm)
  obtain ⟨b, hb, hm⟩ := Option.bind_eq_some_iff.mp hm
  obtain ⟨w, hw, hm⟩ := Option.bind_eq_some_iff.mp hm
  have b0 := Ext.begin (C := [p, q]) s
  have z0 : ∀ b ∈ [p, q], era H [p, q] b = none := fun b hb => era_in hb
  have hd : ((((some a).bind fun d => asTup d).bind fun a => (some (0 : Int)).bind fun i => atI a.l i).bind fun d => asTxt d) = some w := by
    rw [Option.bind_some, htu, Option.bind_some, Option.bind_some, hb, Option.bind_some, hw]
  refine sv_if (tv_test (K := K) (ev_eqS (ev_asTxt (ev_atT (ev_asTup (ev_var rfl rv)) ev_i)) ev_s)) (b := decide (w = "lamp")) (by rw [hd]; rfl) s fun G2 H2 x2 => ?_
  have o2 := o.ext x2
  have rv2 := Rp.mono x2.gg rv
  have xt := b0.trans x2
  by_cases hl : w = "lamp"
  · rw [decide_eq_true hl] at hm ⊢
    have hmL : ((sisO t.l).bind fun l => rownO rows ⟨l⟩) = some r := hm
    obtain ⟨ks, hks, hmK⟩ := Option.bind_eq_some_iff.mp hmL
    refine iteT ?_
    cases rv2 with
    | txt x z => cases htu
    | int n => cases htu
    | @tup ad us ds h z rs hlp =>
      cases htu
      have h0 : ds[0]? = some (.txt "lamp") := by
        have hb' : atI ds 0 = some b := hb
        cases ds with
        | nil => cases hb'
        | cons d ds' =>
          have e0 : ixN (d :: ds').length (0 : Int) = some 0 := by
            unfold ixN
            rw [if_pos (by omega), if_pos (by rw [List.length_cons]; omega)]
            rfl
          have this : atI (d :: ds') (0 : Int) = some d := by
            unfold atI
            rw [e0]
            rfl
          rw [this] at hb'
          have hdb := Option.some.inj hb'
          cases d with
          | txt y =>
            rw [← hdb] at hw
            have hyw : y = w := Option.some.inj hw
            rw [hyw, hl]
            rfl
          | tup _ =>
            rw [← hdb] at hw
            cases hw
          | int _ =>
            rw [← hdb] at hw
            cases hw
      have rk : Rp.rel K G2 (.ref ad) (Rk.mk ks) := ⟨ad, us, rfl, hlp h0, z, sis_rel rs hks⟩
      exact ⟨_, rfl, _, rfl, _, rfl, G2, p, q, _, xs, rows, ⟨ks⟩, r, rfl, x2.gh, o2, rk, hmK, fun G3 H3 xs' y o' => k G3 H3 xs' (xt.past z0 y) o'⟩
  · rw [decide_eq_false hl] at hm ⊢
    replace hm : ((pm a).bind fun ps => (forO (layF (layO pm n)) ps.l (rows, [.s w])).bind fun z => layE z) = some r := hm
    obtain ⟨ps, hps, hm⟩ := Option.bind_eq_some_iff.mp hm
    obtain ⟨res, hres, hm⟩ := Option.bind_eq_some_iff.mp hm
    refine iteF ?_
    refine (ev_asTxt (ev_atT (ev_asTup (ev_var rfl rv2)) ev_i)).run (K := K) hd x2.gh fun u G3 H3 x3 r3 => ?_
    refine ⟨by show 1 ≤ sizeLine; decide, fun t3 ht3 => ?_⟩
    have x4 : Ext G3 H3 (upd G3 t3 (.tup [u])) (upd H3 t3 (.tup [u])) := .new x3.gh ht3
    have o4 := (o2.ext x3).ext x4
    have xt := (xt.trans x3).trans x4
    have rv4 := Rp.mono x4.gg (Rp.mono x3.gg rv2)
    have rk : Rp.rel K (upd G3 t3 (.tup [u])) (.ref t3) (Rk.mk [.s w]) := ⟨t3, [u], rfl, upd_same, by show 1 ≤ sizeLine; decide, .cons (show RelSI u (.s w) from r3) .nil⟩
    refine sv_for (K := K) (RR := fun _ _ _ _ => False) (iw_tup (ev_def (m := mp) (av_cons (ev_var rfl rv4) av_nil))) (as := ps.l) (by
      show ((some (a, ())).bind fun a => mp a).bind _ = _
      rw [Option.bind_some, hpm, hps]
      rfl) hres xt.gh fun G5 H5 x5 => ⟨fun s σ' G' H' => ∃ u pt ys, σ' = [some (.ref p), some (.ref q), some v, some u, pt] ∧ Ext G (era H [p, q]) G' H' ∧ Same G5 G' ∧ OwnB K G' H' p q ys s.1 ∧ Rp.rel K G' u (Rk.mk s.2) ∧ s.2 ≠ [], ?_⟩
    refine ⟨⟨_, _, _, rfl, xt.trans x5, Same.refl _, o4.ext x5, Rp.mono x5.gg rk, by simp⟩, ?_, ?_, ?_, fun _ _ _ _ _ h => h.elim⟩
    · rintro s σ' G' H' ⟨u, pt, ys, rfl, x, m, _⟩
      exact ⟨m, x.gh⟩
    · rintro x a' s1 _ G6 H6 fl - ⟨u', pt, ys, rfl, x6, m6, o6, ru, ne6⟩ ra hf D' kN - - -
      obtain ⟨z, hz, hf⟩ := Option.bind_eq_some_iff.mp hf
      obtain ⟨hle, hf⟩ := ite_some hf
      subst hf
      refine ⟨_, rfl, _, rfl, _, rfl, _, rfl, G6, p, q, x, ys, s1.1, a', z, rfl, x6.gh, o6, ra, hz, fun G7 H7 ys' y7 o7 => ?_⟩
      refine ⟨by show 1 ≤ sizeLine; decide, fun t8 ht8 => ?_⟩
      have x8 : Ext G7 H7 (upd G7 t8 (.tup [.int z.2])) (upd H7 t8 (.tup [.int z.2])) := .new y7.gh ht8
      have xt7 := x6.past z0 y7
      obtain ⟨tu, us, rfl, hu, hzu, pu⟩ := Rp.mono x8.gg (Rp.mono y7.gg ru)
      have lu := Paired.length pu
      have lne : us ≠ [] := fun z => ne6 (List.length_eq_zero_iff.mp (by rw [← lu, z]; rfl))
      refine ⟨tu, t8, us, [.int z.2], rfl, rfl, SqT.of (x8.gh _ _ hu), SqT.of upd_same, by rw [lu]; exact hle, (fun z => absurd z lne), (fun z => nomatch z), fun t9 ht9 => ?_⟩
      have x9 : Ext (upd G7 t8 (.tup [.int z.2])) (upd H7 t8 (.tup [.int z.2])) (upd (upd G7 t8 (.tup [.int z.2])) t9 (.tup (us ++ [.int z.2]))) (upd (upd H7 t8 (.tup [.int z.2])) t9 (.tup (us ++ [.int z.2]))) := .new x8.gh ht9
      refine kN (z.1, s1.2 ++ [.i z.2]) _ _ _ rfl ⟨_, _, ys', rfl, (xt7.trans x8).trans x9, m6.trans (y7.gg.trans (x8.gg.trans x9.gg)), (o7.ext x8).ext x9, ⟨t9, us ++ [.int z.2], rfl, upd_same, ?_, ?_⟩, by simp⟩
      · rw [List.length_append, List.length_singleton, lu]
        exact hle
      · exact Paired.app (Paired.imp' (fun _ _ r => Rp.mono x9.gg r) pu) (.cons rfl .nil)
    · rintro s1 _ G6 H6 rfl ⟨u', pt, ys, rfl, x6, m6, o6, ru, ne6⟩
      replace hm : rownO s1.1 ⟨s1.2⟩ = some r := hm
      exact ⟨_, rfl, _, rfl, _, rfl, G6, p, q, _, ys, s1.1, ⟨s1.2⟩, r, rfl, x6.gh, o6, ru, hm, fun G7 H7 xs' y o' => k G7 H7 xs' (x6.past z0 y) o'⟩
def booksO (lay : List (Tp SI) → Nt → Option (List (Tp SI) × Int)) : List Nt → List (Tp SI) → Option (List (Tp SI) × List Int)
  | [], rows => some (rows, [])
  | a :: r, rows => (lay rows a).bind fun z => (booksO lay r z.1).bind fun y => some (y.1, z.2 :: y.2)
theorem book_bodyG {β : Type} [Rp β] (f : Tp SI → β) (hf : ∀ {G : Hp} {xs : List V} {rows : List (Tp SI)}, Paired (Rp.rel K G) xs rows → Paired (Rp.rel K G) xs (rows.map Rk.of) → Paired (Rp.rel K G) xs (rows.map f)) {lay : List (Tp SI) → Nt → Option (List (Tp SI) × Int)} {v : V} {as : List Nt} {r : List (Tp SI) × List Int} (s : Same G H) (rv : Rp.rel K G v as) (hm : booksO lay as [] = some r)
    (k : ∀ v p q vs ws G2 H2, Ext G H G2 H2 → H p = none → H q = none → Own2 K G2 H2 v p q vs ws (r.1.map f, r.2) → D.rt v H2) :
    tSeq (tAsg (tLst tNil) (gName 1)) (tSeq (tAsg tDNewT (gName 2))
      (tSeq (tAsg (tComp [1, 2] (iAny K (tVar 0)) tYes (tCall (spB K lay) [] E0 (tCons (tVar 1) (tCons (tVar 2) (tCons (tVar 0) tNil))))) (gName 3))
      (tSeq (tRet (tTup (tCons (tVar 1) (tCons (tVar 3) tNil)))) tNext))) D [some v, none, none, none] H := by
  refine ⟨by show 0 ≤ sizeLine; decide, fun p hp q hq => ?_⟩
  have npq : p ≠ q := fun z => by
    rw [z] at hq
    rw [upd_same] at hq
    cases hq
  have hq0 : H q = none := by rwa [upd_ne (Ne.symm npq)] at hq
  have x1 : Ext G H G (upd (upd H p (.lst [])) q (.dT [])) := ((Ext.refl s).put hp (s.free hp)).put hq0 (s.free hq0)
  have o1 : OwnB K G (upd (upd H p (.lst [])) q (.dT [])) p q [] [] := ⟨⟨rfl, s.free hp, by rw [upd_ne npq]; exact upd_same, Nat.zero_le _, .nil⟩, npq, s.free hq0, upd_same, .nil⟩
  dsimp only [gName, tSeq, tAsg, List.set]
  show tComp [1, 2] (iAny K (tVar 0)) tYes (tCall (spB K lay) [] E0 (tCons (tVar 1) (tCons (tVar 2) (tCons (tVar 0) tNil)))) [some v, some (.ref p), some (.ref q), none] (upd (upd H p (.lst [])) q (.dT [])) _
  refine (show IW K (iAny K (tVar 0)) [some v, some (.ref p), some (.ref q), none] G (some as) from iw_list (ev_var rfl rv)) G (.refl G) as rfl _ x1.gh _ fun J vs Ga Ha xa Y hz pr => ?_
  intro l hl
  have oa := o1.ext xa
  have xt := x1.trans xa
  have nlp : p ≠ l := fun z => by
    rw [← z, oa.l.h] at hl
    cases hl
  have nlq : q ≠ l := fun z => by
    rw [← z, oa.h] at hl
    cases hl
  have hl0 : H l = none := xt.hh.free hl
  have hla := Paired.length pr
  have zpq : ∀ b ∈ [p, q], H b = none := fun b hb => by
    rcases List.mem_cons.mp hb with e | hb
    · rw [e]; exact hp
    · rw [List.mem_singleton.mp hb]; exact hq0
  refine ⟨fun i m ys H2 => m = vs.length - i ∧ i ≤ vs.length ∧ ∃ G2 xs rows ns cs, Ext G H G2 H2 ∧ Same Ga G2 ∧ OwnB K G2 H2 p q xs rows ∧ G2 l = none ∧ H2 l = some (.lst ys) ∧ ys = ns.map V.int ∧ ys.length ≤ i ∧ booksO lay (as.drop i) rows = some (r.1, cs) ∧ r.2 = ns ++ cs,
    ⟨vs.length, by simp, Nat.zero_le _, Ga, [], [], [], r.2, xt.trans (.own xa.gh hl), Same.refl _, oa.put nlp nlq, xa.gh.free hl, upd_same, rfl, Nat.le_refl _, hm, rfl⟩, ?_⟩
  rintro i m ys H2 ⟨rfl, hi, G2, xs, rows, ns, cs, x2, m2, o2, hg, hh, hys, hy, hcs, hr⟩
  by_cases hlt : i < vs.length
  · refine .inr ⟨Y.go i _ (m2.trans x2.gh) hlt, fun ys' H' => ∃ G2 xs rows ns cs, Ext G H G2 H' ∧ Same Ga G2 ∧ OwnB K G2 H' p q xs rows ∧ G2 l = none ∧ H' l = some (.lst ys') ∧ ys' = ns.map V.int ∧ ys'.length ≤ i + 1 ∧ booksO lay (as.drop (i + 1)) rows = some (r.1, cs) ∧ r.2 = ns ++ cs,
      fun ys' H' h => ⟨vs.length - (i + 1), by omega, rfl, hlt, h⟩, fun x H3 y => ?_⟩
    obtain ⟨rfl, hx⟩ := Y.yld i _ x H3 (m2.trans x2.gh) hlt y
    obtain ⟨a, hai, ra⟩ := Paired.getR pr hx
    have hd : as.drop i = a :: as.drop (i + 1) := by
      obtain ⟨h1, h2⟩ := List.getElem?_eq_some_iff.mp hai
      rw [List.drop_eq_getElem_cons h1, h2]
    rw [hd] at hcs
    obtain ⟨z, hz', hcs⟩ := Option.bind_eq_some_iff.mp (show ((lay rows a).bind fun z => _) = some _ from hcs)
    obtain ⟨y', hy', hcs⟩ := Option.bind_eq_some_iff.mp hcs
    obtain ⟨e1, e2⟩ := Prod.mk.inj (Option.some.inj hcs)
    subst e2
    have hy2 : booksO lay (as.drop (i + 1)) z.1 = some (r.1, y'.2) := by rw [hy', ← e1]
    dsimp only [tYes]
    rw [if_pos rfl]
    refine ⟨_, rfl, _, rfl, _, rfl, G2, p, q, x, xs, rows, a, z, rfl, x2.gh, o2, Rp.mono m2 ra, hz', fun G4 H4 xs' y4 o4 => ?_⟩
    have nin : l ∉ [p, q] := fun hb => by
      rcases List.mem_cons.mp hb with e | hb
      · exact nlp e.symm
      · exact nlq (List.mem_singleton.mp hb).symm
    have e2 : era H3 [p, q] l = some (.lst ys) := by rw [era_out nin]; exact hh
    have hh4 := y4.hh _ _ e2
    have hg4 := y4.no l hg (by rw [e2]; exact fun z => nomatch z)
    have xt4 := x2.past zpq y4
    refine ⟨hh4, by omega, G4, xs', z.1, ns ++ [z.2], y'.2, xt4.put hl0 hg4, m2.trans y4.gg, o4.put nlp nlq, hg4, upd_same, by rw [hys, List.map_append]; rfl, ?_, hy2, by rw [hr, List.append_assoc]; rfl⟩
    rw [List.length_append, List.length_singleton]
    omega
  · have e : i = vs.length := by omega
    subst e
    have hd : as.drop vs.length = [] := List.drop_eq_nil_of_le (by omega)
    rw [hd] at hcs
    obtain ⟨e1, e2⟩ := Prod.mk.inj (Option.some.inj (show some (rows, ([] : List Int)) = some (r.1, cs) from hcs))
    rw [← e2, List.append_nil] at hr
    refine .inl ⟨Y.stop _ (m2.trans x2.gh), ?_⟩
    have ol : Own K G2 H2 (.ref l) l ys r.2 := ⟨rfl, hg, hh, by omega, by
      rw [hys, hr]
      clear hys hr hy hh e2
      induction ns with
      | nil => exact .nil
      | cons a t ih => exact .cons rfl ih⟩
    refine sv_retO2 (K := K) (rest := tNext) rfl rfl (by rw [← e1]; exact ⟨o2.l.v, o2.l.g, o2.l.h, o2.l.z, hf o2.l.p o2.t⟩ : Own K G2 H2 (.ref p) p xs (r.1.map f)) ol nlp x2.gh fun v G5 H5 x5 o5 => ?_
    exact k v p l xs ys G5 H5 (x2.trans x5) hp hl0 o5
def booksR (lay : List (Tp SI) → Nt → Option (List (Tp SI) × Int)) (as : List Nt) : Option (List Rk × List Int) := (booksO lay as []).bind fun r => some (r.1.map Rk.of, r.2)
theorem book_bodyR {lay : List (Tp SI) → Nt → Option (List (Tp SI) × Int)} {v : V} {as : List Nt} {r : List Rk × List Int} (s : Same G H) (rv : Rp.rel K G v as) (hm : booksR lay as = some r)
    (k : ∀ v p q vs ws G2 H2, Ext G H G2 H2 → H p = none → H q = none → Own2 K G2 H2 v p q vs ws r → D.rt v H2) :
    tSeq (tAsg (tLst tNil) (gName 1)) (tSeq (tAsg tDNewT (gName 2))
      (tSeq (tAsg (tComp [1, 2] (iAny K (tVar 0)) tYes (tCall (spB K lay) [] E0 (tCons (tVar 1) (tCons (tVar 2) (tCons (tVar 0) tNil))))) (gName 3))
      (tSeq (tRet (tTup (tCons (tVar 1) (tCons (tVar 3) tNil)))) tNext))) D [some v, none, none, none] H := by
  obtain ⟨r0, h0, e⟩ := Option.bind_eq_some_iff.mp hm
  cases e
  exact book_bodyG Rk.of (fun _ h => h) s rv h0 k
end
section
variable {K : PySem.W.Frag} {σ : St} {G H : Hp} {α B A : Type} [Rp α] [Rp B] [RpA A] {rest : TS} {D : Ends} {i : Nat} {as : List α} {v : V} {p : Addr} {vs : List V}
end
end L2
set_option Elab.async false
set_option linter.all false
set_option maxRecDepth 100000
set_option maxHeartbeats 4000000
namespace L2
open PySem PySem.Spec PyProof.Rows
theorem boot_reversed : bootBuiltins "reversed" = some (.type "reversed") := by decide +kernel
section
variable {K : PySem.W.Frag} {σ : St} {G : Hp} {α : Type} [Rp α] {ta : TE}
theorem Paired.rev {β : Type} {F : V → β → Prop} : ∀ {xs : List V} {as : List β}, Paired F xs as → Paired F xs.reverse as.reverse
  | _, _, .nil => .nil
  | _, _, .cons r t => by
    rw [List.reverse_cons, List.reverse_cons]
    exact Paired.app (Paired.rev t) (.cons r .nil)
end
end L2
set_option Elab.async false
set_option linter.all false
set_option maxRecDepth 100000
set_option maxHeartbeats 4000000
namespace L2
open PySem PySem.Spec PyProof.Rows
theorem rev_no_len : typeLookup (.type "list_reverseiterator") "__len__" = pure none := by rw [typeLookup_type, builtinLookup_eq_fast]; kernel_rfl
theorem rev_hint : typeLookup (.type "list_reverseiterator") "__length_hint__" = pure (some (.builtin "list_reverseiterator.__length_hint__")) := by rw [typeLookup_type, builtinLookup_eq_fast]; kernel_rfl
section
variable {prog : Program} {w : World} {A : Around} {E : Value → Shared → Prop} {s : Shared}
theorem call_listOfRev {Q : Value → Shared → Prop} {z l : Addr} {xs : Array Value} (hh : A.handled = none) (hit : s.heap.IsRevIter z l ((xs.size : Int) - 1)) (hl : s.heap.IsList l xs) (hb : xs.size ≤ sizeLine)
    (h : ∀ h' tk acc' c', (∀ c o, c ≠ z → s.heap.get? c = some o → h'.get? c = some o) → h'.get? s.heap.objs.size = some (LObj acc' c') → ItemsOf (fun i v => xs[xs.size - 1 - i]? = some v) acc' xs.size → Q (.ref s.heap.objs.size) { s with heap := h', toks := tk }) :
    wpAny (model prog w) A (call (.type "list") [.ref z]) Q E s := by
  refine callType_codes (Q₁ := fun obj s₁ => obj = .ref s.heap.objs.size ∧ s₁ = { s with heap := s.heap.push { cls := .type "list", data := .seq #[] } }) PySem.F.called_list (PySem.F.typeCall_list_1 _) PySem.F.entry_list_init (code_list_new _ ⟨rfl, rfl⟩) fun obj s₁ h₁ => ?_
  obtain ⟨rfl, rfl⟩ := h₁
  have hS : (s.heap.push { cls := .type "list", data := .seq #[] }).get? s.heap.objs.size = some (LObj #[] 0) := Heap.get?_push_size _ rfl
  have lz : z < s.heap.objs.size := by obtain ⟨_, e, _⟩ := hit; exact Heap.lt_size e
  have ll : l < s.heap.objs.size := by obtain ⟨_, e, _⟩ := hl; exact Heap.lt_size e
  have hzl : l ≠ z := fun q => by
    obtain ⟨o, e, c, _⟩ := hit
    obtain ⟨o', e', c', _⟩ := hl
    rw [q, e] at e'
    cases e'
    rw [c] at c'
    exact absurd c' (by decide)
  have ne : s.heap.objs.size ≠ z := fun q => absurd lz (by rw [← q]; exact Nat.lt_irrefl _)
  have nl : s.heap.objs.size ≠ l := fun q => absurd ll (by rw [← q]; exact Nat.lt_irrefl _)
  have up : ∀ c o, s.heap.get? c = some o → (s.heap.push { cls := .type "list", data := .seq #[] }).get? c = some o := fun c o q => Heap.get?_push_of_some _ q
  refine ⟨⟨_, hS, rfl⟩, PySem.F.args_list_init_2 _ _, ?_⟩
  show wpAny _ _ (do let old ← Builtin.List.listItems (.ref s.heap.objs.size); Builtin.List.listUpdate (.ref s.heap.objs.size) (fun _ => #[]); letGo old.toList.reverse; Builtin.List.listExtendWith (.ref s.heap.objs.size) (.ref z) .none) _ _ _
  refine wpAny_bind ?_
  unfold Builtin.List.listItems
  refine wpAny_bind (wpAny_seqItems hS rfl (wpAny_pure ?_))
  show wpAny _ _ (updateSeq s.heap.objs.size (fun _ => #[]) >>= fun _ => letGo (#[] : Array Value).toList.reverse >>= fun _ => Builtin.List.listExtendWith (.ref s.heap.objs.size) (.ref z) .none) _ _ _
  refine wpAny_bind (wpAny_updateSeq (s := { s with heap := s.heap.push { cls := .type "list", data := .seq #[] } }) hS rfl ?_)
  have hS₂ := Heap.get?_update_self (Obj.mapSeq (fun _ => (#[] : Array Value))) hS rfl
  have oth₂ : ∀ b o, b ≠ s.heap.objs.size → s.heap.get? b = some o → ((s.heap.push { cls := .type "list", data := .seq #[] }).update s.heap.objs.size (Obj.mapSeq (fun _ => (#[] : Array Value)))).get? b = some o := fun b o hb e => (Heap.get?_update_other _ _ (Ne.symm hb)).trans (up b o e)
  refine wpAny_bind (wpAny_letGo ?_)
  have hit₂ := hit.at (h' := (s.heap.push { cls := .type "list", data := .seq #[] }).update s.heap.objs.size (Obj.mapSeq (fun _ => (#[] : Array Value)))) fun o e => oth₂ z o (Ne.symm ne) e
  have hl₂ : ((s.heap.push { cls := .type "list", data := .seq #[] }).update s.heap.objs.size (Obj.mapSeq (fun _ => (#[] : Array Value)))).IsList l xs := hl.at fun o e => oth₂ l o (Ne.symm nl) e
  have ty : Shared.TypeIs { s with heap := (s.heap.push { cls := .type "list", data := .seq #[] }).update s.heap.objs.size (Obj.mapSeq (fun _ => (#[] : Array Value))) } (.ref z) "list_reverseiterator" := by
    obtain ⟨o, e, c, _⟩ := hit₂
    exact ⟨o, e, c⟩
  unfold Builtin.List.listExtendWith
  refine wpAny_bind (wpAny_typeOf (T := "list_reverseiterator") ty ?_)
  have h1 : Builtin.List.listSameRef (.ref s.heap.objs.size) (.ref z) = false := by simp [Builtin.List.listSameRef, ne]
  have h2 : (Value.type "list_reverseiterator" == Value.type "list") = false := by decide
  have h3 : (Value.type "list_reverseiterator" == Value.type "tuple") = false := by decide
  simp only [h1, h2, h3, Bool.or_false, Bool.false_eq_true, if_false]
  refine wpAny_bind (wpAny_pyIter_revIter hit₂ ?_)
  refine wpAny_bind (wpAny_holding ?_)
  unfold Builtin.List.listLengthHint
  refine wpAny_bind (wpAny_specialOf (T := "list_reverseiterator") ty rev_no_len ?_)
  show wpAny _ _ (specialOf (Value.ref z) (Str.ofString "__length_hint__") >>= _) _ _ _
  refine wpAny_bind (wpAny_specialOf (T := "list_reverseiterator") ty rev_hint ?_)
  generalize hid : ("list_reverseiterator.__length_hint__" : String) = id0
  wp_delta
  rw [show splitId id0 = some ("list_reverseiterator", "__length_hint__") from by subst hid; decide +kernel]
  subst hid
  refine wpAny_bind (wpAny_isInstance (T := "list_reverseiterator") (b := true) ty (by rw [isSubtype_type]; kernel_rfl) ?_)
  refine wpAny_ite_split (fun hab => absurd hab (by decide)) (fun _ => ?_)
  refine wpAny_ite_split (fun _ => ?_) (fun hab => absurd (by decide +kernel) hab)
  refine wpAny_ite_split (fun hab => absurd hab (by decide +kernel)) (fun _ => ?_)
  refine wpAny_pure ?_
  refine wpAny_ite_split (fun hab => absurd hab (by decide +kernel)) (fun _ => ?_)
  have W := (Walks.listRev (prog := prog) (w := w) (A := A.in1.in1) hh z l hzl xs).toS
  refine wpAny_pure ⟨plainId_quiet PySem.F.plain_extend_loop _, ?_⟩
  refine codeAny_extend_loopS W hb _ (fun q => ?_) _ xs.size 0 _ #[] _ rfl (Nat.zero_le _) ⟨Nat.zero_le _, by simpa using hit₂, hl₂⟩ hS₂ (ItemsOf.nil _) fun s' acc' c' hm hS' hacc => ?_
  · simp only [List.mem_cons, List.not_mem_nil, or_false] at q
    rcases q with q | q
    · exact ne q
    · exact nl q
  rw [Moved.eq_with hm]
  refine ⟨rfl, h s'.heap s'.toks acc' c' (fun c o hc e => hm.heap c o (fun q => ?_) (oth₂ c o (Nat.ne_of_lt (Heap.lt_size e)) e)) hS' hacc⟩
  simp only [List.mem_cons, List.not_mem_nil, or_false] at q
  rcases q with q | q
  · exact absurd (Heap.lt_size e) (by rw [q]; exact Nat.lt_irrefl _)
  · exact hc q
end
theorem items_rev {xs : List V} {its : List Value} {acc : Array Value} (rv : Vals xs its) (h : ItemsOf (fun i v => its.toArray[its.toArray.size - 1 - i]? = some v) acc its.toArray.size) : Vals xs.reverse acc.toList := by
  have e : acc.toList = its.reverse := by
    have hs : acc.size = its.length := by simpa using h.1
    refine List.ext_getElem? fun j => ?_
    by_cases hj : j < its.length
    · have ha : acc[j]? = some (acc[j]'(by omega)) := Array.getElem?_eq_getElem (by omega)
      have := h.2 j _ ha
      rw [List.getElem?_reverse hj, Array.getElem?_toList, ha]
      simpa using this.symm
    · rw [List.getElem?_eq_none (by simp; omega), List.getElem?_eq_none (by simp; omega)]
  rw [e]
  exact rv.reverse
def tListRev (K : PySem.W.Frag) (ta : TA) : TE := fun σ H Q => ta σ H fun us H1 => ∃ (a : Addr) (xs : List V), us = [.ref a] ∧ SqL K H1 a xs ∧ ∀ p, H1 p = none → Q (.ref p) (upd H1 p (.lst xs.reverse))
theorem pe_listRev {X : Cx} {K : PySem.W.Frag} {a : Expr} {ta : TA} {p p2 pos pos2 : Pos} (hc : X.calm = true) (hK : X.K = K) (hg : Gl X "list") (hm : X.mg "list" = none) (hg2 : Gl X "reversed") (hm2 : X.mg "reversed" = none) (ha : PA X [a] ta)
    (hs : starEach [a] X.env = [(false, eval a X.env)] := by rfl)
    (hs3 : starEach [.Call (.Name "reversed" p2) [a] [] pos2] X.env = [(false, eval (.Call (.Name "reversed" p2) [a] [] pos2) X.env)] := by rfl) :
    PE X (.Call (.Name "list" p) [.Call (.Name "reversed" p2) [a] [] pos2] [] pos) (tListRev K ta) := by
  subst hK
  intro pins s σ H R I h
  refine Call_ (ld_blt I hg hm bt_list (PyProof.Rows.callWith_type1 ?_ (by rw [hs3]; rfl) rfl))
  rw [hs3]
  refine Calls.spliced_cons ?_
  refine Call_ (ld_blt I hg2 hm2 boot_reversed (PyProof.Rows.callWith_type1 (thn (ha pos2 pins s σ H _ I h) fun us s1 ⟨vs, H1, I1, r1, q1⟩ => ?_) (by rw [hs]; rfl) (by rfl)))
  obtain ⟨l, xs, e, hq, q⟩ := q1
  subst e
  obtain ⟨u1, rfl, r1q⟩ := vals1 r1
  obtain rfl : u1 = Value.ref l := r1q
  obtain ⟨its, rv, pl, hz⟩ := I1.list hq
  have hl := rv.length
  refine call_reversed_list pl.isList ?_
  refine Calls.spliced_nil ?_
  have st : (s1.heap.push (revObj l ((its.toArray.size : Int) - 1))).IsRevIter s1.heap.objs.size l ((its.toArray.size : Int) - 1) := ⟨_, Heap.get?_push_size _ rfl, rfl, rfl⟩
  refine call_listOfRev (s := { s1 with heap := s1.heap.push (revObj l ((its.toArray.size : Int) - 1)) }) (I1.ok.hd hc) st (pl.isList.push _) (by simp only [List.size_toArray]; omega) fun h' tk acc c k1 k2 k3 => ?_
  have kp : ∀ b o, s1.heap.get? b = some o → h'.get? b = some o := fun b o e => k1 b o (Nat.ne_of_lt (Heap.lt_size e)) (Heap.get?_push_of_some _ e)
  have sz : (s1.heap.push (revObj l ((its.toArray.size : Int) - 1))).objs.size = s1.heap.objs.size + 1 := Heap.size_push ..
  exact ⟨.ref (s1.heap.push (revObj l ((its.toArray.size : Int) - 1))).objs.size, _, I1.laid (t' := tk) kp (by rw [sz]; exact Nat.le_succ _) (show ObjOk X.prog X.w _ _ _ (.lst xs.reverse) from ⟨by rw [List.length_reverse]; exact hz, acc.toList, c, items_rev rv k3, by simpa [LObj] using k2⟩), rfl, q _ (I1.hok.fresh (by rw [sz]; exact Nat.le_succ _))⟩
section
variable {K : PySem.W.Frag} {σ : St} {G : Hp} {α : Type} [Rp α] {ta tb : TE}
theorem fv_listRev {la : Option (List α)} (ea : EV K ta σ G la) : FV K (tListRev K (tCons ta tNil)) σ G (la.bind fun a => some a.reverse) := by
  intro G1 s1 c hc H sH Q k
  obtain ⟨a, ha, hc⟩ := Option.bind_eq_some_iff.mp hc
  cases hc
  refine ea G1 s1 a ha H sH _ fun v G2 H2 x2 r2 => ?_
  obtain ⟨l, xs, rfl, h, z, p⟩ := r2
  refine ⟨l, xs, rfl, .inl (x2.gh.rd h), fun t ht => ?_⟩
  have x5 : Ext G2 H2 G2 (upd H2 t (.lst xs.reverse)) := .own x2.gh ht
  refine k t xs.reverse _ _ (x2.trans x5) (x2.hh.free ht) ?_ upd_same (by rw [List.length_reverse]; exact z) (Paired.rev p)
  cases e : G2 t with
  | none => rfl
  | some o =>
    have := x2.gh t o e
    rw [ht] at this
    cases this
end
section
variable {prog : Program} {w : World} {A : Around} {E : Value → Shared → Prop} {s : Shared}
def b01 (b : Bool) : Int := if b then 1 else 0
theorem sub_bool {M : Model} {b : Bool} {Q : Option Int → Shared → Prop} (h : Q (some (b01 b)) s) : wpAny M A (Builtin.List.listSubscript? (.bool b)) Q E s := by
  unfold Builtin.List.listSubscript?
  refine wpAny_bind (wpAny_specialOf (T := "bool") rfl PySem.F.slot_bool_index.lookup ?_)
  show wpAny M A (asIndex (.bool b) >>= _) Q E s
  refine wpAny_bind (wpAny_of_eq (a := b01 b) (by cases b <;> rfl) ?_)
  show wpAny M A (if (!Builtin.List.listFitsIndex (b01 b)) = true then _ else _) Q E s
  rw [if_neg (by cases b <;> decide)]
  exact wpAny_pure h
theorem getItem_listB {l : Addr} {items : Array Value} {b : Bool} {x : Value} {Q : Value → Shared → Prop} (hl : s.heap.IsList l items)
    (hx : items[(b01 b).toNat]? = some x) (h : Q x s) : wpAny (model prog w) A (getItem (.ref l) (.bool b)) Q E s := by
  obtain ⟨o, ho, hc, ne, hd⟩ := id hl
  unfold getItem
  try with_reducible refine wpAny_holding ?_
  first | refine wpAny_bind (wpAny_pure ?_) | skip
  refine wpAny_bind (wpAny_sequenceKey hl.typeIs (by decide) ?_)
  refine wpAny_bind (wpAny_callSpecial?_slot (name := Str.ofString "__getitem__") hl.typeIs slot_list_getitem
    (wpAny_call_entry slot_list_getitem hl.typeIs entry_list_getitem ?_ (args_list_getitem _ _)))
  show wpAny _ _ (Builtin.List.listSubscript? (.bool b) >>= _) _ _ s
  refine wpAny_bind (sub_bool ?_)
  have h0 : 0 ≤ b01 b := by cases b <;> decide
  generalize b01 b = k at hx h0 ⊢
  obtain ⟨j, rfl⟩ := Int.eq_ofNat_of_zero_le h0
  have hx' : items[j]? = some x := hx
  show wpAny _ _ ((seqItemAt l j >>= fun r => pure (r.map (j, ·))) >>= _) _ _ s
  refine wpAny_bind (wpAny_bind (wpAny_seqItemAt ho hd (wpAny_pure ?_)))
  rw [hx']
  first
    | exact wpAny_bind (wpAny_pure (wpAny_pure ⟨x, rfl, wpAny_pure h⟩))
    | exact wpAny_pure ⟨x, rfl, wpAny_pure h⟩
end
def rAtB (K : PySem.W.Frag) : R2 := fun x y H Q => ∃ p xs b v, x = .ref p ∧ y = .bl b ∧ SqL K H p xs ∧ xs[(b01 b).toNat]? = some v ∧ Q v H
theorem ix_bool {X : Cx} {K : PySem.W.Frag} (hK : X.K = K) : IxR X (rAtB K) := by
  subst hK
  intro value slice pins s σ H x y v u Q I rx ry h hs
  obtain ⟨p, xs, b, z, rfl, rfl, hq, he, q⟩ := h
  cases rx
  cases ry
  obtain ⟨its, r, pl, hz⟩ := I.list hq
  obtain ⟨w, ew, rw'⟩ := r.get he
  exact subscriptTail_builtinR (x := w) pl.isList.typeIs slot_list_getitem.lookup (getItem_listB (Q := fun r s' => r = w ∧ EP X pins σ Q r s') pl.isList (by simpa using ew) ⟨rfl, z, H, I, rw', q⟩) hs
section
variable {K : PySem.W.Frag} {σ : St} {G : Hp} {α : Type} [Rp α] {ta tb : TE}
theorem ev_atB {la : Option (List α)} {ib : Option Bool} (ea : EV K ta σ G la) (eb : EV K tb σ G ib) : EV K (tOp (rAtB K) ta tb) σ G (la.bind fun a => ib.bind fun b => a[(b01 b).toNat]?) :=
  ev_bin (fun s ra rb e Q k => by
    obtain ⟨l, xs, rfl, h, z, p⟩ := ra; cases rb
    have hlt := (List.getElem?_eq_some_iff.mp e).1
    rw [← Paired.length p] at hlt
    exact ⟨_, xs, _, _, rfl, rfl, .inl (s.rd h), List.getElem?_eq_getElem hlt, k _ _ _ (.refl s) (Paired.at' p (List.getElem?_eq_getElem hlt) e)⟩) ea eb
end
def maxO : List Int → Option Int
  | [] => none
  | a :: l => some (l.foldl max a)
theorem foldl_max : ∀ (l : List Int) (a : Int), (l.foldl max a = a ∨ l.foldl max a ∈ l) ∧ a ≤ l.foldl max a ∧ ∀ b ∈ l, b ≤ l.foldl max a
  | [], a => ⟨.inl rfl, Int.le_refl _, fun _ h => by cases h⟩
  | b :: l, a => by
    obtain ⟨h1, h2, h3⟩ := foldl_max l (max a b)
    rw [List.foldl_cons]
    have ha := Int.le_max_left a b
    have hb := Int.le_max_right a b
    refine ⟨?_, Int.le_trans ha h2, fun c hc => ?_⟩
    · rcases h1 with h1 | h1
      · rw [h1]
        by_cases q : a ≤ b
        · rw [Int.max_eq_right q]; exact .inr List.mem_cons_self
        · rw [Int.max_eq_left (by omega)]; exact .inl rfl
      · exact .inr (List.mem_cons_of_mem _ h1)
    · rcases List.mem_cons.mp hc with e | e
      · rw [e]; exact Int.le_trans hb h2
      · exact h3 c e
theorem maxO_of {ns : List Int} {M : Int} (h : M ∈ ns) (h2 : ∀ a ∈ ns, a ≤ M) : maxO ns = some M := by
  cases ns with
  | nil => cases h
  | cons a l =>
    obtain ⟨q1, q2, q3⟩ := foldl_max l a
    show some (l.foldl max a) = some M
    congr 1
    have k1 : l.foldl max a ≤ M := by
      rcases q1 with q | q
      · rw [q]; exact h2 a List.mem_cons_self
      · exact h2 _ (List.mem_cons_of_mem _ q)
    have k2 : M ≤ l.foldl max a := by
      rcases List.mem_cons.mp h with q | q
      · rw [q]; exact q2
      · exact q3 M q
    omega
def rMaxI (K : PySem.W.Frag) : List V → Hp → VK → Prop := fun us H Q => ∃ l ns m, us = [.ref l] ∧ SqL K H l (ns.map V.int) ∧ maxO ns = some m ∧ Q (.int m) H
theorem call_maxLK {X : Cx} {K : PySem.W.Frag} (hc : X.calm = true) (h : X.K = K) : CallR X (.builtin "max") (rMaxI K) := by
  subst h
  intro pins s σ H vs us Q I r h
  obtain ⟨l, ns, m, rfl, hl, hm, q⟩ := h
  obtain ⟨u, rfl, ru⟩ := vals1 r
  cases ru
  obtain ⟨its, rv, pl, _⟩ := I.list hl
  have hL := pl.isList
  have hlt : l < s.heap.objs.size := by obtain ⟨_, e, _⟩ := hL; exact Heap.lt_size e
  have hlen := rv.length
  rw [List.length_map] at hlen
  have hne : 0 < ns.length := by
    cases ns with
    | nil => cases hm
    | cons _ _ => exact Nat.succ_pos _
  refine call_max_walk (wpAny_pyIter_list hL ?_)
  refine ⟨_, _, _, _, _, _, _, rfl, Walks.list (A := X.A.in1) (I.ok.hd hc) _ l (Nat.ne_of_lt hlt) its.toArray, ⟨⟨_, Heap.get?_push_size _ rfl, rfl, rfl⟩, hL.push _⟩, ?_, by rw [List.size_toArray]; omega, CmpOf.ints_gt (fun i => ns.getD i 0) (fun i v hP => ints_atF rv hP), fun v h' tk' hP hk => ?_⟩
  · intro b hb'
    have : b = s.heap.objs.size ∨ b = l := by simpa using hb'
    rcases this with rfl | rfl
    · exact Heap.lt_size (Heap.get?_push_size _ rfl)
    · exact Nat.lt_trans hlt (Heap.lt_size (Heap.get?_push_size _ rfl))
  · obtain ⟨t, rfl⟩ := ints_atF rv hP
    obtain ⟨h1, h2⟩ := argBest_gt (fun i => ns.getD i 0) (its.toArray.size - 1)
    have hsz : its.toArray.size = ns.length := by rw [List.size_toArray]; omega
    have e : some m = some (ns.getD (argBest (fun i j => decide (ns.getD i 0 > ns.getD j 0)) (its.toArray.size - 1)) 0) := hm.symm.trans (maxO_of (by
      rw [List.getD_eq_getElem?_getD, List.getElem?_eq_getElem (by omega)]
      exact List.getElem_mem _) fun a ha => by
        obtain ⟨j, hj, rfl⟩ := List.getElem_of_mem ha
        have := h2 j (by omega)
        rw [List.getD_eq_getElem?_getD, List.getElem?_eq_getElem hj] at this
        exact this)
    cases e
    refine ⟨.int _, H, I.kept fun b o eb => ?_, ⟨t, rfl⟩, q⟩
    refine hk b o (fun hm => ?_) (Heap.get?_push_of_some _ eb)
    have : b = s.heap.objs.size := by simpa using hm
    exact absurd (this ▸ Heap.lt_size eb) (Nat.lt_irrefl _)
section
variable {K : PySem.W.Frag} {σ : St} {G : Hp} {ta tb : TE}
theorem ev_maxL {lb : Option (List Int)} (ea : EV K ta σ G lb) : EV K (tCB (rMaxI K) (tCons ta tNil)) σ G (lb.bind fun ns => maxO ns) := by
  intro G1 s1 c hc H sH Q k
  obtain ⟨a, ha, hc⟩ := Option.bind_eq_some_iff.mp hc
  refine ea G1 s1 a ha H sH _ fun v G2 H2 x2 r2 => ?_
  obtain ⟨l, xs, rfl, h, z, p⟩ := r2
  have e := paired_intsR p
  subst e
  exact ⟨l, a, c, rfl, .inl (x2.gh.rd h), hc, k _ _ _ x2 rfl⟩
end
end L2
set_option Elab.async false
set_option linter.all false
set_option maxRecDepth 100000
set_option maxHeartbeats 4000000
namespace L2
open PySem PySem.Spec PyProof.Rows
theorem Rk.eq {a b : Rk} (e : a.tp = b.tp) : a = b := by
  cases a
  cases b
  cases e
  rfl
instance rkDec : DecidableEq Rk := fun a b => if h : a.l = b.l then .isTrue (by cases a; cases b; cases h; rfl) else .isFalse fun e => h (by rw [e])
theorem EqTy.pull {K : PySem.W.Frag} {k : Nat} {α β : Type} [DecidableEq α] [DecidableEq β] {R : Hp → V → β → Prop} (f : α → β) (inj : ∀ a b, f a = f b → a = b) (E : EqTy K k R) : EqTy K k (fun H v a => R H v (f a)) := by
  have d : ∀ a b : α, decide (f a = f b) = decide (a = b) := fun a b => decide_eq_decide.mpr ⟨inj a b, fun e => by rw [e]⟩
  refine ⟨fun hK I a b => inj _ _ (E.fn hK I a b), ?_, ?_⟩
  · intro X pins σ H s x y u v a b A hK I hu r1 r2 h1 h2
    rw [← d]
    exact E.eq A hK I hu r1 r2 h1 h2
  · intro X pins σ H s x y u v a b A hK I hu r1 r2 h1 h2
    rw [← d]
    exact E.rc A hK I hu r1 r2 h1 h2
instance reRk : RpE Rk := ⟨1, fun K => ((eqTp (K := K) (eqSI (K := K))).pull Rk.tp fun _ _ => Rk.eq).imp fun _ _ _ ⟨l, xs, e, h, _, p⟩ => ⟨l, xs, e, SqT.of h, p⟩⟩
theorem sis_keep {K : PySem.W.Frag} {H H' : Hp} : ∀ {xs : List V} {l : List SI}, Paired (Rp.rel K H) xs l → Paired (Rp.rel K H') xs l
  | _, _, .nil => .nil
  | _, _, .cons (b := .s x) h t => .cons h (sis_keep t)
  | _, _, .cons (b := .i n) h t => .cons h (sis_keep t)
instance imRk : Imm Rk := ⟨fun s ⟨t, xs, e, h, z, p⟩ => ⟨t, xs, e, s.eq _ _ h, z, sis_keep p⟩⟩
def siN : SI → Nt
  | .s x => .txt x
  | .i n => .int n
theorem siN_rel {K : PySem.W.Frag} {H : Hp} {v : V} : ∀ {a : SI}, Rp.rel K H v a → Rp.rel K H v (siN a)
  | .s x, ⟨e, z⟩ => by subst e; exact .txt x z
  | .i n, e => by
    have e : v = .int n := e
    subst e
    exact .int n
theorem siNs_rel {K : PySem.W.Frag} {H : Hp} : ∀ {xs : List V} {l : List SI}, Paired (Rp.rel K H) xs l → Paired (Rp.rel K H) xs (l.map siN)
  | _, _, .nil => .nil
  | _, _, .cons h t => .cons (siN_rel h) (siNs_rel t)
instance tdSI : ToD SI := ⟨fun a => ToD.to (siN a), fun h => ToD.rel (siN_rel h)⟩
def Rk.nt (r : Rk) : Nt := .tup (r.l.map siN)
section
variable {K : PySem.W.Frag} {σ : St} {G : Hp} {te ta tb : TE}
theorem ev_rkT {m : Option Rk} (e : EV K te σ G m) : EV K te σ G (m.bind fun r => some r.tp) := by
  intro G1 s1 c hc H sH Q k
  obtain ⟨x, hx, hc⟩ := Option.bind_eq_some_iff.mp hc
  cases hc
  exact e G1 s1 x hx H sH Q fun v G2 H2 x2 r => k v G2 H2 x2 (Rk.rel r)
theorem ev_rkN {m : Option Rk} (e : EV K te σ G m) : EV K te σ G (m.bind fun r => some r.nt) := by
  intro G1 s1 c hc H sH Q k
  obtain ⟨x, hx, hc⟩ := Option.bind_eq_some_iff.mp hc
  cases hc
  exact e G1 s1 x hx H sH Q fun v G2 H2 x2 ⟨t, xs, e, h, z, p⟩ => k v G2 H2 x2 (by subst e; exact .tup (SqT.of h) z (relNs_of (siNs_rel p)) fun _ => h)
theorem ev_siN {m : Option SI} (e : EV K te σ G m) : EV K te σ G (m.bind fun r => some (siN r)) := by
  intro G1 s1 c hc H sH Q k
  obtain ⟨x, hx, hc⟩ := Option.bind_eq_some_iff.mp hc
  cases hc
  exact e G1 s1 x hx H sH Q fun v G2 H2 x2 r => k v G2 H2 x2 (siN_rel r)
theorem ev_tpN {m : Option (Tp SI)} (e : EV K te σ G m) : EV K te σ G (m.bind fun r => some (Tp.mk (r.l.map siN))) := by
  intro G1 s1 c hc H sH Q k
  obtain ⟨x, hx, hc⟩ := Option.bind_eq_some_iff.mp hc
  cases hc
  exact e G1 s1 x hx H sH Q fun v G2 H2 x2 ⟨t, xs, e, h, z, p⟩ => k v G2 H2 x2 ⟨t, xs, e, h, z, siNs_rel p⟩
theorem ev_tupRk {t : TA} {n : Nat} {ml : Option (List SI)} (e : LV K t σ G n ml) (z : n ≤ sizeLine := by decide) : EV K (tTup t) σ G (ml.bind fun l => some (Rk.mk l)) :=
  fun G1 s1 c hc H sH Q k => by
    obtain ⟨l, hl, hc⟩ := Option.bind_eq_some_iff.mp hc
    cases hc
    refine e G1 s1 l hl H sH _ fun vs G2 H2 x2 hl hp => ⟨by omega, fun p h => ?_⟩
    exact k _ _ _ (x2.trans (.new x2.gh h)) ⟨p, vs, rfl, upd_same, by omega, Paired.imp' (fun _ _ r => Rp.mono (Same.new (x2.gh.free h)) r) hp⟩
theorem fv_lstR1 {ia : Option Int} (ea : EV K ta σ G ia) : FV K (tCB rLstR (tCons (tCB rRng1 (tCons ta tNil)) tNil)) σ G (ia.bind fun j => rngO 0 j) := by
  intro G1 s1 c hc H sH Q k
  obtain ⟨j, hj, hc⟩ := Option.bind_eq_some_iff.mp hc
  obtain ⟨hb, rfl⟩ := ite_some hc
  refine ea G1 s1 j hj H sH _ fun v G2 H2 x2 r2 => ?_
  cases r2
  refine ⟨j, rfl, fun p hp => ⟨p, 0, j, rfl, upd_same, hb, fun t ht => ?_⟩⟩
  have x4 : Ext G2 H2 G2 (upd H2 p (.rng 0 j)) := .own x2.gh hp
  have x5 : Ext G2 (upd H2 p (.rng 0 j)) G2 (upd (upd H2 p (.rng 0 j)) t (.lst (intsV 0 j))) := .own x4.gh ht
  have y := (x2.trans x4).trans x5
  refine k t (intsV 0 j) _ _ y ((x2.trans x4).hh.free ht) ?_ upd_same (by rw [ints_length]; exact hb.2) (paired_ints _ (fun n => (0 : Int) + (n : Int)) _)
  exact (x2.trans x4).gh.free ht
end
end L2
set_option Elab.async false
set_option linter.all false
set_option maxRecDepth 100000
set_option maxHeartbeats 4000000
namespace My
open PySem PySem.Spec PyProof.Rows L2
def m_law_cell_at (script_ : Scr) (k_ : Int) : Option Int :=
  (some (decide (k_ < (script_.l.length : Int)))).bind fun b1 => cond b1
    (((some script_).bind fun t6 => (some k_).bind fun t7 => atI t6.l t7))
    ((some (0 : Int)))
abbrev mm_law_cell_at (x : Scr × Int × Unit) : Option Int := m_law_cell_at x.1 x.2.1
def m_law_part (number_ : Int) (many_ : Int) : Option Int :=
  (some (decide ((number_ % (3 : Int)) = (0 : Int)))).bind fun b1 => cond b1
    ((((some (number_ / (3 : Int))).bind fun t6 => (some (if many_ < (2 : Int) then many_ else (2 : Int))).bind fun t7 => modO t6 t7).bind fun t8 => (some ((many_ - (1 : Int)) - t8))))
    (((some (number_ / (3 : Int))).bind fun t14 => (some many_).bind fun t15 => modO t14 t15))
abbrev mm_law_part (x : Int × Int × Unit) : Option Int := m_law_part x.1 x.2.1
def m_law_row (number_ : Int) (many_ : Int) : Option Rk :=
  (some (number_ % (11 : Int))).bind fun kind_ =>
  (some (decide (kind_ = (0 : Int)))).bind fun b7 => cond b7
    ((some (Rk.mk [(SI.s ("yes" : Str))])))
    ((some ((decide (kind_ < (3 : Int))) || (decide (many_ = (0 : Int))))).bind fun b17 => cond b17
      (((((((some ("abcdefghijklmnopqrstuvwxyz" : Str)).bind fun t22 => (some ((number_ / (11 : Int)) % (26 : Int))).bind fun t23 => (atI t22.cps.toList t23).bind fun z => some (⟨#[z]⟩ : Str)).bind fun t24 => (some (SI.s t24))).bind fun t25 => (some [t25])).bind fun t26 => (some ((SI.s ("lamp" : Str)) :: t26))).bind fun t27 => (some (Rk.mk t27))))
      (((some (number_ / (11 : Int))).bind fun t33 => (some many_).bind fun t34 => m_law_part t33 t34).bind fun one_ =>
      (some (decide (kind_ < (5 : Int)))).bind fun b41 => cond b41
        ((some (Rk.mk [(SI.s ("not" : Str)), (SI.i one_)])))
        ((some (decide (kind_ < (7 : Int)))).bind fun b51 => cond b51
          ((some (Rk.mk [(SI.s ("next" : Str)), (SI.i one_)])))
          (((some (((number_ / (11 : Int)) * (48271 : Int)) % (10007 : Int))).bind fun t61 => (some many_).bind fun t62 => m_law_part t61 t62).bind fun other_ =>
          (((((some [("and" : Str), ("until" : Str)]).bind fun t69 => (some (kind_ % (2 : Int))).bind fun t70 => atI t69 t70).bind fun t71 => (some (SI.s t71))).bind fun t72 => (some [t72, (SI.i one_), (SI.i other_)])).bind fun t73 => (some (Rk.mk t73)))))))
abbrev mm_law_row (x : Int × Int × Unit) : Option Rk := m_law_row x.1 x.2.1
def m_law_size (row_here_ : Rk) (sizes_ : (List (Int × Int))) : Option (Int × Int) :=
  ((((some row_here_.tp).bind fun t3 => (some (0 : Int)).bind fun t4 => atI t3.l t4).bind fun t5 => asS t5).bind fun t6 => (some (decide (t6 = ("lamp" : Str))))).bind fun b7 => cond b7
    ((some ((1 : Int), (1 : Int))))
    ((((((some row_here_.tp).bind fun t17 => (some (some (1 : Int))).bind fun t18 => (some none).bind fun t19 => cutT? t17.l t18 t19).bind fun t20 => (some t20.l)).bind fun t28 => mapO (fun (number_ : SI) => ((some sizes_).bind fun t26 => ((some number_).bind fun t25 => asI t25).bind fun t27 => atI t26 t27)) t28).bind fun t29 => (some [((0 : Int), (0 : Int))]).bind fun t30 => catL t29 t30).bind fun some_ =>
    (((((some some_).bind fun t41 => mapO (fun (size_here_ : (Int × Int)) => (some size_here_.1)) t41).bind fun t42 => sumO t42).bind fun t43 => (some ((1 : Int) + t43))).bind fun t51 => ((((some some_).bind fun t48 => mapO (fun (size_here_ : (Int × Int)) => (some size_here_.2)) t48).bind fun t49 => maxO t49).bind fun t50 => (some ((1 : Int) + t50))).bind fun t52 => (some (t51, t52))))
abbrev mm_law_size (x : Rk × (List (Int × Int)) × Unit) : Option (Int × Int) := m_law_size x.1 x.2.1
def m_law_told (row_here_ : Rk) (told_here_ : (List Nt)) : Option Nt :=
  ((((some row_here_.tp).bind fun t3 => (some (0 : Int)).bind fun t4 => atI t3.l t4).bind fun t5 => asS t5).bind fun t6 => (some (decide (t6 = ("lamp" : Str))))).bind fun b7 => cond b7
    ((some row_here_.nt))
    ((some (Tp.mk ((Tp.mk (cutA row_here_.tp.l none (some (1 : Int)))).l.map siN))).bind fun one_ =>
    (((some row_here_.tp).bind fun t23 => (some (some (1 : Int))).bind fun t24 => (some none).bind fun t25 => cutT? t23.l t24 t25).bind fun t26 => (some t26.l)).bind fun as27 => (forO (S := ((Tp Nt))) (ρ := Nt) (fun (number_ : SI) s34 =>
        ((some s34).bind fun t54 => ((((some told_here_).bind fun t50 => ((some number_).bind fun t49 => asI t49).bind fun t51 => atI t50 t51).bind fun t52 => (some [t52])).bind fun t53 => (some (Tp.mk t53))).bind fun t55 => catTO t54 t55).bind fun one_ =>
        some (Fl.nx one_)) as27 one_).bind fun fl29 => match fl29 with
      | .nx s34 =>
        ((some s34).bind fun t68 => tupNO t68)
      | .rt r => some r
      | .bk _ => none)
abbrev mm_law_told (x : Rk × (List Nt) × Unit) : Option Nt := m_law_told x.1 x.2.1
def m_law_book (numbers_here_ : (List Int)) (most_ : Int) : Option ((List Rk) × (List Nt)) :=
  (some ([] : List Rk)).bind fun rows_ =>
  (some ([] : List (Int × Int))).bind fun sizes_ =>
  (some ([] : List Nt)).bind fun told_here_ =>
  (some numbers_here_).bind fun as25 => (forO (S := ((List Rk) × (List (Int × Int)) × (List Nt))) (ρ := ((List Rk) × (List Nt))) (fun (number_ : Int) s32 =>
      ((some number_).bind fun t49 => (some (s32.1.length : Int)).bind fun t50 => m_law_row t49 t50).bind fun row_here_ =>
      ((some row_here_).bind fun t59 => (some s32.2.1).bind fun t60 => m_law_size t59 t60).bind fun size_here_ =>
      (some ((!decide (row_here_ ∈ s32.1)) && ((decide (size_here_.1 ≤ most_)) && (decide (size_here_.2 ≤ (90 : Int)))))).bind fun b67 => cond b67
        ((some row_here_).bind fun a72 => (pushO s32.1 a72).bind fun z80 =>
        (some size_here_).bind fun a81 => (pushO s32.2.1 a81).bind fun z89 =>
        ((some row_here_).bind fun t92 => (some s32.2.2).bind fun t93 => m_law_told t92 t93).bind fun a94 => (pushO s32.2.2 a94).bind fun z102 =>
        some (Fl.nx (z80, z89, z102)))
        (some (Fl.nx (s32.1, s32.2.1, s32.2.2)))) as25 (rows_, sizes_, told_here_)).bind fun fl27 => match fl27 with
    | .nx s32 =>
      (some (s32.1, s32.2.2))
    | .rt r => some r
    | .bk _ => none
abbrev mm_law_book (x : (List Int) × Int × Unit) : Option ((List Rk) × (List Nt)) := m_law_book x.1 x.2.1
def m_parts_of (sentence_ : Nt) : Option (Tp Nt) :=
  (((((some sentence_).bind fun t4 => asTup t4).bind fun t5 => (some (0 : Int)).bind fun t6 => atI t5.l t6).bind fun t7 => asTxt t7).bind fun t8 => (some (decide (t8 = ("lamp" : Str))))).bind fun b9 => cond b9
    ((some (Tp.mk ([] : List Nt))))
    ((((some sentence_).bind fun t19 => asTup t19).bind fun t20 => (some (some (1 : Int))).bind fun t21 => (some none).bind fun t22 => cutT? t20.l t21 t22))
abbrev mm_parts_of (x : Nt × Unit) : Option (Tp Nt) := m_parts_of x.1
def m_book_of (some_ : List Nt) : Option (List Rk × List Int) := booksR (layO m_parts_of 95) some_
abbrev mm_book_of (x : List Nt × Unit) : Option (List Rk × List Int) := m_book_of x.1
def m_law_stream (cell_ : Int) (many_ : Int) : Option (List Int) :=
  (some ([] : List Int)).bind fun numbers_here_ =>
  (some ((cell_ % (2147483647 : Int)) + (48271 : Int))).bind fun number_ =>
  ((some many_).bind fun t15 => rngO 0 t15).bind fun as16 => (forO (S := ((List Int) × Int)) (ρ := (List Int)) (fun (k_ : Int) s23 =>
      (((((some s23.2).bind fun t38 => (some s23.2).bind fun t39 => mulO t38 t39).bind fun t40 => (some (t40 + ((48271 : Int) * s23.2)))).bind fun t41 => (some (t41 + k_))).bind fun t42 => (some (t42 % (2147483647 : Int)))).bind fun number_ =>
      (some number_).bind fun a49 => (pushO s23.1 a49).bind fun z57 =>
      some (Fl.nx (z57, number_))) as16 (numbers_here_, number_)).bind fun fl18 => match fl18 with
    | .nx s23 =>
      (some s23.1)
    | .rt r => some r
    | .bk _ => none
abbrev mm_law_stream (x : Int × Int × Unit) : Option (List Int) := m_law_stream x.1 x.2.1
def m_law_numbers (script_ : Scr) : Option (List Int) :=
  ((some script_).bind fun t1 => (some (0 : Int)).bind fun t2 => m_law_cell_at t1 t2).bind fun cell_ =>
  (some (decide ((cell_ % (2 : Int)) = (0 : Int)))).bind fun b9 => cond b9
    ((((some script_).bind fun t14 => (some (some (1 : Int))).bind fun t15 => (some (some (41 : Int))).bind fun t16 => cutX t14 t15 t16).bind fun t21 => mapO (fun (number_ : Int) => (some (number_ % 1000000000))) t21))
    ((some (decide (((cell_ / (4 : Int)) % (4 : Int)) = (1 : Int)))).bind fun b27 => cond b27
      ((some [(3 : Int), (4 : Int), (5 : Int), (6 : Int), (3 : Int), (5 : Int), (4 : Int), (7 : Int)]).bind fun kinds_ =>
      ((((some script_).bind fun t38 => (some (1 : Int)).bind fun t39 => m_law_cell_at t38 t39).bind fun t40 => (some (100 : Int)).bind fun t41 => m_law_stream t40 t41).bind fun t49 => mapO (fun (number_ : Int) => (((some kinds_).bind fun t46 => (some ((number_ / (7 : Int)) % (8 : Int))).bind fun t47 => atI t46 t47).bind fun t48 => (some (((33 : Int) * number_) + t48)))) t49))
      ((((some script_).bind fun t55 => (some (1 : Int)).bind fun t56 => m_law_cell_at t55 t56).bind fun t57 => (some ((cell_ / (16 : Int)) % (41 : Int))).bind fun t58 => m_law_stream t57 t58)))
abbrev mm_law_numbers (x : Scr × Unit) : Option (List Int) := m_law_numbers x.1
def m_unfolded (rows_ : (List Rk)) (spot_ : Int) : Option Nt :=
  (some ([] : List Nt)).bind fun built_ =>
  (some (cutA rows_ none (some (spot_ + (1 : Int))))).bind fun as9 => (forO (S := ((List Nt))) (ρ := Nt) (fun (row_ : Rk) s16 =>
      ((((some row_.tp).bind fun t31 => (some (0 : Int)).bind fun t32 => atI t31.l t32).bind fun t33 => asS t33).bind fun t34 => (some (decide (t34 = ("lamp" : Str))))).bind fun b35 => cond b35
        ((some row_.nt).bind fun a40 => (pushO s16 a40).bind fun z48 =>
        some (Fl.nx z48))
        ((((((((some row_.tp).bind fun t89 => (some (0 : Int)).bind fun t90 => atI t89.l t90).bind fun t91 => (some (siN t91))).bind fun t92 => (some [t92])).bind fun t93 => (some (Tp.mk t93))).bind fun t94 => (((((some row_.tp).bind fun t76 => (some (some (1 : Int))).bind fun t77 => (some none).bind fun t78 => cutT? t76.l t77 t78).bind fun t79 => (some t79.l)).bind fun t87 => mapO (fun (number_ : SI) => ((some s16).bind fun t85 => ((some number_).bind fun t84 => asI t84).bind fun t86 => atI t85 t86)) t87).bind fun t88 => (some (Tp.mk t88))).bind fun t95 => catTO t94 t95).bind fun t96 => tupNO t96).bind fun a97 => (pushO s16 a97).bind fun z105 =>
        some (Fl.nx z105))) as9 built_).bind fun fl11 => match fl11 with
    | .nx s16 =>
      ((some s16).bind fun t113 => (some spot_).bind fun t114 => atI t113 t114)
    | .rt r => some r
    | .bk _ => none
abbrev mm_unfolded (x : (List Rk) × Int × Unit) : Option Nt := m_unfolded x.1 x.2.1
def m_law_last_laid (told_here_ : Nt) (rows_ : (List Rk)) : Option Bool :=
  ((some [told_here_]).bind fun t1 => m_book_of t1).bind fun p2 =>
  ((some (decide (p2.2 = [((p2.1.length : Int) - (1 : Int))]))).bind fun t18 => cond t18 ((some (decide ((p2.1.length : Int) ≤ (rows_.length : Int)))).bind fun t17 => cond t17 (((some p2.1).bind fun t13 => ((some p2.2).bind fun t11 => (some (0 : Int)).bind fun t12 => atI t11 t12).bind fun t14 => m_unfolded t13 t14).bind fun t15 => (some told_here_).bind fun t16 => eqNO t15 t16) (some false)) (some false))
abbrev mm_law_last_laid (x : Nt × (List Rk) × Unit) : Option Bool := m_law_last_laid x.1 x.2.1
def m_law (script_ : Scr) : Option Bool :=
  ((some script_).bind fun t1 => (some (0 : Int)).bind fun t2 => m_law_cell_at t1 t2).bind fun cell_ =>
  ((some (cell_ % (2 : Int))).bind fun t9 => (some ((cell_ / (4 : Int)) % (4 : Int))).bind fun t10 => mulO t9 t10).bind fun many_ =>
  (((some script_).bind fun t17 => m_law_numbers t17).bind fun t20 => ((some [(60 : Int), (200 : Int)]).bind fun t18 => (some (decide (many_ = (1 : Int)))).bind fun t19 => t18[(b01 t19).toNat]?).bind fun t21 => m_law_book t20 t21).bind fun p22 =>
  (some p22.1).bind fun handed_ =>
  ((some (p22.1.length : Int)).bind fun t37 => rngO 0 t37).bind fun spots_ =>
  (some (decide (((cell_ / (2 : Int)) % (2 : Int)) = (1 : Int)))).bind fun b44 => (cond b44
    ((some spots_.reverse).bind fun spots_ =>
    some spots_)
    (some spots_)).bind fun s49 =>
  (some s49).bind fun as64 => (forO (S := Unit) (ρ := Bool) (fun (spot_ : Int) s71 =>
      ((some handed_).bind fun t85 => (some spot_).bind fun t86 => m_unfolded t85 t86).bind fun one_ =>
      ((some (!(isK "tuple" (ToD.to one_)))).bind fun t99 => cond t99 (some true) ((some one_).bind fun t97 => ((some p22.2).bind fun t95 => (some spot_).bind fun t96 => atI t95 t96).bind fun t98 => neNO t97 t98)).bind fun b100 => cond b100
        ((some false).bind fun rr110 => some (Fl.rt rr110))
        (some (Fl.nx ()))) as64 ()).bind fun fl66 => match fl66 with
    | .nx s71 =>
      (some (decide (many_ = (1 : Int)))).bind fun b117 => cond b117
        (((((some p22.1).bind fun t122 => (some ((p22.1.length : Int) - (1 : Int))).bind fun t123 => m_unfolded t122 t123).bind fun t128 => ((some p22.2).bind fun t126 => (some (-(1 : Int))).bind fun t127 => atI t126 t127).bind fun t129 => eqNO t128 t129).bind fun t134 => cond t134 (((some p22.2).bind fun t130 => (some (-(1 : Int))).bind fun t131 => atI t130 t131).bind fun t132 => (some p22.1).bind fun t133 => m_law_last_laid t132 t133) (some false)))
        (((some p22.2).bind fun t140 => m_book_of t140).bind fun book_here_ =>
        (some ((!true) || ((!decide ((2 : Int) = (2 : Int))) || (!decide (handed_ = p22.1))))).bind fun b147 => cond b147
          ((some false))
          ((some ((!true) || (!true))).bind fun b157 => cond b157
            ((some false))
            (((some (!decide (book_here_.1 = p22.1))).bind fun t171 => cond t171 (some true) ((some book_here_.2).bind fun t169 => ((some (p22.1.length : Int)).bind fun t168 => rngO 0 t168).bind fun t170 => some (!decide (t169 = t170)))).bind fun b172 => cond b172
              ((some false))
              ((some (decide ((p22.1.length : Int) = (0 : Int)))).bind fun b182 => cond b182
                ((some true))
                ((((some script_).bind fun t192 => (some (2 : Int)).bind fun t193 => m_law_cell_at t192 t193).bind fun t194 => (some (p22.1.length : Int)).bind fun t195 => modO t194 t195).bind fun at_ =>
                (some (cutA p22.1 none (some (at_ + (1 : Int))))).bind fun shorter_ =>
                ((((some shorter_).bind fun t208 => (some at_).bind fun t209 => m_unfolded t208 t209).bind fun t214 => ((some p22.2).bind fun t212 => (some at_).bind fun t213 => atI t212 t213).bind fun t215 => eqNO t214 t215).bind fun t219 => cond t219 ((((some (cutA p22.2 none (some (at_ + (1 : Int))))).bind fun t216 => m_book_of t216).bind fun t217 => (some t217.1)).bind fun t218 => (some (decide (t218 = shorter_)))) (some false)))))))
    | .rt r => some r
    | .bk _ => none
abbrev mm_law (x : Scr × Unit) : Option Bool := m_law x.1
end My
set_option Elab.async false
set_option linter.all false
set_option maxRecDepth 100000
set_option maxHeartbeats 4000000
namespace My
open PySem PySem.Spec PyProof.Rows L2
def top (i : Nat) : Stmt := PySem.Challenge.pw_lassoscribe_k17_whole_rows_told_again.main.body.getD i (.Pass ⟨0, 0, 0, 0⟩)
abbrev s_parts_of : Stmt := top 1
abbrev s_row_number : Stmt := top 3
abbrev s_lay : Stmt := top 4
abbrev s_book_of : Stmt := top 5
abbrev s_unfolded : Stmt := top 6
abbrev s_law_cell_at : Stmt := top 8
abbrev s_law_stream : Stmt := top 9
abbrev s_law_part : Stmt := top 10
abbrev s_law_row : Stmt := top 11
abbrev s_law_told : Stmt := top 12
abbrev s_law_size : Stmt := top 13
abbrev s_law_book : Stmt := top 14
abbrev s_law_numbers : Stmt := top 15
abbrev s_law_last_laid : Stmt := top 16
abbrev s_law : Stmt := top 17
structure Txt (mg : Str → Option Value) : Prop where
  isinstance_ : mg "isinstance" = none
  len_ : mg "len" = none
  list_ : mg "list" = none
  max_ : mg "max" = none
  min_ : mg "min" = none
  range_ : mg "range" = none
  reversed_ : mg "reversed" = none
  sum_ : mg "sum" = none
  tuple_ : mg "tuple" = none
theorem sc_parts_of : FnScope ["sentence"] ["sentence"] (defScope s_parts_of) := ⟨rfl, rfl, rfl, by decide +kernel, rfl, by decide +kernel, by decide +kernel⟩
theorem sc_row_number : FnScope ["rows", "numbers", "row"] ["rows", "numbers", "row"] (defScope s_row_number) := ⟨rfl, rfl, rfl, by decide +kernel, rfl, by decide +kernel, by decide +kernel⟩
theorem sc_lay : FnScope ["rows", "numbers", "sentence", "row", "part"] ["rows", "numbers", "sentence"] (defScope s_lay) := ⟨rfl, rfl, rfl, by decide +kernel, rfl, by decide +kernel, by decide +kernel⟩
theorem sc_book_of : FnScope ["some", "rows", "numbers", "spots"] ["some"] (defScope s_book_of) := ⟨rfl, rfl, rfl, by decide +kernel, rfl, by decide +kernel, by decide +kernel⟩
theorem sc_unfolded : FnScope ["rows", "spot", "built", "row"] ["rows", "spot"] (defScope s_unfolded) := ⟨rfl, rfl, rfl, by decide +kernel, rfl, by decide +kernel, by decide +kernel⟩
theorem sc_law_cell_at : FnScope ["_law_script", "_law_k"] ["_law_script", "_law_k"] (defScope s_law_cell_at) := ⟨rfl, rfl, rfl, by decide +kernel, rfl, by decide +kernel, by decide +kernel⟩
theorem sc_law_stream : FnScope ["_law_cell", "_law_many", "_law_numbers_here", "_law_number", "_law_k"] ["_law_cell", "_law_many"] (defScope s_law_stream) := ⟨rfl, rfl, rfl, by decide +kernel, rfl, by decide +kernel, by decide +kernel⟩
theorem sc_law_part : FnScope ["_law_number", "_law_many"] ["_law_number", "_law_many"] (defScope s_law_part) := ⟨rfl, rfl, rfl, by decide +kernel, rfl, by decide +kernel, by decide +kernel⟩
theorem sc_law_row : FnScope ["_law_number", "_law_many", "_law_kind", "_law_one", "_law_other"] ["_law_number", "_law_many"] (defScope s_law_row) := ⟨rfl, rfl, rfl, by decide +kernel, rfl, by decide +kernel, by decide +kernel⟩
theorem sc_law_told : FnScope ["_law_row_here", "_law_told_here", "_law_one", "_law_number"] ["_law_row_here", "_law_told_here"] (defScope s_law_told) := ⟨rfl, rfl, rfl, by decide +kernel, rfl, by decide +kernel, by decide +kernel⟩
theorem sc_law_size : FnScope ["_law_row_here", "_law_sizes", "_law_some"] ["_law_row_here", "_law_sizes"] (defScope s_law_size) := ⟨rfl, rfl, rfl, by decide +kernel, rfl, by decide +kernel, by decide +kernel⟩
theorem sc_law_book : FnScope ["_law_numbers_here", "_law_most", "_law_rows", "_law_sizes", "_law_told_here", "_law_number", "_law_row_here", "_law_size_here"] ["_law_numbers_here", "_law_most"] (defScope s_law_book) := ⟨rfl, rfl, rfl, by decide +kernel, rfl, by decide +kernel, by decide +kernel⟩
theorem sc_law_numbers : FnScope ["_law_script", "_law_cell", "_law_kinds"] ["_law_script"] (defScope s_law_numbers) := ⟨rfl, rfl, rfl, by decide +kernel, rfl, by decide +kernel, by decide +kernel⟩
theorem sc_law_last_laid : FnScope ["_law_told_here", "_law_rows", "_law_laid_rows", "_law_spots"] ["_law_told_here", "_law_rows"] (defScope s_law_last_laid) := ⟨rfl, rfl, rfl, by decide +kernel, rfl, by decide +kernel, by decide +kernel⟩
theorem sc_law : FnScope ["_law_script", "_law_cell", "_law_many", "_law_rows", "_law_told_here", "_law_handed", "_law_spots", "_law_spot", "_law_one", "_law_book_here", "_law_at", "_law_shorter"] ["_law_script"] (defScope s_law) := ⟨rfl, rfl, rfl, by decide +kernel, rfl, by decide +kernel, by decide +kernel⟩
def sp_law (K : PySem.W.Frag) : Sp := fun vs H Q _ => ∃ (a : Addr) (ns : List Int), vs = [.ref a] ∧ SqL K H a (ns.map V.int) ∧ ns.length ≤ 63 ∧ ∀ H', Q (.bl true) H'
section
variable {P : Program} {w : World} {K : PySem.W.Frag} {mg : Str → Option Value} {base : Heap}
theorem ok_law_cell_at {f : Addr} {fd : FuncData} (F : Fun K "_law_cell_at" "_law_cell_at" s_law_cell_at f fd) (T : Txt mg) : FnOk P w K mg base CX0 1 f fd ["_law_script", "_law_k"] (spM K mm_law_cell_at) := by
  refine F.ok sc_law_cell_at (fun vs H Q E h => (spM_len h).trans rfl) (fun cdv A outer s H0 vs Q E hr h => ?_)
  obtain ⟨G0, ⟨script_, ⟨k_, ⟨⟩⟩⟩, res, sg0, ⟨v_script_, _, rfl, r_script_, ⟨v_k_, _, rfl, r_k_, rfl⟩⟩, hm, q⟩ := h
  replace r_script_ : Rp.rel K G0 v_script_ script_ := r_script_
  replace r_k_ : Rp.rel K G0 v_k_ k_ := r_k_
  replace hm : m_law_cell_at script_ k_ = some res := hm
  unfold m_law_cell_at at hm
  have xt : Ext G0 H0 G0 H0 := Ext.refl sg0
  refine ⟨_, (pss_cons (ps_if (pt_cmpR op_ltU (pv 1) (pe_callB (call_lenK (K := K) rfl) (by rfl) T.len_ bt_len (pa_cons (pv 0) pa_nil)) (nomark _)) (pss_cons (ps_ret (pe_ix (ix_anyK (K := K) rfl) (pv 0) (pv 1) (fun _ _ => rfl)))
      pss_nil) pss_nil)
      (pss_cons (ps_ret pe_int)
      pss_nil)), ?_⟩
  obtain ⟨b1, h2, hm⟩ := Option.bind_eq_some_iff.mp hm
  refine sv_if (tv_test (K := K) (ev_ord (ev_var rfl r_k_) (ev_lenX (ev_var rfl r_script_)))) h2 xt.gh fun G3 H4 x5 => ?_
  have xt := xt.trans x5
  have r_script_ := Rp.mono x5.gg r_script_
  have r_k_ := Rp.mono x5.gg r_k_
  cases b1 with
  | true =>
    replace hm := cT hm
    refine iteT ?_
    exact sv_ret (K := K) (ev_atX (ev_var rfl r_script_) (ev_var rfl r_k_)) hm xt.gh fun v8 G9 H10 x11 r12 => q v8 G9 H10 (xt.trans x11) r12
  | false =>
    replace hm := cF hm
    refine iteF ?_
    exact sv_ret (K := K) (rest := tNext) (σ := [some v_script_, some v_k_]) ev_i hm xt.gh fun v13 G14 H15 x16 r17 => q v13 G14 H15 (xt.trans x16) r17
theorem ok_law_part {f : Addr} {fd : FuncData} (F : Fun K "_law_part" "_law_part" s_law_part f fd) (T : Txt mg) : FnOk P w K mg base CX0 1 f fd ["_law_number", "_law_many"] (spM K mm_law_part) := by
  refine F.ok sc_law_part (fun vs H Q E h => (spM_len h).trans rfl) (fun cdv A outer s H0 vs Q E hr h => ?_)
  obtain ⟨G0, ⟨number_, ⟨many_, ⟨⟩⟩⟩, res, sg0, ⟨v_number_, _, rfl, r_number_, ⟨v_many_, _, rfl, r_many_, rfl⟩⟩, hm, q⟩ := h
  replace r_number_ : Rp.rel K G0 v_number_ number_ := r_number_
  replace r_many_ : Rp.rel K G0 v_many_ many_ := r_many_
  replace hm : m_law_part number_ many_ = some res := hm
  unfold m_law_part at hm
  have xt : Ext G0 H0 G0 H0 := Ext.refl sg0
  refine ⟨_, (pss_cons (ps_if (pt_cmpR op_eq (pe_op op_mod (pv 0) pe_int) pe_int (nomark _)) (pss_cons (ps_ret (pe_op op_sub (pe_op op_sub (pv 1) pe_int) (pe_op op_mod (pe_op op_fdiv (pv 0) pe_int) (pe_callB (call_min2 rfl) (by rfl) T.min_ bt_min (pa_cons pe_int (pa_cons (pv 1) pa_nil))))))
      pss_nil) pss_nil)
      (pss_cons (ps_ret (pe_op op_mod (pe_op op_fdiv (pv 0) pe_int) (pv 1)))
      pss_nil)), ?_⟩
  obtain ⟨b1, h2, hm⟩ := Option.bind_eq_some_iff.mp hm
  refine sv_if (tv_test (K := K) (ev_eqI (ev_modR (ev_var rfl r_number_)) ev_i)) h2 xt.gh fun G3 H4 x5 => ?_
  have xt := xt.trans x5
  have r_number_ := Rp.mono x5.gg r_number_
  have r_many_ := Rp.mono x5.gg r_many_
  cases b1 with
  | true =>
    replace hm := cT hm
    refine iteT ?_
    exact sv_ret (K := K) (ev_sub (ev_sub (ev_var rfl r_many_) ev_i) (ev_mod (ev_divR (ev_var rfl r_number_)) (ev_min ev_i (ev_var rfl r_many_)))) hm xt.gh fun v9 G10 H11 x12 r13 => q v9 G10 H11 (xt.trans x12) r13
  | false =>
    replace hm := cF hm
    refine iteF ?_
    exact sv_ret (K := K) (ev_mod (ev_divR (ev_var rfl r_number_)) (ev_var rfl r_many_)) hm xt.gh fun v16 G17 H18 x19 r20 => q v16 G17 H18 (xt.trans x19) r20
theorem ok_law_row {f : Addr} {fd : FuncData} (F : Fun K "_law_row" "_law_row" s_law_row f fd) (T : Txt mg) (D_law_part : DefOk P w K mg base "_law_part" 1 ["_law_number", "_law_many"] (spM K mm_law_part)) : FnOk P w K mg base CX0 2 f fd ["_law_number", "_law_many"] (spM K mm_law_row) := by
  refine F.ok sc_law_row (fun vs H Q E h => (spM_len h).trans rfl) (fun cdv A outer s H0 vs Q E hr h => ?_)
  obtain ⟨G0, ⟨number_, ⟨many_, ⟨⟩⟩⟩, res, sg0, ⟨v_number_, _, rfl, r_number_, ⟨v_many_, _, rfl, r_many_, rfl⟩⟩, hm, q⟩ := h
  replace r_number_ : Rp.rel K G0 v_number_ number_ := r_number_
  replace r_many_ : Rp.rel K G0 v_many_ many_ := r_many_
  replace hm : m_law_row number_ many_ = some res := hm
  unfold m_law_row at hm
  have xt : Ext G0 H0 G0 H0 := Ext.refl sg0
  refine ⟨_, (pss_cons (ps_set (i := 2) sc_law_row.nd rfl (Or.inl rfl) (pe_op op_mod (pv 0) pe_int))
      (pss_cons (ps_if (pt_cmpR op_eq (pv 2) pe_int (nomark _)) (pss_cons (ps_ret (pe_tup (pa_cons pe_str pa_nil)))
      pss_nil) pss_nil)
      (pss_cons (ps_if (PW.pt (pw_or (pt_cmpR op_ltU (pv 2) pe_int (nomark _)) (pw_or1 (pt_cmpR op_eq (pv 1) pe_int (nomark _))))) (pss_cons (ps_ret (pe_tup (pa_cons pe_str (pa_cons (pe_ix (ix_anyK (K := K) rfl) pe_str (pe_op op_mod (pe_op op_fdiv (pv 0) pe_int) pe_int) (fun _ _ => rfl)) pa_nil))))
      pss_nil) pss_nil)
      (pss_cons (ps_set (i := 3) sc_law_row.nd rfl (Or.inl rfl) (pe_def D_law_part hr (by decide) rfl (pa_cons (pe_op op_fdiv (pv 0) pe_int) (pa_cons (pv 1) pa_nil))))
      (pss_cons (ps_if (pt_cmpR op_ltU (pv 2) pe_int (nomark _)) (pss_cons (ps_ret (pe_tup (pa_cons pe_str (pa_cons (pv 3) pa_nil))))
      pss_nil) pss_nil)
      (pss_cons (ps_if (pt_cmpR op_ltU (pv 2) pe_int (nomark _)) (pss_cons (ps_ret (pe_tup (pa_cons pe_str (pa_cons (pv 3) pa_nil))))
      pss_nil) pss_nil)
      (pss_cons (ps_set (i := 4) sc_law_row.nd rfl (Or.inl rfl) (pe_def D_law_part hr (by decide) rfl (pa_cons (pe_op op_mod (pe_op (op_mulK (K := K) rfl) (pe_op op_fdiv (pv 0) pe_int) pe_int) pe_int) (pa_cons (pv 1) pa_nil))))
      (pss_cons (ps_ret (pe_tup (pa_cons (pe_ix (ix_anyK (K := K) rfl) (pe_lst (pa_cons pe_str (pa_cons pe_str pa_nil))) (pe_op op_mod (pv 2) pe_int) (fun _ _ => rfl)) (pa_cons (pv 3) (pa_cons (pv 4) pa_nil)))))
      pss_nil)))))))), ?_⟩
  obtain ⟨kind_, h6, hm⟩ := Option.bind_eq_some_iff.mp hm
  refine sv_set (K := K) (ev_modR (ev_var rfl r_number_)) h6 xt.gh fun v1 G2 H3 x4 r5 => ?_
  have xt := xt.trans x4
  have r_number_ := Rp.mono x4.gg r_number_
  have r_many_ := Rp.mono x4.gg r_many_
  obtain ⟨b7, h8, hm⟩ := Option.bind_eq_some_iff.mp hm
  refine sv_if (tv_test (K := K) (ev_eqI (ev_var rfl r5) ev_i)) h8 xt.gh fun G9 H10 x11 => ?_
  have xt := xt.trans x11
  have r_number_ := Rp.mono x11.gg r_number_
  have r_many_ := Rp.mono x11.gg r_many_
  have r5 := Rp.mono x11.gg r5
  cases b7 with
  | true =>
    replace hm := cT hm
    refine iteT ?_
    exact sv_ret (K := K) (rest := tNext) (σ := [some v_number_, some v_many_, some v1, none, none]) (ev_tupRk (lv_cons (ev_toS ev_s) (lv_nil (α := SI)))) hm xt.gh fun v12 G13 H14 x15 r16 => q v12 G13 H14 (xt.trans x15) r16
  | false =>
    replace hm := cF hm
    refine iteF ?_
    obtain ⟨b17, h18, hm⟩ := Option.bind_eq_some_iff.mp hm
    refine sv_if (tv_orP (tv_test (K := K) (ev_ord (ev_var rfl r5) ev_i)) (tv_test (K := K) (ev_eqI (ev_var rfl r_many_) ev_i))) h18 xt.gh fun G19 H20 x21 => ?_
    have xt := xt.trans x21
    have r_number_ := Rp.mono x21.gg r_number_
    have r_many_ := Rp.mono x21.gg r_many_
    have r5 := Rp.mono x21.gg r5
    cases b17 with
    | true =>
      replace hm := cT hm
      refine iteT ?_
      exact sv_ret (K := K) (ev_tupRk (lv_cons (ev_toS ev_s) (lv_cons (ev_toS (ev_atS ev_s (ev_modR (ev_divR (ev_var rfl r_number_))))) (lv_nil (α := SI))))) hm xt.gh fun v28 G29 H30 x31 r32 => q v28 G29 H30 (xt.trans x31) r32
    | false =>
      replace hm := cF hm
      refine iteF ?_
      obtain ⟨one_, h40, hm⟩ := Option.bind_eq_some_iff.mp hm
      refine sv_set (K := K) (ev_def2 (m := mm_law_part) (ev_divR (ev_var rfl r_number_)) (ev_var rfl r_many_)) h40 xt.gh fun v35 G36 H37 x38 r39 => ?_
      have xt := xt.trans x38
      have r_number_ := Rp.mono x38.gg r_number_
      have r_many_ := Rp.mono x38.gg r_many_
      have r5 := Rp.mono x38.gg r5
      obtain ⟨b41, h42, hm⟩ := Option.bind_eq_some_iff.mp hm
      refine sv_if (tv_test (K := K) (ev_ord (ev_var rfl r5) ev_i)) h42 xt.gh fun G43 H44 x45 => ?_
      have xt := xt.trans x45
      have r_number_ := Rp.mono x45.gg r_number_
      have r_many_ := Rp.mono x45.gg r_many_
      have r5 := Rp.mono x45.gg r5
      have r39 := Rp.mono x45.gg r39
      cases b41 with
      | true =>
        replace hm := cT hm
        refine iteT ?_
        exact sv_ret (K := K) (ev_tupRk (lv_cons (ev_toS ev_s) (lv_cons (ev_toI (ev_var rfl r39)) (lv_nil (α := SI))))) hm xt.gh fun v46 G47 H48 x49 r50 => q v46 G47 H48 (xt.trans x49) r50
      | false =>
        replace hm := cF hm
        refine iteF ?_
        obtain ⟨b51, h52, hm⟩ := Option.bind_eq_some_iff.mp hm
        refine sv_if (tv_test (K := K) (ev_ord (ev_var rfl r5) ev_i)) h52 xt.gh fun G53 H54 x55 => ?_
        have xt := xt.trans x55
        have r_number_ := Rp.mono x55.gg r_number_
        have r_many_ := Rp.mono x55.gg r_many_
        have r5 := Rp.mono x55.gg r5
        have r39 := Rp.mono x55.gg r39
        cases b51 with
        | true =>
          replace hm := cT hm
          refine iteT ?_
          exact sv_ret (K := K) (ev_tupRk (lv_cons (ev_toS ev_s) (lv_cons (ev_toI (ev_var rfl r39)) (lv_nil (α := SI))))) hm xt.gh fun v56 G57 H58 x59 r60 => q v56 G57 H58 (xt.trans x59) r60
        | false =>
          replace hm := cF hm
          refine iteF ?_
          obtain ⟨other_, h68, hm⟩ := Option.bind_eq_some_iff.mp hm
          refine sv_set (K := K) (ev_def2 (m := mm_law_part) (ev_modR (ev_mulR (ev_divR (ev_var rfl r_number_)))) (ev_var rfl r_many_)) h68 xt.gh fun v63 G64 H65 x66 r67 => ?_
          have xt := xt.trans x66
          have r_number_ := Rp.mono x66.gg r_number_
          have r_many_ := Rp.mono x66.gg r_many_
          have r5 := Rp.mono x66.gg r5
          have r39 := Rp.mono x66.gg r39
          exact sv_ret (K := K) (ev_tupRk (lv_cons (ev_toS (ev_at (FV.ev (fv_lst (lv_cons ev_s (lv_cons ev_s (lv_nil (α := Str)))))) (ev_modR (ev_var rfl r5)))) (lv_cons (ev_toI (ev_var rfl r39)) (lv_cons (ev_toI (ev_var rfl r67)) (lv_nil (α := SI)))))) hm xt.gh fun v74 G75 H76 x77 r78 => q v74 G75 H76 (xt.trans x77) r78
theorem ok_law_size {f : Addr} {fd : FuncData} (F : Fun K "_law_size" "_law_size" s_law_size f fd) (T : Txt mg) : FnOk P w K mg base CX0 1 f fd ["_law_row_here", "_law_sizes"] (spM K mm_law_size) := by
  refine F.ok sc_law_size (fun vs H Q E h => (spM_len h).trans rfl) (fun cdv A outer s H0 vs Q E hr h => ?_)
  obtain ⟨G0, ⟨row_here_, ⟨sizes_, ⟨⟩⟩⟩, res, sg0, ⟨v_row_here_, _, rfl, r_row_here_, ⟨v_sizes_, _, rfl, r_sizes_, rfl⟩⟩, hm, q⟩ := h
  replace r_row_here_ : Rp.rel K G0 v_row_here_ row_here_ := r_row_here_
  replace r_sizes_ : Rp.rel K G0 v_sizes_ sizes_ := r_sizes_
  replace hm : m_law_size row_here_ sizes_ = some res := hm
  unfold m_law_size at hm
  have xt : Ext G0 H0 G0 H0 := Ext.refl sg0
  refine ⟨_, (pss_cons (ps_if (pt_cmpR op_eq (pe_ix (ix_anyK (K := K) rfl) (pv 0) pe_int (fun _ _ => rfl)) pe_str (nomark _)) (pss_cons (ps_ret (pe_tup (pa_cons pe_int (pa_cons pe_int pa_nil))))
      pss_nil) pss_nil)
      (pss_cons (ps_set (i := 2) sc_law_size.nd rfl (Or.inl rfl) (pe_op (op_plusK (K := K) rfl) (pe_comp (cn := ["_law_sizes"]) (cap := [1]) rfl ⟨by decide +kernel, rfl, by decide +kernel, free_of rfl⟩ rfl (by decide +kernel) ⟨⟨rfl, .inl rfl, rfl⟩, trivial⟩ (pi_anyK (K := K) rfl (pe_slice (sl_tupK (K := K) rfl) (pv 0) (po_some pe_int) po_none)) (fun C s0 H0 fp => ⟨pts_nil, (pe_ix (ix_anyK (K := K) rfl) (pv 1) (pv 0) (fun _ _ => rfl))⟩)) (pe_lst (pa_cons (pe_tup (pa_cons pe_int (pa_cons pe_int pa_nil))) pa_nil))))
      (pss_cons (ps_ret (pe_tup (pa_cons (pe_op (op_plusK (K := K) rfl) pe_int (pe_callB (call_sumK (K := K) rfl rfl) (by rfl) T.sum_ bt_sum (pa_cons (pe_comp (cn := []) (cap := []) rfl ⟨by decide +kernel, rfl, by decide +kernel, free_of rfl⟩ rfl (by decide +kernel) trivial (pi_anyK (K := K) rfl (pv 2)) (fun C s0 H0 fp => ⟨pts_nil, (pe_ix (ix_anyK (K := K) rfl) (pv 0) pe_int (fun _ _ => rfl))⟩)) pa_nil))) (pa_cons (pe_op (op_plusK (K := K) rfl) pe_int (pe_callB (call_maxLK (K := K) rfl rfl) (by rfl) T.max_ bt_max (pa_cons (pe_comp (cn := []) (cap := []) rfl ⟨by decide +kernel, rfl, by decide +kernel, free_of rfl⟩ rfl (by decide +kernel) trivial (pi_anyK (K := K) rfl (pv 2)) (fun C s0 H0 fp => ⟨pts_nil, (pe_ix (ix_anyK (K := K) rfl) (pv 0) pe_int (fun _ _ => rfl))⟩)) pa_nil))) pa_nil))))
      pss_nil))), ?_⟩
  obtain ⟨b7, h8, hm⟩ := Option.bind_eq_some_iff.mp hm
  refine sv_if (tv_test (K := K) (ev_eqS (ev_asS (ev_atT (ev_rkT (ev_var rfl r_row_here_)) ev_i)) ev_s)) h8 xt.gh fun G9 H10 x11 => ?_
  have xt := xt.trans x11
  have r_row_here_ := Rp.mono x11.gg r_row_here_
  have r_sizes_ := Rp.mono x11.gg r_sizes_
  cases b7 with
  | true =>
    replace hm := cT hm
    refine iteT ?_
    exact sv_ret (K := K) (rest := tNext) (σ := [some v_row_here_, some v_sizes_, none]) (ev_tup2 ev_i ev_i) hm xt.gh fun v12 G13 H14 x15 r16 => q v12 G13 H14 (xt.trans x15) r16
  | false =>
    replace hm := cF hm
    refine iteF ?_
    obtain ⟨some_, h36, hm⟩ := Option.bind_eq_some_iff.mp hm
    refine sv_set (K := K) (FV.ev (fv_cat (FV.ev (fv_map (cap := [1]) (fe := fun (number_ : SI) => ((some sizes_).bind fun t26 => ((some number_).bind fun t25 => asI t25).bind fun t27 => atI t26 t27)) (iw_tup (ev_sliceT (ev_rkT (ev_var rfl r_row_here_)) (ov_some (K := K) ev_i) ov_none)) fun xc24 number_ Gc21 sc22 rc23 => (ev_at (ev_var rfl (Rp.mono sc22 r_sizes_)) (ev_asI (ev_var rfl rc23))))) (FV.ev (fv_lst (lv_cons (ev_tup2 ev_i ev_i) (lv_nil (α := (Int × Int)))))))) h36 xt.gh fun v31 G32 H33 x34 r35 => ?_
    have xt := xt.trans x34
    have r_row_here_ := Rp.mono x34.gg r_row_here_
    have r_sizes_ := Rp.mono x34.gg r_sizes_
    exact sv_ret (K := K) (ev_tup2 (ev_add ev_i (ev_sum (FV.ev (fv_map (cap := []) (fe := fun (size_here_ : (Int × Int)) => (some size_here_.1)) (iw_list (ev_var rfl r35)) fun xc40 size_here_ Gc37 sc38 rc39 => (ev_fst (ev_var rfl rc39)))))) (ev_add ev_i (ev_maxL (FV.ev (fv_map (cap := []) (fe := fun (size_here_ : (Int × Int)) => (some size_here_.2)) (iw_list (ev_var rfl r35)) fun xc47 size_here_ Gc44 sc45 rc46 => (ev_snd (ev_var rfl rc46))))))) hm xt.gh fun v53 G54 H55 x56 r57 => q v53 G54 H55 (xt.trans x56) r57
theorem ok_law_told {f : Addr} {fd : FuncData} (F : Fun K "_law_told" "_law_told" s_law_told f fd) (T : Txt mg) : FnOk P w K mg base CX0 1 f fd ["_law_row_here", "_law_told_here"] (spM K mm_law_told) := by
  refine F.ok sc_law_told (fun vs H Q E h => (spM_len h).trans rfl) (fun cdv A outer s H0 vs Q E hr h => ?_)
  obtain ⟨G0, ⟨row_here_, ⟨told_here_, ⟨⟩⟩⟩, res, sg0, ⟨v_row_here_, _, rfl, r_row_here_, ⟨v_told_here_, _, rfl, r_told_here_, rfl⟩⟩, hm, q⟩ := h
  replace r_row_here_ : Rp.rel K G0 v_row_here_ row_here_ := r_row_here_
  replace r_told_here_ : Rp.rel K G0 v_told_here_ told_here_ := r_told_here_
  replace hm : m_law_told row_here_ told_here_ = some res := hm
  unfold m_law_told at hm
  have xt : Ext G0 H0 G0 H0 := Ext.refl sg0
  refine ⟨_, (pss_cons (ps_if (pt_cmpR op_eq (pe_ix (ix_anyK (K := K) rfl) (pv 0) pe_int (fun _ _ => rfl)) pe_str (nomark _)) (pss_cons (ps_ret (pv 0))
      pss_nil) pss_nil)
      (pss_cons (ps_set (i := 2) sc_law_told.nd rfl (Or.inl rfl) (pe_slice (sl_tupA (K := K) rfl) (pv 0) po_none (po_some pe_int)))
      (pss_cons (ps_for PassesOwn.never rfl (pi_anyK (K := K) rfl (pe_slice (sl_tupK (K := K) rfl) (pv 0) (po_some pe_int) po_none)) (pg_name (i := 3) sc_law_told.nd rfl (Or.inl rfl)) (pss_cons (ps_set (i := 2) sc_law_told.nd rfl (Or.inl rfl) (pe_op (op_catTp (K := K) rfl) (pv 2) (pe_tup (pa_cons (pe_ix (ix_anyK (K := K) rfl) (pv 1) (pv 3) (fun _ _ => rfl)) pa_nil))))
      pss_nil))
      (pss_cons (ps_ret (pv 2))
      pss_nil)))), ?_⟩
  obtain ⟨b7, h8, hm⟩ := Option.bind_eq_some_iff.mp hm
  refine sv_if (tv_test (K := K) (ev_eqS (ev_asS (ev_atT (ev_rkT (ev_var rfl r_row_here_)) ev_i)) ev_s)) h8 xt.gh fun G9 H10 x11 => ?_
  have xt := xt.trans x11
  have r_row_here_ := Rp.mono x11.gg r_row_here_
  have r_told_here_ := Rp.mono x11.gg r_told_here_
  cases b7 with
  | true =>
    replace hm := cT hm
    refine iteT ?_
    exact sv_ret (K := K) (ev_rkN (ev_var rfl r_row_here_)) hm xt.gh fun v12 G13 H14 x15 r16 => q v12 G13 H14 (xt.trans x15) r16
  | false =>
    replace hm := cF hm
    refine iteF ?_
    obtain ⟨one_, h22, hm⟩ := Option.bind_eq_some_iff.mp hm
    refine sv_set (K := K) (ev_tpN (ev_sliceTA (ev_rkT (ev_var rfl r_row_here_)) ov_none (ov_some (K := K) ev_i))) h22 xt.gh fun v17 G18 H19 x20 r21 => ?_
    have xt := xt.trans x20
    have r_row_here_ := Rp.mono x20.gg r_row_here_
    have r_told_here_ := Rp.mono x20.gg r_told_here_
    obtain ⟨as27, h28, hm⟩ := Option.bind_eq_some_iff.mp hm
    obtain ⟨fl29, h30, hm⟩ := Option.bind_eq_some_iff.mp hm
    refine sv_for (K := K) (RR := fun r v G' H' => Ext G0 H0 G' H' ∧ Rp.rel K G' v r) (iw_tup (ev_sliceT (ev_rkT (ev_var rfl r_row_here_)) (ov_some (K := K) ev_i) ov_none)) h28 h30 xt.gh fun G31 H32 x33 => ⟨fun s34 S' G' H' => ∃ (v35 : V) (v36 : Option V), Ext G0 H0 G' H' ∧ Same G31 G' ∧ S' = [some v_row_here_, some v_told_here_, some v35, v36] ∧ Rp.rel K G' v35 (s34 : (Tp Nt)), ?_, ?_, ?_, ?_, ?_⟩
    · have xt := xt.trans x33
      have r_row_here_ := Rp.mono x33.gg r_row_here_
      have r_told_here_ := Rp.mono x33.gg r_told_here_
      have r21 := Rp.mono x33.gg r21
      exact ⟨v17, _, xt, (Same.refl _), rfl, r21⟩
    · rintro _ S' G' H' ⟨v35, v36, xt, mk37, rfl, r38⟩
      exact ⟨mk37, xt.gh⟩
    · rintro xv39 a40 s34 _ G43 H44 fl41 - ⟨v35, v36, xt, mk37, rfl, r38⟩ rx42 hm D' kN45 kC46 kB47 kR48
      have r_row_here_ := Rp.mono (x33.gg.trans mk37) r_row_here_
      have r_told_here_ := Rp.mono (x33.gg.trans mk37) r_told_here_
      refine sv_turn ?_
      obtain ⟨one_, h61, hm⟩ := Option.bind_eq_some_iff.mp hm
      refine sv_set (K := K) (ev_catTp (ev_var rfl r38) (ev_tupL (lv_cons (ev_at (ev_var rfl r_told_here_) (ev_asI (ev_var rfl rx42))) (lv_nil (α := Nt))))) h61 xt.gh fun v56 G57 H58 x59 r60 => ?_
      have xt := xt.trans x59
      have mk37 := mk37.trans x59.gg
      have r_row_here_ := Rp.mono x59.gg r_row_here_
      have r_told_here_ := Rp.mono x59.gg r_told_here_
      have r38 := Rp.mono x59.gg r38
      have rx42 := Rp.mono x59.gg rx42
      cases hm
      exact kN45 _ _ _ _ rfl ⟨v56, _, xt, mk37, rfl, r60⟩
    · rintro s34 _ G66 H67 rfl ⟨v62, v63, xt, mk64, rfl, r65⟩
      refine sv_nx ?_
      have r_row_here_ := Rp.mono (x33.gg.trans mk64) r_row_here_
      have r_told_here_ := Rp.mono (x33.gg.trans mk64) r_told_here_
      exact sv_ret (K := K) (ev_tupN (ev_var rfl r65)) hm xt.gh fun v69 G70 H71 x72 r73 => q v69 G70 H71 (xt.trans x72) r73
    · rintro r' v' G' H' rfl rl
      cases hm
      exact q v' G' H' rl.1 rl.2
theorem ok_law_book {f : Addr} {fd : FuncData} (F : Fun K "_law_book" "_law_book" s_law_book f fd) (T : Txt mg) (D_law_row : DefOk P w K mg base "_law_row" 2 ["_law_number", "_law_many"] (spM K mm_law_row)) (D_law_size : DefOk P w K mg base "_law_size" 1 ["_law_row_here", "_law_sizes"] (spM K mm_law_size)) (D_law_told : DefOk P w K mg base "_law_told" 1 ["_law_row_here", "_law_told_here"] (spM K mm_law_told)) : FnOk P w K mg base CX0 3 f fd ["_law_numbers_here", "_law_most"] (spM K mm_law_book) := by
  refine F.ok sc_law_book (fun vs H Q E h => (spM_len h).trans rfl) (fun cdv A outer s H0 vs Q E hr h => ?_)
  obtain ⟨G0, ⟨numbers_here_, ⟨most_, ⟨⟩⟩⟩, res, sg0, ⟨v_numbers_here_, _, rfl, r_numbers_here_, ⟨v_most_, _, rfl, r_most_, rfl⟩⟩, hm, q⟩ := h
  replace r_numbers_here_ : Rp.rel K G0 v_numbers_here_ numbers_here_ := r_numbers_here_
  replace r_most_ : Rp.rel K G0 v_most_ most_ := r_most_
  replace hm : m_law_book numbers_here_ most_ = some res := hm
  unfold m_law_book at hm
  have xt : Ext G0 H0 G0 H0 := Ext.refl sg0
  refine ⟨_, (pss_cons (ps_set (i := 2) sc_law_book.nd rfl (Or.inl rfl) (pe_lst pa_nil))
      (pss_cons (ps_set (i := 3) sc_law_book.nd rfl (Or.inl rfl) (pe_lst pa_nil))
      (pss_cons (ps_set (i := 4) sc_law_book.nd rfl (Or.inl rfl) (pe_lst pa_nil))
      (pss_cons (ps_for PassesOwn.never rfl (pi_anyK (K := K) rfl (pv 0)) (pg_name (i := 5) sc_law_book.nd rfl (Or.inl rfl)) (pss_cons (ps_set (i := 6) sc_law_book.nd rfl (Or.inl rfl) (pe_def D_law_row hr (by decide) rfl (pa_cons (pv 5) (pa_cons (pe_callB (call_lenK (K := K) rfl) (by rfl) T.len_ bt_len (pa_cons (pv 2) pa_nil)) pa_nil))))
      (pss_cons (ps_set (i := 7) sc_law_book.nd rfl (Or.inl rfl) (pe_def D_law_size hr (by decide) rfl (pa_cons (pv 6) (pa_cons (pv 3) pa_nil))))
      (pss_cons (ps_if (PW.pt (pw_and (pt_cmpR (op_notInE (K := K) rfl Rk hr (by decide)) (pv 6) (pv 2) rfl) (pw_and (pt_cmpR op_leU (pe_ix (ix_anyK (K := K) rfl) (pv 7) pe_int (fun _ _ => rfl)) (pv 1) (nomark _)) (pw_and1 (pt_cmpR op_leU (pe_ix (ix_anyK (K := K) rfl) (pv 7) pe_int (fun _ _ => rfl)) pe_int (nomark _)))))) (pss_cons (ps_expr (pe_bmK (K := K) rfl PySem.F.plainAttrs_list PySem.F.slot_list_append PySem.F.type_list_append mt_append (pv 2) (pa_cons (pv 6) pa_nil)))
      (pss_cons (ps_expr (pe_bmK (K := K) rfl PySem.F.plainAttrs_list PySem.F.slot_list_append PySem.F.type_list_append mt_append (pv 3) (pa_cons (pv 7) pa_nil)))
      (pss_cons (ps_expr (pe_bmK (K := K) rfl PySem.F.plainAttrs_list PySem.F.slot_list_append PySem.F.type_list_append mt_append (pv 4) (pa_cons (pe_def D_law_told hr (by decide) rfl (pa_cons (pv 6) (pa_cons (pv 4) pa_nil))) pa_nil)))
      pss_nil))) pss_nil)
      pss_nil))))
      (pss_cons (ps_ret (pe_tup (pa_cons (pv 2) (pa_cons (pv 4) pa_nil))))
      pss_nil))))), ?_⟩
  obtain ⟨rows_, h8, hm⟩ := Option.bind_eq_some_iff.mp hm
  refine sv_own (K := K) (fv_lst (lv_nil (α := Rk))) h8 xt.gh fun p1 vs2 G3 H4 x5 hz6 o7 => ?_
  have hz6 := xt.hh.free hz6
  have xt := xt.trans x5
  have r_numbers_here_ := Rp.mono x5.gg r_numbers_here_
  have r_most_ := Rp.mono x5.gg r_most_
  obtain ⟨sizes_, h16, hm⟩ := Option.bind_eq_some_iff.mp hm
  refine sv_own (K := K) (fv_lst (lv_nil (α := (Int × Int)))) h16 xt.gh fun p9 vs10 G11 H12 x13 hz14 o15 => ?_
  have ne_p1_p9 : p1 ≠ p9 := ne_of_none o7.h hz14
  have hz14 := xt.hh.free hz14
  have xt := xt.trans x13
  have r_numbers_here_ := Rp.mono x13.gg r_numbers_here_
  have r_most_ := Rp.mono x13.gg r_most_
  have o7 := o7.ext x13
  obtain ⟨told_here_, h24, hm⟩ := Option.bind_eq_some_iff.mp hm
  refine sv_own (K := K) (fv_lst (lv_nil (α := Nt))) h24 xt.gh fun p17 vs18 G19 H20 x21 hz22 o23 => ?_
  have ne_p1_p17 : p1 ≠ p17 := ne_of_none o7.h hz22
  have ne_p9_p17 : p9 ≠ p17 := ne_of_none o15.h hz22
  have hz22 := xt.hh.free hz22
  have xt := xt.trans x21
  have r_numbers_here_ := Rp.mono x21.gg r_numbers_here_
  have r_most_ := Rp.mono x21.gg r_most_
  have o7 := o7.ext x21
  have o15 := o15.ext x21
  obtain ⟨as25, h26, hm⟩ := Option.bind_eq_some_iff.mp hm
  obtain ⟨fl27, h28, hm⟩ := Option.bind_eq_some_iff.mp hm
  refine sv_for (K := K) (RR := fun r v G' H' => Ext G0 H0 G' H' ∧ Rp.rel K G' v r) (iw_list (ev_var rfl r_numbers_here_)) h26 h28 xt.gh fun G29 H30 x31 => ⟨fun s32 S' G' H' => ∃ (v33 : Option V) (v34 : Option V) (v35 : Option V), Ext G0 H0 G' H' ∧ Same G29 G' ∧ S' = [some v_numbers_here_, some v_most_, some (V.ref p1), some (V.ref p9), some (V.ref p17), v33, v34, v35] ∧ (∃ vs, Own K G' H' (V.ref p1) p1 vs s32.1) ∧ (∃ vs, Own K G' H' (V.ref p9) p9 vs s32.2.1) ∧ (∃ vs, Own K G' H' (V.ref p17) p17 vs s32.2.2), ?_, ?_, ?_, ?_, ?_⟩
  · have xt := xt.trans x31
    have r_numbers_here_ := Rp.mono x31.gg r_numbers_here_
    have r_most_ := Rp.mono x31.gg r_most_
    have o7 := o7.ext x31
    have o15 := o15.ext x31
    have o23 := o23.ext x31
    exact ⟨_, _, _, xt, (Same.refl _), rfl, ⟨_, o7⟩, ⟨_, o15⟩, ⟨_, o23⟩⟩
  · rintro _ S' G' H' ⟨v33, v34, v35, xt, mk36, rfl, ⟨vs2, o7⟩, ⟨vs10, o15⟩, ⟨vs18, o23⟩⟩
    exact ⟨mk36, xt.gh⟩
  · rintro xv37 a38 s32 _ G41 H42 fl39 - ⟨v33, v34, v35, xt, mk36, rfl, ⟨vs2, o7⟩, ⟨vs10, o15⟩, ⟨vs18, o23⟩⟩ rx40 hm D' kN43 kC44 kB45 kR46
    have r_numbers_here_ := Rp.mono (x31.gg.trans mk36) r_numbers_here_
    have r_most_ := Rp.mono (x31.gg.trans mk36) r_most_
    refine sv_turn ?_
    obtain ⟨row_here_, h56, hm⟩ := Option.bind_eq_some_iff.mp hm
    refine sv_setB (K := K) o7 (ev_def2 (m := mm_law_row) (ev_var rfl (Rp.mono (Same.new o7.g) rx40)) (ev_len (ev_var rfl o7.tell))) h56 xt.gh fun v51 G52 H53 x54 r55 => ?_
    have xt := xt.trans x54
    have mk36 := mk36.trans x54.gg
    have r_numbers_here_ := Rp.mono x54.gg r_numbers_here_
    have r_most_ := Rp.mono x54.gg r_most_
    have o7 := o7.ext x54
    have o15 := o15.ext x54
    have o23 := o23.ext x54
    have rx40 := Rp.mono x54.gg rx40
    obtain ⟨size_here_, h66, hm⟩ := Option.bind_eq_some_iff.mp hm
    refine sv_setB (K := K) o15 (ev_def2 (m := mm_law_size) (ev_var rfl (Rp.mono (Same.new o15.g) r55)) (ev_var rfl o15.tell)) h66 xt.gh fun v61 G62 H63 x64 r65 => ?_
    have xt := xt.trans x64
    have mk36 := mk36.trans x64.gg
    have r_numbers_here_ := Rp.mono x64.gg r_numbers_here_
    have r_most_ := Rp.mono x64.gg r_most_
    have o7 := o7.ext x64
    have o15 := o15.ext x64
    have o23 := o23.ext x64
    have rx40 := Rp.mono x64.gg rx40
    have r55 := Rp.mono x64.gg r55
    obtain ⟨b67, h68, hm⟩ := Option.bind_eq_some_iff.mp hm
    refine sv_ifB o7 (tv_andP (tv_test (K := K) (ev_notInE (ev_var rfl (Rp.mono (Same.new o7.g) r55)) (ev_var rfl o7.tell))) (tv_andP (tv_test (K := K) (ev_ord (ev_fst (ev_var rfl (Rp.mono (Same.new o7.g) r65))) (ev_var rfl (Rp.mono (Same.new o7.g) r_most_)))) (tv_test (K := K) (ev_ord (ev_snd (ev_var rfl (Rp.mono (Same.new o7.g) r65))) ev_i)))) h68 xt.gh fun G69 H70 x71 => ?_
    have xt := xt.trans x71
    have mk36 := mk36.trans x71.gg
    have r_numbers_here_ := Rp.mono x71.gg r_numbers_here_
    have r_most_ := Rp.mono x71.gg r_most_
    have o7 := o7.ext x71
    have o15 := o15.ext x71
    have o23 := o23.ext x71
    have rx40 := Rp.mono x71.gg rx40
    have r55 := Rp.mono x71.gg r55
    have r65 := Rp.mono x71.gg r65
    cases b67 with
    | true =>
      replace hm := cT hm
      refine iteT ?_
      obtain ⟨a72, h73, hm⟩ := Option.bind_eq_some_iff.mp hm
      obtain ⟨z80, h74, hm⟩ := Option.bind_eq_some_iff.mp hm
      refine sv_append (K := K) rfl o7 (ev_var rfl r55) h73 h74 xt.gh fun G75 H76 w77 x78 o79 => ?_
      have xt : Ext G0 H0 G75 (upd H76 p1 (.lst (vs2 ++ [w77]))) := (xt.trans x78).put hz6 o79.g
      have mk36 := mk36.trans x78.gg
      have r_numbers_here_ := Rp.mono x78.gg r_numbers_here_
      have r_most_ := Rp.mono x78.gg r_most_
      have o15 := (o15.ext x78).put (q := p1) (ho := .lst (vs2 ++ [w77])) (by first | assumption | exact Ne.symm (by assumption))
      have o23 := (o23.ext x78).put (q := p1) (ho := .lst (vs2 ++ [w77])) (by first | assumption | exact Ne.symm (by assumption))
      have rx40 := Rp.mono x78.gg rx40
      have r55 := Rp.mono x78.gg r55
      have r65 := Rp.mono x78.gg r65
      obtain ⟨a81, h82, hm⟩ := Option.bind_eq_some_iff.mp hm
      obtain ⟨z89, h83, hm⟩ := Option.bind_eq_some_iff.mp hm
      refine sv_append (K := K) rfl o15 (ev_var rfl r65) h82 h83 xt.gh fun G84 H85 w86 x87 o88 => ?_
      have xt : Ext G0 H0 G84 (upd H85 p9 (.lst (vs10 ++ [w86]))) := (xt.trans x87).put hz14 o88.g
      have mk36 := mk36.trans x87.gg
      have r_numbers_here_ := Rp.mono x87.gg r_numbers_here_
      have r_most_ := Rp.mono x87.gg r_most_
      have o79 := (o79.ext x87).put (q := p9) (ho := .lst (vs10 ++ [w86])) (by first | assumption | exact Ne.symm (by assumption))
      have o23 := (o23.ext x87).put (q := p9) (ho := .lst (vs10 ++ [w86])) (by first | assumption | exact Ne.symm (by assumption))
      have rx40 := Rp.mono x87.gg rx40
      have r55 := Rp.mono x87.gg r55
      have r65 := Rp.mono x87.gg r65
      obtain ⟨a94, h95, hm⟩ := Option.bind_eq_some_iff.mp hm
      obtain ⟨z102, h96, hm⟩ := Option.bind_eq_some_iff.mp hm
      refine sv_appendB (K := K) rfl o23 (ev_def2 (m := mm_law_told) (ev_var rfl (Rp.mono (Same.new o23.g) r55)) (ev_var rfl o23.tell)) h95 h96 xt.gh fun G97 H98 w99 x100 o101 => ?_
      have xt : Ext G0 H0 G97 (upd H98 p17 (.lst (vs18 ++ [w99]))) := (xt.trans x100).put hz22 o101.g
      have mk36 := mk36.trans x100.gg
      have r_numbers_here_ := Rp.mono x100.gg r_numbers_here_
      have r_most_ := Rp.mono x100.gg r_most_
      have o79 := (o79.ext x100).put (q := p17) (ho := .lst (vs18 ++ [w99])) (by first | assumption | exact Ne.symm (by assumption))
      have o88 := (o88.ext x100).put (q := p17) (ho := .lst (vs18 ++ [w99])) (by first | assumption | exact Ne.symm (by assumption))
      have rx40 := Rp.mono x100.gg rx40
      have r55 := Rp.mono x100.gg r55
      have r65 := Rp.mono x100.gg r65
      cases hm
      exact kN43 _ _ _ _ rfl ⟨_, _, _, xt, mk36, rfl, ⟨_, o79⟩, ⟨_, o88⟩, ⟨_, o101⟩⟩
    | false =>
      replace hm := cF hm
      refine iteF ?_
      cases hm
      exact kN43 _ _ _ _ rfl ⟨_, _, _, xt, mk36, rfl, ⟨_, o7⟩, ⟨_, o15⟩, ⟨_, o23⟩⟩
  · rintro s32 _ G107 H108 rfl ⟨v103, v104, v105, xt, mk106, rfl, ⟨vs2, o7⟩, ⟨vs10, o15⟩, ⟨vs18, o23⟩⟩
    refine sv_nx ?_
    have r_numbers_here_ := Rp.mono (x31.gg.trans mk106) r_numbers_here_
    have r_most_ := Rp.mono (x31.gg.trans mk106) r_most_
    have sf := Same.new (o := .lst vs2) o7.g
    have xt := xt.frz hz6 o7.g o7.h
    have r109 := o7.tell
    have r_numbers_here_ := Rp.mono sf r_numbers_here_
    have r_most_ := Rp.mono sf r_most_
    have o15 := o15.over (o := .lst vs2) (by first | assumption | exact Ne.symm (by assumption)) o7.g
    have o23 := o23.over (o := .lst vs2) (by first | assumption | exact Ne.symm (by assumption)) o7.g
    have sf := Same.new (o := .lst vs18) o23.g
    have xt := xt.frz hz22 o23.g o23.h
    have r110 := o23.tell
    have r_numbers_here_ := Rp.mono sf r_numbers_here_
    have r_most_ := Rp.mono sf r_most_
    have r109 := Rp.mono sf r109
    have o15 := o15.over (o := .lst vs18) (by first | assumption | exact Ne.symm (by assumption)) o23.g
    exact sv_ret (K := K) (ev_tup2 (ev_var rfl r109) (ev_var rfl r110)) hm xt.gh fun v111 G112 H113 x114 r115 => q v111 G112 H113 (xt.trans x114) r115
  · rintro r' v' G' H' rfl rl
    cases hm
    exact q v' G' H' rl.1 rl.2
theorem ok_parts_of {f : Addr} {fd : FuncData} (F : Fun K "parts_of" "parts_of" s_parts_of f fd) (T : Txt mg) : FnOk P w K mg base CX0 1 f fd ["sentence"] (spM K mm_parts_of) := by
  refine F.ok sc_parts_of (fun vs H Q E h => (spM_len h).trans rfl) (fun cdv A outer s H0 vs Q E hr h => ?_)
  obtain ⟨G0, ⟨sentence_, ⟨⟩⟩, res, sg0, ⟨v_sentence_, _, rfl, r_sentence_, rfl⟩, hm, q⟩ := h
  replace r_sentence_ : Rp.rel K G0 v_sentence_ sentence_ := r_sentence_
  replace hm : m_parts_of sentence_ = some res := hm
  unfold m_parts_of at hm
  have xt : Ext G0 H0 G0 H0 := Ext.refl sg0
  refine ⟨_, (pss_cons (ps_if (pt_cmpR op_eq (pe_ix (ix_anyK (K := K) rfl) (pv 0) pe_int (fun _ _ => rfl)) pe_str (nomark _)) (pss_cons (ps_ret (pe_tup pa_nil))
      pss_nil) pss_nil)
      (pss_cons (ps_ret (pe_slice (sl_tupK (K := K) rfl) (pv 0) (po_some pe_int) po_none))
      pss_nil)), ?_⟩
  obtain ⟨b9, h10, hm⟩ := Option.bind_eq_some_iff.mp hm
  refine sv_if (tv_test (K := K) (ev_eqS (ev_asTxt (ev_atT (ev_asTup (ev_var rfl r_sentence_)) ev_i)) ev_s)) h10 xt.gh fun G11 H12 x13 => ?_
  have xt := xt.trans x13
  have r_sentence_ := Rp.mono x13.gg r_sentence_
  cases b9 with
  | true =>
    replace hm := cT hm
    refine iteT ?_
    exact sv_ret (K := K) (rest := tNext) (σ := [some v_sentence_]) (ev_tupL (lv_nil (α := Nt))) hm xt.gh fun v14 G15 H16 x17 r18 => q v14 G15 H16 (xt.trans x17) r18
  | false =>
    replace hm := cF hm
    refine iteF ?_
    exact sv_ret (K := K) (ev_sliceT (ev_asTup (ev_var rfl r_sentence_)) (ov_some (K := K) ev_i) ov_none) hm xt.gh fun v23 G24 H25 x26 r27 => q v23 G24 H25 (xt.trans x26) r27
theorem ok_row_number {f : Addr} {fd : FuncData} (F : Fun K "row_number" "row_number" s_row_number f fd) (T : Txt mg) : FnOk P w K mg base CX0 1 f fd ["rows", "numbers", "row"] (spB K rownO) := by
  refine F.ok sc_row_number (fun vs H Q E h => (spB_len h).trans rfl) (fun cdv A outer s H0 vs Q E hr h => ?_)
  obtain ⟨G0, p, q, v, xs, rows, a, r, rfl, sg, o, rv, hm, k⟩ := h
  refine ⟨_, (pss_cons (ps_if (pt_cmp (pc_dnotin (room_u hr) (pv 2) (pv 1))) (pss_cons (ps_dput (room_u hr) (pv 1) (pv 2) (pe_callB (call_lenK (K := K) rfl) (by rfl) T.len_ bt_len (pa_cons (pv 0) pa_nil)) rfl)
      (pss_cons (ps_expr (pe_bmK (K := K) rfl PySem.F.plainAttrs_list PySem.F.slot_list_append PySem.F.type_list_append mt_append (pv 0) (pa_cons (pv 2) pa_nil))) pss_nil)) pss_nil)
      (pss_cons (ps_ret (pe_dget (room_u hr) (pv 1) (pv 2) (fun _ _ => rfl))) pss_nil)), ?_⟩
  exact rown_body sg o rv hm k
theorem ok0_lay {f : Addr} {fd : FuncData} (F : Fun K "lay" "lay" s_lay f fd) : FnOk P w K mg base CX0 2 f fd ["rows", "numbers", "sentence"] (spB K (layO m_parts_of 0)) := by
  refine F.ok sc_lay (fun vs H Q E h => (spB_len h).trans rfl) (fun cdv A outer s H0 vs Q E hr h => ?_)
  obtain ⟨_, _, _, _, _, _, _, _, _, _, _, _, hm, _⟩ := h
  exact nomatch (hm : none = some _)
theorem ok_lay {f : Addr} {fd : FuncData} (F : Fun K "lay" "lay" s_lay f fd) (T : Txt mg) (D_parts_of : DefOk P w K mg base "parts_of" 1 ["sentence"] (spM K mm_parts_of)) (D_row_number : DefOk P w K mg base "row_number" 1 ["rows", "numbers", "row"] (spB K rownO)) (fuel_ : Nat) (D_lay : DefOk P w K mg base "lay" (2 + fuel_) ["rows", "numbers", "sentence"] (spB K (layO m_parts_of fuel_))) : FnOk P w K mg base CX0 (2 + fuel_ + 1) f fd ["rows", "numbers", "sentence"] (spB K (layO m_parts_of (fuel_ + 1))) := by
  refine F.ok sc_lay (fun vs H Q E h => (spB_len h).trans rfl) (fun cdv A outer s H0 vs Q E hr h => ?_)
  obtain ⟨G0, p, q, v, xs, rows, a, r, rfl, sg, o, rv, hm, k⟩ := h
  refine ⟨_, (pss_cons (ps_if (pt_cmpR op_eq (pe_ix (ix_anyK (K := K) rfl) (pv 2) pe_int (fun _ _ => rfl)) pe_str (nomark _)) (pss_cons (ps_ret (pe_def D_row_number hr (by omega) rfl (pa_cons (pv 0) (pa_cons (pv 1) (pa_cons (pv 2) pa_nil))))) pss_nil) pss_nil)
      (pss_cons (ps_set (i := 3) sc_lay.nd rfl (Or.inl rfl) (pe_tup (pa_cons (pe_ix (ix_anyK (K := K) rfl) (pv 2) pe_int (fun _ _ => rfl)) pa_nil)))
      (pss_cons (ps_for PassesOwn.never rfl (pi_anyK (K := K) rfl (pe_def D_parts_of hr (by omega) rfl (pa_cons (pv 2) pa_nil))) (pg_name (i := 4) sc_lay.nd rfl (Or.inl rfl))
        (pss_cons (ps_set (i := 3) sc_lay.nd rfl (Or.inl rfl) (pe_op (op_catTp (K := K) rfl) (pv 3) (pe_tup (pa_cons (pe_def D_lay hr (by omega) rfl (pa_cons (pv 0) (pa_cons (pv 1) (pa_cons (pv 4) pa_nil)))) pa_nil)))) pss_nil))
      (pss_cons (ps_ret (pe_def D_row_number hr (by omega) rfl (pa_cons (pv 0) (pa_cons (pv 1) (pa_cons (pv 3) pa_nil))))) pss_nil)))), ?_⟩
  exact lay_body (pm := m_parts_of) (mp := mm_parts_of) (fun _ => rfl) sg o rv hm k
theorem ok_book_of {f : Addr} {fd : FuncData} (F : Fun K "book_of" "book_of" s_book_of f fd) (T : Txt mg) (D_lay : DefOk P w K mg base "lay" 97 ["rows", "numbers", "sentence"] (spB K (layO m_parts_of 95))) : FnOk P w K mg base CX0 98 f fd ["some"] (spN K mm_book_of) := by
  refine F.ok sc_book_of (fun vs H Q E h => (spN_len h).trans rfl) (fun cdv A outer s H0 vs Q E hr h => ?_)
  obtain ⟨G0, ⟨some_, ⟨⟩⟩, r, sg, ⟨v, _, rfl, rv, rfl⟩, hm, k⟩ := h
  refine ⟨_, (pss_cons (ps_set (i := 1) sc_book_of.nd rfl (Or.inr rfl) (pe_lst pa_nil))
      (pss_cons (ps_set (i := 2) sc_book_of.nd rfl (Or.inr rfl) pe_dnewT)
      (pss_cons (ps_setcomp (i := 3) sc_book_of.nd rfl (Or.inl rfl) (cn := ["rows", "numbers"]) (cap := [1, 2]) rfl ⟨by decide +kernel, rfl, by decide +kernel, free_of rfl⟩ rfl (by decide +kernel) ⟨⟨rfl, .inl rfl, rfl⟩, ⟨rfl, .inl rfl, rfl⟩, trivial⟩ (pi_anyK (K := K) rfl (pv 0)) (fun C s0 H0 fp => ⟨pts_nil, (pe_def D_lay hr (by decide) rfl (pa_cons (pv 1) (pa_cons (pv 2) (pa_cons (pv 0) pa_nil))))⟩))
      (pss_cons (ps_ret (pe_tup (pa_cons (pv 1) (pa_cons (pv 3) pa_nil)))) pss_nil)))), ?_⟩
  exact book_bodyR sg rv hm k
theorem ok_law_stream {f : Addr} {fd : FuncData} (F : Fun K "_law_stream" "_law_stream" s_law_stream f fd) (T : Txt mg) : FnOk P w K mg base CX0 1 f fd ["_law_cell", "_law_many"] (spM K mm_law_stream) := by
  refine F.ok sc_law_stream (fun vs H Q E h => (spM_len h).trans rfl) (fun cdv A outer s H0 vs Q E hr h => ?_)
  obtain ⟨G0, ⟨cell_, ⟨many_, ⟨⟩⟩⟩, res, sg0, ⟨v_cell_, _, rfl, r_cell_, ⟨v_many_, _, rfl, r_many_, rfl⟩⟩, hm, q⟩ := h
  replace r_cell_ : Rp.rel K G0 v_cell_ cell_ := r_cell_
  replace r_many_ : Rp.rel K G0 v_many_ many_ := r_many_
  replace hm : m_law_stream cell_ many_ = some res := hm
  unfold m_law_stream at hm
  have xt : Ext G0 H0 G0 H0 := Ext.refl sg0
  refine ⟨_, (pss_cons (ps_set (i := 2) sc_law_stream.nd rfl (Or.inl rfl) (pe_lst pa_nil))
      (pss_cons (ps_set (i := 3) sc_law_stream.nd rfl (Or.inl rfl) (pe_op (op_plusK (K := K) rfl) (pe_op op_mod (pv 0) pe_int) pe_int))
      (pss_cons (ps_for PassesOwn.never rfl (pi_range1 rfl T.range_ (pa_cons (pv 1) pa_nil)) (pg_name (i := 4) sc_law_stream.nd rfl (Or.inl rfl)) (pss_cons (ps_set (i := 3) sc_law_stream.nd rfl (Or.inl rfl) (pe_op op_mod (pe_op (op_plusK (K := K) rfl) (pe_op (op_plusK (K := K) rfl) (pe_op (op_mulK (K := K) rfl) (pv 3) (pv 3)) (pe_op (op_mulK (K := K) rfl) pe_int (pv 3))) (pv 4)) pe_int))
      (pss_cons (ps_expr (pe_bmK (K := K) rfl PySem.F.plainAttrs_list PySem.F.slot_list_append PySem.F.type_list_append mt_append (pv 2) (pa_cons (pv 3) pa_nil)))
      pss_nil)))
      (pss_cons (ps_ret (pv 2))
      pss_nil)))), ?_⟩
  obtain ⟨numbers_here_, h8, hm⟩ := Option.bind_eq_some_iff.mp hm
  refine sv_own (K := K) (fv_lst (lv_nil (α := Int))) h8 xt.gh fun p1 vs2 G3 H4 x5 hz6 o7 => ?_
  have hz6 := xt.hh.free hz6
  have xt := xt.trans x5
  have r_cell_ := Rp.mono x5.gg r_cell_
  have r_many_ := Rp.mono x5.gg r_many_
  obtain ⟨number_, h14, hm⟩ := Option.bind_eq_some_iff.mp hm
  refine sv_set (K := K) (ev_add (ev_modR (ev_var rfl r_cell_)) ev_i) h14 xt.gh fun v9 G10 H11 x12 r13 => ?_
  have xt := xt.trans x12
  have r_cell_ := Rp.mono x12.gg r_cell_
  have r_many_ := Rp.mono x12.gg r_many_
  have o7 := o7.ext x12
  obtain ⟨as16, h17, hm⟩ := Option.bind_eq_some_iff.mp hm
  obtain ⟨fl18, h19, hm⟩ := Option.bind_eq_some_iff.mp hm
  refine sv_for (K := K) (RR := fun r v G' H' => Ext G0 H0 G' H' ∧ Rp.rel K G' v r) (iw_rng1 (ev_var rfl r_many_)) h17 h19 xt.gh fun G20 H21 x22 => ⟨fun s23 S' G' H' => ∃ (v24 : V) (v25 : Option V), Ext G0 H0 G' H' ∧ Same G20 G' ∧ S' = [some v_cell_, some v_many_, some (V.ref p1), some v24, v25] ∧ (∃ vs, Own K G' H' (V.ref p1) p1 vs s23.1) ∧ Rp.rel K G' v24 (s23.2 : Int), ?_, ?_, ?_, ?_, ?_⟩
  · have xt := xt.trans x22
    have r_cell_ := Rp.mono x22.gg r_cell_
    have r_many_ := Rp.mono x22.gg r_many_
    have o7 := o7.ext x22
    have r13 := Rp.mono x22.gg r13
    exact ⟨v9, _, xt, (Same.refl _), rfl, ⟨_, o7⟩, r13⟩
  · rintro _ S' G' H' ⟨v24, v25, xt, mk26, rfl, ⟨vs2, o7⟩, r27⟩
    exact ⟨mk26, xt.gh⟩
  · rintro xv28 a29 s23 _ G32 H33 fl30 - ⟨v24, v25, xt, mk26, rfl, ⟨vs2, o7⟩, r27⟩ rx31 hm D' kN34 kC35 kB36 kR37
    have r_cell_ := Rp.mono (x22.gg.trans mk26) r_cell_
    have r_many_ := Rp.mono (x22.gg.trans mk26) r_many_
    refine sv_turn ?_
    obtain ⟨number_, h48, hm⟩ := Option.bind_eq_some_iff.mp hm
    refine sv_set (K := K) (ev_modR (ev_add (ev_add (ev_mul (ev_var rfl r27) (ev_var rfl r27)) (ev_mulL (ev_var rfl r27))) (ev_var rfl rx31))) h48 xt.gh fun v43 G44 H45 x46 r47 => ?_
    have xt := xt.trans x46
    have mk26 := mk26.trans x46.gg
    have r_cell_ := Rp.mono x46.gg r_cell_
    have r_many_ := Rp.mono x46.gg r_many_
    have o7 := o7.ext x46
    have r27 := Rp.mono x46.gg r27
    have rx31 := Rp.mono x46.gg rx31
    obtain ⟨a49, h50, hm⟩ := Option.bind_eq_some_iff.mp hm
    obtain ⟨z57, h51, hm⟩ := Option.bind_eq_some_iff.mp hm
    refine sv_append (K := K) rfl o7 (ev_var rfl r47) h50 h51 xt.gh fun G52 H53 w54 x55 o56 => ?_
    have xt : Ext G0 H0 G52 (upd H53 p1 (.lst (vs2 ++ [w54]))) := (xt.trans x55).put hz6 o56.g
    have mk26 := mk26.trans x55.gg
    have r_cell_ := Rp.mono x55.gg r_cell_
    have r_many_ := Rp.mono x55.gg r_many_
    have r47 := Rp.mono x55.gg r47
    have rx31 := Rp.mono x55.gg rx31
    cases hm
    exact kN34 _ _ _ _ rfl ⟨v43, _, xt, mk26, rfl, ⟨_, o56⟩, r47⟩
  · rintro s23 _ G62 H63 rfl ⟨v58, v59, xt, mk60, rfl, ⟨vs2, o7⟩, r61⟩
    refine sv_nx ?_
    have r_cell_ := Rp.mono (x22.gg.trans mk60) r_cell_
    have r_many_ := Rp.mono (x22.gg.trans mk60) r_many_
    have sf := Same.new (o := .lst vs2) o7.g
    have xt := xt.frz hz6 o7.g o7.h
    have r64 := o7.tell
    have r_cell_ := Rp.mono sf r_cell_
    have r_many_ := Rp.mono sf r_many_
    have r61 := Rp.mono sf r61
    exact sv_ret (K := K) (ev_var rfl r64) hm xt.gh fun v65 G66 H67 x68 r69 => q v65 G66 H67 (xt.trans x68) r69
  · rintro r' v' G' H' rfl rl
    cases hm
    exact q v' G' H' rl.1 rl.2
theorem ok_law_numbers {f : Addr} {fd : FuncData} (F : Fun K "_law_numbers" "_law_numbers" s_law_numbers f fd) (T : Txt mg) (D_law_cell_at : DefOk P w K mg base "_law_cell_at" 1 ["_law_script", "_law_k"] (spM K mm_law_cell_at)) (D_law_stream : DefOk P w K mg base "_law_stream" 1 ["_law_cell", "_law_many"] (spM K mm_law_stream)) : FnOk P w K mg base CX0 2 f fd ["_law_script"] (spM K mm_law_numbers) := by
  refine F.ok sc_law_numbers (fun vs H Q E h => (spM_len h).trans rfl) (fun cdv A outer s H0 vs Q E hr h => ?_)
  obtain ⟨G0, ⟨script_, ⟨⟩⟩, res, sg0, ⟨v_script_, _, rfl, r_script_, rfl⟩, hm, q⟩ := h
  replace r_script_ : Rp.rel K G0 v_script_ script_ := r_script_
  replace hm : m_law_numbers script_ = some res := hm
  unfold m_law_numbers at hm
  have xt : Ext G0 H0 G0 H0 := Ext.refl sg0
  refine ⟨_, (pss_cons (ps_set (i := 1) sc_law_numbers.nd rfl (Or.inl rfl) (pe_def D_law_cell_at hr (by decide) rfl (pa_cons (pv 0) (pa_cons pe_int pa_nil))))
      (pss_cons (ps_if (pt_cmpR op_eq (pe_op op_mod (pv 1) pe_int) pe_int (nomark _)) (pss_cons (ps_ret (pe_comp (cn := []) (cap := []) rfl ⟨by decide +kernel, rfl, by decide +kernel, free_of rfl⟩ rfl (by decide +kernel) trivial (pi_anyK (K := K) rfl (pe_slice (sl_anyK (K := K) rfl) (pv 0) (po_some pe_int) (po_some pe_int))) (fun C s0 H0 fp => ⟨pts_nil, (pe_op op_mod (pv 0) (pe_op op_pow pe_int pe_int))⟩)))
      pss_nil) pss_nil)
      (pss_cons (ps_if (pt_cmpR op_eq (pe_op op_mod (pe_op op_fdiv (pv 1) pe_int) pe_int) pe_int (nomark _)) (pss_cons (ps_set (i := 2) sc_law_numbers.nd rfl (Or.inr rfl) (pe_lst (pa_cons pe_int (pa_cons pe_int (pa_cons pe_int (pa_cons pe_int (pa_cons pe_int (pa_cons pe_int (pa_cons pe_int (pa_cons pe_int pa_nil))))))))))
      (pss_cons (ps_ret (pe_comp (cn := ["_law_kinds"]) (cap := [2]) rfl ⟨by decide +kernel, rfl, by decide +kernel, free_of rfl⟩ rfl (by decide +kernel) ⟨⟨rfl, .inl rfl, rfl⟩, trivial⟩ (pi_anyK (K := K) rfl (pe_def D_law_stream hr (by decide) rfl (pa_cons (pe_def D_law_cell_at hr (by decide) rfl (pa_cons (pv 0) (pa_cons pe_int pa_nil))) (pa_cons pe_int pa_nil)))) (fun C s0 H0 fp => ⟨pts_nil, (pe_op (op_plusK (K := K) rfl) (pe_op (op_mulK (K := K) rfl) pe_int (pv 0)) (pe_ix (ix_anyK (K := K) rfl) (pv 1) (pe_op op_mod (pe_op op_fdiv (pv 0) pe_int) pe_int) (fun _ _ => rfl)))⟩)))
      pss_nil)) pss_nil)
      (pss_cons (ps_ret (pe_def D_law_stream hr (by decide) rfl (pa_cons (pe_def D_law_cell_at hr (by decide) rfl (pa_cons (pv 0) (pa_cons pe_int pa_nil))) (pa_cons (pe_op op_mod (pe_op op_fdiv (pv 1) pe_int) pe_int) pa_nil))))
      pss_nil)))), ?_⟩
  obtain ⟨cell_, h8, hm⟩ := Option.bind_eq_some_iff.mp hm
  refine sv_set (K := K) (ev_def2 (m := mm_law_cell_at) (ev_var rfl r_script_) ev_i) h8 xt.gh fun v3 G4 H5 x6 r7 => ?_
  have xt := xt.trans x6
  have r_script_ := Rp.mono x6.gg r_script_
  obtain ⟨b9, h10, hm⟩ := Option.bind_eq_some_iff.mp hm
  refine sv_if (tv_test (K := K) (ev_eqI (ev_modR (ev_var rfl r7)) ev_i)) h10 xt.gh fun G11 H12 x13 => ?_
  have xt := xt.trans x13
  have r_script_ := Rp.mono x13.gg r_script_
  have r7 := Rp.mono x13.gg r7
  cases b9 with
  | true =>
    replace hm := cT hm
    refine iteT ?_
    exact sv_ret (K := K) (FV.ev (fv_map (cap := []) (fe := fun (number_ : Int) => (some (number_ % 1000000000))) (iw_list (FV.ev (fv_sliceX (ev_var rfl r_script_) (ov_some (K := K) ev_i) (ov_some (K := K) ev_i)))) fun xc20 number_ Gc17 sc18 rc19 => (ev_modC (ev_var rfl rc19) (EV.of (m' := some (1000000000 : Int)) (ev_pow (ev_i (i := 10)) (ev_i (i := 9))) (by decide +kernel)) (by decide +kernel)))) hm xt.gh fun v22 G23 H24 x25 r26 => q v22 G23 H24 (xt.trans x25) r26
  | false =>
    replace hm := cF hm
    refine iteF ?_
    obtain ⟨b27, h28, hm⟩ := Option.bind_eq_some_iff.mp hm
    refine sv_if (tv_test (K := K) (ev_eqI (ev_modR (ev_divR (ev_var rfl r7))) ev_i)) h28 xt.gh fun G29 H30 x31 => ?_
    have xt := xt.trans x31
    have r_script_ := Rp.mono x31.gg r_script_
    have r7 := Rp.mono x31.gg r7
    cases b27 with
    | true =>
      replace hm := cT hm
      refine iteT ?_
      obtain ⟨kinds_, h37, hm⟩ := Option.bind_eq_some_iff.mp hm
      refine sv_set (K := K) (FV.ev (fv_lst (lv_cons ev_i (lv_cons ev_i (lv_cons ev_i (lv_cons ev_i (lv_cons ev_i (lv_cons ev_i (lv_cons ev_i (lv_cons ev_i (lv_nil (α := Int)))))))))))) h37 xt.gh fun v32 G33 H34 x35 r36 => ?_
      have xt := xt.trans x35
      have r_script_ := Rp.mono x35.gg r_script_
      have r7 := Rp.mono x35.gg r7
      exact sv_ret (K := K) (FV.ev (fv_map (cap := [2]) (fe := fun (number_ : Int) => (((some kinds_).bind fun t46 => (some ((number_ / (7 : Int)) % (8 : Int))).bind fun t47 => atI t46 t47).bind fun t48 => (some (((33 : Int) * number_) + t48)))) (iw_list (ev_def2 (m := mm_law_stream) (ev_def2 (m := mm_law_cell_at) (ev_var rfl r_script_) ev_i) ev_i)) fun xc45 number_ Gc42 sc43 rc44 => (ev_add (ev_mulL (ev_var rfl rc44)) (ev_at (ev_var rfl (Rp.mono sc43 r36)) (ev_modR (ev_divR (ev_var rfl rc44))))))) hm xt.gh fun v50 G51 H52 x53 r54 => q v50 G51 H52 (xt.trans x53) r54
    | false =>
      replace hm := cF hm
      refine iteF ?_
      exact sv_ret (K := K) (ev_def2 (m := mm_law_stream) (ev_def2 (m := mm_law_cell_at) (ev_var rfl r_script_) ev_i) (ev_modR (ev_divR (ev_var rfl r7)))) hm xt.gh fun v59 G60 H61 x62 r63 => q v59 G60 H61 (xt.trans x62) r63
theorem ok_unfolded {f : Addr} {fd : FuncData} (F : Fun K "unfolded" "unfolded" s_unfolded f fd) (T : Txt mg) : FnOk P w K mg base CX0 1 f fd ["rows", "spot"] (spM K mm_unfolded) := by
  refine F.ok sc_unfolded (fun vs H Q E h => (spM_len h).trans rfl) (fun cdv A outer s H0 vs Q E hr h => ?_)
  obtain ⟨G0, ⟨rows_, ⟨spot_, ⟨⟩⟩⟩, res, sg0, ⟨v_rows_, _, rfl, r_rows_, ⟨v_spot_, _, rfl, r_spot_, rfl⟩⟩, hm, q⟩ := h
  replace r_rows_ : Rp.rel K G0 v_rows_ rows_ := r_rows_
  replace r_spot_ : Rp.rel K G0 v_spot_ spot_ := r_spot_
  replace hm : m_unfolded rows_ spot_ = some res := hm
  unfold m_unfolded at hm
  have xt : Ext G0 H0 G0 H0 := Ext.refl sg0
  refine ⟨_, (pss_cons (ps_set (i := 2) sc_unfolded.nd rfl (Or.inr rfl) (pe_lst pa_nil))
      (pss_cons (ps_for PassesOwn.never rfl (pi_anyK (K := K) rfl (pe_slice (sl_anyK (K := K) rfl) (pv 0) po_none (po_some (pe_op (op_plusK (K := K) rfl) (pv 1) pe_int)))) (pg_name (i := 3) sc_unfolded.nd rfl (Or.inl rfl)) (pss_cons (ps_if (pt_cmpR op_eq (pe_ix (ix_anyK (K := K) rfl) (pv 3) pe_int (fun _ _ => rfl)) pe_str (nomark _)) (pss_cons (ps_expr (pe_bmK (K := K) rfl PySem.F.plainAttrs_list PySem.F.slot_list_append PySem.F.type_list_append mt_append (pv 2) (pa_cons (pv 3) pa_nil)))
      pss_nil) (pss_cons (ps_expr (pe_bmK (K := K) rfl PySem.F.plainAttrs_list PySem.F.slot_list_append PySem.F.type_list_append mt_append (pv 2) (pa_cons (pe_op (op_catTp (K := K) rfl) (pe_tup (pa_cons (pe_ix (ix_anyK (K := K) rfl) (pv 3) pe_int (fun _ _ => rfl)) pa_nil)) (pe_callTy (call_tupK (K := K) rfl) (by rfl) T.tuple_ bt_tuple (pa_cons (pe_comp (cn := ["built"]) (cap := [2]) rfl ⟨by decide +kernel, rfl, by decide +kernel, free_of rfl⟩ rfl (by decide +kernel) ⟨⟨rfl, .inl rfl, rfl⟩, trivial⟩ (pi_anyK (K := K) rfl (pe_slice (sl_tupK (K := K) rfl) (pv 3) (po_some pe_int) po_none)) (fun C s0 H0 fp => ⟨pts_nil, (pe_ix (ix_anyK (K := K) rfl) (pv 1) (pv 0) (fun _ _ => rfl))⟩)) pa_nil))) pa_nil)))
      pss_nil))
      pss_nil))
      (pss_cons (ps_ret (pe_ix (ix_anyK (K := K) rfl) (pv 2) (pv 1) (fun _ _ => rfl)))
      pss_nil))), ?_⟩
  obtain ⟨built_, h8, hm⟩ := Option.bind_eq_some_iff.mp hm
  refine sv_own (K := K) (fv_lst (lv_nil (α := Nt))) h8 xt.gh fun p1 vs2 G3 H4 x5 hz6 o7 => ?_
  have hz6 := xt.hh.free hz6
  have xt := xt.trans x5
  have r_rows_ := Rp.mono x5.gg r_rows_
  have r_spot_ := Rp.mono x5.gg r_spot_
  obtain ⟨as9, h10, hm⟩ := Option.bind_eq_some_iff.mp hm
  obtain ⟨fl11, h12, hm⟩ := Option.bind_eq_some_iff.mp hm
  refine sv_for (K := K) (RR := fun r v G' H' => Ext G0 H0 G' H' ∧ Rp.rel K G' v r) (iw_list (FV.ev (fv_slice (ev_var rfl r_rows_) ov_none (ov_some (K := K) (ev_add (ev_var rfl r_spot_) ev_i))))) h10 h12 xt.gh fun G13 H14 x15 => ⟨fun s16 S' G' H' => ∃ (v17 : Option V), Ext G0 H0 G' H' ∧ Same G13 G' ∧ S' = [some v_rows_, some v_spot_, some (V.ref p1), v17] ∧ (∃ vs, Own K G' H' (V.ref p1) p1 vs s16), ?_, ?_, ?_, ?_, ?_⟩
  · have xt := xt.trans x15
    have r_rows_ := Rp.mono x15.gg r_rows_
    have r_spot_ := Rp.mono x15.gg r_spot_
    have o7 := o7.ext x15
    exact ⟨_, xt, (Same.refl _), rfl, ⟨_, o7⟩⟩
  · rintro _ S' G' H' ⟨v17, xt, mk18, rfl, ⟨vs2, o7⟩⟩
    exact ⟨mk18, xt.gh⟩
  · rintro xv19 a20 s16 _ G23 H24 fl21 - ⟨v17, xt, mk18, rfl, ⟨vs2, o7⟩⟩ rx22 hm D' kN25 kC26 kB27 kR28
    have r_rows_ := Rp.mono (x15.gg.trans mk18) r_rows_
    have r_spot_ := Rp.mono (x15.gg.trans mk18) r_spot_
    refine sv_turn ?_
    obtain ⟨b35, h36, hm⟩ := Option.bind_eq_some_iff.mp hm
    refine sv_if (tv_test (K := K) (ev_eqS (ev_asS (ev_atT (ev_rkT (ev_var rfl rx22)) ev_i)) ev_s)) h36 xt.gh fun G37 H38 x39 => ?_
    have xt := xt.trans x39
    have mk18 := mk18.trans x39.gg
    have r_rows_ := Rp.mono x39.gg r_rows_
    have r_spot_ := Rp.mono x39.gg r_spot_
    have o7 := o7.ext x39
    have rx22 := Rp.mono x39.gg rx22
    cases b35 with
    | true =>
      replace hm := cT hm
      refine iteT ?_
      obtain ⟨a40, h41, hm⟩ := Option.bind_eq_some_iff.mp hm
      obtain ⟨z48, h42, hm⟩ := Option.bind_eq_some_iff.mp hm
      refine sv_append (K := K) rfl o7 (ev_rkN (ev_var rfl rx22)) h41 h42 xt.gh fun G43 H44 w45 x46 o47 => ?_
      have xt : Ext G0 H0 G43 (upd H44 p1 (.lst (vs2 ++ [w45]))) := (xt.trans x46).put hz6 o47.g
      have mk18 := mk18.trans x46.gg
      have r_rows_ := Rp.mono x46.gg r_rows_
      have r_spot_ := Rp.mono x46.gg r_spot_
      have rx22 := Rp.mono x46.gg rx22
      cases hm
      exact kN25 _ _ _ _ rfl ⟨_, xt, mk18, rfl, ⟨_, o47⟩⟩
    | false =>
      replace hm := cF hm
      refine iteF ?_
      obtain ⟨a97, h98, hm⟩ := Option.bind_eq_some_iff.mp hm
      obtain ⟨z105, h99, hm⟩ := Option.bind_eq_some_iff.mp hm
      refine sv_appendB (K := K) rfl o7 (ev_tupN (ev_catTp (ev_tupL (lv_cons (ev_siN (ev_atT (ev_rkT (ev_var rfl (Rp.mono (Same.new o7.g) rx22))) ev_i)) (lv_nil (α := Nt)))) (ev_tuple (FV.ev (fv_map (cap := [2]) (fe := fun (number_ : SI) => ((some s16).bind fun t85 => ((some number_).bind fun t84 => asI t84).bind fun t86 => atI t85 t86)) (iw_tup (ev_sliceT (ev_rkT (ev_var rfl (Rp.mono (Same.new o7.g) rx22))) (ov_some (K := K) ev_i) ov_none)) fun xc83 number_ Gc80 sc81 rc82 => (ev_at (ev_var rfl (Rp.mono sc81 o7.tell)) (ev_asI (ev_var rfl rc82)))))))) h98 h99 xt.gh fun G100 H101 w102 x103 o104 => ?_
      have xt : Ext G0 H0 G100 (upd H101 p1 (.lst (vs2 ++ [w102]))) := (xt.trans x103).put hz6 o104.g
      have mk18 := mk18.trans x103.gg
      have r_rows_ := Rp.mono x103.gg r_rows_
      have r_spot_ := Rp.mono x103.gg r_spot_
      have rx22 := Rp.mono x103.gg rx22
      cases hm
      exact kN25 _ _ _ _ rfl ⟨_, xt, mk18, rfl, ⟨_, o104⟩⟩
  · rintro s16 _ G108 H109 rfl ⟨v106, xt, mk107, rfl, ⟨vs2, o7⟩⟩
    refine sv_nx ?_
    have r_rows_ := Rp.mono (x15.gg.trans mk107) r_rows_
    have r_spot_ := Rp.mono (x15.gg.trans mk107) r_spot_
    have sf := Same.new (o := .lst vs2) o7.g
    have xt := xt.frz hz6 o7.g o7.h
    have r112 := o7.tell
    have r_rows_ := Rp.mono sf r_rows_
    have r_spot_ := Rp.mono sf r_spot_
    exact sv_ret (K := K) (ev_at (ev_var rfl r112) (ev_var rfl r_spot_)) hm xt.gh fun v115 G116 H117 x118 r119 => q v115 G116 H117 (xt.trans x118) r119
  · rintro r' v' G' H' rfl rl
    cases hm
    exact q v' G' H' rl.1 rl.2
theorem ok_law_last_laid {f : Addr} {fd : FuncData} (F : Fun K "_law_last_laid" "_law_last_laid" s_law_last_laid f fd) (T : Txt mg) (D_book_of : DefOk P w K mg base "book_of" 98 ["some"] (spN K mm_book_of)) (D_unfolded : DefOk P w K mg base "unfolded" 1 ["rows", "spot"] (spM K mm_unfolded)) : FnOk P w K mg base CX0 99 f fd ["_law_told_here", "_law_rows"] (spM K mm_law_last_laid) := by
  refine F.ok sc_law_last_laid (fun vs H Q E h => (spM_len h).trans rfl) (fun cdv A outer s H0 vs Q E hr h => ?_)
  obtain ⟨G0, ⟨told_here_, ⟨rows_, ⟨⟩⟩⟩, res, sg0, ⟨v_told_here_, _, rfl, r_told_here_, ⟨v_rows_, _, rfl, r_rows_, rfl⟩⟩, hm, q⟩ := h
  replace r_told_here_ : Rp.rel K G0 v_told_here_ told_here_ := r_told_here_
  replace r_rows_ : Rp.rel K G0 v_rows_ rows_ := r_rows_
  replace hm : m_law_last_laid told_here_ rows_ = some res := hm
  unfold m_law_last_laid at hm
  have xt : Ext G0 H0 G0 H0 := Ext.refl sg0
  refine ⟨_, (pss_cons (ps_asg (pe_def D_book_of hr (by decide) rfl (pa_cons (pe_lst (pa_cons (pv 0) pa_nil)) pa_nil)) (pg_tup rfl (pgs_cons (pg_name (i := 2) sc_law_last_laid.nd rfl (Or.inl rfl)) (pgs_cons (pg_name (i := 3) sc_law_last_laid.nd rfl (Or.inl rfl)) pgs_nil))))
      (pss_cons (ps_ret (pe_and (pe_cmpR (op_eqK (K := K) rfl (List Int) hr (by decide)) (pv 3) (pe_lst (pa_cons (pe_op op_sub (pe_callB (call_lenK (K := K) rfl) (by rfl) T.len_ bt_len (pa_cons (pv 2) pa_nil)) pe_int) pa_nil)) (nomark _)) (pe_and (pe_cmpR op_leU (pe_callB (call_lenK (K := K) rfl) (by rfl) T.len_ bt_len (pa_cons (pv 2) pa_nil)) (pe_callB (call_lenK (K := K) rfl) (by rfl) T.len_ bt_len (pa_cons (pv 1) pa_nil)) (nomark _)) (pe_one (pe_cmpR (op_eqN (K := K) rfl hr) (pe_def D_unfolded hr (by decide) rfl (pa_cons (pv 2) (pa_cons (pe_ix (ix_anyK (K := K) rfl) (pv 3) pe_int (fun _ _ => rfl)) pa_nil))) (pv 0) (nomark _))))))
      pss_nil)), ?_⟩
  obtain ⟨p2, h3, hm⟩ := Option.bind_eq_some_iff.mp hm
  refine sv_unpack (K := K) (NV.ev (nv_def1 (m := mm_book_of) (FV.ev (fv_lst (lv_cons (ev_var rfl r_told_here_) (lv_nil (α := Nt))))))) h3 xt.gh fun v7 v8 G4 H5 x6 r9 r10 => ?_
  have xt := xt.trans x6
  have r_told_here_ := Rp.mono x6.gg r_told_here_
  have r_rows_ := Rp.mono x6.gg r_rows_
  exact sv_ret (K := K) (ev_and (ev_eq (ev_var rfl r10) (FV.ev (fv_lst (lv_cons (ev_sub (ev_len (ev_var rfl r9)) ev_i) (lv_nil (α := Int)))))) (ev_and (ev_ord (ev_len (ev_var rfl r9)) (ev_len (ev_var rfl r_rows_))) (ev_eqN (ev_def2 (m := mm_unfolded) (ev_var rfl r9) (ev_at (ev_var rfl r10) ev_i)) (ev_var rfl r_told_here_)))) hm xt.gh fun v19 G20 H21 x22 r23 => q v19 G20 H21 (xt.trans x22) r23
theorem ok_law {f : Addr} {fd : FuncData} (F : Fun K "law" "law" s_law f fd) (T : Txt mg) (D_law_cell_at : DefOk P w K mg base "_law_cell_at" 1 ["_law_script", "_law_k"] (spM K mm_law_cell_at)) (D_law_book : DefOk P w K mg base "_law_book" 3 ["_law_numbers_here", "_law_most"] (spM K mm_law_book)) (D_book_of : DefOk P w K mg base "book_of" 98 ["some"] (spN K mm_book_of)) (D_law_numbers : DefOk P w K mg base "_law_numbers" 2 ["_law_script"] (spM K mm_law_numbers)) (D_unfolded : DefOk P w K mg base "unfolded" 1 ["rows", "spot"] (spM K mm_unfolded)) (D_law_last_laid : DefOk P w K mg base "_law_last_laid" 99 ["_law_told_here", "_law_rows"] (spM K mm_law_last_laid)) : FnOk P w K mg base CX0 100 f fd ["_law_script"] (spM K mm_law) := by
  refine F.ok sc_law (fun vs H Q E h => (spM_len h).trans rfl) (fun cdv A outer s H0 vs Q E hr h => ?_)
  obtain ⟨G0, ⟨script_, ⟨⟩⟩, res, sg0, ⟨v_script_, _, rfl, r_script_, rfl⟩, hm, q⟩ := h
  replace r_script_ : Rp.rel K G0 v_script_ script_ := r_script_
  replace hm : m_law script_ = some res := hm
  unfold m_law at hm
  have xt : Ext G0 H0 G0 H0 := Ext.refl sg0
  refine ⟨_, (pss_cons (ps_set (i := 1) sc_law.nd rfl (Or.inl rfl) (pe_def D_law_cell_at hr (by decide) rfl (pa_cons (pv 0) (pa_cons pe_int pa_nil))))
      (pss_cons (ps_set (i := 2) sc_law.nd rfl (Or.inl rfl) (pe_op (op_mulK (K := K) rfl) (pe_op op_mod (pv 1) pe_int) (pe_op op_mod (pe_op op_fdiv (pv 1) pe_int) pe_int)))
      (pss_cons (ps_asg (pe_def D_law_book hr (by decide) rfl (pa_cons (pe_def D_law_numbers hr (by decide) rfl (pa_cons (pv 0) pa_nil)) (pa_cons (pe_ix (ix_bool (K := K) rfl) (pe_lst (pa_cons pe_int (pa_cons pe_int pa_nil))) (pe_cmpR op_eq (pv 2) pe_int (nomark _)) (fun _ _ => rfl)) pa_nil))) (pg_tup rfl (pgs_cons (pg_name (i := 3) sc_law.nd rfl (Or.inl rfl)) (pgs_cons (pg_name (i := 4) sc_law.nd rfl (Or.inl rfl)) pgs_nil))))
      (pss_cons (ps_set (i := 5) sc_law.nd rfl (Or.inl rfl) (pe_callTy (call_listK (K := K) rfl) (by rfl) T.list_ bt_list (pa_cons (pv 3) pa_nil)))
      (pss_cons (ps_set (i := 6) sc_law.nd rfl (Or.inl rfl) (pe_callTy (call_lstR rfl) (by rfl) T.list_ bt_list (pa_cons (pe_callTy call_rng1 (by rfl) T.range_ boot_range (pa_cons (pe_callB (call_lenK (K := K) rfl) (by rfl) T.len_ bt_len (pa_cons (pv 3) pa_nil)) pa_nil)) pa_nil)))
      (pss_cons (ps_if (pt_cmpR op_eq (pe_op op_mod (pe_op op_fdiv (pv 1) pe_int) pe_int) pe_int (nomark _)) (pss_cons (ps_set (i := 6) sc_law.nd rfl (Or.inl rfl) (pe_listRev (K := K) rfl rfl (by rfl) T.list_ (by rfl) T.reversed_ (pa_cons (pv 6) pa_nil)))
      pss_nil) pss_nil)
      (pss_cons (ps_for PassesOwn.never rfl (pi_anyK (K := K) rfl (pv 6)) (pg_name (i := 7) sc_law.nd rfl (Or.inl rfl)) (pss_cons (ps_set (i := 8) sc_law.nd rfl (Or.inl rfl) (pe_def D_unfolded hr (by decide) rfl (pa_cons (pv 5) (pa_cons (pv 7) pa_nil))))
      (pss_cons (ps_if (PW.pt (pw_or (pt_not (pt_truthK (K := K) rfl (pe_callB (call_instK (K := K) rfl) (by rfl) T.isinstance_ bt_isinstance (pa_cons (pv 8) (pa_cons (pe_bltn (v := .ty "tuple") rfl T.tuple_ bt_tuple rfl) pa_nil))) (fun _ => rfl))) (pw_or1 (pt_cmpR (op_neN (K := K) rfl hr) (pv 8) (pe_ix (ix_anyK (K := K) rfl) (pv 4) (pv 7) (fun _ _ => rfl)) (nomark _))))) (pss_cons (ps_ret pe_bl)
      pss_nil) pss_nil)
      pss_nil)))
      (pss_cons (ps_if (pt_cmpR op_eq (pv 2) pe_int (nomark _)) (pss_cons (ps_ret (pe_and (pe_cmpR (op_eqN (K := K) rfl hr) (pe_def D_unfolded hr (by decide) rfl (pa_cons (pv 3) (pa_cons (pe_op op_sub (pe_callB (call_lenK (K := K) rfl) (by rfl) T.len_ bt_len (pa_cons (pv 3) pa_nil)) pe_int) pa_nil))) (pe_ix (ix_anyK (K := K) rfl) (pv 4) (pe_un un_neg pe_int) (fun _ _ => rfl)) (nomark _)) (pe_one (pe_def D_law_last_laid hr (by decide) rfl (pa_cons (pe_ix (ix_anyK (K := K) rfl) (pv 4) (pe_un un_neg pe_int) (fun _ _ => rfl)) (pa_cons (pv 3) pa_nil))))))
      pss_nil) pss_nil)
      (pss_cons (ps_set (i := 9) sc_law.nd rfl (Or.inl rfl) (pe_def D_book_of hr (by decide) rfl (pa_cons (pe_callTy (call_listK (K := K) rfl) (by rfl) T.list_ bt_list (pa_cons (pv 4) pa_nil)) pa_nil)))
      (pss_cons (ps_if (PW.pt (pw_or (pt_not (pt_truthK (K := K) rfl (pe_callB (call_instK (K := K) rfl) (by rfl) T.isinstance_ bt_isinstance (pa_cons (pv 9) (pa_cons (pe_bltn (v := .ty "tuple") rfl T.tuple_ bt_tuple rfl) pa_nil))) (fun _ => rfl))) (pw_or (pt_cmpR op_ne (pe_callB (call_lenK (K := K) rfl) (by rfl) T.len_ bt_len (pa_cons (pv 9) pa_nil)) pe_int (nomark _)) (pw_or1 (pt_cmpR (op_neK (K := K) rfl (List Rk) hr (by decide)) (pv 5) (pv 3) (nomark _)))))) (pss_cons (ps_ret pe_bl)
      pss_nil) pss_nil)
      (pss_cons (ps_if (PW.pt (pw_or (pt_not (pt_truthK (K := K) rfl (pe_callB (call_instK (K := K) rfl) (by rfl) T.isinstance_ bt_isinstance (pa_cons (pe_ix (ix_anyK (K := K) rfl) (pv 9) pe_int (fun _ _ => rfl)) (pa_cons (pe_bltn (v := .ty "list") rfl T.list_ bt_list rfl) pa_nil))) (fun _ => rfl))) (pw_or1 (pt_not (pt_truthK (K := K) rfl (pe_callB (call_instK (K := K) rfl) (by rfl) T.isinstance_ bt_isinstance (pa_cons (pe_ix (ix_anyK (K := K) rfl) (pv 9) pe_int (fun _ _ => rfl)) (pa_cons (pe_bltn (v := .ty "list") rfl T.list_ bt_list rfl) pa_nil))) (fun _ => rfl)))))) (pss_cons (ps_ret pe_bl)
      pss_nil) pss_nil)
      (pss_cons (ps_if (PW.pt (pw_or (pt_cmpR (op_neK (K := K) rfl (List Rk) hr (by decide)) (pe_ix (ix_anyK (K := K) rfl) (pv 9) pe_int (fun _ _ => rfl)) (pv 3) (nomark _)) (pw_or1 (pt_cmpR (op_neK (K := K) rfl (List Int) hr (by decide)) (pe_ix (ix_anyK (K := K) rfl) (pv 9) pe_int (fun _ _ => rfl)) (pe_callTy (call_lstR rfl) (by rfl) T.list_ bt_list (pa_cons (pe_callTy call_rng1 (by rfl) T.range_ boot_range (pa_cons (pe_callB (call_lenK (K := K) rfl) (by rfl) T.len_ bt_len (pa_cons (pv 3) pa_nil)) pa_nil)) pa_nil)) (nomark _))))) (pss_cons (ps_ret pe_bl)
      pss_nil) pss_nil)
      (pss_cons (ps_if (pt_cmpR op_eq (pe_callB (call_lenK (K := K) rfl) (by rfl) T.len_ bt_len (pa_cons (pv 3) pa_nil)) pe_int (nomark _)) (pss_cons (ps_ret pe_bl)
      pss_nil) pss_nil)
      (pss_cons (ps_set (i := 10) sc_law.nd rfl (Or.inl rfl) (pe_op op_mod (pe_def D_law_cell_at hr (by decide) rfl (pa_cons (pv 0) (pa_cons pe_int pa_nil))) (pe_callB (call_lenK (K := K) rfl) (by rfl) T.len_ bt_len (pa_cons (pv 3) pa_nil))))
      (pss_cons (ps_set (i := 11) sc_law.nd rfl (Or.inl rfl) (pe_slice (sl_anyK (K := K) rfl) (pv 3) po_none (po_some (pe_op (op_plusK (K := K) rfl) (pv 10) pe_int))))
      (pss_cons (ps_ret (pe_and (pe_cmpR (op_eqN (K := K) rfl hr) (pe_def D_unfolded hr (by decide) rfl (pa_cons (pv 11) (pa_cons (pv 10) pa_nil))) (pe_ix (ix_anyK (K := K) rfl) (pv 4) (pv 10) (fun _ _ => rfl)) (nomark _)) (pe_one (pe_cmpR (op_eqK (K := K) rfl (List Rk) hr (by decide)) (pe_ix (ix_anyK (K := K) rfl) (pe_def D_book_of hr (by decide) rfl (pa_cons (pe_slice (sl_anyK (K := K) rfl) (pv 4) po_none (po_some (pe_op (op_plusK (K := K) rfl) (pv 10) pe_int))) pa_nil)) pe_int (fun _ _ => rfl)) (pv 11) (nomark _)))))
      pss_nil)))))))))))))))), ?_⟩
  obtain ⟨cell_, h8, hm⟩ := Option.bind_eq_some_iff.mp hm
  refine sv_set (K := K) (ev_def2 (m := mm_law_cell_at) (ev_var rfl r_script_) ev_i) h8 xt.gh fun v3 G4 H5 x6 r7 => ?_
  have xt := xt.trans x6
  have r_script_ := Rp.mono x6.gg r_script_
  obtain ⟨many_, h16, hm⟩ := Option.bind_eq_some_iff.mp hm
  refine sv_set (K := K) (ev_mul (ev_modR (ev_var rfl r7)) (ev_modR (ev_divR (ev_var rfl r7)))) h16 xt.gh fun v11 G12 H13 x14 r15 => ?_
  have xt := xt.trans x14
  have r_script_ := Rp.mono x14.gg r_script_
  have r7 := Rp.mono x14.gg r7
  obtain ⟨p22, h23, hm⟩ := Option.bind_eq_some_iff.mp hm
  refine sv_unpack (K := K) (ev_def2 (m := mm_law_book) (ev_def1 (m := mm_law_numbers) (ev_var rfl r_script_)) (ev_atB (FV.ev (fv_lst (lv_cons ev_i (lv_cons ev_i (lv_nil (α := Int)))))) (ev_eqI (ev_var rfl r15) ev_i))) h23 xt.gh fun v27 v28 G24 H25 x26 r29 r30 => ?_
  have xt := xt.trans x26
  have r_script_ := Rp.mono x26.gg r_script_
  have r7 := Rp.mono x26.gg r7
  have r15 := Rp.mono x26.gg r15
  obtain ⟨handed_, h36, hm⟩ := Option.bind_eq_some_iff.mp hm
  refine sv_set (K := K) (FV.ev (fv_list (ev_var rfl r29))) h36 xt.gh fun v31 G32 H33 x34 r35 => ?_
  have xt := xt.trans x34
  have r_script_ := Rp.mono x34.gg r_script_
  have r7 := Rp.mono x34.gg r7
  have r15 := Rp.mono x34.gg r15
  have r29 := Rp.mono x34.gg r29
  have r30 := Rp.mono x34.gg r30
  obtain ⟨spots_, h43, hm⟩ := Option.bind_eq_some_iff.mp hm
  refine sv_set (K := K) (FV.ev (fv_lstR1 (ev_len (ev_var rfl r29)))) h43 xt.gh fun v38 G39 H40 x41 r42 => ?_
  have xt := xt.trans x41
  have r_script_ := Rp.mono x41.gg r_script_
  have r7 := Rp.mono x41.gg r7
  have r15 := Rp.mono x41.gg r15
  have r29 := Rp.mono x41.gg r29
  have r30 := Rp.mono x41.gg r30
  have r35 := Rp.mono x41.gg r35
  obtain ⟨b44, h45, hm⟩ := Option.bind_eq_some_iff.mp hm
  obtain ⟨s49, h50, hm⟩ := Option.bind_eq_some_iff.mp hm
  refine sv_join (fun S63 H62 => ∃ (G61 : Hp) (v52 : V), Ext G0 H0 G61 H62 ∧ Same G39 G61 ∧ S63 = [some v_script_, some v3, some v11, some v27, some v28, some v31, some v52, none, none, none, none, none] ∧ Rp.rel K G61 v52 (s49 : (List Int))) (fun nx kn54 => ?_) ?_
  · refine sv_if (tv_test (K := K) (ev_eqI (ev_modR (ev_divR (ev_var rfl r7))) ev_i)) h45 xt.gh fun G46 H47 x48 => ?_
    have xt := xt.trans x48
    have r_script_ := Rp.mono x48.gg r_script_
    have r7 := Rp.mono x48.gg r7
    have r15 := Rp.mono x48.gg r15
    have r29 := Rp.mono x48.gg r29
    have r30 := Rp.mono x48.gg r30
    have r35 := Rp.mono x48.gg r35
    have r42 := Rp.mono x48.gg r42
    have mk51 : Same G39 G46 := x48.gg
    have hm := h50
    cases b44 with
    | true =>
      replace hm := cT hm
      refine iteT ?_
      obtain ⟨spots_, h60, hm⟩ := Option.bind_eq_some_iff.mp hm
      refine sv_set (K := K) (FV.ev (fv_listRev (ev_var rfl r42))) h60 xt.gh fun v55 G56 H57 x58 r59 => ?_
      have xt := xt.trans x58
      have mk51 := mk51.trans x58.gg
      have r_script_ := Rp.mono x58.gg r_script_
      have r7 := Rp.mono x58.gg r7
      have r15 := Rp.mono x58.gg r15
      have r29 := Rp.mono x58.gg r29
      have r30 := Rp.mono x58.gg r30
      have r35 := Rp.mono x58.gg r35
      have r42 := Rp.mono x58.gg r42
      cases hm
      exact kn54 _ _ ⟨G56, v55, xt, mk51, rfl, r59⟩
    | false =>
      replace hm := cF hm
      refine iteF ?_
      cases hm
      exact kn54 _ _ ⟨G46, v38, xt, mk51, rfl, r42⟩
  · rintro _ H62 ⟨G61, v52, xt, mk51, rfl, r53⟩
    have r_script_ := Rp.mono mk51 r_script_
    have r7 := Rp.mono mk51 r7
    have r15 := Rp.mono mk51 r15
    have r29 := Rp.mono mk51 r29
    have r30 := Rp.mono mk51 r30
    have r35 := Rp.mono mk51 r35
    obtain ⟨as64, h65, hm⟩ := Option.bind_eq_some_iff.mp hm
    obtain ⟨fl66, h67, hm⟩ := Option.bind_eq_some_iff.mp hm
    refine sv_for (K := K) (RR := fun r v G' H' => Ext G0 H0 G' H' ∧ Rp.rel K G' v r) (iw_list (ev_var rfl r53)) h65 h67 xt.gh fun G68 H69 x70 => ⟨fun s71 S' G' H' => ∃ (v72 : Option V) (v73 : Option V), Ext G0 H0 G' H' ∧ Same G68 G' ∧ S' = [some v_script_, some v3, some v11, some v27, some v28, some v31, some v52, v72, v73, none, none, none], ?_, ?_, ?_, ?_, ?_⟩
    · have xt := xt.trans x70
      have r_script_ := Rp.mono x70.gg r_script_
      have r7 := Rp.mono x70.gg r7
      have r15 := Rp.mono x70.gg r15
      have r29 := Rp.mono x70.gg r29
      have r30 := Rp.mono x70.gg r30
      have r35 := Rp.mono x70.gg r35
      have r53 := Rp.mono x70.gg r53
      exact ⟨_, _, xt, (Same.refl _), rfl⟩
    · rintro _ S' G' H' ⟨v72, v73, xt, mk74, rfl⟩
      exact ⟨mk74, xt.gh⟩
    · rintro xv75 a76 s71 _ G79 H80 fl77 - ⟨v72, v73, xt, mk74, rfl⟩ rx78 hm D' kN81 kC82 kB83 kR84
      have r_script_ := Rp.mono (x70.gg.trans mk74) r_script_
      have r7 := Rp.mono (x70.gg.trans mk74) r7
      have r15 := Rp.mono (x70.gg.trans mk74) r15
      have r29 := Rp.mono (x70.gg.trans mk74) r29
      have r30 := Rp.mono (x70.gg.trans mk74) r30
      have r35 := Rp.mono (x70.gg.trans mk74) r35
      have r53 := Rp.mono (x70.gg.trans mk74) r53
      refine sv_turn ?_
      obtain ⟨one_, h92, hm⟩ := Option.bind_eq_some_iff.mp hm
      refine sv_set (K := K) (ev_def2 (m := mm_unfolded) (ev_var rfl r35) (ev_var rfl rx78)) h92 xt.gh fun v87 G88 H89 x90 r91 => ?_
      have xt := xt.trans x90
      have mk74 := mk74.trans x90.gg
      have r_script_ := Rp.mono x90.gg r_script_
      have r7 := Rp.mono x90.gg r7
      have r15 := Rp.mono x90.gg r15
      have r29 := Rp.mono x90.gg r29
      have r30 := Rp.mono x90.gg r30
      have r35 := Rp.mono x90.gg r35
      have r53 := Rp.mono x90.gg r53
      have rx78 := Rp.mono x90.gg rx78
      obtain ⟨b100, h101, hm⟩ := Option.bind_eq_some_iff.mp hm
      refine sv_if (tv_or (tv_not (tv_b (K := K) (ev_instD (by decide) (ev_toD (ev_var rfl r91))))) (tv_test (K := K) (ev_neN (ev_var rfl r91) (ev_at (ev_var rfl r30) (ev_var rfl rx78))))) h101 xt.gh fun G102 H103 x104 => ?_
      have xt := xt.trans x104
      have mk74 := mk74.trans x104.gg
      have r_script_ := Rp.mono x104.gg r_script_
      have r7 := Rp.mono x104.gg r7
      have r15 := Rp.mono x104.gg r15
      have r29 := Rp.mono x104.gg r29
      have r30 := Rp.mono x104.gg r30
      have r35 := Rp.mono x104.gg r35
      have r53 := Rp.mono x104.gg r53
      have rx78 := Rp.mono x104.gg rx78
      have r91 := Rp.mono x104.gg r91
      cases b100 with
      | true =>
        replace hm := cT hm
        refine iteT ?_
        obtain ⟨rr110, h111, hm⟩ := Option.bind_eq_some_iff.mp hm
        cases hm
        exact sv_ret (K := K) (rest := tNext) (σ := [some v_script_, some v3, some v11, some v27, some v28, some v31, some v52, some xv75, some v87, none, none, none]) ev_b h111 xt.gh fun v105 G106 H107 x108 r109 => kR84 _ v105 G106 H107 rfl ⟨xt.trans x108, r109⟩
      | false =>
        replace hm := cF hm
        refine iteF ?_
        cases hm
        exact kN81 _ _ _ _ rfl ⟨_, _, xt, mk74, rfl⟩
    · rintro s71 _ G115 H116 rfl ⟨v112, v113, xt, mk114, rfl⟩
      refine sv_nx ?_
      have r_script_ := Rp.mono (x70.gg.trans mk114) r_script_
      have r7 := Rp.mono (x70.gg.trans mk114) r7
      have r15 := Rp.mono (x70.gg.trans mk114) r15
      have r29 := Rp.mono (x70.gg.trans mk114) r29
      have r30 := Rp.mono (x70.gg.trans mk114) r30
      have r35 := Rp.mono (x70.gg.trans mk114) r35
      have r53 := Rp.mono (x70.gg.trans mk114) r53
      obtain ⟨b117, h118, hm⟩ := Option.bind_eq_some_iff.mp hm
      refine sv_if (tv_test (K := K) (ev_eqI (ev_var rfl r15) ev_i)) h118 xt.gh fun G119 H120 x121 => ?_
      have xt := xt.trans x121
      have r_script_ := Rp.mono x121.gg r_script_
      have r7 := Rp.mono x121.gg r7
      have r15 := Rp.mono x121.gg r15
      have r29 := Rp.mono x121.gg r29
      have r30 := Rp.mono x121.gg r30
      have r35 := Rp.mono x121.gg r35
      have r53 := Rp.mono x121.gg r53
      cases b117 with
      | true =>
        replace hm := cT hm
        refine iteT ?_
        exact sv_ret (K := K) (ev_and (ev_eqN (ev_def2 (m := mm_unfolded) (ev_var rfl r29) (ev_sub (ev_len (ev_var rfl r29)) ev_i)) (ev_at (ev_var rfl r30) (ev_neg ev_i))) (ev_def2 (m := mm_law_last_laid) (ev_at (ev_var rfl r30) (ev_neg ev_i)) (ev_var rfl r29))) hm xt.gh fun v135 G136 H137 x138 r139 => q v135 G136 H137 (xt.trans x138) r139
      | false =>
        replace hm := cF hm
        refine iteF ?_
        obtain ⟨book_here_, h146, hm⟩ := Option.bind_eq_some_iff.mp hm
        refine sv_set (K := K) (NV.ev (nv_def1 (m := mm_book_of) (FV.ev (fv_list (ev_var rfl r30))))) h146 xt.gh fun v141 G142 H143 x144 r145 => ?_
        have xt := xt.trans x144
        have r_script_ := Rp.mono x144.gg r_script_
        have r7 := Rp.mono x144.gg r7
        have r15 := Rp.mono x144.gg r15
        have r29 := Rp.mono x144.gg r29
        have r30 := Rp.mono x144.gg r30
        have r35 := Rp.mono x144.gg r35
        have r53 := Rp.mono x144.gg r53
        obtain ⟨b147, h148, hm⟩ := Option.bind_eq_some_iff.mp hm
        refine sv_if (tv_orP (tv_not (tv_b (K := K) (ev_inst (b := true) (by decide +kernel) (ev_var rfl r145)))) (tv_orP (tv_test (K := K) (ev_neI (ev_len2 (ev_var rfl r145)) ev_i)) (tv_test (K := K) (ev_ne (ev_var rfl r35) (ev_var rfl r29))))) h148 xt.gh fun G149 H150 x151 => ?_
        have xt := xt.trans x151
        have r_script_ := Rp.mono x151.gg r_script_
        have r7 := Rp.mono x151.gg r7
        have r15 := Rp.mono x151.gg r15
        have r29 := Rp.mono x151.gg r29
        have r30 := Rp.mono x151.gg r30
        have r35 := Rp.mono x151.gg r35
        have r53 := Rp.mono x151.gg r53
        have r145 := Rp.mono x151.gg r145
        cases b147 with
        | true =>
          replace hm := cT hm
          refine iteT ?_
          exact sv_ret (K := K) (rest := tNext) (σ := [some v_script_, some v3, some v11, some v27, some v28, some v31, some v52, v112, v113, some v141, none, none]) ev_b hm xt.gh fun v152 G153 H154 x155 r156 => q v152 G153 H154 (xt.trans x155) r156
        | false =>
          replace hm := cF hm
          refine iteF ?_
          obtain ⟨b157, h158, hm⟩ := Option.bind_eq_some_iff.mp hm
          refine sv_if (tv_orP (tv_not (tv_b (K := K) (ev_inst (b := true) (by decide +kernel) (ev_fst (ev_var rfl r145))))) (tv_not (tv_b (K := K) (ev_inst (b := true) (by decide +kernel) (ev_snd (ev_var rfl r145)))))) h158 xt.gh fun G159 H160 x161 => ?_
          have xt := xt.trans x161
          have r_script_ := Rp.mono x161.gg r_script_
          have r7 := Rp.mono x161.gg r7
          have r15 := Rp.mono x161.gg r15
          have r29 := Rp.mono x161.gg r29
          have r30 := Rp.mono x161.gg r30
          have r35 := Rp.mono x161.gg r35
          have r53 := Rp.mono x161.gg r53
          have r145 := Rp.mono x161.gg r145
          cases b157 with
          | true =>
            replace hm := cT hm
            refine iteT ?_
            exact sv_ret (K := K) (rest := tNext) (σ := [some v_script_, some v3, some v11, some v27, some v28, some v31, some v52, v112, v113, some v141, none, none]) ev_b hm xt.gh fun v162 G163 H164 x165 r166 => q v162 G163 H164 (xt.trans x165) r166
          | false =>
            replace hm := cF hm
            refine iteF ?_
            obtain ⟨b172, h173, hm⟩ := Option.bind_eq_some_iff.mp hm
            refine sv_if (tv_or (tv_test (K := K) (ev_ne (ev_fst (ev_var rfl r145)) (ev_var rfl r29))) (tv_test (K := K) (ev_ne (ev_snd (ev_var rfl r145)) (FV.ev (fv_lstR1 (ev_len (ev_var rfl r29))))))) h173 xt.gh fun G174 H175 x176 => ?_
            have xt := xt.trans x176
            have r_script_ := Rp.mono x176.gg r_script_
            have r7 := Rp.mono x176.gg r7
            have r15 := Rp.mono x176.gg r15
            have r29 := Rp.mono x176.gg r29
            have r30 := Rp.mono x176.gg r30
            have r35 := Rp.mono x176.gg r35
            have r53 := Rp.mono x176.gg r53
            have r145 := Rp.mono x176.gg r145
            cases b172 with
            | true =>
              replace hm := cT hm
              refine iteT ?_
              exact sv_ret (K := K) (rest := tNext) (σ := [some v_script_, some v3, some v11, some v27, some v28, some v31, some v52, v112, v113, some v141, none, none]) ev_b hm xt.gh fun v177 G178 H179 x180 r181 => q v177 G178 H179 (xt.trans x180) r181
            | false =>
              replace hm := cF hm
              refine iteF ?_
              obtain ⟨b182, h183, hm⟩ := Option.bind_eq_some_iff.mp hm
              refine sv_if (tv_test (K := K) (ev_eqI (ev_len (ev_var rfl r29)) ev_i)) h183 xt.gh fun G184 H185 x186 => ?_
              have xt := xt.trans x186
              have r_script_ := Rp.mono x186.gg r_script_
              have r7 := Rp.mono x186.gg r7
              have r15 := Rp.mono x186.gg r15
              have r29 := Rp.mono x186.gg r29
              have r30 := Rp.mono x186.gg r30
              have r35 := Rp.mono x186.gg r35
              have r53 := Rp.mono x186.gg r53
              have r145 := Rp.mono x186.gg r145
              cases b182 with
              | true =>
                replace hm := cT hm
                refine iteT ?_
                exact sv_ret (K := K) (rest := tNext) (σ := [some v_script_, some v3, some v11, some v27, some v28, some v31, some v52, v112, v113, some v141, none, none]) ev_b hm xt.gh fun v187 G188 H189 x190 r191 => q v187 G188 H189 (xt.trans x190) r191
              | false =>
                replace hm := cF hm
                refine iteF ?_
                obtain ⟨at_, h201, hm⟩ := Option.bind_eq_some_iff.mp hm
                refine sv_set (K := K) (ev_mod (ev_def2 (m := mm_law_cell_at) (ev_var rfl r_script_) ev_i) (ev_len (ev_var rfl r29))) h201 xt.gh fun v196 G197 H198 x199 r200 => ?_
                have xt := xt.trans x199
                have r_script_ := Rp.mono x199.gg r_script_
                have r7 := Rp.mono x199.gg r7
                have r15 := Rp.mono x199.gg r15
                have r29 := Rp.mono x199.gg r29
                have r30 := Rp.mono x199.gg r30
                have r35 := Rp.mono x199.gg r35
                have r53 := Rp.mono x199.gg r53
                have r145 := Rp.mono x199.gg r145
                obtain ⟨shorter_, h207, hm⟩ := Option.bind_eq_some_iff.mp hm
                refine sv_set (K := K) (FV.ev (fv_slice (ev_var rfl r29) ov_none (ov_some (K := K) (ev_add (ev_var rfl r200) ev_i)))) h207 xt.gh fun v202 G203 H204 x205 r206 => ?_
                have xt := xt.trans x205
                have r_script_ := Rp.mono x205.gg r_script_
                have r7 := Rp.mono x205.gg r7
                have r15 := Rp.mono x205.gg r15
                have r29 := Rp.mono x205.gg r29
                have r30 := Rp.mono x205.gg r30
                have r35 := Rp.mono x205.gg r35
                have r53 := Rp.mono x205.gg r53
                have r145 := Rp.mono x205.gg r145
                have r200 := Rp.mono x205.gg r200
                exact sv_ret (K := K) (ev_and (ev_eqN (ev_def2 (m := mm_unfolded) (ev_var rfl r206) (ev_var rfl r200)) (ev_at (ev_var rfl r30) (ev_var rfl r200))) (ev_eq (ev_fst (NV.ev (nv_def1 (m := mm_book_of) (FV.ev (fv_slice (ev_var rfl r30) ov_none (ov_some (K := K) (ev_add (ev_var rfl r200) ev_i))))))) (ev_var rfl r206))) hm xt.gh fun v220 G221 H222 x223 r224 => q v220 G221 H222 (xt.trans x223) r224
    · rintro r' v' G' H' rfl rl
      cases hm
      exact q v' G' H' rl.1 rl.2
end
end My
set_option Elab.async false
set_option linter.all false
set_option maxRecDepth 100000
set_option maxHeartbeats 4000000
namespace My
open PySem PySem.Spec PyProof.Rows L2
inductive Fm where
  | yes
  | lamp (c : Str)
  | neg (a : Fm)
  | next (a : Fm)
  | and (a b : Fm)
  | unt (a b : Fm)
def Fm.nt : Fm → Nt
  | .yes => .tup [.txt "yes"]
  | .lamp c => .tup [.txt "lamp", .txt c]
  | .neg a => .tup [.txt "not", a.nt]
  | .next a => .tup [.txt "next", a.nt]
  | .and a b => .tup [.txt "and", a.nt, b.nt]
  | .unt a b => .tup [.txt "until", a.nt, b.nt]
def Fm.size : Fm → Nat
  | .yes => 1
  | .lamp _ => 1
  | .neg a => a.size + 1
  | .next a => a.size + 1
  | .and a b => a.size + b.size + 1
  | .unt a b => a.size + b.size + 1
def Fm.dep : Fm → Nat
  | .yes => 1
  | .lamp _ => 1
  | .neg a => a.dep + 1
  | .next a => a.dep + 1
  | .and a b => max a.dep b.dep + 1
  | .unt a b => max a.dep b.dep + 1
theorem at0 (w : Str) (l : List Nt) : atI (Nt.txt w :: l) (0 : Int) = some (Nt.txt w) := atI_nat (j := 0) rfl
theorem at_n0 (x : Nt) (l : List Nt) : atI (x :: l) (0 : Int) = some x := atI_nat (j := 0) rfl
theorem cut_tailA {α : Type} (a : α) (l : List α) : cutT? (a :: l) (some 1) none = some ⟨l⟩ := by
  have h1 : HT.sIx (a :: l).length 0 (some (1 : Int)) = 1 := by
    unfold HT.sIx
    simp
    try omega
  have h2 : HT.sIx (a :: l).length (a :: l).length none = (a :: l).length := rfl
  unfold cutT?
  rw [if_pos (by rw [h1]; exact fun z => absurd z.1 (by decide))]
  unfold cutA
  rw [h1, h2]
  simp
theorem parts_other {w : Str} {l : List Nt} (hw : w ≠ "lamp") : m_parts_of (.tup (.txt w :: l)) = some ⟨l⟩ := by
  unfold m_parts_of
  simp only [Option.bind_assoc, bindS, bind_self, asTup, at_n0, asTxt, decide_eq_false hw, cond_false, cut_tailA]
theorem Fm.dep_pos (a : Fm) : 1 ≤ a.dep := by cases a <;> simp only [Fm.dep] <;> omega
theorem nt_dep : ∀ a : Fm, a.nt.dep = a.dep
  | .yes => rfl
  | .lamp c => rfl
  | .neg a => by simp only [Fm.nt, Nt.dep, Nt.deps, Fm.dep, nt_dep a]; omega
  | .next a => by simp only [Fm.nt, Nt.dep, Nt.deps, Fm.dep, nt_dep a]; omega
  | .and a b => by simp only [Fm.nt, Nt.dep, Nt.deps, Fm.dep, nt_dep a, nt_dep b]; omega
  | .unt a b => by simp only [Fm.nt, Nt.dep, Nt.deps, Fm.dep, nt_dep a, nt_dep b]; omega
def Fm.sub : Fm → List Fm
  | .yes => [.yes]
  | .lamp c => [.lamp c]
  | .neg a => .neg a :: a.sub
  | .next a => .next a :: a.sub
  | .and a b => .and a b :: (a.sub ++ b.sub)
  | .unt a b => .unt a b :: (a.sub ++ b.sub)
theorem sub_size : ∀ {f g : Fm}, g ∈ f.sub → g.size ≤ f.size
  | .yes, g, h => by rw [List.mem_singleton.mp h]; exact Nat.le_refl _
  | .lamp _, g, h => by rw [List.mem_singleton.mp h]; exact Nat.le_refl _
  | .neg a, g, h => by
    rcases List.mem_cons.mp h with e | h
    · rw [e]; exact Nat.le_refl _
    · have := sub_size h; simp only [Fm.size]; omega
  | .next a, g, h => by
    rcases List.mem_cons.mp h with e | h
    · rw [e]; exact Nat.le_refl _
    · have := sub_size h; simp only [Fm.size]; omega
  | .and a b, g, h => by
    rcases List.mem_cons.mp h with e | h
    · rw [e]; exact Nat.le_refl _
    · rcases List.mem_append.mp h with h | h <;> (have := sub_size h; simp only [Fm.size]; omega)
  | .unt a b, g, h => by
    rcases List.mem_cons.mp h with e | h
    · rw [e]; exact Nat.le_refl _
    · rcases List.mem_append.mp h with h | h <;> (have := sub_size h; simp only [Fm.size]; omega)
theorem sub_self (f : Fm) : f ∈ f.sub := by cases f <;> simp [Fm.sub]
theorem w1 : ("not" : Str) ≠ "next" := by decide +kernel
theorem w2 : ("and" : Str) ≠ "until" := by decide +kernel
def R1 (fs : List Fm) (k : Nat) (r : Tp SI) : Fm → Prop
  | .yes => r = ⟨[.s "yes"]⟩
  | .lamp c => r = ⟨[.s "lamp", .s c]⟩
  | .neg a => ∃ i : Nat, i < k ∧ fs[i]? = some a ∧ r = ⟨[.s "not", .i (i : Int)]⟩
  | .next a => ∃ i : Nat, i < k ∧ fs[i]? = some a ∧ r = ⟨[.s "next", .i (i : Int)]⟩
  | .and a b => ∃ i j : Nat, i < k ∧ j < k ∧ fs[i]? = some a ∧ fs[j]? = some b ∧ r = ⟨[.s "and", .i (i : Int), .i (j : Int)]⟩
  | .unt a b => ∃ i j : Nat, i < k ∧ j < k ∧ fs[i]? = some a ∧ fs[j]? = some b ∧ r = ⟨[.s "until", .i (i : Int), .i (j : Int)]⟩
def Dif (fs : List Fm) : Prop := ∀ (i j : Nat) (f : Fm), fs[i]? = some f → fs[j]? = some f → i = j
def Bk (L : List (Tp SI)) (fs : List Fm) : Prop := L.length = fs.length ∧ ∀ (k : Nat) (r : Tp SI) (f : Fm), L[k]? = some r → fs[k]? = some f → R1 fs k r f
theorem get_app {α : Type} {l m : List α} {k : Nat} {a : α} (h : l[k]? = some a) : (l ++ m)[k]? = some a := by
  rw [List.getElem?_append_left (List.getElem?_eq_some_iff.mp h).1]
  exact h
theorem get_lt {α : Type} {l : List α} {k : Nat} {a : α} (h : l[k]? = some a) : k < l.length := (List.getElem?_eq_some_iff.mp h).1
theorem R1.app {fs gs : List Fm} {k k' : Nat} {r : Tp SI} {f : Fm} (h : R1 fs k r f) (hk : k ≤ k') : R1 (fs ++ gs) k' r f := by
  cases f with
  | yes => exact h
  | lamp c => exact h
  | neg a => obtain ⟨i, h1, h2, e⟩ := h; exact ⟨i, by omega, get_app h2, e⟩
  | next a => obtain ⟨i, h1, h2, e⟩ := h; exact ⟨i, by omega, get_app h2, e⟩
  | and a b => obtain ⟨i, j, h1, h2, h3, h4, e⟩ := h; exact ⟨i, j, by omega, by omega, get_app h3, get_app h4, e⟩
  | unt a b => obtain ⟨i, j, h1, h2, h3, h4, e⟩ := h; exact ⟨i, j, by omega, by omega, get_app h3, get_app h4, e⟩
theorem row1_inj {w w' : Str} {i j : Nat} (e : (Tp.mk [SI.s w, SI.i (i : Int)]) = Tp.mk [SI.s w', SI.i (j : Int)]) : w = w' ∧ i = j := by
  have e1 := Tp.mk.inj e
  injection e1 with e2 e3
  injection e3 with e4 e5
  injection e4 with e4
  injection e2 with e2
  exact ⟨e2, by omega⟩
theorem row2_inj {w w' : Str} {i j i' j' : Nat} (e : (Tp.mk [SI.s w, SI.i (i : Int), SI.i (j : Int)]) = Tp.mk [SI.s w', SI.i (i' : Int), SI.i (j' : Int)]) : w = w' ∧ i = i' ∧ j = j' := by
  have e1 := Tp.mk.inj e
  injection e1 with e2 e3
  injection e3 with e4 e5
  injection e5 with e6 e7
  injection e6 with e6
  injection e4 with e4
  injection e2 with e2
  exact ⟨e2, by omega, by omega⟩
theorem R1.fn {fs : List Fm} {k k' : Nat} {r : Tp SI} {f f' : Fm} (h : R1 fs k r f) (h' : R1 fs k' r f') : f = f' := by
  cases f with
  | yes =>
    subst h
    cases f' with
    | yes => rfl
    | lamp c => cases (show (_ : Tp SI) = _ from h')
    | neg a => obtain ⟨i, _, _, e⟩ := h'; cases e
    | next a => obtain ⟨i, _, _, e⟩ := h'; cases e
    | and a b => obtain ⟨i, j, _, _, _, _, e⟩ := h'; cases e
    | unt a b => obtain ⟨i, j, _, _, _, _, e⟩ := h'; cases e
  | lamp c =>
    subst h
    cases f' with
    | yes => cases (show (_ : Tp SI) = _ from h')
    | lamp c' =>
      have e := (List.cons.inj (List.cons.inj (Tp.mk.inj (show (_ : Tp SI) = _ from h'))).2).1
      rw [SI.s.inj e]
    | neg a => obtain ⟨i, _, _, e⟩ := h'; have e := (List.cons.inj (List.cons.inj (Tp.mk.inj e)).2).1; cases e
    | next a => obtain ⟨i, _, _, e⟩ := h'; have e := (List.cons.inj (List.cons.inj (Tp.mk.inj e)).2).1; cases e
    | and a b => obtain ⟨i, j, _, _, _, _, e⟩ := h'; have e := (List.cons.inj (List.cons.inj (Tp.mk.inj e)).2).1; cases e
    | unt a b => obtain ⟨i, j, _, _, _, _, e⟩ := h'; have e := (List.cons.inj (List.cons.inj (Tp.mk.inj e)).2).1; cases e
  | neg a =>
    obtain ⟨i, _, hi, rfl⟩ := h
    cases f' with
    | yes => cases (show (_ : Tp SI) = _ from h')
    | lamp c => have e := (List.cons.inj (List.cons.inj (Tp.mk.inj (show (_ : Tp SI) = _ from h'))).2).1; cases e
    | neg a' => obtain ⟨j, _, hj, e⟩ := h'; rw [(row1_inj e).2, hj] at hi; rw [Option.some.inj hi]
    | next a' => obtain ⟨j, _, hj, e⟩ := h'; exact absurd (row1_inj e).1 w1
    | and a b => obtain ⟨i, j, _, _, _, _, e⟩ := h'; have e := (List.cons.inj (List.cons.inj (Tp.mk.inj e)).2).2; cases e
    | unt a b => obtain ⟨i, j, _, _, _, _, e⟩ := h'; have e := (List.cons.inj (List.cons.inj (Tp.mk.inj e)).2).2; cases e
  | next a =>
    obtain ⟨i, _, hi, rfl⟩ := h
    cases f' with
    | yes => cases (show (_ : Tp SI) = _ from h')
    | lamp c => have e := (List.cons.inj (List.cons.inj (Tp.mk.inj (show (_ : Tp SI) = _ from h'))).2).1; cases e
    | neg a' => obtain ⟨j, _, hj, e⟩ := h'; exact absurd (row1_inj e).1.symm w1
    | next a' => obtain ⟨j, _, hj, e⟩ := h'; rw [(row1_inj e).2, hj] at hi; rw [Option.some.inj hi]
    | and a b => obtain ⟨i, j, _, _, _, _, e⟩ := h'; have e := (List.cons.inj (List.cons.inj (Tp.mk.inj e)).2).2; cases e
    | unt a b => obtain ⟨i, j, _, _, _, _, e⟩ := h'; have e := (List.cons.inj (List.cons.inj (Tp.mk.inj e)).2).2; cases e
  | and a b =>
    obtain ⟨i, j, _, _, hi, hj, rfl⟩ := h
    cases f' with
    | yes => cases (show (_ : Tp SI) = _ from h')
    | lamp c => have e := (List.cons.inj (List.cons.inj (Tp.mk.inj (show (_ : Tp SI) = _ from h'))).2).1; cases e
    | neg a' => obtain ⟨j, _, hj, e⟩ := h'; have e := (List.cons.inj (List.cons.inj (Tp.mk.inj e)).2).2; cases e
    | next a' => obtain ⟨j, _, hj, e⟩ := h'; have e := (List.cons.inj (List.cons.inj (Tp.mk.inj e)).2).2; cases e
    | and a b => obtain ⟨i', j', _, _, hi', hj', e⟩ := h'; rw [(row2_inj e).2.1, hi'] at hi; rw [(row2_inj e).2.2, hj'] at hj; rw [Option.some.inj hi, Option.some.inj hj]
    | unt a b => obtain ⟨i', j', _, _, hi', hj', e⟩ := h'; exact absurd (row2_inj e).1 w2
  | unt a b =>
    obtain ⟨i, j, _, _, hi, hj, rfl⟩ := h
    cases f' with
    | yes => cases (show (_ : Tp SI) = _ from h')
    | lamp c => have e := (List.cons.inj (List.cons.inj (Tp.mk.inj (show (_ : Tp SI) = _ from h'))).2).1; cases e
    | neg a' => obtain ⟨j, _, hj, e⟩ := h'; have e := (List.cons.inj (List.cons.inj (Tp.mk.inj e)).2).2; cases e
    | next a' => obtain ⟨j, _, hj, e⟩ := h'; have e := (List.cons.inj (List.cons.inj (Tp.mk.inj e)).2).2; cases e
    | and a b => obtain ⟨i', j', _, _, hi', hj', e⟩ := h'; exact absurd (row2_inj e).1.symm w2
    | unt a b => obtain ⟨i', j', _, _, hi', hj', e⟩ := h'; rw [(row2_inj e).2.1, hi'] at hi; rw [(row2_inj e).2.2, hj'] at hj; rw [Option.some.inj hi, Option.some.inj hj]
theorem R1.inj {fs : List Fm} {k k' : Nat} {r r' : Tp SI} {f : Fm} (hd : Dif fs) (h : R1 fs k r f) (h' : R1 fs k' r' f) : r = r' := by
  cases f with
  | yes => rw [show r = _ from h, show r' = _ from h']
  | lamp c => rw [show r = _ from h, show r' = _ from h']
  | neg a => obtain ⟨i, _, h1, e⟩ := h; obtain ⟨j, _, h2, e'⟩ := h'; rw [e, e', hd i j a h1 h2]
  | next a => obtain ⟨i, _, h1, e⟩ := h; obtain ⟨j, _, h2, e'⟩ := h'; rw [e, e', hd i j a h1 h2]
  | and a b => obtain ⟨i, j, _, _, h1, h2, e⟩ := h; obtain ⟨i', j', _, _, h1', h2', e'⟩ := h'; rw [e, e', hd i i' a h1 h1', hd j j' b h2 h2']
  | unt a b => obtain ⟨i, j, _, _, h1, h2, e⟩ := h; obtain ⟨i', j', _, _, h1', h2', e'⟩ := h'; rw [e, e', hd i i' a h1 h1', hd j j' b h2 h2']
theorem snoc_get {α : Type} {l : List α} {a b : α} {k : Nat} (h : (l ++ [a])[k]? = some b) : l[k]? = some b ∨ (k = l.length ∧ a = b) := by
  by_cases hk : k < l.length
  · rw [List.getElem?_append_left hk] at h
    exact .inl h
  · rw [List.getElem?_append_right (by omega)] at h
    have h0 : k - l.length = 0 := by
      have := get_lt h
      simp at this
      omega
    rw [h0] at h
    exact .inr ⟨by omega, Option.some.inj h⟩
theorem Bk.snoc {L : List (Tp SI)} {fs : List Fm} {r : Tp SI} {f : Fm} (hb : Bk L fs) (hr : R1 fs L.length r f) : Bk (L ++ [r]) (fs ++ [f]) := by
  have hl := hb.1
  refine ⟨by rw [List.length_append, List.length_append, hl]; rfl, fun k r' f' h1 h2 => ?_⟩
  rcases snoc_get h1 with h1 | ⟨e1, e2⟩
  · have hk := get_lt h1
    rcases snoc_get h2 with h2 | ⟨e3, e4⟩
    · exact (hb.2 k r' f' h1 h2).app (Nat.le_refl _)
    · omega
  · rcases snoc_get h2 with h2 | ⟨e3, e4⟩
    · have := get_lt h2
      omega
    · subst e2
      subst e4
      rw [e1]
      exact hr.app (Nat.le_refl _)
theorem Dif.snoc {fs : List Fm} {f : Fm} (h : Dif fs) (hf : ∀ m : Nat, fs[m]? ≠ some f) : Dif (fs ++ [f]) := by
  intro i j g hi hj
  rcases snoc_get hi with h1 | ⟨e1, e2⟩
  · rcases snoc_get hj with h2 | ⟨e3, e4⟩
    · exact h i j g h1 h2
    · exact absurd (e4 ▸ h1) (hf i)
  · rcases snoc_get hj with h2 | ⟨e3, e4⟩
    · exact absurd (e2 ▸ h2) (hf j)
    · omega
theorem Bk.nil : Bk [] [] := ⟨rfl, fun k r f h _ => by simp at h⟩
theorem Dif.nil : Dif [] := fun i j f h _ => by simp at h
theorem Bk.at {L : List (Tp SI)} {fs : List Fm} (hb : Bk L fs) {k : Nat} {f : Fm} (h : fs[k]? = some f) : ∃ r, L[k]? = some r ∧ R1 fs k r f := by
  have hk : k < L.length := by rw [hb.1]; exact get_lt h
  exact ⟨L[k], List.getElem?_eq_getElem hk, hb.2 k _ f (List.getElem?_eq_getElem hk) h⟩
theorem Bk.at' {L : List (Tp SI)} {fs : List Fm} (hb : Bk L fs) {k : Nat} {r : Tp SI} (h : L[k]? = some r) : ∃ f, fs[k]? = some f ∧ R1 fs k r f := by
  have hk : k < fs.length := by rw [← hb.1]; exact get_lt h
  exact ⟨fs[k], List.getElem?_eq_getElem hk, hb.2 k r _ h (List.getElem?_eq_getElem hk)⟩
theorem R1.take {fs : List Fm} {k n : Nat} {r : Tp SI} {f : Fm} (h : R1 fs k r f) (hk : k ≤ n) : R1 (fs.take n) k r f := by
  have t : ∀ {i : Nat} {a : Fm}, i < k → fs[i]? = some a → (fs.take n)[i]? = some a := fun hi h => by rw [List.getElem?_take_of_lt (by omega)]; exact h
  cases f with
  | yes => exact h
  | lamp c => exact h
  | neg a => obtain ⟨i, h1, h2, e⟩ := h; exact ⟨i, h1, t h1 h2, e⟩
  | next a => obtain ⟨i, h1, h2, e⟩ := h; exact ⟨i, h1, t h1 h2, e⟩
  | and a b => obtain ⟨i, j, h1, h2, h3, h4, e⟩ := h; exact ⟨i, j, h1, h2, t h1 h3, t h2 h4, e⟩
  | unt a b => obtain ⟨i, j, h1, h2, h3, h4, e⟩ := h; exact ⟨i, j, h1, h2, t h1 h3, t h2 h4, e⟩
theorem take_get {α : Type} {l : List α} {n k : Nat} {a : α} (h : (l.take n)[k]? = some a) : k < n ∧ l[k]? = some a := by
  have h1 := get_lt h
  rw [List.length_take] at h1
  have h2 : k < n := by omega
  rw [List.getElem?_take_of_lt h2] at h
  exact ⟨h2, h⟩
theorem Bk.take {L : List (Tp SI)} {fs : List Fm} (hb : Bk L fs) (n : Nat) : Bk (L.take n) (fs.take n) := by
  refine ⟨by rw [List.length_take, List.length_take, hb.1], fun k r f h1 h2 => ?_⟩
  obtain ⟨hk, h1⟩ := take_get h1
  exact (hb.2 k r f h1 (take_get h2).2).take (by omega)
theorem Dif.take {fs : List Fm} (h : Dif fs) (n : Nat) : Dif (fs.take n) := fun i j f h1 h2 => h i j f (take_get h1).2 (take_get h2).2
theorem Bk.subs {L : List (Tp SI)} {fs : List Fm} (hb : Bk L fs) : ∀ {f g : Fm} {k : Nat}, fs[k]? = some f → g ∈ f.sub → ∃ i, i ≤ k ∧ fs[i]? = some g
  | .yes, g, k, h, hg => by rw [List.mem_singleton.mp hg]; exact ⟨k, Nat.le_refl _, h⟩
  | .lamp c, g, k, h, hg => by rw [List.mem_singleton.mp hg]; exact ⟨k, Nat.le_refl _, h⟩
  | .neg a, g, k, h, hg => by
    rcases List.mem_cons.mp hg with e | hg
    · rw [e]; exact ⟨k, Nat.le_refl _, h⟩
    · obtain ⟨r, _, i, h1, h2, _⟩ := hb.at h
      obtain ⟨j, h3, h4⟩ := hb.subs h2 hg
      exact ⟨j, by omega, h4⟩
  | .next a, g, k, h, hg => by
    rcases List.mem_cons.mp hg with e | hg
    · rw [e]; exact ⟨k, Nat.le_refl _, h⟩
    · obtain ⟨r, _, i, h1, h2, _⟩ := hb.at h
      obtain ⟨j, h3, h4⟩ := hb.subs h2 hg
      exact ⟨j, by omega, h4⟩
  | .and a b, g, k, h, hg => by
    rcases List.mem_cons.mp hg with e | hg
    · rw [e]; exact ⟨k, Nat.le_refl _, h⟩
    · obtain ⟨r, _, i, i', h1, h1', h2, h2', _⟩ := hb.at h
      rcases List.mem_append.mp hg with hg | hg
      · obtain ⟨j, h3, h4⟩ := hb.subs h2 hg
        exact ⟨j, by omega, h4⟩
      · obtain ⟨j, h3, h4⟩ := hb.subs h2' hg
        exact ⟨j, by omega, h4⟩
  | .unt a b, g, k, h, hg => by
    rcases List.mem_cons.mp hg with e | hg
    · rw [e]; exact ⟨k, Nat.le_refl _, h⟩
    · obtain ⟨r, _, i, i', h1, h1', h2, h2', _⟩ := hb.at h
      rcases List.mem_append.mp hg with hg | hg
      · obtain ⟨j, h3, h4⟩ := hb.subs h2 hg
        exact ⟨j, by omega, h4⟩
      · obtain ⟨j, h3, h4⟩ := hb.subs h2' hg
        exact ⟨j, by omega, h4⟩
theorem idx_get (r : Tp SI) : ∀ (rows : List (Tp SI)) (i : Nat) (n : Int), idxB i rows r = some n → ∃ j, n = ((i + j : Nat) : Int) ∧ rows[j]? = some r
  | [], i, n, h => by cases h
  | a :: rs, i, n, h => by
    unfold idxB at h
    by_cases e : a = r
    · rw [if_pos e] at h
      cases h
      exact ⟨0, rfl, by rw [e]; rfl⟩
    · rw [if_neg e] at h
      obtain ⟨j, h1, h2⟩ := idx_get r rs (i + 1) n h
      refine ⟨j + 1, ?_, h2⟩
      rw [h1]
      congr 1
      omega
theorem idx_none (r : Tp SI) : ∀ (rows : List (Tp SI)) (i : Nat), idxB i rows r = none → ∀ j : Nat, rows[j]? ≠ some r
  | [], i, h, j => by simp
  | a :: rs, i, h, j => by
    unfold idxB at h
    by_cases e : a = r
    · rw [if_pos e] at h
      cases h
    · rw [if_neg e] at h
      cases j with
      | zero => intro z; exact e (Option.some.inj z)
      | succ j => exact idx_none r rs (i + 1) h j
theorem step {L : List (Tp SI)} {fs : List Fm} {r : Tp SI} {f : Fm} (hb : Bk L fs) (hd : Dif fs) (hr : R1 fs L.length r f) (hl : L.length < 100000) :
    (∃ m : Nat, fs[m]? = some f ∧ rownO L ⟨r.l⟩ = some (L, (m : Int))) ∨
    ((∀ m : Nat, fs[m]? ≠ some f) ∧ rownO L ⟨r.l⟩ = some (L ++ [r], (L.length : Int)) ∧ Bk (L ++ [r]) (fs ++ [f]) ∧ Dif (fs ++ [f])) := by
  have hz : sizeLine = 16777216 := sizeLine_eq
  have hrow : rownO L ⟨r.l⟩ = match idxB 0 L r with | some n => some (L, n) | none => if L.length < sizeLine then some (L ++ [r], (L.length : Int)) else none := rfl
  cases e : idxB 0 L r with
  | some n =>
    obtain ⟨j, h1, h2⟩ := idx_get r L 0 n e
    obtain ⟨g, h3, h4⟩ := hb.at' h2
    rw [h4.fn hr] at h3
    refine .inl ⟨j, h3, ?_⟩
    rw [hrow, e, h1, Nat.zero_add]
  | none =>
    have hn := idx_none r L 0 e
    have hf : ∀ m : Nat, fs[m]? ≠ some f := fun m hm => by
      obtain ⟨r', h1, h2⟩ := hb.at hm
      rw [h2.inj hd hr] at h1
      exact hn m h1
    refine .inr ⟨hf, ?_, hb.snoc hr, hd.snoc hf⟩
    rw [hrow, e]
    exact if_pos (by omega)
def Got (L : List (Tp SI)) (fs : List Fm) (f : Fm) (o : Option (List (Tp SI) × Int)) : Prop :=
  ∃ (L' : List (Tp SI)) (fs' : List Fm) (k : Nat), o = some (L ++ L', (k : Int)) ∧ Bk (L ++ L') (fs ++ fs') ∧ Dif (fs ++ fs') ∧ (fs ++ fs')[k]? = some f ∧ (∀ g ∈ fs', g ∈ f.sub) ∧ L'.length ≤ f.size ∧
    ((∃ m : Nat, fs[m]? = some f) → L' = [] ∧ fs' = []) ∧ ((∀ m : Nat, fs[m]? ≠ some f) → k + 1 = (L ++ L').length)
theorem fin {L L' : List (Tp SI)} {fs fs' : List Fm} {r : Tp SI} {f : Fm} (hb : Bk (L ++ L') (fs ++ fs')) (hd : Dif (fs ++ fs')) (hs : ∀ g ∈ fs', g ∈ f.sub ∧ g.size < f.size) (hn : L'.length + 1 ≤ f.size)
    (hf : (∃ m : Nat, fs[m]? = some f) → L' = [] ∧ fs' = []) (hr : R1 (fs ++ fs') (L ++ L').length r f) (hl : (L ++ L').length < 100000) : Got L fs f (rownO (L ++ L') ⟨r.l⟩) := by
  rcases step hb hd hr hl with ⟨m, h1, h2⟩ | ⟨h1, h2, h3, h4⟩
  · refine ⟨L', fs', m, h2, hb, hd, h1, fun g hg => (hs g hg).1, by omega, hf, fun hno => ?_⟩
    exfalso
    by_cases hm : m < fs.length
    · rw [List.getElem?_append_left hm] at h1
      exact hno m h1
    · rw [List.getElem?_append_right (by omega)] at h1
      have := (hs f (List.mem_of_getElem? h1)).2
      omega
  · refine ⟨L' ++ [r], fs' ++ [f], (L ++ L').length, by rw [h2, List.append_assoc], by rw [← List.append_assoc, ← List.append_assoc]; exact h3, by rw [← List.append_assoc]; exact h4, ?_, ?_, by rw [List.length_append]; exact hn, ?_, fun _ => by rw [← List.append_assoc, List.length_append (as := L ++ L')]; rfl⟩
    · rw [← List.append_assoc, hb.1]
      simp
    · intro g hg
      rcases List.mem_append.mp hg with hg | hg
      · exact (hs g hg).1
      · rw [List.mem_singleton.mp hg]
        exact sub_self f
    · rintro ⟨m, hm⟩
      exact absurd (get_app hm) (h1 m)
theorem lay_succ (n : Nat) (rows : List (Tp SI)) (a : Nt) : layO m_parts_of (n + 1) rows a = (asTup a).bind fun t => (atI t.l 0).bind fun b => (asTxt b).bind fun w =>
      cond (decide (w = "lamp")) ((sisO t.l).bind fun l => rownO rows ⟨l⟩)
      ((m_parts_of a).bind fun ps => (forO (layF (layO m_parts_of n)) ps.l (rows, [.s w])).bind fun z => layE z) := rfl
theorem lay_word {n : Nat} {w : Str} {l : List Nt} (hw : w ≠ "lamp") (rows : List (Tp SI)) : layO m_parts_of (n + 1) rows (.tup (.txt w :: l)) = (forO (layF (layO m_parts_of n)) l (rows, [.s w])).bind fun z => layE z := by
  rw [lay_succ]
  simp only [asTup, bindS, at0, asTxt, decide_eq_false hw, cond_false, parts_other hw]
theorem lay_lamp {n : Nat} (c : Str) (rows : List (Tp SI)) : layO m_parts_of (n + 1) rows (.tup [.txt "lamp", .txt c]) = rownO rows ⟨[.s "lamp", .s c]⟩ := by
  rw [lay_succ]
  simp only [asTup, bindS, at0, asTxt, decide_true, cond_true]
  rfl
theorem layF_eq {lay : List (Tp SI) → Nt → Option (List (Tp SI) × Int)} {a : Nt} {s : List (Tp SI) × List SI} {z : List (Tp SI) × Int} (h : lay s.1 a = some z) (hl : s.2.length ≤ 10) : layF lay a s = some (.nx (z.1, s.2 ++ [.i z.2])) := by
  have hz : sizeLine = 16777216 := sizeLine_eq
  unfold layF
  rw [h, bindS, if_pos (by omega)]
theorem fl_one {lay : List (Tp SI) → Nt → Option (List (Tp SI) × Int)} {a : Nt} {rows : List (Tp SI)} {w : Str} {z : List (Tp SI) × Int} (h : lay rows a = some z) :
    ((forO (layF lay) [a] (rows, [.s w])).bind fun z => layE z) = rownO z.1 ⟨[.s w, .i z.2]⟩ := by
  have e := layF_eq (s := (rows, [.s w])) h (by simp)
  show (((layF lay a (rows, [.s w])).bind fun fl => _).bind _) = _
  rw [e]
  rfl
theorem fl_two {lay : List (Tp SI) → Nt → Option (List (Tp SI) × Int)} {a b : Nt} {rows : List (Tp SI)} {w : Str} {z y : List (Tp SI) × Int} (h : lay rows a = some z) (h2 : lay z.1 b = some y) :
    ((forO (layF lay) [a, b] (rows, [.s w])).bind fun z => layE z) = rownO y.1 ⟨[.s w, .i z.2, .i y.2]⟩ := by
  have e := layF_eq (s := (rows, [.s w])) h (by simp)
  have e2 := layF_eq (s := (z.1, [.s w] ++ [.i z.2])) h2 (by simp)
  show (((layF lay a (rows, [.s w])).bind fun fl => _).bind _) = _
  rw [e]
  show (((layF lay b (z.1, [.s w] ++ [.i z.2])).bind fun fl => _).bind _) = _
  rw [e2]
  rfl
theorem nl : (("yes" : Str) ≠ "lamp" ∧ ("not" : Str) ≠ "lamp" ∧ ("next" : Str) ≠ "lamp") ∧ ("and" : Str) ≠ "lamp" ∧ ("until" : Str) ≠ "lamp" := by decide +kernel
theorem lay_all : ∀ (n : Nat) (f : Fm) (L : List (Tp SI)) (fs : List Fm), f.dep ≤ n → Bk L fs → Dif fs → L.length + f.size < 100000 → Got L fs f (layO m_parts_of n L f.nt)
  | 0, f, L, fs, hd, _, _, _ => absurd hd (by have := f.dep_pos; omega)
  | n + 1, f, L, fs, hdp, hb, hd, hl => by
    have one : ∀ (w : Str) (a f : Fm), w ≠ "lamp" → f.sub = f :: a.sub → f.size = a.size + 1 → a.dep ≤ n → L.length + f.size < 100000 →
        (∀ {fs k r}, R1 fs k r f ↔ ∃ i : Nat, i < k ∧ fs[i]? = some a ∧ r = ⟨[.s w, .i (i : Int)]⟩) → Got L fs f (layO m_parts_of (n + 1) L (.tup [.txt w, a.nt])) := fun w a f hw hsub hsz hdp hl hR => by
      rw [lay_word hw]
      obtain ⟨L1, fs1, k1, h1, h2, h3, h4, h5, h6, h7, h8⟩ := lay_all n a L fs hdp hb hd (by omega)
      rw [fl_one h1]
      refine fin (r := ⟨[.s w, .i (k1 : Int)]⟩) h2 h3 (fun g hg => ⟨by rw [hsub]; exact List.mem_cons_of_mem _ (h5 g hg), ?_⟩) (by omega) (fun ⟨m, hm⟩ => ?_) (hR.mpr ⟨k1, ?_, h4, rfl⟩) (by rw [List.length_append]; omega)
      · have := sub_size (h5 g hg); omega
      · obtain ⟨r, _, hr⟩ := hb.at hm
        obtain ⟨i, _, hi, _⟩ := hR.mp hr
        exact h7 ⟨i, hi⟩
      · rw [h2.1]; exact get_lt h4
    have two : ∀ (w : Str) (a b f : Fm), w ≠ "lamp" → f.sub = f :: (a.sub ++ b.sub) → f.size = a.size + b.size + 1 → a.dep ≤ n → b.dep ≤ n → L.length + f.size < 100000 →
        (∀ {fs k r}, R1 fs k r f ↔ ∃ i j : Nat, i < k ∧ j < k ∧ fs[i]? = some a ∧ fs[j]? = some b ∧ r = ⟨[.s w, .i (i : Int), .i (j : Int)]⟩) → Got L fs f (layO m_parts_of (n + 1) L (.tup [.txt w, a.nt, b.nt])) := fun w a b f hw hsub hsz hdp hdp2 hl hR => by
      rw [lay_word hw]
      obtain ⟨L1, fs1, k1, h1, h2, h3, h4, h5, h6, h7, h8⟩ := lay_all n a L fs hdp hb hd (by omega)
      obtain ⟨L2, fs2, k2, i1, i2, i3, i4, i5, i6, i7, i8⟩ := lay_all n b (L ++ L1) (fs ++ fs1) hdp2 h2 h3 (by rw [List.length_append]; omega)
      rw [fl_two h1 i1]
      dsimp only
      rw [List.append_assoc] at i2 i3 i4 ⊢
      rw [List.append_assoc] at i2
      have k1' : (fs ++ (fs1 ++ fs2))[k1]? = some a := by rw [← List.append_assoc]; exact get_app h4
      refine fin (r := ⟨[.s w, .i (k1 : Int), .i (k2 : Int)]⟩) i2 i3 (fun g hg => ?_) (by rw [List.length_append]; omega) (fun ⟨m, hm⟩ => ?_) (hR.mpr ⟨k1, k2, ?_, ?_, k1', i4, rfl⟩) (by rw [List.length_append, List.length_append]; omega)
      · rcases List.mem_append.mp hg with hg | hg
        · exact ⟨by rw [hsub]; exact List.mem_cons_of_mem _ (List.mem_append_left _ (h5 g hg)), by have := sub_size (h5 g hg); omega⟩
        · exact ⟨by rw [hsub]; exact List.mem_cons_of_mem _ (List.mem_append_right _ (i5 g hg)), by have := sub_size (i5 g hg); omega⟩
      · obtain ⟨r, _, hr⟩ := hb.at hm
        obtain ⟨i, j, _, _, hi, hj, _⟩ := hR.mp hr
        obtain ⟨e1, e2⟩ := h7 ⟨i, hi⟩
        obtain ⟨e3, e4⟩ := i7 ⟨j, get_app hj⟩
        rw [e1, e2, e3, e4]
        exact ⟨rfl, rfl⟩
      · rw [i2.1]; exact get_lt k1'
      · rw [i2.1]; exact get_lt i4
    have zero : ∀ (r : Tp SI) (f : Fm), f.size = 1 → R1 fs L.length r f → L.length + 1 < 100000 → Got L fs f (rownO L ⟨r.l⟩) := fun r f hs hr hl => by
      have := fin (L := L) (L' := []) (fs := fs) (fs' := []) (r := r) (f := f) (by simpa using hb) (by simpa using hd) (fun g hg => nomatch hg) (by simp [hs]) (fun _ => ⟨rfl, rfl⟩) (by simpa using hr) (by simp; omega)
      rwa [List.append_nil] at this
    cases f with
    | yes =>
      show Got _ _ _ (layO m_parts_of (n + 1) L (.tup [.txt "yes"]))
      rw [lay_word nl.1.1]
      exact zero ⟨[.s "yes"]⟩ .yes rfl rfl hl
    | lamp c =>
      show Got _ _ _ (layO m_parts_of (n + 1) L (.tup [.txt "lamp", .txt c]))
      rw [lay_lamp]
      exact zero ⟨[.s "lamp", .s c]⟩ (.lamp c) rfl rfl hl
    | neg a => exact one "not" a (.neg a) nl.1.2.1 rfl rfl (by simp only [Fm.dep] at hdp; omega) hl Iff.rfl
    | next a => exact one "next" a (.next a) nl.1.2.2 rfl rfl (by simp only [Fm.dep] at hdp; omega) hl Iff.rfl
    | and a b => exact two "and" a b (.and a b) nl.2.1 rfl rfl (by simp only [Fm.dep] at hdp; omega) (by simp only [Fm.dep] at hdp; omega) hl Iff.rfl
    | unt a b => exact two "until" a b (.unt a b) nl.2.2 rfl rfl (by simp only [Fm.dep] at hdp; omega) (by simp only [Fm.dep] at hdp; omega) hl Iff.rfl
theorem lay_next {L : List (Tp SI)} {fs : List Fm} (hb : Bk L fs) (hd : Dif fs) {i : Nat} {f : Fm} (hi : fs[i]? = some f) (hdp : f.dep ≤ 95) (hl : L.length + f.size < 100000) :
    layO m_parts_of 95 (L.take i) f.nt = some (L.take (i + 1), (i : Int)) := by
  have hil : i < L.length := by rw [hb.1]; exact get_lt hi
  have hno : ∀ m : Nat, (fs.take i)[m]? ≠ some f := fun m hm => by
    obtain ⟨h1, h2⟩ := take_get hm
    have := hd m i f h2 hi
    omega
  obtain ⟨L1, fs1, k, h1, h2, h3, h4, h5, h6, h7, h8⟩ := lay_all 95 f (L.take i) (fs.take i) hdp (hb.take i) (hd.take i) (by rw [List.length_take]; omega)
  have hk := h8 hno
  rw [h1]
  have all : ∀ g ∈ fs1, g = f := fun g hg => by
    obtain ⟨j, hj, hg2⟩ := hb.subs hi (h5 g hg)
    obtain ⟨m, hm⟩ := List.getElem?_of_mem hg
    by_cases e : j = i
    · rw [e, hi] at hg2
      exact (Option.some.inj hg2).symm
    · exfalso
      have a1 : (fs.take i ++ fs1)[j]? = some g := get_app (by rw [List.getElem?_take_of_lt (by omega)]; exact hg2)
      have a2 : (fs.take i ++ fs1)[(fs.take i).length + m]? = some g := by rw [List.getElem?_append_right (by omega), Nat.add_sub_cancel_left]; exact hm
      have a3 := h3 _ _ g a1 a2
      rw [List.length_take] at a3
      have := get_lt hi
      omega
  have len1 : fs1.length ≤ 1 := by
    match fs1, all, h3 with
    | [], _, _ => exact Nat.zero_le _
    | [_], _, _ => exact Nat.le_refl _
    | a :: b :: t, all, h3 =>
      exfalso
      have ea := all a (by simp)
      have eb := all b (by simp)
      have a1 : (fs.take i ++ a :: b :: t)[(fs.take i).length + 0]? = some f := by rw [List.getElem?_append_right (by omega), Nat.add_sub_cancel_left, ← ea]; rfl
      have a2 : (fs.take i ++ a :: b :: t)[(fs.take i).length + 1]? = some f := by rw [List.getElem?_append_right (by omega), Nat.add_sub_cancel_left, ← eb]; rfl
      have := h3 _ _ f a1 a2
      omega
  have hlen := h2.1
  rw [List.length_append, List.length_append, List.length_take, List.length_take, ← hb.1] at hlen
  rw [List.length_append, List.length_take] at hk
  have hkl := get_lt h4
  rw [List.length_append, List.length_take, ← hb.1] at hkl
  have l1 : L1.length = 1 := by
    by_cases e : fs1 = []
    · subst e
      rw [List.append_nil] at h4
      exact absurd h4 (hno k)
    · have := List.length_pos_iff.mpr e
      omega
  have ek : k = i := by omega
  obtain ⟨r', rfl⟩ := List.length_eq_one_iff.mp l1
  obtain ⟨r, hr1, hr2⟩ := hb.at hi
  have hr' : (L.take i ++ [r'])[i]? = some r' := by
    rw [List.getElem?_append_right (by rw [List.length_take]; omega), List.length_take, show i - min i L.length = 0 from by omega]
    rfl
  rw [ek] at h4
  have q := h2.2 i r' f hr' h4
  have q2 : R1 (fs.take i ++ fs1) i r f := (hr2.take (Nat.le_refl i)).app (Nat.le_refl i)
  have er := q2.inj h3 q
  have : L.take (i + 1) = L.take i ++ [r] := by rw [List.take_succ, hr1]; rfl
  rw [this, er, ek]
theorem books_from {L : List (Tp SI)} {fs : List Fm} (hb : Bk L fs) (hd : Dif fs) (hdp : ∀ f ∈ fs, f.dep ≤ 95 ∧ f.size ≤ 1000) (hl : L.length ≤ 1000) :
    ∀ (n i : Nat), i + n = fs.length → booksO (layO m_parts_of 95) ((fs.drop i).map Fm.nt) (L.take i) = some (L, (List.range n).map fun (j : Nat) => ((i + j : Nat) : Int))
  | 0, i, h => by
    have e : fs.drop i = [] := List.drop_eq_nil_of_le (by omega)
    have e2 : L.take i = L := List.take_of_length_le (by rw [hb.1]; omega)
    rw [e, e2]
    rfl
  | n + 1, i, h => by
    have hi : i < fs.length := by omega
    have hi' : fs[i]? = some fs[i] := List.getElem?_eq_getElem hi
    have hf := hdp fs[i] (List.getElem_mem hi)
    rw [List.drop_eq_getElem_cons hi, List.map_cons]
    show ((layO m_parts_of 95 (L.take i) fs[i].nt).bind fun z => (booksO _ _ z.1).bind fun y => some (y.1, z.2 :: y.2)) = _
    rw [lay_next hb hd hi' hf.1 (by omega), bindS]
    dsimp only
    rw [books_from hb hd hdp hl n (i + 1) (by omega), bindS]
    congr 2
    rw [List.range_succ_eq_map, List.map_cons, List.map_map]
    congr 1
    refine List.map_congr_left fun j _ => ?_
    show _ = ((i + (j + 1) : Nat) : Int)
    congr 1
    omega
theorem book_again {L : List (Tp SI)} {fs : List Fm} (hb : Bk L fs) (hd : Dif fs) (hdp : ∀ f ∈ fs, f.dep ≤ 95 ∧ f.size ≤ 1000) (hl : L.length ≤ 1000) :
    m_book_of (fs.map Fm.nt) = some (L.map Rk.of, (List.range L.length).map fun (j : Nat) => (0 : Int) + (j : Int)) := by
  have := books_from hb hd hdp hl fs.length 0 (by omega)
  unfold m_book_of booksR
  rw [List.drop_zero, List.take_zero] at this
  rw [this, bindS, hb.1]
  have e : (fun (j : Nat) => ((0 + j : Nat) : Int)) = fun (j : Nat) => (0 : Int) + (j : Int) := funext fun j => by rw [Nat.zero_add, Int.zero_add]
  rw [e]
theorem nodup_len : ∀ {l m : List Fm}, Dif l → (∀ g ∈ l, g ∈ m) → l.length ≤ m.length
  | [], m, _, _ => Nat.zero_le _
  | a :: t, m, hd, h => by
    have ha := h a List.mem_cons_self
    obtain ⟨s, u, rfl⟩ := List.append_of_mem ha
    have ih := nodup_len (l := t) (m := s ++ u) (fun i j f h1 h2 => by have := hd (i + 1) (j + 1) f h1 h2; omega) (fun g hg => by
      have := h g (List.mem_cons_of_mem _ hg)
      rw [List.mem_append, List.mem_cons] at this
      rw [List.mem_append]
      rcases this with h1 | h1 | h1
      · exact .inl h1
      · exfalso
        obtain ⟨i, hi⟩ := List.getElem?_of_mem hg
        have := hd (i + 1) 0 g hi (by rw [h1]; rfl)
        omega
      · exact .inr h1)
    rw [List.length_append] at ih
    rw [List.length_cons, List.length_append, List.length_cons]
    omega
theorem at_s0 (w : Str) (l : List SI) : atI (SI.s w :: l) (0 : Int) = some (SI.s w) := atI_nat (j := 0) rfl
theorem cut_hi {α : Type} (xs : List α) (k : Nat) : cutA xs none (some (k : Int)) = xs.take k := by
  unfold cutA
  rw [HT.sIx_none, HT.sIx_nat, List.drop_zero, Nat.sub_zero]
  rw [List.take_eq_take_iff]
  omega
theorem lampd : decide (("lamp" : Str) = "lamp") = true := by decide +kernel
theorem notN {w : Str} {l : List Nt} (hw : w ≠ "lamp") : tupNO ⟨.txt w :: l⟩ = some (.tup (.txt w :: l)) := by
  unfold tupNO
  rw [if_neg]
  intro e
  have e := Option.some.inj e
  injection e with e
  exact hw e
theorem unf_ok {L : List (Tp SI)} {fs : List Fm} (hb : Bk L fs) (hl : L.length ≤ 1000) {k : Nat} {f : Fm} (hk : fs[k]? = some f) : m_unfolded (L.map Rk.of) (k : Int) = some f.nt := by
  have hz : sizeLine = 16777216 := sizeLine_eq
  have hkl := get_lt hk
  have hbl := hb.1
  refine OK.eq ?_
  unfold m_unfolded
  simp only [Option.bind_assoc, bindS, bind_self]
  rw [show (k : Int) + 1 = ((k + 1 : Nat) : Int) from by push_cast; rfl, cut_hi, ← List.map_take]
  refine ok_bind (ok_for' (fun i (s : List Nt) => s = (fs.take i).map Fm.nt ∧ i ≤ k + 1) ⟨by simp, Nat.zero_le _⟩ (fun i a s ha hI => ?_) fun s hI => ?_)
  · rw [List.getElem?_map] at ha
    obtain ⟨r, hr, rfl⟩ := Option.map_eq_some_iff.mp ha
    obtain ⟨hi, hr⟩ := take_get hr
    obtain ⟨g, hg, h1⟩ := hb.at' hr
    obtain ⟨rfl, _⟩ := hI
    have hlen : ((fs.take i).map Fm.nt).length = i := by
      rw [List.length_map, List.length_take]
      have := get_lt hg
      omega
    have at_ : ∀ {j : Nat} {a : Fm}, j < i → fs[j]? = some a → atI ((fs.take i).map Fm.nt) (j : Int) = some a.nt := fun hj h => by
      refine atI_nat ?_
      rw [List.getElem?_map, List.getElem?_take_of_lt hj, h]
      rfl
    have fine : ∀ x, x = g.nt → OK (pushO ((fs.take i).map Fm.nt) x) fun b => OK (some (Fl.nx b : Fl (List Nt) Nt)) fun fl => ∃ s', fl = Fl.nx s' ∧ s' = (fs.take (i + 1)).map Fm.nt ∧ i + 1 ≤ k + 1 := fun x hx => by
      refine ok_push (by omega) (ok_some ⟨_, rfl, ?_, by omega⟩)
      rw [List.take_succ, hg, List.map_append, hx]
      rfl
    cases g with
    | yes =>
      cases (show r = _ from h1)
      simp only [Rk.of, Rk.tp, at_s0, bindS, asS, decide_eq_false nl.1.1, cond_false, cut_tailA, mapO, siN]
      exact ok_bind ⟨_, if_pos (by show 1 + 0 ≤ sizeLine; omega), ok_bind ⟨_, notN nl.1.1, ok_bind (fine _ rfl)⟩⟩
    | lamp c =>
      cases (show r = _ from h1)
      simp only [Rk.of, Rk.tp, at_s0, bindS, asS, lampd, cond_true]
      exact ok_bind (fine _ rfl)
    | neg a =>
      obtain ⟨j, hj, hja, rfl⟩ := h1
      simp only [Rk.of, Rk.tp, at_s0, bindS, asS, asI, decide_eq_false nl.1.2.1, cond_false, cut_tailA, mapO, siN, at_ hj hja]
      exact ok_bind ⟨_, if_pos (by show 1 + 1 ≤ sizeLine; omega), ok_bind ⟨_, notN nl.1.2.1, ok_bind (fine _ rfl)⟩⟩
    | next a =>
      obtain ⟨j, hj, hja, rfl⟩ := h1
      simp only [Rk.of, Rk.tp, at_s0, bindS, asS, asI, decide_eq_false nl.1.2.2, cond_false, cut_tailA, mapO, siN, at_ hj hja]
      exact ok_bind ⟨_, if_pos (by show 1 + 1 ≤ sizeLine; omega), ok_bind ⟨_, notN nl.1.2.2, ok_bind (fine _ rfl)⟩⟩
    | and a b =>
      obtain ⟨j, j', hj, hj', hja, hjb, rfl⟩ := h1
      simp only [Rk.of, Rk.tp, at_s0, bindS, asS, asI, decide_eq_false nl.2.1, cond_false, cut_tailA, mapO, siN, at_ hj hja, at_ hj' hjb]
      exact ok_bind ⟨_, if_pos (by show 1 + 2 ≤ sizeLine; omega), ok_bind ⟨_, notN nl.2.1, ok_bind (fine _ rfl)⟩⟩
    | unt a b =>
      obtain ⟨j, j', hj, hj', hja, hjb, rfl⟩ := h1
      simp only [Rk.of, Rk.tp, at_s0, bindS, asS, asI, decide_eq_false nl.2.2, cond_false, cut_tailA, mapO, siN, at_ hj hja, at_ hj' hjb]
      exact ok_bind ⟨_, if_pos (by show 1 + 2 ≤ sizeLine; omega), ok_bind ⟨_, notN nl.2.2, ok_bind (fine _ rfl)⟩⟩
  · obtain ⟨rfl, _⟩ := hI
    have hlen : ((L.take (k + 1)).map Rk.of).length = k + 1 := by rw [List.length_map, List.length_take, hb.1]; omega
    rw [hlen]
    refine ⟨f.nt, atI_nat ?_, rfl⟩
    rw [List.getElem?_map, List.getElem?_take_of_lt (by omega), hk]
    rfl
theorem cell_at_ok (s : Scr) (k : Int) (h0 : 0 ≤ k) {P : Int → Prop} (hp : ∀ n, P n) : OK (m_law_cell_at s k) P := by
  unfold m_law_cell_at
  simp only [Option.bind_assoc, bindS, bind_self]
  exact ok_cond (fun h => ok_at h0 (of_decide_eq_true h) fun x _ => hp x) fun _ => ok_some (hp _)
theorem abc_size : (("abcdefghijklmnopqrstuvwxyz" : Str).cps.toList).length = 26 := by decide +kernel
theorem stream_ok (c many : Int) (hm : 0 ≤ many ∧ many ≤ 251) {P : List Int → Prop} (hp : ∀ l : List Int, (l.length : Int) = many → (∀ x ∈ l, 0 ≤ x) → P l) : OK (m_law_stream c many) P := by
  have hs : sizeLine = 16777216 := sizeLine_eq
  obtain ⟨n, rfl⟩ := Int.eq_ofNat_of_zero_le hm.1
  unfold m_law_stream
  simp only [Option.bind_assoc, bindS, bind_self]
  refine ok_bind (ok_rng (n := n) (by omega) (by omega) (by omega) ?_)
  refine ok_bind (ok_for' (fun i (s : List Int × Int) => s.1.length = i ∧ (0 ≤ s.2 ∧ s.2 < 4294967296) ∧ ∀ x ∈ s.1, 0 ≤ x) ⟨rfl, ⟨by dsimp only; omega, by dsimp only; omega⟩, fun x hx => nomatch hx⟩ (fun i a s ha hI => ?_) fun s hI => ?_)
  · have hi : i < n := by simpa using (List.getElem?_eq_some_iff.mp ha).1
    have h0 := Int.emod_nonneg (s.2 * s.2 + 48271 * s.2 + a) (b := 2147483647) (by decide)
    refine ok_bind (ok_mul (.inl ⟨by omega, by omega⟩) (ok_bind (ok_push (by omega) (ok_some ⟨_, rfl, by rw [List.length_append, hI.1]; rfl, ⟨h0, ?_⟩, fun x hx => ?_⟩))))
    · have := Int.emod_lt_of_pos (s.2 * s.2 + 48271 * s.2 + a) (b := 2147483647) (by decide)
      dsimp only
      omega
    · rcases List.mem_append.mp hx with hx | hx
      · exact hI.2.2 x hx
      · rw [List.mem_singleton.mp hx]
        exact h0
  · refine ok_some (hp _ ?_ hI.2.2)
    have := hI.1
    simp at this
    omega
theorem part_ok (n : Int) (m : Nat) (hm : 0 < m) : OK (m_law_part n (m : Int)) fun p => ∃ i : Nat, p = (i : Int) ∧ i < m := by
  unfold m_law_part
  simp only [Option.bind_assoc, bindS, bind_self]
  have fin : ∀ p : Int, 0 ≤ p → p < m → ∃ i : Nat, p = (i : Int) ∧ i < m := fun p h1 h2 => ⟨p.toNat, by omega, by omega⟩
  refine ok_cond (fun _ => ?_) fun _ => ?_
  · have h1 : (0 : Int) < (if (m : Int) < 2 then (m : Int) else 2) := by split <;> omega
    have h2 : (if (m : Int) < 2 then (m : Int) else 2) ≤ m := by split <;> omega
    refine ok_bind (ok_mod h1 (ok_some (fin _ ?_ ?_)))
    · have := Int.emod_lt_of_pos (n / 3) h1
      omega
    · have := Int.emod_nonneg (n / 3) (b := (if (m : Int) < 2 then (m : Int) else 2)) (by omega)
      omega
  · exact ok_mod (by omega) (fin _ (Int.emod_nonneg _ (by omega)) (Int.emod_lt_of_pos _ (by omega)))
theorem row_ok (n : Int) (fs : List Fm) : OK (m_law_row n (fs.length : Int)) fun r => ∃ f, r = Rk.of r.tp ∧ R1 fs fs.length r.tp f ∧ (fs = [] → f.size = 1 ∧ f.dep = 1) := by
  have n0 := Int.emod_nonneg (n / 11) (b := 26) (by decide)
  have n1 := Int.emod_lt_of_pos (n / 11) (b := 26) (by decide)
  unfold m_law_row
  simp only [Option.bind_assoc, bindS, bind_self]
  refine ok_cond (fun _ => ok_some ⟨.yes, rfl, rfl, fun _ => ⟨rfl, rfl⟩⟩) fun _ => ok_cond (fun _ => ?_) fun h => ?_
  · exact ok_bind (ok_at n0 (by rw [abc_size]; omega) fun z _ => ok_some ⟨.lamp ⟨#[z]⟩, rfl, rfl, fun _ => ⟨rfl, rfl⟩⟩)
  · rw [Bool.or_eq_false_iff] at h
    have hm : 0 < fs.length := by have := of_decide_eq_false h.2; omega
    have hne : fs ≠ [] := fun e => by rw [e] at hm; exact absurd hm (by decide)
    refine ok_by (part_ok _ fs.length hm) fun p ⟨i, hp, hi⟩ => ?_
    subst hp
    refine ok_cond (fun _ => ok_some ⟨.neg fs[i], rfl, ⟨i, hi, List.getElem?_eq_getElem hi, rfl⟩, fun e => absurd e hne⟩) fun _ => ok_cond (fun _ => ok_some ⟨.next fs[i], rfl, ⟨i, hi, List.getElem?_eq_getElem hi, rfl⟩, fun e => absurd e hne⟩) fun _ => ?_
    refine ok_by (part_ok _ fs.length hm) fun q ⟨j, hq, hj⟩ => ?_
    subst hq
    have k0 := Int.emod_nonneg (n % 11) (b := 2) (by decide)
    have k1 := Int.emod_lt_of_pos (n % 11) (b := 2) (by decide)
    refine ok_bind (ok_at k0 (by show n % 11 % 2 < 2; exact k1) fun w hw => ok_some ?_)
    have := List.mem_of_getElem? hw
    rcases List.mem_cons.mp this with e | e
    · subst e
      exact ⟨.and fs[i] fs[j], rfl, ⟨i, j, hi, hj, List.getElem?_eq_getElem hi, List.getElem?_eq_getElem hj, rfl⟩, fun e => absurd e hne⟩
    · cases List.mem_singleton.mp e
      exact ⟨.unt fs[i] fs[j], rfl, ⟨i, j, hi, hj, List.getElem?_eq_getElem hi, List.getElem?_eq_getElem hj, rfl⟩, fun e => absurd e hne⟩
def szf (f : Fm) : Int × Int := ((f.size : Int), (f.dep : Int))
theorem size_ok {fs : List Fm} {r : Tp SI} {f : Fm} (h : R1 fs fs.length r f) (hb : ∀ g ∈ fs, g.size ≤ 200) : m_law_size (Rk.of r) (fs.map szf) = some (szf f) := by
  have hz : sizeLine = 16777216 := sizeLine_eq
  have at_ : ∀ {j : Nat} {a : Fm}, fs[j]? = some a → atI (fs.map szf) (j : Int) = some (szf a) := fun h => by
    refine atI_nat ?_
    rw [List.getElem?_map, h]
    rfl
  have sz : ∀ {j : Nat} {a : Fm}, fs[j]? = some a → a.size ≤ 200 := fun h => hb _ (List.mem_of_getElem? h)
  have sum_ : ∀ l : List Int, l.length ≤ 10 → (∀ n ∈ l, 0 ≤ n ∧ n ≤ 200) → sumO l = some l.sum := fun l h1 h2 => if_pos ⟨by omega, fun n hn => by have := h2 n hn; omega⟩
  refine OK.eq ?_
  unfold m_law_size
  simp only [Option.bind_assoc, bindS, bind_self]
  cases f with
  | yes =>
    cases (show r = _ from h)
    simp only [Rk.of, Rk.tp, at_s0, bindS, asS, decide_eq_false nl.1.1, cond_false, cut_tailA, mapO]
    refine ok_bind (ok_catL (by show 0 + 1 ≤ sizeLine; omega) ?_)
    simp only [List.nil_append, mapO, bindS]
    exact ok_bind ⟨_, sum_ [0] (by decide) (by decide), ok_some rfl⟩
  | lamp c =>
    cases (show r = _ from h)
    simp only [Rk.of, Rk.tp, at_s0, bindS, asS, lampd, cond_true]
    exact ok_some rfl
  | neg a =>
    obtain ⟨j, hj, hja, rfl⟩ := h
    have s1 := sz hja
    simp only [Rk.of, Rk.tp, at_s0, bindS, asS, asI, decide_eq_false nl.1.2.1, cond_false, cut_tailA, mapO, at_ hja]
    refine ok_bind (ok_catL (by show 1 + 1 ≤ sizeLine; omega) ?_)
    simp only [List.cons_append, List.nil_append, mapO, bindS, szf, maxO, List.foldl_cons, List.foldl_nil]
    refine ok_bind ⟨_, sum_ [(a.size : Int), 0] (by show 2 ≤ 10; decide) (fun n hn => ?_), ok_some ?_⟩
    · simp only [List.mem_cons, List.not_mem_nil, or_false] at hn
      omega
    · simp only [Fm.size, Fm.dep, List.sum_cons, List.sum_nil]
      refine Prod.ext ?_ ?_ <;> dsimp only <;> omega
  | next a =>
    obtain ⟨j, hj, hja, rfl⟩ := h
    have s1 := sz hja
    simp only [Rk.of, Rk.tp, at_s0, bindS, asS, asI, decide_eq_false nl.1.2.2, cond_false, cut_tailA, mapO, at_ hja]
    refine ok_bind (ok_catL (by show 1 + 1 ≤ sizeLine; omega) ?_)
    simp only [List.cons_append, List.nil_append, mapO, bindS, szf, maxO, List.foldl_cons, List.foldl_nil]
    refine ok_bind ⟨_, sum_ [(a.size : Int), 0] (by show 2 ≤ 10; decide) (fun n hn => ?_), ok_some ?_⟩
    · simp only [List.mem_cons, List.not_mem_nil, or_false] at hn
      omega
    · simp only [Fm.size, Fm.dep, List.sum_cons, List.sum_nil]
      refine Prod.ext ?_ ?_ <;> dsimp only <;> omega
  | and a b =>
    obtain ⟨j, j', hj, hj', hja, hjb, rfl⟩ := h
    have s1 := sz hja
    have s2 := sz hjb
    simp only [Rk.of, Rk.tp, at_s0, bindS, asS, asI, decide_eq_false nl.2.1, cond_false, cut_tailA, mapO, at_ hja, at_ hjb]
    refine ok_bind (ok_catL (by show 2 + 1 ≤ sizeLine; omega) ?_)
    simp only [List.cons_append, List.nil_append, mapO, bindS, szf, maxO, List.foldl_cons, List.foldl_nil]
    refine ok_bind ⟨_, sum_ [(a.size : Int), (b.size : Int), 0] (by show 3 ≤ 10; decide) (fun n hn => ?_), ok_some ?_⟩
    · simp only [List.mem_cons, List.not_mem_nil, or_false] at hn
      omega
    · simp only [Fm.size, Fm.dep, List.sum_cons, List.sum_nil]
      refine Prod.ext ?_ ?_ <;> dsimp only <;> omega
  | unt a b =>
    obtain ⟨j, j', hj, hj', hja, hjb, rfl⟩ := h
    have s1 := sz hja
    have s2 := sz hjb
    simp only [Rk.of, Rk.tp, at_s0, bindS, asS, asI, decide_eq_false nl.2.2, cond_false, cut_tailA, mapO, at_ hja, at_ hjb]
    refine ok_bind (ok_catL (by show 2 + 1 ≤ sizeLine; omega) ?_)
    simp only [List.cons_append, List.nil_append, mapO, bindS, szf, maxO, List.foldl_cons, List.foldl_nil]
    refine ok_bind ⟨_, sum_ [(a.size : Int), (b.size : Int), 0] (by show 3 ≤ 10; decide) (fun n hn => ?_), ok_some ?_⟩
    · simp only [List.mem_cons, List.not_mem_nil, or_false] at hn
      omega
    · simp only [Fm.size, Fm.dep, List.sum_cons, List.sum_nil]
      refine Prod.ext ?_ ?_ <;> dsimp only <;> omega
theorem told_ok {fs : List Fm} {r : Tp SI} {f : Fm} (h : R1 fs fs.length r f) : m_law_told (Rk.of r) (fs.map Fm.nt) = some f.nt := by
  have hz : sizeLine = 16777216 := sizeLine_eq
  have at_ : ∀ {j : Nat} {a : Fm}, fs[j]? = some a → atI (fs.map Fm.nt) (j : Int) = some a.nt := fun h => by
    refine atI_nat ?_
    rw [List.getElem?_map, h]
    rfl
  have cut1 : ∀ (a : SI) (l : List SI), cutA (a :: l) none (some (1 : Int)) = [a] := fun a l => cut_hi (a :: l) 1
  have cat_ : ∀ (l : List Nt) (x : Nt), l.length ≤ 5 → catTO ⟨l⟩ ⟨[x]⟩ = some ⟨l ++ [x]⟩ := fun l x hl => if_pos (by show l.length + 1 ≤ sizeLine; omega)
  refine OK.eq ?_
  unfold m_law_told
  simp only [Option.bind_assoc, bindS, bind_self]
  cases f with
  | yes =>
    cases (show r = _ from h)
    simp only [Rk.of, Rk.tp, at_s0, bindS, asS, decide_eq_false nl.1.1, cond_false, cut_tailA, cut1, forO, List.map_cons, List.map_nil, siN]
    exact ⟨_, notN nl.1.1, rfl⟩
  | lamp c =>
    cases (show r = _ from h)
    simp only [Rk.of, Rk.tp, at_s0, bindS, asS, lampd, cond_true]
    exact ok_some rfl
  | neg a =>
    obtain ⟨j, hj, hja, rfl⟩ := h
    simp only [Rk.of, Rk.tp, at_s0, bindS, asS, asI, decide_eq_false nl.1.2.1, cond_false, cut_tailA, cut1, forO, List.map_cons, List.map_nil, siN, at_ hja, cat_ [Nt.txt "not"] a.nt (by show 1 ≤ 5; decide)]
    exact ⟨_, notN nl.1.2.1, rfl⟩
  | next a =>
    obtain ⟨j, hj, hja, rfl⟩ := h
    simp only [Rk.of, Rk.tp, at_s0, bindS, asS, asI, decide_eq_false nl.1.2.2, cond_false, cut_tailA, cut1, forO, List.map_cons, List.map_nil, siN, at_ hja, cat_ [Nt.txt "next"] a.nt (by show 1 ≤ 5; decide)]
    exact ⟨_, notN nl.1.2.2, rfl⟩
  | and a b =>
    obtain ⟨j, j', hj, hj', hja, hjb, rfl⟩ := h
    simp only [Rk.of, Rk.tp, at_s0, bindS, asS, asI, decide_eq_false nl.2.1, cond_false, cut_tailA, cut1, forO, List.map_cons, List.map_nil, siN, at_ hja, at_ hjb, cat_ [Nt.txt "and"] a.nt (by show 1 ≤ 5; decide), cat_ ([Nt.txt "and"] ++ [a.nt]) b.nt (by show 2 ≤ 5; decide)]
    exact ⟨_, notN nl.2.1, rfl⟩
  | unt a b =>
    obtain ⟨j, j', hj, hj', hja, hjb, rfl⟩ := h
    simp only [Rk.of, Rk.tp, at_s0, bindS, asS, asI, decide_eq_false nl.2.2, cond_false, cut_tailA, cut1, forO, List.map_cons, List.map_nil, siN, at_ hja, at_ hjb, cat_ [Nt.txt "until"] a.nt (by show 1 ≤ 5; decide), cat_ ([Nt.txt "until"] ++ [a.nt]) b.nt (by show 2 ≤ 5; decide)]
    exact ⟨_, notN nl.2.2, rfl⟩
structure Boo (L : List (Tp SI)) (fs : List Fm) : Prop where
  b : Bk L fs
  d : Dif fs
  z : ∀ f ∈ fs, f.size ≤ 200 ∧ f.dep ≤ 90
theorem law_book_ok (l : List Int) (most : Int) (hm : 1 ≤ most ∧ most ≤ 200) (hl : l.length ≤ 200) :
    OK (m_law_book l most) fun z => ∃ L fs, z = (L.map Rk.of, fs.map Fm.nt) ∧ Boo L fs ∧ L.length ≤ 200 ∧ (l ≠ [] → fs ≠ []) := by
  have hz : sizeLine = 16777216 := sizeLine_eq
  unfold m_law_book
  simp only [Option.bind_assoc, bindS, bind_self]
  refine ok_bind (ok_for' (fun i (s : List Rk × List (Int × Int) × List Nt) => ∃ L fs, s = (L.map Rk.of, fs.map szf, fs.map Fm.nt) ∧ Boo L fs ∧ L.length ≤ i ∧ (0 < i → fs ≠ []))
    ⟨[], [], rfl, ⟨Bk.nil, Dif.nil, fun f hf => nomatch hf⟩, Nat.le_refl _, fun h => absurd h (by decide)⟩ (fun i a s ha hI => ?_) fun s hI => ?_)
  · obtain ⟨L, fs, rfl, hB, hLi, hne⟩ := hI
    have hi := get_lt ha
    have hbl := hB.b.1
    dsimp only
    rw [List.length_map, hbl]
    refine ok_by (row_ok a fs) fun r ⟨f, er, hr, hsm⟩ => ?_
    rw [er]
    generalize r.tp = rt at hr
    refine ok_bind ⟨_, size_ok hr (fun g hg => (hB.z g hg).1), ?_⟩
    refine ok_cond (fun h => ?_) fun h => ?_
    · simp only [Bool.and_eq_true, Bool.not_eq_true', decide_eq_true_eq, decide_eq_false_iff_not, szf] at h
      obtain ⟨h1, h2, h3⟩ := h
      have h2 : (f.size : Int) ≤ most := of_decide_eq_true h2
      have h3 : (f.dep : Int) ≤ 90 := of_decide_eq_true h3
      have hno : ∀ m : Nat, fs[m]? ≠ some f := fun m hm => by
        obtain ⟨r', h4, h5⟩ := hB.b.at hm
        rw [h5.inj hB.d hr] at h4
        exact h1 (List.mem_map.mpr ⟨rt, List.mem_of_getElem? h4, rfl⟩)
      refine ok_bind (ok_push (by rw [List.length_map]; omega) (ok_bind (ok_push (by rw [List.length_map]; omega) (ok_bind ⟨_, told_ok hr, ok_bind (ok_push (by rw [List.length_map]; omega) (ok_some ⟨_, rfl, L ++ [rt], fs ++ [f], ?_, ⟨hB.b.snoc (by rw [hbl]; exact hr), hB.d.snoc hno, fun g hg => ?_⟩, ?_, fun _ => by simp⟩))⟩))))
      · rw [List.map_append, List.map_append, List.map_append]
        rfl
      · rcases List.mem_append.mp hg with hg | hg
        · exact hB.z g hg
        · rw [List.mem_singleton.mp hg]
          omega
      · rw [List.length_append]
        show L.length + 1 ≤ i + 1
        omega
    · refine ok_some ⟨_, rfl, L, fs, rfl, hB, by omega, fun _ e => ?_⟩
      subst e
      obtain ⟨e1, e2⟩ := hsm rfl
      have : L = [] := List.length_eq_zero_iff.mp hbl
      subst this
      have e3 : decide (f.size ≤ most.toNat) = true := decide_eq_true (by omega)
      have h1 : ((szf f).1 ≤ most) = True := eq_true (by show (f.size : Int) ≤ most; omega)
      have h2 : ((szf f).2 ≤ 90) = True := eq_true (by show (f.dep : Int) ≤ 90; omega)
      simp only [List.map_nil, List.not_mem_nil, h1, h2, decide_true, decide_false, Bool.not_false, Bool.and_self, Bool.true_eq_false] at h
  · obtain ⟨L, fs, rfl, hB, hLi, hne⟩ := hI
    exact ok_some ⟨L, fs, rfl, hB, by omega, fun h => hne (List.length_pos_iff.mpr h)⟩
theorem numbers_ok (s : Scr) (hs : s.l.length ≤ 63) {c : Int} (hc : m_law_cell_at s 0 = some c) : OK (m_law_numbers s) fun l => l.length ≤ 200 ∧ (c % 2 ≠ 0 → c / 4 % 4 = 1 → l ≠ []) := by
  have hz : sizeLine = 16777216 := sizeLine_eq
  unfold m_law_numbers
  simp only [Option.bind_assoc, bindS, bind_self, hc]
  refine ok_cond (fun h => ?_) fun h => ok_cond (fun h2 => ?_) fun h2 => ?_
  · have h := of_decide_eq_true h
    refine ok_bind ⟨_, if_pos (by omega), ok_map (g := fun n => n % 1000000000) (fun a _ => rfl) ⟨?_, fun h3 => absurd h h3⟩⟩
    rw [List.length_map]
    unfold cutA
    rw [List.length_take, List.length_drop]
    omega
  · refine ok_by (cell_at_ok s 1 (by decide) (P := fun _ => True) fun _ => trivial) fun c1 _ => ok_bind (stream_ok c1 100 ⟨by decide, by decide⟩ fun l hl h0 => ?_)
    refine ok_mapR (R := fun _ _ => True) (fun a _ => ?_) fun bs hbs _ _ => ⟨by omega, fun _ _ e => by rw [e] at hbs; simp at hbs; omega⟩
    exact ok_bind (ok_at (Int.emod_nonneg _ (by decide)) (Int.emod_lt_of_pos _ (by decide)) fun x _ => ok_some trivial)
  · have h2 := of_decide_eq_false h2
    have k0 := Int.emod_nonneg (c / 16) (b := 41) (by decide)
    have k1 := Int.emod_lt_of_pos (c / 16) (b := 41) (by decide)
    exact ok_by (cell_at_ok s 1 (by decide) (P := fun _ => True) fun _ => trivial) fun c1 _ => stream_ok c1 _ ⟨k0, by omega⟩ fun l hl h0 => ⟨by omega, fun _ h => absurd h h2⟩
theorem eqN_self (f : Fm) (h : f.dep ≤ 90) : eqNO f.nt f.nt = some true := by
  unfold eqNO
  rw [nt_dep, if_pos ⟨by omega, by omega⟩, decide_eq_true rfl]
theorem neN_self (f : Fm) (h : f.dep ≤ 90) : neNO f.nt f.nt = some false := by
  unfold neNO
  rw [nt_dep, if_pos ⟨by omega, by omega⟩, decide_eq_true rfl]
  rfl
theorem ktup (f : Fm) : isK "tuple" (ToD.to f.nt) = true := by cases f <;> exact id rfl
theorem Boo.size {L : List (Tp SI)} {fs : List Fm} (h : Boo L fs) : ∀ f ∈ fs, f.dep ≤ 95 ∧ f.size ≤ 1000 := fun f hf => by have := h.z f hf; omega
theorem Boo.take {L : List (Tp SI)} {fs : List Fm} (h : Boo L fs) (n : Nat) : Boo (L.take n) (fs.take n) := ⟨h.b.take n, h.d.take n, fun f hf => h.z f (List.mem_of_mem_take hf)⟩
theorem last_ok {L : List (Tp SI)} {fs : List Fm} (hB : Boo L fs) (hl : L.length ≤ 200) {k : Nat} {f : Fm} (hk : fs[k]? = some f) : m_law_last_laid f.nt (L.map Rk.of) = some true := by
  have hf := hB.z f (List.mem_of_getElem? hk)
  obtain ⟨L1, fs1, j, h1, h2, h3, h4, h5, h6, h7, h8⟩ := lay_all 95 f [] [] (by omega) Bk.nil Dif.nil (by simp; omega)
  rw [List.nil_append] at h1 h2 h8
  rw [List.nil_append] at h2 h3 h4
  have hj := h8 fun m => by simp
  have hbook : m_book_of [f.nt] = some (L1.map Rk.of, [(j : Int)]) := by
    unfold m_book_of booksR
    show (((layO m_parts_of 95 [] f.nt).bind fun z => (booksO (layO m_parts_of 95) [] z.1).bind fun y => some (y.1, z.2 :: y.2)).bind fun r => some (r.1.map Rk.of, r.2)) = _
    rw [h1]
    rfl
  have hle : fs1.length ≤ fs.length := nodup_len h3 fun g hg => by
    obtain ⟨i, _, hi⟩ := hB.b.subs hk (h5 g hg)
    exact List.mem_of_getElem? hi
  have e1 := h2.1
  have e2 := hB.b.1
  refine OK.eq ?_
  unfold m_law_last_laid
  simp only [Option.bind_assoc, bindS, bind_self, hbook, List.length_map]
  have d1 : decide ([(j : Int)] = [(L1.length : Int) - 1]) = true := decide_eq_true (by rw [show (j : Int) = (L1.length : Int) - 1 from by omega])
  have d2 : decide ((L1.length : Int) ≤ (L.length : Int)) = true := decide_eq_true (by omega)
  rw [d1, cond_true, d2, cond_true]
  refine ok_bind ⟨(j : Int), atI_nat (j := 0) rfl, ok_bind ⟨_, unf_ok h2 (by omega) h4, ⟨_, eqN_self f hf.2, rfl⟩⟩⟩
theorem law_true (ns : List Int) (hl : ns.length ≤ 63) : m_law ⟨ns⟩ = some true := by
  have hz : sizeLine = 16777216 := sizeLine_eq
  refine OK.eq ?_
  obtain ⟨c, hc, _⟩ := cell_at_ok ⟨ns⟩ 0 (by decide) (P := fun _ => True) fun _ => trivial
  have c0 := Int.emod_nonneg c (b := 2) (by decide)
  have c1 := Int.emod_lt_of_pos c (b := 2) (by decide)
  have d0 := Int.emod_nonneg (c / 4) (b := 4) (by decide)
  have d1 := Int.emod_lt_of_pos (c / 4) (b := 4) (by decide)
  unfold m_law
  simp only [Option.bind_assoc, bindS, bind_self, hc]
  refine ok_bind (ok_mul (.inl ⟨by omega, by omega⟩) ?_)
  generalize hmany : c % 2 * (c / 4 % 4) = many
  refine ok_by (numbers_ok ⟨ns⟩ hl hc) fun l ⟨hll, hlne⟩ => ?_
  have hmost : OK (([(60 : Int), 200] : List Int)[(b01 (decide (many = 1))).toNat]?) fun m => 1 ≤ m ∧ m ≤ 200 := by
    cases decide (many = 1)
    · exact ⟨60, rfl, by decide, by decide⟩
    · exact ⟨200, rfl, by decide, by decide⟩
  refine ok_by hmost fun most hmo => ?_
  refine ok_by (law_book_ok l most hmo hll) fun z ⟨L, fs, ez, hB, hLl, hne⟩ => ?_
  subst ez
  have hbl := hB.b.1
  have at_ : ∀ {j : Nat} {a : Fm}, fs[j]? = some a → atI (fs.map Fm.nt) (j : Int) = some a.nt := fun h => by
    refine atI_nat ?_
    rw [List.getElem?_map, h]
    rfl
  dsimp only
  rw [List.length_map]
  refine ok_bind (ok_rng (n := L.length) (by omega) (by omega) (by omega) ?_)
  have hsp : OK (cond (decide (c / 2 % 2 = 1)) (some ((List.range L.length).map fun (i : Nat) => (0 : Int) + (i : Int)).reverse) (some ((List.range L.length).map fun (i : Nat) => (0 : Int) + (i : Int)))) fun sp => ∀ x ∈ sp, ∃ k f, x = ((k : Nat) : Int) ∧ fs[k]? = some f := by
    have base : ∀ x ∈ ((List.range L.length).map fun (i : Nat) => (0 : Int) + (i : Int)), ∃ k f, x = ((k : Nat) : Int) ∧ fs[k]? = some f := fun x hx => by
      obtain ⟨k, hk, rfl⟩ := List.mem_map.mp hx
      rw [List.mem_range, hbl] at hk
      exact ⟨k, fs[k], by rw [Int.zero_add], List.getElem?_eq_getElem hk⟩
    exact ok_cond (fun _ => ok_some fun x hx => base x (List.mem_reverse.mp hx)) fun _ => ok_some base
  refine ok_by hsp fun sp hsp => ?_
  refine ok_bind (ok_for' (fun _ (_ : Unit) => True) trivial (fun i a s ha _ => ?_) fun s _ => ?_)
  · obtain ⟨k, f, rfl, hk⟩ := hsp a (List.mem_of_getElem? ha)
    have hf := hB.z f (List.mem_of_getElem? hk)
    refine ok_bind ⟨_, unf_ok hB.b (by omega) hk, ?_⟩
    dsimp only
    rw [ktup, at_ hk, bindS, neN_self f hf.2]
    exact ok_some ⟨(), rfl, trivial⟩
  · dsimp only
    refine ok_cond (fun h => ?_) fun h => ?_
    · have h := of_decide_eq_true h
      have hfne : fs ≠ [] := hne (hlne (fun e => by rw [e] at hmany; simp at hmany; omega) (by
        have e2 : c % 2 = 0 ∨ c % 2 = 1 := by omega
        rcases e2 with e2 | e2
        · rw [e2] at hmany; simp at hmany; omega
        · rw [e2] at hmany; omega))
      have hp := List.length_pos_iff.mpr hfne
      have hlast : fs[fs.length - 1]? = some fs[fs.length - 1] := List.getElem?_eq_getElem (by omega)
      have hf := hB.z _ (List.mem_of_getElem? hlast)
      have hL : (L.length : Int) - 1 = ((fs.length - 1 : Nat) : Int) := by omega
      have hat : atI (fs.map Fm.nt) (-1) = some (fs[fs.length - 1]).nt := by
        have hne' : fs.map Fm.nt ≠ [] := fun e => hfne (List.map_eq_nil_iff.mp e)
        obtain ⟨x, h1, h2⟩ := ok_last (P := fun x => x = (fs.map Fm.nt).getLast hne') hne' rfl
        rw [h1, h2, List.getLast_eq_getElem]
        simp
      rw [hL, unf_ok hB.b (by omega) hlast, bindS, hat, bindS, eqN_self _ hf.2, bindS, cond_true]
      exact ⟨_, last_ok hB hLl hlast, rfl⟩
    · have hagain := book_again hB.b hB.d hB.size (by omega)
      refine ok_bind ⟨_, hagain, ?_⟩
      dsimp only
      rw [show (!true || (!decide True || !decide True)) = false from rfl, cond_false]
      rw [show (!true || !true) = false from rfl, cond_false]
      rw [show decide (L.map Rk.of = L.map Rk.of) = true from decide_eq_true rfl]
      rw [show (!true) = false from rfl, cond_false]
      refine ok_bind (ok_bind (ok_rng (n := L.length) (by omega) (by omega) (by omega) (ok_some ?_)))
      rw [show decide (((List.range L.length).map fun (j : Nat) => (0 : Int) + (j : Int)) = (List.range L.length).map fun (j : Nat) => (0 : Int) + (j : Int)) = true from decide_eq_true rfl, show (!true) = false from rfl, cond_false]
      refine ok_cond (fun _ => ok_some rfl) fun h0 => ?_
      have h0 := of_decide_eq_false h0
      refine ok_by (cell_at_ok ⟨ns⟩ 2 (by decide) (P := fun _ => True) fun _ => trivial) fun c2 _ => ?_
      refine ok_bind (ok_mod (by omega) ?_)
      have a0 := Int.emod_nonneg c2 (b := (L.length : Int)) (by omega)
      have a1 := Int.emod_lt_of_pos c2 (b := (L.length : Int)) (by omega)
      obtain ⟨k, hk⟩ := Int.eq_ofNat_of_zero_le a0
      rw [hk] at a1 ⊢
      have hkl : k < fs.length := by omega
      have hkf : fs[k]? = some fs[k] := List.getElem?_eq_getElem hkl
      have hf := hB.z _ (List.mem_of_getElem? hkf)
      have hT := hB.take (k + 1)
      rw [show (k : Int) + 1 = ((k + 1 : Nat) : Int) from by push_cast; rfl, cut_hi, cut_hi, ← List.map_take, ← List.map_take]
      have hlt : (L.take (k + 1)).length ≤ 1000 := by rw [List.length_take]; omega
      rw [unf_ok hT.b hlt (k := k) (f := fs[k]) (by rw [List.getElem?_take_of_lt (by omega)]; exact hkf), bindS, at_ hkf, bindS, eqN_self _ hf.2, bindS, cond_true, book_again hT.b hT.d hT.size hlt, bindS]
      dsimp only
      rw [show decide ((L.take (k + 1)).map Rk.of = (L.take (k + 1)).map Rk.of) = true from decide_eq_true rfl]
      exact ok_some rfl
end My
set_option Elab.async false
set_option linter.all false
set_option maxRecDepth 100000
set_option maxHeartbeats 4000000
namespace My
open PySem PySem.Spec PyProof.Rows L2
theorem law_imp {K : PySem.W.Frag} {vs : List V} {H : Hp} {Q : VK} {E : XK} (h : sp_law K vs H Q E) : spM K mm_law vs H Q E := by
  obtain ⟨a, ns, rfl, hS, hl, q⟩ := h
  exact ⟨H, (⟨ns⟩, ()), true, Same.refl H, ⟨.ref a, [], rfl, ⟨a, rfl, hS⟩, rfl⟩, law_true ns hl, fun v G2 H2 x r => by cases r; exact q H2⟩
set_option maxHeartbeats 1000000 in
theorem all_mk {l : PySem.W.OpenLaw} {w : World} {K : PySem.W.Frag} {h : Heap} {mg : Str → Option Value} {fa : Addr} (X : K.In h) (G : h.Ns mainGlobals mg) (hfa : mg "law" = some (.ref fa))
    {f0 f1 f2 f3 f4 f5 f6 f7 f8 f9 f10 f11 f12 f13 f14 : Addr} {od0 an0 od1 an1 od2 an2 od3 an3 od4 an4 od5 an5 od6 an6 od7 an7 od8 an8 od9 an9 od10 an10 od11 an11 od12 an12 od13 an13 od14 an14 : Option Addr} {sl0 sl1 sl2 sl3 sl4 sl5 sl6 sl7 sl8 sl9 sl10 sl11 sl12 sl13 sl14 : Array (Option Value)} {oc0 kV0 dc0 pm0 cd0 ct0 oc1 kV1 dc1 pm1 cd1 ct1 oc2 kV2 dc2 pm2 cd2 ct2 oc3 kV3 dc3 pm3 cd3 ct3 oc4 kV4 dc4 pm4 cd4 ct4 oc5 kV5 dc5 pm5 cd5 ct5 oc6 kV6 dc6 pm6 cd6 ct6 oc7 kV7 dc7 pm7 cd7 ct7 oc8 kV8 dc8 pm8 cd8 ct8 oc9 kV9 dc9 pm9 cd9 ct9 oc10 kV10 dc10 pm10 cd10 ct10 oc11 kV11 dc11 pm11 cd11 ct11 oc12 kV12 dc12 pm12 cd12 ct12 oc13 kV13 dc13 pm13 cd13 ct13 oc14 kV14 dc14 pm14 cd14 ct14 : Value}
    (a0 : PySem.W.nsIn K mainGlobals "parts_of" = some (some (.ref f0))) (l0 : K.lookup f0 = some ⟨oc0, od0, .func (PySem.W.fnOf "parts_of" "parts_of" (defArgs s_parts_of) (defBody s_parts_of) (defScope s_parts_of) .none kV0 dc0 pm0 an0 cd0 ct0), sl0⟩) (c0 : PySem.W.codeIn K cd0 "parts_of" = true) (k0 : PySem.W.keepIn K (.ref f0) = true)
    (a1 : PySem.W.nsIn K mainGlobals "row_number" = some (some (.ref f1))) (l1 : K.lookup f1 = some ⟨oc1, od1, .func (PySem.W.fnOf "row_number" "row_number" (defArgs s_row_number) (defBody s_row_number) (defScope s_row_number) .none kV1 dc1 pm1 an1 cd1 ct1), sl1⟩) (c1 : PySem.W.codeIn K cd1 "row_number" = true) (k1 : PySem.W.keepIn K (.ref f1) = true)
    (a2 : PySem.W.nsIn K mainGlobals "lay" = some (some (.ref f2))) (l2 : K.lookup f2 = some ⟨oc2, od2, .func (PySem.W.fnOf "lay" "lay" (defArgs s_lay) (defBody s_lay) (defScope s_lay) .none kV2 dc2 pm2 an2 cd2 ct2), sl2⟩) (c2 : PySem.W.codeIn K cd2 "lay" = true) (k2 : PySem.W.keepIn K (.ref f2) = true)
    (a3 : PySem.W.nsIn K mainGlobals "book_of" = some (some (.ref f3))) (l3 : K.lookup f3 = some ⟨oc3, od3, .func (PySem.W.fnOf "book_of" "book_of" (defArgs s_book_of) (defBody s_book_of) (defScope s_book_of) .none kV3 dc3 pm3 an3 cd3 ct3), sl3⟩) (c3 : PySem.W.codeIn K cd3 "book_of" = true) (k3 : PySem.W.keepIn K (.ref f3) = true)
    (a4 : PySem.W.nsIn K mainGlobals "unfolded" = some (some (.ref f4))) (l4 : K.lookup f4 = some ⟨oc4, od4, .func (PySem.W.fnOf "unfolded" "unfolded" (defArgs s_unfolded) (defBody s_unfolded) (defScope s_unfolded) .none kV4 dc4 pm4 an4 cd4 ct4), sl4⟩) (c4 : PySem.W.codeIn K cd4 "unfolded" = true) (k4 : PySem.W.keepIn K (.ref f4) = true)
    (a5 : PySem.W.nsIn K mainGlobals "_law_cell_at" = some (some (.ref f5))) (l5 : K.lookup f5 = some ⟨oc5, od5, .func (PySem.W.fnOf "_law_cell_at" "_law_cell_at" (defArgs s_law_cell_at) (defBody s_law_cell_at) (defScope s_law_cell_at) .none kV5 dc5 pm5 an5 cd5 ct5), sl5⟩) (c5 : PySem.W.codeIn K cd5 "_law_cell_at" = true) (k5 : PySem.W.keepIn K (.ref f5) = true)
    (a6 : PySem.W.nsIn K mainGlobals "_law_stream" = some (some (.ref f6))) (l6 : K.lookup f6 = some ⟨oc6, od6, .func (PySem.W.fnOf "_law_stream" "_law_stream" (defArgs s_law_stream) (defBody s_law_stream) (defScope s_law_stream) .none kV6 dc6 pm6 an6 cd6 ct6), sl6⟩) (c6 : PySem.W.codeIn K cd6 "_law_stream" = true) (k6 : PySem.W.keepIn K (.ref f6) = true)
    (a7 : PySem.W.nsIn K mainGlobals "_law_part" = some (some (.ref f7))) (l7 : K.lookup f7 = some ⟨oc7, od7, .func (PySem.W.fnOf "_law_part" "_law_part" (defArgs s_law_part) (defBody s_law_part) (defScope s_law_part) .none kV7 dc7 pm7 an7 cd7 ct7), sl7⟩) (c7 : PySem.W.codeIn K cd7 "_law_part" = true) (k7 : PySem.W.keepIn K (.ref f7) = true)
    (a8 : PySem.W.nsIn K mainGlobals "_law_row" = some (some (.ref f8))) (l8 : K.lookup f8 = some ⟨oc8, od8, .func (PySem.W.fnOf "_law_row" "_law_row" (defArgs s_law_row) (defBody s_law_row) (defScope s_law_row) .none kV8 dc8 pm8 an8 cd8 ct8), sl8⟩) (c8 : PySem.W.codeIn K cd8 "_law_row" = true) (k8 : PySem.W.keepIn K (.ref f8) = true)
    (a9 : PySem.W.nsIn K mainGlobals "_law_told" = some (some (.ref f9))) (l9 : K.lookup f9 = some ⟨oc9, od9, .func (PySem.W.fnOf "_law_told" "_law_told" (defArgs s_law_told) (defBody s_law_told) (defScope s_law_told) .none kV9 dc9 pm9 an9 cd9 ct9), sl9⟩) (c9 : PySem.W.codeIn K cd9 "_law_told" = true) (k9 : PySem.W.keepIn K (.ref f9) = true)
    (a10 : PySem.W.nsIn K mainGlobals "_law_size" = some (some (.ref f10))) (l10 : K.lookup f10 = some ⟨oc10, od10, .func (PySem.W.fnOf "_law_size" "_law_size" (defArgs s_law_size) (defBody s_law_size) (defScope s_law_size) .none kV10 dc10 pm10 an10 cd10 ct10), sl10⟩) (c10 : PySem.W.codeIn K cd10 "_law_size" = true) (k10 : PySem.W.keepIn K (.ref f10) = true)
    (a11 : PySem.W.nsIn K mainGlobals "_law_book" = some (some (.ref f11))) (l11 : K.lookup f11 = some ⟨oc11, od11, .func (PySem.W.fnOf "_law_book" "_law_book" (defArgs s_law_book) (defBody s_law_book) (defScope s_law_book) .none kV11 dc11 pm11 an11 cd11 ct11), sl11⟩) (c11 : PySem.W.codeIn K cd11 "_law_book" = true) (k11 : PySem.W.keepIn K (.ref f11) = true)
    (a12 : PySem.W.nsIn K mainGlobals "_law_numbers" = some (some (.ref f12))) (l12 : K.lookup f12 = some ⟨oc12, od12, .func (PySem.W.fnOf "_law_numbers" "_law_numbers" (defArgs s_law_numbers) (defBody s_law_numbers) (defScope s_law_numbers) .none kV12 dc12 pm12 an12 cd12 ct12), sl12⟩) (c12 : PySem.W.codeIn K cd12 "_law_numbers" = true) (k12 : PySem.W.keepIn K (.ref f12) = true)
    (a13 : PySem.W.nsIn K mainGlobals "_law_last_laid" = some (some (.ref f13))) (l13 : K.lookup f13 = some ⟨oc13, od13, .func (PySem.W.fnOf "_law_last_laid" "_law_last_laid" (defArgs s_law_last_laid) (defBody s_law_last_laid) (defScope s_law_last_laid) .none kV13 dc13 pm13 an13 cd13 ct13), sl13⟩) (c13 : PySem.W.codeIn K cd13 "_law_last_laid" = true) (k13 : PySem.W.keepIn K (.ref f13) = true)
    (a14 : PySem.W.nsIn K mainGlobals "law" = some (some (.ref f14))) (l14 : K.lookup f14 = some ⟨oc14, od14, .func (PySem.W.fnOf "law" "law" (defArgs s_law) (defBody s_law) (defScope s_law) .none kV14 dc14 pm14 an14 cd14 ct14), sl14⟩) (c14 : PySem.W.codeIn K cd14 "law" = true) (k14 : PySem.W.keepIn K (.ref f14) = true)
    (z0 : PySem.W.nsIn K mainGlobals "isinstance" = some none)
    (z1 : PySem.W.nsIn K mainGlobals "len" = some none)
    (z2 : PySem.W.nsIn K mainGlobals "list" = some none)
    (z3 : PySem.W.nsIn K mainGlobals "max" = some none)
    (z4 : PySem.W.nsIn K mainGlobals "min" = some none)
    (z5 : PySem.W.nsIn K mainGlobals "range" = some none)
    (z6 : PySem.W.nsIn K mainGlobals "reversed" = some none)
    (z7 : PySem.W.nsIn K mainGlobals "sum" = some none)
    (z8 : PySem.W.nsIn K mainGlobals "tuple" = some none) :
    ∃ fd : FuncData, (∀ (s : Shared) (v : Value), BindsTo s fd ⟨[v], []⟩ [("_law_script", v)]) ∧ ∀ base : Heap, K.In base → base.Ns mainGlobals mg → FnOk l.prog w K mg base CX0 100 fa fd ["_law_script"] (sp_law K) := by
  have e := hfa.symm.trans (PySem.W.mg_of X G a14)
  cases e
  have T : Txt mg := ⟨PySem.W.mg_none_of X G z0, PySem.W.mg_none_of X G z1, PySem.W.mg_none_of X G z2, PySem.W.mg_none_of X G z3, PySem.W.mg_none_of X G z4, PySem.W.mg_none_of X G z5, PySem.W.mg_none_of X G z6, PySem.W.mg_none_of X G z7, PySem.W.mg_none_of X G z8⟩
  have F0 := fun_mk (st := s_parts_of) l0 c0 k0
  have b0 := F0.binds (ps := ["sentence"]) fun _ _ _ _ _ _ us hl => match us, hl with | [_], _ => rfl
  have F1 := fun_mk (st := s_row_number) l1 c1 k1
  have b1 := F1.binds (ps := ["rows", "numbers", "row"]) fun _ _ _ _ _ _ us hl => match us, hl with | [_, _, _], _ => rfl
  have F2 := fun_mk (st := s_lay) l2 c2 k2
  have b2 := F2.binds (ps := ["rows", "numbers", "sentence"]) fun _ _ _ _ _ _ us hl => match us, hl with | [_, _, _], _ => rfl
  have F3 := fun_mk (st := s_book_of) l3 c3 k3
  have b3 := F3.binds (ps := ["some"]) fun _ _ _ _ _ _ us hl => match us, hl with | [_], _ => rfl
  have F4 := fun_mk (st := s_unfolded) l4 c4 k4
  have b4 := F4.binds (ps := ["rows", "spot"]) fun _ _ _ _ _ _ us hl => match us, hl with | [_, _], _ => rfl
  have F5 := fun_mk (st := s_law_cell_at) l5 c5 k5
  have b5 := F5.binds (ps := ["_law_script", "_law_k"]) fun _ _ _ _ _ _ us hl => match us, hl with | [_, _], _ => rfl
  have F6 := fun_mk (st := s_law_stream) l6 c6 k6
  have b6 := F6.binds (ps := ["_law_cell", "_law_many"]) fun _ _ _ _ _ _ us hl => match us, hl with | [_, _], _ => rfl
  have F7 := fun_mk (st := s_law_part) l7 c7 k7
  have b7 := F7.binds (ps := ["_law_number", "_law_many"]) fun _ _ _ _ _ _ us hl => match us, hl with | [_, _], _ => rfl
  have F8 := fun_mk (st := s_law_row) l8 c8 k8
  have b8 := F8.binds (ps := ["_law_number", "_law_many"]) fun _ _ _ _ _ _ us hl => match us, hl with | [_, _], _ => rfl
  have F9 := fun_mk (st := s_law_told) l9 c9 k9
  have b9 := F9.binds (ps := ["_law_row_here", "_law_told_here"]) fun _ _ _ _ _ _ us hl => match us, hl with | [_, _], _ => rfl
  have F10 := fun_mk (st := s_law_size) l10 c10 k10
  have b10 := F10.binds (ps := ["_law_row_here", "_law_sizes"]) fun _ _ _ _ _ _ us hl => match us, hl with | [_, _], _ => rfl
  have F11 := fun_mk (st := s_law_book) l11 c11 k11
  have b11 := F11.binds (ps := ["_law_numbers_here", "_law_most"]) fun _ _ _ _ _ _ us hl => match us, hl with | [_, _], _ => rfl
  have F12 := fun_mk (st := s_law_numbers) l12 c12 k12
  have b12 := F12.binds (ps := ["_law_script"]) fun _ _ _ _ _ _ us hl => match us, hl with | [_], _ => rfl
  have F13 := fun_mk (st := s_law_last_laid) l13 c13 k13
  have b13 := F13.binds (ps := ["_law_told_here", "_law_rows"]) fun _ _ _ _ _ _ us hl => match us, hl with | [_, _], _ => rfl
  have F14 := fun_mk (st := s_law) l14 c14 k14
  refine ⟨PySem.W.fnOf "law" "law" (defArgs s_law) (defBody s_law) (defScope s_law) .none kV14 dc14 pm14 an14 cd14 ct14, fun s v => .of_eq rfl, fun base _ _ => ?_⟩
  have D_law_cell_at : DefOk l.prog w K mg base "_law_cell_at" 1 ["_law_script", "_law_k"] (spM K mm_law_cell_at) := def_of F5 (PySem.W.mg_of X G a5) b5 (ok_law_cell_at F5 T)
  have D_law_part : DefOk l.prog w K mg base "_law_part" 1 ["_law_number", "_law_many"] (spM K mm_law_part) := def_of F7 (PySem.W.mg_of X G a7) b7 (ok_law_part F7 T)
  have D_law_row : DefOk l.prog w K mg base "_law_row" 2 ["_law_number", "_law_many"] (spM K mm_law_row) := def_of F8 (PySem.W.mg_of X G a8) b8 (ok_law_row F8 T D_law_part)
  have D_law_size : DefOk l.prog w K mg base "_law_size" 1 ["_law_row_here", "_law_sizes"] (spM K mm_law_size) := def_of F10 (PySem.W.mg_of X G a10) b10 (ok_law_size F10 T)
  have D_law_told : DefOk l.prog w K mg base "_law_told" 1 ["_law_row_here", "_law_told_here"] (spM K mm_law_told) := def_of F9 (PySem.W.mg_of X G a9) b9 (ok_law_told F9 T)
  have D_law_book : DefOk l.prog w K mg base "_law_book" 3 ["_law_numbers_here", "_law_most"] (spM K mm_law_book) := def_of F11 (PySem.W.mg_of X G a11) b11 (ok_law_book F11 T D_law_row D_law_size D_law_told)
  have D_parts_of : DefOk l.prog w K mg base "parts_of" 1 ["sentence"] (spM K mm_parts_of) := def_of F0 (PySem.W.mg_of X G a0) b0 (ok_parts_of F0 T)
  have D_row_number : DefOk l.prog w K mg base "row_number" 1 ["rows", "numbers", "row"] (spB K rownO) := def_of F1 (PySem.W.mg_of X G a1) b1 (ok_row_number F1 T)
  have D_lay : ∀ n : Nat, DefOk l.prog w K mg base "lay" (2 + n) ["rows", "numbers", "sentence"] (spB K (layO m_parts_of n)) := fun n => by
    induction n with
    | zero => exact def_of F2 (PySem.W.mg_of X G a2) b2 (ok0_lay F2)
    | succ n ih => exact def_of F2 (PySem.W.mg_of X G a2) b2 (ok_lay F2 T D_parts_of D_row_number n ih)
  have D_lay : DefOk l.prog w K mg base "lay" 97 ["rows", "numbers", "sentence"] (spB K (layO m_parts_of 95)) := D_lay 95
  have D_book_of : DefOk l.prog w K mg base "book_of" 98 ["some"] (spN K mm_book_of) := def_of F3 (PySem.W.mg_of X G a3) b3 (ok_book_of F3 T D_lay)
  have D_law_stream : DefOk l.prog w K mg base "_law_stream" 1 ["_law_cell", "_law_many"] (spM K mm_law_stream) := def_of F6 (PySem.W.mg_of X G a6) b6 (ok_law_stream F6 T)
  have D_law_numbers : DefOk l.prog w K mg base "_law_numbers" 2 ["_law_script"] (spM K mm_law_numbers) := def_of F12 (PySem.W.mg_of X G a12) b12 (ok_law_numbers F12 T D_law_cell_at D_law_stream)
  have D_unfolded : DefOk l.prog w K mg base "unfolded" 1 ["rows", "spot"] (spM K mm_unfolded) := def_of F4 (PySem.W.mg_of X G a4) b4 (ok_unfolded F4 T)
  have D_law_last_laid : DefOk l.prog w K mg base "_law_last_laid" 99 ["_law_told_here", "_law_rows"] (spM K mm_law_last_laid) := def_of F13 (PySem.W.mg_of X G a13) b13 (ok_law_last_laid F13 T D_book_of D_unfolded)
  exact (ok_law F14 T D_law_cell_at D_law_book D_book_of D_law_numbers D_unfolded D_law_last_laid).imp fun _ _ _ _ h => law_imp h
theorem walk {l : PySem.W.OpenLaw} {q : Program} {loose : List Str} {XP : (Str → Option Value) → Heap → Prop} {YP : World → Heap → Prop} {d : DefRec} {K : Params → PySem.W.Frag} (hn : l.most = some 63) (hdf : d.params.defaults = [])
    (hY : ∀ (w : World) (h : Heap), YP w h → (K w.params).In h)
    (F : ∀ (w : World) (mg : Str → Option Value) (fa : Addr) (h : Heap), (K w.params).In h → h.Ns mainGlobals mg → mg d.name = some (.ref fa) →
      ∃ fd : FuncData, (∀ (s : Shared) (u : Value), BindsTo s fd ⟨[u], []⟩ [("_law_script", u)]) ∧ ∀ base : Heap, (K w.params).In base → base.Ns mainGlobals mg → FnOk l.prog w (K w.params) mg base CX0 100 fa fd ["_law_script"] (sp_law (K w.params))) :
    PySem.W.WalkO q loose XP YP l.row.toRowW d [] (fun f vs => PySem.call f vs) :=
  L2.walk_of (n := 63) (k := 100) (x := "_law_script") (CX := fun _ => CX0) (sp := fun w => sp_law (K w.params)) hn (by decide) hdf ⟨rfl, by decide, by decide⟩ hY F (fun _ _ a ns hl _ hS => ⟨a, ns, rfl, hS, hl, fun _ => rfl⟩) fun _ _ _ _ _ z => z
end My
open PySem PySem.W PyProof.Rows
set_option maxRecDepth 100000 in
set_option maxHeartbeats 0 in
theorem PySem.Challenge.cw_lassoscribe_k17_whole_rows_told_again_holds : PySem.Challenge.rw_lassoscribe_k17_whole_rows_told_again.Holds := by
  w_on; o_law; k_head; (case hw => w_witness2)
  k_fill
  refine My.walk (l := PySem.Challenge.rw_lassoscribe_k17_whole_rows_told_again) rfl rfl (fun w h Y => PySem.W.kIn_of Y) ?F
  case F =>
    intro w mg fa h KX G hmg
    refine' My.all_mk KX G hmg ?a0 ?l0 ?c0 ?k0 ?a1 ?l1 ?c1 ?k1 ?a2 ?l2 ?c2 ?k2 ?a3 ?l3 ?c3 ?k3 ?a4 ?l4 ?c4 ?k4 ?a5 ?l5 ?c5 ?k5 ?a6 ?l6 ?c6 ?k6 ?a7 ?l7 ?c7 ?k7 ?a8 ?l8 ?c8 ?k8 ?a9 ?l9 ?c9 ?k9 ?a10 ?l10 ?c10 ?k10 ?a11 ?l11 ?c11 ?k11 ?a12 ?l12 ?c12 ?k12 ?a13 ?l13 ?c13 ?k13 ?a14 ?l14 ?c14 ?k14 ?z0 ?z1 ?z2 ?z3 ?z4 ?z5 ?z6 ?z7 ?z8
    (case a0 => k_is)
    (case l0 => k_is)
    (case c0 => k_is)
    (case k0 => k_is)
    (case a1 => k_is)
    (case l1 => k_is)
    (case c1 => k_is)
    (case k1 => k_is)
    (case a2 => k_is)
    (case l2 => k_is)
    (case c2 => k_is)
    (case k2 => k_is)
    (case a3 => k_is)
    (case l3 => k_is)
    (case c3 => k_is)
    (case k3 => k_is)
    (case a4 => k_is)
    (case l4 => k_is)
    (case c4 => k_is)
    (case k4 => k_is)
    (case a5 => k_is)
    (case l5 => k_is)
    (case c5 => k_is)
    (case k5 => k_is)
    (case a6 => k_is)
    (case l6 => k_is)
    (case c6 => k_is)
    (case k6 => k_is)
    (case a7 => k_is)
    (case l7 => k_is)
    (case c7 => k_is)
    (case k7 => k_is)
    (case a8 => k_is)
    (case l8 => k_is)
    (case c8 => k_is)
    (case k8 => k_is)
    (case a9 => k_is)
    (case l9 => k_is)
    (case c9 => k_is)
    (case k9 => k_is)
    (case a10 => k_is)
    (case l10 => k_is)
    (case c10 => k_is)
    (case k10 => k_is)
    (case a11 => k_is)
    (case l11 => k_is)
    (case c11 => k_is)
    (case k11 => k_is)
    (case a12 => k_is)
    (case l12 => k_is)
    (case c12 => k_is)
    (case k12 => k_is)
    (case a13 => k_is)
    (case l13 => k_is)
    (case c13 => k_is)
    (case k13 => k_is)
    (case a14 => k_is)
    (case l14 => k_is)
    (case c14 => k_is)
    (case k14 => k_is)
    (case z0 => k_is)
    (case z1 => k_is)
    (case z2 => k_is)
    (case z3 => k_is)
    (case z4 => k_is)
    (case z5 => k_is)
    (case z6 => k_is)
    (case z7 => k_is)
    (case z8 => k_is)
