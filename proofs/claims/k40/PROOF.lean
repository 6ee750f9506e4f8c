import PyProof.Rows.All
import Wide.All
import OpenK.AllK
import Wide.FinOn
import Lean
import PyProof.EqAt
import PyProof.EqKinds
import PyProof.TupleCall
import PyProof.NeKinds
import PyProof.EnumFor
import PyProof.EnumMake
import PyProof.Rows.EnumRows
import PyProof.Rows.Range3
import PyProof.NoPylong
import PyProof.ListRange
import PyProof.TupleOfSeq
import PyProof.TupleOfStr
import PyProof.Draws
import PyProof.ZipIter
import PyProof.Rows.ZipGen
import PyProof.Rows.SortStr
import PyProof.Rows.TupAdd
import PyProof.SetRoads
import PyProof.Rows.SetFrom
import PyProof.StrWalks
import PyProof.CollectWalk
import KE.KDictList
import PyProof.Tail
import PyProof.TupleIter
import PyProof.AttrMiss
import KE.KDictOf
import OpenK.KTop
import PyProof.Rows.SortRev
import PyProof.Rows.CallKwBuiltin
import PyProof.Rows.CallKw2
import KE.KRevIter
import PyProof.SumWalkG
import Wide.Seal
import PyProof.AttrMissHeap
import PySem.Challenge.RW_lassoscribe_k40_rows_gone
open Option renaming bind_eq_some_iff → qaA, map_eq_some_iff → qiB, bind_assoc → qpB
open PySem renaming wpAny_bind → qbA, wpAny_pure → qcA, wpAny_holding → qdA, sizeLine_eq → qoB, wpAny_call_entry → qbC, wpAny_setState_of → qcC
open List renaming length_map → qeA, length_append → qfA, length_cons → qgA, length_singleton → qhA, length_range → qiA, length_take → qjA, mem_append → qkA, mem_cons → qmA, mem_map → qnA, mem_filter → qoA, mem_singleton → qpA, mem_cons_self → qqA, mem_cons_of_mem → qrA, mem_range → qsA, mem_of_getElem? → qtA, getElem?_eq_some_iff → quA, getElem?_eq_getElem → qvA, getElem?_append_left → qwA, getElem?_append_right → qxA, getElem?_eq_none → qyA, getElem?_map → qzA, map_cons → qaB, map_append → qbB, append_assoc → qcB, append_nil → qdB, nodup_append → qeB, size_toArray → qvB, mem_append_right → qaC, foldl_cons → qdC
open Nat renaming le_refl → qfB, le_trans → qgB, lt_irrefl → qhB, ne_of_lt → qyB, lt_of_lt_of_le → qzB, zero_le → qeC
open Option.some renaming inj → qjB
open PySem.Heap renaming lt_size → qkB, get?_push_of_some → qmB, get?_push_size → qnB
open Int renaming toNat_natCast → qqB, eq_ofNat_of_zero_le → qrB, emod_nonneg → qsB, emod_lt_of_pos → qtB
open Bool renaming false_ne_true → quB, and_eq_true → qfC
open PySem.W renaming fnOf → qwB
open Array renaming length_toList → qxB
noncomputable section
set_option Elab.async false
set_option linter.all false
set_option maxRecDepth 100000
set_option maxHeartbeats 4000000
local macro_rules
 | `(command| def $i:declId $s:optDeclSig $v:declVal) => `(command| noncomputable def $i:declId $s:optDeclSig $v:declVal)
 | `(command| abbrev $i:declId $s:optDeclSig $v:declVal) => `(command| noncomputable abbrev $i:declId $s:optDeclSig $v:declVal)
local macro_rules
 | `(tactic| clear $n:num $rs*) => do
  let i := fun (n : Lean.Name) => Lean.mkIdent n
  match n.getNat with
  | 7 => let l := #[`G1, `s1, `c, `hc, `H, `sH, `Q, `k].map i; `(tactic| intro $l:ident*)
  | 8 => `(tactic| refine $(rs[0]!) $(i `G1) $(i `s1) $(rs[1]!) $(rs[2]!) $(i `H) $(i `sH) _ fun $(i `v) $(i `G2) $(i `H2) $(i `x2) $(i `r2) => ?_)
  | _ => Lean.Macro.throwUnsupported
theorem bE {α β : Type} {o : Option α} {f : α -> Option β} {b : β} {C : Prop} (h : o.bind f = some b) (k : ∀ a, o = some a -> f a = some b -> C) : C := by
 obtain ⟨a, h1, h2⟩ := qaA.mp h;exact k a h1 h2
abbrev FZ9 := PySem.W.Frag
namespace L2
open PySem PySem.Spec PyProof.Rows
abbrev Key:=Sum Int Str
def FQ:Key->Value->Bool
 | .inl k,v=>Value.isInt k v
 | .inr x,v=>Value.isStrOf x v
def P9 (w:World):Key->Int
 | .inl k=>hashInt k
 | .inr x=>hashStr w x
theorem Bl:∀ {k:Key}{v:Value},FQ k v=true->(∃ i t,k=Sum.inl i/\v=Value.int i t)\/(∃ x t,k=Sum.inr x/\v=Value.str x t)
 | .inl i,v,h=>by
  obtain ⟨t,e⟩:=Value.isInt_shape (k:=i) (v:=v) h;exact .inl ⟨i,t,rfl,e⟩
 | .inr x,v,h=>by
  obtain ⟨t,e⟩:=Value.isStrOf_shape (x:=x) (v:=v) h;exact .inr ⟨x,t,rfl,e⟩
theorem SR (i:Int)(t:Tok):FQ (.inl i) (.int i t)=true:=by simp [FQ,Value.isInt]
theorem Ma (x:Str)(t:Tok):FQ (.inr x) (.str x t)=true:=by simp [FQ,Value.isStrOf]
theorem key_ll (a b:Int):decide ((Sum.inl a:Key)=Sum.inl b)=(a == b):=by
 by_cases e:a=b
 ·subst e;simp
 ·have h:¬ (Sum.inl a:Key)=Sum.inl b:=fun q=>e (Sum.inl.inj q);rw [decide_eq_false h];exact (beq_eq_false_iff_ne.mpr e).symm
theorem key_rr (a b:Str):decide ((Sum.inr a:Key)=Sum.inr b)=decide (a=b):=by
 by_cases e:a=b
 ·subst e;simp
 ·have h:¬ (Sum.inr a:Key)=Sum.inr b:=fun q=>e (Sum.inr.inj q);rw [decide_eq_false h,decide_eq_false e]
theorem key_lr (a:Int)(b:Str):decide ((Sum.inl a:Key)=Sum.inr b)=false:=decide_eq_false (fun q=>nomatch q)
theorem key_rl (a:Str)(b:Int):decide ((Sum.inr a:Key)=Sum.inl b)=false:=decide_eq_false (fun q=>nomatch q)
def BN (prog:Program)(w:World):PySem.KeyKind prog w Key where
 is:=FQ
 hash:=P9 w
 inj:=fun v a b ha hb=>by
  rcases Bl ha with ⟨i,t,rfl,rfl⟩ | ⟨x,t,rfl,rfl⟩
  ·rcases Bl hb with ⟨j,u,rfl,e⟩ | ⟨y,u,rfl,e⟩
   ·injection e with e1 _;rw [e1]
   ·exact nomatch e
  ·rcases Bl hb with ⟨j,u,rfl,e⟩ | ⟨y,u,rfl,e⟩
   ·exact nomatch e
   ·injection e with e1 _;rw [e1]
 byValue:=fun k v h=>by
  rcases Bl h with ⟨i,t,rfl,rfl⟩ | ⟨x,t,rfl,rfl⟩<;>rfl
 pyHash:=fun hv h=>by
  rcases Bl hv with ⟨i,t,rfl,rfl⟩ | ⟨x,t,rfl,rfl⟩
  ·exact wpAny_pyHash_int h
  ·exact wpAny_pyHash_str h
 eqBool:=fun hu hv h=>by
  rcases Bl hu with ⟨i,t,rfl,rfl⟩ | ⟨x,t,rfl,rfl⟩
  ·rcases Bl hv with ⟨j,u,rfl,rfl⟩ | ⟨y,u,rfl,rfl⟩
   ·rw [key_ll] at h;exact wpAny_eqBool_int h
   ·rw [key_lr] at h;exact SeqAt.EqAt.int_str i t y u _ _ _ _ h
  ·rcases Bl hv with ⟨j,u,rfl,rfl⟩ | ⟨y,u,rfl,rfl⟩
   ·rw [key_rl] at h;exact SeqAt.EqAt.str_int x t j u _ _ _ _ h
   ·rw [key_rr] at h;exact wpAny_eqBool_str h
 «strs»:=fun k x t v h=>by
  rcases Bl h with ⟨i,u,rfl,e⟩ | ⟨y,u,rfl,e⟩
  ·exact nomatch e
  ·injection e with e1 _
   subst e1;cases v<;>rfl
theorem OG (prog:Program)(w:World)(i:Int)(t:Tok):(BN prog w).is (.inl i) (.int i t)=true:=SR i t
theorem Ot (prog:Program)(w:World)(x:Str)(t:Tok):(BN prog w).is (.inr x) (.str x t)=true:=Ma x t
inductive V where
 | non|bl (b:Bool)|int (i:Int)|str (x:Str)|byt (b:Array UInt8)|flt (b:UInt64)|ref (a:Addr)|ty (n:String)
 deriving DecidableEq
def RelV:V->Value->Prop
 | .non,u=>u=Value.none
 | .bl b,u=>u=Value.bool b
 | .int i,u=>∃ t,u=Value.int i t
 | .str x,u=>∃ t,u=Value.str x t
 | .byt b,u=>∃ t,u=Value.bytes b t
 | .flt b,u=>∃ t,u=Value.float b t
 | .ref a,u=>u=Value.ref a
 | .ty n,u=>u=Value.type n
abbrev Vals:List V->List Value->Prop:=Paired RelV
theorem Vals.length {xs:List V}{us:List Value}(r:Vals xs us):xs.length=us.length:=Paired.length r
theorem Vals.get:∀ {xs:List V}{us:List Value}{i:Nat}{x:V},Vals xs us->xs[i]? = some x->∃ u,us[i]? = some u/\RelV x u
 | _,_,_,_,.nil,e=>by simp at e
 | _,_,0,_,.cons r _,e=>by simp at e;subst e;exact ⟨_,rfl,r⟩
 | _,_,i+1,x,.cons _ t,e=>by
  obtain ⟨u,h1,h2⟩:=Vals.get (i:=i) (x:=x) t (by simpa using e);exact ⟨u,by simpa using h1,h2⟩
theorem Vals.set {x:V}{u:Value}(r:RelV x u):∀ {xs:List V}{us:List Value}(i:Nat),Vals xs us->Vals (xs.set i x) (us.set i u)
 | _,_,_,.nil=>.nil
 | _,_,0,.cons _ t=>.cons r t
 | _,_,i+1,.cons q t=>.cons q (Vals.set r i t)
theorem Vals.append:∀ {xs ys:List V}{us ws:List Value},Vals xs us->Vals ys ws->Vals (xs++ys) (us++ws)
 | _,_,_,_,.nil,s=>s
 | _,_,_,_,.cons r t,s=>.cons r (Vals.append t s)
theorem Vals.take:∀ {xs:List V}{us:List Value}(n:Nat),Vals xs us->Vals (xs.take n) (us.take n)
 | _,_,0,_=>.nil
 | _,_,_+1,.nil=>.nil
 | _,_,n+1,.cons r t=>.cons r (Vals.take n t)
theorem Vals.drop:∀ {xs:List V}{us:List Value}(n:Nat),Vals xs us->Vals (xs.drop n) (us.drop n)
 | _,_,0,r=>r
 | _,_,_+1,.nil=>.nil
 | _,_,n+1,.cons _ t=>Vals.drop n t
def RelO:Option V->Option Value->Prop
 | some v,some u=>RelV v u
 | none,none=>True
 | _,_=>False
def KV {κ:Type}:List (κ × V)->List (κ × Value)->Prop:=Paired fun (p:κ × V) (q:κ × Value)=>p.1=q.1/\RelV p.2 q.2
def kV:Key->V
 | .inl i=>.int i
 | .inr x=>.str x
inductive HO where
 | lst (xs:List V)
 | tup (xs:List V)
 | dK (kvs:List (Key × V))|dT (kvs:List (List Key × V))
 | set (S:Int->Bool) (n:Nat)
 | ins (C dx:Addr) (fs:List (Str × V))
 | own (x:Addr)
 | xd (fs:List (Str × V))
 | met (f x:Addr)
 | rng (lo hi:Int)
 | frz (o:Obj) (u:HO)
 | tbl (ps:Array Value)
 | ext (φ:Heap->Prop)
abbrev Hp:=Addr->Option HO
def upd (H:Hp)(a:Addr)(o:HO):Hp:=fun b=>if b=a then some o else H b
theorem AQ {H:Hp}{a:Addr}{o:HO}:upd H a o a=some o:=by unfold upd;rw [if_pos rfl]
theorem At {H:Hp}{a b:Addr}{o:HO}(h:b≠a):upd H a o b=H b:=by unfold upd;rw [if_neg h]
theorem upd_upd {H:Hp}{a:Addr}{o u:HO}:upd (upd H a o) a u=upd H a u:=by
 funext b;unfold upd;split<;>rfl
theorem PL {H:Hp}{a b:Addr}{o u:HO}(h:H a=some o)(h':H b=some u)(d:o≠u):a≠b:=by
 intro e;subst e;rw [h] at h';exact d (qjB h')
theorem B7 {H:Hp}{a b:Addr}{o:HO}(h:H a=some o)(h':H b=none):a≠b:=by
 intro e;subst e;rw [h] at h';cases h'
section
variable (P:Program)(w:World)
def ObjOk (H:Hp)(h:Heap)(a:Addr):HO->Prop
 | .lst xs=>xs.length<=sizeLine/\∃ (its:List Value) (n:Nat),Vals xs its/\h.get? a=some { cls:=.type "list",data:=.seq its.toArray n }
 | .tup xs=>xs.length<=sizeLine/\∃ its:List Value,Vals xs its/\IsTup h a its.toArray
 | .dK kvs=>kvs.length<=sizeLine/\(a == sysModules)=false/\∃ vs,KV kvs vs/\h.DictOf (BN P w) a vs
 | .dT kvs=>kvs.length<=sizeLine/\(a == sysModules)=false/\∃ xs:List (List Key × Addr × Value),
   Paired (fun (p:List Key × V) (q:List Key × Addr × Value)=>p.1=q.1/\H q.2.1=some (.tup (p.1.map kV))/\RelV p.2 q.2.2) kvs xs /\
   ∃ o es ep,h.get? a=some o/\o.ExactDict/\o.data = .dict es ep/\es.toList=xs.map (entryOfKey (tupleKind (BN P w)))/\(xs.map (·.1)).Nodup
 | .set S n=>h.SetOf (intKind P w) a S n
 | .ins C dx fs=>H dx=some (.own a)/\fs.length<=1000/\dx≠a/\h.get? a=some (PySem.W.instObj C dx) /\
   ∃ mA,h.Ns1 dx mA/\(∀ f,RelO (fs.lookup f) (mA f))/\PySem.Within mA (fs.map (·.1))
 | .own _=>∃ o,h.get? a=some o
 | .xd fs=>∃ mA,h.Ns1 a mA/\∀ f,RelO (fs.lookup f) (mA f)
 | .rng lo hi=>∃ t u v,h.get? a=some { cls:=.type "range",data:=.fields #[.int lo t,.int hi u,.int 1 v] }
 | .frz o u=>h.get? a=some o/\ObjOk H h a u
 | .tbl ps=>h.get? a=some { cls:=.none,data:=.fields ps }
 | .met f x=>h.get? a=some (PySem.W.methodObj (.ref f) (.ref x))
 | .ext φ=>φ h/\(∃ o,h.get? a=some o)/\∀ h1 h2:Heap,φ h1->(∀ o,h1.get? a=some o->h2.get? a=some o)->φ h2
def HOk (H:Hp)(h:Heap):Prop:=∀ a o,H a=some o->ObjOk P w H h a o
end
section
variable {P:Program}{w:World}{H H':Hp}{h h':Heap}{a:Addr}{o:HO}
theorem ObjOk.lt (x:ObjOk P w H h a o):a<h.objs.size:=by
 cases o with
 | lst xs=>obtain ⟨_,_,_,_,e⟩:=x;exact qkB e
 | tup xs=>obtain ⟨_,_,_,p⟩:=x;exact p.lt
 | dK kvs=>obtain ⟨_,_,_,_,o,_,_,e,_⟩:=x;exact qkB e
 | dT kvs=>obtain ⟨_,_,_,_,o,_,_,e,_⟩:=x;exact qkB e
 | set S n=>obtain ⟨o,_,_,_,e,_⟩:=x;exact qkB e
 | ins C dx fs=>obtain ⟨_,_,_,e,_⟩:=x;exact qkB e
 | own y=>obtain ⟨_,e⟩:=x;exact qkB e
 | xd fs=>obtain ⟨_,⟨_,_,_,e,_⟩,_⟩:=x;exact qkB e
 | rng lo hi=>obtain ⟨_,_,_,e⟩:=x;exact qkB e
 | frz ob u=>obtain ⟨e,_⟩:=x;exact qkB e
 | tbl ps=>exact qkB (show h.get? a=some _ from x)
 | met f y=>exact qkB (show h.get? a=some _ from x)
 | ext φ=>obtain ⟨_,⟨_,e⟩,_⟩:=x;exact qkB e
theorem Paired.mapP {α β:Type}{F G:α->β->Prop}:∀ {l₁:List α}{l₂:List β},Paired F l₁ l₂->(∀ a b,F a b->G a b)->Paired G l₁ l₂
 | _,_,.nil,_=>.nil
 | _,_,.cons r t,f=>.cons (f _ _ r) (Paired.mapP t f)
theorem Paired.imp' {α β:Type}{F G:α->β->Prop}(f:∀ a b,F a b->G a b){l₁:List α}{l₂:List β}(r:Paired F l₁ l₂):Paired G l₁ l₂:=Paired.mapP r f
theorem ObjOk.stay (x:ObjOk P w H h a o)(k:∀ b u,(b=a\/H b=some (.own a))->h.get? b=some u->h'.get? b=some u)
  (ho:∀ b,H b=some (.own a)->H' b=some (.own a)) (ht:∀ b xs,H b=some (.tup xs)->H' b=some (.tup xs)):ObjOk P w H' h' a o:=by
 induction o with
 | lst xs=>obtain ⟨z,its,n,r,e⟩:=x;exact ⟨z,its,n,r,k _ _ (.inl rfl) e⟩
 | tup xs=>obtain ⟨z,its,r,ob,e,c⟩:=x;exact ⟨z,its,r,ob,k _ _ (.inl rfl) e,c⟩
 | dK kvs=>obtain ⟨z,y,vs,r,ob,es,ep,e,c⟩:=x;exact ⟨z,y,vs,r,ob,es,ep,k _ _ (.inl rfl) e,c⟩
 | dT kvs =>
  obtain ⟨z,y,xs,r,ob,es,ep,e,c⟩:=x;exact ⟨z,y,xs,Paired.mapP r fun p q z=>⟨z.1,ht _ _ z.2.1,z.2.2⟩,ob,es,ep,k _ _ (.inl rfl) e,c⟩
 | set S n=>obtain ⟨ob,es,ep,t,e,c⟩:=x;exact ⟨ob,es,ep,t,k _ _ (.inl rfl) e,c⟩
 | ins C dx fs =>
  obtain ⟨d,z,ne,e,mA,⟨od,es,ep,e2,c⟩,r⟩:=x;exact ⟨ho _ d,z,ne,k _ _ (.inl rfl) e,mA,⟨od,es,ep,k _ _ (.inr d) e2,c⟩,r⟩
 | own y=>obtain ⟨ob,e⟩:=x;exact ⟨ob,k _ _ (.inl rfl) e⟩
 | xd fs=>obtain ⟨mA,⟨od,es,ep,e,c⟩,r⟩:=x;exact ⟨mA,⟨od,es,ep,k _ _ (.inl rfl) e,c⟩,r⟩
 | rng lo hi=>obtain ⟨t,u,v,e⟩:=x;exact ⟨t,u,v,k _ _ (.inl rfl) e⟩
 | frz ob u ih=>obtain ⟨e,q⟩:=x;exact ⟨k _ _ (.inl rfl) e,ih q⟩
 | tbl ps =>
  have e:h.get? a=some { cls:=.none,data:=.fields ps }:=x;show h'.get? a=some { cls:=.none,data:=.fields ps };exact k a _ (.inl rfl) e
 | met f y =>
  have e:h.get? a=some (PySem.W.methodObj (.ref f) (.ref y)):=x;show h'.get? a=some (PySem.W.methodObj (.ref f) (.ref y));exact k a _ (.inl rfl) e
 | ext φ=>obtain ⟨p,⟨o,e⟩,st⟩:=x;exact ⟨st _ _ p fun o q=>k _ _ (.inl rfl) q,⟨o,k _ _ (.inl rfl) e⟩,st⟩
theorem HOk.lt (x:HOk P w H h)(e:H a=some o):a<h.objs.size:=(x a o e).lt
theorem HOk.fresh (x:HOk P w H h)(e:h.objs.size<=a):H a=none:=by
 cases q:H a with
 | none=>rfl
 | some u=>exact absurd (qzB (x.lt q) e) (qhB _)
theorem HOk.kept (x:HOk P w H h)(k:∀ b u,h.get? b=some u->h'.get? b=some u):HOk P w H h':=fun a o e =>
 (x a o e).stay (fun b u _ q=>k b u q) (fun _ q=>q) fun _ _ q=>q
theorem HOk.laid (x:HOk P w H h)(k:∀ b u,h.get? b=some u->h'.get? b=some u)(hp:h.objs.size<=a)(new:ObjOk P w (upd H a o) h' a o):HOk P w (upd H a o) h':=fun b u e=>by
 have hn:=x.fresh hp;by_cases hb:b=a
 ·subst hb;rw [AQ] at e;cases e;exact new
 ·rw [At hb] at e;exact (x b u e).stay (fun c v _ q=>k c v q) (fun c q=>by rw [At (B7 q hn)];exact q) fun c xs q=>by rw [At (B7 q hn)];exact q
end
def Rd (H:Hp)(a:Addr)(u:HO):Prop:=H a=some u\/∃ o,H a=some (.frz o u)
theorem Rd.ok {P:Program}{w:World}{H:Hp}{h:Heap}{a:Addr}{u:HO}(r:Rd H a u)(x:HOk P w H h):ObjOk P w H h a u:=by
 rcases r with r | ⟨o,r⟩
 ·exact x a u r
 ·obtain ⟨_,q⟩:=x a _ r;exact q
def Mut:Option HO->Prop
 | some (.lst _)=>True
 | some (.dK _)=>True
 | some (.dT _)=>True
 | some (.set _ _)=>True
 | some (.ins _ _ _)=>True
 | some (.ext _)=>True
 | _=>False
section
variable {P:Program}{w:World}{H:Hp}{h h':Heap}{x e:Addr}{o':HO}
theorem HOk.write (ok:HOk P w H h)(mu:Mut (H x))(he:e=x\/H e=some (.own x))(k:∀ b u,b≠e->h.get? b=some u->h'.get? b=some u)(heo:∃ u,h'.get? e=some u)
  (new:ObjOk P w (upd H x o') h' x o'):HOk P w (upd H x o') h':=fun b u q=>by
 have nown:∀ c y,H c=some (.own y)->c≠x:=fun c y r z=>by subst z;rw [r] at mu;exact mu
 have ntup:∀ c xs,H c=some (.tup xs)->c≠x:=fun c xs r z=>by subst z;rw [r] at mu;exact mu
 by_cases hb:b=x
 ·subst hb;rw [AQ] at q;cases q;exact new
 ·rw [At hb] at q;by_cases hbe:b=e
  ·have q':H b=some (.own x):=by
    rcases he with z|z
    ·exact absurd (hbe.trans z) hb
    ·rw [hbe];exact z
   rw [q] at q';cases q';obtain ⟨v,hv⟩:=heo;exact ⟨v,by rw [hbe];exact hv⟩
  ·refine (ok b u q).stay (fun c v hc r=>k c v ?_ r) (fun c r=>by rw [At (nown c b r)];exact r) fun c xs r=>by rw [At (ntup c xs r)];exact r
   rcases hc with rfl|hc
   ·exact hbe
   ·rintro rfl;rcases he with z|z
    ·exact nown c b hc z
    ·rw [hc] at z;cases z;exact hb rfl
end
structure Un (fs ex:List Addr)(H H':Hp)(h h':Heap):Prop where
 keep:∀ b o,h.get? b=some o->H b=none->b ∉ fs->b ∉ ex->h'.get? b=some o
 slot:∀ b o,h.get? b=some o->H b=none->b∈fs->b ∉ ex->∃ sl,h'.get? b=some { o with slots:=sl }
 free:∀ b o,h.get? b=some o->H b=none->b ∉ ex->H' b=none
 there:∀ b o,h.get? b=some o->b ∉ ex->∃ o',h'.get? b=some o'
 tups:∀ b xs,H b=some (.tup xs)->H' b=some (.tup xs)
 frzs:∀ b o u,H b=some (.frz o u)->H' b=some (.frz o u)
 tbls:∀ b ps,H b=some (.tbl ps)->∃ more,H' b=some (.tbl (ps++more))
section
variable {fs fs' ex ex':List Addr}{H H1 H2:Hp}{h h1 h2 h':Heap}{a x e:Addr}{o:HO}
theorem Un.any (u:Un fs ex H H1 h h1){b:Addr}{ob:Obj}(q:h.get? b=some ob)(n:H b=none)(hx:b ∉ ex):∃ sl,h1.get? b=some { ob with slots:=sl }:=by
 by_cases hb:b∈fs
 ·exact u.slot b ob q n hb hx
 ·exact ⟨ob.slots,u.keep b ob q n hb hx⟩
theorem Un.kept (k:∀ b u,h.get? b=some u->h'.get? b=some u):Un fs ex H H h h' :=
 ⟨fun b ob q _ _ _=>k b ob q,fun b ob q _ _ _=>⟨ob.slots,k b ob q⟩,fun _ _ _ n _=>n,fun b ob q _=>⟨ob,k b ob q⟩,fun _ _ q=>q,fun _ _ _ q=>q,fun _ ps q=>⟨#[],by rw [q];simp⟩⟩
theorem Un.refl:Un fs ex H H h h:=Un.kept fun _ _ q=>q
theorem Un.laid (k:∀ b u,h.get? b=some u->h'.get? b=some u)(hp:h.objs.size<=a)(hn:H a=none):Un fs ex H (upd H a o) h h' where
 keep:=fun b u q _ _ _=>k b u q
 slot:=fun b u q _ _ _=>⟨u.slots,k b u q⟩
 free:=fun b u q n _=>by rw [At (qyB (qzB (qkB q) hp))];exact n
 there:=fun b u q _=>⟨u,k b u q⟩
 tups:=fun b xs q=>by rw [At (B7 q hn)];exact q
 frzs:=fun b u xs q=>by rw [At (B7 q hn)];exact q
 tbls:=fun b ps q=>⟨#[],by rw [At (B7 q hn),q];simp⟩
theorem Un.write (mu:Mut (H x))(he:e=x\/H e=some (.own x))(k:∀ b u,b≠e->h.get? b=some u->h'.get? b=some u)(heo:∃ u,h'.get? e=some u):Un fs ex H (upd H x o) h h':=by
 have hx:∀ b,H b=none->b≠x:=fun b n z=>by subst z;rw [n] at mu;exact mu
 have hb:∀ b,H b=none->b≠e:=fun b n z=>by
  subst z;rcases he with r|r
  ·exact hx b n r
  ·rw [n] at r;cases r
 have hm:∀ b u,H b=some u->¬ Mut (some u)->b≠x:=fun b u q nm z=>by subst z;rw [q] at mu;exact nm mu
 refine ⟨fun b u q n _ _=>k b u (hb b n) q,fun b u q n _ _=>⟨u.slots,k b u (hb b n) q⟩,fun b u q n _=>by rw [At (hx b n)];exact n,fun b u q _=>?_,
  fun b xs q=>by rw [At (hm b _ q fun z=>z)];exact q,fun b u xs q=>by rw [At (hm b _ q fun z=>z)];exact q,fun b ps q=>⟨#[],by rw [At (hm b _ q fun z=>z),q];simp⟩⟩
 by_cases hbe:b=e
 ·subst hbe;exact heo
 ·exact ⟨u,k b u hbe q⟩
end
def trk (h:Heap)(H:Hp):List Addr:=(List.range h.objs.size).filter fun a=>(H a).isSome
def No (h:Heap)(H:Hp):Heap:=PySem.W.hideAll h (trk h H)
theorem SG (h:Heap)(H:Hp):(No h H).objs.size=h.objs.size:=PySem.W.hideAll_size _ _
theorem hidT_get {h:Heap}{H:Hp}{b:Addr}{o:Obj}(e:h.get? b=some o)(n:H b=none):(No h H).get? b=some o :=
 PySem.W.hideAll_get _ e fun hm=>by
  have q:(H b).isSome=true:=(qoA.mp hm).2;rw [n] at q;simp at q
theorem of_hidT {h:Heap}{H:Hp}{b:Addr}{o:Obj}(e:(No h H).get? b=some o):h.get? b=some o/\H b=none:=by
 have e':h.get? b=some o:=PySem.W.of_hideAll (trk h H) e;refine ⟨e',?_⟩
 cases q:H b with
 | none=>rfl
 | some x =>
  have hm:b∈trk h H:=qoA.mpr ⟨qsA.mpr (qkB e'),by simp [q]⟩;have z:(No h H).get? b=none:=PySem.W.hideAll_none (trk h H) hm;rw [z] at e;cases e
structure Mod (K:FZ9)(mg:Str->Option Value)(base:Heap):Prop where
 kin:K.In base
 glob:base.Ns mainGlobals mg
 blt:∃ mb,base.Ns builtinsNs mb/\∀ x:Str,x ≠ "__name__" -> mb x=bootBuiltins x
 nolimit:base.NoLimit
structure Cx where
 prog:Program
 w:World
 K:FZ9
 mg:Str->Option Value
 base:Heap
 A:Around
 N:List Str
 s₀:Shared
 H₀:Hp
 env:Env
 outer:List Env
 stack:List Env
 ex:List Addr
 fn:Str->Bool
 calm:Bool
 pn:List (Addr × Obj)
 xe:Value->Shared->Prop
def frs (l:List Env):List Addr:=l.filterMap (·.frame)
abbrev Cx.fs (X:Cx):List Addr:=frs X.outer
def Vis (sc:Scope)(x:Str):Prop:=sc.names.lookup x=some .local \/ sc.names.lookup x=some .cell\/sc.names.lookup x=some .free
def Loc (sc:Scope)(x:Str):Prop:=sc.names.lookup x=some .local \/ sc.names.lookup x=some .cell
def Look (env:Env)(h:Heap)(m:Str->Option Value)(x:Str)(u:Value):Prop :=
 (env.kindOf x=some .local /\ m x=some u)\/((env.kindOf x=some .cell\/env.kindOf x=some .free)/\∃ c,env.cells.lookup x=some c/\h.IsCell c (some u))
structure Cx.Ok (X:Cx):Prop where
 mod:Mod X.K X.mg X.base
 kind:X.env.scope.kind = .function
 glob:X.env.globals=mainGlobals
 blt:X.env.builtins=builtinsNs
 above:X.s₀.heap.objs.size<=X.env.locals
 inj:∀ x y c,X.env.cells.lookup x=some c->X.env.cells.lookup y=some c->x=y
 has:∀ x,(X.env.kindOf x=some .cell\/X.env.kindOf x=some .free)->∃ c,X.env.cells.lookup x=some c
 cab:∀ x c,X.fn x=true->X.env.cells.lookup x=some c->X.s₀.heap.objs.size<=c
 hd:X.calm=true->X.A.handled=none
 frames:X.A.frames=some X.stack
 stk:X.stack=X.outer\/(X.stack=X.env::X.outer/\X.env.frame=some X.env.locals)
 exf:∀ b∈X.ex,b≠X.env.locals/\∀ x c,X.env.cells.lookup x=some c->c≠b
 bs:∀ b o,X.base.get? b=some o->X.s₀.heap.get? b=some o/\X.H₀ b=none
 bsz:X.base.objs.size<=X.s₀.heap.objs.size
 noex:∀ b o,X.base.get? b=some o->b ∉ X.ex
 exfs:∀ b∈X.ex,b ∉ X.fs
 funs:X.s₀.heap.FunFrames X.base X.outer
 frf:∀ b∈X.fs,X.H₀ b=none
structure Inv (X:Cx)(pins:List (Addr × Obj))(σ:List (Option V))(H:Hp)(s:Shared):Prop where
 ok:X.Ok
 os:s.os=X.s₀.os
 bare:AllBare s.gens
 base:Un X.fs X.ex X.H₀ H X.s₀.heap s.heap
 loc:∃ m,s.heap.Ns X.env.locals m/\∀ (i:Nat) (x:Str) (v:V),X.N[i]? = some x->σ[i]? = some (some v)->Vis X.env.scope x->∃ u,RelV v u/\Look X.env s.heap m x u
 cell:∀ x c,X.env.cells.lookup x=some c->∃ v,s.heap.IsCell c v
 free:H X.env.locals=none
 freeC:∀ x c,X.env.cells.lookup x=some c->H c=none
 pin:∀ p∈X.pn++pins,s.heap.get? p.1=some p.2/\H p.1=none/\p.1≠X.env.locals/\p.1 ∉ X.fs/\∀ v,p.2.data ≠ .cell v
 hok:HOk X.prog X.w H s.heap
 len:σ.length=X.N.length
section
variable {X:Cx}{pins:List (Addr × Obj)}{σ:List (Option V)}{H H':Hp}{s:Shared}{h':Heap}
theorem Cx.Ok.nofr (ok:X.Ok){b:Addr}{o:Obj}(e:X.base.get? b=some o):b ∉ X.fs:=fun hb=>by
 have:=(ok.funs.mem hb).1;rw [e] at this;cases this
theorem Inv.bs (I:Inv X pins σ H s):∀ b o,X.base.get? b=some o->s.heap.get? b=some o/\H b=none:=fun b o e =>
 ⟨I.base.keep b o (I.ok.bs b o e).1 (I.ok.bs b o e).2 (I.ok.nofr e) (I.ok.noex b o e),I.base.free b o (I.ok.bs b o e).1 (I.ok.bs b o e).2 (I.ok.noex b o e)⟩
theorem Inv.bk (I:Inv X pins σ H s):∀ b o,X.base.get? b=some o->s.heap.get? b=some o:=fun b o e=>(I.bs b o e).1
theorem Inv.mod (I:Inv X pins σ H s):Mod X.K X.mg X.base:=I.ok.mod
theorem Inv.kIn (I:Inv X pins σ H s):X.K.In s.heap:=I.ok.mod.kin.keeps I.bk
theorem Inv.lt (I:Inv X pins σ H s):X.env.locals<s.heap.objs.size:=let ⟨_,hn,_⟩:=I.loc;hn.lt
theorem Inv.sz (I:Inv X pins σ H s):X.s₀.heap.objs.size<=s.heap.objs.size:=qgB I.ok.above (Nat.le_of_lt I.lt)
theorem Inv.nofs (I:Inv X pins σ H s){a:Addr}(h:s.heap.objs.size<=a):a ∉ X.fs:=fun hb=>by
 obtain ⟨_,o,ho,_⟩:=I.ok.funs.mem hb;exact absurd (qzB (qkB ho) (qgB I.sz h)) (qhB _)
theorem Inv.cne (I:Inv X pins σ H s):∀ x c,X.env.cells.lookup x=some c->c≠X.env.locals:=fun x c e z=>by
 obtain ⟨v,o,ho,hd⟩:=I.cell x c e;obtain ⟨m,⟨o',es,ep,ho',hd',_⟩,_⟩:=I.loc;rw [z,ho'] at ho;cases ho;rw [hd'] at hd;cases hd
theorem Inv.funs (I:Inv X pins σ H s):s.heap.FunFrames X.base X.outer:=by
 have all:∀ (l:List Env),(∀ b∈frs l,b∈X.fs)->X.s₀.heap.FunFrames X.base l->s.heap.FunFrames X.base l:=by
  intro l
  induction l with
  | nil=>intro _ _;trivial
  | cons env r ih =>
   intro hs hl;obtain ⟨hk,⟨L,o,hf,hn,ho,hd⟩,hr⟩:=hl;have hL:L∈X.fs:=hs L (by unfold frs;rw [List.filterMap_cons,hf];exact qqA);obtain ⟨sl,e⟩:=I.base.slot L o ho (I.ok.frf L hL) hL fun z=>I.ok.exfs L z hL;exact ⟨hk,⟨L,_,hf,hn,e,hd⟩,ih (fun b hb=>hs b (by unfold frs;rw [List.filterMap_cons,hf];exact qrA _ hb)) hr⟩
 exact all X.outer (fun _ hb=>hb) I.ok.funs
theorem Inv.stack (I:Inv X pins σ H s):s.heap.FunFrames X.base X.stack:=by
 rcases I.ok.stk with e | ⟨e,hf⟩
 ·rw [e];exact I.funs
 ·rw [e];obtain ⟨m,hn,_⟩:=I.loc;refine .cons (by rw [I.ok.kind];decide) hf hn ?_ I.funs;exact Heap.get?_none_of_le (qgB I.ok.bsz I.ok.above)
theorem Inv.stkSub (I:Inv X pins σ H s):∀ b∈frs X.stack,b∈X.env.locals::X.fs:=fun b hb=>by
 rcases I.ok.stk with e | ⟨e,hf⟩
 ·rw [e] at hb;exact qrA _ hb
 ·rw [e] at hb;unfold frs at hb;rw [List.filterMap_cons,hf] at hb;exact hb
theorem Inv.stkFree (I:Inv X pins σ H s):∀ b∈frs X.stack,H b=none:=fun b hb=>by
 rcases qmA.mp (I.stkSub b hb) with e|hb
 ·rw [e];exact I.free
 ·obtain ⟨_,o,ho,_⟩:=I.ok.funs.mem hb;exact I.base.free b o ho (I.ok.frf b hb) fun z=>I.ok.exfs b z hb
theorem Inv.step {g':Array GenState}{t':Nat}{d':Drawn}{ch:List Addr}(I:Inv X pins σ H s)
  (hch:∀ b∈ch,(b∈X.ex\/X.s₀.heap.objs.size<=b)/\b≠X.env.locals/\(∀ x c,X.env.cells.lookup x=some c->c≠b)/\∀ p∈X.pn++pins,p.1≠b)
  (keep:∀ b o,b≠X.env.locals->b ∉ X.fs->b ∉ ch->s.heap.get? b=some o->H b=none->h'.get? b=some o)
  (slot:∀ b o,b≠X.env.locals->b∈X.fs->b ∉ ch->s.heap.get? b=some o->H b=none->∃ sl,h'.get? b=some { o with slots:=sl }) (free:∀ b o,b ∉ ch->s.heap.get? b=some o->H b=none->H' b=none)
  (there:∀ b o,b ∉ ch->s.heap.get? b=some o->∃ o',h'.get? b=some o')
  (tups:∀ b xs,H b=some (.tup xs)->H' b=some (.tup xs)) (frzs:∀ b o u,H b=some (.frz o u)->H' b=some (.frz o u)) (tbls:∀ b ps,H b=some (.tbl ps)->∃ more,H' b=some (.tbl (ps++more)))
  (ns:∀ m,s.heap.Ns X.env.locals m->h'.Ns X.env.locals m) (hok:HOk X.prog X.w H' h') (hg:AllBare g') :
  Inv X pins σ H' { s with heap:=h',gens:=g',drawn:=d',toks:=t' }:=by
 have neL:∀ b o,X.s₀.heap.get? b=some o->b≠X.env.locals:=fun b o e=>qyB (qzB (qkB e) I.ok.above)
 have neC:∀ b o,X.s₀.heap.get? b=some o->b ∉ X.ex->b ∉ ch:=fun b o e hx hb=>by
  rcases (hch b hb).1 with z|z
  ·exact hx z
  ·exact absurd (qzB (qkB e) z) (qhB _)
 have cellK:∀ x c,X.env.cells.lookup x=some c->∀ v,s.heap.IsCell c v->h'.IsCell c v:=fun x c e v ⟨o,ho,hd⟩=>by
  have nch:c ∉ ch:=fun z=>(hch c z).2.2.1 x c e rfl;by_cases hc:c∈X.fs
  ·obtain ⟨sl,q⟩:=slot c o (I.cne x c e) hc nch ho (I.freeC x c e);exact ⟨_,q,hd⟩
  ·exact ⟨o,keep c o (I.cne x c e) hc nch ho (I.freeC x c e),hd⟩
 refine ⟨I.ok,I.os,hg,⟨fun b o e n hb hx=>?_,fun b o e n hb hx=>?_,fun b o e n hx=>?_,fun b o e hx=>?_,fun b xs e=>tups b xs (I.base.tups b xs e),fun b o xs e=>frzs b o xs (I.base.frzs b o xs e),fun b ps e=>?_⟩,?_,fun x c e=>?_,?_,fun x c e=>?_,fun p hp=>?_,hok,I.len⟩
 ·exact keep b o (neL b o e) hb (neC b o e hx) (I.base.keep b o e n hb hx) (I.base.free b o e n hx)
 ·obtain ⟨sl,e1⟩:=I.base.slot b o e n hb hx;obtain ⟨sl',e2⟩:=slot b _ (neL b o e) hb (neC b o e hx) e1 (I.base.free b o e n hx);exact ⟨sl',e2⟩
 ·obtain ⟨o',e1⟩:=I.base.there b o e hx;exact free b o' (neC b o e hx) e1 (I.base.free b o e n hx)
 ·obtain ⟨o',e1⟩:=I.base.there b o e hx;exact there b o' (neC b o e hx) e1
 ·obtain ⟨m1,e1⟩:=I.base.tbls b ps e;obtain ⟨m2,e2⟩:=tbls b _ e1;exact ⟨m1++m2,by rw [e2,Array.append_assoc]⟩
 ·obtain ⟨m,hn,hl⟩:=I.loc;refine ⟨m,ns m hn,fun i x v e1 e2 e3=>?_⟩;obtain ⟨u,r,l⟩:=hl i x v e1 e2 e3;refine ⟨u,r,?_⟩;rcases l with l | ⟨k,c,e,z⟩
  ·exact .inl l
  ·exact .inr ⟨k,c,e,cellK x c e _ z⟩
 ·obtain ⟨v,z⟩:=I.cell x c e;exact ⟨v,cellK x c e v z⟩
 ·obtain ⟨m,⟨o,_,_,ho,_⟩,_⟩:=I.loc;exact free _ o (fun z=>(hch _ z).2.1 rfl) ho I.free
 ·obtain ⟨v,o,ho,hd⟩:=I.cell x c e;exact free c o (fun z=>(hch c z).2.2.1 x c e rfl) ho (I.freeC x c e)
 ·obtain ⟨e,n,ne,nf,d⟩:=I.pin p hp;have nch:p.1 ∉ ch:=fun z=>(hch p.1 z).2.2.2 p hp rfl;exact ⟨keep p.1 p.2 ne nf nch e n,free p.1 p.2 nch e n,ne,nf,d⟩
theorem Inv.un {t':Nat}(I:Inv X pins σ H s)(u:Un X.fs [] H H' s.heap h')(hok:HOk X.prog X.w H' h'):Inv X pins σ H' { s with heap:=h',toks:=t' }:=by
 obtain ⟨m,⟨o,es,ep,ho,r⟩,_⟩:=id I.loc;obtain ⟨sl,hL⟩:=u.any ho I.free (by simp)
 exact I.step (g':=s.gens) (d':=s.drawn) (ch:=[]) (fun _ z=>nomatch z) (fun b o _ hb _ e n=>u.keep b o e n hb (by simp)) (fun b o _ hb _ e n=>u.slot b o e n hb (by simp)) (fun b o _ e n=>u.free b o e n (by simp)) (fun b o _ e=>u.there b o e (by simp)) u.tups u.frzs u.tbls (fun m' hm=>by
  obtain ⟨o',es',ep',ho',r'⟩:=hm;rw [ho] at ho';cases ho'
  exact ⟨_,es',ep',hL,r'⟩) hok I.bare
theorem Inv.call {g':Array GenState}{t':Nat}{d':Drawn}{ch:List Addr}(I:Inv X pins σ H s)(u:Un (frs X.stack) ch H H' s.heap h')(hok:HOk X.prog X.w H' h')(hg:AllBare g')
  (hch:∀ b∈ch,(b∈X.ex\/X.s₀.heap.objs.size<=b)/\b≠X.env.locals/\(∀ x c,X.env.cells.lookup x=some c->c≠b)/\∀ p∈X.pn++pins,p.1≠b) :
  Inv X pins σ H' { s with heap:=h',gens:=g',drawn:=d',toks:=t' }:=by
 obtain ⟨m,⟨o,es,ep,ho,r⟩,_⟩:=id I.loc;obtain ⟨sl,hL⟩:=u.any ho I.free fun z=>(hch _ z).2.1 rfl
 exact I.step (ch:=ch) hch (fun b o hL hb hc e n=>u.keep b o e n (fun z=>(qmA.mp (I.stkSub b z)).elim hL hb) hc) (fun b o _ _ hc e n=>u.any e n hc) (fun b o hc e n=>u.free b o e n hc) (fun b o hc e=>u.there b o e hc) u.tups u.frzs u.tbls (fun m' hm=>by
  obtain ⟨o',es',ep',ho',r'⟩:=hm;rw [ho] at ho';cases ho'
  exact ⟨_,es',ep',hL,r'⟩) hok hg
theorem Inv.turned {t':Nat}{it:Addr}(I:Inv X pins σ H s)(k:∀ b o,b≠it->s.heap.get? b=some o->h'.get? b=some o)(hn:H it=none)(hL:it≠X.env.locals)
  (h1:it∈X.ex\/X.s₀.heap.objs.size<=it) (h2:∀ x c,X.env.cells.lookup x=some c->c≠it) (h3:∀ p∈X.pn++pins,p.1≠it):Inv X pins σ H { s with heap:=h',toks:=t' }:=by
 have nit:∀ b u,H b=some u->b≠it:=fun b u e z=>by rw [z,hn] at e;cases e
 refine I.step (g':=s.gens) (d':=s.drawn) (ch:=[it]) (fun b hb=>?_) (fun b o _ _ hc e _=>k b o (fun z=>hc (by simp [z])) e) (fun b o _ _ hc e _=>⟨o.slots,k b o (fun z=>hc (by simp [z])) e⟩) (fun _ _ _ _ n=>n)
  (fun b o hc e=>⟨o,k b o (fun z=>hc (by simp [z])) e⟩) (fun _ _ e=>e) (fun _ _ _ e=>e) (fun b ps e=>⟨#[],by rw [e];simp⟩) (fun m hm=>?_) (fun b u e=>?_) I.bare
 ·have e:b=it:=by simpa using hb
  subst e;exact ⟨h1,hL,h2,h3⟩
 ·obtain ⟨o,es,ep,ho,r⟩:=hm;exact ⟨o,es,ep,k _ o (Ne.symm hL) ho,r⟩
 ·refine (I.hok b u e).stay (fun c v hc q=>k c v ?_ q) (fun _ q=>q) fun _ _ q=>q;rcases hc with z|z
  ·rw [z];exact nit b u e
  ·exact nit c _ z
theorem Inv.tok (I:Inv X pins σ H s)(t:Nat):Inv X pins σ H { s with toks:=t }:=I.un (h':=s.heap) (t':=t) Un.refl I.hok
theorem Inv.kept {t':Nat}(I:Inv X pins σ H s)(k:∀ b u,s.heap.get? b=some u->h'.get? b=some u):Inv X pins σ H { s with heap:=h',toks:=t' }:=I.un (Un.kept k) (I.hok.kept k)
theorem Inv.laid {a:Addr}{o:HO}{t':Nat}(I:Inv X pins σ H s)(k:∀ b u,s.heap.get? b=some u->h'.get? b=some u)(hp:s.heap.objs.size<=a)(new:ObjOk X.prog X.w (upd H a o) h' a o) :
  Inv X pins σ (upd H a o) { s with heap:=h',toks:=t' }:=I.un (Un.laid k hp (I.hok.fresh hp)) (I.hok.laid k hp new)
theorem Inv.write {x e:Addr}{o:HO}{t':Nat}(I:Inv X pins σ H s)(mu:Mut (H x))(he:e=x\/H e=some (.own x))(k:∀ b u,b≠e->s.heap.get? b=some u->h'.get? b=some u)(heo:∃ u,h'.get? e=some u)
  (new:ObjOk X.prog X.w (upd H x o) h' x o):Inv X pins σ (upd H x o) { s with heap:=h',toks:=t' }:=I.un (Un.write mu he k heo) (I.hok.write mu he k heo new)
theorem Inv.weak {σ':List (Option V)}(I:Inv X pins σ H s)(hl:σ'.length=σ.length)(w:∀ (i:Nat) v,σ'[i]? = some (some v)->σ[i]? = some (some v)):Inv X pins σ' H s :=
 ⟨I.ok,I.os,I.bare,I.base,let ⟨m,hn,hl'⟩:=I.loc;⟨m,hn,fun i x v e1 e2 e3=>hl' i x v e1 (w i v e2) e3⟩,I.cell,I.free,I.freeC,I.pin,I.hok,hl.trans I.len⟩
theorem Inv.pins_of {pins':List (Addr × Obj)}(I:Inv X pins σ H s)(h:∀ p∈pins',s.heap.get? p.1=some p.2/\H p.1=none/\p.1≠X.env.locals/\p.1 ∉ X.fs/\∀ v,p.2.data ≠ .cell v):Inv X pins' σ H s :=
 ⟨I.ok,I.os,I.bare,I.base,I.loc,I.cell,I.free,I.freeC,fun p hp=>(qkA.mp hp).elim (fun z=>I.pin p (List.mem_append_left _ z)) (h p),I.hok,I.len⟩
theorem Fh {N:List Str}(hN:N.Nodup){i j:Nat}{x:Str}(a:N[i]? = some x)(b:N[j]? = some x):i=j:=by
 obtain ⟨h1,e1⟩:=quA.mp a;obtain ⟨h2,e2⟩:=quA.mp b;exact (List.getElem_inj hN).mp (e1.trans e2.symm)
theorem MN {M:Model}{A:Around}{E:Value->Shared->Prop}{i:Nat}{x:Str}{v:V}{u:Value}{Q:Unit->Shared->Prop}(I:Inv X pins σ H s)(hN:X.N.Nodup)(hi:X.N[i]? = some x)(hx:Loc X.env.scope x)(r:RelV v u)
  (h:∀ s',Inv X pins (σ.set i (some v)) H s'->(∃ a,Heap.SameBut a s.heap s'.heap/\(a=X.env.locals\/X.env.cells.lookup x=some a))->Q () s') (hf:X.fn x=true\/X.env.scope.names.lookup x=some .local := by first|exact .inl rfl|exact .inr rfl|assumption):wpAny M A (storeName X.env x u) Q E s:=by
 obtain ⟨m,hn,hl⟩:=id I.loc;have hcls:(X.env.scope.kind == .class || (X.env.scope.kind == .module && X.env.locals != X.env.globals))=false:=by rw [I.ok.kind];rfl
 have hiσ:i<σ.length:=by rw [I.len];exact (quA.mp hi).1
 have cne:=I.cne
 have tracked:∀ {a:Addr}{h':Heap},(∃ o,s.heap.get? a=some o/\H a=none)->Heap.SameBut a s.heap h'->HOk X.prog X.w H h':=fun {a h'} ha hs b ob e=>by
  obtain ⟨_,_,hfree⟩:=ha;refine (I.hok b ob e).stay (fun c w' hc q=>(hs.2 c ?_).trans q) (fun _ q=>q) fun _ _ q=>q;rintro rfl;rcases hc with rfl|hc
  ·rw [hfree] at e;cases e
  ·rw [hfree] at hc;cases hc
 rcases hx with hk|hk
 ·refine wpAny_storeName_local hk hn (fun h' hn' hs=>?_) hcls;obtain ⟨oL,_,_,hoL,_⟩:=id hn;refine h _ ⟨I.ok,I.os,I.bare,⟨fun b o e n hb hx=>?_,fun b o e n hb hx=>?_,I.base.free,fun b o e hx=>?_,I.base.tups,I.base.frzs,I.base.tbls⟩,⟨_,hn',fun j y v' e1 e2 e3=>?_⟩,fun y c e=>?_,I.free,I.freeC,fun p hp=>?_,tracked ⟨oL,hoL,I.free⟩ hs,by simpa using I.len⟩ ⟨_,hs,.inl rfl⟩
  ·exact (hs.2 b (qyB (qzB (qkB e) I.ok.above))).trans (I.base.keep b o e n hb hx)
  ·obtain ⟨sl,e1⟩:=I.base.slot b o e n hb hx;exact ⟨sl,(hs.2 b (qyB (qzB (qkB e) I.ok.above))).trans e1⟩
  ·obtain ⟨o',e1⟩:=I.base.there b o e hx;exact ⟨o',(hs.2 b (qyB (qzB (qkB e) I.ok.above))).trans e1⟩
  ·by_cases hj:j=i
   ·subst hj;rw [hi] at e1;cases e1;rw [List.getElem?_set_self hiσ] at e2;cases e2;exact ⟨u,r,.inl ⟨hk,by simp⟩⟩
   ·rw [List.getElem?_set_ne (Ne.symm hj)] at e2;obtain ⟨u',r',q⟩:=hl j y v' e1 e2 e3;refine ⟨u',r',?_⟩;rcases q with ⟨k,e⟩ | ⟨k,c,e,z⟩
    ·refine .inl ⟨k,?_⟩;have:y≠x:=fun e=>hj (Fh hN e1 (e ▸ hi));simp [this,e]
    ·exact .inr ⟨k,c,e,z.sameBut hs (cne y c e)⟩
  ·obtain ⟨w',z⟩:=I.cell y c e;exact ⟨w',z.sameBut hs (cne y c e)⟩
  ·obtain ⟨e,n,ne,nf,d⟩:=I.pin p hp;exact ⟨(hs.2 p.1 ne).trans e,n,ne,nf,d⟩
 ·have hfn:X.fn x=true:=by
   rcases hf with z|z
   ·exact z
   ·rw [z] at hk;cases hk
  obtain ⟨c,hc⟩:=I.ok.has x (.inl hk);obtain ⟨w',z⟩:=I.cell x c hc;refine wpAny_storeName_cell I.ok.kind hk hc z (fun h' hc' hs=>?_);obtain ⟨oc,hoc,hocd⟩:=id z;refine h { s with heap:=h' } ⟨I.ok,I.os,I.bare,⟨fun b o e n hb hx=>?_,fun b o e n hb hx=>?_,I.base.free,fun b o e hx=>?_,I.base.tups,I.base.frzs,I.base.tbls⟩,⟨m,hn.sameBut hs (Ne.symm (cne x c hc)),fun j y v' e1 e2 e3=>?_⟩,fun y c' e=>?_,I.free,I.freeC,fun p hp=>?_,tracked ⟨oc,hoc,I.freeC x c hc⟩ hs,by simpa using I.len⟩ ⟨c,hs,.inr hc⟩
  ·exact (hs.2 b (qyB (qzB (qkB e) (I.ok.cab x c hfn hc)))).trans (I.base.keep b o e n hb hx)
  ·obtain ⟨sl,e1⟩:=I.base.slot b o e n hb hx;exact ⟨sl,(hs.2 b (qyB (qzB (qkB e) (I.ok.cab x c hfn hc)))).trans e1⟩
  ·obtain ⟨o',e1⟩:=I.base.there b o e hx;exact ⟨o',(hs.2 b (qyB (qzB (qkB e) (I.ok.cab x c hfn hc)))).trans e1⟩
  ·by_cases hj:j=i
   ·subst hj;rw [hi] at e1;cases e1;rw [List.getElem?_set_self hiσ] at e2;cases e2;exact ⟨u,r,.inr ⟨.inl hk,c,hc,hc'⟩⟩
   ·rw [List.getElem?_set_ne (Ne.symm hj)] at e2;obtain ⟨u',r',q⟩:=hl j y v' e1 e2 e3;refine ⟨u',r',?_⟩;rcases q with q | ⟨k,c',e,z'⟩
    ·exact .inl q
    ·refine .inr ⟨k,c',e,z'.sameBut hs ?_⟩;rintro rfl;exact hj (Fh hN e1 (I.ok.inj _ _ _ e hc ▸ hi))
  ·by_cases hcc:c'=c
   ·subst hcc;exact ⟨_,hc'⟩
   ·obtain ⟨w2,z2⟩:=I.cell y c' e;exact ⟨w2,z2.sameBut hs hcc⟩
  ·obtain ⟨e,n,ne,nf,d⟩:=I.pin p hp;refine ⟨(hs.2 p.1 ?_).trans e,n,ne,nf,d⟩;intro q;rw [q,hoc] at e;have q':oc=p.2:=qjB e;exact d w' (by rw [<- q'];exact hocd)
theorem Pe {M:Model}{A:Around}{E:Value->Shared->Prop}{i:Nat}{x:Str}{v:V}{u:Value}{Q:Unit->Shared->Prop}(I:Inv X pins σ H s)(hN:X.N.Nodup)(hi:X.N[i]? = some x)(hx:Loc X.env.scope x)(r:RelV v u)
  (h:∀ s',Inv X pins (σ.set i (some v)) H s'->Q () s') (hf:X.fn x=true\/X.env.scope.names.lookup x=some .local := by first|exact .inl rfl|exact .inr rfl|assumption):wpAny M A (storeName X.env x u) Q E s :=
 MN I hN hi hx r (fun s' I' _=>h s' I') hf
theorem Inv.call' {s':Shared}{ch:List Addr}(I:Inv X pins σ H s)(ho:s'.os=s.os)(u:Un (frs X.stack) ch H H' s.heap s'.heap)(hok:HOk X.prog X.w H' s'.heap)(hg:AllBare s'.gens)
  (hch:∀ b∈ch,(b∈X.ex\/X.s₀.heap.objs.size<=b)/\b≠X.env.locals/\(∀ x c,X.env.cells.lookup x=some c->c≠b)/\∀ p∈X.pn++pins,p.1≠b):Inv X pins σ H' s':=by
 obtain ⟨h',g',d',t',o'⟩:=s';have e:o'=s.os:=ho;subst e;exact I.call (g':=g') (t':=t') (d':=d') u hok hg hch
end
abbrev XK:=Value->Option Addr->Hp->Prop
abbrev St:=List (Option V)
abbrev VK:=V->Hp->Prop
abbrev TE:=St->Hp->VK->Prop
abbrev TT:=St->Hp->(Bool->Hp->Prop)->Prop
abbrev TA:=St->Hp->(List V->Hp->Prop)->Prop
structure Ends where
 nx:St->Hp->Prop
 rt:VK
 bk:St->Hp->Prop:=fun _ _=>False
 ct:St->Hp->Prop:=fun _ _=>False
abbrev TS:=Ends->St->Hp->Prop
def EP (X:Cx)(pins:List (Addr × Obj))(σ:St)(Q:VK)(u:Value)(s':Shared):Prop:=∃ v H',Inv X pins σ H' s'/\RelV v u/\Q v H'
def TP (X:Cx)(pins:List (Addr × Obj))(σ:St)(Q:Bool->Hp->Prop)(b:Bool)(s':Shared):Prop:=∃ H',Inv X pins σ H' s'/\Q b H'
def AP (X:Cx)(pins:List (Addr × Obj))(σ:St)(Q:List V->Hp->Prop)(us:List Value)(s':Shared):Prop:=∃ vs H',Inv X pins σ H' s'/\Vals vs us/\Q vs H'
def SP (X:Cx)(pins:List (Addr × Obj))(D:Ends)(f:Flow)(s':Shared):Prop :=
 match f with
 | .next=>∃ σ' H',Inv X pins σ' H' s'/\D.nx σ' H'
 | .brk=>∃ σ' H',Inv X pins σ' H' s'/\D.bk σ' H'
 | .cont=>∃ σ' H',Inv X pins σ' H' s'/\D.ct σ' H'
 | .ret u=>∃ v σ' H',Inv X pins σ' H' s'/\RelV v u/\D.rt v H'
def PE (X:Cx)(e:Expr)(t:TE):Prop :=
 ∀ (pins:List (Addr × Obj)) (s:Shared) (σ:St) (H:Hp) (Q:VK),Inv X pins σ H s->t σ H Q->wpAny (model X.prog X.w) X.A (eval e X.env) (EP X pins σ Q) X.xe s
def PT (X:Cx)(e:Expr)(t:TT):Prop :=
 ∀ (pins:List (Addr × Obj)) (s:Shared) (σ:St) (H:Hp) (Q:Bool->Hp->Prop),Inv X pins σ H s->t σ H Q->wpAny (model X.prog X.w) X.A (isTrue e X.env (eval e X.env)) (TP X pins σ Q) X.xe s
def PW (X:Cx)(e:Expr)(t:TT):Prop :=
 ∀ (whole:Sem Value) (pins:List (Addr × Obj)) (s:Shared) (σ:St) (H:Hp) (Q:Bool->Hp->Prop),Inv X pins σ H s->t σ H Q->wpAny (model X.prog X.w) X.A (isTrue e X.env whole) (TP X pins σ Q) X.xe s
theorem PW.pt {X:Cx}{e:Expr}{t:TT}(h:PW X e t):PT X e t:=h _
def PA (X:Cx)(es:List Expr)(t:TA):Prop :=
 ∀ (pos:Pos) (pins:List (Addr × Obj)) (s:Shared) (σ:St) (H:Hp) (Q:List V->Hp->Prop),Inv X pins σ H s->t σ H Q->wpAny (model X.prog X.w) X.A (spliced (backTo pos (starEach es X.env))) (AP X pins σ Q) X.xe s
def PS (X:Cx)(st:Stmt)(t:TS):Prop :=
 ∀ (pins:List (Addr × Obj)) (s:Shared) (σ:St) (H:Hp) (D:Ends),Inv X pins σ H s->t D σ H->wpAny (model X.prog X.w) X.A (exec st X.env) (SP X pins D) X.xe s
def PSs (X:Cx)(st:List Stmt)(t:TS):Prop :=
 ∀ (pins:List (Addr × Obj)) (s:Shared) (σ:St) (H:Hp) (D:Ends),Inv X pins σ H s->t D σ H->wpAny (model X.prog X.w) X.A (execs st X.env) (SP X pins D) X.xe s
theorem thn {α:Type}{t:Sem α}{Q Q':α->Shared->Prop}{M:Model}{A:Around}{E:Value->Shared->Prop}{s:Shared}(h:wpAny M A t Q E s)(hQ:∀ a s,Q a s->Q' a s):wpAny M A t Q' E s:=wpAny_mono h hQ fun _ _ x=>x
section
variable {X:Cx}
abbrev FP (i:Nat):TE:=fun σ H Q=>∃ v,σ[i]? = some (some v)/\Q v H
abbrev tC (v:V):TE:=fun _ H Q=>Q v H
theorem pe_var {i:Nat}{x:Str}{pos:Pos}(hN:X.N[i]? = some x)(hv:Vis X.env.scope x)(hd:(x == ("__debug__" : Str))=false:=by decide)(hcd:(x == ("__classdict__" : Str))=false:=by decide):PE X (.Name x pos) (FP i):=by
 intro pins s σ H Q I h;obtain ⟨v,e,h⟩:=h;obtain ⟨m,hn,hl⟩:=I.loc;obtain ⟨u,r,l⟩:=hl i x v hN e hv;have fin:EP X pins σ Q u s:=⟨v,H,I,r,h⟩;rcases l with ⟨hk,hm⟩ | ⟨hk,c,hc,hcell⟩
 ·exact wpAny_Name (wpAny_loadName_local I.ok.kind hk hn hm fin) hd
 ·rcases hk with hk|hk
  ·exact wpAny_Name (wpAny_loadName_cell I.ok.kind hk hc hcell fin) hd
  ·exact wpAny_Name (wpAny_loadName_free I.ok.kind hk hc hcell fin hcd) hd
theorem A8 {i j pos}:PE X (.Constant (.int i) j pos) (tC (.int i)):=fun _ _ _ H _ I h=>wpAny_Constant_int ⟨.int i,H,I.tok _,⟨_,rfl⟩,h⟩
theorem Dw {b j pos}:PE X (.Constant (.bool b) j pos) (tC (.bl b)):=fun _ _ _ H _ I h=>Constant_bool ⟨.bl b,H,I,rfl,h⟩
theorem C8 {j pos}:PE X (.Constant .none j pos) (tC .non):=fun _ _ _ H _ I h=>Constant_none ⟨.non,H,I,rfl,h⟩
theorem E7 {x j pos}:PE X (.Constant (.str x) j pos) (tC (.str x)):=fun _ _ _ H _ I h=>Calls.Constant_str ⟨.str x,H,I.tok _,⟨_,rfl⟩,h⟩
def Gl (X:Cx)(x:Str):Prop:=X.env.kindOf x=some .globalImplicit
theorem ld_glob {E:Value->Shared->Prop}{pins:List (Addr × Obj)}{s:Shared}{σ:St}{H:Hp}{x:Str}{u:Value}{pos:Pos}{Q:Value->Shared->Prop}(I:Inv X pins σ H s)(hg:Gl X x)(hm:X.mg x=some u)(h:Q u s)
  (hd:(x == ("__debug__" : Str))=false:=by decide):wpAny (model X.prog X.w) X.A (eval (.Name x pos) X.env) Q E s :=
 Calls.Name_function_global I.ok.kind hg (Calls.loadGlobal_global (by rw [I.ok.glob];exact I.mod.glob.keeps I.bk) hm h) hd
theorem Jo {E:Value->Shared->Prop}{pins:List (Addr × Obj)}{s:Shared}{σ:St}{H:Hp}{x:Str}{u:Value}{pos:Pos}{Q:Value->Shared->Prop}(I:Inv X pins σ H s)(hg:Gl X x)(hm:X.mg x=none)(hv:bootBuiltins x=some u)(h:Q u s)
  (hn:x ≠ "__name__" := by decide) (hd:(x == ("__debug__" : Str))=false:=by decide):wpAny (model X.prog X.w) X.A (eval (.Name x pos) X.env) Q E s:=by
 obtain ⟨mb,h1,h2⟩:=I.mod.blt;exact Calls.Name_function_global I.ok.kind hg (Calls.loadGlobal_builtin (by rw [I.ok.glob];exact I.mod.glob.keeps I.bk) hm (by rw [I.ok.blt];exact h1.keeps I.bk) ((h2 x hn).trans hv) h) hd
theorem GJ {x:Str}{v:V}{u:Value}{pos:Pos}(hg:Gl X x)(hm:X.mg x=none)(hv:bootBuiltins x=some u)(r:RelV v u)(hn:x ≠ "__name__" := by decide)(hd:(x == ("__debug__" : Str))=false:=by decide):PE X (.Name x pos) (tC v) :=
 fun _ _ _ H _ I h=>Jo I hg hm hv ⟨v,H,I,r,h⟩ hn hd
variable {a b:Expr}{ta tb:TE}{pos:Pos}
def PC (X:Cx)(op:CmpOp)(a b:Expr)(t:TE):Prop :=
 ∀ (pins:List (Addr × Obj)) (s:Shared) (σ:St) (H:Hp) (Q:VK),Inv X pins σ H s->t σ H Q ->
  wpAny (model X.prog X.w) X.A (eval a X.env) (fun v s₁=>wpAny (model X.prog X.w) X.A (eval b X.env) (fun u s₂=>wpAny (model X.prog X.w) X.A (compareOp op v u) (EP X pins σ Q) X.xe s₂) X.xe s₁) X.xe s
def tB (t:TE):TT:=fun σ H Q=>t σ H fun x H1=>∃ c,x = .bl c/\Q c H1
theorem pe_cmp {op:CmpOp}{t:TE}(h:PC X op a b t)(h1:behindInMarks op b=false:=by first|exact nobehind _ (by decide) (by decide)|rfl):PE X (.Compare a [op] [b] pos) t:=fun pins s σ H Q I hw=>wpAny_Compare1 (h pins s σ H Q I hw) h1
theorem pt_cmp {op:CmpOp}{t:TE}(h:PC X op a b t)(h1:behindInMarks op b=false:=by first|exact nobehind _ (by decide) (by decide)|rfl):PT X (.Compare a [op] [b] pos) (tB t):=by
 intro pins s σ H Q I hw;refine wpAny_isTrue_Compare1 (thn (h pins s σ H _ I hw) fun v s1 h1=>thn h1 fun u s2 h2=>thn h2 fun c s3 ⟨x,H1,I1,r1,q1⟩=>?_) h1;obtain ⟨d,rfl,q⟩:=q1;cases r1;exact wpAny_truthy_bool ⟨H1,I1,q⟩
variable {tA tB':TT}{rest:List Expr}
abbrev tAnd (t u:TT):TT:=fun σ H Q=>t σ H fun c H1=>if c=true then u σ H1 Q else Q false H1
abbrev tOr (t u:TT):TT:=fun σ H Q=>t σ H fun c H1=>if c=true then Q true H1 else u σ H1 Q
abbrev tNot (t:TT):TT:=fun σ H Q=>t σ H fun c H1=>Q (!c) H1
theorem RD (ha:PT X a tA):PW X (.BoolOp .And [a] pos) tA:=by
 intro wh pins s σ H Q I h;refine isTrue_and (thn (ha pins s σ H Q I h) fun c s1 e=>?_)
 cases c with
 | true=>exact isTrue_and_nil e
 | false=>exact e
theorem DY (ha:PT X a tA):PW X (.BoolOp .Or [a] pos) tA:=by
 intro wh pins s σ H Q I h;refine isTrue_or (thn (ha pins s σ H Q I h) fun c s1 e=>?_)
 cases c with
 | false=>exact isTrue_or_nil e
 | true=>exact e
theorem pw_and (ha:PT X a tA)(hb:PW X (.BoolOp .And (b::rest) pos) tB'):PW X (.BoolOp .And (a::b::rest) pos) (tAnd tA tB'):=by
 intro wh pins s σ H Q I h;refine isTrue_and (thn (ha pins s σ H _ I h) fun c s1 ⟨H1,I1,q1⟩=>?_)
 cases c with
 | true=>exact hb wh pins s1 σ H1 Q I1 q1
 | false=>exact ⟨H1,I1,q1⟩
theorem CW (ha:PT X a tA)(hb:PW X (.BoolOp .Or (b::rest) pos) tB'):PW X (.BoolOp .Or (a::b::rest) pos) (tOr tA tB'):=by
 intro wh pins s σ H Q I h;refine isTrue_or (thn (ha pins s σ H _ I h) fun c s1 ⟨H1,I1,q1⟩=>?_)
 cases c with
 | true=>exact ⟨H1,I1,q1⟩
 | false=>exact hb wh pins s1 σ H1 Q I1 q1
theorem Da (ha:PT X a tA):PT X (.UnaryOp .Not a pos) (tNot tA):=by
 intro pins s σ H Q I h;exact isTrue_not (ha pins s σ H (fun c H1=>Q (!c) H1) I h)
abbrev tAndV (ta tb:TE):TE:=fun σ H Q=>ta σ H fun x H1=>∃ c,x = .bl c/\if c=true then tb σ H1 Q else Q (.bl false) H1
abbrev tNotV (ta:TE):TE:=fun σ H Q=>ta σ H fun x H1=>∃ c,x = .bl c/\Q (.bl (!c)) H1
theorem NZ {op}{t:TE}(h:PE X a t):PE X (.BoolOp op [a] pos) t:=fun pins s σ H Q I hw=>BoolOp_one (h pins s σ H Q I hw)
theorem Lv (ha:PE X a ta)(hb:PE X (.BoolOp .And (b::rest) pos) tb):PE X (.BoolOp .And (a::b::rest) pos) (tAndV ta tb):=by
 intro pins s σ H Q I h;refine BoolOp_and (thn (ha pins s σ H _ I h) fun v s1 ⟨x,H1,I1,r1,q1⟩=>?_);obtain ⟨c,rfl,q1⟩:=q1;cases r1;refine wpAny_truthy_bool ?_
 cases c with
 | true=>exact hb pins s1 σ H1 Q I1 q1
 | false=>exact ⟨.bl false,H1,I1,rfl,q1⟩
theorem pe_not (ha:PE X a ta):PE X (.UnaryOp .Not a pos) (tNotV ta):=by
 intro pins s σ H Q I h;refine UnaryOp_ (thn (ha pins s σ H _ I h) fun v s1 ⟨x,H1,I1,r1,q1⟩=>?_);obtain ⟨c,rfl,q1⟩:=q1;cases r1;exact not_of (wpAny_truthy_bool ⟨.bl (!c),H1,I1,rfl,q1⟩)
def tIf (t:TT)(ta tb:TE):TE:=fun σ H Q=>t σ H fun c H1=>if c=true then ta σ H1 Q else tb σ H1 Q
theorem O8 {c:Expr}(hc:PT X c tA)(ha:PE X a ta)(hb:PE X b tb):PE X (.IfExp c a b pos) (tIf tA ta tb):=by
 intro pins s σ H Q I h;refine wpAny_IfExp (thn (hc pins s σ H _ I h) fun d s1 ⟨H1,I1,q1⟩=>?_)
 cases d with
 | true=>exact ha pins s1 σ H1 Q I1 q1
 | false=>exact hb pins s1 σ H1 Q I1 q1
end
def SqL (K:FZ9)(H:Hp)(a:Addr)(xs:List V):Prop :=
 Rd H a (.lst xs) \/
  ∃ (o:Obj) (its:Array Value) (n:Nat),K.lookup a=some o/\o.cls = .type "list" /\ o.dict=none/\o.data = .seq its n/\its.size<=sizeLine/\Vals xs its.toList
def SqT (K:FZ9)(H:Hp)(a:Addr)(xs:List V):Prop :=
 Rd H a (.tup xs) \/
  ∃ (o:Obj) (its:Array Value) (n:Nat),K.lookup a=some o/\o.cls = .type "tuple" /\ o.data = .seq its n/\its.size<=sizeLine/\Vals xs its.toList
def absV:Value->Option V
 | .none=>some .non
 | .bool b=>some (.bl b)
 | .int i _=>some (.int i)
 | .str x _=>some (.str x)
 | .bytes b _=>some (.byt b)
 | .float b _=>some (.flt b)
 | .ref a=>some (.ref a)
 | .type n=>some (.ty n)
 | _=>none
theorem RelV.abs {x:V}{u:Value}(r:RelV x u):absV u=some x:=by
 cases x with
 | non=>cases r;rfl
 | bl _=>cases r;rfl
 | int _=>obtain ⟨t,rfl⟩:=r;rfl
 | str _=>obtain ⟨t,rfl⟩:=r;rfl
 | byt _=>obtain ⟨t,rfl⟩:=r;rfl
 | flt _=>obtain ⟨t,rfl⟩:=r;rfl
 | ref _=>cases r;rfl
 | ty _=>cases r;rfl
theorem RelV.inj {x y:V}{u:Value}(r:RelV x u)(q:RelV y u):x=y:=qjB (r.abs.symm.trans q.abs)
theorem Vals.inj:∀ {xs ys:List V}{us:List Value},Vals xs us->Vals ys us->xs=ys
 | _,_,_,.nil,.nil=>rfl
 | _,_,_,.cons r t,.cons r' t'=>by rw [r.inj r',Vals.inj t t']
section
variable {X:Cx}{pins:List (Addr × Obj)}{σ:St}{H:Hp}{s:Shared}{a:Addr}{xs ys:List V}
theorem SqL.of {K:FZ9}(h:H a=some (.lst xs)):SqL K H a xs:=.inl (.inl h)
theorem SqT.of {K:FZ9}(h:H a=some (.tup xs)):SqT K H a xs:=.inl (.inl h)
theorem Inv.list (I:Inv X pins σ H s)(h:SqL X.K H a xs):∃ its:List Value,Vals xs its/\PlainL s.heap a its.toArray/\xs.length<=sizeLine:=by
 rcases h with h | ⟨o,its,n,hk,hc,hd,hs,hz,r⟩
 ·obtain ⟨z,its,n,r,e⟩:=h.ok I.hok;exact ⟨its,r,⟨_,n,e,rfl,rfl,rfl⟩,z⟩
 ·refine ⟨its.toList,r,⟨o,n,I.kIn a o hk,hc,hd,by simpa using hs⟩,?_⟩;have e:=r.length;simp only [qxB] at e;omega
theorem Inv.tuple (I:Inv X pins σ H s)(h:SqT X.K H a xs):∃ its:List Value,Vals xs its/\IsTup s.heap a its.toArray/\xs.length<=sizeLine:=by
 rcases h with h | ⟨o,its,n,hk,hc,hs,hz,r⟩
 ·obtain ⟨z,its,r,p⟩:=h.ok I.hok;exact ⟨its,r,p,z⟩
 ·refine ⟨its.toList,r,⟨o,I.kIn a o hk,hc,n,by simpa using hs⟩,?_⟩;have e:=r.length;simp only [qxB] at e;omega
theorem Inv.list_inj (I:Inv X pins σ H s)(h:SqL X.K H a xs)(h':SqL X.K H a ys):xs=ys:=by
 obtain ⟨its,r,⟨o,n,e,_,_,d⟩,_⟩:=I.list h;obtain ⟨its',r',⟨o',n',e',_,_,d'⟩,_⟩:=I.list h';rw [e] at e';cases e';rw [d] at d';injection d' with d1 _
 have:its=its':=by simpa using congrArg Array.toList d1
 subst this;exact r.inj r'
theorem Inv.tuple_inj (I:Inv X pins σ H s)(h:SqT X.K H a xs)(h':SqT X.K H a ys):xs=ys:=by
 obtain ⟨its,r,⟨o,e,_,n,d⟩,_⟩:=I.tuple h;obtain ⟨its',r',⟨o',e',_,n',d'⟩,_⟩:=I.tuple h';rw [e] at e';cases e';rw [d] at d';injection d' with d1 _
 have:its=its':=by simpa using congrArg Array.toList d1
 subst this;exact r.inj r'
end
abbrev Cx.wish (X:Cx)(E:Value->Shared->Prop):Cx:={ X with xe:=E }
abbrev Cx.nox (X:Cx):Cx:=X.wish fun _ _=>False
theorem Cx.Ok.wish {X:Cx}(ok:X.Ok)(E:Value->Shared->Prop):(X.wish E).Ok :=
 ⟨ok.mod,ok.kind,ok.glob,ok.blt,ok.above,ok.inj,ok.has,ok.cab,ok.hd,ok.frames,ok.stk,ok.exf,ok.bs,ok.bsz,ok.noex,ok.exfs,ok.funs,ok.frf⟩
theorem Cx.Ok.unwish {X:Cx}{E:Value->Shared->Prop}(ok:(X.wish E).Ok):X.Ok :=
 ⟨ok.mod,ok.kind,ok.glob,ok.blt,ok.above,ok.inj,ok.has,ok.cab,ok.hd,ok.frames,ok.stk,ok.exf,ok.bs,ok.bsz,ok.noex,ok.exfs,ok.funs,ok.frf⟩
section
variable {X:Cx}{pins:List (Addr × Obj)}{σ:St}{H:Hp}{s:Shared}{E:Value->Shared->Prop}
theorem Inv.wish (I:Inv X pins σ H s)(E:Value->Shared->Prop):Inv (X.wish E) pins σ H s:=⟨I.ok.wish E,I.os,I.bare,I.base,I.loc,I.cell,I.free,I.freeC,I.pin,I.hok,I.len⟩
theorem Inv.unwish (I:Inv (X.wish E) pins σ H s):Inv X pins σ H s:=⟨I.ok.unwish,I.os,I.bare,I.base,I.loc,I.cell,I.free,I.freeC,I.pin,I.hok,I.len⟩
theorem SP.unwish {D:Ends}{f:Flow}{s':Shared}(h:SP (X.wish E) pins D f s'):SP X pins D f s':=by
 cases f with
 | next=>obtain ⟨σ',H',I,q⟩:=h;exact ⟨σ',H',I.unwish,q⟩
 | brk=>obtain ⟨σ',H',I,q⟩:=h;exact ⟨σ',H',I.unwish,q⟩
 | cont=>obtain ⟨σ',H',I,q⟩:=h;exact ⟨σ',H',I.unwish,q⟩
 | ret u=>obtain ⟨v,σ',H',I,r,q⟩:=h;exact ⟨v,σ',H',I.unwish,r,q⟩
theorem PSs.nox {st:List Stmt}{t:TS}(h:PSs X.nox st t):PSs X st t:=fun pins s σ H D I hw =>
 wpAny_mono (h pins s σ H D (I.wish _) hw) (fun _ _ q=>q.unwish) fun _ _ z=>False.elim z
end
section
variable {X:Cx}{st:Stmt}{rest:List Stmt}{t u:TS}{e:Expr}{te:TE}{pos:Pos}
abbrev DW:TS:=fun D σ H=>D.nx σ H
abbrev Cm (t u:TS):TS:=fun D σ H=>t { D with nx:=u D } σ H
theorem AA:PSs X [] DW:=fun _ _ σ H _ I h=>wpAny_execs_nil ⟨σ,H,I,h⟩
theorem A5 (h1:PS X st t)(h2:PSs X rest u):PSs X (st::rest) (Cm t u):=by
 intro pins s σ H D I h;refine wpAny_execs_cons (thn (h1 pins s σ H { D with nx:=u D } I h) fun f s1 q=>?_)
 cases f with
 | next =>
  obtain ⟨σ',H',I',q⟩:=q;exact h2 pins s1 σ' H' D I' q
 | ret v=>exact q
 | brk=>exact q
 | cont=>exact q
theorem Inv.quiet {pins:List (Addr × Obj)}{σ:St}{H:Hp}{s:Shared}(I:Inv X pins σ H s):interactive X.env=false:=by simp [interactive,I.ok.kind]
abbrev KY (te:TE):TS:=fun D σ H=>te σ H fun _ H1=>D.nx σ H1
theorem Bv (he:PE X e te)(hs:swapsWith e none pos.line X.env=pure false:=by rfl):PS X (.Expr e pos) (KY te):=by
 intro pins s σ H D I h;exact wpAny_Expr_any (thn (he pins s σ H _ I h) fun v s1 ⟨x,H1,I1,r1,q1⟩=>⟨σ,H1,I1,q1⟩) I.quiet hs
abbrev tRet (te:TE):TS:=fun D σ H=>te σ H D.rt
theorem Ae (he:PE X e te):PS X (.Return (some e) pos) (tRet te):=by
 intro pins s σ H D I h;exact wpAny_Return_some (thn (he pins s σ H _ I h) fun v s1 ⟨x,H1,I1,r1,q1⟩=>⟨x,σ,H1,I1,r1,q1⟩)
abbrev IH (c:TT)(t u:TS):TS:=fun D σ H=>c σ H fun b H1=>if b=true then t D σ H1 else u D σ H1
theorem BD {c:Expr}{a b:List Stmt}{tc:TT}(hc:PT X c tc)(ha:PSs X a t)(hb:PSs X b u):PS X (.If c a b pos) (IH tc t u):=by
 intro pins s σ H D I h;refine wpAny_If (thn (hc pins s σ H _ I h) fun d s1 ⟨H1,I1,q1⟩=>?_)
 cases d with
 | true=>exact ha pins s1 σ H1 D I1 q1
 | false=>exact hb pins s1 σ H1 D I1 q1
end
abbrev TG:=V->St->Hp->(St->Hp->Prop)->Prop
abbrev TGs:=List V->St->Hp->(St->Hp->Prop)->Prop
def PG (X:Cx)(target:Expr)(t:TG):Prop :=
 ∀ (pins:List (Addr × Obj)) (s:Shared) (σ:St) (H:Hp) (v:V) (u:Value) (Q:St->Hp->Prop),Inv X pins σ H s->RelV v u->t v σ H Q ->
  wpAny (model X.prog X.w) X.A (assign target X.env u) (fun _ s'=>∃ σ' H',Inv X pins σ' H' s'/\Q σ' H') X.xe s
def PGs (X:Cx)(ts:List Expr)(t:TGs):Prop :=
 ∀ (pins:List (Addr × Obj)) (s:Shared) (σ:St) (H:Hp) (vs:List V) (us:List Value) (Q:St->Hp->Prop),Inv X pins σ H s->Vals vs us->t vs σ H Q ->
  wpAny (model X.prog X.w) X.A (assignInOrder ((assignEach ts X.env).map (·.2)) us) (fun _ s'=>∃ σ' H',Inv X pins σ' H' s'/\Q σ' H') X.xe s
abbrev TSet:=V->V->V->Hp->(Hp->Prop)->Prop
def PSet (X:Cx)(t:TSet):Prop :=
 ∀ (pins:List (Addr × Obj)) (s:Shared) (σ:St) (H:Hp) (o i v:V) (ov iv u:Value) (Q:Hp->Prop),Inv X pins σ H s->RelV o ov->RelV i iv->RelV v u->t o i v H Q ->
  wpAny (model X.prog X.w) X.A (setItem ov iv u) (fun _ s'=>∃ H',Inv X pins σ H' s'/\Q H') X.xe s
section
variable {X:Cx}{pos:Pos}
abbrev CB (i:Nat):TG:=fun v σ H Q=>Q (σ.set i (some v)) H
theorem FT {i:Nat}{x:Str}(hN:X.N.Nodup)(hi:X.N[i]? = some x)(hx:Loc X.env.scope x)(hf:X.fn x=true\/X.env.scope.names.lookup x=some .local := by first|exact .inl rfl|exact .inr rfl|assumption):PG X (.Name x pos) (CB i):=by
 intro pins s σ H v u Q I r h;exact wpAny_assign_Name (Pe I hN hi hx r (fun s' I'=>⟨_,H,I',h⟩) hf)
def gNil:TGs:=fun vs σ H Q=>vs=[]/\Q σ H
def Ka (t:TG)(u:TGs):TGs:=fun vs σ H Q=>∃ v r,vs=v::r/\t v σ H fun σ' H'=>u r σ' H' Q
theorem Hr:PGs X [] gNil:=by
 intro pins s σ H vs us Q I r h;obtain ⟨e,h⟩:=h;subst e;cases r;exact assignInOrder_nil ⟨σ,H,I,h⟩
theorem CY {e:Expr}{es:List Expr}{t:TG}{u:TGs}(h1:PG X e t)(h2:PGs X es u)
  (hs:(assignEach (e::es) X.env).map (·.2)=assign e X.env::(assignEach es X.env).map (·.2):=by rfl):PGs X (e::es) (Ka t u):=by
 intro pins s σ H vs us Q I r h;obtain ⟨v,vr,e1,h⟩:=h;subst e1
 cases r with
 | cons r rr =>
  rw [hs];refine assignInOrder_cons (thn (h1 pins s σ H _ _ _ I r h) fun _ s1 ⟨σ1,H1,I1,q1⟩=>?_);exact h2 pins s1 σ1 H1 _ _ Q I1 rr q1
def gTup (K:FZ9)(n:Nat)(t:TGs):TG:=fun v σ H Q=>∃ a xs,v = .ref a/\SqT K H a xs/\xs.length=n/\t xs σ H Q
theorem Ji {es:List Expr}{k:Nat}{t:TGs}{n:Nat}(hc:X.calm=true)(h:PGs X es t)
  (hn:(assignEach es X.env).length=n:=by rfl) (hst:(assignEach es X.env).findIdx? (·.1)=none:=by rfl):PG X (.Tuple es k pos) (gTup X.K n t):=by
 intro pins s σ H v u Q I r hw;obtain ⟨a,xs,e1,hq,hl,hw⟩:=hw;subst e1;cases r;obtain ⟨its,rv,ht,hz⟩:=I.tuple hq;refine assign_Tuple_tuple (I.ok.hd hc) ht (by simp [hn,<- hl,rv.length]) hst fun h' hx=>?_;have I1:Inv X pins σ H { s with heap:=h' }:=I.kept (t':=s.toks) fun b o e=>hx b o (qyB (qkB e)) e;exact h pins _ σ H xs _ Q I1 (by simpa using rv) hw
def gSub (to ti:TE)(t:TSet):TG:=fun v σ H Q=>to σ H fun o H1=>ti σ H1 fun i H2=>t o i v H2 fun H3=>Q σ H3
theorem Hb {o i:Expr}{to ti:TE}{t:TSet}(ho:PE X o to)(hi:PE X i ti)(hs:PSet X t)
  (ha:∀ v,assign (.Subscript o i pos) X.env v=(do
   let ov <- holding [v] (eval o X.env)
   let iv <- holding [v,ov] (eval i X.env)
   standAt pos
   holding [v,ov,iv] (setItem ov iv v)
   release [v,ov,iv] []):=by intro _;rfl):PG X (.Subscript o i pos) (gSub to ti t):=by
 intro pins s σ H v u Q I r h;rw [ha];refine qbA (qdA (thn (ho pins s σ H _ I h) fun ov s1 ⟨x,H1,I1,r1,q1⟩=>?_));refine qbA (qdA (thn (hi pins s1 σ H1 _ I1 q1) fun iv s2 ⟨y,H2,I2,r2,q2⟩=>?_));refine qbA (wpAny_standAt (qbA (qdA (thn (hs pins s2 σ H2 x y v ov iv u _ I2 r1 r2 r q2) fun _ s3 ⟨H3,I3,q3⟩=>?_))));exact wpAny_release ⟨σ,H3,I3,q3⟩
abbrev Fv (te:TE)(g:TG):TS:=fun D σ H=>te σ H fun x H1=>g x σ H1 D.nx
theorem Gu {tg e:Expr}{te:TE}{g:TG}(he:PE X e te)(hg:PG X tg g)(hs:swapsWithSole [tg] e pos.line X.env=pure false:=by rfl)(hw:swappedStores [tg] e X.env=pure none:=by rfl)
  (h1:(assignEach [tg] X.env).map (·.2)=[assign tg X.env]:=by rfl):PS X (.Assign [tg] e pos) (Fv te g):=by
 intro pins s σ H D I h;refine wpAny_Assign_stores (thn (he pins s σ H _ I h) fun v s1 ⟨x,H1,I1,r1,q1⟩=>?_) hs hw;rw [h1];exact thn (hg pins s1 σ H1 x v _ I1 r1 q1) fun _ s2 q=>q
theorem ps_set {i:Nat}{x:Str}{e:Expr}{te:TE}{pos':Pos}(hN:X.N.Nodup)(hi:X.N[i]? = some x)(hx:Loc X.env.scope x)(he:PE X e te)(hs:swapsWith e (some (.Name x pos')) pos.line X.env=pure false:=by rfl)(hf:X.fn x=true\/X.env.scope.names.lookup x=some .local := by first|exact .inl rfl|exact .inr rfl|assumption) :
  PS X (.Assign [.Name x pos'] e pos) (Fv te (CB i)):=by
 intro pins s σ H D I h;refine wpAny_Assign_Name (thn (he pins s σ H _ I h) fun v s1 ⟨y,H1,I1,r1,q1⟩=>?_) hs;exact Pe I1 hN hi hx r1 (fun s2 I2=>⟨_,H1,I2,q1⟩) hf
end
section
variable {X:Cx}{pos:Pos}
def tWhile (c:TT)(tb:TS):TS:=fun D σ H=>∃ W:Nat->St->Hp->Prop,(∃ m,W m σ H)/\∀ m σ H,W m σ H ->
 c σ H fun b H1=>if b=true then ∃ N:St->Hp->Prop,(∀ σ' H',N σ' H'->∃ m',m'<m/\W m' σ' H')/\tb { D with nx:=N,ct:=N,bk:=D.nx } σ H1 else D.nx σ H1
theorem HD {c:Expr}{body:List Stmt}{tc:TT}{tb:TS}(hp:PassesOwn (model X.prog X.w) X.A X.env X.xe)(hc:PT X c tc)(hb:PSs X body tb):PS X (.While c body [] pos) (tWhile tc tb):=by
 intro pins s σ H D I h;obtain ⟨W,⟨m0,w0⟩,turn⟩:=h;refine wpAny_While (codeAny_whileLoop (fun n s'=>∃ σ' H',Inv X pins σ' H' s'/\W n σ' H') ?_ m0 ⟨σ,H,I,w0⟩);rintro n s1 ⟨σ1,H1,I1,w1⟩;refine wpAny_passesOwn hp (thn (hc pins s1 σ1 H1 _ I1 (turn n σ1 H1 w1)) fun b s2 ⟨H2,I2,q2⟩=>?_)
 cases b with
 | true =>
  obtain ⟨N,hN,q2⟩:=q2;rw [if_pos rfl];refine wpAny_passesOwn hp (thn (hb pins s2 σ1 H2 _ I2 q2) fun f s3 q3=>?_)
  cases f with
  | next =>
   obtain ⟨σ3,H3,I3,n3⟩:=q3;obtain ⟨m',hm,w3⟩:=hN σ3 H3 n3;exact ⟨m',hm,σ3,H3,I3,w3⟩
  | cont =>
   obtain ⟨σ3,H3,I3,n3⟩:=q3;obtain ⟨m',hm,w3⟩:=hN σ3 H3 n3;exact ⟨m',hm,σ3,H3,I3,w3⟩
  | brk=>exact q3
  | ret v=>exact q3
 | false =>
  rw [if_neg quB];exact wpAny_execs_nil ⟨σ1,H2,I2,q2⟩
end
structure It where
 go:Nat->Hp->Prop
 yld:Nat->Hp->V->Hp->Prop
 stop:Nat->Hp->Prop
def IM (X:Cx)(pins:List (Addr × Obj))(H:Hp)(b:Addr):Prop :=
 H b=none/\b≠X.env.locals/\b ∉ X.fs/\(b∈X.ex\/X.s₀.heap.objs.size<=b)/\(∀ x c,X.env.cells.lookup x=some c->c≠b)/\∀ p∈X.pn++pins,p.1≠b
theorem Inv.fpOk {X:Cx}{pins:List (Addr × Obj)}{σ:St}{H H':Hp}{s:Shared}{b:Addr}(I:Inv X pins σ H s)(hb:s.heap.objs.size<=b)(hn:H' b=none):IM X pins H' b:=by
 refine ⟨hn,Nat.ne_of_gt (qzB I.lt hb),I.nofs hb,.inr (qgB I.sz hb),fun x c e z=>?_,fun p hp z=>?_⟩
 ·obtain ⟨v,q⟩:=I.cell x c e;exact absurd (qzB q.lt (by rw [z];exact hb)) (qhB _)
 ·exact absurd (qzB (qkB (I.pin p hp).1) (by rw [z];exact hb)) (qhB _)
structure Turn (P:Program)(w:World)(K:FZ9)(tg:Expr)(J:It)(fp:List Addr)(it:Addr)(tn:Nat->Heap->Prop):Prop where
 mem:it∈fp
 obj:∀ i h,tn i h->∀ b∈fp,∃ o,h.get? b=some o/\∀ v,o.data ≠ .cell v
 keep:∀ i h h',tn i h->(∀ b∈fp,∀ o,h.get? b=some o->h'.get? b=some o)->tn i h'
 item:∀ (X:Cx),X.prog=P->X.w=w->X.K=K->X.calm=true->∀ (i:Nat) (pins:List (Addr × Obj)) (s:Shared) (σ:St) (H:Hp) (E:Value->Shared->Prop),Inv X pins σ H s->(∀ b∈fp,IM X pins H b)->tn i s.heap->J.go i H ->
  wpAny (model P w) X.A (pyNext (.ref it)) (fun r s1=>∃ u,r=some u /\
   wpAny (model P w) X.A (letOwnedTupleGo tg (.ref it) u) (fun _ s2=>∃ x H',Inv X pins σ H' s2/\RelV x u/\J.yld i H x H'/\tn (i+1) s2.heap/\∀ b∈fp,H' b=none) E s1) E s
 done:∀ (X:Cx),X.prog=P->X.w=w->X.K=K->X.calm=true->∀ (i:Nat) (pins:List (Addr × Obj)) (s:Shared) (σ:St) (H:Hp) (E:Value->Shared->Prop),Inv X pins σ H s->(∀ b∈fp,IM X pins H b)->tn i s.heap->J.stop i H ->
  wpAny (model P w) X.A (pyNext (.ref it)) (fun r s1=>r=none/\Inv X pins σ H s1) E s
 self:∀ (A:Around) (i:Nat) (s:Shared) (Q:Value->Shared->Prop) (E:Value->Shared->Prop),tn i s.heap->Q (.ref it) s->wpAny (model P w) A (pyIter (.ref it)) Q E s
abbrev TI:=St->Hp->(It->Hp->Prop)->Prop
def PIE (X:Cx)(pins:List (Addr × Obj))(σ:St)(tg:Expr)(R:It->Hp->Prop)(itv:Value)(s2:Shared):Prop :=
 ∃ (it:Addr) (fp:List Addr) (tn:Nat->Heap->Prop) (J:It) (H':Hp),itv = .ref it/\Inv X pins σ H' s2/\Turn X.prog X.w X.K tg J fp it tn/\tn 0 s2.heap/\(∀ b∈fp,IM X pins H' b)/\R J H'
def PI (X:Cx)(tg iter:Expr)(wi:TI):Prop :=
 ∀ (pins:List (Addr × Obj)) (s:Shared) (σ:St) (H:Hp) (R:It->Hp->Prop),Inv X pins σ H s->wi σ H R ->
  wpAny (model X.prog X.w) X.A (eval iter X.env) (fun v s1=>wpAny (model X.prog X.w) X.A (pyIter v) (PIE X pins σ tg R) X.xe s1) X.xe s
theorem LG {M:Model}{A:Around}{E:Value->Shared->Prop}{s:Shared}{tg:Expr}{it:Addr}{u:Value}{o:Obj}{n:String}{vs:Array Value}{Q:Unit->Shared->Prop}(ho:s.heap.get? it=some o)(hc:o.cls = .type n)(hd:o.data = .fields vs)
  (hn:["enumerate","zip","dict_itemiterator","dict_reverseitemiterator","odict_iterator","itertools.zip_longest","itertools.pairwise"].contains n=false) (hQ:Q () s):wpAny M A (letOwnedTupleGo tg (.ref it) u) Q E s:=by
 unfold letOwnedTupleGo
 cases tg<;>first
  | exact qcA hQ
  | (cases u<;>first
    | exact qcA hQ
    | (refine qbA (wpAny_load ho ?_)
       rw [hc,hd];show wpAny M A (if (["enumerate","zip","dict_itemiterator","dict_reverseitemiterator","odict_iterator","itertools.zip_longest","itertools.pairwise"].contains n && vs[0]? == some (rawInt _))=true then _ else _) Q E s;rw [if_neg (by intro h;rw [hn,Bool.false_and] at h;cases h)]
       exact qcA hQ))
def Itl (K:FZ9)(a:Addr):It :=
 ⟨fun i H=>∃ xs x,SqL K H a xs/\xs[i]? = some x,fun i H x H'=>H'=H/\∀ xs,SqL K H a xs->xs[i]? = some x,fun i H=>∃ xs,SqL K H a xs/\xs.length<=i⟩
def Itt (K:FZ9)(a:Addr):It :=
 ⟨fun i H=>∃ xs x,SqT K H a xs/\xs[i]? = some x,fun i H x H'=>H'=H/\∀ xs,SqT K H a xs->xs[i]? = some x,fun i H=>∃ xs,SqT K H a xs/\xs.length<=i⟩
def Itr (lo:Int)(n:Nat):It:=⟨fun i _=>i<n,fun i H x H'=>H'=H/\x = .int (lo+i),fun i _=>n<=i⟩
theorem Rt {P:Program}{w:World}{K:FZ9}{tg:Expr}(a it:Addr):Turn P w K tg (Itl K a) [it] it (fun i h=>h.IsListIter it a i) where
 mem:=by simp
 obj:=fun i h st b hb=>by
  have e:b=it:=by simpa using hb
  subst e;obtain ⟨o,e,c,d⟩:=st;exact ⟨o,e,fun v z=>by rw [d] at z;cases z⟩
 keep:=fun i h h' st k=>st.at fun o e=>k it (by simp) o e
 item:=by
  intro X hP hw hK hc i pins s σ H E I hf st hg;subst hP hw hK;obtain ⟨xs,x,hq,hx⟩:=hg;obtain ⟨its,rv,p,hz⟩:=I.list hq;obtain ⟨u,hu,ru⟩:=rv.get hx;obtain ⟨f0,f1,f2,f3,f4,f5⟩:=hf it (by simp);refine wpAny_pyNext_list_item st p.isList (x:=u) (by simpa using hu) fun h' st' sb=>?_;have I1:Inv X pins σ H { s with heap:=h' }:=I.turned (t':=s.toks) (fun b o hb e=>(sb.2 b hb).trans e) f0 f1 f3 f4 f5;obtain ⟨o,e,c,d⟩:=id st';exact ⟨u,rfl,LG (s:={ s with heap:=h' }) e c d (by decide) ⟨x,H,I1,ru,⟨rfl,fun ys hy=>by rw [I.list_inj hy hq];exact hx⟩,st',fun b hb=>(hf b hb).1⟩⟩
 done:=by
  intro X hP hw hK hc i pins s σ H E I hf st hg;subst hP hw hK;obtain ⟨xs,hq,hx⟩:=hg;obtain ⟨its,rv,p,hz⟩:=I.list hq;obtain ⟨f0,f1,f2,f3,f4,f5⟩:=hf it (by simp);have hl:=rv.length;exact wpAny_pyNext_list_end (I.ok.hd hc) st p.isList (by simp;omega) fun h' eb=>⟨rfl,I.turned (t':=s.toks) (fun b o hb e=>eb b o hb e) f0 f1 f3 f4 f5⟩
 self:=fun _ _ _ _ _ st h=>wpAny_pyIter_listiter st h
theorem QD {P:Program}{w:World}{K:FZ9}{tg:Expr}(a it:Addr):Turn P w K tg (Itt K a) [it] it (fun i h=>h.IsTupleIter it a i) where
 mem:=by simp
 obj:=fun i h st b hb=>by
  have e:b=it:=by simpa using hb
  subst e;obtain ⟨o,e,c,d⟩:=st;exact ⟨o,e,fun v z=>by rw [d] at z;cases z⟩
 keep:=fun i h h' st k=>st.at fun o e=>k it (by simp) o e
 item:=by
  intro X hP hw hK hc i pins s σ H E I hf st hg;subst hP hw hK;obtain ⟨xs,x,hq,hx⟩:=hg;obtain ⟨its,rv,p,hz⟩:=I.tuple hq;obtain ⟨u,hu,ru⟩:=rv.get hx;obtain ⟨f0,f1,f2,f3,f4,f5⟩:=hf it (by simp);refine wpAny_pyNext_tuple_item st (show s.heap.IsTuple a its.toArray from p) (x:=u) (by simpa using hu) fun h' st' sb=>?_;have I1:Inv X pins σ H { s with heap:=h' }:=I.turned (t':=s.toks) (fun b o hb e=>(sb.2 b hb).trans e) f0 f1 f3 f4 f5;obtain ⟨o,e,c,d⟩:=id st';exact ⟨u,rfl,LG (s:={ s with heap:=h' }) e c d (by decide) ⟨x,H,I1,ru,⟨rfl,fun ys hy=>by rw [I.tuple_inj hy hq];exact hx⟩,st',fun b hb=>(hf b hb).1⟩⟩
 done:=by
  intro X hP hw hK hc i pins s σ H E I hf st hg;subst hP hw hK;obtain ⟨xs,hq,hx⟩:=hg;obtain ⟨its,rv,p,hz⟩:=I.tuple hq;obtain ⟨f0,f1,f2,f3,f4,f5⟩:=hf it (by simp);have hl:=rv.length;exact wpAny_pyNext_tuple_end (I.ok.hd hc) st (show s.heap.IsTuple a its.toArray from p) (by simp;omega) fun h' eb=>⟨rfl,I.turned (t':=s.toks) (fun b o hb e=>eb b o hb e) f0 f1 f3 f4 f5⟩
 self:=fun _ _ _ _ _ st h=>wpAny_pyIter_tupleiter st h
theorem Pk {P:Program}{w:World}{K:FZ9}{tg:Expr}(it:Addr)(lo:Int)(n:Nat):Turn P w K tg (Itr lo n) [it] it (fun i h=>IsRangeIter h it (lo+(i:Nat) * 1) ((n:Int) - (i:Nat)) 1) where
 mem:=by simp
 obj:=fun i h st b hb=>by
  have e:b=it:=by simpa using hb
  subst e
  exact ⟨_,st,fun v z=>by
   have z':Data.fields _=Data.cell v:=z
   cases z'⟩
 keep:=fun i h h' st k=>k it (by simp) _ st
 item:=by
  intro X hP hw hK hc i pins s σ H E I hf st hg;subst hP hw hK;obtain ⟨f0,f1,f2,f3,f4,f5⟩:=hf it (by simp);have W:=Walks.range (prog:=X.prog) (w:=X.w) (I.ok.hd hc) it lo 1 n;refine W.item i s _ _ hg st fun v h' tk hv st' kk=>?_;obtain ⟨t,rfl⟩:=hv;have I1:Inv X pins σ H { s with heap:=h',toks:=tk }:=I.turned (fun b o hb e=>kk b o (by simpa using hb) e) f0 f1 f3 f4 f5;refine ⟨_,rfl,LG (s:={ s with heap:=h',toks:=tk }) (n := "range_iterator") st' rfl rfl (by decide) ⟨.int (lo+i),H,I1,⟨t,?_⟩,⟨rfl,rfl⟩,st',fun b hb=>(hf b hb).1⟩⟩;rw [Int.mul_one]
 done:=by
  intro X hP hw hK hc i pins s σ H E I hf st hg;subst hP hw hK;obtain ⟨f0,f1,f2,f3,f4,f5⟩:=hf it (by simp);exact wpAny_pyNext_range_end (I.ok.hd hc) st (by have:n<=i:=hg;omega) fun h' eb=>⟨rfl,I.turned (t':=s.toks) (fun b o hb e=>eb b o hb e) f0 f1 f3 f4 f5⟩
 self:=fun _ _ _ _ _ st h=>wpAny_pyIter_rangeiter st h
section
variable {X:Cx}{tg:Expr}
theorem range_it {pins:List (Addr × Obj)}{σ:St}{H:Hp}{s:Shared}{R:It->Hp->Prop}{E:Value->Shared->Prop}{lo hi:Int}{t u v:Tok}{tk:Nat}(I:Inv X pins σ H s)(h1:-(2 ^ 62)<=lo)(h2:lo<2 ^ 62)(h3:-(2 ^ 62)<=hi)(h4:hi<2 ^ 62)
  (q:R (Itr lo (hi - lo).toNat) H):wpAny (model X.prog X.w) X.A (pyIter (.ref s.heap.objs.size)) (PIE X pins σ tg R) E { s with heap:=s.heap.push { cls:=.type "range",data:=.fields #[.int lo t,.int hi u,.int 1 v] },toks:=tk }:=by
 refine wpAny_pyIter_range (IsRange.new ..) (small_one h1 h2 h3 h4) ?_;have I1:Inv X pins σ H { s with heap:=s.heap.push { cls:=.type "range",data:=.fields #[.int lo t,.int hi u,.int 1 v] },toks:=tk }:=I.kept fun b o e=>qmB _ e
 refine ⟨(s.heap.push { cls:=.type "range",data:=.fields #[.int lo t,.int hi u,.int 1 v] }).objs.size,[(s.heap.push { cls:=.type "range",data:=.fields #[.int lo t,.int hi u,.int 1 v] }).objs.size],_,_,H,rfl,
  I1.kept (t':=tk) fun b o e=>qmB _ e,Pk _ lo (hi - lo).toNat,?_,fun b hb=>?_,q⟩
 ·have e1:lo+((0:Nat):Int) * 1=lo:=by simp
  have e2:(((hi - lo).toNat:Nat):Int) - ((0:Nat):Int)=Builtin.Range.rangeSize lo hi 1:=by rw [rangeSize_one];split<;>omega
  show IsRangeIter _ _ (lo+((0:Nat):Int) * 1) ((((hi - lo).toNat:Nat):Int) - ((0:Nat):Int)) 1;rw [e1,e2];exact qnB _ rfl
 ·have e:b=(s.heap.push { cls:=.type "range",data:=.fields #[.int lo t,.int hi u,.int 1 v] }).objs.size:=by simpa using hb
  subst e;exact I1.fpOk (qfB _) (I1.hok.fresh (qfB _))
def iRng1 (ta:TA):TI:=fun σ H R=>ta σ H fun vs H1=>∃ j:Int,vs=[.int j]/\-(2 ^ 62)<=j/\j<2 ^ 62/\R (Itr 0 j.toNat) H1
theorem CI {a:Expr}{ta:TA}{p pos:Pos}(hg:Gl X "range")(hm:X.mg "range" = none)(ha:PA X [a] ta)(hs:starEach [a] X.env=[(false,eval a X.env)]:=by rfl):PI X tg (.Call (.Name "range" p) [a] [] pos) (iRng1 ta):=by
 intro pins s σ H R I h;refine Call_ (Jo I hg hm boot_range (PyProof.Rows.callWith_type1 (thn (ha pos pins s σ H _ I h) fun us s1 ⟨vs,H1,I1,r1,q1⟩=>?_) hs rfl));obtain ⟨j,e,q1,q2,q⟩:=q1;subst e
 cases r1 with
 | cons r rr =>
  cases rr;obtain ⟨t,rfl⟩:=r;exact call_range_1 (range_it I1 (by omega) (by omega) q1 q2 (by simpa using q))
def tFor (wi:TI)(g:TG)(tb:TS):TS:=fun D σ H=>wi σ H fun J H1=>∃ W:Nat->Nat->St->Hp->Prop,(∃ m,W 0 m σ H1)/\∀ i m σ H,W i m σ H ->
 (J.stop i H/\D.nx σ H)\/(J.go i H/\∃ N:St->Hp->Prop,(∀ σ' H',N σ' H'->∃ m',m'<m/\W (i+1) m' σ' H')/\∀ x H',J.yld i H x H'->g x σ H' fun σ2 H2=>tb { D with nx:=N,ct:=N,bk:=D.nx } σ2 H2)
def M3 (fp:List Addr)(h:Heap):List (Addr × Obj):=fp.filterMap fun b=>(h.get? b).map fun o=>(b,o)
theorem GB {fp:List Addr}{h:Heap}{b:Addr}{o:Obj}(hb:b∈fp)(e:h.get? b=some o):(b,o)∈M3 fp h:=List.mem_filterMap.mpr ⟨b,hb,by rw [e];rfl⟩
theorem SJ {fp:List Addr}{h:Heap}{p:Addr × Obj}(hp:p∈M3 fp h):p.1∈fp/\h.get? p.1=some p.2:=by
 obtain ⟨b,hb,e⟩:=List.mem_filterMap.mp hp
 cases q:h.get? b with
 | none=>rw [q] at e;cases e
 | some o =>
  rw [q] at e;have e':(b,o)=p:=qjB e;subst e';exact ⟨hb,q⟩
theorem Inv.pinned {pins:List (Addr × Obj)}{σ:St}{H:Hp}{s:Shared}{fp:List Addr}(I:Inv X pins σ H s)(hf:∀ b∈fp,IM X pins H b)(ho:∀ b∈fp,∃ o,s.heap.get? b=some o/\∀ v,o.data ≠ .cell v):Inv X (pins++M3 fp s.heap) σ H s :=
 I.pins_of fun p hp=>(qkA.mp hp).elim (fun z=>I.pin p (qaC _ z)) fun z=>by
  obtain ⟨hb,e⟩:=SJ z;obtain ⟨f0,f1,f2,_⟩:=hf p.1 hb;obtain ⟨o,e',d⟩:=ho p.1 hb;rw [e] at e';cases e';exact ⟨e,f0,f1,f2,d⟩
theorem Inv.unpinned {pins pl:List (Addr × Obj)}{σ:St}{H:Hp}{s:Shared}(I:Inv X (pins++pl) σ H s):Inv X pins σ H s:=I.pins_of fun p hp=>I.pin p (qaC _ (List.mem_append_left _ hp))
theorem Bj {iter:Expr}{body:List Stmt}{wi:TI}{g:TG}{tb:TS}{pos:Pos}(hp:PassesOwn (model X.prog X.w) X.A X.env X.xe)(hc:X.calm=true)(hi:PI X tg iter wi)(hg:PG X tg g)(hb:PSs X body tb)
  (hs:∀ x,foldedSetIterable iter X.env x=pure x:=by intro _;rfl):PS X (.For tg iter body [] pos) (tFor wi g tb):=by
 intro pins s σ H D I h;refine wpAny_For (thn (hi pins s σ H _ I h) fun v s1 h1=>thn h1 fun itv s2 h2=>?_) hs;obtain ⟨it,fp,tn,J,H2,e,I2,T,st2,f2,W,⟨m0,w0⟩,turn⟩:=h2;subst e;have stat:∀ {H':Hp},(∀ b∈fp,H' b=none)->∀ b∈fp,IM X pins H' b:=fun hn b hb=>⟨hn b hb,(f2 b hb).2⟩;refine codeAny_forLoop_any (fun n s'=>∃ i σ' H',Inv X pins σ' H' s'/\tn i s'.heap/\(∀ b∈fp,H' b=none)/\W i n σ' H') ?_ m0 ⟨0,σ,H2,I2,st2,fun b hb=>(f2 b hb).1,w0⟩;rintro n s3 ⟨i,σ3,H3,I3,st3,fr3,w3⟩;rcases turn i n σ3 H3 w3 with ⟨stop,qn⟩ | ⟨go,N,hN,step⟩
 ·refine wpAny_passesOwn hp (thn (T.done X rfl rfl rfl hc i pins s3 σ3 H3 X.xe I3 (stat fr3) st3 stop) fun r s4 ⟨hr,I4⟩=>?_);subst hr;exact wpAny_execs_nil ⟨σ3,H3,I4,qn⟩
 ·refine wpAny_passesOwn hp (thn (T.item X rfl rfl rfl hc i pins s3 σ3 H3 X.xe I3 (stat fr3) st3 go) fun r s4 ⟨u,hr,h4⟩=>?_);subst hr;refine wpAny_passesOwn hp (thn h4 fun _ s5 ⟨x,H5,I5,r5,y5,st5,fr5⟩=>?_);have I5':=I5.pinned (stat fr5) (T.obj _ _ st5);refine wpAny_passesOwn hp (thn (hg _ s5 σ3 H5 x u _ I5' r5 (step x H5 y5)) fun _ s6 ⟨σ6,H6,I6,q6⟩=>?_);refine wpAny_passesOwn hp (thn (hb _ s6 σ6 H6 _ I6 q6) fun f s7 q7=>?_)
  have again:∀ {σ7:St}{H7:Hp},Inv X (pins++M3 fp s5.heap) σ7 H7 s7->N σ7 H7->∃ m,m<n/\∃ i σ' H',Inv X pins σ' H' s7/\tn i s7.heap/\(∀ b∈fp,H' b=none)/\W i m σ' H':=fun {σ7 H7} I7 n7=>by
   obtain ⟨m',hm,w7⟩:=hN σ7 H7 n7;refine ⟨m',hm,i+1,σ7,H7,I7.unpinned,T.keep _ _ _ st5 fun b hb o e=>(I7.pin (b,o) (qaC _ (qaC _ (GB hb e)))).1,fun b hb=>?_,w7⟩;obtain ⟨o,e,d⟩:=T.obj _ _ st5 b hb;exact (I7.pin (b,o) (qaC _ (qaC _ (GB hb e)))).2.1
  cases f with
  | next=>obtain ⟨σ7,H7,I7,n7⟩:=q7;exact again I7 n7
  | cont=>obtain ⟨σ7,H7,I7,n7⟩:=q7;exact again I7 n7
  | brk=>obtain ⟨σ7,H7,I7,q7⟩:=q7;exact ⟨σ7,H7,I7.unpinned,q7⟩
  | ret v=>obtain ⟨x7,σ7,H7,I7,r7,q7⟩:=q7;exact ⟨x7,σ7,H7,I7.unpinned,r7,q7⟩
end
abbrev R2:=V->V->Hp->VK->Prop
def OpR (X:Cx)(f:Value->Value->Sem Value)(r:R2):Prop :=
 ∀ (pins:List (Addr × Obj)) (s:Shared) (σ:St) (H:Hp) (x y:V) (v u:Value) (Q:VK),Inv X pins σ H s->RelV x v->RelV y u->r x y H Q ->
  wpAny (model X.prog X.w) X.A (f v u) (EP X pins σ Q) X.xe s
def UnR (X:Cx)(f:Value->Sem Value)(r:V->Hp->VK->Prop):Prop :=
 ∀ (pins:List (Addr × Obj)) (s:Shared) (σ:St) (H:Hp) (x:V) (v:Value) (Q:VK),Inv X pins σ H s->RelV x v->r x H Q ->
  wpAny (model X.prog X.w) X.A (f v) (EP X pins σ Q) X.xe s
def Ek (X:Cx)(f:Value)(r:List V->Hp->VK->Prop):Prop :=
 ∀ (pins:List (Addr × Obj)) (s:Shared) (σ:St) (H:Hp) (xs:List V) (us:List Value) (Q:VK),Inv X pins σ H s->Vals xs us->r xs H Q ->
  wpAny (model X.prog X.w) X.A (call f us) (EP X pins σ Q) X.xe s
def TruR (X:Cx)(r:V->Hp->(Bool->Hp->Prop)->Prop):Prop :=
 ∀ (pins:List (Addr × Obj)) (s:Shared) (σ:St) (H:Hp) (x:V) (v:Value) (Q:Bool->Hp->Prop),Inv X pins σ H s->RelV x v->r x H Q ->
  wpAny (model X.prog X.w) X.A (truthy v) (TP X pins σ Q) X.xe s
abbrev tOp (r:R2)(ta tb:TE):TE:=fun σ H Q=>ta σ H fun x H1=>tb σ H1 fun y H2=>r x y H2 Q
abbrev tUn (r:V->Hp->VK->Prop)(ta:TE):TE:=fun σ H Q=>ta σ H fun x H1=>r x H1 Q
def rI (C:Int->Int->Prop)(g:Int->Int->V):R2:=fun x y H Q=>∃ i j,x = .int i/\y = .int j/\C i j/\Q (g i j) H
def rI0 (g:Int->Int->V):R2:=fun x y H Q=>∃ i j,x = .int i/\y = .int j/\Q (g i j) H
def rU (g:Int->V):V->Hp->VK->Prop:=fun x H Q=>∃ i,x = .int i/\Q (g i) H
section
variable {X:Cx}{a b c:Expr}{ta tb tc:TE}{pos:Pos}
theorem binT (ha:PE X a ta)(hb:PE X b tb){pins:List (Addr × Obj)}{s:Shared}{σ:St}{H:Hp}{R:V->V->Hp->Prop}(I:Inv X pins σ H s)
  (h:ta σ H fun x H1=>tb σ H1 fun y H2=>R x y H2) {Q:Value->Shared->Prop}{f:Value->Value->Sem Value}
  (hf:∀ v u s2 x y H2,Inv X pins σ H2 s2->RelV x v->RelV y u->R x y H2->wpAny (model X.prog X.w) X.A (f v u) Q X.xe s2) :
  wpAny (model X.prog X.w) X.A (eval a X.env) (fun v s₁=>wpAny (model X.prog X.w) X.A (eval b X.env) (fun u s₂=>wpAny (model X.prog X.w) X.A (f v u) Q X.xe s₂) X.xe s₁) X.xe s:=by
 refine thn (ha pins s σ H _ I h) fun v s1 ⟨x,H1,I1,r1,q1⟩=>?_;refine thn (hb pins s1 σ H1 _ I1 q1) fun u s2 ⟨y,H2,I2,r2,q2⟩=>?_;exact hf v u s2 x y H2 I2 r1 r2 q2
theorem Ax {op:Operator}{r:R2}(ho:OpR X (binaryOp op) r)(ha:PE X a ta)(hb:PE X b tb):PE X (.BinOp a op b pos) (tOp r ta tb):=by
 intro pins s σ H Q I h;exact wpAny_BinOp (binT ha hb I h fun v u s2 x y H2 I2 rx ry q=>ho pins s2 σ H2 x y v u Q I2 rx ry q)
theorem Mh {op:UnaryOp}{r:V->Hp->VK->Prop}(ho:UnR X (unaryOp op) r)(ha:PE X a ta):PE X (.UnaryOp op a pos) (tUn r ta):=by
 intro pins s σ H Q I h;exact UnaryOp_ (thn (ha pins s σ H _ I h) fun v s1 ⟨x,H1,I1,r1,q1⟩=>ho pins s1 σ H1 x v Q I1 r1 q1)
theorem opI {f:Value->Value->Sem Value}{C:Int->Int->Prop}{g:Int->Int->Int}
  (rule:∀ (i j:Int) (t u:Tok) (s:Shared) (Q:Value->Shared->Prop) (E:Value->Shared->Prop),C i j->Q (.int (g i j) s.toks) { s with toks:=s.toks+1 }->wpAny (model X.prog X.w) X.A (f (.int i t) (.int j u)) Q E s) :
  OpR X f (rI C fun i j=>.int (g i j)):=by
 intro pins s σ H x y v u Q I rx ry h;obtain ⟨i,j,rfl,rfl,hc,q⟩:=h;obtain ⟨t,rfl⟩:=rx;obtain ⟨t',rfl⟩:=ry;exact rule i j t t' s _ _ hc ⟨.int (g i j),H,I.tok _,⟨_,rfl⟩,q⟩
theorem opI0 {f:Value->Value->Sem Value}{g:Int->Int->Int}
  (rule:∀ (i j:Int) (t u:Tok) (s:Shared) (Q:Value->Shared->Prop) (E:Value->Shared->Prop),Q (.int (g i j) s.toks) { s with toks:=s.toks+1 }->wpAny (model X.prog X.w) X.A (f (.int i t) (.int j u)) Q E s) :
  OpR X f (rI0 fun i j=>.int (g i j)):=by
 intro pins s σ H x y v u Q I rx ry h;obtain ⟨i,j,rfl,rfl,q⟩:=h;obtain ⟨t,rfl⟩:=rx;obtain ⟨t',rfl⟩:=ry;exact rule i j t t' s _ _ ⟨.int (g i j),H,I.tok _,⟨_,rfl⟩,q⟩
theorem opB0 {f:Value->Value->Sem Value}{g:Int->Int->Bool}
  (rule:∀ (i j:Int) (t u:Tok) (s:Shared) (Q:Value->Shared->Prop) (E:Value->Shared->Prop),Q (.bool (g i j)) s->wpAny (model X.prog X.w) X.A (f (.int i t) (.int j u)) Q E s) :
  OpR X f (rI0 fun i j=>.bl (g i j)):=by
 intro pins s σ H x y v u Q I rx ry h;obtain ⟨i,j,rfl,rfl,q⟩:=h;obtain ⟨t,rfl⟩:=rx;obtain ⟨t',rfl⟩:=ry;exact rule i j t t' s _ _ ⟨.bl (g i j),H,I,rfl,q⟩
def Q4 (i j:Int):Prop:=0<j/\j<1073741824
def CPow (i j:Int):Prop:=0<=j/\j<=1000000/\i.natAbs<2 ^ 64
def CMul (i j:Int):Prop:=(-(2 ^ 64)<i/\i<2 ^ 64)\/(-(2 ^ 64)<j/\j<2 ^ 64)
theorem CMul.ok {i j:Int}(h:CMul i j):IntMulOk i j:=by
 rcases h with ⟨h1,h2⟩ | ⟨h1,h2⟩
 ·exact .of_left (intBits_le_64 h1 h2)
 ·exact .of_right (intBits_le_64 h1 h2)
theorem op_add:OpR X (binaryOp .Add) (rI0 fun i j=>.int (i+j)):=opI0 fun _ _ _ _ _ _ _ q=>add_int q
theorem op_sub:OpR X (binaryOp .Sub) (rI0 fun i j=>.int (i - j)):=opI0 fun _ _ _ _ _ _ _ q=>sub_int q
theorem op_mul:OpR X (binaryOp .Mult) (rI CMul fun i j=>.int (i * j)):=opI fun _ _ _ _ _ _ _ hc q=>mul_int q hc.ok
theorem EL:OpR X (binaryOp .FloorDiv) (rI Q4 fun i j=>.int (i / j)):=opI fun i j _ _ _ _ _ hc q=>by
 have h1:(0:Int)<j:=hc.1;have h2:j<1073741824:=hc.2;exact floordiv_int (by omega) (by rw [Int.fdiv_eq_ediv_of_nonneg i (by omega)];exact q) (.inl (PyProof.noPylong_small (by omega)))
theorem BS:OpR X (binaryOp .Mod) (rI (fun _ j=>0<j) fun i j=>.int (i % j)):=opI fun i j _ _ _ _ _ hc q=>by
 have h1:(0:Int)<j:=hc;exact mod_int' (by omega) (by rw [Int.fmod_eq_emod_of_nonneg i (by omega)];exact q)
theorem op_pow:OpR X (binaryOp .Pow) (rI CPow fun i j=>.int (i ^ j.toNat)):=opI fun _ _ _ _ _ _ _ hc q=>pow_int_small hc.1 hc.2.1 hc.2.2 q
theorem unI {f:Value->Sem Value}{g:Int->Int}
  (rule:∀ (i:Int) (t:Tok) (s:Shared) (Q:Value->Shared->Prop) (E:Value->Shared->Prop),Q (.int (g i) s.toks) { s with toks:=s.toks+1 }->wpAny (model X.prog X.w) X.A (f (.int i t)) Q E s) :
  UnR X f (rU fun i=>.int (g i)):=by
 intro pins s σ H x v Q I rx h;obtain ⟨i,rfl,q⟩:=h;obtain ⟨t,rfl⟩:=rx;exact rule i t s _ _ ⟨.int (g i),H,I.tok _,⟨_,rfl⟩,q⟩
theorem Jt:UnR X (unaryOp .USub) (rU fun i=>.int (-i)):=unI fun _ _ _ _ _ q=>neg_int q
end
def scal:V->V->Bool
 | .non,.non=>true | .non,.int _=>true | .int _,.non=>true | .non,.bl _=>true | .bl _,.non=>true | .non,.str _=>true | .str _,.non=>true
 | .int _,.int _=>true | .bl _,.bl _=>true | .str _,.str _=>true | .byt _,.byt _=>true
 | .int _,.str _=>true | .str _,.int _=>true | .bl _,.str _=>true | .str _,.bl _=>true
 | _,_=>false
def rEq:R2:=fun x y H Q=>scal x y=true/\Q (.bl (decide (x=y))) H
def rNe:R2:=fun x y H Q=>scal x y=true/\Q (.bl (!decide (x=y))) H
theorem Qs {i j:Int}:decide (V.int i=V.int j)=(i == j):=by
 rw [Bool.eq_iff_iff];simp
theorem dec_bl {i j:Bool}:decide (V.bl i=V.bl j)=(i == j):=by
 rw [Bool.eq_iff_iff];simp
theorem R6 {i j:Str}:decide (V.str i=V.str j)=(i == j):=by
 rw [Bool.eq_iff_iff];simp
theorem Qy {i j:Array UInt8}:decide (V.byt i=V.byt j)=(i.toList == j.toList):=by
 rw [Bool.eq_iff_iff];cases i;cases j;simp
section
variable {X:Cx}{a b c:Expr}{ta tb tc:TE}{pos:Pos}
theorem BL {pins:List (Addr × Obj)}{σ:St}{H:Hp}{s:Shared}{Q:VK}{k k':Bool}(I:Inv X pins σ H s)(q:Q (.bl k) H)(e:k=k'):EP X pins σ Q (.bool k') s:=by
 subst e;exact ⟨.bl k,H,I,rfl,q⟩
theorem E9:OpR X (compareOp .Eq) rEq:=by
 intro pins s σ H x y v u Q I rx ry h;obtain ⟨hs,q⟩:=h
 cases x with
 | non =>
  cases rx
  cases y with
  | non=>cases ry;exact PySem.EqNone.eq_none_none (BL I q (by simp))
  | bl j=>cases ry;exact PySem.EqNone.eq_none_bool (BL I q (by simp))
  | int j=>obtain ⟨t',rfl⟩:=ry;exact PySem.EqNone.eq_none_int (BL I q (by simp))
  | str j=>obtain ⟨t',rfl⟩:=ry;exact PySem.EqNone.eq_none_str (BL I q (by simp))
  | _=>exact absurd (show false=true from hs) quB
 | bl i =>
  cases rx
  cases y with
  | non=>cases ry;exact PySem.EqNone.eq_bool_none (BL I q (by simp))
  | bl j=>cases ry;exact eq_bool (BL I q dec_bl)
  | str j=>obtain ⟨t',rfl⟩:=ry;exact PySem.EqMixed.eq_bool_str (BL I q (by simp))
  | _=>exact absurd (show false=true from hs) quB
 | int i =>
  obtain ⟨t,rfl⟩:=rx
  cases y with
  | non=>cases ry;exact PySem.EqNone.eq_int_none (BL I q (by simp))
  | int j=>obtain ⟨t',rfl⟩:=ry;exact eq_int (BL I q Qs)
  | str j=>obtain ⟨t',rfl⟩:=ry;exact PySem.EqMixed.eq_int_str (BL I q (by simp))
  | _=>exact absurd (show false=true from hs) quB
 | str i =>
  obtain ⟨t,rfl⟩:=rx
  cases y with
  | non=>cases ry;exact PySem.EqNone.eq_str_none (BL I q (by simp))
  | bl j=>cases ry;exact PySem.EqMixed.eq_str_bool (BL I q (by simp))
  | int j=>obtain ⟨t',rfl⟩:=ry;exact PySem.EqMixed.eq_str_int (BL I q (by simp))
  | str j=>obtain ⟨t',rfl⟩:=ry;exact eq_str (BL I q R6)
  | _=>exact absurd (show false=true from hs) quB
 | byt i =>
  obtain ⟨t,rfl⟩:=rx
  cases y with
  | byt j=>obtain ⟨t',rfl⟩:=ry;exact PySem.W.eq_bytes (BL I q Qy)
  | _=>exact absurd (show false=true from hs) quB
 | _=>cases y<;>exact absurd (show false=true from hs) quB
theorem JF:OpR X (compareOp .NotEq) rNe:=by
 intro pins s σ H x y v u Q I rx ry h;obtain ⟨hs,q⟩:=h
 cases x with
 | non =>
  cases rx
  cases y with
  | non=>cases ry;exact PySem.EqNone.ne_none_none (BL I q (by simp))
  | bl j=>cases ry;exact PySem.EqNone.ne_none_bool (BL I q (by simp))
  | int j=>obtain ⟨t',rfl⟩:=ry;exact PySem.EqNone.ne_none_int (BL I q (by simp))
  | str j=>obtain ⟨t',rfl⟩:=ry;exact PySem.EqNone.ne_none_str (BL I q (by simp))
  | _=>exact absurd (show false=true from hs) quB
 | bl i =>
  cases rx
  cases y with
  | non=>cases ry;exact PySem.EqNone.ne_bool_none (BL I q (by simp))
  | bl j=>cases ry;exact ne_bool (BL I q (congrArg not dec_bl))
  | str j=>obtain ⟨t',rfl⟩:=ry;exact PySem.EqMixed.ne_bool_str (BL I q (by simp))
  | _=>exact absurd (show false=true from hs) quB
 | int i =>
  obtain ⟨t,rfl⟩:=rx
  cases y with
  | non=>cases ry;exact PySem.EqNone.ne_int_none (BL I q (by simp))
  | int j=>obtain ⟨t',rfl⟩:=ry;exact ne_int (BL I q (congrArg not Qs))
  | str j=>obtain ⟨t',rfl⟩:=ry;exact PySem.EqMixed.ne_int_str (BL I q (by simp))
  | _=>exact absurd (show false=true from hs) quB
 | str i =>
  obtain ⟨t,rfl⟩:=rx
  cases y with
  | non=>cases ry;exact PySem.EqNone.ne_str_none (BL I q (by simp))
  | bl j=>cases ry;exact PySem.EqMixed.ne_str_bool (BL I q (by simp))
  | int j=>obtain ⟨t',rfl⟩:=ry;exact PySem.EqMixed.ne_str_int (BL I q (by simp))
  | str j=>obtain ⟨t',rfl⟩:=ry;exact ne_str (BL I q (congrArg not R6))
  | _=>exact absurd (show false=true from hs) quB
 | byt i =>
  obtain ⟨t,rfl⟩:=rx
  cases y with
  | byt j=>obtain ⟨t',rfl⟩:=ry;exact PySem.W.ne_bytes (BL I q (congrArg not Qy))
  | _=>exact absurd (show false=true from hs) quB
 | _=>cases y<;>exact absurd (show false=true from hs) quB
theorem op_lt:OpR X (compareOp .Lt) (rI0 fun i j=>.bl (decide (i<j))):=opB0 fun _ _ _ _ _ _ _ q=>lt_int q
theorem op_gt:OpR X (compareOp .Gt) (rI0 fun i j=>.bl (decide (j<i))):=opB0 fun _ _ _ _ _ _ _ q=>gt_int q
theorem op_ge:OpR X (compareOp .GtE) (rI0 fun i j=>.bl (decide (j<=i))):=opB0 fun _ _ _ _ _ _ _ q=>ge_int q
theorem K4:OpR X (compareOp .In) (fun x y H Q=>∃ i j,x = .str i/\y = .str j/\Q (.bl (!(Builtin.Str.occurrences j i 0 j.length 1).isEmpty)) H):=by
 intro pins s σ H x y v u Q I rx ry h;obtain ⟨i,j,rfl,rfl,q⟩:=h;obtain ⟨t,rfl⟩:=rx;obtain ⟨t',rfl⟩:=ry;exact in_str (BL I q rfl)
theorem HM:OpR X (compareOp .Is) (fun x y H Q=>y = .non/\Q (.bl (decide (x = .non))) H):=by
 intro pins s σ H x y v u Q I rx ry h;obtain ⟨rfl,q⟩:=h;cases ry;refine is_none_gen (BL I q ?_)
 cases x<;>first
  | (cases rx;rfl)
  | (obtain ⟨t,rfl⟩:=rx;rfl)
theorem JS:OpR X (compareOp .IsNot) (fun x y H Q=>y = .non/\Q (.bl (!decide (x = .non))) H):=by
 intro pins s σ H x y v u Q I rx ry h;obtain ⟨rfl,q⟩:=h;cases ry;refine isnot_none_gen (BL I q ?_)
 cases x<;>first
  | (cases rx;rfl)
  | (obtain ⟨t,rfl⟩:=rx;rfl)
theorem Ac (b:Expr){op:CmpOp}(h:op ≠ .In:=by decide)(h2:op ≠ .NotIn:=by decide):behindInMarks op b=false:=by
 have e1:(op == CmpOp.In)=false:=by cases op<;>first|rfl|exact absurd rfl h
 have e2:(op == CmpOp.NotIn)=false:=by cases op<;>first|rfl|exact absurd rfl h2
 cases b<;>simp [behindInMarks,e1,e2]
theorem E8 {op:CmpOp}{r:R2}(ho:OpR X (compareOp op) r)(ha:PE X a ta)(hb:PE X b tb)(hm:behindInMarks op b=false):PE X (.Compare a [op] [b] pos) (tOp r ta tb):=by
 intro pins s σ H Q I h;exact wpAny_Compare1 (binT ha hb I h fun v u s2 x y H2 I2 rx ry q=>ho pins s2 σ H2 x y v u Q I2 rx ry q) hm
abbrev RH (t:TE):TT:=fun σ H Q=>t σ H fun x H'=>∃ k,x = .bl k/\Q k H'
theorem AY {op:CmpOp}{r:R2}(ho:OpR X (compareOp op) r)(ha:PE X a ta)(hb:PE X b tb)(hm:behindInMarks op b=false):PT X (.Compare a [op] [b] pos) (RH (tOp r ta tb)):=by
 intro pins s σ H Q I h
 refine wpAny_isTrue_Compare1 (thn (ha pins s σ H _ I h) fun v s1 ⟨x,H1,I1,r1,q1⟩=>thn (hb pins s1 σ H1 _ I1 q1) fun u s2 ⟨y,H2,I2,r2,q2⟩ =>
  thn (ho pins s2 σ H2 x y v u _ I2 r1 r2 q2) fun c s3 ⟨z,H3,I3,r3,k,e,q3⟩=>?_) hm
 subst e;cases r3;exact wpAny_truthy_bool ⟨H3,I3,q3⟩
def TruV (K:FZ9)(x:V)(H:Hp)(k:Bool):Prop :=
 match x with
 | .non=>k=false
 | .bl b=>k=b
 | .int i=>k=(i != 0)
 | .str y=>y.length<=sizeLine/\k=((y.length:Int) != 0)
 | .byt y=>y.size<=sizeLine/\k=((y.size:Int) != 0)
 | .ref p=>(∃ xs,SqL K H p xs/\k = !xs.isEmpty)\/(∃ xs,SqT K H p xs/\k = !xs.isEmpty)\/∃ kvs,H p=some (.dK kvs)/\k = !kvs.isEmpty
 | _=>False
theorem QJ {κ:Type}{kvs:List (κ × V)}{vs:List (κ × Value)}(r:KV kvs vs):(!vs.isEmpty) = !kvs.isEmpty:=by
 cases r<;>rfl
theorem LC {xs:List V}{its:List Value}(r:Vals xs its):(!its.toArray.isEmpty) = !xs.isEmpty:=by
 cases r<;>simp
theorem IX:(sizeLine:Nat)<2 ^ 63:=by rw [qoB];decide
theorem tru_ok:TruR X (fun x H Q=>∃ k,TruV X.K x H k/\Q k H):=by
 intro pins s σ H x v Q I rx h;obtain ⟨k,e,q⟩:=h;have hl:=IX;have hs:sizeLine=16777216:=qoB
 cases x with
 | non =>
  cases rx;have e':k=false:=e;subst e';exact truthy_none ⟨H,I,q⟩
 | bl b =>
  cases rx;have e':k=b:=e;subst e';exact wpAny_truthy_bool ⟨H,I,q⟩
 | int i =>
  obtain ⟨t,rfl⟩:=rx;have e':k=(i != 0):=e;subst e';exact PySem.P.truthy_int ⟨H,I,q⟩
 | str y =>
  obtain ⟨t,rfl⟩:=rx;obtain ⟨hy,e'⟩:y.length<=sizeLine/\k=((y.length:Int) != 0):=e;subst e';exact PySem.P.truthy_str (by omega) ⟨H,I.tok _,q⟩
 | byt y =>
  obtain ⟨t,rfl⟩:=rx;obtain ⟨hy,e'⟩:y.size<=sizeLine/\k=((y.size:Int) != 0):=e;subst e';exact PySem.W.truthy_bytes (by omega) ⟨H,I.tok _,q⟩
 | ref p =>
  cases rx;have e':(∃ xs,SqL X.K H p xs/\k = !xs.isEmpty)\/(∃ xs,SqT X.K H p xs/\k = !xs.isEmpty)\/∃ kvs,H p=some (.dK kvs)/\k = !kvs.isEmpty:=e;rcases e' with ⟨xs,hx,e'⟩ | ⟨xs,hx,e'⟩ | ⟨kvs,hx,e'⟩
  ·subst e';obtain ⟨its,r,pl,hz⟩:=I.list hx;have hlen:=r.length;exact wpAny_truthy_list pl.isList (by simp only [qvB];omega) ⟨H,I.tok _,by rw [LC r];exact q⟩
  ·subst e';obtain ⟨its,r,pl,hz⟩:=I.tuple hx;have hlen:=r.length;exact truthy_tuple pl (by simp only [qvB];omega) ⟨H,I.tok _,by rw [LC r];exact q⟩
  ·subst e';obtain ⟨hz,hS,vs,r,m⟩:kvs.length<=sizeLine/\(p == sysModules)=false/\∃ vs,KV kvs vs/\s.heap.DictOf (BN X.prog X.w) p vs:=I.hok p _ hx;have hlen:kvs.length=vs.length:=Paired.length r;exact wpAny_truthy_dict hS m (by omega) ⟨H,I.tok _,by rw [QJ r];exact q⟩
 | _=>exact (show False from e).elim
theorem pt_truth (ha:PE X a ta)(he:∀ whole,isTrue a X.env whole=(do let v <- whole;standAt a.pos;holding [v] (truthy v))) :
  PT X a (fun σ H Q=>ta σ H fun x H'=>∃ k,TruV X.K x H' k/\Q k H'):=by
 intro pins s σ H Q I h;exact isTrue_plain (thn (ha pins s σ H _ I h) fun v s1 ⟨x,H1,I1,r1,q1⟩=>tru_ok pins s1 σ H1 x v Q I1 r1 q1) (he _)
theorem Q2:OpR X (binaryOp .Add) (fun x y H Q=>∃ i j,x = .str i/\y = .str j/\i.length+j.length<=sizeLine/\Q (.str (i++j)) H):=by
 intro pins s σ H x y v u Q I rx ry h;obtain ⟨i,j,rfl,rfl,hz,q⟩:=h;obtain ⟨t,rfl⟩:=rx;obtain ⟨t',rfl⟩:=ry;exact add_str (fun t' tk=>⟨.str (i++j),H,I.tok _,⟨_,rfl⟩,q⟩) hz
theorem IB {x:V}{us:List Value}(r:Vals [x] us):∃ u,us=[u]/\RelV x u:=by
 cases r with
 | cons r1 r2=>cases r2;exact ⟨_,rfl,r1⟩
theorem vals2 {x y:V}{us:List Value}(r:Vals [x,y] us):∃ u w',us=[u,w']/\RelV x u/\RelV y w':=by
 cases r with
 | cons r1 r2 =>
  cases r2 with
  | cons r3 r4=>cases r4;exact ⟨_,_,rfl,r1,r3⟩
end
theorem RelO.some_of {v:V}{o:Option Value}(r:RelO (some v) o):∃ u,o=some u/\RelV v u:=by
 cases o with
 | none=>exact (show False from r).elim
 | some u=>exact ⟨u,rfl,r⟩
structure Room (k:Nat)(A:Around):Prop where
 hd:A.handled=none
 dp:A.depth+3 * k+5<recursionLimit
 un:A.units+16 * k+200<cLine
theorem Room.mono {j k:Nat}{A:Around}(r:Room k A)(h:j<=k):Room j A:=⟨r.hd,by have:=r.dp;omega,by have:=r.un;omega⟩
theorem Room.deeper {k:Nat}{A:Around}(r:Room (k+1) A)(env:Env):Room k (A.deeper env) :=
 ⟨r.hd,by have:=r.dp;show A.depth+1+3 * k+5<_;omega,by have:=r.un;show A.units+3+16 * k+200<_;omega⟩
theorem Room.depth {k:Nat}{A:Around}(r:Room k A):A.depth<recursionLimit:=by have:=r.dp;omega
abbrev DE:TA:=fun _ H Q=>Q [] H
abbrev B5 (ta:TE)(tr:TA):TA:=fun σ H Q=>ta σ H fun x H1=>tr σ H1 fun xs H2=>Q (x::xs) H2
section
variable {X:Cx}{e:Expr}{es:List Expr}{te:TE}{t:TA}{pos:Pos}
theorem AE:PA X [] DE:=fun _ _ _ _ H Q I h=>Calls.spliced_nil ⟨[],H,I,.nil,h⟩
theorem A6 (ha:PE X e te)(hr:PA X es t)(hs:starEach (e::es) X.env=(false,eval e X.env)::starEach es X.env:=by rfl):PA X (e::es) (B5 te t):=by
 intro pos pins s σ H Q I h;rw [hs];show wpAny _ _ (spliced ((false,eval e X.env)::backTo pos (starEach es X.env))) _ _ s;refine Calls.spliced_cons (thn (ha pins s σ H _ I h) fun u s1 ⟨x,H1,I1,r1,q1⟩=>?_);exact thn (hr pos pins s1 σ H1 _ I1 q1) fun us s2 ⟨xs,H2,I2,r2,q2⟩=>⟨x::xs,H2,I2,.cons r1 r2,q2⟩
abbrev Rz (t:TA):TE:=fun σ H Q=>t σ H fun xs H1=>xs.length<=sizeLine/\∀ p,H1 p=none->Q (.ref p) (upd H1 p (.tup xs))
abbrev tLst (t:TA):TE:=fun σ H Q=>t σ H fun xs H1=>xs.length<=sizeLine/\∀ p,H1 p=none->Q (.ref p) (upd H1 p (.lst xs))
theorem C9 {x1}(h:PA X es t):PE X (.Tuple es x1 pos) (Rz t):=by
 intro pins s σ H Q I hq;refine wpAny_Tuple_spliced (thn (h pos pins s σ H _ I hq) fun us s1 ⟨xs,H1,I1,r,z,q⟩=>⟨by rw [<- r.length];exact z,?_⟩);have hf:H1 s1.heap.objs.size=none:=I1.hok.fresh (qfB _);refine ⟨.ref s1.heap.objs.size,upd H1 s1.heap.objs.size (.tup xs),I1.laid (t':=s1.toks) (fun b u e=>qmB _ e) (qfB _) ?_,rfl,q _ hf⟩;exact ⟨z,us,r,⟨_,qnB _ rfl,rfl,_,rfl⟩⟩
theorem Cb (h:PA X es t):PE X (.List es pos) (tLst t):=by
 intro pins s σ H Q I hq;refine wpAny_List_spliced (thn (h pos pins s σ H _ I hq) fun us s1 ⟨xs,H1,I1,r,z,q⟩=>⟨by rw [<- r.length];exact z,?_⟩);have hf:H1 s1.heap.objs.size=none:=I1.hok.fresh (qfB _);refine ⟨.ref s1.heap.objs.size,upd H1 s1.heap.objs.size (.lst xs),I1.laid (t':=s1.toks) (fun b u e=>qmB _ e) (qfB _) ?_,rfl,q _ hf⟩;exact ⟨z,us,0,r,qnB _ rfl⟩
end
abbrev Sp:=List V->Hp->VK->XK->Prop
abbrev CXT:=List Env->Hp->Shared->XK->Value->Shared->Prop
structure Env0 (P:Program)(w:World)(K:FZ9)(mg:Str->Option Value)(base:Heap)(A:Around)(outer:List Env)(s:Shared)(H:Hp):Prop where
 frames:A.frames=some outer
 mod:Mod K mg base
 bs:∀ b o,base.get? b=some o->s.heap.get? b=some o/\H b=none
 bsz:base.objs.size<=s.heap.objs.size
 funs:s.heap.FunFrames base outer
 frf:∀ b∈frs outer,H b=none
 hok:HOk P w H s.heap
 bare:AllBare s.gens
def CE (outer:List Env)(P:Program)(w:World)(H:Hp)(s:Shared)(Q:VK)(u:Value)(s':Shared):Prop :=
 ∃ v H',s'.os=s.os/\AllBare s'.gens/\Un (frs outer) [] H H' s.heap s'.heap/\HOk P w H' s'.heap/\RelV v u/\Q v H'
def CR (CX:CXT)(outer:List Env)(P:Program)(w:World)(H:Hp)(s:Shared)(Q:VK)(E:XK)(r:Result)(s':Shared):Prop :=
 match r with
 | .ok (.ret u)=>CE outer P w H s Q u s'
 | .ok _=>False
 | .error e=>CX outer H s E e s'
structure FnOk (P:Program)(w:World)(K:FZ9)(mg:Str->Option Value)(base:Heap)(CX:CXT)(k:Nat)(f:Addr)(fd:FuncData)(ps:List Str)(sp:Sp):Prop where
 len:∀ vs H Q E,sp vs H Q E->vs.length=ps.length
 run:∀ (A:Around) (outer:List Env) (s:Shared) (H:Hp) (args:Args) (us:List Value) (vs:List V) (Q:VK) (E:XK),Room k A->Env0 P w K mg base A outer s H->BindsTo s fd args (ps.zip us)->Vals vs us->sp vs H Q E ->
  codeAny (model P w) A (.call (.ref f) args) (CR CX outer P w H s Q E) s
theorem FnOk.imp {P:Program}{w:World}{K:FZ9}{mg:Str->Option Value}{base:Heap}{CX:CXT}{k:Nat}{f:Addr}{fd:FuncData}{ps:List Str}{sp sp':Sp}(F:FnOk P w K mg base CX k f fd ps sp)
  (h:∀ vs H Q E,sp' vs H Q E->sp vs H Q E):FnOk P w K mg base CX k f fd ps sp' :=
 ⟨fun vs H Q E q=>F.len vs H Q E (h _ _ _ _ q),fun A outer s H args us vs Q E hr he hb hv hs=>F.run A outer s H args us vs Q E hr he hb hv (h _ _ _ _ hs)⟩
section
variable {X:Cx}{pins:List (Addr × Obj)}{σ:St}{H:Hp}{s s':Shared}
theorem Inv.env0 (I:Inv X pins σ H s):Env0 X.prog X.w X.K X.mg X.base X.A X.stack s H :=
 ⟨I.ok.frames,I.ok.mod,I.bs,qgB I.ok.bsz I.sz,I.stack,I.stkFree,I.hok,I.bare⟩
theorem Inv.after {Q:VK}{u:Value}(I:Inv X pins σ H s)(h:CE X.stack X.prog X.w H s Q u s'):EP X pins σ Q u s':=by
 obtain ⟨v,H',os,bare,un,hok,r,q⟩:=h;obtain ⟨hh,g,d,t,os'⟩:=s';obtain rfl:os'=s.os:=os;exact ⟨v,H',I.call (h':=hh) (g':=g) (d':=d) (t':=t) (ch:=[]) un hok bare (fun b z=>absurd z (by simp)),r,q⟩
end
abbrev KR (sp:Sp)(dvs:List V)(E:XK)(t:TA):TE:=fun σ H Q=>t σ H fun vs H1=>sp (vs++dvs) H1 Q E
def Binds (K:FZ9)(fd:FuncData)(ps:List Str)(ds:List Value):Prop :=
 ∀ (s:Shared) (us:List Value),K.In s.heap->(us++ds).length=ps.length->BindsTo s fd ⟨us,[]⟩ (ps.zip (us++ds))
theorem Binds.all {K:FZ9}{fd:FuncData}{ps:List Str}(h:∀ us:List Value,us.length=ps.length->bindArgs fd ⟨us,[]⟩=pure (ps.zip us)):Binds K fd ps []:=fun s us _ hl=>by
 rw [qdB] at hl ⊢;exact .of_eq (h us hl)
def QR (CX:CXT)(X:Cx)(E:XK):Prop:=∀ (pins:List (Addr × Obj)) (σ:St) (H:Hp) (s:Shared) (e:Value) (s':Shared),Inv X pins σ H s->CX X.stack H s E e s'->X.xe e s'
section
variable {X:Cx}{CX:CXT}{k:Nat}{f C:Addr}{fd:FuncData}{ps:List Str}{sp:Sp}{dvs:List V}{ds:List Value}{E:XK}{x m:Str}{p pos apos:Pos}{e o:Expr}{es:List Expr}{ta:TE}{t:TA}
theorem run_fn {pins:List (Addr × Obj)}{σ:St}{H:Hp}{s:Shared}{Q:VK}{us:List Value}{vs:List V}(F:FnOk X.prog X.w X.K X.mg X.base CX k f fd ps sp)(hr:Room k X.A)(hb:Binds X.K fd ps ds)(hd:Vals dvs ds)(hx:QR CX X E)
  (I:Inv X pins σ H s) (r:Vals vs us) (h:sp (vs++dvs) H Q E):wpAny (model X.prog X.w) X.A (call (.ref f) us) (EP X pins σ Q) X.xe s:=by
 have r2:Vals (vs++dvs) (us++ds):=r.append hd;have hl:(us++ds).length=ps.length:=by rw [<- r2.length];exact F.len _ _ _ _ h
 refine wpAny_call (codeAny_mono (F.run X.A X.stack s H ⟨us,[]⟩ (us++ds) (vs++dvs) Q E hr I.env0 (hb s us I.kIn hl) r2 h) fun r s' hq=>?_)
 cases r with
 | error e=>exact hx pins σ H s e s' I hq
 | ok fl =>
  cases fl with
  | ret u=>exact I.after hq
  | next=>exact False.elim hq
  | brk=>exact False.elim hq
  | cont=>exact False.elim hq
theorem pe_call (F:FnOk X.prog X.w X.K X.mg X.base CX k f fd ps sp)(hr:Room k X.A)(hg:Gl X x)(hm:X.mg x=some (.ref f))(hk:PySem.W.keepIn X.K (.ref f)=true)(hb:Binds X.K fd ps ds)(hd:Vals dvs ds)(hx:QR CX X E)
  (ha:PA X (e::es) t) (hdb:(x == ("__debug__" : Str))=false:=by decide) (he:starEach (e::es) X.env=(false,eval e X.env)::starEach es X.env:=by rfl) (hpl:(backTo pos (starEach es X.env)).any (·.1)=false:=by rfl) :
  PE X (.Call (.Name x p) (e::es) [] pos) (KR sp dvs E t):=by
 intro pins s σ H Q I h;refine wpAny_Call_Name_kw (ld_glob I hg hm ?_ hdb);refine PySem.W.callWith_K (h₀:=X.base) I.ok.mod.kin hk (thn (ha pos pins s σ H _ I h) fun us s1 ⟨vs,H1,I1,r,q⟩=>⟨I1.kIn,?_⟩) he hpl;exact run_fn F hr hb hd hx I1 r q
end
structure FnScope (N P:List Str)(sc:Scope):Prop where
 kind:sc.kind = .function
 co:sc.isCoroutine=false
 gen:sc.isGenerator=false
 nd:N.Nodup
 pre:N.take P.length=P
 par:∀ x∈P,sc.names.lookup x=some .local \/ sc.names.lookup x=some .cell
 nofree:∀ y∈sc.names,y.2 ≠ .free
theorem Mq {kindOf:Str->Option NameKind}{x:Str}:∀ {binds:List (Str × Value)}{m:Str->Option Value},(∀ v,(x,v) ∉ binds)->bindL kindOf binds m x=m x
 | [],_,_=>rfl
 | (n,v)::r,m,h=>by
  unfold bindL;rw [Mq fun w hw=>h w (qrA _ hw)];split
  ·have:x≠n:=by rintro rfl;exact h v qqA
   simp [this]
  ·rfl
theorem Md {kindOf:Str->Option NameKind}{x:Str}:∀ {binds:List (Str × Value)}{m:Str->Option Value},(∀ v,(x,v) ∉ binds)->bindC kindOf binds m x=m x
 | [],_,_=>rfl
 | (n,v)::r,m,h=>by
  unfold bindC;rw [Md fun w hw=>h w (qrA _ hw)];split
  ·rfl
  ·have:x≠n:=by rintro rfl;exact h v qqA
   simp [this]
theorem Mx {kindOf:Str->Option NameKind}{x:Str}{v:Value}:∀ {P:List Str}{vs:List Value}{i:Nat}{m:Str->Option Value},P.Nodup->P[i]? = some x->vs[i]? = some v->kindOf x=some .local ->
  bindL kindOf (P.zip vs) m x=some v
 | [],_,_,_,_,h,_,_=>by simp at h
 | _::_,[],_,_,_,_,h,_=>by simp at h
 | p::P,w::vs,0,m,nd,h1,h2,hk=>by
  simp at h1 h2;subst h1;subst h2;show bindL kindOf ((p,w)::P.zip vs) m p=_;unfold bindL;rw [Mq fun v hv=>(List.nodup_cons.mp nd).1 (List.of_mem_zip hv).1,if_pos hk];simp
 | p::P,w::vs,i+1,m,nd,h1,h2,hk=>by
  show bindL kindOf ((p,w)::P.zip vs) m x=_;unfold bindL;exact Mx (i:=i) (List.nodup_cons.mp nd).2 (by simpa using h1) (by simpa using h2) hk
theorem MY {kindOf:Str->Option NameKind}{x:Str}{v:Value}:∀ {P:List Str}{vs:List Value}{i:Nat}{m:Str->Option Value},P.Nodup->P[i]? = some x->vs[i]? = some v->kindOf x≠some .local ->
  bindC kindOf (P.zip vs) m x=some v
 | [],_,_,_,_,h,_,_=>by simp at h
 | _::_,[],_,_,_,_,h,_=>by simp at h
 | p::P,w::vs,0,m,nd,h1,h2,hk=>by
  simp at h1 h2;subst h1;subst h2;show bindC kindOf ((p,w)::P.zip vs) m p=_;unfold bindC;rw [Md fun v hv=>(List.nodup_cons.mp nd).1 (List.of_mem_zip hv).1,if_neg hk];simp
 | p::P,w::vs,i+1,m,nd,h1,h2,hk=>by
  show bindC kindOf ((p,w)::P.zip vs) m x=_;unfold bindC;exact MY (i:=i) (List.nodup_cons.mp nd).2 (by simpa using h1) (by simpa using h2) hk
def start (N:List Str)(vs:List V):St:=vs.map some++List.replicate (N.length - vs.length) none
def Kk (CX:CXT)(P:Program)(w:World)(K:FZ9)(mg:Str->Option Value)(base:Heap)(N:List Str)(qual:Str)(scope:Scope)(f:Addr)(cd:Value)(A:Around)(outer:List Env)(s:Shared)(H:Hp)(E:XK):Cx where
 prog:=P
 w:=w
 K:=K
 mg:=mg
 base:=base
 A:=A.deeper (envOfC qual scope s.heap.objs.size f cd)
 N:=N
 s₀:=s
 H₀:=H
 env:=envOfC qual scope s.heap.objs.size f cd
 outer:=outer
 stack:=envOfC qual scope s.heap.objs.size f cd::outer
 ex:=[]
 calm:=true
 fn:=fun _=>true
 pn:=[]
 xe:=fun e s'=>wpAny (model P w) (A.deeper (envOfC qual scope s.heap.objs.size f cd)) (leaving (envOfC qual scope s.heap.objs.size f cd) e) (fun _ s''=>CX outer H s E e s'') (fun e' s''=>CX outer H s E e' s'') s'
theorem Ow {sc:Scope}{n:Nat}{x:Str}(h:sc.names.lookup x=some .cell):∃ c,(cellsFrom n sc.names []).lookup x=some c:=by
 have q:=PySem.W.cellsFrom_some sc.names n [] (.inl h);exact Option.isSome_iff_exists.mp q
theorem Ra {CX:CXT}{P:Program}{w:World}{K:FZ9}{mg:Str->Option Value}{base:Heap}{N ps:List Str}{qual:Str}{scope:Scope}{f:Addr}{cd:Value}{A:Around}{outer:List Env}{s s1:Shared}{H:Hp}{E:XK}{us:List Value}{vs:List V}
  (S:FnScope N ps scope) (hd:A.handled=none) (e0:Env0 P w K mg base A outer s H) (hl:vs.length=ps.length) (r:Vals vs us)
  (x:InCallC s s.heap.objs.size (bindL (envOfC qual scope s.heap.objs.size f cd).kindOf (ps.zip us) fun _=>none) (cellsFrom (s.heap.objs.size+1) scope.names []) (bindC (envOfC qual scope s.heap.objs.size f cd).kindOf (ps.zip us) fun _=>none) s1) :
  Inv (Kk CX P w K mg base N qual scope f cd A outer s H E) [] (start N vs) H s1:=by
 have hpl:ps.length<=N.length:=by have:=congrArg List.length S.pre;rw [qjA] at this;omega
 obtain ⟨h1,tk,rfl,hk⟩:=x.done;have noA:∀ b:Addr,b ∉ (Kk CX P w K mg base N qual scope f cd A outer s H E).ex:=fun b z=>absurd (show b∈([]:List Addr) from z) (by simp)
 refine ⟨⟨e0.mod,S.kind,rfl,rfl,qfB _,fun y z c h1 h2=>?_,fun y hy=>?_,fun y c _ h=>?_,fun _=>hd,Around.frames_deeper e0.frames,.inr ⟨rfl,rfl⟩,fun b z=>absurd z (noA b),e0.bs,e0.bsz,fun b _ _=>noA b,fun b z=>absurd z (noA b),e0.funs,e0.frf⟩,
  rfl,e0.bare,Un.kept hk,⟨_,x.toInCall.ns,fun i y v h1 h2 h3=>?_⟩,fun y c h=>⟨_,x.cell y c h⟩,e0.hok.fresh (qfB _),fun y c h=>?_,fun p hp=>absurd (show p∈([]:List (Addr × Obj)) from hp) (by simp),e0.hok.kept hk,?_⟩
 ·exact name_of_addr x.apart (PySem.mem_of_lookup h1) (PySem.mem_of_lookup h2)
 ·have hy:scope.names.lookup y=some .cell\/scope.names.lookup y=some .free:=hy;rcases hy with hy|hy
  ·exact Ow hy
  ·exact absurd rfl (S.nofree _ (PySem.mem_of_lookup hy))
 ·exact Nat.le_of_lt (x.above y c (PySem.mem_of_lookup h))
 ·have hi:i<vs.length:=by
   unfold start at h2;by_cases hi:i<vs.length
   ·exact hi
   ·rw [qxA (by simpa using hi)] at h2;rw [List.getElem?_replicate] at h2;split at h2<;>cases h2
  have ha:vs[i]? = some v:=by
   unfold start at h2;rw [qwA (by simpa using hi),qzA] at h2
   cases e:vs[i]? with
   | none=>rw [e] at h2;cases h2
   | some a=>rw [e] at h2;cases h2;rfl
  obtain ⟨u,hu,rv⟩:=r.get ha
  have hp:ps[i]? = some y:=by
   rw [<- S.pre,List.getElem?_take_of_lt (by omega)];exact h1
  have ndP:ps.Nodup:=by rw [<- S.pre];exact S.nd.sublist (List.take_sublist _ _)
  refine ⟨u,rv,?_⟩;rcases S.par y (qtA hp) with k|k
  ·exact .inl ⟨k,Mx ndP hp hu k⟩
  ·obtain ⟨c,e⟩:=Ow (n:=s.heap.objs.size+1) k;refine .inr ⟨.inl k,c,e,?_⟩;have q:=x.cell y c e;rw [MY ndP hp hu (by show scope.names.lookup y≠_;rw [k];decide)] at q;exact q
 ·exact e0.hok.fresh (Nat.le_of_lt (x.above y c (PySem.mem_of_lookup h)))
 ·unfold start;show _=N.length;rw [qfA,qeA,List.length_replicate];omega
theorem fn_of {CX:CXT}{P:Program}{w:World}{K:FZ9}{mg:Str->Option Value}{base:Heap}{k:Nat}{f:Addr}{name qual:Str}{params:Arguments}{body:List Stmt}{scope:Scope}{dV kV doc pm cdv ct oc:Value}{an od:Option Addr}
  {osl:Array (Option Value)}{N ps:List Str}{sp:Sp}(lk:K.lookup f=some ⟨oc,od,.func (qwB name qual params body scope dV kV doc pm an cdv ct),osl⟩) (hcd:PySem.W.codeIn K cdv qual=true) (S:FnScope N ps scope)
  (len:∀ vs H Q E,sp vs H Q E->vs.length=ps.length)
  (hbody:∀ (A:Around) (outer:List Env) (s:Shared) (H:Hp) (vs:List V) (Q:VK) (E:XK),Room k (A.deeper (envOfC qual scope s.heap.objs.size f cdv))->sp vs H Q E ->
   ∃ t,PSs (Kk CX P w K mg base N qual scope f cdv A outer s H E) body t/\t { nx:=fun _ H'=>Q .non H',rt:=Q } (start N vs) H) :
  FnOk P w K mg base CX (k+1) f (qwB name qual params body scope dV kV doc pm an cdv ct) ps sp:=by
 refine ⟨len,fun A outer s H args us vs Q E hr e0 hb r hsp=>?_⟩;have hl:=len _ _ _ _ hsp;have KX:K.In s.heap:=e0.mod.kin.keeps fun b o e=>(e0.bs b o e).1;have lim:s.heap.NoLimit:=e0.mod.nolimit.keeps fun b o e=>(e0.bs b o e).1
 have hkind:∀ y∈ps.zip us,scope.names.lookup y.1=some .local \/ (scope.names.lookup y.1=some .cell/\((cellsFrom (s.heap.objs.size+1) scope.names []).lookup y.1).isSome=true):=fun ⟨n,v⟩ hy=>by
  rcases S.par n (List.of_mem_zip hy).1 with q|q
  ·exact .inl q
  ·exact .inr ⟨q,PySem.W.cellsFrom_some _ _ _ (.inl q)⟩
 refine codeAny_call_function hr.depth (KX _ _ lk) rfl S.co S.gen rfl (PySem.W.codeRec_of KX hcd) (hb _ _ _ _ ?_);refine wpAny_newFunctionEnv_cells S.kind hkind fun env he s1 x=>?_;subst he;refine ⟨lim.keeps x.toInCall.keep,codeAny_func ?_⟩;obtain ⟨t,ht,hq⟩:=hbody A outer s H vs Q E (hr.deeper _) hsp;have I:Inv (Kk CX P w K mg base N qual scope f cdv A outer s H E) [] (start N vs) H s1:=Ra S hr.hd e0 hl r x;refine wpAny_mono (ht [] s1 (start N vs) H _ I hq) (fun fl s' hs=>?_) fun e s' hs=>hs
 have fin:∀ {σ':St}{H':Hp}{v:V}{u:Value},Inv (Kk CX P w K mg base N qual scope f cdv A outer s H E) [] σ' H' s'->RelV v u->Q v H'->CE outer P w H s Q u s' :=
  fun {σ' H' v u} J rv q=>⟨v,H',J.os,J.bare,J.base,J.hok,rv,q⟩
 cases fl with
 | ret u =>
  obtain ⟨v,σ',H',J,rv,q⟩:=hs;exact fin J rv q
 | next =>
  obtain ⟨σ',H',J,q⟩:=hs;exact fin (v:=V.non) (u:=Value.none) J rfl q
 | brk =>
  obtain ⟨_,_,_,q⟩:=hs;exact False.elim q
 | cont =>
  obtain ⟨_,_,_,q⟩:=hs;exact False.elim q
section
variable {X:Cx}{x:Str}{p pos:Pos}{e:Expr}{es:List Expr}{t:TA}{id T:String}{r:List V->Hp->VK->Prop}
abbrev tCB (r:List V->Hp->VK->Prop)(t:TA):TE:=fun σ H Q=>t σ H fun vs H1=>r vs H1 Q
theorem DI (hc:Ek X (.builtin id) r)(hg:Gl X x)(hm:X.mg x=none)(hv:bootBuiltins x=some (.builtin id))(ha:PA X (e::es) t)(hn:x ≠ "__name__" := by decide)(hdb:(x == ("__debug__" : Str))=false:=by decide)
  (he:starEach (e::es) X.env=(false,eval e X.env)::starEach es X.env:=by rfl) (hpl:(backTo pos (starEach es X.env)).any (·.1)=false:=by rfl):PE X (.Call (.Name x p) (e::es) [] pos) (tCB r t):=by
 intro pins s σ H Q I h;refine wpAny_Call_Name_kw (Jo I hg hm hv ?_ hn hdb);exact PyProof.Rows.callWith_builtin1 (thn (ha pos pins s σ H _ I h) fun us s1 ⟨vs,H1,I1,r1,q1⟩=>hc pins s1 σ H1 vs us Q I1 r1 q1) he hpl
theorem F1 (hc:Ek X (.type T) r)(hg:Gl X x)(hm:X.mg x=none)(hv:bootBuiltins x=some (.type T))(ha:PA X (e::es) t)(hn:x ≠ "__name__" := by decide)(hdb:(x == ("__debug__" : Str))=false:=by decide)
  (he:starEach (e::es) X.env=(false,eval e X.env)::starEach es X.env:=by rfl) (hpl:(backTo pos (starEach es X.env)).any (·.1)=false:=by rfl):PE X (.Call (.Name x p) (e::es) [] pos) (tCB r t):=by
 intro pins s σ H Q I h;refine wpAny_Call_Name_kw (Jo I hg hm hv ?_ hn hdb);exact PyProof.Rows.callWith_type1 (thn (ha pos pins s σ H _ I h) fun us s1 ⟨vs,H1,I1,r1,q1⟩=>hc pins s1 σ H1 vs us Q I1 r1 q1) he hpl
end
end L2
namespace HT
open PySem PyProof.Rows
section
open PySem.SeqAt
open PySem.AutoSeq1 (wpAny_loadPart')
open PySem.MeetsSeq PySem.MeetsSeq2 PySem.MeetsSeq3
end
section
variable {prog:Program}{w:World}{A:Around}{E:Value->Shared->Prop}{s:Shared}
def sIx (n d:Nat):Option Int->Nat
 | none=>d
 | some v=>if v<0 then (v+(n:Int)).toNat else min v.toNat n
theorem sIx_none (n d:Nat):sIx n d none=d:=rfl
theorem sIx_nat (n d k:Nat):sIx n d (some (k:Int))=min k n:=by
 show (if (k:Int)<0 then ((k:Int)+(n:Int)).toNat else min (k:Int).toNat n)=min k n;rw [if_neg (by omega),qqB]
theorem sIx_le (n d:Nat)(hd:d<=n)(o:Option Int):sIx n d o<=n:=by
 cases o with
 | none=>exact hd
 | some v =>
  show (if v<0 then (v+(n:Int)).toNat else min v.toNat n)<=n;by_cases hv:v<0
  ·rw [if_pos hv];omega
  ·rw [if_neg hv];exact Nat.min_le_right _ _
theorem RO (v:Int)(n d:Nat):(if v<0 then max (v+(n:Int)) 0 else min v (n:Int))=((sIx n d (some v):Nat):Int):=by
 show (if v<0 then max (v+(n:Int)) 0 else min v (n:Int))=(((if v<0 then (v+(n:Int)).toNat else min v.toNat n):Nat):Int);by_cases hv:v<0
 ·simp only [if_pos hv];omega
 ·simp only [if_neg hv];omega
theorem QT (lo hi:Option Int)(n:Nat):Builtin.Slice.sliceAdjust lo hi 1 (n:Int)=(((sIx n 0 lo:Nat):Int),((sIx n n hi:Nat):Int)):=by
 have h1:¬ ((1:Int)<0):=by omega
 unfold Builtin.Slice.sliceAdjust;simp only [h1,if_false];refine Prod.ext ?_ ?_
 ·cases lo with
  | none=>rfl
  | some v=>exact RO v n 0
 ·cases hi with
  | none=>rfl
  | some v=>exact RO v n n
theorem Pq (i j:Nat):Builtin.Slice.slicePlaces (i:Int) (j:Int) 1=j - i:=by
 unfold Builtin.Slice.slicePlaces;have h1:(1:Int) > 0:=by omega
 simp only [h1,if_true,Int.ediv_one];split<;>omega
theorem Lh {v:Value}{o:Option Int}{Q:Option Int->Shared->Prop}(p:IsPart v o)(h:Q o s):wpAny (model prog w) A (Builtin.Slice.slicePartIndex v) Q E s:=by
 cases p with
 | none=>exact slicePart_none h
 | int i t=>exact slicePart_int h
theorem Ft {sl:Addr}{vl vu:Value}{lo hi:Option Int}{n:Nat}{Q:Int × Int × Nat->Shared->Prop}(hs:s.heap.IsSliceOf sl vl vu .none)(pl:IsPart vl lo)(pu:IsPart vu hi)
  (h:Q (((sIx n 0 lo:Nat):Int),1,sIx n n hi - sIx n 0 lo) s):wpAny (model prog w) A (Builtin.Slice.sliceApplied (.ref sl) (pure (n:Int))) Q E s:=by
 obtain ⟨os,hos,hcs,hds⟩:=id hs;unfold Builtin.Slice.sliceApplied Builtin.Slice.sliceFields;refine qbA (qbA (wpAny_field hos hds (x:=vl) rfl (qbA (wpAny_field hos hds (x:=vu) rfl (qbA (wpAny_field hos hds (x:=.none) rfl (qcA ?_)))))));refine qbA (slicePart_none ?_);show wpAny _ _ (if ((1:Int) == 0)=true then _ else _) _ _ s;rw [if_neg (by decide)];refine qbA (Lh pl (qbA (Lh pu (qbA (qcA ?_)))));show wpAny _ _ (match Builtin.Slice.sliceAdjust lo hi 1 (n:Int) with | (lo,hi)=>pure (lo,(1:Int),Builtin.Slice.slicePlaces lo hi 1)) _ _ s;rw [QT lo hi n];show wpAny _ _ (pure (((sIx n 0 lo:Nat):Int),(1:Int),Builtin.Slice.slicePlaces ((sIx n 0 lo:Nat):Int) ((sIx n n hi:Nat):Int) 1)) _ _ s;rw [Pq];exact qcA h
theorem pick_gen (xs:Array Value)(i k:Nat):((List.range k).filterMap fun (m:Nat)=>xs[((i:Int)+(m:Int) * 1).toNat]?).toArray=((xs.toList.drop i).take k).toArray:=by
 have e:(fun (m:Nat)=>xs[((i:Int)+(m:Int) * 1).toNat]?)=fun m=>xs[i+m]?:=by
  funext m
  have:((i:Int)+(m:Int) * 1).toNat=i+m:=by omega
  rw [this]
 rw [e];have:=pick_run xs i k;rw [List.filterMap_map] at this;have e2:((fun x=>xs[x]?)∘fun x=>i+x)=fun m=>xs[i+m]?:=rfl;rw [e2] at this;rw [this]
theorem getItem_tuple_cut {t sl:Addr}{items:Array Value}{vl vu:Value}{lo hi:Option Int}{Q:Value->Shared->Prop}(ht:IsTup s.heap t items)(hs:s.heap.IsSliceOf sl vl vu .none)(pl:IsPart vl lo)(pu:IsPart vu hi)
  (hw:¬ (sIx items.size 0 lo=0/\sIx items.size items.size hi=items.size))
  (h:Q (.ref s.heap.objs.size) { s with heap:=s.heap.push { cls:=.type "tuple",data:=.seq ((items.toList.drop (sIx items.size 0 lo)).take (sIx items.size items.size hi - sIx items.size 0 lo)).toArray } })
  (hsz:items.size<=sizeLine):wpAny (model prog w) A (getItem (.ref t) (.ref sl)) Q E s:=by
 have htake:sizeOk (.seq ((items.toList.drop (sIx items.size 0 lo)).take (sIx items.size items.size hi - sIx items.size 0 lo)).toArray):=by
  show ((items.toList.drop (sIx items.size 0 lo)).take (sIx items.size items.size hi - sIx items.size 0 lo)).toArray.size<=sizeLine;rw [qvB,qjA,List.length_drop,qxB];omega
 have hj:sIx items.size items.size hi<=items.size:=sIx_le _ _ (qfB _) hi;obtain ⟨os,hos,hcs,hds⟩:=id hs;have hTs:s.TypeIs (.ref sl) "slice" := ⟨os,hos,hcs⟩;unfold getItem
 try with_reducible refine qdA ?_
 first|refine qbA (qcA ?_)|skip
 refine qbA (wpAny_sequenceKey ht.typeIs (by decide) ?_)
 refine qbA (wpAny_callSpecial?_slot (name:=Str.ofString "__getitem__") ht.typeIs PyProof.Rows.slot_tuple_getitem
  (qbC PyProof.Rows.slot_tuple_getitem ht.typeIs entry_tuple_getitem ?_ (args_tuple_getitem _ _)))
 show wpAny _ _ (Builtin.Tuple.tupleItemsOf (.ref t) >>= _) _ _ s;refine qbA (tupleItemsOf_ ht ?_);refine qbA (wpAny_typeOf hTs ?_);rw [if_pos (by decide)];refine qbA (Ft hs pl pu ?_)
 have hno:¬ ((((sIx items.size 0 lo:Nat):Int) == 0 && (1:Int) == 1 && (sIx items.size items.size hi - sIx items.size 0 lo) == items.size)=true):=by
  intro q;rw [qfC,qfC] at q;have q1:((sIx items.size 0 lo:Nat):Int)=0:=eq_of_beq q.1.1;have q2:sIx items.size items.size hi - sIx items.size 0 lo=items.size:=eq_of_beq q.2;exact hw ⟨by omega,by omega⟩
 show wpAny _ _ (if (((sIx items.size 0 lo:Nat):Int) == 0 && (1:Int) == 1 && (sIx items.size items.size hi - sIx items.size 0 lo) == items.size)=true then _ else _) _ _ s;rw [if_neg hno,pick_gen]
 first
  | exact qbA (m:=Builtin.Tuple.tupleExact _) (wpAny_newObj_type (qcA ⟨_,rfl,qcA h⟩) htake)
  | exact qbA (m:=Builtin.Tuple.tupleExact _) (wpAny_newObj_type (qbA (qcA (qcA ⟨_,rfl,qcA h⟩))) htake)
  | exact qbA (qbA (m:=Builtin.Tuple.tupleExact _) (wpAny_newObj_type (qcA (qcA ⟨_,rfl,qcA h⟩)) htake))
  | exact qbA (qbA (m:=Builtin.Tuple.tupleExact _) (wpAny_newObj_type (qcA ⟨_,rfl,qcA h⟩) htake))
end
end HT
namespace L2
open PySem PySem.Spec PyProof.Rows
abbrev TO:=St->Hp->(Option Int->Hp->Prop)->Prop
def PO (X:Cx)(e:Option Expr)(t:TO):Prop :=
 ∀ (pins:List (Addr × Obj)) (s:Shared) (σ:St) (H:Hp) (Q:Option Int->Hp->Prop),Inv X pins σ H s->t σ H Q ->
  wpAny (model X.prog X.w) X.A (evalPart e X.env) (fun u s'=>∃ o H',Inv X pins σ H' s'/\IsPart u o/\Q o H') X.xe s
abbrev Kq:TO:=fun _ H Q=>Q none H
abbrev ON (t:TE):TO:=fun σ H Q=>t σ H fun x H1=>∃ i,x = .int i/\Q (some i) H1
section
variable {X:Cx}{e:Expr}{te:TE}{lo hi:Option Expr}{tl th:TO}{pos p2:Pos}
theorem GA:PO X none Kq:=by
 intro pins s σ H Q I h;rw [evalPart_none];exact qcA ⟨none,H,I,.none,h⟩
theorem Ho (h:PE X e te):PO X (some e) (ON te):=by
 intro pins s σ H Q I hw;rw [evalPart_some];refine thn (h pins s σ H _ I hw) fun u s1 ⟨x,H1,I1,r1,q1⟩=>?_;obtain ⟨i,rfl,q⟩:=q1;obtain ⟨t,rfl⟩:=r1;exact ⟨some i,H1,I1,.int i t,q⟩
def SlR (X:Cx)(r:V->Option Int->Option Int->Hp->VK->Prop):Prop :=
 ∀ (pins:List (Addr × Obj)) (s:Shared) (σ:St) (H:Hp) (x:V) (v vl vu:Value) (lo hi:Option Int) (sl:Addr) (Q:VK),Inv X pins σ H s->RelV x v->s.heap.IsSliceOf sl vl vu .none->IsPart vl lo->IsPart vu hi->r x lo hi H Q ->
  ∃ T id,typeLookup (.type T) "__getitem__" = pure (some (.builtin id))/\s.TypeIs v T/\wpAny (model X.prog X.w) X.A (getItem v (.ref sl)) (EP X pins σ Q) X.xe s
abbrev tSl (r:V->Option Int->Option Int->Hp->VK->Prop)(te:TE)(tl th:TO):TE:=fun σ H Q=>te σ H fun x H1=>tl σ H1 fun l H2=>th σ H2 fun u H3=>r x l u H3 Q
theorem HY {r:V->Option Int->Option Int->Hp->VK->Prop}(hr:SlR X r)(he:PE X e te)(hl:PO X lo tl)(hu:PO X hi th):PE X (.Subscript e (.Slice lo hi none p2) pos) (tSl r te tl th):=by
 intro pins s σ H Q I h;refine Subscript_ (thn (he pins s σ H _ I h) fun v s1 ⟨x,H1,I1,r1,q1⟩=>?_);refine wpAny_Slice (thn (hl pins s1 σ H1 _ I1 q1) fun vl s2 ⟨l,H2,I2,pl,q2⟩=>thn (hu pins s2 σ H2 _ I2 q2) fun vu s3 ⟨u,H3,I3,pu,q3⟩=>?_);rw [evalPart_none];refine qcA ?_;have I4:Inv X pins σ H3 { s3 with heap:=s3.heap.push { cls:=.type "slice",data:=.fields #[vl,vu,.none] } }:=I3.kept (t':=s3.toks) fun b ob q=>qmB _ q;obtain ⟨T,id,hT,ht,hg⟩:=hr pins { s3 with heap:=s3.heap.push { cls:=.type "slice",data:=.fields #[vl,vu,.none] } } σ H3 x v vl vu l u s3.heap.objs.size Q I4 r1 (Heap.IsSliceOf.new ..) pl pu q3;show wpAny (model X.prog X.w) X.A (subscriptTail e (.Slice lo hi none p2) v (.ref s3.heap.objs.size)) (EP X pins σ Q) X.xe { s3 with heap:=s3.heap.push { cls:=.type "slice",data:=.fields #[vl,vu,.none] } };exact tail_any (ops:=[.ref s3.heap.objs.size,v]) ht hT hg (by with_unfolding_all rfl)
def Ki (xs:List V)(lo hi:Option Int):List V:=(xs.drop (HT.sIx xs.length 0 lo)).take (HT.sIx xs.length xs.length hi - HT.sIx xs.length 0 lo)
theorem HF (xs:List V)(lo hi:Option Int):(Ki xs lo hi).length<=xs.length:=by
 unfold Ki;rw [qjA,List.length_drop];omega
def rSlT (K:FZ9):V->Option Int->Option Int->Hp->VK->Prop:=fun x lo hi H Q=>∃ a xs,x = .ref a/\SqT K H a xs /\
 ¬ (HT.sIx xs.length 0 lo=0/\HT.sIx xs.length xs.length hi=xs.length)/\∀ p,H p=none->Q (.ref p) (upd H p (.tup (Ki xs lo hi)))
theorem sl_tup:SlR X (rSlT X.K):=by
 intro pins s σ H x v vl vu lo hi sl Q I rx hs pl pu h;obtain ⟨a,xs,rfl,hx,hw,q⟩:=h;cases rx;obtain ⟨its,r,ht,hz⟩:=I.tuple hx;have hlen:its.toArray.size=xs.length:=by rw [qvB];exact r.length.symm
 refine ⟨"tuple",_,PyProof.Rows.slot_tuple_getitem.lookup,ht.typeIs,?_⟩;refine HT.getItem_tuple_cut ht hs pl pu (by rw [hlen];exact hw) ?_ (by rw [hlen];exact hz);rw [hlen];refine ⟨.ref s.heap.objs.size,_,I.laid (t':=s.toks) (o:=.tup (Ki xs lo hi)) (fun b ob q=>qmB _ q) (qfB _) ?_,rfl,q _ (I.hok.fresh (qfB _))⟩;exact ⟨qgB (HF xs lo hi) hz,_,(r.drop (HT.sIx xs.length 0 lo)).take (HT.sIx xs.length xs.length hi - HT.sIx xs.length 0 lo),IsTup.new _ _⟩
end
def ixN (n:Nat)(i:Int):Option Nat:=if 0<=i then (if i<n then some i.toNat else none) else if -(n:Int)<=i then some (i+n).toNat else none
def atI {α:Type}(xs:List α)(i:Int):Option α:=(ixN xs.length i).bind fun j=>xs[j]?
theorem Nh {n:Nat}{i:Int}{j:Nat}(h:ixN n i=some j):seqIndex? i n=some j/\j<n/\-(n:Int)<=i/\i<n:=by
 unfold ixN at h;by_cases h0:0<=i
 ·rw [if_pos h0] at h;by_cases h1:i<n
  ·rw [if_pos h1] at h;have e:i.toNat=j:=qjB h;exact ⟨by rw [seqIndex_of h0 h1,e],by omega,by omega,h1⟩
  ·rw [if_neg h1] at h;cases h
 ·rw [if_neg h0] at h;by_cases h1:-(n:Int)<=i
  ·rw [if_pos h1] at h;have e:(i+n).toNat=j:=qjB h;exact ⟨by rw [seqIndex_neg (by omega) h1,e],by omega,h1,by omega⟩
  ·rw [if_neg h1] at h;cases h
theorem NA {α:Type}{xs:List α}{i:Int}{v:α}(h:atI xs i=some v):∃ j,seqIndex? i xs.length=some j/\xs[j]? = some v/\j<xs.length/\-(xs.length:Int)<=i/\i<xs.length:=by
 unfold atI at h
 cases e:ixN xs.length i with
 | none=>rw [e] at h;cases h
 | some j =>
  rw [e] at h;obtain ⟨h1,h2,h3,h4⟩:=Nh e;exact ⟨j,h1,h,h2,h3,h4⟩
theorem DQ {α:Type}{xs:List α}{j:Nat}{v:α}(h:xs[j]? = some v):atI xs (j:Int)=some v:=by
 have hj:j<xs.length:=(quA.mp h).1
 have e:ixN xs.length (j:Int)=some j:=by
  unfold ixN;rw [if_pos (by omega),if_pos (by omega)];simp
 unfold atI;rw [e];exact h
theorem JT {α:Type}(xs:List α)(v:α):atI (xs++[v]) (-1)=some v:=by
 have hl:(xs++[v]).length=xs.length+1:=by simp
 have e:ixN (xs++[v]).length (-1)=some xs.length:=by
  unfold ixN;rw [hl,if_neg (by decide),if_pos (by omega)]
  congr 1
  omega
 unfold atI;rw [e];show (xs++[v])[xs.length]? = some v;simp
def RK (b:Expr):Prop:=∀ o i,subscripted b false o i=operate [o,i] (getItem o i)
def IxR (X:Cx)(r:R2):Prop :=
 ∀ (value slice:Expr) (pins:List (Addr × Obj)) (s:Shared) (σ:St) (H:Hp) (x y:V) (v u:Value) (Q:VK),Inv X pins σ H s->RelV x v->RelV y u->r x y H Q ->
  subscripted slice false v u=operate [v,u] (getItem v u)->wpAny (model X.prog X.w) X.A (subscriptTail value slice v u) (EP X pins σ Q) X.xe s
def MtR (X:Cx)(id:String)(r:V->List V->Hp->VK->Prop):Prop :=
 ∀ (pins:List (Addr × Obj)) (s:Shared) (σ:St) (H:Hp) (x:V) (xs:List V) (v:Value) (us:List Value) (Q:VK),Inv X pins σ H s->RelV x v->Vals xs us->r x xs H Q ->
  wpAny (model X.prog X.w) X.A (call (.builtin id) (v::us)) (EP X pins σ Q) X.xe s
section
variable {X:Cx}{a b:Expr}{ta tb:TE}{pos:Pos}
theorem pe_ix {r:R2}(hr:IxR X r)(ha:PE X a ta)(hb:PE X b tb)(hs:RK b):PE X (.Subscript a b pos) (tOp r ta tb):=by
 intro pins s σ H Q I h;exact Subscript_ (binT ha hb I h fun v u s2 x y H2 I2 rx ry q=>hr a b pins s2 σ H2 x y v u Q I2 rx ry q (hs _ _))
def rIxL (K:FZ9):R2:=fun x y H Q=>∃ p xs i v,x = .ref p/\y = .int i/\SqL K H p xs/\atI xs i=some v/\Q v H
def rIxT (K:FZ9):R2:=fun x y H Q=>∃ p xs i v,x = .ref p/\y = .int i/\SqT K H p xs/\atI xs i=some v/\Q v H
def rIxS:R2:=fun x y H Q=>∃ z i c,x = .str z/\y = .int i/\z.length<=sizeLine/\atI z.cps.toList i=some c/\Q (.str ⟨#[c]⟩) H
theorem ix_list:IxR X (rIxL X.K):=by
 intro value slice pins s σ H x y v u Q I rx ry h hs;obtain ⟨p,xs,i,z,rfl,rfl,hq,he,q⟩:=h;cases rx;obtain ⟨t,rfl⟩:=ry;obtain ⟨its,r,pl,hz⟩:=I.list hq;obtain ⟨j,h1,h2,h3,h4,h5⟩:=NA he;obtain ⟨w,ew,rw'⟩:=r.get h2;have hl:=r.length;have hn:=IX;have fin:EP X pins σ Q w s:=⟨z,H,I,rw',q⟩;by_cases h0:0<=i
 ·have hj:i.toNat=j:=by
   rw [seqIndex_of h0 h5] at h1;exact qjB h1
  exact item_listR pl.isList h0 (by omega) (by rw [hj];simpa using ew) fin hs
 ·have hj:(i+(its.toArray.size:Int)).toNat=j:=by
   rw [seqIndex_neg (by omega) h4] at h1;rw [qvB,<- hl];exact qjB h1
  exact subscriptTail_builtinR (x:=w) pl.isList.typeIs slot_list_getitem.lookup
   (wpAny_getItem_list_neg (Q:=fun r s'=>r=w/\EP X pins σ Q r s') pl.isList (by omega) (by rw [qvB]<;>omega) (by omega) (by rw [hj];simpa using ew) ⟨rfl,fin⟩) hs
theorem ix_tup:IxR X (rIxT X.K):=by
 intro value slice pins s σ H x y v u Q I rx ry h hs;obtain ⟨p,xs,i,z,rfl,rfl,hq,he,q⟩:=h;cases rx;obtain ⟨t,rfl⟩:=ry;obtain ⟨its,r,pl,hz⟩:=I.tuple hq;obtain ⟨j,h1,h2,h3,h4,h5⟩:=NA he;obtain ⟨w,ew,rw'⟩:=r.get h2;have hl:=r.length;have hn:=IX;have fin:EP X pins σ Q w s:=⟨z,H,I,rw',q⟩
 exact subscriptTail_builtinR (x:=w) pl.typeIs slot_tuple_getitem.lookup
  (getItem_tuple (j:=j) (Q:=fun r s'=>r=w/\EP X pins σ Q r s') pl (by omega) (by omega) (by rw [qvB,<- hl];exact h1) (by simpa using ew) ⟨rfl,fin⟩) hs
theorem ix_str:IxR X rIxS:=by
 intro value slice pins s σ H x y v u Q I rx ry h hs;obtain ⟨z,i,c,rfl,rfl,hz,he,q⟩:=h;obtain ⟨t,rfl⟩:=rx;obtain ⟨t',rfl⟩:=ry;obtain ⟨j,h1,h2,h3,h4,h5⟩:=NA he;have hl:z.cps.toList.length=z.length:=by simp [Str.length]
 rw [hl] at h1 h4 h5;have hn:=IX
 exact tail_any (typeIs_str s z t) slot_str_getitem.lookup (getItem_str (c:=c) (by
  have e1:decide (i < -(2 ^ 63:Int))=false:=decide_eq_false (by omega);have e2:decide (i>=2 ^ 63)=false:=decide_eq_false (by omega)
  rw [e1,e2,Bool.or_false]) (by rw [h1];simpa using h2) ⟨.str ⟨#[c]⟩,H,I.tok _,⟨_,rfl⟩,q⟩) hs
theorem QO (its:List Value)(n j:Nat)(u:Value):Obj.mapSeq (·.setIfInBounds j u) { cls:=.type "list",data:=.seq its.toArray n } = { cls:=.type "list",data:=.seq (its.set j u).toArray n }:=by
 simp [Obj.mapSeq]
theorem Inv.lst {pins:List (Addr × Obj)}{σ:St}{H:Hp}{s:Shared}{p:Addr}{xs:List V}(I:Inv X pins σ H s)(h:H p=some (.lst xs)) :
  ∃ (its:List Value) (n:Nat),Vals xs its/\s.heap.get? p=some { cls:=.type "list",data:=.seq its.toArray n }/\xs.length<=sizeLine:=by
 obtain ⟨z,its,n,r,e⟩:=I.hok p _ h;exact ⟨its,n,r,e,z⟩
theorem Inv.lstUpd {pins:List (Addr × Obj)}{σ:St}{H:Hp}{s:Shared}{p:Addr}{xs ys:List V}{its its':List Value}{n n':Nat}{f:Obj->Obj}(I:Inv X pins σ H s)(h:H p=some (.lst xs))
  (ho:s.heap.get? p=some { cls:=.type "list",data:=.seq its.toArray n }) (hf:f { cls:=.type "list",data:=.seq its.toArray n } = { cls:=.type "list",data:=.seq its'.toArray n' }) (r:Vals ys its') (hz:ys.length<=sizeLine) (t:Nat) :
  Inv X pins σ (upd H p (.lst ys)) { s with heap:=s.heap.update p f,toks:=t }:=by
 have e:(s.heap.update p f).get? p=some { cls:=.type "list",data:=.seq its'.toArray n' }:=by
  rw [Heap.get?_update_self f ho (by rw [hf]<;>rfl),hf]
 refine I.write (x:=p) (e:=p) (by rw [h];trivial) (.inl rfl) (fun b u hb q=>(Heap.get?_update_other _ _ (Ne.symm hb)).trans q) ⟨_,e⟩ ?_;exact ⟨hz,its',n',r,e⟩
def Ql:V->V->V->Hp->(Hp->Prop)->Prop:=fun o i v H Q=>∃ p xs k j,o = .ref p/\i = .int k/\H p=some (.lst xs)/\ixN xs.length k=some j/\Q (upd H p (.lst (xs.set j v)))
theorem ES:PSet X Ql:=by
 intro pins s σ H o i v ov iv u Q I ro ri rv h;obtain ⟨p,xs,k,j,rfl,rfl,hp,hj,q⟩:=h;cases ro;obtain ⟨t,rfl⟩:=ri;obtain ⟨its,n,r,ho,hz⟩:=I.lst hp;obtain ⟨h1,h2,h3,h4⟩:=Nh hj;have hl:=r.length;have hn:=IX
 have I':Inv X pins σ (upd H p (.lst (xs.set j v))) { s with heap:=s.heap.update p (Obj.mapSeq (·.setIfInBounds j u)) } :=
  I.lstUpd hp ho (QO its n j u) (r.set rv j) (by rw [List.length_set];exact hz) s.toks
 by_cases h0:0<=k
 ·have hk:k.toNat=j:=by
   rw [seqIndex_of h0 h4] at h1;exact qjB h1
  exact PySem.W.ki_setAt ho h0 (by omega) (by rw [qvB,<- hl];exact h4) (by rw [hk];exact ⟨_,I',q⟩)
 ·have hk:(k+(its.toArray.size:Int)).toNat=j:=by
   rw [seqIndex_neg (by omega) h3] at h1;rw [qvB,<- hl];exact qjB h1
  exact PySem.W.ki_setBack ho (by omega) (by rw [qvB,<- hl];exact h3) (by omega) (by rw [hk];exact ⟨_,I',q⟩)
theorem NY (lo hi:Option Int)(n:Nat):(sliceBounds lo hi none n).1=((HT.sIx n 0 lo:Nat):Int)/\(sliceBounds lo hi none n).2.1=((HT.sIx n n hi:Nat):Int)/\(sliceBounds lo hi none n).2.2=1:=by
 refine ⟨?_,?_,rfl⟩
 ·cases lo with
  | none=>simp [sliceBounds,HT.sIx]
  | some i =>
   simp only [sliceBounds,HT.sIx,Option.getD_none,show (1:Int) > 0 by decide,if_true];by_cases h:i<0
   ·simp only [h,if_true]<;>omega
   ·simp only [h,if_false]<;>omega
 ·cases hi with
  | none=>simp [sliceBounds,HT.sIx]
  | some i =>
   simp only [sliceBounds,HT.sIx,Option.getD_none,show (1:Int) > 0 by decide,if_true];by_cases h:i<0
   ·simp only [h,if_true]<;>omega
   ·simp only [h,if_false]<;>omega
theorem MK (its:List Value)(lo hi:Option Int):slicePick its.toArray lo hi none=((its.drop (HT.sIx its.length 0 lo)).take (HT.sIx its.length its.length hi - HT.sIx its.length 0 lo)).toArray:=by
 obtain ⟨h1,h2,h3⟩:=NY lo hi its.toArray.size;unfold slicePick;rw [h1,h2,h3];simp only [sliceRange_one,pick_run,qvB]<;>rfl
def rSlL (K:FZ9):V->Option Int->Option Int->Hp->VK->Prop:=fun x lo hi H Q=>∃ a xs,x = .ref a/\SqL K H a xs/\∀ p,H p=none->Q (.ref p) (upd H p (.lst (Ki xs lo hi)))
theorem sl_list:SlR X (rSlL X.K):=by
 intro pins s σ H x v vl vu lo hi sl Q I rx hs pl pu h;obtain ⟨a,xs,rfl,hx,q⟩:=h;cases rx;obtain ⟨its,r,ht,hz⟩:=I.list hx;have hlen:=r.length;refine ⟨"list",_,slot_list_getitem.lookup,ht.isList.typeIs,?_⟩;refine wpAny_getItem_list_slice ht.isList hs pl pu .none (by simp) ?_ (by rw [qvB]<;>omega);rw [MK,<- hlen];refine ⟨.ref s.heap.objs.size,_,I.laid (t':=s.toks) (o:=.lst (Ki xs lo hi)) (fun b ob q=>qmB _ q) (qfB _) ?_,rfl,q _ (I.hok.fresh (qfB _))⟩;exact ⟨qgB (HF xs lo hi) hz,_,0,(r.drop (HT.sIx xs.length 0 lo)).take (HT.sIx xs.length xs.length hi - HT.sIx xs.length 0 lo),qnB _ rfl⟩
def Hx:V->Bool
 | .non=>true
 | .bl _=>true
 | .int _=>true
 | .str _=>true
 | _=>false
def eqV:V->V->Bool
 | .non,.non=>true
 | .bl a,.bl b=>a == b
 | .bl a,.int b=>(if a then 1 else 0) == b
 | .int a,.bl b=>a == (if b then 1 else 0)
 | .int a,.int b=>a == b
 | .str a,.str b=>a == b
 | _,_=>false
theorem eqAt_V {A:Around}{s:Shared}{y x:V}{u v:Value}(ry:RelV y u)(rx:RelV x v)(fy:Hx y=true)(fx:Hx x=true):SeqAt.EqAt A s u v (eqV y x):=by
 cases y with
 | non =>
  cases ry
  cases x with
  | non=>cases rx;exact SeqAt.EqAt.same _
  | bl b=>cases rx;exact SeqAt.EqAt.none_bool b
  | int b=>obtain ⟨t,rfl⟩:=rx;exact SeqAt.EqAt.none_int b t
  | str b=>obtain ⟨t,rfl⟩:=rx;exact SeqAt.EqAt.none_str b t
  | _=>exact absurd (show false=true from fx) quB
 | bl a =>
  cases ry
  cases x with
  | non=>cases rx;exact SeqAt.EqAt.bool_none a
  | bl b=>cases rx;exact SeqAt.EqAt.bool_bool a b
  | int b=>obtain ⟨t,rfl⟩:=rx;exact SeqAt.EqAt.bool_int a b t
  | str b=>obtain ⟨t,rfl⟩:=rx;exact SeqAt.EqAt.bool_str a b t
  | _=>exact absurd (show false=true from fx) quB
 | int a =>
  obtain ⟨t',rfl⟩:=ry
  cases x with
  | non=>cases rx;exact SeqAt.EqAt.int_none a t'
  | bl b=>cases rx;exact SeqAt.EqAt.int_bool a t' b
  | int b=>obtain ⟨t,rfl⟩:=rx;exact SeqAt.EqAt.int_int a t' b t
  | str b=>obtain ⟨t,rfl⟩:=rx;exact SeqAt.EqAt.int_str a t' b t
  | _=>exact absurd (show false=true from fx) quB
 | str a =>
  obtain ⟨t',rfl⟩:=ry
  cases x with
  | non=>cases rx;exact SeqAt.EqAt.str_none a t'
  | bl b=>cases rx;exact SeqAt.EqAt.str_bool a t' b
  | int b=>obtain ⟨t,rfl⟩:=rx;exact SeqAt.EqAt.str_int a t' b t
  | str b=>obtain ⟨t,rfl⟩:=rx;exact SeqAt.EqAt.str_str a t' b t
  | _=>exact absurd (show false=true from fx) quB
 | _=>exact absurd (show false=true from fy) quB
def eqU (x:V)(u:Value):Bool:=match u with
 | .none=>eqV .non x
 | .bool b=>eqV (.bl b) x
 | .int i _=>eqV (.int i) x
 | .str z _=>eqV (.str z) x
 | _=>false
theorem eqU_of {x y:V}{u:Value}(r:RelV y u)(f:Hx y=true):eqU x u=eqV y x:=by
 cases y with
 | non=>cases r;rfl
 | bl b=>cases r;rfl
 | int i=>obtain ⟨t,rfl⟩:=r;rfl
 | str z=>obtain ⟨t,rfl⟩:=r;rfl
 | _=>exact absurd (show false=true from f) quB
theorem NL {x:V}:∀ {xs:List V}{us:List Value},Vals xs us->xs.all Hx=true->us.any (eqU x)=xs.any fun y=>eqV y x
 | _,_,.nil,_=>rfl
 | y::xs,u::us,.cons r t,f=>by
  rw [List.all_cons,qfC] at f;rw [List.any_cons,List.any_cons,eqU_of r f.1,NL t f.2]
theorem LW {A:Around}{s:Shared}{x:V}{v:Value}(rx:RelV x v)(fx:Hx x=true):∀ {xs:List V}{us:List Value},Vals xs us->xs.all Hx=true->∀ u∈us,SeqAt.EqAt A s u v (eqU x u)
 | _,_,.nil,_=>fun u hu=>by cases hu
 | y::xs,u::us,.cons r t,f=>fun u' hu=>by
  rw [List.all_cons,qfC] at f;rcases qmA.mp hu with rfl|hu
  ·rw [eqU_of r f.1];exact eqAt_V r rx f.1 fx
  ·exact LW rx fx t f.2 u' hu
def inV (x:V)(xs:List V):Bool:=xs.any fun y=>eqV y x
def rIn (K:FZ9)(neg:Bool):R2:=fun x y H Q=>∃ p xs,y = .ref p/\(SqL K H p xs\/SqT K H p xs)/\Hx x=true/\xs.all Hx=true/\Q (.bl (if neg then !inV x xs else inV x xs)) H
theorem Rw:OpR X (compareOp .In) (rIn X.K false):=by
 intro pins s σ H x y v u Q I rx ry h;obtain ⟨p,xs,rfl,hq,fx,fs,q⟩:=h;cases ry;rcases hq with hq|hq
 ·obtain ⟨its,r,pl,hz⟩:=I.list hq;refine SeqAt.in_listAt (eqU x) pl.isList (fun w hw=>LW rx fx r fs w (by simpa using hw)) ⟨.bl _,H,I,rfl,?_⟩;rw [show its.toArray.any (eqU x)=its.any (eqU x) by simp,NL r fs];exact q
 ·obtain ⟨its,r,pl,hz⟩:=I.tuple hq;refine SeqAt.in_tupleAt (eqU x) pl (fun w hw=>LW rx fx r fs w (by simpa using hw)) ⟨.bl _,H,I,rfl,?_⟩;rw [show its.toArray.any (eqU x)=its.any (eqU x) by simp,NL r fs];exact q
theorem NC:Ek X (.builtin "len") (fun xs H Q=>∃ p ys,xs=[.ref p]/\(SqL X.K H p ys\/SqT X.K H p ys)/\Q (.int ys.length) H):=by
 intro pins s σ H xs us Q I r h;obtain ⟨p,ys,rfl,hq,q⟩:=h;obtain ⟨u,rfl,rx⟩:=IB r;cases rx;have hn:=IX;rcases hq with hq|hq
 ·obtain ⟨its,r',pl,hz⟩:=I.list hq;have hlen:=r'.length;exact Calls.call_len_list pl.isList (by simp only [qvB]<;>omega) ⟨.int ys.length,H,I.tok _,⟨s.toks+1,by rw [qvB,hlen]⟩,q⟩
 ·obtain ⟨its,r',pl,hz⟩:=I.tuple hq;have hlen:=r'.length;exact len_tuple pl (by simp only [qvB]<;>omega) ⟨.int ys.length,H,I.tok _,⟨s.toks+1,by rw [qvB,hlen]⟩,q⟩
theorem N8:Ek X (.builtin "len") (fun xs H Q=>∃ z,xs=[.str z]/\z.length<=sizeLine/\Q (.int z.length) H):=by
 intro pins s σ H xs us Q I r h;obtain ⟨z,rfl,hz,q⟩:=h;obtain ⟨u,rfl,t,rfl⟩:=IB r;have hn:=IX;exact len_str (by omega) ⟨.int z.length,H,I.tok _,⟨_,rfl⟩,q⟩
theorem NW:Ek X (.type "list") (fun xs H Q=>∃ p ys,xs=[.ref p]/\(SqL X.K H p ys\/SqT X.K H p ys)/\∀ l,H l=none->Q (.ref l) (upd H l (.lst ys))):=by
 intro pins s σ H xs us Q I r h;obtain ⟨p,ys,rfl,hq,q⟩:=h;obtain ⟨u,rfl,rx⟩:=IB r;cases rx
 have fin:∀ (its:List Value),Vals ys its->ys.length<=sizeLine->∀ (h':Heap) (c':Nat),(∀ b o',s.heap.get? b=some o'->h'.get? b=some o') ->
   h'.get? s.heap.objs.size=some { cls:=.type "list",dict:=none,data:=.seq its.toArray c',slots:=#[] }->EP X pins σ Q (.ref s.heap.objs.size) { s with heap:=h' }:=fun its r' hz h' c' kp e =>
  ⟨.ref s.heap.objs.size,_,I.laid (t':=s.toks) kp (qfB _) (show ObjOk X.prog X.w _ h' _ (.lst ys) from ⟨hz,its,c',r',e⟩),rfl,q _ (I.hok.fresh (qfB _))⟩
 rcases hq with hq|hq
 ·obtain ⟨its,r',pl,hz⟩:=I.list hq;have hlen:=r'.length;obtain ⟨o,ho,hc,n,hd⟩:=pl.isList;exact call_list_seq p (.inl rfl) ho hc hd (fun h' c' kp e=>fin its r' hz h' c' kp e) (by simp only [qvB]<;>omega)
 ·obtain ⟨its,r',pl,hz⟩:=I.tuple hq;have hlen:=r'.length;obtain ⟨o,ho,hc,n,hd⟩:=pl;exact call_list_seq p (.inr rfl) ho hc hd (fun h' c' kp e=>fin its r' hz h' c' kp e) (by simp only [qvB]<;>omega)
theorem MM:Ek X (.type "tuple") (fun xs H Q=>∃ p ys,xs=[.ref p]/\((SqL X.K H p ys/\∀ l,H l=none->Q (.ref l) (upd H l (.tup ys)))\/(SqT X.K H p ys/\Q (.ref p) H))):=by
 intro pins s σ H xs us Q I r h;obtain ⟨p,ys,rfl,h⟩:=h;obtain ⟨u,rfl,rx⟩:=IB r;cases rx;rcases h with ⟨hq,q⟩ | ⟨hq,q⟩
 ·obtain ⟨its,r',pl,hz⟩:=I.list hq;have hlen:=r'.length;refine call_tuple_list pl.isList (fun h' kp=>?_) (by simp only [qvB]<;>omega);have I1:Inv X pins σ H { s with heap:=h' }:=I.kept (t':=s.toks) kp
  have I2:Inv X pins σ (upd H h'.objs.size (.tup ys)) { s with heap:=h'.push { cls:=.type "tuple",data:=.seq its.toArray } } :=
   I1.laid (t':=s.toks) (fun b o e=>qmB _ e) (qfB _) (show ObjOk X.prog X.w _ _ _ (.tup ys) from ⟨hz,its,r',IsTup.new _ _⟩)
  exact ⟨.ref h'.objs.size,_,I2,rfl,q _ (I1.hok.fresh (qfB _))⟩
 ·obtain ⟨its,r',pl,hz⟩:=I.tuple hq;exact call_tuple_same pl ⟨.ref p,H,I,rfl,q⟩
def tyV (K:FZ9)(T:String)(x:V)(H:Hp):Prop:=match x with
 | .str _=>T = "str"
 | .int _=>T = "int"
 | .ref p=>(T = "list" /\ ∃ xs,SqL K H p xs)\/(T = "tuple" /\ ∃ o,K.lookup p=some o/\o.cls = .type "tuple" /\ o.dict=none) \/
   (T = "dict" /\ ((∃ kvs,H p=some (.dK kvs))\/∃ kvs,H p=some (.dT kvs)))\/(T = "set" /\ ∃ S n,H p=some (.set S n))
 | _=>False
theorem tyV_is {pins:List (Addr × Obj)}{σ:St}{H:Hp}{s:Shared}{T:String}{x:V}{v:Value}(I:Inv X pins σ H s)(r:RelV x v)(ty:tyV X.K T x H) :
  s.TypeIs v T/\∀ a,v = .ref a->∃ ob,s.heap.get? a=some ob/\ob.dict=none:=by
 cases x with
 | str z =>
  obtain ⟨t,rfl⟩:=r;cases (show T = "str" from ty);exact ⟨typeIs_str s z t,fun _ e=>nomatch e⟩
 | int i =>
  obtain ⟨t,rfl⟩:=r;cases (show T = "int" from ty);exact ⟨typeIs_int s i t,fun _ e=>nomatch e⟩
 | ref p =>
  cases r;rcases ty with ⟨rfl,xs,hq⟩ | ⟨rfl,o,hk,hc,hd⟩ | ⟨rfl,hk⟩ | ⟨rfl,S,n,hk⟩
  ·obtain ⟨its,_,pl,_⟩:=I.list hq;refine ⟨pl.isList.typeIs,fun a e=>?_⟩;cases e;obtain ⟨o,n,e,c,hd,_⟩:=pl;exact ⟨o,e,hd⟩
  ·refine ⟨⟨o,I.kIn p o hk,hc⟩,fun a e=>?_⟩;cases e;exact ⟨o,I.kIn _ o hk,hd⟩
  ·have z:∃ o,s.heap.get? p=some o/\o.ExactDict:=by
    rcases hk with ⟨kvs,hk⟩ | ⟨kvs,hk⟩
    ·obtain ⟨_,_,_,_,o,_,_,e,ex,_⟩:=I.hok p _ hk;exact ⟨o,e,ex⟩
    ·obtain ⟨_,_,_,_,o,_,_,e,ex,_⟩:=I.hok p _ hk;exact ⟨o,e,ex⟩
   obtain ⟨o,e,ex⟩:=z;refine ⟨⟨o,e,ex.1⟩,fun a e2=>?_⟩;cases e2;exact ⟨o,e,ex.2.1⟩
  ·obtain ⟨o,_,_,_,e,ex,_⟩:=I.hok p _ hk;refine ⟨⟨o,e,ex.1⟩,fun a e2=>?_⟩;cases e2;exact ⟨o,e,ex.2.1⟩
 | _=>exact False.elim ty
abbrev tBM0 (K:FZ9)(T:String)(r:V->List V->Hp->VK->Prop)(to:TE):TE:=fun σ H Q=>to σ H fun x H1=>tyV K T x H1/\r x [] H1 Q
abbrev tBM (K:FZ9)(T:String)(r:V->List V->Hp->VK->Prop)(to:TE)(t:TA):TE:=fun σ H Q=>to σ H fun x H1=>tyV K T x H1/\t σ H1 fun xs H2=>r x xs H2 Q
variable {o e:Expr}{es:List Expr}{to:TE}{t:TA}{name:Str}{apos cpos:Pos}{T id:String}{r:V->List V->Hp->VK->Prop}
theorem pe_bm0 (pa:PlainAttrs T)(slot:Slot T name id)(hty:typeOf (.builtin id)=pure (.type "method_descriptor"))(hm:MtR X id r)(ho:PE X o to)
  (hbase:attributeBase o name X.env (eval o X.env)=eval o X.env:=by rfl) (hline:(apos.endLine == cpos.line)=true:=by rfl):PE X (.Call (.Attribute o name apos) [] [] cpos) (tBM0 X.K T r to):=by
 intro pins s σ H Q I h;refine wpAny_Call_method0_late hbase hline (thn (ho pins s σ H _ I h) fun v s1 ⟨x,H1,I1,r1,ty,q1⟩=>?_);obtain ⟨h1,h2⟩:=tyV_is I1 r1 ty;exact ⟨T,id,pa,slot,hty,h1,h2,Calls.callWith_builtin rfl (PySem.evalArgs_none (hm pins s1 σ H1 x [] v [] Q I1 r1 .nil q1))⟩
theorem pe_bm (pa:PlainAttrs T)(slot:Slot T name id)(hty:typeOf (.builtin id)=pure (.type "method_descriptor"))(hm:MtR X id r)(ho:PE X o to)(ha:PA X (e::es) t)
  (hbase:attributeBase o name X.env (eval o X.env)=eval o X.env:=by rfl)
  (hfew:((backTo cpos (starEach (e::es) X.env)).all (fun x=>!x.1) && (backToKw cpos (keywordEach [] X.env)).all (fun x=>x.1.isSome)
   && decide ((e::es).length+([]:List Keyword).length+(if ([]:List Keyword).isEmpty then 0 else 1)<30))=true:=by rfl)
  (hline:(apos.endLine == cpos.line)=true:=by rfl) (hs:starEach (e::es) X.env=(false,eval e X.env)::starEach es X.env:=by rfl) (hplain:(backTo cpos (starEach es X.env)).any (·.1)=false:=by rfl) :
  PE X (.Call (.Attribute o name apos) (e::es) [] cpos) (tBM X.K T r to t):=by
 intro pins s σ H Q I h;refine wpAny_Call_method_late hbase hfew hline rfl (thn (ho pins s σ H _ I h) fun v s1 ⟨x,H1,I1,r1,ty,q1⟩=>?_);obtain ⟨h1,h2⟩:=tyV_is I1 r1 ty;refine ⟨T,id,pa,slot,hty,h1,h2,?_⟩;have hA:=ha cpos pins s1 σ H1 _ I1 q1;rw [hs] at hA ⊢;refine Calls.callWith_builtin (by show (false || (backTo cpos (starEach es X.env)).any (·.1))=false;rw [hplain]<;>rfl) (Calls.evalArgs_plain ?_);exact thn hA fun us s2 ⟨vs,H2,I2,r2,q2⟩=>hm pins s2 σ H2 x vs v us Q I2 r1 r2 q2
end
def MtM (X:Cx)(id:String)(r:V->List V->Hp->VK->Prop):Prop :=
 ∀ (pins:List (Addr × Obj)) (s:Shared) (σ:St) (H:Hp) (x:V) (xs:List V) (v:Value) (us:List Value) (Q:VK),Inv X pins σ H s->RelV x v->Vals xs us->r x xs H Q ->
  wpAny (model X.prog X.w) X.A (call (.builtin id) (v::us)) (EP X pins σ Q) X.xe s
theorem Vals.one:∀ {x:V}{us:List Value},Vals [x] us->∃ u,us=[u]/\RelV x u
 | _,_,.cons r .nil=>⟨_,rfl,r⟩
theorem Vals.zero:∀ {us:List Value},Vals [] us->us=[]
 | _,.nil=>rfl
theorem Vals.dropLast {xs:List V}{us:List Value}(h:Vals xs us):Vals xs.dropLast us.dropLast:=by
 induction h with
 | nil=>exact .nil
 | cons r t ih =>
  cases t with
  | nil=>exact .nil
  | cons q t'=>exact .cons r ih
theorem Vals.rep {xs:List V}{us:List Value}(h:Vals xs us):∀ k:Nat,Vals (List.replicate k xs).flatten (List.replicate k us).flatten
 | 0=>.nil
 | k+1=>by
  rw [List.replicate_succ,List.replicate_succ,List.flatten_cons,List.flatten_cons];exact Vals.append h (Vals.rep h k)
theorem QG {α:Type}(l:List α):l.eraseIdx (l.length - 1)=l.dropLast:=by
 induction l with
 | nil=>rfl
 | cons a r ih =>
  cases r with
  | nil=>rfl
  | cons b r =>
   have e:(a::b::r).length - 1=((b::r).length - 1)+1:=by
    have h1:(a::b::r).length=r.length+2:=rfl;have h2:(b::r).length=r.length+1:=rfl;omega
   rw [e,List.eraseIdx_cons_succ,ih]
   all_goals rfl
theorem MS (its:List Value):∀ (k:Nat) (acc:List Value),
  List.foldl (fun x1 x2=>x1++x2) acc.toArray (List.replicate k its.toArray)=(acc++(List.replicate k its).flatten).toArray
 | 0,acc=>by simp
 | k+1,acc=>by
  have e:acc.toArray++its.toArray=(acc++its).toArray:=by simp
  have e2:(acc++its)++(List.replicate k its).flatten=acc++(List.replicate (k+1) its).flatten:=by
   rw [List.replicate_succ,List.flatten_cons,qcB]
  rw [<- e2,<- MS its k (acc++its),<- e,List.replicate_succ,qdC]
section
variable {X:Cx}{pins:List (Addr × Obj)}{σ:St}{H:Hp}{s:Shared}{l b:Addr}{xs ys zs:List V}
theorem Inv.lset {its its':List Value}{n:Nat}{f:Array Value->Array Value}{t':Nat}(I:Inv X pins σ H s)(hH:H l=some (.lst xs))
  (e:s.heap.get? l=some { cls:=.type "list",data:=.seq its.toArray n }) (hf:f its.toArray=its'.toArray) (hv:Vals ys its') (hz:ys.length<=sizeLine) :
  Inv X pins σ (upd H l (.lst ys)) { s with heap:=s.heap.update l (Obj.mapSeq f),toks:=t' }:=by
 have q:=PySem.IsL.update e f;rw [hf] at q;refine I.write (x:=l) (e:=l) (by rw [hH];exact trivial) (.inl rfl) (fun b' u hb hu=>(Heap.get?_update_other s.heap (Obj.mapSeq f) (Ne.symm hb)).trans hu) ⟨_,q⟩ ?_;exact ⟨hz,its',_,hv,q⟩
theorem Inv.lnew {its:List Value}{t':Nat}(I:Inv X pins σ H s)(hv:Vals ys its)(hz:ys.length<=sizeLine) :
  Inv X pins σ (upd H s.heap.objs.size (.lst ys)) { s with heap:=s.heap.push { cls:=.type "list",data:=.seq its.toArray },toks:=t' } :=
 I.laid (fun _ _ q=>qmB _ q) (qfB _) ⟨hz,its,0,hv,qnB _ rfl⟩
theorem Inv.fresh (I:Inv X pins σ H s):H s.heap.objs.size=none:=I.hok.fresh (qfB _)
theorem Inv.lstM (I:Inv X pins σ H s)(hH:H l=some (.lst xs)):xs.length<=sizeLine/\∃ (its:List Value) (n:Nat),Vals xs its/\xs.length=its.length/\s.heap.get? l=some { cls:=.type "list",data:=.seq its.toArray n }:=by
 obtain ⟨z,its,n,r,e⟩:=I.hok l _ hH;exact ⟨z,its,n,r,r.length,e⟩
theorem Ox {n:Nat}(h:n<=sizeLine):Builtin.List.listTooLong n=false:=by
 unfold Builtin.List.listTooLong;exact decide_eq_false (by omega)
end
section
variable {X:Cx}
def GQ:V->List V->Hp->VK->Prop:=fun x vs H Q=>∃ l xs y,x = .ref l/\vs=[y]/\H l=some (.lst xs)/\xs.length<sizeLine/\Q .non (upd H l (.lst (xs++[y])))
theorem Mb:MtM X "list.append" GQ:=by
 intro pins s σ H x vs v us Q I rx rv h;obtain ⟨l,xs,y,rfl,rfl,hH,hz,q⟩:=h;cases rx;obtain ⟨u,rfl,ru⟩:=rv.one;obtain ⟨z,its,n,r,hl,e⟩:=I.lstM hH;refine call_meets F.slot_list_append ⟨_,e,rfl⟩ F.entry_list_append (F.args_list_append_2 _ _) (PySem.list_append l its.toArray n u (by rw [qvB];omega)) ⟨e,?_⟩;refine ⟨.non,_,I.lset (its':=its++[u]) hH e (by simp) (r.append (.cons ru .nil)) ?_,rfl,q⟩;rw [qfA,qhA];omega
def rPop:V->List V->Hp->VK->Prop:=fun x vs H Q=>∃ l xs y,x = .ref l/\vs=[]/\H l=some (.lst xs)/\xs[xs.length - 1]? = some y/\Q y (upd H l (.lst xs.dropLast))
theorem Pu:MtM X "list.pop" rPop:=by
 intro pins s σ H x vs v us Q I rx rv h;obtain ⟨l,xs,y,rfl,rfl,hH,hy,q⟩:=h;cases rx;have hus:=rv.zero;subst hus;obtain ⟨z,its,n,r,hl,e⟩:=I.lstM hH;obtain ⟨u,hu,ru⟩:=r.get hy
 have hy':its.toArray[its.toArray.size - 1]? = some u:=by
  show its.toArray[its.length - 1]? = some u;rw [<- Array.getElem?_toList,<- hl];exact hu
 refine call_meets F.slot_list_pop ⟨_,e,rfl⟩ F.entry_list_pop (F.args_list_pop_1 _) (MeetsSeq.list_pop_last l its.toArray n u hy' (by rw [qvB];omega)) ⟨e,?_⟩;refine ⟨y,_,I.lset (its':=its.dropLast) hH e ?_ r.dropLast ?_,ru,q⟩
 ·show its.toArray.eraseIdxIfInBounds (its.toArray.size - 1)=its.dropLast.toArray;rw [qvB,List.eraseIdxIfInBounds_toArray,QG]
 ·rw [List.length_dropLast];omega
def rRep:R2:=fun x y H Q=>∃ l k xs,x = .ref l/\y = .int k/\H l=some (.lst xs)/\-(2 ^ 63)<=k/\k<2 ^ 63/\xs.length * k.toNat<=sizeLine /\
 ∀ p,H p=none->Q (.ref p) (upd H p (.lst (List.replicate k.toNat xs).flatten))
theorem len_rep {α:Type}(xs:List α)(k:Nat):(List.replicate k xs).flatten.length=k * xs.length:=by
 induction k with
 | zero=>simp
 | succ k ih=>rw [List.replicate_succ,List.flatten_cons,qfA,ih,Nat.succ_mul,Nat.add_comm]
theorem op_rep:OpR X (binaryOp .Mult) rRep:=by
 intro pins s σ H x y v u Q I rx ry h;obtain ⟨l,k,xs,rfl,rfl,hH,h1,h2,hz,q⟩:=h;cases rx;obtain ⟨t,rfl⟩:=ry;obtain ⟨z,its,n,r,hl,e⟩:=I.lstM hH;have hlen:its.toArray.size * k.toNat<=sizeLine:=by rw [qvB,<- hl];exact hz
 have hcap:¬ its.toArray.size * k.toNat > (2 ^ 63 - 1) / 8:=by
  have:(sizeLine:Nat)<=(2 ^ 63 - 1) / 8:=by decide
  omega
 have hfit:¬ (!Builtin.List.listFitsIndex k)=true:=by
  rw [fitsIndex_both h1 h2];exact quB
 have hlong:¬ Builtin.List.listTooLong (its.toArray.size * k.toNat)=true:=by
  rw [Ox hlen];exact quB
 have hnew:List.foldl (fun x1 x2=>x1++x2) #[] (List.replicate (if its.toArray.isEmpty=true then 0 else k.toNat) its.toArray)=(List.replicate k.toNat its).flatten.toArray:=by
  have f0:∀ m:Nat,List.foldl (fun x1 x2=>x1++x2) #[] (List.replicate m its.toArray)=(List.replicate m its).flatten.toArray:=fun m=>by
   have:=MS its m [];rw [List.nil_append] at this;exact this
  rw [f0]
  cases its with
  | nil=>simp
  | cons a r'=>rw [if_neg (by simp)]
 refine wpAny_binaryOp_repeat_ref (T := "list") (U := "int") (by decide) ⟨_,e,rfl⟩ (fun s'=>typeIs_int s' k t) noFill_list_mul F.fills_int_mul F.slot_int_rmul repeat_list F.slot_int_index.lookup
  (call_meets F.slot_int_rmul (typeIs_int s k t) F.entry_int_rmul (F.args_int_rmul_2 _ _) (int___rmul___int_list k t l its.toArray n)
   ⟨e,rfl,⟨_,e,rfl⟩,call_meets F.slot_list_mul ⟨_,e,rfl⟩ F.entry_list_mul (F.args_list_mul_2 _ _) (AutoListH.list___mul___list_int_3 l its.toArray n k t hfit hcap hlong) ⟨e,?_⟩⟩)
 rw [hnew];exact ⟨.ref _,_,I.lnew (t':=s.toks) (r.rep k.toNat) (by rw [len_rep,Nat.mul_comm];exact hz),rfl,q _ I.fresh⟩
end
end L2
namespace Att
open PySem PySem.W PySem.Calls PyProof.Rows
theorem Kj {P:Params}{h:Heap}:∀ (ns:List Int) (vs:List Value),WellAll P h vs (ns.map WData.int)->IntsAre vs ns:=by
 intro ns
 induction ns with
 | nil =>
  intro vs w;rw [List.map_nil] at w;cases w;exact .nil
 | cons n ns ih =>
  intro vs w;rw [qaB] at w
  cases w with
  | cons a b =>
   cases a;exact .cons _ _ (ih _ b)
theorem SA {l:OpenLaw}{n:Nat}(hn:l.most=some n){P:Params}{h:Heap}{args:List WData}{vals:List Value}
  (hpre:l.row.toRowW.claim.pre args=true) (hwl:WellAll P h vals args) :
  ∃ a vs ns,vals=[Value.ref a]/\args=[WData.list (ns.map WData.int)]/\h.get? a=some { cls:=.type "list",data:=.seq vs.toArray }/\IntsAre vs ns/\ns.length<=n:=by
 have hsh:WShape.hasAll [] args [.list .int]=true:=(pre_splitW hpre).1;have hc:l.pre.holds [] { args:=args }=true:=(pre_splitW hpre).2;obtain ⟨d,r,rfl,h1,h2⟩:=hasAllW_cons hsh;obtain rfl:=hasAllW_nil h2;obtain ⟨xs,rfl,h3⟩:=hasW_list h1;obtain ⟨ns,rfl⟩:=items_int h3
 have hlen:ns.length<=n:=by
  unfold OpenLaw.pre at hc
  have h4:(WTm.not (.lt (.lit (.int (n:Int))) (.len (.arg 0)))).holds [] { args:=[.list (ns.map .int)] }=true:=by
   have h4:=(holds_andW hc).1;rw [hn] at h4;exact h4
  have h5:=condW_of h4 (w_not (w_lt w_lit (w_len_list (w_arg rfl))));rw [qeA] at h5;refine Nat.le_of_not_lt fun q=>?_;have q':(n:Int)<((ns.length:Nat):Int):=by omega
  first
   | (rw [decide_eq_true q'] at h5;exact absurd h5 (by decide))
   | (simp at h5;omega)
 cases hwl with
 | cons w1 w2 =>
  cases w2
  cases w1 with
  | list ho hall=>exact ⟨_,_,ns,rfl,rfl,ho,Kj ns _ hall,hlen⟩
theorem SN (l:OpenLaw)(args:List WData):l.row.toRowW.claim.post args (.bool true) args=true :=
 postW_of (r:=l.row.toRowW) (X:=(true == true))
  (show WShape.has [] (.bool true) .bool=true by first|rfl|decide|simp [WShape.has,WShape.arms,WShape.armsAll])
  (show (WTm.eq .res (.lit (.bool true))).value [] { args:=args,res:=some (.bool true),after:=args }=some (.bool (true == true)) from w_eq_bool (w_res rfl) w_lit) rfl
theorem attach_call {l:OpenLaw}{n:Nat}{q:Program}{loose:List Str}{XP:(Str->Option Value)->Heap->Prop}{YP:World->Heap->Prop}{d:DefRec}
  (hn:l.most=some n) (hdf:d.params.defaults=[])
  (call:∀ (w:World) (s₀ s₁:Shared) (mg mb:Str->Option Value) (fa:Addr) (o:Obj) (pm cd doc:Value) (a:Addr) (vs:List Value) (ns:List Int),
   Ground q loose [] XP w s₀ mg mb s₁.heap->YP w s₁.heap ->
   s₁.heap.get? fa=some o->o.data = .func (docDef d.name d.params d.body d.scope pm cd doc)->s₁.heap.CodeRec cd d.name->mg d.name=some (.ref fa) ->
   s₁.heap.get? a=some { cls:=.type "list",data:=.seq vs.toArray }->IntsAre vs ns->ns.length<=n->s₁.gens = #[] ->
   codeAny (model l.prog w) callerA (.call (.ref fa) ⟨[.ref a],[]⟩) (fun r s'=>r = .ok (.ret (.bool true))/\OldK s₁.heap s'.heap/\s'.os=s₁.os/\AllBare s'.gens) s₁) :
  WalkO q loose XP YP l.row.toRowW d [] (fun f vs=>PySem.call f vs):=by
 intro w s₀ s₁ mg mb G Y fa o pm cd doc dV kV ho hd hcd hD hmg hg args vals as hpre hlay hrd hwl hlo;obtain rfl:dV = .none:=Dflts.none hD hdf;obtain rfl:kV = .none:=Dflts.noKw hD;obtain ⟨a,vs,ns,rfl,rfl,hobj,hints,hlen⟩:=SA hn hpre hwl;refine enter_call (codeAny_mono (call w s₀ s₁ mg mb fa o pm cd doc a vs ns G Y ho (fd_plain hd) hcd hmg hobj hints hlen hg) fun r s' hq=>?_);obtain ⟨rfl,h2,h3,h4⟩:=hq;exact ⟨.inl ⟨.bool true,.bool true,[],rfl,fun _=>rfl,.bool true,SN l _,fun _=>⟨List.Pairwise.nil,fun _ hm=>(nomatch hm)⟩⟩,h2,h3,h4⟩
end Att
namespace L2
open PySem PySem.Spec PyProof.Rows
theorem MP:∀ {vs:List Value}{ns:List Int},IntsAre vs ns->Vals (ns.map V.int) vs
 | _,_,.nil=>.nil
 | _,_,.cons n t h=>.cons ⟨t,rfl⟩ (MP h)
def Only (H:Hp):Prop:=∀ b,H b=none\/∃ o xs,H b=some (.frz o (.lst xs))
theorem law_call {P:Program}{w:World}{K:FZ9}{mg mb:Str->Option Value}{CX:CXT}{k:Nat}{fa a:Addr}{fd:FuncData}{x:Str}{sp:Sp}{s₁:Shared}{vs:List Value}{ns:List Int}
  (KX:K.In s₁.heap) (hns:s₁.heap.Ns mainGlobals mg) (hb:s₁.heap.Ns builtinsNs mb) (hbb:∀ x:Str,x ≠ "__name__" -> mb x=bootBuiltins x) (hlim:s₁.heap.NoLimit) (hg:s₁.gens = #[])
  (ha:s₁.heap.get? a=some { cls:=.type "list",data:=.seq vs.toArray }) (hi:IntsAre vs ns) (hl:ns.length<=sizeLine) (hr:Room k callerA)
  (F:∀ base:Heap,K.In base->base.Ns mainGlobals mg->FnOk P w K mg base CX k fa fd [x] sp) (hbind:∀ (s:Shared) (u:Value),BindsTo s fd ⟨[u],[]⟩ [(x,u)])
  (hsp:∀ H:Hp,Only H->SqL K H a (ns.map V.int)->sp [.ref a] H (fun v _=>v = .bl true) fun _ _ _=>False)
  (hCX:∀ H e s',CX [] H s₁ (fun _ _ _=>False) e s'->False) :
  codeAny (model P w) callerA (.call (.ref fa) ⟨[.ref a],[]⟩) (fun r s'=>r = .ok (.ret (.bool true))/\OldK s₁.heap s'.heap/\s'.os=s₁.os/\AllBare s'.gens) s₁:=by
 have rv:=MP hi;have lenV:=hi.length
 have core:∀ H:Hp,Only H->SqL K H a (ns.map V.int)->HOk P w H s₁.heap->(∀ b,H b≠none->b=a)->(H a≠none->K.lookup a=none) ->
   codeAny (model P w) callerA (.call (.ref fa) ⟨[.ref a],[]⟩) (fun r s'=>r = .ok (.ret (.bool true))/\OldK s₁.heap s'.heap/\s'.os=s₁.os/\AllBare s'.gens) s₁:=by
  intro H hO hS hok hA hK;have base_of:∀ {b:Addr}{o:Obj},s₁.heap.get? b=some o->H b=none->(No s₁.heap H).get? b=some o:=fun e n=>hidT_get e n
  have noA:∀ {b:Addr}{o:Obj}{es:Array DictEntry}{ep:Nat},s₁.heap.get? b=some o->o.data = .dict es ep->H b=none:=fun {b o es ep} e d=>by
   cases q:H b with
   | none=>rfl
   | some u =>
    have e':b=a:=hA b (by rw [q];simp);subst e';rw [ha] at e;cases e;have d':Data.seq vs.toArray _=Data.dict es ep:=d;cases d'
  have nsK:∀ {b:Addr}{m:Str->Option Value},s₁.heap.Ns b m->(No s₁.heap H).Ns b m:=fun {b m} ⟨o,es,ep,e,d,r⟩=>⟨o,es,ep,base_of e (noA e d),d,r⟩
  have hKb:K.In (No s₁.heap H):=fun b o e=>base_of (KX b o e) (by
   cases q:H b with
   | none=>rfl
   | some u =>
    have e':b=a:=hA b (by rw [q];simp);subst e'
    rw [hK (by rw [q];simp)] at e;cases e)
  have hM:Mod K mg (No s₁.heap H):=⟨hKb,nsK hns,⟨mb,nsK hb,hbb⟩,let ⟨mc,h1,h2⟩:=hlim;⟨mc,nsK h1,h2⟩⟩;have e0:Env0 P w K mg (No s₁.heap H) callerA [] s₁ H:=⟨rfl,hM,fun b o e=>of_hidT e,Nat.le_of_eq (SG _ _),trivial,fun b hb=>absurd (show b∈([]:List Addr) from hb) (by simp),hok,.of_eq hg⟩;refine codeAny_mono ((F _ hKb (nsK hns)).run callerA [] s₁ H ⟨[.ref a],[]⟩ [.ref a] [.ref a] _ _ hr e0 (hbind s₁ (.ref a)) (.cons rfl .nil) (hsp H hO hS)) fun r s' h=>?_
  cases r with
  | error e=>exact (hCX H e s' h).elim
  | ok fl =>
   cases fl with
   | next=>exact False.elim h
   | brk=>exact False.elim h
   | cont=>exact False.elim h
   | ret u =>
    obtain ⟨v,H',os,bare,un,hok',r',q⟩:=h;have q':v = .bl true:=q;subst q';obtain rfl:u=Value.bool true:=r';refine ⟨rfl,OldK.of_keep fun b o e=>?_,os,bare⟩
    cases q:H b with
    | none=>exact un.keep b o e q (by intro z;exact absurd (show b∈([]:List Addr) from z) (by simp)) (by simp)
    | some u =>
     rcases hO b with z | ⟨ob,xs,z⟩
     ·rw [q] at z;cases z
     ·have z2:=un.frzs b ob _ z;obtain ⟨e1,_⟩:=hok b _ z;obtain ⟨e2,_⟩:=hok' b _ z2;rw [e] at e1;cases e1;exact e2
 cases hk:K.lookup a with
 | some o =>
  have e:=KX a o hk;rw [ha] at e;cases e;refine core (fun _=>none) (fun _=>.inl rfl) (.inr ⟨_,vs.toArray,_,hk,rfl,rfl,rfl,by rw [qvB,lenV];exact hl,by simpa using rv⟩) (fun b u z=>by have z':(none:Option HO)=some u:=z;cases z') (fun b z=>absurd rfl z) fun z=>absurd rfl z
 | none =>
  refine core (fun b=>if b=a then some (.frz { cls:=.type "list",data:=.seq vs.toArray } (.lst (ns.map V.int))) else none) (fun b=>?_) (.inl (.inr ⟨{ cls:=.type "list",data:=.seq vs.toArray },if_pos rfl⟩)) (fun b u z=>?_) (fun b z=>?_) fun _=>hk
  ·by_cases hb:b=a
   ·exact .inr ⟨_,_,if_pos hb⟩
   ·exact .inl (if_neg hb)
  ·by_cases hb:b=a
   ·have z':=(if_pos hb).symm.trans z;cases z';subst hb;exact ⟨ha,by rw [qeA];exact hl,vs,_,rv,ha⟩
   ·have z':=(if_neg hb).symm.trans z;cases z'
  ·by_cases hb:b=a
   ·exact hb
   ·exact absurd (if_neg hb) z
theorem walk_of {l:PySem.W.OpenLaw}{n k:Nat}{q:Program}{loose:List Str}{XP:(Str->Option Value)->Heap->Prop}{YP:World->Heap->Prop}{d:DefRec}{K:Params->FZ9}{CX:World->CXT}{sp:World->Sp}{x:Str}
  (hn:l.most=some n) (hn2:n<=sizeLine) (hdf:d.params.defaults=[]) (hr:Room k callerA)
  (hY:∀ (w:World) (h:Heap),YP w h->(K w.params).In h)
  (F:∀ (w:World) (mg:Str->Option Value) (fa:Addr) (h:Heap),(K w.params).In h->h.Ns mainGlobals mg->mg d.name=some (.ref fa) ->
   ∃ fd:FuncData,(∀ (s:Shared) (u:Value),BindsTo s fd ⟨[u],[]⟩ [(x,u)]) /\
    ∀ base:Heap,(K w.params).In base->base.Ns mainGlobals mg->FnOk l.prog w (K w.params) mg base (CX w) k fa fd [x] (sp w))
  (hsp:∀ (w:World) (H:Hp) (a:Addr) (ns:List Int),ns.length<=n->Only H->SqL (K w.params) H a (ns.map V.int)->sp w [.ref a] H (fun v _=>v = .bl true) fun _ _ _=>False)
  (hCX:∀ (w:World) (H:Hp) (s:Shared) (e:Value) (s':Shared),CX w [] H s (fun _ _ _=>False) e s'->False) :
  PySem.W.WalkO q loose XP YP l.row.toRowW d [] (fun f vs=>PySem.call f vs):=by
 refine Att.attach_call hn hdf fun w s₀ s₁ mg mb fa o pm cd doc a vs ns G Y ho hd hcd hmg hobj hints hlen hg=>?_;have KX:=hY w _ Y;obtain ⟨fd,hb,hF⟩:=F w mg fa _ KX G.T.g hmg;exact law_call KX G.T.g G.T.b G.T.builtins G.T.nolimit hg hobj hints (qgB hlen hn2) hr hF hb (fun H hO hS=>hsp w H a ns hlen hO hS) fun H e s'=>hCX w H s₁ e s'
def Dz (s:Stmt):Arguments:=match s with
 | .FunctionDef _ a _ _ _ _ _ _ _ _=>a
 | _=>{ posonlyargs:=[],args:=[],vararg:=none,kwonlyargs:=[],kw_defaults:=[],kwarg:=none,defaults:=[] }
def CA (s:Stmt):List Stmt:=match s with
 | .FunctionDef _ _ b _ _ _ _ _ _ _=>b
 | _=>[]
def AK (s:Stmt):Scope:=match s with
 | .FunctionDef _ _ _ _ _ _ sc _ _ _=>sc
 | _=>{ kind:=.function,names:=[],isGenerator:=false,isCoroutine:=false }
abbrev CX0:CXT:=fun _ _ _ _ _ _=>False
abbrev E0:XK:=fun _ _ _=>False
theorem pass0 {X:Cx}:QR CX0 X E0:=fun _ _ _ _ _ _ _ h=>h.elim
structure Fun (K:FZ9)(x qual:Str)(st:Stmt)(f:Addr)(fd:FuncData):Prop where
 ex:∃ (oc:Value) (od:Option Addr) (kV doc pm:Value) (an:Option Addr) (cdv ct:Value) (osl:Array (Option Value)),
  fd=qwB x qual (Dz st) (CA st) (AK st) .none kV doc pm an cdv ct/\K.lookup f=some ⟨oc,od,.func fd,osl⟩/\PySem.W.codeIn K cdv qual=true
 kp:PySem.W.keepIn K (.ref f)=true
section
variable {P:Program}{w:World}{K:FZ9}{mg:Str->Option Value}{base:Heap}
theorem Fun.ok {x qual:Str}{st:Stmt}{f:Addr}{fd:FuncData}{N ps:List Str}{k:Nat}{sp:Sp}(F:Fun K x qual st f fd)(S:FnScope N ps (AK st))(len:∀ vs H Q E,sp vs H Q E->vs.length=ps.length)
  (hbody:∀ (cdv:Value) (A:Around) (outer:List Env) (s:Shared) (H:Hp) (vs:List V) (Q:VK) (E:XK),Room k (A.deeper (envOfC qual (AK st) s.heap.objs.size f cdv))->sp vs H Q E ->
   ∃ t,PSs (Kk CX0 P w K mg base N qual (AK st) f cdv A outer s H E).nox (CA st) t/\t { nx:=fun _ H'=>Q .non H',rt:=Q } (start N vs) H):FnOk P w K mg base CX0 (k+1) f fd ps sp:=by
 obtain ⟨oc,od,kV,doc,pm,an,cdv,ct,osl,rfl,lk,hcd⟩:=F.ex;refine fn_of lk hcd S len fun A outer s H vs Q E hr hsp=>?_;obtain ⟨t,h,q⟩:=hbody cdv A outer s H vs Q E hr hsp;exact ⟨t,h.nox,q⟩
theorem Fun.binds {x qual:Str}{st:Stmt}{f:Addr}{fd:FuncData}{ps:List Str}(F:Fun K x qual st f fd)
  (h:∀ (kV doc pm:Value) (an:Option Addr) (cdv ct:Value) (us:List Value),us.length=ps.length->bindArgs (qwB x qual (Dz st) (CA st) (AK st) .none kV doc pm an cdv ct) ⟨us,[]⟩=pure (ps.zip us)):Binds K fd ps []:=by
 obtain ⟨oc,od,kV,doc,pm,an,cdv,ct,osl,rfl,lk,hcd⟩:=F.ex;exact .all (h kV doc pm an cdv ct)
theorem fun_mk {x qual:Str}{st:Stmt}{f:Addr}{oc:Value}{od an:Option Addr}{osl:Array (Option Value)}{kV doc pm cdv ct:Value}(l:K.lookup f=some ⟨oc,od,.func (qwB x qual (Dz st) (CA st) (AK st) .none kV doc pm an cdv ct),osl⟩)
  (c:PySem.W.codeIn K cdv qual=true) (k:PySem.W.keepIn K (.ref f)=true):Fun K x qual st f (qwB x qual (Dz st) (CA st) (AK st) .none kV doc pm an cdv ct):=⟨⟨oc,od,kV,doc,pm,an,cdv,ct,osl,rfl,l,c⟩,k⟩
end
section
variable {X:Cx}
theorem pv (i:Nat){x:Str}{pos:Pos}(hN:X.N[i]? = some x:=by rfl)(hv:Vis X.env.scope x:=by first|exact Or.inl rfl|exact Or.inr (Or.inl rfl)|exact Or.inr (Or.inr rfl))(hd:(x == ("__debug__" : Str))=false:=by decide)
  (hcd:(x == ("__classdict__" : Str))=false:=by decide):PE X (.Name x pos) (FP i):=pe_var hN hv hd hcd
end
theorem Bm {A B:Prop}(h:B):if false=true then A else B:=by
 rw [if_neg quB];exact h
theorem Bn {A B:Prop}(h:A):if true=true then A else B:=by
 rw [if_pos rfl];exact h
def Same (H H':Hp):Prop:=∀ b o,H b=some o->H' b=some o
theorem Same.refl (H:Hp):Same H H:=fun _ _ h=>h
theorem Same.trans {H H1 H2:Hp}(a:Same H H1)(b:Same H1 H2):Same H H2:=fun c o h=>b c o (a c o h)
theorem Same.free {H H':Hp}(e:Same H H'){l:Addr}(h:H' l=Option.none):H l=Option.none:=by
 cases q:H l with
 | none=>rfl
 | some o =>
  rw [e l o q] at h;cases h
theorem Same.seq {K:FZ9}{H H':Hp}{a:Addr}{xs:List V}(e:Same H H')(h:SqL K H a xs):SqL K H' a xs:=by
 rcases h with (h | ⟨o,h⟩)|h
 ·exact .inl (.inl (e _ _ h))
 ·exact .inl (.inr ⟨o,e _ _ h⟩)
 ·exact .inr h
section
variable {κ:Type}[DecidableEq κ]
def Cu (kvs:List (κ × V))(k:κ):Option V:=(kvs.find? fun kv=>decide (kv.1=k)).map (·.2)
def Cg (kvs:List (κ × V))(k:κ)(v:V):List (κ × V) :=
 if (kvs.any fun kv=>decide (kv.1=k))=true then kvs.map (fun kv=>if kv.1=k then (kv.1,v) else kv) else kvs++[(k,v)]
theorem De {p:κ × V}{r:List (κ × V)}{k:κ}(e:p.1=k):Cu (p::r) k=some p.2:=by simp [Cu,List.find?_cons,e]
theorem DJ {p:κ × V}{r:List (κ × V)}{k:κ}(e:¬ p.1=k):Cu (p::r) k=Cu r k:=by simp [Cu,List.find?_cons,e]
theorem Lx (k:κ):∀ kvs:List (κ × V),(kvs.any fun kv=>decide (kv.1=k))=(Cu kvs k).isSome
 | []=>rfl
 | p::r=>by
  rw [List.any_cons];by_cases e:p.1=k
  ·simp only [De e,decide_eq_true e,Bool.true_or,Option.isSome_some]
  ·rw [DJ e,decide_eq_false e,Bool.false_or];exact Lx k r
theorem FZ (kvs:List (κ × V))(k:κ)(v:V):(Cg kvs k v).length<=kvs.length+1:=by
 unfold Cg;split
 ·rw [qeA];omega
 ·rw [qfA,qgA,List.length_nil];omega
theorem putK_new {kvs:List (κ × V)}{k:κ}(v:V)(h:Cu kvs k=none):Cg kvs k v=kvs++[(k,v)]:=by
 unfold Cg;rw [Lx,h];exact if_neg (by decide)
theorem RelO.isSome_eq {o:Option V}{u:Option Value}(r:RelO o u):o.isSome=u.isSome:=by
 cases o with
 | none=>cases u with
  | none=>rfl
  | some _=>exact (show False from r).elim
 | some _=>cases u with
  | none=>exact (show False from r).elim
  | some _=>rfl
theorem RelO.getD {o:Option V}{u:Option Value}{d:V}{d':Value}(r:RelO o u)(rd:RelV d d'):RelV (o.getD d) (u.getD d'):=by
 cases o with
 | none=>cases u with
  | none=>exact rd
  | some _=>exact (show False from r).elim
 | some _=>cases u with
  | none=>exact (show False from r).elim
  | some _=>exact r
theorem KV.val {kvs:List (κ × V)}{vs:List (κ × Value)}(r:KV kvs vs)(k:κ):RelO (Cu kvs k) (valueAt vs k):=by
 unfold KV at r
 induction r with
 | nil=>exact True.intro
 | @cons p q ps qs h t ih =>
  obtain ⟨h1,h2⟩:=h;by_cases e:p.1=k
  ·have e':q.1=k:=h1.symm.trans e;have b:valueAt (q::qs) k=some q.2:=by simp [valueAt,List.find?_cons,e']
   rw [De e,b];exact h2
  ·have e':¬ q.1=k:=fun z=>e (h1.trans z);have b:valueAt (q::qs) k=valueAt qs k:=by simp [valueAt,List.find?_cons,e']
   rw [DJ e,b];exact ih
theorem KV.any {kvs:List (κ × V)}{vs:List (κ × Value)}(r:KV kvs vs)(k:κ):(kvs.any fun kv=>decide (kv.1=k))=vs.any fun kv=>decide (kv.1=k):=by
 unfold KV at r
 induction r with
 | nil=>rfl
 | cons h t ih=>rw [List.any_cons,List.any_cons,ih,h.1]
theorem KV.repl {kvs:List (κ × V)}{vs:List (κ × Value)}(r:KV kvs vs)(k:κ){y:V}{u:Value}(ry:RelV y u) :
  KV (kvs.map fun kv=>if kv.1=k then (kv.1,y) else kv) (vs.map fun kv=>if kv.1=k then (kv.1,u) else kv):=by
 unfold KV at r ⊢
 induction r with
 | nil=>exact .nil
 | @cons p q ps qs h t ih =>
  rw [qaB,qaB];refine .cons ?_ ih;obtain ⟨h1,h2⟩:=h;by_cases e:p.1=k
  ·rw [if_pos e,if_pos (h1.symm.trans e)];exact ⟨h1,ry⟩
  ·rw [if_neg e,if_neg (fun z=>e (h1.trans z))];exact ⟨h1,h2⟩
theorem KV.put {kvs:List (κ × V)}{vs:List (κ × Value)}(r:KV kvs vs)(k:κ){y:V}{u:Value}(ry:RelV y u):KV (Cg kvs k y) (stored vs k u):=by
 unfold Cg stored;rw [r.any k];by_cases e:(vs.any fun kv=>decide (kv.1=k))=true
 ·rw [if_pos e,if_pos e];exact r.repl k ry
 ·rw [if_neg e,if_neg e];exact Paired.snoc r ⟨rfl,ry⟩
theorem KV.length {kvs:List (κ × V)}{vs:List (κ × Value)}(r:KV kvs vs):kvs.length=vs.length:=Paired.length r
end
theorem LB {P:Program}{w:World}{k:Key}{u:Value}(r:RelV (kV k) u):(BN P w).is k u=true:=by
 cases k with
 | inl i=>obtain ⟨t,e⟩:=(show ∃ t,u=Value.int i t from r);subst e;exact OG P w i t
 | inr x=>obtain ⟨t,e⟩:=(show ∃ t,u=Value.str x t from r);subst e;exact Ot P w x t
theorem N2 {P:Program}{w:World}:∀ {ks:List Key}{us:List Value},Vals (ks.map kV) us->ItemsAre (BN P w) ks us
 | [],_,r=>by rw [List.map_nil] at r;cases r;exact .nil
 | k::ks,_,r=>by
  rw [qaB] at r
  cases r with
  | cons h t=>exact .cons (LB h) (N2 t)
abbrev KT (H:Hp):List (List Key × V)->List (List Key × Addr × Value)->Prop:=Paired fun p q=>p.1=q.1/\H q.2.1=some (.tup (p.1.map kV))/\RelV p.2 q.2.2
theorem KT.val {H:Hp}{kvs:List (List Key × V)}{xs:List (List Key × Addr × Value)}(r:KT H kvs xs)(k:List Key):RelO (Cu kvs k) ((atKey xs k).map (·.2)):=by
 induction r with
 | nil=>exact True.intro
 | @cons p q ps qs h t ih =>
  obtain ⟨h1,_,h2⟩:=h;by_cases e:p.1=k
  ·have e':q.1=k:=h1.symm.trans e;have b:atKey (q::qs) k=some q.2:=by simp [atKey,List.find?_cons,e']
   rw [De e,b];exact h2
  ·have e':¬ q.1=k:=fun z=>e (h1.trans z);have b:atKey (q::qs) k=atKey qs k:=by simp [atKey,List.find?_cons,e']
   rw [DJ e,b];exact ih
theorem KT.repl {H:Hp}{kvs:List (List Key × V)}{xs:List (List Key × Addr × Value)}(r:KT H kvs xs)(k:List Key){y:V}{u:Value}(ry:RelV y u) :
  KT H (kvs.map fun kv=>if kv.1=k then (kv.1,y) else kv) (xs.map (putAt k u)):=by
 induction r with
 | nil=>exact .nil
 | @cons p q ps qs h t ih =>
  rw [qaB,qaB];refine .cons ?_ ih;obtain ⟨h1,h2,h3⟩:=h;unfold putAt;by_cases e:p.1=k
  ·rw [if_pos e,if_pos (h1.symm.trans e)];exact ⟨h1,h2,ry⟩
  ·rw [if_neg e,if_neg (fun z=>e (h1.trans z))];exact ⟨h1,h2,h3⟩
theorem KT.put {H:Hp}{kvs:List (List Key × V)}{xs:List (List Key × Addr × Value)}(r:KT H kvs xs)(k:List Key){b:Addr}{y:V}{u:Value}(hb:H b=some (.tup (k.map kV)))(ry:RelV y u) :
  KT H (Cg kvs k y) (storedH xs k b u):=by
 have e:(kvs.any fun kv=>decide (kv.1=k))=(atKey xs k).isSome:=by
  rw [Lx,(r.val k).isSome_eq,Option.isSome_map]
 unfold Cg storedH;rw [e];by_cases q:(atKey xs k).isSome=true
 ·rw [if_pos q,if_pos q];exact r.repl k ry
 ·rw [if_neg q,if_neg q];exact Paired.snoc r ⟨rfl,hb,ry⟩
theorem KT.keeps {H H':Hp}{kvs:List (List Key × V)}{xs:List (List Key × Addr × Value)}(r:KT H kvs xs)(ht:∀ b ys,H b=some (.tup ys)->H' b=some (.tup ys)):KT H' kvs xs :=
 Paired.mapP r fun _ _ z=>⟨z.1,ht _ _ z.2.1,z.2.2⟩
section
variable {P:Program}{w:World}{H:Hp}{h:Heap}{a:Addr}
theorem rd_of {u:HO}(ok:HOk P w H h)(e:Rd H a u):ObjOk P w H h a u:=e.ok ok
theorem KF {kvs:List (Key × V)}(ok:HOk P w H h)(e:Rd H a (.dK kvs)):kvs.length<=sizeLine/\(a == sysModules)=false/\∃ vs,KV kvs vs/\h.DictOf (BN P w) a vs :=
 show ObjOk P w H h a (.dK kvs) from rd_of ok e
theorem dk_of {kvs:List (Key × V)}(ok:HOk P w H h)(e:H a=some (.dK kvs)):kvs.length<=sizeLine/\(a == sysModules)=false/\∃ vs,KV kvs vs/\h.DictOf (BN P w) a vs:=KF ok (.inl e)
theorem Ih {ks:List Key}(ok:HOk P w H h)(e:H a=some (.tup (ks.map kV))):(tupleKind (BN P w)).is h ks a:=by
 obtain ⟨_,its,r,o,h1,h2,n,h3⟩:=(show ObjOk P w H h a (.tup (ks.map kV)) from ok a _ e);exact ⟨o,its.toArray,n,h1,h2,h3,by simpa using N2 r⟩
theorem Li {kvs:List (List Key × V)}(ok:HOk P w H h)(e:Rd H a (.dT kvs)):kvs.length<=sizeLine/\(a == sysModules)=false /\
  ∃ xs,KT H kvs xs/\h.DictOfH (tupleKind (BN P w)) a xs:=by
 obtain ⟨z,y,xs,r,o,es,ep,h1,h2,h3,h4,h5⟩:=(show ObjOk P w H h a (.dT kvs) from rd_of ok e);refine ⟨z,y,xs,r,o,es,ep,h1,h2,h3,h4,fun x hx=>?_,h5⟩
 have all:∀ {l:List (List Key × V)}{m:List (List Key × Addr × Value)},KT H l m->∀ x∈m,(tupleKind (BN P w)).is h x.1 x.2.1:=by
  intro l m q
  induction q with
  | nil=>intro x hx;exact nomatch hx
  | @cons p q ps qs hq t ih =>
   intro x hx;rcases qmA.mp hx with e|hx
   ·subst e;exact Ih ok (by rw [<- hq.1];exact hq.2.1)
   ·exact ih x hx
 exact all r x hx
theorem dt_of {kvs:List (List Key × V)}(ok:HOk P w H h)(e:H a=some (.dT kvs)):kvs.length<=sizeLine/\(a == sysModules)=false /\
  ∃ xs,KT H kvs xs/\h.DictOfH (tupleKind (BN P w)) a xs:=Li ok (.inl e)
end
def DGet (H:Hp)(a:Addr)(y:V)(r:Option V):Prop :=
 (∃ kvs k,Rd H a (.dK kvs)/\y=kV k/\r=Cu kvs k)\/∃ kvs k b,Rd H a (.dT kvs)/\y = .ref b/\H b=some (.tup (k.map kV))/\r=Cu kvs k
def DPut (H:Hp)(a:Addr)(y v:V)(H':Hp):Prop :=
 (∃ kvs k,H a=some (.dK kvs)/\y=kV k/\kvs.length<sizeLine/\H'=upd H a (.dK (Cg kvs k v))) \/
 ∃ kvs k b,H a=some (.dT kvs)/\y = .ref b/\H b=some (.tup (k.map kV))/\kvs.length<sizeLine/\H'=upd H a (.dT (Cg kvs k v))
theorem DGet.t {H:Hp}{a b:Addr}{kvs:List (List Key × V)}{k:List Key}(e:H a=some (.dT kvs))(eb:H b=some (.tup (k.map kV))):DGet H a (.ref b) (Cu kvs k):=.inr ⟨kvs,k,b,.inl e,rfl,eb,rfl⟩
theorem DPut.t {H:Hp}{a b:Addr}{kvs:List (List Key × V)}{k:List Key}{v:V}(e:H a=some (.dT kvs))(eb:H b=some (.tup (k.map kV)))(hl:kvs.length<sizeLine) :
  DPut H a (.ref b) v (upd H a (.dT (Cg kvs k v))):=.inr ⟨kvs,k,b,e,rfl,eb,hl,rfl⟩
section
variable {X:Cx}{pins:List (Addr × Obj)}{σ:St}{H:Hp}{s:Shared}{a:Addr}{y v:V}{u r:Value}{o:Option V}{A:Around}{E:Value->Shared->Prop}
theorem Inv.big (I:Inv X pins σ H s):sysModules<s.heap.objs.size:=by
 have h:mainGlobals<s.heap.objs.size:=(I.mod.glob.keeps I.bk).lt;exact Nat.lt_trans (by decide) h
theorem Rq {Q:Value->Shared->Prop}(hu:A.units+1<cLine)(I:Inv X pins σ H s)(g:DGet H a y (some v))(ry:RelV y u)(h:∀ w' s',Inv X pins σ H s'->RelV v w'->Q w' s') :
  wpAny (model X.prog X.w) A (getItem (.ref a) u) Q E s:=by
 rcases g with ⟨kvs,k,e,ey,l⟩ | ⟨kvs,k,b,e,ey,eb,l⟩
 ·subst ey;obtain ⟨z,hd,vs,rel,dd⟩:=KF I.hok e;obtain ⟨w',hw,rw'⟩:=RelO.some_of (v:=v) (o:=valueAt vs k) (by rw [l];exact rel.val k);exact wpAny_getItem_of (LB ry) dd.mapOf hw (h w' _ (I.tok _) rw')
 ·subst ey;cases (show u=Value.ref b from ry);obtain ⟨z,hd,xs,rel,dd⟩:=Li I.hok e;obtain ⟨w',hw,rw'⟩:=RelO.some_of (v:=v) (o:=(atKey xs k).map (·.2)) (by rw [l];exact rel.val k);obtain ⟨p,hp,hp2⟩:=qiB.mp hw;refine wpAny_getItem_heap (tupleKind_room_in1 hu) (Ih I.hok eb) dd hp ?_;rw [hp2];exact h w' _ (I.tok _) rw'
theorem d_in {Q:Value->Shared->Prop}(hu:A.units+1<cLine)(I:Inv X pins σ H s)(g:DGet H a y o)(ry:RelV y u)(h:∀ s',Inv X pins σ H s'->Q (.bool o.isSome) s') :
  wpAny (model X.prog X.w) A (compareOp .In u (.ref a)) Q E s:=by
 rcases g with ⟨kvs,k,e,ey,l⟩ | ⟨kvs,k,b,e,ey,eb,l⟩
 ·subst ey;obtain ⟨z,hd,vs,rel,dd⟩:=KF I.hok e;refine wpAny_in_of (LB ry) hd dd.mapOf ?_;rw [<- (rel.val k).isSome_eq,<- l];exact h _ (I.tok _)
 ·subst ey;cases (show u=Value.ref b from ry);obtain ⟨z,hd,xs,rel,dd⟩:=Li I.hok e;refine wpAny_in_heap (tupleKind_room_in1 hu) (Ih I.hok eb) hd dd ?_;have q:=(rel.val k).isSome_eq;rw [Option.isSome_map] at q;rw [<- q,<- l];exact h _ (I.tok _)
theorem d_notIn {Q:Value->Shared->Prop}(hu:A.units+1<cLine)(I:Inv X pins σ H s)(g:DGet H a y o)(ry:RelV y u)(h:∀ s',Inv X pins σ H s'->Q (.bool (!o.isSome)) s') :
  wpAny (model X.prog X.w) A (compareOp .NotIn u (.ref a)) Q E s:=by
 rcases g with ⟨kvs,k,e,ey,l⟩ | ⟨kvs,k,b,e,ey,eb,l⟩
 ·subst ey;obtain ⟨z,hd,vs,rel,dd⟩:=KF I.hok e;refine wpAny_notIn_of (LB ry) hd dd.mapOf ?_;rw [<- (rel.val k).isSome_eq,<- l];exact h _ (I.tok _)
 ·subst ey;cases (show u=Value.ref b from ry);obtain ⟨z,hd,xs,rel,dd⟩:=Li I.hok e;refine wpAny_notIn_heap (tupleKind_room_in1 hu) (Ih I.hok eb) hd dd ?_;have q:=(rel.val k).isSome_eq;rw [Option.isSome_map] at q;rw [<- q,<- l];exact h _ (I.tok _)
theorem Kp {h':Heap}{t':Nat}{ob:HO}(I:Inv X pins σ H s)(mu:Mut (H a))(hs:Heap.SameBut a s.heap h')(he:∃ q,h'.get? a=some q)(new:ObjOk X.prog X.w (upd H a ob) h' a ob) :
  Inv X pins σ (upd H a ob) { s with heap:=h',toks:=t' } :=
 I.write (x:=a) (e:=a) mu (.inl rfl) (fun b q hb z=>(hs.2 b hb).trans z) he new
theorem dk_new {P:Program}{w:World}{H':Hp}{h':Heap}{kvs:List (Key × V)}{vs:List (Key × Value)}(z:kvs.length<=sizeLine)(hd:(a == sysModules)=false)(rel:KV kvs vs)(dd:h'.DictOf (BN P w) a vs) :
  ObjOk P w H' h' a (.dK kvs):=⟨z,hd,vs,rel,dd⟩
theorem SH {H':Hp}{Q:Unit->Shared->Prop}(hu:A.units+1<cLine)(I:Inv X pins σ H s)(g:DPut H a y v H')(ry:RelV y u)(rv:RelV v r)(h:∀ s',Inv X pins σ H' s'->Q () s') :
  wpAny (model X.prog X.w) A (setItem (.ref a) u r) Q E s:=by
 rcases g with ⟨kvs,k,e,ey,l,eH⟩ | ⟨kvs,k,b,e,ey,eb,l,eH⟩
 ·subst ey eH;obtain ⟨z,hd,vs,rel,dd⟩:=dk_of I.hok e;have hz:vs.length<=sizeLine:=by rw [<- rel.length];exact z
  have hl:(Cg kvs k v).length<=sizeLine:=by have:=FZ kvs k v;omega
  refine wpAny_setItem_pairs (hsz:=hz) (LB ry) dd fun h' dd' hs=>h _ ?_;have he:∃ q,h'.get? a=some q:=let ⟨q,_,_,hq,_⟩:=dd';⟨q,hq⟩
  exact Kp I (by rw [e];exact True.intro) hs he (dk_new hl hd (rel.put k rv) dd')
 ·subst ey eH;cases (show u=Value.ref b from ry);obtain ⟨z,hd,xs,rel,dd⟩:=dt_of I.hok e;have hz:xs.length<=sizeLine:=by rw [<- Paired.length rel];exact z
  have hl:(Cg kvs k v).length<=sizeLine:=by have:=FZ kvs k v;omega
  refine wpAny_setItem_heap (hsz:=hz) (tupleKind_room_in1 hu) (Ih I.hok eb) dd fun h' dd' hs=>h _ ?_;obtain ⟨q,es,ep,hq,h2,h3,h4,_,h5⟩:=dd';refine Kp I (by rw [e];exact True.intro) hs ⟨q,hq⟩ ⟨hl,hd,_,(rel.put k eb rv).keeps fun c ys ec=>?_,q,es,ep,hq,h2,h3,h4,h5⟩;rw [At (PL ec e (fun z=>nomatch z))];exact ec
end
section
variable {X:Cx}{pins:List (Addr × Obj)}{σ:St}{H:Hp}{s:Shared}{a:Addr}{kvs:List (Key × V)}{k:Key}{u:Value}{A:Around}{E:Value->Shared->Prop}
theorem d_len {Q:Value->Shared->Prop}(I:Inv X pins σ H s)(e:Rd H a (.dK kvs))(h:∀ t s',Inv X pins σ H s'->Q (.int kvs.length t) s'):wpAny (model X.prog X.w) A (call (.builtin "len") [.ref a]) Q E s:=by
 obtain ⟨z,hd,vs,rel,dd⟩:=KF I.hok e;refine call_len_dict hd dd (by rw [<- rel.length];rw [qoB] at z;omega) ?_;rw [<- rel.length];exact h _ _ (I.tok _)
end
def NoSl (i:Expr):Prop:=∀ ov iv,subscripted i false ov iv=operate [ov,iv] (getItem ov iv)
theorem subD_of {prog:Program}{w:World}{A:Around}{E:Value->Shared->Prop}{s:Shared}{env:Env}{value slice:Expr}{pos:Pos}{T id:String}{Q:Value->Shared->Prop}
  (hl:typeLookup (.type T) "__getitem__" = pure (some (.builtin id))) (hs:NoSl slice)
  (h:wpAny (model prog w) A (eval value env) (fun o s₁=>wpAny (model prog w) A (eval slice env) (fun i s₂=>s₂.TypeIs o T/\wpAny (model prog w) A (getItem o i) Q E s₂) E s₁) E s) :
  wpAny (model prog w) A (eval (.Subscript value slice pos) env) Q E s:=by
 refine Subscript_ (wpAny_mono h (fun o s₁ h₁=>wpAny_mono h₁ (fun i s₂ h₂=>?_) fun _ _ x=>x) fun _ _ x=>x);obtain ⟨hT,h₂⟩:=h₂;unfold subscriptTail;refine qbA ?_;rw [getitemInPython_of_ne hT.not_modules];refine qbA (wpAny_specialOf hT hl ?_)
 have fin:wpAny (model prog w) A (subscripted slice false o i) (fun r s₃=>wpAny (model prog w) A (letTemporaryGo value o r >>= fun _=>pure r) Q E s₃) E s₂:=by
  rw [hs o i];exact wpAny_operating (wpAny_mono h₂ (fun r s₃ h₃=>qbA (wpAny_letTemporaryGo (qcA h₃))) fun _ _ x=>x)
 first
  | exact qcA (qbA fin)
  | exact qbA (qcA (qbA fin))
  | exact qbA fin
theorem OX {X:Cx}{pins:List (Addr × Obj)}{σ:St}{H:Hp}{s:Shared}{a:Addr}{y:V}{o:Option V}(I:Inv X pins σ H s)(g:DGet H a y o):s.TypeIs (.ref a) "dict" := by
 rcases g with ⟨kvs,k,e,_,_⟩ | ⟨kvs,k,b,e,_,_,_⟩
 ·obtain ⟨_,_,vs,_,dd⟩:=KF I.hok e;exact dd.typeIs
 ·obtain ⟨_,_,xs,_,dd⟩:=Li I.hok e;exact dd.typeIs
def tDGet (td ty:TE):TE:=fun σ H Q=>td σ H fun x H1=>ty σ H1 fun y H2=>∃ a v,x = .ref a/\DGet H2 a y (some v)/\Q v H2
def tDIn (ty td:TE):TE:=fun σ H Q=>ty σ H fun y H1=>td σ H1 fun x H2=>∃ a o,x = .ref a/\DGet H2 a y o/\Q (.bl o.isSome) H2
def O5 (ty td:TE):TE:=fun σ H Q=>ty σ H fun y H1=>td σ H1 fun x H2=>∃ a o,x = .ref a/\DGet H2 a y o/\Q (.bl (!o.isSome)) H2
def RQ (td ty tv:TE):TS:=fun D σ H=>tv σ H fun v H1=>td σ H1 fun x H2=>ty σ H2 fun y H3=>∃ a H4,x = .ref a/\DPut H3 a y v H4/\D.nx σ H4
section
variable {X:Cx}{o i e value:Expr}{pos pos' tpos:Pos}{td ty tv:TE}
theorem JR (hu:X.A.units+1<cLine)(ho:PE X o td)(hi:PE X i ty)(hs:NoSl i):PE X (.Subscript o i pos) (tDGet td ty):=by
 intro pins s σ H Q I h;refine subD_of PySem.F.slot_dict_getitem.lookup hs (thn (ho pins s σ H _ I h) fun u s1 ⟨x,H1,I1,rx,q1⟩=>thn (hi pins s1 σ H1 _ I1 q1) fun iv s2 ⟨y,H2,I2,ry,a,v,ex,g,q2⟩=>?_);subst ex;obtain rfl:u=Value.ref a:=rx;exact ⟨OX I2 g,Rq hu I2 g ry fun w' s3 I3 rw'=>⟨v,H2,I3,rw',q2⟩⟩
theorem pc_din (hu:X.A.units+1<cLine)(hi:PE X i ty)(ho:PE X o td):PC X .In i o (tDIn ty td):=by
 intro pins s σ H Q I h;refine thn (hi pins s σ H _ I h) fun iv s1 ⟨y,H1,I1,ry,q1⟩=>thn (ho pins s1 σ H1 _ I1 q1) fun u s2 ⟨x,H2,I2,rx,a,ov,ex,g,q2⟩=>?_;subst ex;obtain rfl:u=Value.ref a:=rx;exact d_in hu I2 g ry fun s3 I3=>⟨.bl ov.isSome,H2,I3,rfl,q2⟩
theorem Rx (hu:X.A.units+1<cLine)(hi:PE X i ty)(ho:PE X o td):PC X .NotIn i o (O5 ty td):=by
 intro pins s σ H Q I h;refine thn (hi pins s σ H _ I h) fun iv s1 ⟨y,H1,I1,ry,q1⟩=>thn (ho pins s1 σ H1 _ I1 q1) fun u s2 ⟨x,H2,I2,rx,a,ov,ex,g,q2⟩=>?_;subst ex;obtain rfl:u=Value.ref a:=rx;exact d_notIn hu I2 g ry fun s3 I3=>⟨.bl (!ov.isSome),H2,I3,rfl,q2⟩
theorem Kr (hu:X.A.units+1<cLine)(ho:PE X o td)(hi:PE X i ty)(hv:PE X value tv)(hs:swapsWith value (some (.Subscript o i pos')) pos.line X.env=pure false) :
  PS X (.Assign [.Subscript o i pos'] value pos) (RQ td ty tv):=by
 intro pins s σ H D I h;refine wpAny_Assign_Subscript (thn (hv pins s σ H _ I h) fun r s1 ⟨v,H1,I1,rv,q1⟩=>thn (ho pins s1 σ H1 _ I1 q1) fun u s2 ⟨x,H2,I2,rx,q2⟩=>thn (hi pins s2 σ H2 _ I2 q2) fun iv s3 ⟨y,H3,I3,ry,a,H4,ex,g,q3⟩=>?_) hs;subst ex;obtain rfl:u=Value.ref a:=rx;exact SH hu I3 g ry rv fun s4 I4=>⟨σ,H4,I4,q3⟩
end
theorem PK {P:Program}{w:World}{H:Hp}(h:Heap)(hb:sysModules<h.objs.size):ObjOk P w H (h.push { cls:=.type "dict",data:=.dict #[] }) h.objs.size (.dK []) :=
 ⟨qeC _,beq_eq_false_iff_ne.mpr (Ne.symm (qyB hb)),[],.nil,Heap.DictOf.new h⟩
theorem dt_empty {P:Program}{w:World}{H:Hp}(h:Heap)(hb:sysModules<h.objs.size):ObjOk P w H (h.push { cls:=.type "dict",data:=.dict #[] }) h.objs.size (.dT []) :=
 ⟨qeC _,beq_eq_false_iff_ne.mpr (Ne.symm (qyB hb)),[],.nil,_,#[],0,qnB _ rfl,⟨rfl,rfl,rfl⟩,rfl,rfl,List.nodup_nil⟩
def Py:TE:=fun _ H Q=>∀ p,H p=none->Q (.ref p) (upd H p (.dK []))
def Nq:TE:=fun _ H Q=>∀ p,H p=none->Q (.ref p) (upd H p (.dT []))
section
variable {X:Cx}{pos:Pos}
theorem OI:PE X (.Dict [] [] pos) Py:=fun pins s σ H Q I h =>
 wpAny_Dict_empty ⟨.ref s.heap.objs.size,_,I.laid (a:=s.heap.objs.size) (o:=.dK []) (t':=s.toks) (fun _ _ q=>qmB _ q) (qfB _) (PK s.heap I.big),rfl,h _ (I.hok.fresh (qfB _))⟩
theorem Fo:PE X (.Dict [] [] pos) Nq:=fun pins s σ H Q I h =>
 wpAny_Dict_empty ⟨.ref s.heap.objs.size,_,I.laid (a:=s.heap.objs.size) (o:=.dT []) (t':=s.toks) (fun _ _ q=>qmB _ q) (qfB _) (dt_empty s.heap I.big),rfl,h _ (I.hok.fresh (qfB _))⟩
end
def Qa:List (TE × TE)->St->Hp->(List (V × V)->Hp->Prop)->Prop
 | [],_,H,Q=>Q [] H
 | (tk,tv)::r,σ,H,Q=>tk σ H fun x H1=>tv σ H1 fun y H2=>Qa r σ H2 fun ps H3=>Q ((x,y)::ps) H3
abbrev VV:List (V × V)->List (Value × Value)->Prop:=Paired fun p q=>RelV p.1 q.1/\RelV p.2 q.2
def PPs (X:Cx)(pos:Pos)(keys:List (Option Expr))(values:List Expr)(trs:List (TE × TE)):Prop :=
 ∀ (pins:List (Addr × Obj)) (s:Shared) (σ:St) (H:Hp) (Q:List (V × V)->Hp->Prop),Inv X pins σ H s->Qa trs σ H Q ->
  wpAny (model X.prog X.w) X.A (evalPairs (pairTrees keys values X.env pos)) (fun vs s'=>∃ ps H',Inv X pins σ H' s'/\VV ps vs/\Q ps H') X.xe s
theorem pps_nil {X:Cx}{pos:Pos}:PPs X pos [] [] []:=fun pins s σ H Q I h=>pairTrees_nil_walk ⟨[],H,I,.nil,h⟩
theorem pps_cons {X:Cx}{pos:Pos}{k v:Expr}{ks:List (Option Expr)}{vs:List Expr}{tk tv:TE}{trs:List (TE × TE)}(hk:PE X k tk)(hv:PE X v tv)(hr:PPs X pos ks vs trs) :
  PPs X pos (some k::ks) (v::vs) ((tk,tv)::trs):=fun pins s σ H Q I h =>
 pairTrees_cons_walk (thn (hk pins s σ H _ I h) fun u s1 ⟨x,H1,I1,rx,q1⟩=>thn (hv pins s1 σ H1 _ I1 q1) fun w2 s2 ⟨y,H2,I2,ry,q2⟩ =>
  thn (hr pins s2 σ H2 _ I2 q2) fun ws s3 ⟨ps,H3,I3,rel,q3⟩=>⟨(x,y)::ps,H3,I3,.cons ⟨rx,ry⟩ rel,q3⟩)
def LU (kvs more:List (Key × V)):List (Key × V):=more.foldl (fun acc kv=>Cg acc kv.1 kv.2) kvs
theorem KV.merge:∀ {more:List (Key × V)}{rs:List (Key × Value)}{kvs:List (Key × V)}{vs:List (Key × Value)},KV more rs->KV kvs vs->KV (LU kvs more) (merged vs rs):=by
 intro more rs kvs vs r;unfold KV at r
 induction r generalizing kvs vs with
 | nil=>intro q;exact q
 | @cons p q ps qs h t ih =>
  intro r0
  have e:KV (Cg kvs p.1 p.2) (stored vs q.1 q.2):=by
   have:=r0.put p.1 h.2;rw [<- h.1];exact this
  exact ih e
theorem IA:∀ (more kvs:List (Key × V)),(LU kvs more).length<=kvs.length+more.length
 | [],kvs=>by show kvs.length<=kvs.length+0;omega
 | p::r,kvs=>by
  have h1:=IA r (Cg kvs p.1 p.2);have h2:=FZ kvs p.1 p.2;show (LU (Cg kvs p.1 p.2) r).length<=_;rw [qgA];omega
theorem LA {P:Program}{w:World}:∀ {kvs:List (Key × V)}{ws:List (Value × Value)},VV (kvs.map fun kv=>(kV kv.1,kv.2)) ws->∃ rs,Carries (BN P w) ws rs/\KV kvs rs
 | [],_,r=>by rw [List.map_nil] at r;cases r;exact ⟨[],True.intro,.nil⟩
 | p::kvs,_,r=>by
  rw [qaB] at r
  cases r with
  | @cons a b as bs h t =>
   obtain ⟨rs,c,q⟩:=LA (P:=P) (w:=w) t;obtain ⟨b1,b2⟩:=b;exact ⟨(p.1,b2)::rs,⟨LB h.1,rfl,c⟩,.cons ⟨rfl,h.2⟩ q⟩
def tDisp (trs:List (TE × TE)):TE:=fun σ H Q=>∀ p,H p=none->Qa trs σ (upd H p (.dK [])) fun ps H2=>H2 p=some (.dK [])/\∃ kvs:List (Key × V),ps=kvs.map (fun kv=>(kV kv.1,kv.2))/\kvs.length<=15/\Q (.ref p) (upd H2 p (.dK (LU [] kvs)))
theorem pe_disp {X:Cx}{pos:Pos}{keys:List (Option Expr)}{values:List Expr}{trs:List (TE × TE)}(h:PPs X pos keys values trs)(hall:keys.all (·.isSome)=true)(hl:keys.length=values.length)(h0:keys ≠ [])
  (h15:keys.length<=15):PE X (.Dict keys values pos) (tDisp trs):=by
 intro pins s σ H Q I q;have hn:=I.hok.fresh (qfB s.heap.objs.size);have I1:=I.laid (a:=s.heap.objs.size) (o:=.dK []) (h':=s.heap.push { cls:=.type "dict",data:=.dict #[] }) (t':=s.toks) (fun _ _ q=>qmB _ q) (qfB _) (PK s.heap I.big);refine wpAny_Dict_walk (knd:=BN X.prog X.w) hall hl h0 h15 (thn (h pins _ σ _ _ I1 (q _ hn)) fun ws s2 ⟨ps,H2,I2,rel,e,kvs,ep,lk,q2⟩=>?_);subst ep;obtain ⟨rs,c,rk⟩:=LA (P:=X.prog) (w:=X.w) rel;obtain ⟨z,hd,vs0,r0,dd⟩:=dk_of I2.hok e;cases r0;refine ⟨rs,c,dd,fun h' dd' hs=>⟨.ref s.heap.objs.size,_,?_,rfl,q2⟩⟩
 have hz:(LU [] kvs).length<=sizeLine:=by
  have h1:=IA kvs [];rw [List.length_nil] at h1;rw [qoB];omega
 have he:∃ q,h'.get? s.heap.objs.size=some q:=let ⟨q,_,_,hq,_⟩:=dd';⟨q,hq⟩
 exact Kp I2 (by rw [e];exact True.intro) hs he (dk_new hz hd (rk.merge .nil) dd')
structure M1 (X:Cx)(o:Expr)(m:Str)(apos:Pos)(e:Expr)(cpos:Pos):Prop where
 base:attributeBase o m X.env (eval o X.env)=eval o X.env
 few:((backTo cpos (starEach [e] X.env)).all (fun x=>!x.1) && (backToKw cpos (keywordEach [] X.env)).all (fun x=>x.1.isSome)
  && decide (([e]:List Expr).length+([]:List Keyword).length+(if ([]:List Keyword).isEmpty then 0 else 1)<30))=true
 line:(apos.endLine == cpos.line)=true
 trees:backTo cpos (starEach [e] X.env)=[(false,eval e X.env)]
structure M2 (X:Cx)(o:Expr)(m:Str)(apos:Pos)(e f:Expr)(cpos:Pos):Prop where
 base:attributeBase o m X.env (eval o X.env)=eval o X.env
 few:((backTo cpos (starEach [e,f] X.env)).all (fun x=>!x.1) && (backToKw cpos (keywordEach [] X.env)).all (fun x=>x.1.isSome)
  && decide (([e,f]:List Expr).length+([]:List Keyword).length+(if ([]:List Keyword).isEmpty then 0 else 1)<30))=true
 line:(apos.endLine == cpos.line)=true
 trees:backTo cpos (starEach [e,f] X.env)=[(false,eval e X.env),(false,eval f X.env)]
def IsD (H:Hp)(a:Addr):Prop:=(∃ kvs,Rd H a (.dK kvs))\/∃ kvs,Rd H a (.dT kvs)
theorem isD_at {X:Cx}{pins:List (Addr × Obj)}{σ:St}{H:Hp}{s:Shared}{a:Addr}(I:Inv X pins σ H s)(d:IsD H a) :
  s.TypeIs (.ref a) "dict" /\ (∀ b,Value.ref a = .ref b->∃ ob,s.heap.get? b=some ob/\ob.dict=none)/\(a == sysModules)=false:=by
 rcases d with ⟨kvs,e⟩ | ⟨kvs,e⟩
 ·obtain ⟨_,hd,vs,_,dd⟩:=KF I.hok e;refine ⟨dd.typeIs,fun b q=>?_,hd⟩;cases q;obtain ⟨ob,_,_,h1,h2,_⟩:=dd;exact ⟨ob,h1,h2.2.1⟩
 ·obtain ⟨_,hd,xs,_,dd⟩:=Li I.hok e;refine ⟨dd.typeIs,fun b q=>?_,hd⟩;cases q;obtain ⟨ob,_,_,h1,h2,_⟩:=dd;exact ⟨ob,h1,h2.2.1⟩
section
variable {X:Cx}{pins:List (Addr × Obj)}{σ:St}{H:Hp}{s:Shared}{a:Addr}{y d:V}{u r:Value}{o:Option V}{A:Around}{E:Value->Shared->Prop}
theorem d_get2 {Q:Value->Shared->Prop}(hu:A.units+1<cLine)(I:Inv X pins σ H s)(g:DGet H a y o)(ry:RelV y u)(rd:RelV d r)(h:∀ w' s',Inv X pins σ H s'->RelV (o.getD d) w'->Q w' s') :
  wpAny (model X.prog X.w) A (call (.builtin "dict.get") [.ref a,u,r]) Q E s:=by
 rcases g with ⟨kvs,k,e,ey,l⟩ | ⟨kvs,k,b,e,ey,eb,l⟩
 ·subst ey;obtain ⟨z,hd,vs,rel,dd⟩:=KF I.hok e;refine call_meetsIn PySem.F.slot_dict_get dd.typeIs PySem.F.entry_dict_get (PySem.F.args_dict_get_3 _ _ _) (meets_dict_get_default (BN X.prog X.w) a (LB ry) hd r) ⟨_,dd.mapOf,h _ _ (I.tok _) ?_⟩;rw [l];exact (rel.val k).getD rd
 ·subst ey;cases (show u=Value.ref b from ry);obtain ⟨z,hd,xs,rel,dd⟩:=Li I.hok e;refine call_meetsIn PySem.F.slot_dict_get dd.typeIs PySem.F.entry_dict_get (PySem.F.args_dict_get_3 _ _ _) (meetsH_dict_get_default (tupleKind (BN X.prog X.w)) a b hd r) ⟨tupleKind_room_in1 hu,k,xs,Ih I.hok eb,dd,h _ _ (I.tok _) ?_⟩;rw [l];exact (rel.val k).getD rd
end
def QB (td ty tx:TE):TE:=fun σ H Q=>td σ H fun x H1=>∃ a,x = .ref a/\IsD H1 a/\ty σ H1 fun y H2=>tx σ H2 fun z H3=>∃ o,DGet H3 a y o/\Q (o.getD z) H3
section
variable {X:Cx}{o e f:Expr}{apos cpos:Pos}{td ty tx:TE}
theorem OY (hu:X.A.units+1<cLine)(ho:PE X o td)(he:PE X e ty)(hf:PE X f tx)(m:M2 X o "get" apos e f cpos):PE X (.Call (.Attribute o "get" apos) [e,f] [] cpos) (QB td ty tx):=by
 intro pins s σ H Q I h;refine wpAny_Call_method m.base m.few m.line PySem.F.plainAttrs_dict PySem.F.slot_dict_get PySem.F.type_dict_get (thn (ho pins s σ H _ I h) fun u s1 ⟨x,H1,I1,rx,a,ex,d,q1⟩=>?_);subst ex;obtain rfl:u=Value.ref a:=rx;obtain ⟨t1,t2,_⟩:=isD_at I1 d;refine ⟨t1,t2,?_⟩;rw [m.trees]
 refine Calls.callWith_builtin rfl (Calls.evalArgs_plain (Calls.spliced_cons (thn (he pins s1 σ H1 _ I1 q1) fun iv s2 ⟨y,H2,I2,ry,q2⟩ =>
  Calls.spliced_cons (thn (hf pins s2 σ H2 _ I2 q2) fun fv s3 ⟨z,H3,I3,rz,ov,g,q3⟩=>Calls.spliced_nil ?_))))
 exact d_get2 hu I3 g ry rz fun w' s4 I4 rw'=>⟨_,H3,I4,rw',q3⟩
end
theorem L7 (x y:Str):(x++y).length=x.length+y.length:=by
 show (x.cps++y.cps).size=_;rw [Array.size_append]
 rfl
theorem Rb:("" : Str).cps = #[]:=by decide +kernel
theorem Om:∀ (ps:List Str) (acc:Array Nat),(ps.foldl (fun acc p=>acc++("" : Str).cps++p.cps) acc).toList=acc.toList++(ps.map (·.cps.toList)).flatten
 | [],acc=>by simp
 | p::ps,acc=>by
  rw [qdC,Om ps];simp [Rb]
theorem join_cps (ys:List Str):(Txt.join "" ys).cps.toList=(ys.map (·.cps.toList)).flatten:=by
 show ((ys.drop 1).foldl (fun acc p=>acc++("" : Str).cps++p.cps) (ys.headD Str.empty).cps).toList=_;rw [Om]
 cases ys with
 | nil=>rfl
 | cons a r=>simp
theorem Mz:∀ (cs:List Nat),((cs.map fun c=>(⟨#[c]⟩:Str)).map (·.cps.toList)).flatten=cs
 | []=>rfl
 | c::cs=>by
  have:=Mz cs;simp only [qaB,List.flatten_cons];rw [this]
  rfl
theorem Q0 (cs:List Nat):(Txt.join "" (cs.map fun c=>(⟨#[c]⟩:Str))).cps.toList=cs:=by
 rw [join_cps,Mz]
theorem PQ:∀ (cs:List Nat),((cs.map fun c=>(⟨#[c]⟩:Str)).map (·.length)).sum=cs.length
 | []=>rfl
 | c::cs=>by
  have:=PQ cs;simp only [qaB,List.sum_cons,this,qgA];show 1+cs.length=_;omega
def L8 (scope:Scope)(env:Env):List (Str × Addr) :=
 (scope.names.filterMap fun p=>if p.2 == NameKind.free then (env.cells.lookup p.1).map fun c=>(p.1,c) else none).reverse
theorem Fy {env:Env}:∀ (names:List (Str × NameKind)) (acc:List (Str × Addr)),(∀ y∈names,y.2 = .free->∃ c,env.cells.lookup y.1=some c) ->
  (forIn names acc fun (x:Str × NameKind) (cs:List (Str × Addr))=>(match x with
   | (name,kind)=>if (kind == NameKind.free)=true then do
     let c <- cellOf env name
     pure (ForInStep.yield ((name,c)::cs))
    else pure (ForInStep.yield cs):Sem (ForInStep (List (Str × Addr))))) =
   pure ((names.filterMap fun p=>if p.2 == NameKind.free then (env.cells.lookup p.1).map fun c=>(p.1,c) else none).reverse++acc)
 | [],acc,_=>rfl
 | (n,k)::r,acc,h=>by
  rw [List.forIn_cons];by_cases hk:k = .free
  ·subst hk;obtain ⟨c,hc⟩:=h (n,.free) qqA rfl;have e1:cellOf env n=pure c:=by unfold cellOf;rw [hc]
   have ih:=Fy r ((n,c)::acc) fun y hy=>h y (qrA _ hy);simp only [beq_self_eq_true,if_true,e1,pure_bind,List.filterMap_cons,hc,Option.map_some,List.reverse_cons,qcB,List.singleton_append];exact ih
  ·have hb:(k == NameKind.free)=false:=by simpa using hk
   have ih:=Fy r acc fun y hy=>h y (qrA _ hy);simp only [hb,Bool.false_eq_true,if_false,pure_bind,List.filterMap_cons];exact ih
theorem M8 {scope:Scope}{env:Env}(h:∀ y∈scope.names,y.2 = .free->∃ c,env.cells.lookup y.1=some c):closureFor scope env=pure (L8 scope env):=by
 have e:=Fy (env:=env) scope.names [] h;unfold closureFor;rw [qdB] at e;exact (congrArg (· >>= pure) e).trans (by rfl)
theorem clOf_mem {scope:Scope}{env:Env}{y:Str}{c:Addr}(h:(y,c)∈L8 scope env):(y,NameKind.free)∈scope.names/\env.cells.lookup y=some c:=by
 unfold L8 at h;obtain ⟨⟨n,k⟩,hp,e⟩:=List.mem_filterMap.mp (List.mem_reverse.mp h);by_cases hk:k = .free
 ·subst hk;simp only [beq_self_eq_true,if_true] at e
  cases hc:env.cells.lookup n with
  | none=>rw [hc] at e;cases e
  | some c' =>
   rw [hc] at e;have e':(n,c')=(y,c):=qjB e;cases e';exact ⟨hp,hc⟩
 ·have hb:(k == NameKind.free)=false:=by simpa using hk
  simp only [hb,Bool.false_eq_true,if_false] at e;cases e
theorem Fp {scope:Scope}{env:Env}{y:Str}{c:Addr}(h:(L8 scope env).lookup y=some c):env.cells.lookup y=some c:=(clOf_mem (PySem.mem_of_lookup h)).2
theorem Hv {α:Type}{y:Str}:∀ {l:List (Str × α)}{c:α},(y,c)∈l->∃ c',l.lookup y=some c'
 | (n,a)::r,c,h=>by
  by_cases e:y=n
  ·subst e;exact ⟨a,by simp [List.lookup_cons]⟩
  ·have hb:(y == n)=false:=by simpa using e
   rcases qmA.mp h with h|h
   ·cases h;exact absurd rfl e
   ·obtain ⟨c',h'⟩:=Hv h;exact ⟨c',by simp [List.lookup_cons,hb,h']⟩
theorem OO {scope:Scope}{env:Env}{y:Str}{c:Addr}(h1:(y,NameKind.free)∈scope.names)(h2:env.cells.lookup y=some c):(L8 scope env).lookup y=some c:=by
 have m:(y,c)∈L8 scope env:=by
  unfold L8;exact List.mem_reverse.mpr (List.mem_filterMap.mpr ⟨(y,.free),h1,by simp [h2]⟩)
 obtain ⟨c',h'⟩:=Hv m;have:=Fp h';rw [h2] at this;cases this;exact h'
theorem Nc {scope:Scope}{env:Env}(hcell:∀ y∈scope.names,y.2 ≠ .cell){y:Str}(h:(relabel scope env).names.lookup y=some .cell\/(relabel scope env).names.lookup y=some .free):(y,NameKind.free)∈scope.names:=by
 have m:∃ k,(k = .cell\/k = .free)/\(y,k)∈(relabel scope env).names:=by
  rcases h with h|h
  ·exact ⟨_,.inl rfl,PySem.mem_of_lookup h⟩
  ·exact ⟨_,.inr rfl,PySem.mem_of_lookup h⟩
 obtain ⟨k,hk,hm⟩:=m;unfold relabel at hm;obtain ⟨⟨n,k'⟩,hp,e⟩:=qnA.mp hm;dsimp only at e;by_cases hf:k' = .free
 ·subst hf;split at e<;>(cases e;exact hp)
 ·have hb:(k' == NameKind.free)=false:=by simpa using hf
  rw [hb,Bool.false_and,Bool.false_and,if_neg (by decide)] at e;cases e;rcases hk with hk|hk
  ·exact absurd hk (hcell _ hp)
  ·exact absurd hk hf
def Bk (X:Cx)(N:List Str)(scope:Scope)(C:Addr)(s:Shared)(H:Hp)(fp:List Addr):Cx where
 prog:=X.prog
 w:=X.w
 K:=X.K
 mg:=X.mg
 base:=X.base
 A:=X.A
 N:=N
 s₀:=s
 H₀:=H
 env:=compEnvC scope (L8 scope X.env) C X.env
 outer:=X.stack
 stack:=X.stack
 ex:=fp
 fn:=fun _=>false
 calm:=true
 pn:=[]
 xe:=fun _ _=>False
def Caps (X:Cx)(scope:Scope):List Str->List Nat->Prop
 | [],[]=>True
 | x::xs,i::is=>(X.N[i]? = some x/\(X.env.scope.names.lookup x=some .cell\/X.env.scope.names.lookup x=some .free)/\scope.names.lookup x=some .free)/\Caps X scope xs is
 | _,_=>False
theorem Caps.len {X:Cx}{scope:Scope}:∀ {xs:List Str}{is:List Nat},Caps X scope xs is->is.length=xs.length
 | [],[],_=>rfl
 | _::_,_::_,h=>congrArg (· + 1) (Caps.len h.2)
 | [],_::_,h=>h.elim
 | _::_,[],h=>h.elim
theorem Caps.at {X:Cx}{scope:Scope}:∀ {xs:List Str}{is:List Nat}{j:Nat}{x:Str},Caps X scope xs is->xs[j]? = some x->∃ i,is[j]? = some i/\X.N[i]? = some x/\(X.env.scope.names.lookup x=some .cell\/X.env.scope.names.lookup x=some .free)/\scope.names.lookup x=some .free
 | [],[],_,_,_,e=>by simp at e
 | y::_,i::_,0,x,h,e=>by
  simp at e;subst e;exact ⟨i,rfl,h.1⟩
 | _::xs,_::is,j+1,x,h,e=>by
  obtain ⟨i,h1,h2⟩:=Caps.at (j:=j) h.2 (by simpa using e);exact ⟨i,by simpa using h1,h2⟩
 | [],_::_,_,_,h,_=>h.elim
 | _::_,[],_,_,h,_=>h.elim
def OT (cap:List Nat)(σ:St):St:=none::cap.map fun i=>(σ[i]?).join
def PTs (X:Cx)(ifs:List Expr)(t:TT):Prop :=
 ∀ (pins:List (Addr × Obj)) (s:Shared) (σ:St) (H:Hp) (Q:Bool->Hp->Prop),Inv X pins σ H s->t σ H Q ->
  wpAny (model X.prog X.w) X.A (forIn ifs true fun c r=>if r=true then do let ok <- isTrue c X.env (eval c X.env);pure (ForInStep.yield ok) else pure (ForInStep.yield r)) (TP X pins σ Q) X.xe s
def MG:TT:=fun _ H Q=>Q true H
theorem Bd {X:Cx}:PTs X [] MG:=fun _ _ _ H _ I h=>wpAny_tests_nil ⟨H,I,h⟩
theorem Iz {X:Cx}{c:Expr}{t:TT}(h:PT X c t):PTs X [c] t:=fun pins s σ H Q I q=>wpAny_tests_one (h pins s σ H Q I q)
theorem NG {prog:Program}{w:World}{A:Around}{R:Result->Shared->Prop}{s:Shared}{elt target iter:Expr}{ifs:List Expr}{scope:Scope}{pos:Pos}{it acc:Value}{env:Env}(I:Nat->Shared->Prop)
  (turn:∀ n s,I n s->wpAny (model prog w) A (pyNext it) (fun r s₁=>match r with
   | none=>R (.ok .next) s₁
   | some v=>wpAny (model prog w) A (letOwnedTupleGo target it v) (fun _ s₁'=>wpAny (model prog w) A (assign target env v) (fun _ s₂ =>
     wpAny (model prog w) A (forIn ifs true fun c r=>if r=true then do let ok <- isTrue c env (eval c env);pure (ForInStep.yield ok) else pure (ForInStep.yield r)) (fun ok s₃ =>
      if ok=true then wpAny (model prog w) A (eval elt env) (fun x s₄ =>
       wpAny (model prog w) A (call (.builtin "list.append") [acc,x]) (fun _ s₅=>∃ m,m<n/\I m s₅) (fun _ _=>False) s₄) (fun _ _=>False) s₃
      else ∃ m,m<n/\I m s₃) (fun _ _=>False) s₂) (fun _ _=>False) s₁') (fun _ _=>False) s₁) (fun _ _=>False) s)
  (n:Nat) (h:I n s) :
  codeAny (model prog w) A (.compLoop (.ListComp elt [⟨target,iter,ifs,0⟩] scope pos) 0 it acc env) R s:=by
 refine codeAny_loop rfl I (fun n s hI=>?_) n h;show wpAny _ A ((compTurn (.ListComp elt [⟨target,iter,ifs,0⟩] scope pos) 0 it acc env).onRaise (fun x=>do noteFrame x env;theTreesLotGoes x)) _ _ s;refine wpAny_noted ?_;rw [compTurn_list];refine qbA (wpAny_standAt (qbA (wpAny_mono (turn n s hI) (fun r s₁ h₁=>?_) fun _ _ h'=>h'.elim)))
 cases r with
 | none=>exact qcA h₁
 | some v =>
  refine qbA (wpAny_mono h₁ (fun _ s₁' h₁'=>?_) fun _ _ h'=>h'.elim);refine qbA (wpAny_mono h₁' (fun _ s₂ h₂=>qbA (wpAny_mono h₂ (fun ok s₃ h₃=>?_) fun _ _ h'=>h'.elim)) fun _ _ h'=>h'.elim)
  cases ok with
  | false=>exact qcA ⟨rfl,h₃⟩
  | true =>
   exact qbA (qbA (wpAny_mono h₃ (fun x s₄ h₄=>qbA (wpAny_mono h₄ (fun _ s₅ h₅=>qcA (qcA ⟨rfl,h₅⟩)) fun _ _ h'=>h'.elim)) fun _ _ h'=>h'.elim))
def Me (cap:List Nat)(wi:TI)(tc:TT)(te:TE):TE:=fun σ H Q=>wi σ H fun J H1=>∀ p,H1 p=none ->
 ∃ W:Nat->Nat->List V->Hp->Prop,(∃ m,W 0 m [] (upd H1 p (.lst [])))/\∀ i m xs H2,W i m xs H2 ->
  (J.stop i H2/\Q (.ref p) H2)\/(J.go i H2/\∃ N:List V->Hp->Prop,(∀ xs' H',N xs' H'->∃ m',m'<m/\W (i+1) m' xs' H') /\
   ∀ x H3,J.yld i H2 x H3->tc ((OT cap σ).set 0 (some x)) H3 fun b H5=>if b=true then te ((OT cap σ).set 0 (some x)) H5 fun v H6=>H6 p=some (.lst xs)/\xs.length<sizeLine/\N (xs++[v]) (upd H6 p (.lst (xs++[v]))) else N xs H5)
section
variable {X:Cx}{pins:List (Addr × Obj)}{σ:St}
structure CompScope (X:Cx)(scope:Scope):Prop where
 cell:∀ y∈scope.names,y.2 ≠ .cell
 kind:scope.kind = .function
 names:∀ y∈scope.names,y.2 = .local -> scope.names.lookup y.1=some .local
 free:∀ y∈scope.names,y.2 = .free->X.env.scope.names.lookup y.1=some .cell\/X.env.scope.names.lookup y.1=some .free
theorem CompScope.clos {scope:Scope}{H:Hp}{s:Shared}(S:CompScope X scope)(I:Inv X pins σ H s):closureFor scope X.env=pure (L8 scope X.env) :=
 M8 fun y hy hf=>I.ok.has y.1 (S.free y hy hf)
theorem PZ {scope:Scope}{N:List Str}{C:Addr}{s3 s':Shared}{H2 H3 Hf:Hp}{fp:List Addr}{pins':List (Addr × Obj)}{σ':St}(I:Inv X pins σ H3 s3)(J:Inv (Bk X N scope C s3 H3 fp) pins' σ' Hf s')(f2:∀ b∈fp,IM X pins H2 b):Inv X pins σ Hf s' :=
 I.call' (ch:=fp) J.os J.base J.hok J.bare fun b hb=>⟨(f2 b hb).2.2.2.1,(f2 b hb).2.1,(f2 b hb).2.2.2.2.1,(f2 b hb).2.2.2.2.2⟩
end
def D4 (n:Nat)(cap:List Nat)(σ:St):St:=List.replicate n none++cap.map fun i=>(σ[i]?).join
def GAt (n:Nat)(g:TG):Prop:=∀ v σ H Q,g v σ H Q->g v σ H fun σ2 H2=>(σ2.length=σ.length/\∀ j,n<=j->σ2[j]? = σ[j]?)/\Q σ2 H2
def Lp (g:TG)(n:Nat)(cap:List Nat)(wi:TI)(tc:TT)(te:TE):TE:=fun σ H Q=>wi σ H fun J H1=>∀ p,H1 p=none ->
 ∃ W:Nat->Nat->List V->Hp->Prop,(∃ m,W 0 m [] (upd H1 p (.lst [])))/\∀ i m xs H2,W i m xs H2 ->
  (J.stop i H2/\Q (.ref p) H2)\/(J.go i H2/\∃ N:List V->Hp->Prop,(∀ xs' H',N xs' H'->∃ m',m'<m/\W (i+1) m' xs' H') /\
   ∀ x H3,J.yld i H2 x H3->g x (D4 n cap σ) H3 fun σ2 H4=>tc σ2 H4 fun b H5=>if b=true then te σ2 H5 fun v H6=>H6 p=some (.lst xs)/\xs.length<sizeLine/\N (xs++[v]) (upd H6 p (.lst (xs++[v]))) else N xs H5)
section
variable {X:Cx}{pins:List (Addr × Obj)}{σ:St}
theorem P3 {scope:Scope}{xn:List Str}{cn:List Str}{cap:List Nat}{s3:Shared}{H3:Hp}{fp:List Addr}{h₁:Heap}{tk:Nat}{H2:Hp}(S:CompScope X scope)(I:Inv X pins σ H3 s3)(hc:X.calm=true)(hcap:Caps X scope cn cap)
  (f2:∀ b∈fp,IM X pins H2 b) (lt:∀ b∈fp,b<s3.heap.objs.size) (keep:∀ b o,s3.heap.get? b=some o->h₁.get? b=some o) (hns:h₁.Ns s3.heap.objs.size fun _=>none) :
  Inv (Bk X (xn++cn) scope s3.heap.objs.size s3 H3 fp) [] (D4 xn.length cap σ) H3 { s3 with heap:=h₁,toks:=tk }:=by
 have noS:∀ b o,X.base.get? b=some o->b<X.s₀.heap.objs.size:=fun b o e=>qzB (qkB e) I.ok.bsz
 refine ⟨⟨I.ok.mod,S.kind,I.ok.glob,I.ok.blt,qfB _,fun y z c h1 h2=>I.ok.inj y z c (Fp h1) (Fp h2),fun y hy=>?_,fun y c h=>?_,fun _=>I.ok.hd hc,I.ok.frames,.inl rfl,fun b hb=>⟨qyB (lt b hb),fun y c h=>(f2 b hb).2.2.2.2.1 y c (Fp h)⟩,
  I.bs,qgB I.ok.bsz I.sz,fun b o e hb=>?_,fun b hb z=>?_,I.stack,I.stkFree⟩,rfl,I.bare,Un.kept keep,⟨_,hns,fun i y v e1 e2 e3=>?_⟩,fun y c e=>?_,I.hok.fresh (qfB _),fun y c e=>I.freeC y c (Fp e),fun p hp=>absurd (show p∈([]:List (Addr × Obj)) from hp) (by simp),I.hok.kept keep,?_⟩
 ·have m:=Nc S.cell hy;obtain ⟨c,hc'⟩:=I.ok.has y (S.free _ m rfl);exact ⟨c,OO m hc'⟩
 ·cases h
 ·rcases (f2 b hb).2.2.2.1 with z|z
  ·exact I.ok.noex b o e z
  ·exact absurd (qzB (noS b o e) z) (qhB _)
 ·rcases qmA.mp (I.stkSub b z) with e|e
  ·exact (f2 b hb).2.1 e
  ·exact (f2 b hb).2.2.1 e
 ·by_cases hi:i<xn.length
  ·exfalso;unfold D4 at e2;rw [qwA (by rw [List.length_replicate];exact hi),List.getElem?_replicate,if_pos hi] at e2;cases e2
  ·obtain ⟨j,rfl⟩:∃ j,i=xn.length+j:=⟨i - xn.length,by omega⟩;have e1:(xn++cn)[xn.length+j]? = some y:=e1;rw [qxA (by omega),Nat.add_sub_cancel_left] at e1;have e2:(D4 xn.length cap σ)[xn.length+j]? = some (some v):=e2;unfold D4 at e2;rw [qxA (by rw [List.length_replicate];omega),List.length_replicate,Nat.add_sub_cancel_left] at e2;have e1:cn[j]? = some y:=e1;obtain ⟨k,hk,hN,hkind,hfr⟩:=hcap.at e1;have e2:(cap.map fun i=>(σ[i]?).join)[j]? = some (some v):=e2;rw [qzA,hk] at e2;have e2:(σ[k]?).join=some v:=qjB e2
   have e2:σ[k]? = some (some v):=by
    cases q:σ[k]? with
    | none=>rw [q] at e2;cases e2
    | some o=>rw [q] at e2;cases o with
     | none=>cases e2
     | some v'=>have e2:some v'=some v:=e2;rw [e2]
   obtain ⟨m,hn,hl⟩:=I.loc;obtain ⟨u,r,l⟩:=hl k y v hN e2 (.inr hkind);refine ⟨u,r,?_⟩;rcases l with ⟨kl,_⟩ | ⟨_,c,hc',o,ho,hd⟩
   ·have kl:X.env.scope.names.lookup y=some .local := kl;rw [kl] at hkind;rcases hkind with z|z<;>cases z
   ·refine .inr ⟨?_,c,OO (PySem.mem_of_lookup hfr) hc',o,keep c o ho,hd⟩;rcases e3 with z|z
    ·
     exfalso;have z:(relabel scope X.env).names.lookup y=some .local := z;have hm:=PySem.mem_of_lookup z;unfold relabel at hm;obtain ⟨⟨n,k'⟩,hp,e⟩:=qnA.mp hm;dsimp only at e
     have hl2:(y,NameKind.local)∈scope.names:=by
      split at e
      ·cases e
      ·cases e;exact hp
     have:=S.names _ hl2 rfl;rw [hfr] at this;cases this
    ·exact z
 ·obtain ⟨v,o,ho,hd⟩:=I.cell y c (Fp e);exact ⟨v,o,keep c o ho,hd⟩
 ·show (D4 xn.length cap σ).length=(xn++cn).length;unfold D4;rw [qfA,qfA,List.length_replicate,qeA,hcap.len]
theorem M4 {scope:Scope}{xn:List Str}{pos:Pos}{tg:Expr}{g:TG}{elt iter:Expr}{ifs:List Expr}{cn:List Str}{cap:List Nat}{s2:Shared}{H2:Hp}{it:Addr}{fp:List Addr}{tn:Nat->Heap->Prop}{J:It}{tc:TT}{te:TE}{Q:VK}{RR:Value->Addr->Result->Shared->Prop}{E:Value->Shared->Prop}
  (S:CompScope X scope) (I2:Inv X pins σ H2 s2) (hc:X.calm=true) (hcap:Caps X scope cn cap) (gat:GAt xn.length g) (hg:∀ (C:Addr) (s:Shared) (H:Hp) (fp:List Addr),PG (Bk X (xn++cn) scope C s H fp) tg g) (hnd:(xn++cn).Nodup)
  (T:Turn X.prog X.w X.K tg J fp it tn) (st2:tn 0 s2.heap) (f2:∀ b∈fp,IM X pins H2 b)
  (body:∀ (C:Addr) (s:Shared) (H:Hp) (fp:List Addr),PTs (Bk X (xn++cn) scope C s H fp) ifs tc/\PE (Bk X (xn++cn) scope C s H fp) elt te)
  (q:∀ p,H2 p=none->∃ W:Nat->Nat->List V->Hp->Prop,(∃ m,W 0 m [] (upd H2 p (.lst [])))/\∀ i m xs H3,W i m xs H3 ->
   (J.stop i H3/\Q (.ref p) H3)\/(J.go i H3/\∃ N:List V->Hp->Prop,(∀ xs' H',N xs' H'->∃ m',m'<m/\W (i+1) m' xs' H') /\
    ∀ v H4,J.yld i H3 v H4->g v (D4 xn.length cap σ) H4 fun σ2 H4=>tc σ2 H4 fun b H5=>if b=true then te σ2 H5 fun v H6=>H6 p=some (.lst xs)/\xs.length<sizeLine/\N (xs++[v]) (upd H6 p (.lst (xs++[v]))) else N xs H5))
  (hRR:∀ (p C:Addr) (s3 s':Shared) (H3 Hf:Hp) (σ':St),Inv X pins σ H3 s3->s3.heap.objs.size=C->Inv (Bk X (xn++cn) scope C s3 H3 fp) [] σ' Hf s'->Q (.ref p) Hf->RR (.ref p) C (.ok .next) s') :
  wpAny (model X.prog X.w) X.A (newList []) (fun acc s₃=>wpAny (model X.prog X.w) X.A (newFunctionEnv scope X.env.globals (L8 scope X.env) [] X.env.qual none .none (some X.env)) (fun cenv s₄ =>
   codeAny (model X.prog X.w) X.A (.compStart (.ListComp elt [⟨tg,iter,ifs,0⟩] scope pos) 0 (.ref it) acc { cenv with scope:=relabel scope X.env }) (RR acc cenv.locals) s₄) E s₃) E s2:=by
 refine wpAny_newObj_type (wpAny_newFunctionEnv S.cell (by intro y hy;simp at hy) (fun h₁ hns₁ hsb₁=>?_) S.kind);dsimp only at hns₁ hsb₁ ⊢;have hfr:H2 s2.heap.objs.size=none:=I2.hok.fresh (qfB _);obtain ⟨W,⟨m0,w0⟩,turn⟩:=q _ hfr
 have I3:Inv X pins σ (upd H2 s2.heap.objs.size (.lst [])) { s2 with heap:=s2.heap.push { cls:=.type "list",data:=.seq ([]:List Value).toArray } } :=
  I2.lnew (its:=[]) (t':=s2.toks) .nil (qeC _)
 generalize hs3:({ s2 with heap:=s2.heap.push { cls:=.type "list",data:=.seq ([]:List Value).toArray } }:Shared)=s3 at I3;have hs3h:s3.heap=s2.heap.push { cls:=.type "list",data:=.seq ([]:List Value).toArray }:=by rw [<- hs3]
 have hst3:tn 0 s3.heap:=T.keep _ _ _ st2 fun b hb o e=>by rw [hs3h];exact qmB _ e
 have ltf:∀ b∈fp,b<s3.heap.objs.size:=fun b hb=>by
  obtain ⟨o,e,_⟩:=T.obj _ _ hst3 b hb;exact qkB e
 have hC:(s2.heap.push { cls:=.type "list",dict:=none,data:=.seq ([]:List Value).toArray }).objs.size=s3.heap.objs.size:=by rw [hs3h]
 rw [hC] at hns₁ hsb₁ ⊢
 have keep:∀ b o,s3.heap.get? b=some o->h₁.get? b=some o:=fun b o e=>by
  refine hsb₁.extBut b o (qyB (qkB e)) (qmB _ ?_);rw [hs3h] at e;exact e
 have J4:Inv (Bk X (xn++cn) scope s3.heap.objs.size s3 (upd H2 s2.heap.objs.size (.lst [])) fp) [] (D4 xn.length cap σ) (upd H2 s2.heap.objs.size (.lst [])) { s3 with heap:=h₁,toks:=s2.toks+([]:List (Str × Value)).length } :=
  P3 S I3 hc hcap f2 ltf keep hns₁
 have st4:tn 0 h₁:=T.keep _ _ _ hst3 fun b hb o e=>keep b o e
 have fr4:∀ b∈fp,(upd H2 s2.heap.objs.size (.lst [])) b=none:=fun b hb=>by
  obtain ⟨o,e,_⟩:=T.obj _ _ st2 b hb;rw [At (qyB (qkB e))];exact (f2 b hb).1
 have hst:({ s2 with heap:=h₁,toks:=s2.toks+([]:List (Str × Value)).length }:Shared) = { s3 with heap:=h₁,toks:=s2.toks+([]:List (Str × Value)).length }:=by rw [<- hs3]
 have loop:codeAny (model X.prog X.w) X.A (.compLoop (.ListComp elt [⟨tg,iter,ifs,0⟩] scope pos) 0 (.ref it) (.ref s2.heap.objs.size) (compEnvC scope (L8 scope X.env) s3.heap.objs.size X.env))
   (RR (.ref s2.heap.objs.size) s3.heap.objs.size) { s2 with heap:=h₁,toks:=s2.toks+([]:List (Str × Value)).length }:=by
  rw [hst];generalize hX':Bk X (xn++cn) scope s3.heap.objs.size s3 (upd H2 s2.heap.objs.size (.lst [])) fp=X' at J4
  have hfpk:∀ {Hc:Hp},(∀ b∈fp,Hc b=none)->∀ b∈fp,IM X' [] Hc b:=fun {Hc} hn b hb=>by
   subst hX';refine ⟨hn b hb,(J4.ok.exf b hb).1,J4.ok.exfs b hb,.inl hb,(J4.ok.exf b hb).2,fun p hp=>absurd (show p∈([]:List (Addr × Obj)) from hp) (by simp)⟩
  refine NG (fun n s'=>∃ i xs Hc,Inv X' [] (D4 xn.length cap σ) Hc s'/\tn i s'.heap/\(∀ b∈fp,Hc b=none)/\W i n xs Hc) ?_ m0 ⟨0,[],_,J4,st4,fr4,w0⟩;rintro n s5 ⟨i,xs,Hc,I5,st5,fr5,w5⟩;have B:=body s3.heap.objs.size s3 (upd H2 s2.heap.objs.size (.lst [])) fp;rcases turn i n xs Hc w5 with ⟨stop,qn⟩ | ⟨go,N,hN,step⟩
  ·subst hX';refine thn (T.done (Bk X (xn++cn) scope s3.heap.objs.size s3 (upd H2 s2.heap.objs.size (.lst [])) fp) rfl rfl rfl rfl i [] s5 (D4 xn.length cap σ) Hc (fun _ _=>False) I5 (hfpk fr5) st5 stop) fun r s6 ⟨hr,I6⟩=>?_;subst hr;exact hRR _ _ s3 s6 _ Hc _ I3 rfl I6 qn
  ·subst hX';refine thn (T.item (Bk X (xn++cn) scope s3.heap.objs.size s3 (upd H2 s2.heap.objs.size (.lst [])) fp) rfl rfl rfl rfl i [] s5 (D4 xn.length cap σ) Hc (fun _ _=>False) I5 (hfpk fr5) st5 go) fun r s6 ⟨u,hr,h6⟩=>?_;subst hr;refine thn h6 fun _ s7 ⟨v,H7,I7,r7,y7,st7,fr7⟩=>?_;have I7':=I7.pinned (hfpk fr7) (T.obj _ _ st7);have hg:=hg s3.heap.objs.size s3 (upd H2 s2.heap.objs.size (.lst [])) fp;refine thn (hg _ s7 _ H7 v u _ I7' r7 (gat v (D4 xn.length cap σ) H7 _ (step v H7 y7))) fun _ s8 ⟨σ8,H8,I8,e8,q8⟩=>?_
   have again:∀ {s9:Shared}{H9:Hp}{ys:List V},Inv (Bk X (xn++cn) scope s3.heap.objs.size s3 (upd H2 s2.heap.objs.size (.lst [])) fp) ([]++M3 fp s7.heap) σ8 H9 s9->N ys H9 ->
     ∃ m,m<n/\∃ i xs Hc,Inv (Bk X (xn++cn) scope s3.heap.objs.size s3 (upd H2 s2.heap.objs.size (.lst [])) fp) [] (D4 xn.length cap σ) Hc s9/\tn i s9.heap/\(∀ b∈fp,Hc b=none)/\W i m xs Hc:=fun {s9 H9 ys} I9 n9=>by
    obtain ⟨m',hm,w9⟩:=hN ys H9 n9;refine ⟨m',hm,i+1,ys,H9,(I9.unpinned (pins:=[])).weak e8.1.symm (fun j w e=>?_),T.keep _ _ _ st7 fun b hb o e=>(I9.pin (b,o) (qaC _ (qaC _ (GB hb e)))).1,fun b hb=>?_,w9⟩
    ·by_cases hj:j<xn.length
     ·exfalso;unfold D4 at e;rw [qwA (by rw [List.length_replicate];exact hj),List.getElem?_replicate,if_pos hj] at e;cases e
     ·rw [e8.2 j (by omega)];exact e
    ·obtain ⟨o,e,_⟩:=T.obj _ _ st7 b hb;exact (I9.pin (b,o) (qaC _ (qaC _ (GB hb e)))).2.1
   refine thn (B.1 _ s8 _ H8 _ I8 q8) fun ok s9 ⟨H9,I9,q9⟩=>?_
   cases ok with
   | false =>
    rw [if_neg quB] at q9 ⊢;exact again I9 q9
   | true =>
    rw [if_pos rfl] at q9 ⊢;refine thn (B.2 _ s9 _ H9 _ I9 q9) fun uy s10 ⟨y,H10,I10,r10,hp,hl,n10⟩=>?_;refine thn (Mb _ s10 _ H10 (.ref s2.heap.objs.size) [y] (.ref s2.heap.objs.size) [uy] (fun _ H11=>N (xs++[y]) H11) I10 rfl (.cons r10 .nil) ⟨_,xs,y,rfl,rfl,hp,hl,n10⟩) fun _ s11 ⟨_,H11,I11,_,n11⟩=>?_;exact again I11 n11
 exact codeAny_compStart_list loop (T.self _ _ _ _ _ st4 loop)
theorem PF {scope:Scope}{xn:List Str}{pos:Pos}{tg:Expr}{g:TG}{elt iter:Expr}{ifs:List Expr}{cn:List Str}{cap:List Nat}{wi:TI}{tc:TT}{te:TE}
  (hc:X.calm=true) (S:CompScope X scope) (gat:GAt xn.length g) (hg:∀ (C:Addr) (s:Shared) (H:Hp) (fp:List Addr),PG (Bk X (xn++cn) scope C s H fp) tg g) (hnd:(xn++cn).Nodup) (hcap:Caps X scope cn cap) (hi:PI X tg iter wi)
  (body:∀ (C:Addr) (s:Shared) (H:Hp) (fp:List Addr),PTs (Bk X (xn++cn) scope C s H fp) ifs tc/\PE (Bk X (xn++cn) scope C s H fp) elt te)
  (hs:∀ x,foldedSetIterable iter X.env x=pure x:=by intro _;rfl):PE X (.ListComp elt [⟨tg,iter,ifs,0⟩] scope pos) (Lp g xn.length cap wi tc te):=by
 intro pins s σ H Q I h;rw [eval_ListComp];refine wpAny_comprehension_free (use:=none) rfl hs (S.clos I) S.kind S.names (thn (hi pins s σ H _ I h) fun xv s1 h1=>thn h1 fun itv s2 h2=>?_);obtain ⟨it,fp,tn,J,H2,e,I2,T,st2,f2,q⟩:=h2;subst e;refine M4 (RR:=fun acc C=>compPost (model X.prog X.w) X.A X.xe none (EP X pins σ Q) acc C) S I2 hc hcap gat hg hnd T st2 f2 body q ?_;intro p C s3 s' H3 Hf σ' I3 hC J' qf;subst hC;have I4:=PZ I3 J' f2;obtain ⟨m,hn,_⟩:=J'.loc;refine ⟨m,hn,fun h' hs'=>?_⟩;refine ⟨.ref p,Hf,?_,rfl,qf⟩;have f:=I3.fpOk (H':=Hf) (qfB _) J'.free;exact I4.turned (t':=s'.toks) (it:=s3.heap.objs.size) (fun b o hb e=>(hs'.2 b hb).trans e) f.1 f.2.1 f.2.2.2.1 f.2.2.2.2.1 f.2.2.2.2.2
theorem KO {scope:Scope}{xn:List Str}{y:Str}{py pos spos:Pos}{tg:Expr}{g:TG}{elt iter:Expr}{ifs:List Expr}{cn:List Str}{cap:List Nat}{wi:TI}{tc:TT}{te:TE}{i:Nat}
  (hN:X.N.Nodup) (hi:X.N[i]? = some y) (hy:Loc X.env.scope y) (hc:X.calm=true) (S:CompScope X scope) (gat:GAt xn.length g) (hg:∀ (C:Addr) (s:Shared) (H:Hp) (fp:List Addr),PG (Bk X (xn++cn) scope C s H fp) tg g) (hnd:(xn++cn).Nodup) (hcap:Caps X scope cn cap) (hit:PI X tg iter wi)
  (body:∀ (C:Addr) (s:Shared) (H:Hp) (fp:List Addr),PTs (Bk X (xn++cn) scope C s H fp) ifs tc/\PE (Bk X (xn++cn) scope C s H fp) elt te)
  (hsw:swapsWith (.ListComp elt [⟨tg,iter,ifs,0⟩] scope pos) (some (.Name y py)) spos.line X.env=pure true:=by rfl)
  (hf:X.fn y=true\/X.env.scope.names.lookup y=some .local := by first|exact .inl rfl|exact .inr rfl|assumption)
  (hs:∀ x,foldedSetIterable iter X.env x=pure x:=by intro _;rfl):PS X (.Assign [.Name y py] (.ListComp elt [⟨tg,iter,ifs,0⟩] scope pos) spos) (Fv (Lp g xn.length cap wi tc te) (CB i)):=by
 intro pins s σ H D I h;rw [exec_Assign_Name_used _ _ _ _ hsw];refine qbA (wpAny_standAt (qbA ?_));show wpAny _ X.A (do let _ <- comprehension (.ListComp elt [⟨tg,iter,ifs,0⟩] scope pos) scope X.env _ (newList []) false (eval iter X.env) (some (assign (.Name y py) X.env))) _ _ s
 refine qbA (wpAny_mono (wpAny_comprehension_free (use:=some (assign (.Name y py) X.env)) (Q:=fun _ s'=>SP X pins D .next s') rfl hs (S.clos I) S.kind S.names
  (thn (hit pins s σ H _ I h) fun xv s1 h1=>thn h1 fun itv s2 h2=>?_)) (fun _ s' hq=>qcA (qcA hq)) fun _ _ e=>e)
 obtain ⟨it,fp,tn,J,H2,e,I2,T,st2,f2,q⟩:=h2;subst e;refine M4 (Q:=fun v H1=>CB i v σ H1 D.nx) (RR:=fun acc C=>compPost (model X.prog X.w) X.A X.xe (some (assign (.Name y py) X.env)) (fun _ s'=>SP X pins D .next s') acc C) S I2 hc hcap gat hg hnd T st2 f2 body q ?_;intro p C s3 s' H3 Hf σ' I3 hC J' qf;subst hC;have I4:=PZ I3 J' f2;obtain ⟨m,hn,_⟩:=J'.loc;have f:=I3.fpOk (H':=Hf) (qfB _) J'.free;show wpAny _ X.A (assign (.Name y py) X.env (.ref p)) _ _ _;refine wpAny_assign_Name (MN (v:=V.ref p) I4 hN hi hy rfl (fun s'' I5 ch=>?_) hf);obtain ⟨a,hsb,ha⟩:=ch
 have hCa:s3.heap.objs.size≠a:=by
  rcases ha with rfl|ha
  ·exact f.2.1
  ·exact fun z=>f.2.2.2.2.1 y a ha z.symm
 refine ⟨m,hn.sameBut hsb hCa,fun h' hs'=>?_⟩;exact ⟨_,Hf,I5.turned (t':=s''.toks) (it:=s3.heap.objs.size) (fun b o hb e=>(hs'.2 b hb).trans e) f.1 f.2.1 f.2.2.2.1 f.2.2.2.2.1 f.2.2.2.2.2,qf⟩
end
section
variable {X:Cx}{pins:List (Addr × Obj)}{σ:St}
theorem gat1:GAt 1 (CB 0):=fun v σ H Q h=>⟨⟨List.length_set,fun j hj=>List.getElem?_set_ne (by omega)⟩,h⟩
theorem D7 {scope:Scope}{x:Str}{px pos:Pos}{elt iter:Expr}{ifs:List Expr}{cn:List Str}{cap:List Nat}{wi:TI}{tc:TT}{te:TE}
  (hc:X.calm=true) (S:CompScope X scope) (hx:scope.names.lookup x=some .local) (hnd:(x::cn).Nodup) (hcap:Caps X scope cn cap) (hi:PI X (.Name x px) iter wi)
  (body:∀ (C:Addr) (s:Shared) (H:Hp) (fp:List Addr),PTs (Bk X (x::cn) scope C s H fp) ifs tc/\PE (Bk X (x::cn) scope C s H fp) elt te)
  (hs:∀ x,foldedSetIterable iter X.env x=pure x:=by intro _;rfl):PE X (.ListComp elt [⟨.Name x px,iter,ifs,0⟩] scope pos) (Me cap wi tc te):=by
 have h:=PF (xn:=[x]) (tg:=.Name x px) (g:=CB 0) (pos:=pos) (elt:=elt) hc S gat1 (fun C s H fp=>FT (i:=0) hnd rfl (.inl (lookup_relabel_local hx)) (.inr (lookup_relabel_local hx))) hnd hcap hi body hs;exact h
theorem C2 {scope:Scope}{x y:Str}{px py pos spos:Pos}{elt iter:Expr}{ifs:List Expr}{cn:List Str}{cap:List Nat}{wi:TI}{tc:TT}{te:TE}{i:Nat}
  (hN:X.N.Nodup) (hi:X.N[i]? = some y) (hy:Loc X.env.scope y) (hc:X.calm=true) (S:CompScope X scope) (hx:scope.names.lookup x=some .local) (hnd:(x::cn).Nodup) (hcap:Caps X scope cn cap) (hit:PI X (.Name x px) iter wi)
  (body:∀ (C:Addr) (s:Shared) (H:Hp) (fp:List Addr),PTs (Bk X (x::cn) scope C s H fp) ifs tc/\PE (Bk X (x::cn) scope C s H fp) elt te)
  (hsw:swapsWith (.ListComp elt [⟨.Name x px,iter,ifs,0⟩] scope pos) (some (.Name y py)) spos.line X.env=pure true:=by rfl)
  (hf:X.fn y=true\/X.env.scope.names.lookup y=some .local := by first|exact .inl rfl|exact .inr rfl|assumption)
  (hs:∀ x,foldedSetIterable iter X.env x=pure x:=by intro _;rfl):PS X (.Assign [.Name y py] (.ListComp elt [⟨.Name x px,iter,ifs,0⟩] scope pos) spos) (Fv (Me cap wi tc te) (CB i)):=by
 have h:=KO (xn:=[x]) (tg:=.Name x px) (g:=CB 0) (pos:=pos) (spos:=spos) (py:=py) (elt:=elt) hN hi hy hc S gat1 (fun C s H fp=>FT (i:=0) hnd rfl (.inl (lookup_relabel_local hx)) (.inr (lookup_relabel_local hx))) hnd hcap hit body hsw hf hs;exact h
end
theorem bt_len:bootBuiltins "len" = some (.builtin "len"):=by decide +kernel
theorem CT:bootBuiltins "isinstance" = some (.builtin "isinstance"):=by decide +kernel
theorem Rv:bootBuiltins "sorted" = some (.builtin "sorted"):=by decide +kernel
theorem GT:bootBuiltins "list" = some (.type "list"):=by decide +kernel
theorem LE:bootBuiltins "tuple" = some (.type "tuple"):=by decide +kernel
theorem bt_int:bootBuiltins "int" = some (.type "int"):=by decide +kernel
theorem bt_bool:bootBuiltins "bool" = some (.type "bool"):=by decide +kernel
theorem Gw:bootBuiltins "set" = some (.type "set"):=by decide +kernel
def kitC (T c:String):Option Bool:=if (T == c)=true then some true else if PySem.W.kitMeta c=true then (fastBuiltinMro T).map (·.contains (.type c)) else none
theorem kit_of {K:FZ9}{T c:String}{b:Bool}(h:kitC T c=some b):PySem.W.kitOne K (.type T) (.type c)=some b:=by
 unfold kitC at h;unfold PySem.W.kitOne;by_cases e:T=c
 ·subst e;rw [if_pos (by simp)] at h;rw [if_pos (by simp)];exact h
 ·rw [if_neg (by simpa using e)] at h;rw [if_neg (by intro z;exact e (by simpa using z))];exact h
structure DefOk (P:Program)(w:World)(K:FZ9)(mg:Str->Option Value)(base:Heap)(x:Str)(k:Nat)(ps:List Str)(sp:Sp):Prop where
 ex:∃ f fd,FnOk P w K mg base CX0 k f fd ps sp/\mg x=some (.ref f)/\PySem.W.keepIn K (.ref f)=true/\Binds K fd ps []
section
variable {X:Cx}{x:Str}{k j:Nat}{ps:List Str}{sp:Sp}{e:Expr}{es:List Expr}{t:TA}{p pos:Pos}
theorem AX (F:DefOk X.prog X.w X.K X.mg X.base x k ps sp)(hr:Room j X.A)(hj:k<=j)(hg:Gl X x)(ha:PA X (e::es) t)(hdb:(x == ("__debug__" : Str))=false:=by decide)
  (he:starEach (e::es) X.env=(false,eval e X.env)::starEach es X.env:=by rfl) (hpl:(backTo pos (starEach es X.env)).any (·.1)=false:=by rfl) :
  PE X (.Call (.Name x p) (e::es) [] pos) (KR sp [] E0 t):=by
 obtain ⟨f,fd,G,m,kp,b⟩:=F.ex;exact pe_call G (hr.mono hj) hg m kp b .nil pass0 ha hdb he hpl
end
theorem def_of {P:Program}{w:World}{K:FZ9}{mg:Str->Option Value}{base:Heap}{x:Str}{st:Stmt}{f:Addr}{fd:FuncData}{k:Nat}{ps:List Str}{sp:Sp}(F:Fun K x x st f fd)(m:mg x=some (.ref f))(b:Binds K fd ps [])(G:FnOk P w K mg base CX0 k f fd ps sp):DefOk P w K mg base x k ps sp :=
 ⟨f,fd,G,m,F.kp,b⟩
theorem BF {X:Cx}{scope:Scope}(h:(scope.names.all fun p=>p.2 != .free || X.env.scope.names.lookup p.1 == some .cell || X.env.scope.names.lookup p.1 == some .free)=true) :
  ∀ y∈scope.names,y.2 = .free->X.env.scope.names.lookup y.1=some .cell\/X.env.scope.names.lookup y.1=some .free:=fun y hy hf=>by
 have:=List.all_eq_true.mp h y hy;rw [hf] at this
 simpa using this
theorem Same.new {H:Hp}{p:Addr}{o:HO}(h:H p=none):Same H (upd H p o):=fun b u e=>by rw [At (B7 e h)];exact e
theorem Same.put {H H':Hp}{p:Addr}{o:HO}(s:Same H H')(h:H p=none):Same H (upd H' p o):=fun b u e=>by rw [At (B7 e h)];exact s b u e
def Its (x:Str):It:=⟨fun i _=>i<x.cps.size,fun i H v H'=>H'=H/\∃ c,x.cps[i]? = some c/\v = .str ⟨#[c]⟩,fun i _=>i=x.cps.size⟩
def StrIt (it:Addr)(x:Str)(t:Tok)(i:Nat)(h:Heap):Prop:=h.IsStrIter it "str_ascii_iterator" x t i\/h.IsStrIter it "str_iterator" x t i
theorem OB {P:Program}{w:World}{K:FZ9}{tg:Expr}(x:Str)(t:Tok)(it:Addr):Turn P w K tg (Its x) [it] it (StrIt it x t) where
 mem:=by simp
 obj:=fun i h st b hb=>by
  have e:b=it:=by simpa using hb
  subst e;rcases st with ⟨o,e,c,d⟩ | ⟨o,e,c,d⟩<;>exact ⟨o,e,fun v z=>by rw [d] at z;cases z⟩
 keep:=fun i h h' st k=>by
  rcases st with ⟨o,e,r⟩ | ⟨o,e,r⟩
  ·exact .inl ⟨o,k it (by simp) o e,r⟩
  ·exact .inr ⟨o,k it (by simp) o e,r⟩
 item:=by
  intro X hP hw hK hc i pins s σ H E I hf st hg;subst hP hw hK;obtain ⟨f0,f1,f2,f3,f4,f5⟩:=hf it (by simp);rcases st with st|st
  ·refine (Walks.strAscii (prog:=X.prog) (w:=X.w) (I.ok.hd hc) it x t).item i s _ _ hg st fun v h' tk hv st' kk=>?_;obtain ⟨c,u,hcx,rfl⟩:=hv;have I1:=I.turned (h':=h') (t':=tk) (fun b o hb e=>kk b o (by simpa using hb) e) f0 f1 f3 f4 f5;obtain ⟨o,e,hc',d⟩:=id st';exact ⟨_,rfl,LG (s:={ s with heap:=h',toks:=tk }) e hc' d (by decide) ⟨.str ⟨#[c]⟩,H,I1,⟨u,rfl⟩,⟨rfl,c,hcx,rfl⟩,.inl st',fun b hb=>(hf b hb).1⟩⟩
  ·refine (Walks.strWide (prog:=X.prog) (w:=X.w) (I.ok.hd hc) it x t).item i s _ _ hg st fun v h' tk hv st' kk=>?_;obtain ⟨c,u,hcx,rfl⟩:=hv;have I1:=I.turned (h':=h') (t':=tk) (fun b o hb e=>kk b o (by simpa using hb) e) f0 f1 f3 f4 f5;obtain ⟨o,e,hc',d⟩:=id st';exact ⟨_,rfl,LG (s:={ s with heap:=h',toks:=tk }) e hc' d (by decide) ⟨.str ⟨#[c]⟩,H,I1,⟨u,rfl⟩,⟨rfl,c,hcx,rfl⟩,.inr st',fun b hb=>(hf b hb).1⟩⟩
 done:=by
  intro X hP hw hK hc i pins s σ H E I hf st hg;subst hP hw hK;obtain ⟨f0,f1,f2,f3,f4,f5⟩:=hf it (by simp);have hg:i=x.cps.size:=hg;subst hg;rcases st with st|st
  ·exact (Walks.strAscii (prog:=X.prog) (w:=X.w) (I.ok.hd hc) it x t).done s _ _ st fun h' tk kk=>⟨rfl,I.turned (fun b o hb e=>kk b o (by simpa using hb) e) f0 f1 f3 f4 f5⟩
  ·exact (Walks.strWide (prog:=X.prog) (w:=X.w) (I.ok.hd hc) it x t).done s _ _ st fun h' tk kk=>⟨rfl,I.turned (fun b o hb e=>kk b o (by simpa using hb) e) f0 f1 f3 f4 f5⟩
 self:=fun _ _ _ _ _ st h=>by
  rcases st with st|st
  ·exact wpAny_pyIter_striter_ascii st h
  ·exact wpAny_pyIter_striter_wide st h
section
variable {X:Cx}{tg:Expr}
def iAny (K:FZ9)(tl:TE):TI:=fun σ H R=>tl σ H fun v H1=>match v with
 | .str x=>R (Its x) H1
 | .ref a=>((∃ xs,SqL K H1 a xs)/\R (Itl K a) H1)\/((∃ xs,SqT K H1 a xs)/\R (Itt K a) H1)
 | _=>False
theorem pi_any {l:Expr}{tl:TE}(hl:PE X l tl):PI X tg l (iAny X.K tl):=by
 intro pins s σ H R I h;refine thn (hl pins s σ H _ I h) fun v s1 ⟨x,H1,I1,r1,q1⟩=>?_
 have one:∀ b∈[s1.heap.objs.size],IM X pins H1 b:=fun b hb=>by
  have e:b=s1.heap.objs.size:=by simpa using hb
  subst e;exact I1.fpOk (qfB _) (I1.hok.fresh (qfB _))
 cases x with
 | str z =>
  obtain ⟨t,rfl⟩:=r1;have q1:R (Its z) H1:=q1;cases ha:z.cps.all (· < 128)
  ·exact wpAny_pyIter_wide ha ⟨s1.heap.objs.size,[s1.heap.objs.size],_,_,H1,rfl,I1.kept (t':=s1.toks) fun b o e=>qmB _ e,OB z t _,.inr ⟨_,qnB _ rfl,rfl,rfl⟩,one,q1⟩
  ·exact wpAny_pyIter_ascii ha ⟨s1.heap.objs.size,[s1.heap.objs.size],_,_,H1,rfl,I1.kept (t':=s1.toks) fun b o e=>qmB _ e,OB z t _,.inl ⟨_,qnB _ rfl,rfl,rfl⟩,one,q1⟩
 | ref a =>
  cases r1;have q1:((∃ xs,SqL X.K H1 a xs)/\R (Itl X.K a) H1)\/((∃ xs,SqT X.K H1 a xs)/\R (Itt X.K a) H1):=q1;rcases q1 with ⟨⟨xs,hq⟩,q⟩ | ⟨⟨xs,hq⟩,q⟩
  ·obtain ⟨its,rv,p,hz⟩:=I1.list hq;exact wpAny_pyIter_list p.isList ⟨s1.heap.objs.size,[s1.heap.objs.size],_,_,H1,rfl,I1.kept (t':=s1.toks) fun b o e=>qmB _ e,Rt a _,⟨_,qnB _ rfl,rfl,rfl⟩,one,q⟩
  ·obtain ⟨its,rv,p,hz⟩:=I1.tuple hq;exact wpAny_pyIter_tuple (show s1.heap.IsTuple a its.toArray from p) ⟨s1.heap.objs.size,[s1.heap.objs.size],_,_,H1,rfl,I1.kept (t':=s1.toks) fun b o e=>qmB _ e,QD a _,⟨_,qnB _ rfl,rfl,rfl⟩,one,q⟩
 | _=>exact (show False from q1).elim
end
structure Yields (J:It)(H:Hp)(xs:List V):Prop where
 go:∀ i H',Same H H'->i<xs.length->J.go i H'
 stop:∀ H',Same H H'->J.stop xs.length H'
 yld:∀ i H' x H'',Same H H'->i<xs.length->J.yld i H' x H''->H''=H'/\xs[i]? = some x
def Fe (x:Str):List V:=x.cps.toList.map fun c=>.str ⟨#[c]⟩
theorem QP (x:Str)(H:Hp):Yields (Its x) H (Fe x) where
 go:=fun i H' _ hi=>by
  have:(Fe x).length=x.cps.size:=by simp [Fe]
  show i<x.cps.size;omega
 stop:=fun H' _=>by
  show (Fe x).length=x.cps.size;simp [Fe]
 yld:=fun i H' v H'' _ _ y=>by
  obtain ⟨rfl,c,hc,rfl⟩:=y;refine ⟨rfl,?_⟩;simp only [Fe,qzA,Array.getElem?_toList,hc,Option.map_some]
theorem Nx (lo:Int)(n:Nat)(H:Hp):Yields (Itr lo n) H ((List.range n).map fun (i:Nat)=>V.int (lo+(i:Int))) where
 go:=fun i H' _ hi=>by
  show i<n
  simpa using hi
 stop:=fun H' _=>by
  show n<=((List.range n).map fun (i:Nat)=>V.int (lo+(i:Int))).length;simp
 yld:=fun i H' v H'' _ hi y=>by
  obtain ⟨rfl,rfl⟩:=y;rw [qeA,qiA] at hi;refine ⟨rfl,?_⟩;simp [hi]
theorem Os {K:FZ9}{a:Addr}{xs:List V}{H:Hp}(h:SqL K H a xs):Yields (Itl K a) H xs where
 go:=fun i H' s hi=>⟨xs,xs[i],s.seq h,by simp [hi]⟩
 stop:=fun H' s=>⟨xs,s.seq h,qfB _⟩
 yld:=fun i H' v H'' s _ y=>⟨y.1,y.2 xs (s.seq h)⟩
section
variable {X:Cx}
def Mg (K:FZ9):R2:=fun x y H Q=>match x,y with
 | .int i,.int j=>Q (.int (i+j)) H
 | .str a,.str b=>a.length+b.length<=sizeLine/\Q (.str (a++b)) H
 | .ref a,.ref b=>∃ xs ys,Rd H a (.lst xs)/\Rd H b (.lst ys)/\xs.length+ys.length<=sizeLine/\∀ p,H p=none->Q (.ref p) (upd H p (.lst (xs++ys)))
 | _,_=>False
theorem op_catS:OpR X (binaryOp .Add) (fun x y H Q=>∃ a b xs ys,x = .ref a/\y = .ref b/\Rd H a (.lst xs)/\Rd H b (.lst ys)/\xs.length+ys.length<=sizeLine/\∀ p,H p=none->Q (.ref p) (upd H p (.lst (xs++ys)))):=by
 intro pins s σ H x y v u Q I rx ry h;obtain ⟨l,b,xs,zs,rfl,rfl,hH,hB,hz,q⟩:=h;cases rx;cases ry;obtain ⟨z,its,n,r,e⟩:=hH.ok I.hok;obtain ⟨z2,its2,n2,r2,e2⟩:=hB.ok I.hok;have hl:=r.length;have hl2:=r2.length;refine PySem.P.add_list e e2 ?_ (by rw [qvB,qvB];omega);have ea:its.toArray++its2.toArray=(its++its2).toArray:=by simp
 rw [ea];exact ⟨.ref _,_,I.lnew (t':=s.toks) (r.append r2) (by rw [qfA];omega),rfl,q _ I.fresh⟩
theorem op_plus:OpR X (binaryOp .Add) (Mg X.K):=by
 intro pins s σ H x y v u Q I rx ry h
 cases x with
 | int i=>cases y with
  | int j=>exact op_add pins s σ H _ _ v u Q I rx ry ⟨i,j,rfl,rfl,h⟩
  | _=>exact (show False from h).elim
 | str a=>cases y with
  | str b=>exact Q2 pins s σ H _ _ v u Q I rx ry ⟨a,b,rfl,rfl,h.1,h.2⟩
  | _=>exact (show False from h).elim
 | ref a=>cases y with
  | ref b =>
   obtain ⟨xs,ys,h1,h2,h3,h4⟩:=h;exact op_catS pins s σ H _ _ v u Q I rx ry ⟨a,b,xs,ys,rfl,rfl,h1,h2,h3,h4⟩
  | _=>exact (show False from h).elim
 | _=>exact (show False from h).elim
def rOrd (fi:Int->Int->Bool)(fs:List Nat->List Nat->Bool):R2:=fun x y H Q=>match x,y with
 | .int i,.int j=>Q (.bl (fi i j)) H
 | .str a,.str b=>Q (.bl (fs a.cps.toList b.cps.toList)) H
 | _,_=>False
theorem Q3 {f:Value->Value->Sem Value}{fi:Int->Int->Bool}{fs:List Nat->List Nat->Bool}(hi:OpR X f (rI0 fun i j=>.bl (fi i j)))
  (hs:∀ (s:Shared) (a b:Str) (t u:Tok) (Q:Value->Shared->Prop),Q (.bool (fs a.cps.toList b.cps.toList)) s->wpAny (model X.prog X.w) X.A (f (.str a t) (.str b u)) Q X.xe s):OpR X f (rOrd fi fs):=by
 intro pins s σ H x y v u Q I rx ry h
 cases x with
 | int i=>cases y with
  | int j=>exact hi pins s σ H _ _ v u Q I rx ry ⟨i,j,rfl,rfl,h⟩
  | _=>exact (show False from h).elim
 | str a=>cases y with
  | str b =>
   obtain ⟨t,rfl⟩:=rx;obtain ⟨t',rfl⟩:=ry;exact hs s a b t t' _ ⟨.bl _,H,I,rfl,h⟩
  | _=>exact (show False from h).elim
 | _=>exact (show False from h).elim
theorem FB:OpR X (compareOp .Lt) (rOrd (fun i j=>decide (i<j)) fun a b=>decide (a<b)):=Q3 op_lt fun _ _ _ _ _ _ h=>lt_str h
theorem K2:OpR X (compareOp .Gt) (rOrd (fun i j=>decide (j<i)) fun a b=>decide (b<a)):=Q3 op_gt fun _ _ _ _ _ _ h=>PySem.P.gt_str h
theorem Lz:OpR X (compareOp .GtE) (rOrd (fun i j=>decide (j<=i)) fun a b=>!decide (a<b)):=Q3 op_ge fun _ _ _ _ _ _ h=>PySem.P.ge_str h
def rMul (K:FZ9):R2:=fun x y H Q=>match x,y with
 | .int i,.int j=>CMul i j/\Q (.int (i * j)) H
 | .ref l,.int k=>∃ xs,H l=some (.lst xs)/\-(2 ^ 63)<=k/\k<2 ^ 63/\xs.length * k.toNat<=sizeLine/\∀ p,H p=none->Q (.ref p) (upd H p (.lst (List.replicate k.toNat xs).flatten))
 | _,_=>False
theorem op_mulU:OpR X (binaryOp .Mult) (rMul X.K):=by
 intro pins s σ H x y v u Q I rx ry h
 cases x with
 | int i=>cases y with
  | int j=>exact op_mul pins s σ H _ _ v u Q I rx ry ⟨i,j,rfl,rfl,h.1,h.2⟩
  | _=>exact (show False from h).elim
 | ref l=>cases y with
  | int k =>
   obtain ⟨xs,h1,h2,h3,h4,h5⟩:=h;exact op_rep pins s σ H _ _ v u Q I rx ry ⟨l,k,xs,rfl,rfl,h1,h2,h3,h4,h5⟩
  | _=>exact (show False from h).elim
 | _=>exact (show False from h).elim
def rSl (K:FZ9):V->Option Int->Option Int->Hp->VK->Prop:=fun x lo hi H Q=>match x with
 | .str z=>z.length<=sizeLine/\Q (.str (Txt.slice z lo hi)) H
 | .ref a=>(∃ xs,SqL K H a xs/\∀ p,H p=none->Q (.ref p) (upd H p (.lst (Ki xs lo hi))))
 | _=>False
theorem sl_str:SlR X (fun x lo hi H Q=>∃ z,x = .str z/\z.length<=sizeLine/\Q (.str (Txt.slice z lo hi)) H):=by
 intro pins s σ H x v vl vu lo hi sl Q I rx hs pl pu h;obtain ⟨z,rfl,hz,q⟩:=h;obtain ⟨t,rfl⟩:=rx;refine ⟨"str",_,F.slot_str_getitem.lookup,typeIs_str _ _ _,?_⟩;have fin:∀ (t':Tok) (k:Nat),EP X pins σ Q (.str (Txt.slice z lo hi) t') { s with toks:=k }:=fun t' k=>⟨.str _,H,I.tok k,⟨t',rfl⟩,q⟩
 cases pl with
 | none=>cases pu with
  | none=>exact wpAny_getItem_str_slice (l:=none) (u:=none) (st:=none) hs rfl (post_val_or_str ⟨qgB (Txt.slice_le z _ _) hz,fin⟩)
  | int j uj=>exact wpAny_getItem_str_slice (l:=none) (u:=some (j,uj)) (st:=none) hs rfl (post_val_or_str ⟨qgB (Txt.slice_le z _ _) hz,fin⟩)
 | int i ui=>cases pu with
  | none=>exact wpAny_getItem_str_slice (l:=some (i,ui)) (u:=none) (st:=none) hs rfl (post_val_or_str ⟨qgB (Txt.slice_le z _ _) hz,fin⟩)
  | int j uj=>exact wpAny_getItem_str_slice (l:=some (i,ui)) (u:=some (j,uj)) (st:=none) hs rfl (post_val_or_str ⟨qgB (Txt.slice_le z _ _) hz,fin⟩)
theorem sl_any:SlR X (rSl X.K):=by
 intro pins s σ H x v vl vu lo hi sl Q I rx hs pl pu h
 cases x with
 | str z=>exact sl_str pins s σ H _ v vl vu lo hi sl Q I rx hs pl pu ⟨z,rfl,h.1,h.2⟩
 | ref a =>
  obtain ⟨xs,h1,h2⟩:=h;exact sl_list pins s σ H _ v vl vu lo hi sl Q I rx hs pl pu ⟨a,xs,rfl,h1,h2⟩
 | _=>exact (show False from h).elim
def rAt (K:FZ9):R2:=fun x y H Q=>match x,y with
 | .str z,.int i=>z.length<=sizeLine/\∃ c,atI z.cps.toList i=some c/\Q (.str ⟨#[c]⟩) H
 | .ref p,.int i=>(∃ xs v,SqL K H p xs/\atI xs i=some v/\Q v H)\/(∃ xs v,SqT K H p xs/\atI xs i=some v/\Q v H)
 | _,_=>False
theorem ix_any:IxR X (rAt X.K):=by
 intro value slice pins s σ H x y v u Q I rx ry q hs
 cases x with
 | str z=>cases y with
  | int i =>
   obtain ⟨hz,c,hc,q⟩:=q;exact ix_str value slice pins s σ H _ _ v u Q I rx ry ⟨z,i,c,rfl,rfl,hz,hc,q⟩ hs
  | _=>exact (show False from q).elim
 | ref p=>cases y with
  | int i =>
   rcases q with ⟨xs,w',h1,h2,h3⟩ | ⟨xs,w',h1,h2,h3⟩
   ·exact ix_list value slice pins s σ H _ _ v u Q I rx ry ⟨p,xs,i,w',rfl,rfl,h1,h2,h3⟩ hs
   ·exact ix_tup value slice pins s σ H _ _ v u Q I rx ry ⟨p,xs,i,w',rfl,rfl,h1,h2,h3⟩ hs
  | _=>exact (show False from q).elim
 | _=>exact (show False from q).elim
def SL (K:FZ9):List V->Hp->VK->Prop:=fun vs H Q=>match vs with
 | [.str z]=>z.length<=sizeLine/\Q (.int z.length) H
 | [.ref p]=>∃ ys,(SqL K H p ys\/SqT K H p ys)/\Q (.int ys.length) H
 | _=>False
theorem SO:Ek X (.builtin "len") (SL X.K):=by
 intro pins s σ H vs us Q I r h
 match vs,h with
 | [.str z],h=>exact N8 pins s σ H _ us Q I r ⟨z,rfl,h.1,h.2⟩
 | [.ref p],h =>
  obtain ⟨ys,h1,h2⟩:=h;exact NC pins s σ H _ us Q I r ⟨p,ys,rfl,h1,h2⟩
theorem QI {ys:List Str}:∀ {us:List Value},Vals (ys.map V.str) us->StrsAre us ys:=by
 induction ys with
 | nil=>intro us r;rw [List.map_nil] at r;cases r;exact .nil
 | cons n ns ih =>
  intro us r;rw [qaB] at r
  cases r with
  | cons r1 r2 =>
   obtain ⟨t,e⟩:=r1;subst e;exact .cons n t (ih r2)
def rJoin (K:FZ9):V->List V->Hp->VK->Prop:=fun x vs H Q=>∃ z l ys,x = .str z/\vs=[.ref l]/\SqL K H l (ys.map V.str)/\(ys.map (·.length)).sum+ys.length * z.length<=16777216/\Q (.str (Txt.join z ys)) H
theorem mt_join:MtR X "str.join" (rJoin X.K):=by
 intro pins s σ H x vs v us Q I rx rv h;obtain ⟨z,l,ys,rfl,rfl,hl,hz,q⟩:=h;obtain ⟨t,rfl⟩:=rx;obtain ⟨u,rfl,ru⟩:=IB rv;cases ru;obtain ⟨its,r,pl,_⟩:=I.list hl;exact join_list pl.isList (by simpa using QI r) hz fun t' k=>⟨.str _,H,I.tok k,⟨t',rfl⟩,q⟩
end
structure EqTy (K:FZ9)(k:Nat){α:Type}[DecidableEq α](R:Hp->V->α->Prop):Prop where
 fn:∀ {X:Cx}{pins:List (Addr × Obj)}{σ:St}{H:Hp}{s:Shared}{x:V}{a b:α},X.K=K->Inv X pins σ H s->R H x a->R H x b->a=b
 eq:∀ {X:Cx}{pins:List (Addr × Obj)}{σ:St}{H:Hp}{s:Shared}{x y:V}{u v:Value}{a b:α}(A:Around),X.K=K->Inv X pins σ H s->A.units+k<cLine->RelV x u->RelV y v->R H x a->R H y b->SeqAt.EqAt A s u v (decide (a=b))
 rc:∀ {X:Cx}{pins:List (Addr × Obj)}{σ:St}{H:Hp}{s:Shared}{x y:V}{u v:Value}{a b:α}(A:Around),X.K=K->Inv X pins σ H s->A.units+k<cLine->RelV x u->RelV y v->R H x a->R H y b->SeqAt.RcAt A s u v (decide (a=b))/\SeqAt.RcNeAt A s u v (!decide (a=b))
def isStr:Hp->V->Str->Prop:=fun _ x a=>x = .str a
def isInt:Hp->V->Int->Prop:=fun _ x a=>x = .int a
theorem J9 {α:Type}[DecidableEq α][BEq α][LawfulBEq α](a b:α):(a == b)=decide (a=b):=by
 by_cases h:a=b
 ·subst h;simp
 ·rw [decide_eq_false h];simpa using h
theorem eqStr {K:FZ9}:EqTy K 0 isStr where
 fn:=fun _ _ h1 h2=>by cases h1;cases h2;rfl
 eq:=fun A _ _ _ r1 r2 h1 h2=>by
  cases h1;cases h2;obtain ⟨t,rfl⟩:=r1;obtain ⟨t',rfl⟩:=r2;rw [<- J9];exact SeqAt.EqAt.str_str _ _ _ _
 rc:=fun A _ _ _ r1 r2 h1 h2=>by
  cases h1;cases h2;obtain ⟨t,rfl⟩:=r1;obtain ⟨t',rfl⟩:=r2;rw [<- J9];exact ⟨SeqAt.RcAt.str_str _ _ _ _,SeqAt.RcNeAt.str_str _ _ _ _⟩
theorem eqInt {K:FZ9}:EqTy K 0 isInt where
 fn:=fun _ _ h1 h2=>by cases h1;cases h2;rfl
 eq:=fun A _ _ _ r1 r2 h1 h2=>by
  cases h1;cases h2;obtain ⟨t,rfl⟩:=r1;obtain ⟨t',rfl⟩:=r2;rw [<- J9];exact SeqAt.EqAt.int_int _ _ _ _
 rc:=fun A _ _ _ r1 r2 h1 h2=>by
  cases h1;cases h2;obtain ⟨t,rfl⟩:=r1;obtain ⟨t',rfl⟩:=r2;rw [<- J9];exact ⟨SeqAt.RcAt.int_int _ _ _ _,SeqAt.RcNeAt.int_int _ _ _ _⟩
theorem Paired.at' {α β:Type}{F:α->β->Prop}:∀ {l₁:List α}{l₂:List β}{i:Nat}{a:α}{b:β},Paired F l₁ l₂->l₁[i]? = some a->l₂[i]? = some b->F a b
 | _,_,_,_,_,.nil,e,_=>by simp at e
 | _,_,0,_,_,.cons h _,e1,e2=>by simp at e1 e2;subst e1;subst e2;exact h
 | _,_,i+1,_,_,.cons _ t,e1,e2=>Paired.at' (i:=i) t (by simpa using e1) (by simpa using e2)
theorem Jj {α β:Type}{F:α->β->Prop}(hf:∀ a b c,F a b->F a c->b=c):∀ {xs:List α}{as bs:List β},Paired F xs as->Paired F xs bs->as=bs
 | _,_,_,.nil,.nil=>rfl
 | _,_,_,.cons h t,.cons h' t'=>by rw [hf _ _ _ h h',Jj hf t t']
theorem Qj {α:Type}[DecidableEq α]:∀ (as bs:List α) (hl:as.length=bs.length),((List.range as.length).all fun j=>decide (as[j]? = bs[j]?))=decide (as=bs):=by
 intro as bs hl;apply Bool.eq_iff_iff.mpr;rw [decide_eq_true_iff,List.all_eq_true];constructor
 ·intro h;apply List.ext_getElem?;intro i;by_cases hi:i<as.length
  ·exact of_decide_eq_true (h i (qsA.mpr hi))
  ·rw [qyA (by omega),qyA (by omega)]
 ·rintro rfl i _;simp
def Oi (K:FZ9){α:Type}(R:Hp->V->α->Prop):Hp->V->List α->Prop:=fun H x as=>∃ l xs,x = .ref l/\SqL K H l xs/\Paired (R H) xs as
theorem LX {K:FZ9}{k:Nat}{α:Type}[DecidableEq α]{R:Hp->V->α->Prop}(E:EqTy K k R){X:Cx}{pins:List (Addr × Obj)}{σ:St}{H:Hp}{s:Shared}{A:Around}(hK:X.K=K)(I:Inv X pins σ H s)(hu:A.units+(k+1)<cLine)
  {xs ys:List V}{us vs:List Value}{as bs:List α}(rx:Vals xs us) (ry:Vals ys vs) (px:Paired (R H) xs as) (py:Paired (R H) ys bs) :
  ∀ j (h1:j<us.toArray.size) (h2:j<vs.toArray.size),SeqAt.EqAt A.in1 s us.toArray[j] vs.toArray[j] (decide (as[j]? = bs[j]?)):=by
 intro j h1 h2;have h1':j<us.length:=by simpa using h1
 have h2':j<vs.length:=by simpa using h2
 have lx:=rx.length;have ly:=ry.length;have lpx:=Paired.length px;have lpy:=Paired.length py;have ex:xs[j]? = some xs[j]:=qvA (by omega);have ey:ys[j]? = some ys[j]:=qvA (by omega);have ea:as[j]? = some as[j]:=qvA (by omega);have eb:bs[j]? = some bs[j]:=qvA (by omega);obtain ⟨u,hu',ru⟩:=rx.get ex;obtain ⟨v,hv',rv⟩:=ry.get ey
 have e1:us.toArray[j]=u:=by
  rw [qvA h1'] at hu'
  simpa using hu'
 have e2:vs.toArray[j]=v:=by
  rw [qvA h2'] at hv'
  simpa using hv'
 rw [e1,e2,ea,eb];have:=E.eq A.in1 hK I (show A.units+1+k<cLine by omega) ru rv (Paired.at' px ex ea) (Paired.at' py ey eb);have e3:decide (some as[j]=some bs[j])=decide (as[j]=bs[j]):=by simp
 rw [e3];exact this
theorem eqLst {K:FZ9}{k:Nat}{α:Type}[DecidableEq α]{R:Hp->V->α->Prop}(E:EqTy K k R):EqTy K (k+1) (Oi K R):=by
 have fn:∀ {X:Cx}{pins:List (Addr × Obj)}{σ:St}{H:Hp}{s:Shared}{x:V}{a b:List α},X.K=K->Inv X pins σ H s->Oi K R H x a->Oi K R H x b->a=b:=by
  intro X pins σ H s x a b hK I ha hb;obtain ⟨l,xs,rfl,h1,p1⟩:=ha;obtain ⟨l',ys,e,h2,p2⟩:=hb;cases e;subst hK;have:=I.list_inj h1 h2;subst this;exact Jj (F:=R H) (fun _ _ _ p q=>E.fn rfl I p q) p1 p2
 have rc:∀ {X:Cx}{pins:List (Addr × Obj)}{σ:St}{H:Hp}{s:Shared}{x y:V}{u v:Value}{a b:List α}(A:Around),X.K=K->Inv X pins σ H s->A.units+(k+1)<cLine->RelV x u->RelV y v->Oi K R H x a->Oi K R H y b ->
   SeqAt.RcAt A s u v (decide (a=b))/\SeqAt.RcNeAt A s u v (!decide (a=b)):=by
  intro X pins σ H s x y u v a b A hK I hu r1 r2 ha hb;obtain ⟨l,xs,rfl,h1,p1⟩:=ha;obtain ⟨l',ys,rfl,h2,p2⟩:=hb;cases r1;cases r2;subst hK;obtain ⟨us,rx,plx,_⟩:=I.list h1;obtain ⟨vs,ry,ply,_⟩:=I.list h2;have lx:=rx.length;have ly:=ry.length;have lpx:=Paired.length p1;have lpy:=Paired.length p2;by_cases hl:a.length=b.length
  ·have hsz:us.toArray.size=vs.toArray.size:=by simp;omega
   have it:=LX E rfl I hu rx ry p1 p2
   have ed:((List.range us.toArray.size).all fun j=>decide (a[j]? = b[j]?))=decide (a=b):=by
    rw [<- Qj a b hl,qvB,<- lx,lpx]
   rw [<- ed];exact ⟨SeqAt.RcAt.lists plx.isList ply.isList hsz (by omega) it,SeqAt.RcNeAt.lists plx.isList ply.isList hsz (by omega) it⟩
  ·have hsz:(us.toArray.size != vs.toArray.size)=true:=by simp;omega
   have ne:a≠b:=fun e=>hl (by rw [e]);rw [decide_eq_false ne];exact ⟨SeqAt.RcAt.lists_lengths plx.isList ply.isList hsz (by omega),SeqAt.RcNeAt.lists_lengths plx.isList ply.isList hsz (by omega)⟩
 refine ⟨fn,?_,rc⟩;intro X pins σ H s x y u v a b A hK I hu r1 r2 ha hb;have h:=(rc A hK I hu r1 r2 ha hb).1;obtain ⟨l,xs,rfl,h1,p1⟩:=id ha;obtain ⟨l',ys,rfl,h2,p2⟩:=id hb;cases r1;cases r2;by_cases e:l=l'
 ·subst e;have:a=b:=fn hK I ha hb;rw [decide_eq_true this];exact SeqAt.EqAt.same _
 ·exact SeqAt.EqAt.of_refs e h
def LO (K:FZ9){α β:Type}(R:Hp->V->α->Prop)(S:Hp->V->β->Prop):Hp->V->α × β->Prop:=fun H x p=>∃ t a b,x = .ref t/\SqT K H t [a,b]/\R H a p.1/\S H b p.2
theorem eqPair {K:FZ9}{k:Nat}{α β:Type}[DecidableEq α][DecidableEq β]{R:Hp->V->α->Prop}{S:Hp->V->β->Prop}(E:EqTy K k R)(G:EqTy K k S):EqTy K (k+1) (LO K R S):=by
 have fn:∀ {X:Cx}{pins:List (Addr × Obj)}{σ:St}{H:Hp}{s:Shared}{x:V}{a b:α × β},X.K=K->Inv X pins σ H s->LO K R S H x a->LO K R S H x b->a=b:=by
  intro X pins σ H s x a b hK I ha hb;obtain ⟨l,x1,x2,rfl,h1,p1,p2⟩:=ha;obtain ⟨l',y1,y2,e,h2,q1,q2⟩:=hb;cases e;subst hK;have:=I.tuple_inj h1 h2;cases this;exact Prod.ext (E.fn rfl I p1 q1) (G.fn rfl I p2 q2)
 have rc:∀ {X:Cx}{pins:List (Addr × Obj)}{σ:St}{H:Hp}{s:Shared}{x y:V}{u v:Value}{a b:α × β}(A:Around),X.K=K->Inv X pins σ H s->A.units+(k+1)<cLine->RelV x u->RelV y v->LO K R S H x a->LO K R S H y b ->
   SeqAt.RcAt A s u v (decide (a=b))/\SeqAt.RcNeAt A s u v (!decide (a=b)):=by
  intro X pins σ H s x y u v a b A hK I hu r1 r2 ha hb;obtain ⟨l,x1,x2,rfl,h1,p1,p2⟩:=ha;obtain ⟨l',y1,y2,rfl,h2,q1,q2⟩:=hb;cases r1;cases r2;subst hK;obtain ⟨us,rx,plx,_⟩:=I.tuple h1;obtain ⟨vs,ry,ply,_⟩:=I.tuple h2;obtain ⟨u1,u2,rfl,ru1,ru2⟩:=vals2 rx;obtain ⟨v1,v2,rfl,rv1,rv2⟩:=vals2 ry;have e1:=E.eq A.in1 rfl I (show A.units+1+k<cLine by omega) ru1 rv1 p1 q1;have e2:=G.eq A.in1 rfl I (show A.units+1+k<cLine by omega) ru2 rv2 p2 q2
  have it:∀ j (h1:j < [u1,u2].toArray.size) (h2:j < [v1,v2].toArray.size),SeqAt.EqAt A.in1 s [u1,u2].toArray[j] [v1,v2].toArray[j] ((fun j=>if j=0 then decide (a.1=b.1) else decide (a.2=b.2)) j):=by
   intro j h1 h2
   match j,h1 with
   | 0,_=>exact e1
   | 1,_=>exact e2
   | j+2,h=>exact absurd h (by simp)
  have ed:((List.range (min [u1,u2].toArray.size [v1,v2].toArray.size)).all (fun j=>if j=0 then decide (a.1=b.1) else decide (a.2=b.2)) && [u1,u2].toArray.size == [v1,v2].toArray.size)=decide (a=b):=by
   apply Bool.eq_iff_iff.mpr;rw [decide_eq_true_iff];constructor
   ·intro h;have h:(decide (a.1=b.1) && (decide (a.2=b.2) && true) && true)=true:=h;simp only [Bool.and_true,qfC,decide_eq_true_iff] at h;exact Prod.ext h.1 h.2
   ·rintro rfl;show (decide (a.1=a.1) && (decide (a.2=a.2) && true) && true)=true;simp
  rw [<- ed];exact ⟨SeqAt.RcAt.tuples plx ply (by omega) it,SeqAt.RcNeAt.tuples plx ply (by omega) it⟩
 refine ⟨fn,?_,rc⟩;intro X pins σ H s x y u v a b A hK I hu r1 r2 ha hb;have h:=(rc A hK I hu r1 r2 ha hb).1;obtain ⟨l,x1,x2,rfl,h1,p1,p2⟩:=id ha;obtain ⟨l',y1,y2,rfl,h2,q1,q2⟩:=id hb;cases r1;cases r2;by_cases e:l=l'
 ·subst e;have:a=b:=fn hK I ha hb;rw [decide_eq_true this];exact SeqAt.EqAt.same _
 ·exact SeqAt.EqAt.of_refs e h
section
variable {X:Cx}
theorem op_eqD {k j:Nat}{α:Type}[DecidableEq α]{R:Hp->V->α->Prop}(E:EqTy X.K k R)(hr:Room j X.A)(hk:k<=10):OpR X (compareOp .Eq) (fun x y H Q=>∃ a b,R H x a/\R H y b/\Q (.bl (decide (a=b))) H):=by
 intro pins s σ H x y v u Q I rx ry h;obtain ⟨a,b,h1,h2,q⟩:=h;exact (E.rc X.A rfl I (by have:=hr.un;omega) rx ry h1 h2).1 _ _ _ _ ⟨.bl _,H,I,rfl,q⟩
theorem op_neD {k j:Nat}{α:Type}[DecidableEq α]{R:Hp->V->α->Prop}(E:EqTy X.K k R)(hr:Room j X.A)(hk:k<=10):OpR X (compareOp .NotEq) (fun x y H Q=>∃ a b,R H x a/\R H y b/\Q (.bl (!decide (a=b))) H):=by
 intro pins s σ H x y v u Q I rx ry h;obtain ⟨a,b,h1,h2,q⟩:=h;exact (E.rc X.A rfl I (by have:=hr.un;omega) rx ry h1 h2).2 _ _ _ _ ⟨.bl _,H,I,rfl,q⟩
end
class Rp (α:Type) where
 rel:FZ9->Hp->V->α->Prop
 mono:∀ {K:FZ9}{H H':Hp}{v:V}{a:α},Same H H'->rel K H v a->rel K H' v a
theorem Same.rd {H H':Hp}{a:Addr}{u:HO}(s:Same H H')(h:Rd H a u):Rd H' a u:=by
 rcases h with h | ⟨o,h⟩
 ·exact .inl (s _ _ h)
 ·exact .inr ⟨o,s _ _ h⟩
theorem Same.tup {K:FZ9}{H H':Hp}{a:Addr}{xs:List V}(e:Same H H')(h:SqT K H a xs):SqT K H' a xs:=by
 rcases h with h|h
 ·exact .inl (e.rd h)
 ·exact .inr h
instance rpInt:Rp Int:=⟨fun _ _ v a=>v = .int a,fun _ h=>h⟩
instance rpBool:Rp Bool:=⟨fun _ _ v a=>v = .bl a,fun _ h=>h⟩
instance rpStr:Rp Str:=⟨fun _ _ v a=>v = .str a/\a.length<=sizeLine,fun _ h=>h⟩
instance rpList {α:Type}[Rp α]:Rp (List α) :=
 ⟨fun K H v as=>∃ l xs,v = .ref l/\Rd H l (.lst xs)/\xs.length<=sizeLine/\Paired (Rp.rel K H) xs as,
  fun s ⟨l,xs,e,h,z,p⟩=>⟨l,xs,e,s.rd h,z,Paired.imp' (fun _ _ r=>Rp.mono s r) p⟩⟩
instance rpPair {α β:Type}[Rp α][Rp β]:Rp (α × β) :=
 ⟨fun K H v p=>∃ t a b,v = .ref t/\SqT K H t [a,b]/\Rp.rel K H a p.1/\Rp.rel K H b p.2,
  fun s ⟨t,a,b,e,h,r1,r2⟩=>⟨t,a,b,e,s.tup h,Rp.mono s r1,Rp.mono s r2⟩⟩
structure T3 (α β γ:Type) where
 a:α
 b:β
 c:γ
 deriving DecidableEq
structure T4 (α β γ δ:Type) where
 a:α
 b:β
 c:γ
 d:δ
 deriving DecidableEq
structure Tp (α:Type) where
 l:List α
 deriving DecidableEq
instance rpT3 {α β γ:Type}[Rp α][Rp β][Rp γ]:Rp (T3 α β γ) :=
 ⟨fun K H v p=>∃ t a b c,v = .ref t/\SqT K H t [a,b,c]/\Rp.rel K H a p.a/\Rp.rel K H b p.b/\Rp.rel K H c p.c,
  fun s ⟨t,a,b,c,e,h,r1,r2,r3⟩=>⟨t,a,b,c,e,s.tup h,Rp.mono s r1,Rp.mono s r2,Rp.mono s r3⟩⟩
instance rpT4 {α β γ δ:Type}[Rp α][Rp β][Rp γ][Rp δ]:Rp (T4 α β γ δ) :=
 ⟨fun K H v p=>∃ t a b c d,v = .ref t/\SqT K H t [a,b,c,d]/\Rp.rel K H a p.a/\Rp.rel K H b p.b/\Rp.rel K H c p.c/\Rp.rel K H d p.d,
  fun s ⟨t,a,b,c,d,e,h,r1,r2,r3,r4⟩=>⟨t,a,b,c,d,e,s.tup h,Rp.mono s r1,Rp.mono s r2,Rp.mono s r3,Rp.mono s r4⟩⟩
instance rpTp {α:Type}[Rp α]:Rp (Tp α) :=
 ⟨fun K H v as=>∃ t xs,v = .ref t/\SqT K H t xs/\xs.length<=sizeLine/\Paired (Rp.rel K H) xs as.l,
  fun s ⟨l,xs,e,h,z,p⟩=>⟨l,xs,e,s.tup h,z,Paired.imp' (fun _ _ r=>Rp.mono s r) p⟩⟩
instance rpOpt {α:Type}[Rp α]:Rp (Option α) :=
 ⟨fun K H v o=>match o with|none=>v = .non|some a=>Rp.rel K H v a,
  fun {K H H' v o} s h=>by cases o with|none=>exact h|some a=>exact Rp.mono (α:=α) s h⟩
class RpA (α:Type) where
 n:Nat
 rel:FZ9->Hp->List V->α->Prop
 mono:∀ {K:FZ9}{H H':Hp}{v:List V}{a:α},Same H H'->rel K H v a->rel K H' v a
 len:∀ {K:FZ9}{H:Hp}{v:List V}{a:α},rel K H v a->v.length=n
instance raNil:RpA Unit:=⟨0,fun _ _ vs _=>vs=[],fun _ h=>h,fun h=>by rw [h];rfl⟩
instance raCons {α β:Type}[Rp α][RpA β]:RpA (α × β) :=
 ⟨RpA.n β+1,fun K H vs p=>∃ v r,vs=v::r/\Rp.rel K H v p.1/\RpA.rel K H r p.2,
  fun s ⟨v,r,e,h1,h2⟩=>⟨v,r,e,Rp.mono s h1,RpA.mono s h2⟩,fun ⟨v,r,e,h1,h2⟩=>by rw [e,qgA,RpA.len h2]⟩
structure Ext (G H G' H':Hp):Prop where
 gg:Same G G'
 gh:Same G' H'
 hh:Same H H'
 no:∀ b,G b=none->H b≠none->G' b=none
section
variable {G H G1 H1 G2 H2 G0 H0:Hp}{p:Addr}{o:HO}
theorem Ext.refl (s:Same G H):Ext G H G H:=⟨.refl _,s,.refl _,fun _ h _=>h⟩
theorem Ext.trans (x:Ext G H G1 H1)(y:Ext G1 H1 G2 H2):Ext G H G2 H2 :=
 ⟨x.gg.trans y.gg,y.gh,x.hh.trans y.hh,fun b h1 h2=>y.no b (x.no b h1 h2) fun z=>h2 (x.hh.free z)⟩
theorem Same.both (s:Same G H):Same (upd G p o) (upd H p o):=fun b u e=>by
 by_cases hb:b=p
 ·subst hb;rw [AQ] at e ⊢;exact e
 ·rw [At hb] at e ⊢;exact s b u e
theorem Ext.new (s:Same G H)(h:H p=none):Ext G H (upd G p o) (upd H p o) :=
 ⟨Same.new (s.free h),s.both,Same.new h,fun b h1 h2=>by
  have hb:b≠p:=fun z=>h2 (by rw [z];exact h);rw [At hb]
  exact h1⟩
theorem Ext.own (s:Same G H)(h:H p=none):Ext G H G (upd H p o):=⟨.refl _,s.trans (Same.new h),Same.new h,fun _ h _=>h⟩
theorem Ext.put (x:Ext G0 H0 G H)(h0:H0 p=none)(hg:G p=none):Ext G0 H0 G (upd H p o):=⟨x.gg,x.gh.put hg,x.hh.put h0,x.no⟩
theorem Ext.frz (x:Ext G0 H0 G H)(h0:H0 p=none)(hg:G p=none)(hh:H p=some o):Ext G0 H0 (upd G p o) H :=
 ⟨x.gg.trans (Same.new hg),fun b u e=>by
  by_cases hb:b=p
  ·subst hb;rw [AQ] at e;rw [hh];exact e
  ·rw [At hb] at e
   exact x.gh b u e,x.hh,fun b h1 h2=>by
  have hb:b≠p:=fun z=>h2 (by rw [z];exact h0);rw [At hb]
  exact x.no b h1 h2⟩
end
section
variable {K:FZ9}{σ:St}{G:Hp}
def EV (K:FZ9){α:Type}[Rp α](te:TE)(σ:St)(G:Hp)(m:Option α):Prop :=
 ∀ G1,Same G G1->∀ a,m=some a->∀ H,Same G1 H->∀ Q:VK,(∀ v G2 H2,Ext G1 H G2 H2->Rp.rel K G2 v a->Q v H2)->te σ H Q
def TV (t:TT)(σ:St)(G:Hp)(m:Option Bool):Prop :=
 ∀ G1,Same G G1->∀ a,m=some a->∀ H,Same G1 H->∀ Q:Bool->Hp->Prop,(∀ G2 H2,Ext G1 H G2 H2->Q a H2)->t σ H Q
def AV (K:FZ9){α:Type}[RpA α](t:TA)(σ:St)(G:Hp)(m:Option α):Prop :=
 ∀ G1,Same G G1->∀ a,m=some a->∀ H,Same G1 H->∀ Q:List V->Hp->Prop,(∀ vs G2 H2,Ext G1 H G2 H2->RpA.rel K G2 vs a->Q vs H2)->t σ H Q
def LV (K:FZ9){α:Type}[Rp α](t:TA)(σ:St)(G:Hp)(n:Nat)(m:Option (List α)):Prop :=
 ∀ G1,Same G G1->∀ a,m=some a->∀ H,Same G1 H->∀ Q:List V->Hp->Prop,(∀ vs G2 H2,Ext G1 H G2 H2->vs.length=n->Paired (Rp.rel K G2) vs a->Q vs H2)->t σ H Q
def OV (t:TO)(σ:St)(G:Hp)(m:Option (Option Int)):Prop :=
 ∀ G1,Same G G1->∀ a,m=some a->∀ H,Same G1 H->∀ Q:Option Int->Hp->Prop,(∀ G2 H2,Ext G1 H G2 H2->Q a H2)->t σ H Q
def FV (K:FZ9){α:Type}[Rp α](te:TE)(σ:St)(G:Hp)(m:Option (List α)):Prop :=
 ∀ G1,Same G G1->∀ a,m=some a->∀ H,Same G1 H->∀ Q:VK,(∀ p vs G2 H2,Ext G1 H G2 H2->H p=none->G2 p=none->H2 p=some (.lst vs)->vs.length<=sizeLine->Paired (Rp.rel K G2) vs a->Q (.ref p) H2)->te σ H Q
section
variable {α β γ δ:Type}[Rp α][Rp β][Rp γ][Rp δ]{ta tb tc td:TE}{ma:Option α}{mb:Option β}{mc:Option γ}
theorem EV.run {te:TE}{H:Hp}{a:α}{Q:VK}{m:Option α}(e:EV K te σ G m)(hm:m=some a)(s:Same G H)(k:∀ v G2 H2,Ext G H G2 H2->Rp.rel K G2 v a->Q v H2):te σ H Q:=e G (.refl G) a hm H s Q k
theorem TV.run {t:TT}{H:Hp}{a:Bool}{Q:Bool->Hp->Prop}{m:Option Bool}(e:TV t σ G m)(hm:m=some a)(s:Same G H)(k:∀ G2 H2,Ext G H G2 H2->Q a H2):t σ H Q:=e G (.refl G) a hm H s Q k
theorem EV.of {te:TE}{m m':Option α}(e:EV K te σ G m)(h:m=m'):EV K te σ G m':=h ▸ e
theorem FV.ev {te:TE}{m:Option (List α)}(e:FV K te σ G m):EV K te σ G m:=by
 intro G1 s1 a ha H sH Q k;refine e G1 s1 a ha H sH Q fun p vs G2 H2 x h0 hg hh hz hp=>?_;exact k _ _ _ (x.frz h0 hg hh) ⟨p,vs,rfl,.inl AQ,hz,Paired.imp' (fun _ _ r=>Rp.mono (Same.new hg) r) hp⟩
theorem ev_var {i:Nat}{v:V}{a:α}(h:σ[i]? = some (some v))(r:Rp.rel K G v a):EV K (FP i) σ G (some a):=fun G1 s a' e H sH Q k=>by
 cases e;exact ⟨v,h,k v G1 H (.refl sH) (Rp.mono s r)⟩
theorem ev_c {v:V}{a:α}(h:∀ G,Rp.rel K G v a):EV K (tC v) σ G (some a):=fun G1 s a' e H sH Q k=>by
 cases e;exact k v G1 H (.refl sH) (h _)
theorem An {i:Int}:EV K (tC (.int i)) σ G (some i):=ev_c fun _=>rfl
theorem Fu {b:Bool}:EV K (tC (.bl b)) σ G (some b):=ev_c fun _=>rfl
theorem J1 {x:Str}(h:x.length<=sizeLine:=by decide +kernel):EV K (tC (.str x)) σ G (some x):=ev_c fun _=>⟨rfl,h⟩
theorem Eu:EV K (tC .non) σ G (some (none:Option α)):=ev_c fun _=>rfl
theorem Es {te:TE}{m:Option α}(e:EV K te σ G m):EV K te σ G (m.bind fun a=>some (some a)):=by
 clear 7;obtain ⟨a,ha,hc⟩:=qaA.mp hc;cases hc;exact e G1 s1 a ha H sH Q k
theorem C5 {r:R2}{f:α->β->Option γ}
  (h:∀ {G H:Hp}{v u:V}{a:α}{b:β}{c:γ},Same G H->Rp.rel K G v a->Rp.rel K G u b->f a b=some c->∀ {Q:VK},(∀ w G2 H2,Ext G H G2 H2->Rp.rel K G2 w c->Q w H2)->r v u H Q)
  (ea:EV K ta σ G ma) (eb:EV K tb σ G mb):EV K (tOp r ta tb) σ G (ma.bind fun a=>mb.bind fun b=>f a b):=by
 clear 7;obtain ⟨a,ha,hc⟩:=qaA.mp hc;obtain ⟨b,hb,hc⟩:=qaA.mp hc;clear 8 ea a ha;refine eb G2 (s1.trans x2.gg) b hb H2 x2.gh _ fun u G3 H3 x3 r3=>?_;exact h x3.gh (Rp.mono x3.gg r2) r3 hc fun w G4 H4 x4 r4=>k w G4 H4 ((x2.trans x3).trans x4) r4
theorem ev_un {r:V->Hp->VK->Prop}{f:α->Option γ}
  (h:∀ {G H:Hp}{v:V}{a:α}{c:γ},Same G H->Rp.rel K G v a->f a=some c->∀ {Q:VK},(∀ w G2 H2,Ext G H G2 H2->Rp.rel K G2 w c->Q w H2)->r v H Q)
  (ea:EV K ta σ G ma):EV K (tUn r ta) σ G (ma.bind fun a=>f a):=by
 clear 7;obtain ⟨a,ha,hc⟩:=qaA.mp hc;clear 8 ea a ha;exact h x2.gh r2 hc fun w G4 H4 x4 r4=>k w G4 H4 (x2.trans x4) r4
instance decMul (i j:Int):Decidable (CMul i j):=by unfold CMul;infer_instance
instance decDiv (i j:Int):Decidable (Q4 i j):=by unfold Q4;infer_instance
instance decPow (i j:Int):Decidable (CPow i j):=by unfold CPow;infer_instance
def JO (a b:Int):Option Int:=if CMul a b then some (a * b) else none
def Ps (a b:Int):Option Int:=if Q4 a b then some (a / b) else none
def HG (a b:Int):Option Int:=if 0<b then some (a % b) else none
def powO (a b:Int):Option Int:=if CPow a b then some (a ^ b.toNat) else none
theorem BZ {p:Prop}[Decidable p]{α:Type}{a c:α}(h:(if p then some a else none)=some c):p/\a=c:=by
 by_cases hp:p
 ·rw [if_pos hp] at h;exact ⟨hp,qjB h⟩
 ·rw [if_neg hp] at h;cases h
section
variable {ia ib:Option Int}
theorem BJ (ea:EV K ta σ G ia)(eb:EV K tb σ G ib):EV K (tOp (Mg K) ta tb) σ G (ia.bind fun a=>ib.bind fun b=>some (a+b)) :=
 C5 (fun s ra rb e Q k=>by cases ra;cases rb;cases e;exact k _ _ _ (.refl s) rfl) ea eb
theorem ev_sub (ea:EV K ta σ G ia)(eb:EV K tb σ G ib):EV K (tOp (rI0 fun i j=>.int (i - j)) ta tb) σ G (ia.bind fun a=>ib.bind fun b=>some (a - b)) :=
 C5 (fun s ra rb e Q k=>by cases ra;cases rb;cases e;exact ⟨_,_,rfl,rfl,k _ _ _ (.refl s) rfl⟩) ea eb
theorem HW (ea:EV K ta σ G ia)(eb:EV K tb σ G ib):EV K (tOp (rMul K) ta tb) σ G (ia.bind fun a=>ib.bind fun b=>JO a b) :=
 C5 (fun s ra rb e Q k=>by cases ra;cases rb;obtain ⟨h,rfl⟩:=BZ e;exact ⟨h,k _ _ _ (.refl s) rfl⟩) ea eb
theorem Fd (ea:EV K ta σ G ia)(eb:EV K tb σ G ib):EV K (tOp (rI (fun _ j=>0<j) fun i j=>.int (i % j)) ta tb) σ G (ia.bind fun a=>ib.bind fun b=>HG a b) :=
 C5 (fun s ra rb e Q k=>by cases ra;cases rb;obtain ⟨h,rfl⟩:=BZ e;exact ⟨_,_,rfl,rfl,h,k _ _ _ (.refl s) rfl⟩) ea eb
theorem ev_div (ea:EV K ta σ G ia)(eb:EV K tb σ G ib):EV K (tOp (rI Q4 fun i j=>.int (i / j)) ta tb) σ G (ia.bind fun a=>ib.bind fun b=>Ps a b) :=
 C5 (fun s ra rb e Q k=>by cases ra;cases rb;obtain ⟨h,rfl⟩:=BZ e;exact ⟨_,_,rfl,rfl,h,k _ _ _ (.refl s) rfl⟩) ea eb
theorem ev_pow (ea:EV K ta σ G ia)(eb:EV K tb σ G ib):EV K (tOp (rI CPow fun i j=>.int (i ^ j.toNat)) ta tb) σ G (ia.bind fun a=>ib.bind fun b=>powO a b) :=
 C5 (fun s ra rb e Q k=>by cases ra;cases rb;obtain ⟨h,rfl⟩:=BZ e;exact ⟨_,_,rfl,rfl,h,k _ _ _ (.refl s) rfl⟩) ea eb
theorem Jk (ea:EV K ta σ G ia):EV K (tUn (rU fun i=>.int (-i)) ta) σ G (ia.bind fun a=>some (-a)) :=
 ev_un (fun s ra e Q k=>by cases ra;cases e;exact ⟨_,rfl,k _ _ _ (.refl s) rfl⟩) ea
theorem CD {p:Int->Int->Bool}{q:List Nat->List Nat->Bool}(ea:EV K ta σ G ia)(eb:EV K tb σ G ib):EV K (tOp (rOrd p q) ta tb) σ G (ia.bind fun a=>ib.bind fun b=>some (p a b)) :=
 C5 (fun s ra rb e Q k=>by cases ra;cases rb;cases e;exact k _ _ _ (.refl s) rfl) ea eb
theorem E3 (ea:EV K ta σ G ia)(eb:EV K tb σ G ib):EV K (tOp rEq ta tb) σ G (ia.bind fun a=>ib.bind fun b=>some (decide (a=b))) :=
 C5 (fun s ra rb e Q k=>by cases ra;cases rb;cases e;exact ⟨rfl,k _ _ _ (.refl s) (by show V.bl _=V.bl _;congr 1;simp)⟩) ea eb
theorem Jv (ea:EV K ta σ G ia)(eb:EV K tb σ G ib):EV K (tOp rNe ta tb) σ G (ia.bind fun a=>ib.bind fun b=>some (!decide (a=b))) :=
 C5 (fun s ra rb e Q k=>by cases ra;cases rb;cases e;exact ⟨rfl,k _ _ _ (.refl s) (by show V.bl _=V.bl _;congr 1;simp)⟩) ea eb
end
section
variable {ba bb:Option Bool}
theorem ev_not (ea:EV K ta σ G ba):EV K (tNotV ta) σ G (ba.bind fun a=>some (!a)):=by
 clear 7;obtain ⟨a,ha,hc⟩:=qaA.mp hc;cases hc;clear 8 ea a ha;cases r2;exact ⟨_,rfl,k _ _ _ x2 rfl⟩
theorem Lc (ea:EV K ta σ G ba)(eb:EV K tb σ G bb):EV K (tAndV ta tb) σ G (ba.bind fun a=>cond a bb (some false)):=by
 clear 7;obtain ⟨a,ha,hc⟩:=qaA.mp hc;clear 8 ea a ha;cases r2;refine ⟨_,rfl,?_⟩
 cases a with
 | false=>cases hc;exact Bm (k _ _ _ x2 rfl)
 | true=>exact Bn (eb G2 (s1.trans x2.gg) c hc H2 x2.gh _ fun u G3 H3 x3 r3=>k _ _ _ (x2.trans x3) r3)
theorem ev_ifx {tt:TT}{m1 m2:Option α}(et:TV tt σ G ba)(ea:EV K ta σ G m1)(eb:EV K tb σ G m2):EV K (tIf tt ta tb) σ G (ba.bind fun a=>cond a m1 m2):=by
 clear 7;obtain ⟨a,ha,hc⟩:=qaA.mp hc;refine et G1 s1 a ha H sH _ fun G2 H2 x2=>?_
 cases a with
 | true=>exact Bn (ea G2 (s1.trans x2.gg) c hc H2 x2.gh _ fun u G3 H3 x3 r3=>k _ _ _ (x2.trans x3) r3)
 | false=>exact Bm (eb G2 (s1.trans x2.gg) c hc H2 x2.gh _ fun u G3 H3 x3 r3=>k _ _ _ (x2.trans x3) r3)
theorem AU (ea:EV K ta σ G ba):TV (RH ta) σ G ba:=by
 clear 7;clear 8 ea c hc;cases r2;exact ⟨_,rfl,k _ _ x2⟩
theorem Dd {t:TT}(ea:TV t σ G ba):TV (tNot t) σ G (ba.bind fun a=>some (!a)):=by
 clear 7;obtain ⟨a,ha,hc⟩:=qaA.mp hc;cases hc;exact ea G1 s1 a ha H sH _ fun G2 H2 x2=>k _ _ x2
theorem tv_and {t u:TT}(ea:TV t σ G ba)(eb:TV u σ G bb):TV (tAnd t u) σ G (ba.bind fun a=>cond a bb (some false)):=by
 clear 7;obtain ⟨a,ha,hc⟩:=qaA.mp hc;refine ea G1 s1 a ha H sH _ fun G2 H2 x2=>?_
 cases a with
 | false=>cases hc;exact Bm (k _ _ x2)
 | true=>exact Bn (eb G2 (s1.trans x2.gg) c hc H2 x2.gh _ fun G3 H3 x3=>k _ _ (x2.trans x3))
theorem Ch {t u:TT}(ea:TV t σ G ba)(eb:TV u σ G bb):TV (tOr t u) σ G (ba.bind fun a=>cond a (some true) bb):=by
 clear 7;obtain ⟨a,ha,hc⟩:=qaA.mp hc;refine ea G1 s1 a ha H sH _ fun G2 H2 x2=>?_
 cases a with
 | true=>cases hc;exact Bn (k _ _ x2)
 | false=>exact Bm (eb G2 (s1.trans x2.gg) c hc H2 x2.gh _ fun G3 H3 x3=>k _ _ (x2.trans x3))
theorem tv_tru {f:α->Bool}(h:∀ {G:Hp}{v:V}{a:α},Rp.rel K G v a->TruV K v G (f a))(mn:∀ {G H:Hp}{v:V}{k:Bool},Same G H->TruV K v G k->TruV K v H k)(ea:EV K ta σ G ma) :
  TV (fun σ H Q=>ta σ H fun x H'=>∃ k,TruV K x H' k/\Q k H') σ G (ma.bind fun a=>some (f a)):=by
 clear 7;obtain ⟨a,ha,hc⟩:=qaA.mp hc;cases hc;clear 8 ea a ha;exact ⟨_,mn x2.gh (h r2),k _ _ x2⟩
end
end
end
section
variable {K:FZ9}{σ:St}{G:Hp}{α β γ δ:Type}[Rp α][Rp β][Rp γ][Rp δ]{ta tb tc td:TE}{ma:Option α}{mb:Option β}{mc:Option γ}{md:Option δ}
section
variable {sa sb:Option Str}{ia ib:Option Int}
def RZ (a b:Str):Option Str:=if a.length+b.length<=sizeLine then some (a++b) else none
theorem NH (ea:EV K ta σ G sa)(eb:EV K tb σ G sb):EV K (tOp (Mg K) ta tb) σ G (sa.bind fun a=>sb.bind fun b=>RZ a b) :=
 C5 (fun s ra rb e Q k=>by
  obtain ⟨rfl,z1⟩:=ra;obtain ⟨rfl,z2⟩:=rb;obtain ⟨h,rfl⟩:=BZ e
  exact ⟨h,k _ _ _ (.refl s) ⟨rfl,by rw [L7];exact h⟩⟩) ea eb
theorem Q5 (ea:EV K ta σ G sa)(eb:EV K tb σ G sb):EV K (tOp rEq ta tb) σ G (sa.bind fun a=>sb.bind fun b=>some (decide (a=b))) :=
 C5 (fun s ra rb e Q k=>by obtain ⟨rfl,z1⟩:=ra;obtain ⟨rfl,z2⟩:=rb;cases e;exact ⟨rfl,k _ _ _ (.refl s) (by show V.bl _=V.bl _;congr 1;simp)⟩) ea eb
theorem ev_neS (ea:EV K ta σ G sa)(eb:EV K tb σ G sb):EV K (tOp rNe ta tb) σ G (sa.bind fun a=>sb.bind fun b=>some (!decide (a=b))) :=
 C5 (fun s ra rb e Q k=>by obtain ⟨rfl,z1⟩:=ra;obtain ⟨rfl,z2⟩:=rb;cases e;exact ⟨rfl,k _ _ _ (.refl s) (by show V.bl _=V.bl _;congr 1;simp)⟩) ea eb
def inS (a b:Str):Bool:=!(Builtin.Str.occurrences b a 0 b.length 1).isEmpty
theorem Q7 (ea:EV K ta σ G sa)(eb:EV K tb σ G sb):EV K (tOp (fun x y H Q=>∃ i j,x = .str i/\y = .str j/\Q (.bl (!(Builtin.Str.occurrences j i 0 j.length 1).isEmpty)) H) ta tb) σ G (sa.bind fun a=>sb.bind fun b=>some (inS a b)) :=
 C5 (fun s ra rb e Q k=>by obtain ⟨rfl,z1⟩:=ra;obtain ⟨rfl,z2⟩:=rb;cases e;exact ⟨_,_,rfl,rfl,k _ _ _ (.refl s) rfl⟩) ea eb
theorem ev_atS (ea:EV K ta σ G sa)(eb:EV K tb σ G ib):EV K (tOp (rAt K) ta tb) σ G (sa.bind fun a=>ib.bind fun i=>(atI a.cps.toList i).bind fun c=>some (⟨#[c]⟩:Str)) :=
 C5 (fun s ra rb e Q k=>by
  obtain ⟨rfl,z1⟩:=ra;cases rb;obtain ⟨c,hc,e⟩:=qaA.mp e;cases e
  exact ⟨z1,c,hc,k _ _ _ (.refl s) ⟨rfl,by show 1<=sizeLine;decide⟩⟩) ea eb
end
theorem FH {R:V->α->Prop}{xs:List V}{as:List α}{i:Int}{a:α}(p:Paired R xs as)(h:atI as i=some a):∃ v,atI xs i=some v/\R v a:=by
 have hl:=Paired.length p;unfold atI at h ⊢;obtain ⟨j,hj,h⟩:=qaA.mp h;rw [hl,hj]
 have hlt:j<xs.length:=by
  have:=(quA.mp h).1;omega
 exact ⟨xs[j],qvA hlt,Paired.at' p (qvA hlt) h⟩
theorem Paired.app {α β:Type}{F:α->β->Prop}:∀ {l1 l2:List α}{m1 m2:List β},Paired F l1 m1->Paired F l2 m2->Paired F (l1++l2) (m1++m2)
 | _,_,_,_,.nil,h=>h
 | _,_,_,_,.cons r t,h=>.cons r (Paired.app t h)
theorem Paired.tk {α β:Type}{F:α->β->Prop}:∀ (n:Nat) {l:List α}{m:List β},Paired F l m->Paired F (l.take n) (m.take n)
 | 0,_,_,_=>by simpa using .nil
 | n+1,_,_,.nil=>by simpa using .nil
 | n+1,_,_,.cons r t=>.cons r (Paired.tk n t)
theorem Paired.dp {α β:Type}{F:α->β->Prop}:∀ (n:Nat) {l:List α}{m:List β},Paired F l m->Paired F (l.drop n) (m.drop n)
 | 0,_,_,h=>h
 | n+1,_,_,.nil=>by simpa using .nil
 | n+1,_,_,.cons r t=>Paired.dp n t
theorem Paired.st {α β:Type}{F:α->β->Prop}{a:α}{b:β}(r:F a b):∀ {l:List α}{m:List β}(j:Nat),Paired F l m->Paired F (l.set j a) (m.set j b)
 | _,_,_,.nil=>.nil
 | _,_,0,.cons _ t=>.cons r t
 | _,_,j+1,.cons q t=>.cons q (Paired.st r j t)
section
variable {la lb:Option (List α)}{ia ib:Option Int}
theorem B9 (ea:EV K ta σ G la)(eb:EV K tb σ G ib):EV K (tOp (rAt K) ta tb) σ G (la.bind fun a=>ib.bind fun i=>atI a i) :=
 C5 (fun s ra rb e Q k=>by
  obtain ⟨l,xs,rfl,h,z,p⟩:=ra;cases rb;obtain ⟨v,hv,r⟩:=FH p e
  exact .inl ⟨xs,v,.inl (s.rd h),hv,k _ _ _ (.refl s) r⟩) ea eb
theorem QC {pa:Option (Tp α)}(ea:EV K ta σ G pa)(eb:EV K tb σ G ib):EV K (tOp (rAt K) ta tb) σ G (pa.bind fun a=>ib.bind fun i=>atI a.l i) :=
 C5 (fun s ra rb e Q k=>by
  obtain ⟨l,xs,rfl,h,z,p⟩:=ra;cases rb;obtain ⟨v,hv,r⟩:=FH p e
  exact .inr ⟨xs,v,s.tup h,hv,k _ _ _ (.refl s) r⟩) ea eb
theorem Ey {τ:Type}[Rp τ]{mt:Option τ}{i:Int}{f:τ->α}(h:∀ {G:Hp}{v:V}{p:τ},Rp.rel K G v p->∃ t xs w,v = .ref t/\SqT K G t xs/\atI xs i=some w/\Rp.rel K G w (f p))(ea:EV K ta σ G mt) :
  EV K (tOp (rAt K) ta (tC (.int i))) σ G (mt.bind fun p=>some (f p)):=by
 clear 7;obtain ⟨a,ha,hc⟩:=qaA.mp hc;cases hc;clear 8 ea a ha;obtain ⟨t,xs,w,rfl,ht,hw,r⟩:=h r2;exact .inr ⟨xs,w,x2.gh.tup ht,hw,k _ _ _ x2 r⟩
theorem Cn {mt:Option (α × β)}(ea:EV K ta σ G mt):EV K (tOp (rAt K) ta (tC (.int 0))) σ G (mt.bind fun p=>some p.1) :=
 Ey (τ:=α × β) (fun ⟨t,a,b,e,h,r1,r2⟩=>⟨t,_,a,e,h,rfl,r1⟩) ea
theorem D5 {mt:Option (α × β)}(ea:EV K ta σ G mt):EV K (tOp (rAt K) ta (tC (.int 1))) σ G (mt.bind fun p=>some p.2) :=
 Ey (τ:=α × β) (fun ⟨t,a,b,e,h,r1,r2⟩=>⟨t,_,b,e,h,rfl,r2⟩) ea
theorem EX {mt:Option (T3 α β γ)}(ea:EV K ta σ G mt):EV K (tOp (rAt K) ta (tC (.int 0))) σ G (mt.bind fun p=>some p.a) :=
 Ey (τ:=T3 α β γ) (fun ⟨t,a,b,c,e,h,r1,r2,r3⟩=>⟨t,_,a,e,h,rfl,r1⟩) ea
theorem Db {mt:Option (T3 α β γ)}(ea:EV K ta σ G mt):EV K (tOp (rAt K) ta (tC (.int 1))) σ G (mt.bind fun p=>some p.b) :=
 Ey (τ:=T3 α β γ) (fun ⟨t,a,b,c,e,h,r1,r2,r3⟩=>⟨t,_,b,e,h,rfl,r2⟩) ea
theorem IN {mt:Option (T3 α β γ)}(ea:EV K ta σ G mt):EV K (tOp (rAt K) ta (tC (.int 2))) σ G (mt.bind fun p=>some p.c) :=
 Ey (τ:=T3 α β γ) (fun ⟨t,a,b,c,e,h,r1,r2,r3⟩=>⟨t,_,c,e,h,rfl,r3⟩) ea
theorem K3 {mt:Option (T4 α β γ δ)}(ea:EV K ta σ G mt):EV K (tOp (rAt K) ta (tC (.int 0))) σ G (mt.bind fun p=>some p.a) :=
 Ey (τ:=T4 α β γ δ) (fun ⟨t,a,b,c,d,e,h,r1,r2,r3,r4⟩=>⟨t,_,a,e,h,rfl,r1⟩) ea
theorem Gh {mt:Option (T4 α β γ δ)}(ea:EV K ta σ G mt):EV K (tOp (rAt K) ta (tC (.int 1))) σ G (mt.bind fun p=>some p.b) :=
 Ey (τ:=T4 α β γ δ) (fun ⟨t,a,b,c,d,e,h,r1,r2,r3,r4⟩=>⟨t,_,b,e,h,rfl,r2⟩) ea
theorem Gs {mt:Option (T4 α β γ δ)}(ea:EV K ta σ G mt):EV K (tOp (rAt K) ta (tC (.int 2))) σ G (mt.bind fun p=>some p.c) :=
 Ey (τ:=T4 α β γ δ) (fun ⟨t,a,b,c,d,e,h,r1,r2,r3,r4⟩=>⟨t,_,c,e,h,rfl,r3⟩) ea
theorem GU {mt:Option (T4 α β γ δ)}(ea:EV K ta σ G mt):EV K (tOp (rAt K) ta (tC (.int 3))) σ G (mt.bind fun p=>some p.d) :=
 Ey (τ:=T4 α β γ δ) (fun ⟨t,a,b,c,d,e,h,r1,r2,r3,r4⟩=>⟨t,_,d,e,h,rfl,r4⟩) ea
theorem MX {H:Hp}{Q:VK}{as:List α}{G1:Hp}(s:Same G1 H){vs:List V}(hz:vs.length<=sizeLine)(hp:Paired (Rp.rel K G1) vs as)
  (k:∀ p vs G2 H2,Ext G1 H G2 H2->H p=none->G2 p=none->H2 p=some (.lst vs)->vs.length<=sizeLine->Paired (Rp.rel K G2) vs as->Q (.ref p) H2):∀ p,H p=none->Q (.ref p) (upd H p (.lst vs)) :=
 fun p h=>k p vs G1 _ (.own s h) h (s.free h) AQ hz hp
theorem FV.mono {H H' G1 G2:Hp}{as:List α}{Q:VK}(x:Ext G1 H G2 H')
  (k:∀ p vs G3 H3,Ext G1 H G3 H3->H p=none->G3 p=none->H3 p=some (.lst vs)->vs.length<=sizeLine->Paired (Rp.rel K G3) vs as->Q (.ref p) H3) :
  ∀ p vs G3 H3,Ext G2 H' G3 H3->H' p=none->G3 p=none->H3 p=some (.lst vs)->vs.length<=sizeLine->Paired (Rp.rel K G3) vs as->Q (.ref p) H3 :=
 fun p vs G3 H3 y h0=>k p vs G3 H3 (x.trans y) (x.hh.free h0)
def catL {α:Type}(a b:List α):Option (List α):=if a.length+b.length<=sizeLine then some (a++b) else none
theorem Qg (ea:EV K ta σ G la)(eb:EV K tb σ G lb):FV K (tOp (Mg K) ta tb) σ G (la.bind fun a=>lb.bind fun b=>catL a b):=by
 clear 7;obtain ⟨a,ha,hc⟩:=qaA.mp hc;obtain ⟨b,hb,hc⟩:=qaA.mp hc;obtain ⟨hl,rfl⟩:=BZ hc;clear 8 ea a ha;refine eb G2 (s1.trans x2.gg) b hb H2 x2.gh _ fun u G3 H3 x3 r3=>?_;obtain ⟨l1,xs,rfl,h1,z1,p1⟩:=Rp.mono x3.gg r2;obtain ⟨l2,ys,rfl,h2,z2,p2⟩:=r3;have e1:=Paired.length p1;have e2:=Paired.length p2;have hz:(xs++ys).length<=sizeLine:=by rw [qfA];omega
 exact ⟨xs,ys,x3.gh.rd h1,x3.gh.rd h2,by rw [qfA] at hz;exact hz,MX x3.gh hz (Paired.app p1 p2) (FV.mono (x2.trans x3) k)⟩
def NS {α:Type}(xs:List α)(lo hi:Option Int):List α:=(xs.drop (HT.sIx xs.length 0 lo)).take (HT.sIx xs.length xs.length hi - HT.sIx xs.length 0 lo)
theorem Paired.cut {α:Type}{R:V->α->Prop}{xs:List V}{as:List α}(p:Paired R xs as)(lo hi:Option Int):Paired R (Ki xs lo hi) (NS as lo hi):=by
 unfold Ki NS;rw [Paired.length p];exact Paired.tk _ (Paired.dp _ p)
section
variable {t1 t2:TO}{m1 m2:Option (Option Int)}
theorem Ku:OV Kq σ G (some none):=fun G1 s1 a ha H sH Q k=>by
 cases ha;exact k _ _ (.refl sH)
theorem RC (ea:EV K ta σ G ia):OV (ON ta) σ G (ia.bind fun i=>some (some i)):=by
 clear 7;obtain ⟨a,ha,hc⟩:=qaA.mp hc;cases hc;clear 8 ea a ha;cases r2;exact ⟨_,rfl,k _ _ x2⟩
theorem Ob (ea:EV K ta σ G la)(e1:OV t1 σ G m1)(e2:OV t2 σ G m2):FV K (tSl (rSl K) ta t1 t2) σ G (la.bind fun a=>m1.bind fun lo=>m2.bind fun hi=>some (NS a lo hi)):=by
 clear 7;obtain ⟨a,ha,hc⟩:=qaA.mp hc;obtain ⟨lo,hlo,hc⟩:=qaA.mp hc;obtain ⟨hi,hhi,hc⟩:=qaA.mp hc;cases hc;clear 8 ea a ha;refine e1 G2 (s1.trans x2.gg) lo hlo H2 x2.gh _ fun G3 H3 x3=>?_;refine e2 G3 (s1.trans (x2.trans x3).gg) hi hhi H3 x3.gh _ fun G4 H4 x4=>?_;obtain ⟨l,xs,rfl,h,z,p⟩:=Rp.mono (x3.trans x4).gg r2;exact ⟨xs,.inl (x4.gh.rd h),MX x4.gh (qgB (HF _ _ _) z) (Paired.cut p lo hi) (FV.mono ((x2.trans x3).trans x4) k)⟩
end
end
section
variable {t:TA}{n:Nat}{ml:Option (List α)}
theorem Bw:LV K DE σ G 0 (some ([]:List α)):=fun G1 s1 a ha H sH Q k=>by
 cases ha;exact k _ _ _ (.refl sH) rfl .nil
theorem Bo (ea:EV K ta σ G ma)(er:LV K t σ G n ml):LV K (B5 ta t) σ G (n+1) (ma.bind fun a=>ml.bind fun r=>some (a::r)):=by
 clear 7;obtain ⟨a,ha,hc⟩:=qaA.mp hc;obtain ⟨r,hr,hc⟩:=qaA.mp hc;cases hc;clear 8 ea a ha;refine er G2 (s1.trans x2.gg) r hr H2 x2.gh _ fun vs G3 H3 x3 hl hp=>?_;exact k _ _ _ (x2.trans x3) (by rw [qgA,hl]) (.cons (Rp.mono x3.gg r2) hp)
theorem DM (e:LV K t σ G n ml)(hn:n<=sizeLine:=by decide):FV K (tLst t) σ G ml:=by
 clear 7;refine e G1 s1 c hc H sH _ fun vs G2 H2 x2 hl hp=>?_;exact ⟨by omega,MX x2.gh (by omega) hp (FV.mono x2 k)⟩
theorem RE (e:LV K t σ G n ml)(hn:n<=sizeLine:=by decide):EV K (Rz t) σ G (ml.bind fun l=>some (Tp.mk l)):=by
 clear 7;obtain ⟨l,hl,hc⟩:=qaA.mp hc;cases hc;refine e G1 s1 l hl H sH _ fun vs G2 H2 x2 hl hp=>⟨by omega,fun p h=>?_⟩;exact k _ _ _ (x2.trans (.new x2.gh h)) ⟨p,vs,rfl,SqT.of AQ,by omega,Paired.imp' (fun _ _ r=>Rp.mono (Same.new (x2.gh.free h)) r) hp⟩
theorem GR (ea:EV K ta σ G ma)(eb:EV K tb σ G mb):EV K (Rz (B5 ta (B5 tb DE))) σ G (ma.bind fun a=>mb.bind fun b=>some (a,b)):=by
 clear 7;obtain ⟨a,ha,hc⟩:=qaA.mp hc;obtain ⟨b,hb,hc⟩:=qaA.mp hc;cases hc;clear 8 ea a ha;refine eb G2 (s1.trans x2.gg) b hb H2 x2.gh _ fun u G3 H3 x3 r3=>⟨by show 2<=sizeLine;decide,fun p h=>?_⟩;have s:=Same.new (o:=.tup [v,u]) (x3.gh.free h);exact k _ _ _ ((x2.trans x3).trans (.new x3.gh h)) ⟨p,v,u,rfl,SqT.of AQ,Rp.mono (x3.gg.trans s) r2,Rp.mono s r3⟩
theorem Ko (ea:EV K ta σ G ma)(eb:EV K tb σ G mb)(ec:EV K tc σ G mc):EV K (Rz (B5 ta (B5 tb (B5 tc DE)))) σ G (ma.bind fun a=>mb.bind fun b=>mc.bind fun c=>some (T3.mk a b c)):=by
 clear 7;obtain ⟨a,ha,hc⟩:=qaA.mp hc;obtain ⟨b,hb,hc⟩:=qaA.mp hc;obtain ⟨c',hc',hc⟩:=qaA.mp hc;cases hc;clear 8 ea a ha;refine eb G2 (s1.trans x2.gg) b hb H2 x2.gh _ fun u G3 H3 x3 r3=>?_;refine ec G3 (s1.trans (x2.trans x3).gg) c' hc' H3 x3.gh _ fun w G4 H4 x4 r4=>⟨by show 3<=sizeLine;decide,fun p h=>?_⟩;have s:=Same.new (o:=.tup [v,u,w]) (x4.gh.free h);exact k _ _ _ (((x2.trans x3).trans x4).trans (.new x4.gh h)) ⟨p,v,u,w,rfl,SqT.of AQ,Rp.mono ((x3.trans x4).gg.trans s) r2,Rp.mono (x4.gg.trans s) r3,Rp.mono s r4⟩
theorem JE (ea:EV K ta σ G ma)(eb:EV K tb σ G mb)(ec:EV K tc σ G mc)(ed:EV K td σ G md):EV K (Rz (B5 ta (B5 tb (B5 tc (B5 td DE))))) σ G (ma.bind fun a=>mb.bind fun b=>mc.bind fun c=>md.bind fun d=>some (T4.mk a b c d)):=by
 clear 7;obtain ⟨a,ha,hc⟩:=qaA.mp hc;obtain ⟨b,hb,hc⟩:=qaA.mp hc;obtain ⟨c',hc',hc⟩:=qaA.mp hc;obtain ⟨d,hd,hc⟩:=qaA.mp hc;cases hc;clear 8 ea a ha;refine eb G2 (s1.trans x2.gg) b hb H2 x2.gh _ fun u G3 H3 x3 r3=>?_;refine ec G3 (s1.trans (x2.trans x3).gg) c' hc' H3 x3.gh _ fun w G4 H4 x4 r4=>?_;refine ed G4 (s1.trans ((x2.trans x3).trans x4).gg) d hd H4 x4.gh _ fun y G5 H5 x5 r5=>⟨by show 4<=sizeLine;decide,fun p h=>?_⟩;have s:=Same.new (o:=.tup [v,u,w,y]) (x5.gh.free h);exact k _ _ _ ((((x2.trans x3).trans x4).trans x5).trans (.new x5.gh h)) ⟨p,v,u,w,y,rfl,SqT.of AQ,Rp.mono (((x3.trans x4).trans x5).gg.trans s) r2,Rp.mono ((x4.trans x5).gg.trans s) r3,Rp.mono (x5.gg.trans s) r4,Rp.mono s r5⟩
end
section
variable {t:TA}{A B:Type}[RpA A][RpA B]{mA:Option A}
theorem av_nil:AV K DE σ G (some ()):=fun G1 s1 a ha H sH Q k=>by
 cases ha;exact k _ _ _ (.refl sH) rfl
theorem NO (ea:EV K ta σ G ma)(er:AV K t σ G mA):AV K (B5 ta t) σ G (ma.bind fun a=>mA.bind fun r=>some (a,r)):=by
 clear 7;obtain ⟨a,ha,hc⟩:=qaA.mp hc;obtain ⟨r,hr,hc⟩:=qaA.mp hc;cases hc;clear 8 ea a ha;refine er G2 (s1.trans x2.gg) r hr H2 x2.gh _ fun vs G3 H3 x3 hp=>?_;exact k _ _ _ (x2.trans x3) ⟨v,vs,rfl,Rp.mono x3.gg r2,hp⟩
def spM (K:FZ9){A:Type}{ρ:Type}[RpA A][Rp ρ](m:A->Option ρ):Sp:=fun vs H Q _ =>
 ∃ G a r,Same G H/\RpA.rel K G vs a/\m a=some r/\∀ v G2 H2,Ext G H G2 H2->Rp.rel K G2 v r->Q v H2
theorem GF {A:Type}{ρ:Type}[RpA A][Rp ρ]{m:A->Option ρ}{vs:List V}{H:Hp}{Q:VK}{E:XK}(h:spM K m vs H Q E):vs.length=RpA.n A:=by
 obtain ⟨G,a,r,_,h,_⟩:=h;exact RpA.len h
theorem Bx {la:Option (List α)}(ea:EV K ta σ G la):EV K (tCB (SL K) (B5 ta DE)) σ G (la.bind fun a=>some (a.length:Int)):=by
 clear 7;obtain ⟨a,ha,hc⟩:=qaA.mp hc;cases hc;clear 8 ea a ha;obtain ⟨l,xs,rfl,h,z,p⟩:=r2;exact ⟨xs,.inl (.inl (x2.gh.rd h)),by rw [Paired.length p];exact k _ _ _ x2 rfl⟩
theorem L1 {la:Option (List α)}(ea:EV K ta σ G la):FV K (tCB (fun xs H Q=>∃ p ys,xs=[.ref p]/\(SqL K H p ys\/SqT K H p ys)/\∀ l,H l=none->Q (.ref l) (upd H l (.lst ys))) (B5 ta DE)) σ G la:=by
 intro G1 s1 a ha H sH Q k;clear 8 ea a ha;obtain ⟨l,xs,rfl,h,z,p⟩:=r2;exact ⟨l,xs,rfl,.inl (.inl (x2.gh.rd h)),MX x2.gh z p (FV.mono x2 k)⟩
end
inductive TyS (K:FZ9)(H:Hp):V->String->Prop where
 | non:TyS K H .non "NoneType"
 | bl (x:Bool):TyS K H (.bl x) "bool"
 | int (i:Int):TyS K H (.int i) "int"
 | str (x:Str):TyS K H (.str x) "str"
 | lst {a:Addr}{xs:List V}(e:SqL K H a xs):TyS K H (.ref a) "list"
 | tup {a:Addr}{xs:List V}(e:SqT K H a xs):TyS K H (.ref a) "tuple"
 | dK {a:Addr}{kvs:List (Key × V)}(e:Rd H a (.dK kvs)):TyS K H (.ref a) "dict"
 | dT {a:Addr}{kvs:List (List Key × V)}(e:Rd H a (.dT kvs)):TyS K H (.ref a) "dict"
def rInst (K:FZ9):List V->Hp->VK->Prop:=fun vs H Q=>∃ x t T b,vs=[x,.ty T]/\TyS K H x t/\kitC t T=some b/\Q (.bl b) H
theorem SS {X:Cx}:Ek X (.builtin "isinstance") (rInst X.K):=by
 intro pins s σ H vs us Q I r h;obtain ⟨x,t,T,b,rfl,ty,e,q⟩:=h;obtain ⟨u,w',rfl,rx,r2⟩:=vals2 r;obtain rfl:w'=Value.type T:=r2;have e:=kit_of (K:=X.K) e;have fin:∀ tk,EP X pins σ Q (.bool b) { s with toks:=tk }:=fun tk=>⟨.bl b,H,I.tok tk,rfl,q⟩
 cases ty with
 | non=>cases (show u=Value.none from rx);exact PySem.W.kia_one PySem.W.kitx_none I.kIn True.intro e (fun z=>nomatch z) fin
 | bl y=>cases (show u=Value.bool y from rx);exact PySem.W.kia_one PySem.W.kitx_bool I.kIn True.intro e (fun z=>nomatch z) fin
 | int i=>obtain ⟨t,q'⟩:=(show ∃ t,u=Value.int i t from rx);cases q';exact PySem.W.kia_one PySem.W.kitx_int I.kIn True.intro e (fun z=>nomatch z) fin
 | str y=>obtain ⟨t,q'⟩:=(show ∃ t,u=Value.str y t from rx);cases q';exact PySem.W.kia_one PySem.W.kitx_str I.kIn True.intro e (fun z=>nomatch z) fin
 | @lst a xs ea =>
  cases (show u=Value.ref a from rx);obtain ⟨its,_,pl,_⟩:=I.list ea;obtain ⟨o,n,h1,h2,_⟩:=pl;exact PySem.W.kia_one PySem.W.kitx_list I.kIn ⟨o,h1,h2⟩ e (fun z=>nomatch z) fin
 | @tup a xs ea =>
  cases (show u=Value.ref a from rx);obtain ⟨its,_,pl,_⟩:=I.tuple ea;obtain ⟨o,h1,h2,_⟩:=pl;exact PySem.W.kia_one PySem.W.kitx_tuple I.kIn ⟨o,h1,h2⟩ e (fun z=>nomatch z) fin
 | @dK a kvs ea =>
  cases (show u=Value.ref a from rx);obtain ⟨_,_,vs,_,p⟩:=ea.ok I.hok;obtain ⟨o,es,ep,h1,h2,_⟩:=p;exact PySem.W.kia_one PySem.W.kitx_dict I.kIn ⟨o,h1,h2.1⟩ e (fun z=>nomatch z) fin
 | @dT a kvs ea =>
  cases (show u=Value.ref a from rx);obtain ⟨_,_,xs,_,o,es,ep,h1,h2,_⟩:=ea.ok I.hok;exact PySem.W.kia_one PySem.W.kitx_dict I.kIn ⟨o,h1,h2.1⟩ e (fun z=>nomatch z) fin
class RpT (α:Type) [Rp α] where
 tn:String
 ty:∀ {K:FZ9}{H:Hp}{v:V}{a:α},Rp.rel K H v a->TyS K H v tn
theorem TyS.mono {H H':Hp}{v:V}{t:String}(s:Same H H')(h:TyS K H v t):TyS K H' v t:=by
 cases h with
 | non=>exact .non
 | bl=>exact .bl _
 | int=>exact .int _
 | str=>exact .str _
 | lst e=>exact .lst (s.seq e)
 | tup e=>exact .tup (s.tup e)
 | dK e=>exact .dK (s.rd e)
 | dT e=>exact .dT (s.rd e)
theorem EqTy.imp {k:Nat}{α:Type}[DecidableEq α]{R R':Hp->V->α->Prop}(E:EqTy K k R)(h:∀ H v a,R' H v a->R H v a):EqTy K k R' :=
 ⟨fun hK I a b=>E.fn hK I (h _ _ _ a) (h _ _ _ b),fun A hK I hu r1 r2 a b=>E.eq A hK I hu r1 r2 (h _ _ _ a) (h _ _ _ b),fun A hK I hu r1 r2 a b=>E.rc A hK I hu r1 r2 (h _ _ _ a) (h _ _ _ b)⟩
class RpE (α:Type) [Rp α] [DecidableEq α] where
 k:Nat
 ty:∀ K:FZ9,EqTy K k (Rp.rel (α:=α) K)
instance reInt:RpE Int:=⟨0,fun _=>eqInt⟩
instance reStr:RpE Str:=⟨0,fun _=>eqStr.imp fun _ _ _ h=>h.1⟩
instance reList {α:Type}[Rp α][DecidableEq α][RpE α]:RpE (List α):=⟨RpE.k α+1,fun K=>(eqLst (RpE.ty K)).imp fun _ _ _ ⟨l,xs,e,h,_,p⟩=>⟨l,xs,e,.inl h,p⟩⟩
theorem EqTy.up {k j:Nat}{α:Type}[DecidableEq α]{R:Hp->V->α->Prop}(E:EqTy K k R)(h:k<=j):EqTy K j R :=
 ⟨fun hK I a b=>E.fn hK I a b,fun A hK I hu r1 r2 a b=>E.eq A hK I (by omega) r1 r2 a b,fun A hK I hu r1 r2 a b=>E.rc A hK I (by omega) r1 r2 a b⟩
instance rePair {α β:Type}[Rp α][DecidableEq α][RpE α][Rp β][DecidableEq β][RpE β]:RpE (α × β) :=
 ⟨max (RpE.k α) (RpE.k β)+1,fun K=>(eqPair ((RpE.ty (α:=α) K).up (Nat.le_max_left _ _)) ((RpE.ty (α:=β) K).up (Nat.le_max_right _ _)))⟩
section
variable {α:Type}[Rp α][DecidableEq α]{m1 m2:Option α}
def rEqD (K:FZ9)(α:Type)[Rp α][DecidableEq α]:R2:=fun x y H Q=>∃ a b:α,Rp.rel K H x a/\Rp.rel K H y b/\Q (.bl (decide (a=b))) H
def rNeD (K:FZ9)(α:Type)[Rp α][DecidableEq α]:R2:=fun x y H Q=>∃ a b:α,Rp.rel K H x a/\Rp.rel K H y b/\Q (.bl (!decide (a=b))) H
theorem op_eqM {X:Cx}{j:Nat}(α:Type)[Rp α][DecidableEq α][RpE α](hr:Room j X.A)(hk:RpE.k α<=10):OpR X (compareOp .Eq) (rEqD X.K α):=op_eqD (RpE.ty X.K) hr hk
theorem op_neM {X:Cx}{j:Nat}(α:Type)[Rp α][DecidableEq α][RpE α](hr:Room j X.A)(hk:RpE.k α<=10):OpR X (compareOp .NotEq) (rNeD X.K α):=op_neD (RpE.ty X.K) hr hk
theorem ev_eq (ea:EV K ta σ G m1)(eb:EV K tb σ G m2):EV K (tOp (rEqD K α) ta tb) σ G (m1.bind fun a=>m2.bind fun b=>some (decide (a=b))) :=
 C5 (fun s ra rb e Q k=>by cases e;exact ⟨_,_,Rp.mono s ra,Rp.mono s rb,k _ _ _ (.refl s) rfl⟩) ea eb
theorem ev_ne (ea:EV K ta σ G m1)(eb:EV K tb σ G m2):EV K (tOp (rNeD K α) ta tb) σ G (m1.bind fun a=>m2.bind fun b=>some (!decide (a=b))) :=
 C5 (fun s ra rb e Q k=>by cases e;exact ⟨_,_,Rp.mono s ra,Rp.mono s rb,k _ _ _ (.refl s) rfl⟩) ea eb
end
end
inductive Fl (S ρ:Type) where
 | nx (s:S)
 | bk (s:S)
 | rt (r:ρ)
def Ct {α S ρ:Type}(f:α->S->Option (Fl S ρ)):List α->S->Option (Fl S ρ)
 | [],s=>some (.nx s)
 | a::as,s=>(f a s).bind fun fl=>match fl with
  | .nx s'=>Ct f as s'
  | .bk s'=>some (.nx s')
  | .rt r=>some (.rt r)
def FK {S ρ:Type}(c:S->Option Bool)(f:S->Option (Fl S ρ)):Nat->S->Option (Fl S ρ)
 | 0,_=>none
 | n+1,s=>(c s).bind fun b=>cond b ((f s).bind fun fl=>match fl with
  | .nx s'=>FK c f n s'
  | .bk s'=>some (.nx s')
  | .rt r=>some (.rt r)) (some (.nx s))
def KQ:Nat:=16777216
def DA {α β:Type}(fc:α->Option Bool)(fe:α->Option β):List α->Option (List β)
 | []=>some []
 | a::r=>(fc a).bind fun b=>cond b ((fe a).bind fun y=>(DA fc fe r).bind fun ys=>some (y::ys)) (DA fc fe r)
def Cw {α β:Type}(fe:α->Option β):List α->Option (List β)
 | []=>some []
 | a::r=>(fe a).bind fun y=>(Cw fe r).bind fun ys=>some (y::ys)
theorem Ig {α β:Type}(fe:α->Option β):∀ as,DA (fun _=>some true) fe as=Cw fe as
 | []=>rfl
 | a::r=>by
  show ((fe a).bind fun y=>(DA (fun _=>some true) fe r).bind fun ys=>some (y::ys))=_;rw [Ig fe r]
  rfl
def Iv (lo hi:Int):Option (List Int):=if (-(2 ^ 62)<=lo/\lo<2 ^ 62/\-(2 ^ 62)<=hi/\hi<2 ^ 62)/\(hi - lo).toNat<=sizeLine then some ((List.range (hi - lo).toNat).map fun (i:Nat)=>lo+(i:Int)) else none
section
variable {K:FZ9}{σ:St}{G:Hp}{α β γ δ:Type}[Rp α][Rp β][Rp γ][Rp δ]{ta tb tc td:TE}{ma:Option α}{mb:Option β}{mc:Option γ}{md:Option δ}
def IW (K:FZ9){α:Type}[Rp α](wi:TI)(σ:St)(G:Hp)(m:Option (List α)):Prop :=
 ∀ G1,Same G G1->∀ a,m=some a->∀ H,Same G1 H->∀ R:It->Hp->Prop,(∀ J vs G2 H2,Ext G1 H G2 H2->Yields J G2 vs->vs.length<=sizeLine->Paired (Rp.rel K G2) vs a->R J H2)->wi σ H R
theorem QL {a:Addr}{xs:List V}{H:Hp}(h:SqT K H a xs):Yields (Itt K a) H xs where
 go:=fun i H' s hi=>⟨xs,xs[i],s.tup h,by simp [hi]⟩
 stop:=fun H' s=>⟨xs,s.tup h,qfB _⟩
 yld:=fun i H' v H'' s _ y=>⟨y.1,y.2 xs (s.tup h)⟩
theorem BB {la:Option (List α)}(ea:EV K ta σ G la):IW K (iAny K ta) σ G la:=by
 intro G1 s1 a ha H sH R k;clear 8 ea a ha;obtain ⟨l,xs,rfl,h,z,p⟩:=r2;exact .inl ⟨⟨xs,.inl (x2.gh.rd h)⟩,k _ xs G2 H2 x2 (Os (.inl h)) z p⟩
theorem iw_tup {la:Option (Tp α)}(ea:EV K ta σ G la):IW K (iAny K ta) σ G (la.bind fun a=>some a.l):=by
 intro G1 s1 a ha H sH R k;obtain ⟨b,hb,ha⟩:=qaA.mp ha;cases ha;clear 8 ea b hb;obtain ⟨l,xs,rfl,h,z,p⟩:=r2;exact .inr ⟨⟨xs,x2.gh.tup h⟩,k _ xs G2 H2 x2 (QL h) z p⟩
def Bg (x:Str):List Str:=x.cps.toList.map fun c=>(⟨#[c]⟩:Str)
theorem O3 (x:Str)(H:Hp):Paired (Rp.rel K H) (Fe x) (Bg x):=by
 unfold Fe Bg
 induction x.cps.toList with
 | nil=>exact .nil
 | cons c r ih=>exact .cons ⟨rfl,by show 1<=sizeLine;decide⟩ ih
theorem O6 {sa:Option Str}(ea:EV K ta σ G sa):IW K (iAny K ta) σ G (sa.bind fun a=>some (Bg a)):=by
 intro G1 s1 a ha H sH R k;obtain ⟨b,hb,ha⟩:=qaA.mp ha;cases ha;clear 8 ea b hb;obtain ⟨rfl,z⟩:=r2;exact k _ (Fe b) G2 H2 x2 (QP b G2) (by unfold Fe;rw [qeA];exact z) (O3 b G2)
theorem KG (H:Hp)(f:Nat->Int):∀ l:List Nat,Paired (Rp.rel K H) (l.map fun i=>V.int (f i)) (l.map fun i=>f i)
 | []=>.nil
 | a::r=>.cons rfl (KG H f r)
theorem Di {ia:Option Int}(ea:EV K ta σ G ia):IW K (iRng1 (B5 ta DE)) σ G (ia.bind fun j=>Iv 0 j):=by
 intro G1 s1 a ha H sH R k;obtain ⟨j,hj,ha⟩:=qaA.mp ha;obtain ⟨⟨hb,hz⟩,rfl⟩:=BZ ha;clear 8 ea j hj;cases r2;refine ⟨j,rfl,hb.2.2.1,hb.2.2.2,?_⟩;have e:(j - 0).toNat=j.toNat:=by omega
 rw [e] at hz k;exact k (Itr 0 j.toNat) _ G2 H2 x2 (Nx 0 j.toNat G2) (by rw [qeA,qiA];exact hz) (KG G2 (fun i=>(0:Int)+(i:Int)) _)
theorem tv_yes:TV MG σ G (some true):=fun G1 s1 a ha H sH Q k=>by
 cases ha;exact k _ _ (.refl sH)
theorem Paired.getR {F:V->α->Prop}:∀ {xs:List V}{as:List α}{i:Nat}{v:V},Paired F xs as->xs[i]? = some v->∃ a,as[i]? = some a/\F v a
 | _,_,_,_,.nil,e=>by simp at e
 | _,_,0,_,.cons r _,e=>by simp at e;subst e;exact ⟨_,rfl,r⟩
 | _,_,i+1,_,.cons _ t,e=>Paired.getR (i:=i) t (by simpa using e)
theorem JD {cap:List Nat}{wi:TI}{tt:TT}{te:TE}{mi:Option (List α)}{fc:α->Option Bool}{fe:α->Option β}(ei:IW K wi σ G mi)
  (hb:∀ (x:V) (a:α) (G1:Hp),Same G G1->Rp.rel K G1 x a->TV tt ((OT cap σ).set 0 (some x)) G1 (fc a)/\EV K te ((OT cap σ).set 0 (some x)) G1 (fe a)) :
  FV K (Me cap wi tt te) σ G (mi.bind fun as=>DA fc fe as):=by
 clear 7;obtain ⟨as,has,hc⟩:=qaA.mp hc;refine ei G1 s1 as has H sH _ fun J vs Ga Ha xa Y hz pr p hp=>?_;have hla:=Paired.length pr
 refine ⟨fun i m ys H2=>m=vs.length - i/\i<=vs.length/\∃ G2 bs cs,Ext Ga Ha G2 H2/\G2 p=none/\H2 p=some (.lst ys)/\ys.length<=i/\Paired (Rp.rel K G2) ys bs/\DA fc fe (as.drop i)=some cs/\c=bs++cs,
  ⟨vs.length,by simp,qeC _,Ga,[],c,.own xa.gh hp,xa.gh.free hp,AQ,qfB _,.nil,hc,rfl⟩,?_⟩
 rintro i m ys H2 ⟨rfl,hi,G2,bs,cs,x2,hg,hh,hy,hpr,hcs,rfl⟩;by_cases hlt:i<vs.length
 ·refine .inr ⟨Y.go i _ (x2.gg.trans x2.gh) hlt,fun ys' H'=>∃ G2 bs' cs',Ext Ga Ha G2 H'/\G2 p=none/\H' p=some (.lst ys')/\ys'.length<=i+1/\Paired (Rp.rel K G2) ys' bs'/\DA fc fe (as.drop (i+1))=some cs'/\bs++cs=bs'++cs',
   fun ys' H' ⟨G3,bs',cs',h⟩=>⟨vs.length - (i+1),by omega,rfl,hlt,G3,bs',cs',h⟩,fun x H3 y=>?_⟩
  obtain ⟨rfl,hx⟩:=Y.yld i _ x H3 (x2.gg.trans x2.gh) hlt y;obtain ⟨a,hai,ra⟩:=Paired.getR pr hx
  have hd:as.drop i=a::as.drop (i+1):=by
   obtain ⟨h1,h2⟩:=quA.mp hai;rw [List.drop_eq_getElem_cons h1,h2]
  rw [hd] at hcs;obtain ⟨b,hbb,hcs⟩:=qaA.mp hcs;have B:=hb x a G2 (s1.trans (xa.gg.trans x2.gg)) (Rp.mono x2.gg ra);refine B.1 G2 (.refl _) b hbb _ x2.gh _ fun G5 H5 x5=>?_;have hp5:H5 p=some (.lst ys):=x5.hh _ _ hh;have hg5:G5 p=none:=x5.no p hg (by rw [hh];exact fun z=>nomatch z)
  cases b with
  | false =>
   rw [if_neg quB];exact ⟨G5,bs,cs,x2.trans x5,hg5,hp5,by omega,Paired.imp' (fun _ _ r=>Rp.mono x5.gg r) hpr,hcs,rfl⟩
  | true =>
   rw [if_pos rfl];obtain ⟨z,hze,hcs⟩:=qaA.mp hcs;obtain ⟨cs',hcs',hcs⟩:=qaA.mp hcs;cases hcs;refine B.2 G5 x5.gg z hze H5 x5.gh _ fun v G6 H6 x6 r6=>?_;have hp6:H6 p=some (.lst ys):=x6.hh _ _ hp5;have hg6:G6 p=none:=x6.no p hg5 (by rw [hp5];exact fun z=>nomatch z);refine ⟨hp6,by omega,G6,bs++[z],cs',((x2.trans x5).trans x6).put hp hg6,hg6,AQ,?_,Paired.app (Paired.imp' (fun _ _ r=>Rp.mono (x5.trans x6).gg r) hpr) (.cons r6 .nil),hcs',by simp⟩;rw [qfA,qhA];omega
 ·have e:i=vs.length:=by omega
  subst e;have hd:as.drop vs.length=[]:=List.drop_eq_nil_of_le (by omega);rw [hd] at hcs;cases hcs;refine .inl ⟨Y.stop _ (x2.gg.trans x2.gh),?_⟩;rw [qdB] at k;exact k p ys G2 H2 (xa.trans x2) (xa.hh.free hp) hg hh (by omega) hpr
theorem D6 {cap:List Nat}{wi:TI}{te:TE}{mi:Option (List α)}{fe:α->Option β}(ei:IW K wi σ G mi)
  (hb:∀ (x:V) (a:α) (G1:Hp),Same G G1->Rp.rel K G1 x a->EV K te ((OT cap σ).set 0 (some x)) G1 (fe a)) :
  FV K (Me cap wi MG te) σ G (mi.bind fun as=>Cw fe as):=by
 have h:=JD (tt:=MG) (fc:=fun _=>some true) ei fun x a G1 s r=>⟨tv_yes,hb x a G1 s r⟩;have e:(fun as=>DA (fun _=>some true) fe as)=fun as=>Cw fe as:=funext (Ig fe);rw [e] at h;exact h
def LS (z:Str)(ys:List Str):Option Str:=if (ys.map (·.length)).sum+ys.length * z.length<=16777216 then some (Txt.join z ys) else none
theorem Kg {H:Hp}:∀ {xs:List V}{ys:List Str},Paired (Rp.rel K H) xs ys->xs=ys.map V.str
 | _,_,.nil=>rfl
 | _,_,.cons r t=>by
  obtain ⟨rfl,_⟩:=r;rw [Kg t]
  rfl
theorem R4 (z:Str):∀ (ps:List Str) (acc:Array Nat),(ps.foldl (fun acc p=>acc++z.cps++p.cps) acc).size=acc.size+(ps.map (·.length)).sum+ps.length * z.length
 | [],acc=>by simp
 | p::ps,acc=>by
  rw [qdC,R4 z ps];simp only [Array.size_append,qaB,List.sum_cons,qgA,Nat.succ_mul];have:p.cps.size=p.length:=rfl;have:z.cps.size=z.length:=rfl;omega
theorem HL (z:Str)(ys:List Str):(Txt.join z ys).length<=(ys.map (·.length)).sum+ys.length * z.length:=by
 show ((ys.drop 1).foldl (fun acc p=>acc++z.cps++p.cps) (ys.headD Str.empty).cps).size<=_;rw [R4]
 cases ys with
 | nil=>simp;rfl
 | cons a r =>
  simp only [List.headD_cons,List.drop_succ_cons,List.drop_zero,qaB,List.sum_cons,qgA,Nat.succ_mul];have:a.cps.size=a.length:=rfl;omega
theorem L6 {sa:Option Str}{lb:Option (List Str)}(ea:EV K ta σ G sa)(eb:EV K tb σ G lb):EV K (tBM K "str" (rJoin K) ta (B5 tb DE)) σ G (sa.bind fun z=>lb.bind fun ys=>LS z ys):=by
 clear 7;obtain ⟨a,ha,hc⟩:=qaA.mp hc;obtain ⟨b,hb,hc⟩:=qaA.mp hc;obtain ⟨hz,rfl⟩:=BZ hc;clear 8 ea a ha;obtain ⟨rfl,za⟩:=r2;refine ⟨rfl,?_⟩;refine eb G2 (s1.trans x2.gg) b hb H2 x2.gh _ fun u G3 H3 x3 r3=>?_;obtain ⟨l,xs,rfl,h,z,p⟩:=r3;obtain rfl:=Kg p;exact ⟨a,l,b,rfl,rfl,.inl (x3.gh.rd h),hz,k _ _ _ (x2.trans x3) ⟨rfl,qgB (HL _ _) (by rw [qoB];exact hz)⟩⟩
theorem Gr {mo:Option (Option α)}(hn:∀ {G:Hp}{v:V}{a:α},Rp.rel K G v a->v ≠ .non)(ea:EV K ta σ G mo) :
  EV K (tOp (fun x y H Q=>y = .non/\Q (.bl (decide (x = .non))) H) ta (tC .non)) σ G (mo.bind fun o=>some o.isNone):=by
 clear 7;obtain ⟨a,ha,hc⟩:=qaA.mp hc;cases hc;refine ea G1 s1 a ha H sH _ fun v G2 H2 x2 r2=>⟨rfl,?_⟩;refine k _ _ _ x2 ?_;show V.bl _=V.bl _
 congr 1
 cases a with
 | none=>exact decide_eq_true r2
 | some a=>exact decide_eq_false (hn r2)
theorem L0 {mo:Option (Option α)}(hn:∀ {G:Hp}{v:V}{a:α},Rp.rel K G v a->v ≠ .non)(ea:EV K ta σ G mo) :
  EV K (tOp (fun x y H Q=>y = .non/\Q (.bl (!decide (x = .non))) H) ta (tC .non)) σ G (mo.bind fun o=>some o.isSome):=by
 clear 7;obtain ⟨a,ha,hc⟩:=qaA.mp hc;cases hc;refine ea G1 s1 a ha H sH _ fun v G2 H2 x2 r2=>⟨rfl,?_⟩;refine k _ _ _ x2 ?_;show V.bl _=V.bl _
 congr 1
 cases a with
 | none=>rw [decide_eq_true (show v=V.non from r2)];rfl
 | some a=>rw [decide_eq_false (hn (show Rp.rel K G2 v a from r2))];rfl
theorem O4 {G:Hp}{v:V}{a:Int}(h:Rp.rel K G v a):v ≠ .non:=by cases h;exact fun z=>nomatch z
theorem nn_list {G:Hp}{v:V}{a:List α}(h:Rp.rel K G v a):v ≠ .non:=by obtain ⟨_,_,rfl,_⟩:=h;exact fun z=>nomatch z
theorem Qn {G:Hp}{v:V}{a:α × β}(h:Rp.rel K G v a):v ≠ .non:=by obtain ⟨_,_,_,rfl,_⟩:=h;exact fun z=>nomatch z
end
section
variable {K:FZ9}{σ:St}{G H:Hp}{α β:Type}[Rp α][Rp β]{te:TE}{tt:TT}{t u rest:TS}{D:Ends}{i:Nat}{a:α}{m:Option α}
theorem AW (e:EV K te σ G m)(hm:m=some a)(s:Same G H)(k:∀ v G2 H2,Ext G H G2 H2->Rp.rel K G2 v a->rest D (σ.set i (some v)) H2):Cm (Fv te (CB i)) rest D σ H:=e.run hm s k
theorem Af (e:EV K te σ G m)(hm:m=some a)(s:Same G H)(k:∀ v G2 H2,Ext G H G2 H2->Rp.rel K G2 v a->D.rt v H2):Cm (tRet te) rest D σ H:=e.run hm s k
theorem Bf {b:Bool}{m:Option Bool}(e:TV tt σ G m)(hm:m=some b)(s:Same G H)(k:∀ G2 H2,Ext G H G2 H2->if b=true then t { D with nx:=rest D } σ H2 else u { D with nx:=rest D } σ H2) :
  Cm (IH tt t u) rest D σ H:=e.run hm s k
theorem Ev (Pv:St->Hp->Prop)(h:∀ nx:St->Hp->Prop,(∀ σ' H',Pv σ' H'->nx σ' H')->Cm t DW { D with nx:=nx } σ H)(key:∀ σ' H',Pv σ' H'->rest D σ' H'):Cm t rest D σ H:=h (rest D) key
structure LoopOb (K:FZ9){α S ρ:Type}[Rp α](RR:ρ->V->Hp->Hp->Prop)(f:α->S->Option (Fl S ρ))(g:TG)(tb:TS)(D:Ends)(σ:St)(G2 H2:Hp)(as:List α)(s0:S)(res:Fl S ρ)(RS:S->St->Hp->Hp->Prop):Prop where
 start:RS s0 σ G2 H2
 keep:∀ s σ' G' H',RS s σ' G' H'->Same G2 G'/\Same G' H'
 step:∀ (x:V) (a:α) (s:S) (σ1:St) (G1 H1:Hp) (fl:Fl S ρ),a∈as->RS s σ1 G1 H1->Rp.rel K G1 x a->f a s=some fl->∀ D':Ends,(∀ s' σ' G' H',fl = .nx s'->RS s' σ' G' H'->D'.nx σ' H')->(∀ s' σ' G' H',fl = .nx s'->RS s' σ' G' H'->D'.ct σ' H') ->
  (∀ s' σ' G' H',fl = .bk s'->RS s' σ' G' H'->D'.bk σ' H')->(∀ r v G' H',fl = .rt r->RR r v G' H'->D'.rt v H')->g x σ1 H1 fun σ2 H2=>tb D' σ2 H2
 nxt:∀ s σ' G' H',res = .nx s->RS s σ' G' H'->D.nx σ' H'
 rtn:∀ r v G' H',res = .rt r->RR r v G' H'->D.rt v H'
theorem CC {S ρ:Type}{RR:ρ->V->Hp->Hp->Prop}{f:α->S->Option (Fl S ρ)}{wi:TI}{g:TG}{tb:TS}{mi:Option (List α)}{as:List α}{s0:S}{res:Fl S ρ}(ei:IW K wi σ G mi)(hm:mi=some as)(hf:Ct f as s0=some res)(sg:Same G H)
  (k:∀ G2 H2,Ext G H G2 H2->∃ RS,LoopOb K RR f g tb { D with nx:=rest D } σ G2 H2 as s0 res RS):Cm (tFor wi g tb) rest D σ H:=by
 refine ei G (.refl G) as hm H sg _ fun J vs G2 H2 x2 Y hz pr=>?_;obtain ⟨RS,L⟩:=k G2 H2 x2;have hla:=Paired.length pr;refine ⟨fun i m σ' H'=>m=vs.length - i/\i<=vs.length/\∃ s G',RS s σ' G' H'/\Ct f (as.drop i) s=some res,⟨vs.length,by simp,qeC _,s0,G2,L.start,hf⟩,?_⟩;rintro i m σ' H' ⟨rfl,hi,s,G',rs,hfo⟩;obtain ⟨k1,k2⟩:=L.keep _ _ _ _ rs;by_cases hlt:i<vs.length
 ·refine .inr ⟨Y.go i _ (k1.trans k2) hlt,fun σ'' H''=>∃ s' G'',RS s' σ'' G'' H''/\Ct f (as.drop (i+1)) s'=some res,fun σ'' H'' ⟨s',G'',h⟩=>⟨vs.length - (i+1),by omega,rfl,hlt,s',G'',h⟩,fun x H3 y=>?_⟩;obtain ⟨rfl,hx⟩:=Y.yld i _ x H3 (k1.trans k2) hlt y;obtain ⟨a,hai,ra⟩:=Paired.getR pr hx
  have hd:as.drop i=a::as.drop (i+1):=by
   obtain ⟨h1,h2⟩:=quA.mp hai;rw [List.drop_eq_getElem_cons h1,h2]
  rw [hd] at hfo;obtain ⟨fl,hfl,hfo⟩:=qaA.mp hfo;refine L.step x a s σ' G' _ fl (qtA hai) rs (Rp.mono k1 ra) hfl _ ?_ ?_ ?_ ?_
  ·intro s' σ'' G'' H'' e r;subst e;exact ⟨s',G'',r,hfo⟩
  ·intro s' σ'' G'' H'' e r;subst e;exact ⟨s',G'',r,hfo⟩
  ·intro s' σ'' G'' H'' e r;subst e;exact L.nxt s' σ'' G'' H'' (qjB hfo).symm r
  ·intro r v G'' H'' e rl;subst e;exact L.rtn r v G'' H'' (qjB hfo).symm rl
 ·have e:i=vs.length:=by omega
  subst e;have hd:as.drop vs.length=[]:=List.drop_eq_nil_of_le (by omega);rw [hd] at hfo;exact .inl ⟨Y.stop _ (k1.trans k2),L.nxt s σ' G' H' (qjB hfo).symm rs⟩
structure WhileOb (K:FZ9){S ρ:Type}(RR:ρ->V->Hp->Hp->Prop)(c:S->Option Bool)(f:S->Option (Fl S ρ))(tt:TT)(tb:TS)(D:Ends)(σ:St)(G2 H2:Hp)(s0:S)(res:Fl S ρ)(RS:S->St->Hp->Hp->Prop):Prop where
 start:RS s0 σ G2 H2
 keep:∀ s σ' G' H',RS s σ' G' H'->Same G' H'
 test:∀ s σ' G' H' b,RS s σ' G' H'->c s=some b->∀ Q:Bool->Hp->Prop,(∀ G'' H'',RS s σ' G'' H''->Q b H'')->tt σ' H' Q
 step:∀ (s:S) (σ1:St) (G1 H1:Hp) (fl:Fl S ρ),RS s σ1 G1 H1->f s=some fl->c s=some true->∀ D':Ends,(∀ s' σ' G' H',fl = .nx s'->RS s' σ' G' H'->D'.nx σ' H')->(∀ s' σ' G' H',fl = .nx s'->RS s' σ' G' H'->D'.ct σ' H') ->
  (∀ s' σ' G' H',fl = .bk s'->RS s' σ' G' H'->D'.bk σ' H')->(∀ r v G' H',fl = .rt r->RR r v G' H'->D'.rt v H')->tb D' σ1 H1
 nxt:∀ s σ' G' H',res = .nx s->RS s σ' G' H'->D.nx σ' H'
 rtn:∀ r v G' H',res = .rt r->RR r v G' H'->D.rt v H'
theorem HR {S ρ:Type}{RR:ρ->V->Hp->Hp->Prop}{c:S->Option Bool}{f:S->Option (Fl S ρ)}{tb:TS}{n:Nat}{s0:S}{res:Fl S ρ}(hf:FK c f n s0=some res)(RS:S->St->Hp->Hp->Prop)
  (L:WhileOb K RR c f tt tb { D with nx:=rest D } σ G H s0 res RS):Cm (tWhile tt tb) rest D σ H:=by
 refine ⟨fun m σ' H'=>∃ s G',RS s σ' G' H'/\FK c f m s=some res,⟨n,s0,G,L.start,hf⟩,?_⟩;rintro m σ' H' ⟨s,G',rs,hw⟩
 cases m with
 | zero=>cases hw
 | succ m =>
  obtain ⟨b,hb,hw⟩:=qaA.mp hw;refine L.test s σ' G' H' b rs hb _ fun G'' H'' rs'=>?_
  cases b with
  | false=>exact Bm (L.nxt s σ' G'' H'' (qjB hw).symm rs')
  | true =>
   obtain ⟨fl,hfl,hw⟩:=qaA.mp hw;refine Bn ⟨fun σ2 H2=>∃ s' G2,RS s' σ2 G2 H2/\FK c f m s'=some res,fun σ2 H2 h=>⟨m,Nat.lt_succ_self m,h⟩,?_⟩;refine L.step s σ' G'' H'' fl rs' hfl hb _ ?_ ?_ ?_ ?_
   ·intro s' σ2 G2 H2 e r;subst e;exact ⟨s',G2,r,hw⟩
   ·intro s' σ2 G2 H2 e r;subst e;exact ⟨s',G2,r,hw⟩
   ·intro s' σ2 G2 H2 e r;subst e;exact L.nxt s' σ2 G2 H2 (qjB hw).symm r
   ·intro r v G2 H2 e rl;subst e;exact L.rtn r v G2 H2 (qjB hw).symm rl
end
structure Own (K:FZ9){α:Type}[Rp α](G H:Hp)(v:V)(p:Addr)(vs:List V)(as:List α):Prop where
 v:v = .ref p
 g:G p=none
 h:H p=some (.lst vs)
 z:vs.length<=sizeLine
 p:Paired (Rp.rel K G) vs as
section
variable {K:FZ9}{σ:St}{G H G1 H1 G0 H0:Hp}{α β:Type}[Rp α][Rp β]{te ti:TE}{tt:TT}{t u rest:TS}{D:Ends}{i:Nat}{a:α}{m:Option α}{as:List α}{v:V}{p q:Addr}{vs:List V}
theorem Own.ext (o:Own K G H v p vs as)(x:Ext G H G1 H1):Own K G1 H1 v p vs as :=
 ⟨o.v,x.no p o.g (by rw [o.h];exact fun z=>nomatch z),x.hh _ _ o.h,o.z,Paired.imp' (fun _ _ r=>Rp.mono x.gg r) o.p⟩
theorem Own.put {ho:HO}(o:Own K G H v p vs as)(h:p≠q):Own K G (upd H q ho) v p vs as:=⟨o.v,o.g,by rw [At h];exact o.h,o.z,o.p⟩
theorem Own.tell (o:Own K G H v p vs as):Rp.rel K (upd G p (.lst vs)) v as:=⟨p,vs,o.v,.inl AQ,o.z,Paired.imp' (fun _ _ r=>Rp.mono (Same.new o.g) r) o.p⟩
theorem Own.same (o:Own K G H v p vs as)(s:Same G H):Same (upd G p (.lst vs)) H:=fun b x e=>by
 by_cases hb:b=p
 ·subst hb;rw [AQ] at e;rw [o.h];exact e
 ·rw [At hb] at e;exact s b x e
theorem DH {m:Option (List α)}{as:List α}(e:FV K te σ G m)(hm:m=some as)(s:Same G H)(k:∀ p vs G2 H2,Ext G H G2 H2->H p=none->Own K G2 H2 (.ref p) p vs as->rest D (σ.set i (some (.ref p))) H2):Cm (Fv te (CB i)) rest D σ H :=
 e G (.refl G) as hm H s _ fun p vs G2 H2 x h0 hg hh hz hp=>k p vs G2 H2 x h0 ⟨rfl,hg,hh,hz,hp⟩
def E4 {α:Type}(as:List α)(a:α):Option (List α):=if as.length<sizeLine then some (as++[a]) else none
theorem D3 {as':List α}(hσ:σ[i]? = some (some v))(o:Own K G H v p vs as)(e:EV K te σ G m)(hm:m=some a)(hp:E4 as a=some as')(s:Same G H)
  (k:∀ G2 H2 w,Ext G H G2 H2->Own K G2 (upd H2 p (.lst (vs++[w]))) v p (vs++[w]) as'->rest D σ (upd H2 p (.lst (vs++[w])))):Cm (KY (tBM K "list" GQ (FP i) (B5 te DE))) rest D σ H:=by
 obtain ⟨hl,rfl⟩:=BZ hp;have hlen:=Paired.length o.p;obtain ⟨rfl,og,oh,oz,op⟩:=o;refine ⟨_,hσ,.inl ⟨rfl,_,SqL.of oh⟩,?_⟩;refine e.run hm s fun w G2 H2 x r=>?_;refine ⟨p,vs,w,rfl,rfl,x.hh _ _ oh,by omega,?_⟩;refine k G2 H2 w x ⟨rfl,x.no p og (by rw [oh];exact fun z=>nomatch z),AQ,?_,Paired.app (Paired.imp' (fun _ _ r=>Rp.mono x.gg r) op) (.cons r .nil)⟩;rw [qfA,qhA];omega
structure TupK (H H':Hp):Prop where
 rd:∀ b xs,Rd H b (.tup xs)->Rd H' b (.tup xs)
 eq:∀ b xs,H b=some (.tup xs)->H' b=some (.tup xs)
class Imm (α:Type) [Rp α]:Prop where
 im:∀ {K:FZ9}{H H':Hp}{v:V}{a:α},TupK H H'->Rp.rel K H v a->Rp.rel K H' v a
instance imInt:Imm Int:=⟨fun _ h=>h⟩
def del (G:Hp)(p:Addr):Hp:=fun b=>if b=p then none else G b
theorem Jm {G:Hp}{p b:Addr}(h:b≠p):del G p b=G b:=by unfold del;rw [if_neg h]
theorem Pc {G:Hp}{p:Addr}:del G p p=none:=by unfold del;rw [if_pos rfl]
theorem Ext.del {ho:HO}{G2 H2:Hp}(hg:G p=none)(x:Ext (upd G p ho) H G2 H2):Ext G H (L2.del G2 p) H2 :=
 ⟨fun b o e=>by
  have hb:b≠p:=B7 e hg;rw [Jm hb]
  exact x.gg b o (by rw [At hb];exact e),fun b o e=>by
  by_cases hb:b=p
  ·subst hb;rw [Pc] at e;cases e
  ·rw [Jm hb] at e
   exact x.gh b o e,x.hh,fun b h1 h2=>by
  by_cases hb:b=p
  ·subst hb;exact Pc
  ·rw [Jm hb]
   exact x.no b (by rw [At hb];exact h1) h2⟩
theorem Imm.del {β:Type}[Rp β][Imm β]{G2:Hp}{w:V}{c:β}{ys:List V}(h:G2 p=some (.lst ys))(r:Rp.rel K G2 w c):Rp.rel K (L2.del G2 p) w c :=
 Imm.im ⟨fun b xs e=>by
  have hb:b≠p:=fun z=>by
   subst z;rcases e with e | ⟨o,e⟩<;>(rw [h] at e;cases e)
  rcases e with e | ⟨o,e⟩
  ·exact .inl (by rw [Jm hb];exact e)
  ·exact .inr ⟨o,by rw [Jm hb];exact e⟩,fun b xs e=>by
  have hb:b≠p:=fun z=>by
   subst z;rw [h] at e;cases e
  rw [Jm hb]
  exact e⟩ r
theorem EV.runB {β:Type}[Rp β][Imm β]{mb:Option β}{b:β}{Q:VK}(o:Own K G H v p vs as)(e:EV K te σ (upd G p (.lst vs)) mb)(hm:mb=some b)(s:Same G H)(k:∀ w G2 H2,Ext G H G2 H2->Rp.rel K G2 w b->Q w H2):te σ H Q :=
 e.run hm (o.same s) fun w G2 H2 x r=>k w (del G2 p) H2 (x.del o.g) (Imm.del (x.gg _ _ AQ) r)
theorem TV.runB {mb:Option Bool}{b:Bool}{Q:Bool->Hp->Prop}(o:Own K G H v p vs as)(e:TV tt σ (upd G p (.lst vs)) mb)(hm:mb=some b)(s:Same G H)(k:∀ G2 H2,Ext G H G2 H2->Q b H2):tt σ H Q :=
 e.run hm (o.same s) fun G2 H2 x=>k (del G2 p) H2 (x.del o.g)
end
section
variable {K:FZ9}{σ:St}{G:Hp}
theorem Ck {ρ A0:Type}[Rp ρ][Rp A0]{t0:TE}{m0:Option A0}{m:A0 × Unit->Option ρ}(e0:EV K t0 σ G m0):EV K (KR (spM K m) [] E0 (B5 t0 DE)) σ G (m0.bind fun a0=>m (a0,())):=by
 clear 7;obtain ⟨a0,ha0,hc⟩:=qaA.mp hc;refine e0 G1 s1 a0 ha0 H sH _ fun v0 G2 H2 x0 r0=>?_;have y0:=x0;exact ⟨G2,_,c,y0.gh,⟨v0,_,rfl,r0,rfl⟩,hc,fun v G9 H9 x9 r9=>k v G9 H9 (y0.trans x9) r9⟩
theorem Ak {ρ A0 A1:Type}[Rp ρ][Rp A0][Rp A1]{t0 t1:TE}{m0:Option A0}{m1:Option A1}{m:A0 × A1 × Unit->Option ρ}(e0:EV K t0 σ G m0)(e1:EV K t1 σ G m1):EV K (KR (spM K m) [] E0 (B5 t0 (B5 t1 DE))) σ G (m0.bind fun a0=>m1.bind fun a1=>m (a0,a1,())):=by
 clear 7;obtain ⟨a0,ha0,hc⟩:=qaA.mp hc;obtain ⟨a1,ha1,hc⟩:=qaA.mp hc;refine e0 G1 s1 a0 ha0 H sH _ fun v0 G2 H2 x0 r0=>?_;have y0:=x0;refine e1 G2 (s1.trans y0.gg) a1 ha1 H2 y0.gh _ fun v1 G3 H3 x1 r1=>?_;have y1:=y0.trans x1;exact ⟨G3,_,c,y1.gh,⟨v0,_,rfl,(Rp.mono x1.gg r0),⟨v1,_,rfl,r1,rfl⟩⟩,hc,fun v G9 H9 x9 r9=>k v G9 H9 (y1.trans x9) r9⟩
theorem EN {ρ A0 A1 A2:Type}[Rp ρ][Rp A0][Rp A1][Rp A2]{t0 t1 t2:TE}{m0:Option A0}{m1:Option A1}{m2:Option A2}{m:A0 × A1 × A2 × Unit->Option ρ}(e0:EV K t0 σ G m0)(e1:EV K t1 σ G m1)(e2:EV K t2 σ G m2):EV K (KR (spM K m) [] E0 (B5 t0 (B5 t1 (B5 t2 DE)))) σ G (m0.bind fun a0=>m1.bind fun a1=>m2.bind fun a2=>m (a0,a1,a2,())):=by
 clear 7;obtain ⟨a0,ha0,hc⟩:=qaA.mp hc;obtain ⟨a1,ha1,hc⟩:=qaA.mp hc;obtain ⟨a2,ha2,hc⟩:=qaA.mp hc;refine e0 G1 s1 a0 ha0 H sH _ fun v0 G2 H2 x0 r0=>?_;have y0:=x0;refine e1 G2 (s1.trans y0.gg) a1 ha1 H2 y0.gh _ fun v1 G3 H3 x1 r1=>?_;have y1:=y0.trans x1;refine e2 G3 (s1.trans y1.gg) a2 ha2 H3 y1.gh _ fun v2 G4 H4 x2 r2=>?_;have y2:=y1.trans x2;exact ⟨G4,_,c,y2.gh,⟨v0,_,rfl,(Rp.mono x2.gg (Rp.mono x1.gg r0)),⟨v1,_,rfl,(Rp.mono x2.gg r1),⟨v2,_,rfl,r2,rfl⟩⟩⟩,hc,fun v G9 H9 x9 r9=>k v G9 H9 (y2.trans x9) r9⟩
theorem Hq {ρ A0 A1 A2 A3:Type}[Rp ρ][Rp A0][Rp A1][Rp A2][Rp A3]{t0 t1 t2 t3:TE}{m0:Option A0}{m1:Option A1}{m2:Option A2}{m3:Option A3}{m:A0 × A1 × A2 × A3 × Unit->Option ρ}(e0:EV K t0 σ G m0)(e1:EV K t1 σ G m1)(e2:EV K t2 σ G m2)(e3:EV K t3 σ G m3):EV K (KR (spM K m) [] E0 (B5 t0 (B5 t1 (B5 t2 (B5 t3 DE))))) σ G (m0.bind fun a0=>m1.bind fun a1=>m2.bind fun a2=>m3.bind fun a3=>m (a0,a1,a2,a3,())):=by
 clear 7;obtain ⟨a0,ha0,hc⟩:=qaA.mp hc;obtain ⟨a1,ha1,hc⟩:=qaA.mp hc;obtain ⟨a2,ha2,hc⟩:=qaA.mp hc;obtain ⟨a3,ha3,hc⟩:=qaA.mp hc;refine e0 G1 s1 a0 ha0 H sH _ fun v0 G2 H2 x0 r0=>?_;have y0:=x0;refine e1 G2 (s1.trans y0.gg) a1 ha1 H2 y0.gh _ fun v1 G3 H3 x1 r1=>?_;have y1:=y0.trans x1;refine e2 G3 (s1.trans y1.gg) a2 ha2 H3 y1.gh _ fun v2 G4 H4 x2 r2=>?_;have y2:=y1.trans x2;refine e3 G4 (s1.trans y2.gg) a3 ha3 H4 y2.gh _ fun v3 G5 H5 x3 r3=>?_;have y3:=y2.trans x3;exact ⟨G5,_,c,y3.gh,⟨v0,_,rfl,(Rp.mono x3.gg (Rp.mono x2.gg (Rp.mono x1.gg r0))),⟨v1,_,rfl,(Rp.mono x3.gg (Rp.mono x2.gg r1)),⟨v2,_,rfl,(Rp.mono x3.gg r2),⟨v3,_,rfl,r3,rfl⟩⟩⟩⟩,hc,fun v G9 H9 x9 r9=>k v G9 H9 (y3.trans x9) r9⟩
theorem Ni {ρ A0 A1 A2 A3 A4:Type}[Rp ρ][Rp A0][Rp A1][Rp A2][Rp A3][Rp A4]{t0 t1 t2 t3 t4:TE}{m0:Option A0}{m1:Option A1}{m2:Option A2}{m3:Option A3}{m4:Option A4}{m:A0 × A1 × A2 × A3 × A4 × Unit->Option ρ}(e0:EV K t0 σ G m0)(e1:EV K t1 σ G m1)(e2:EV K t2 σ G m2)(e3:EV K t3 σ G m3)(e4:EV K t4 σ G m4):EV K (KR (spM K m) [] E0 (B5 t0 (B5 t1 (B5 t2 (B5 t3 (B5 t4 DE)))))) σ G (m0.bind fun a0=>m1.bind fun a1=>m2.bind fun a2=>m3.bind fun a3=>m4.bind fun a4=>m (a0,a1,a2,a3,a4,())):=by
 clear 7;obtain ⟨a0,ha0,hc⟩:=qaA.mp hc;obtain ⟨a1,ha1,hc⟩:=qaA.mp hc;obtain ⟨a2,ha2,hc⟩:=qaA.mp hc;obtain ⟨a3,ha3,hc⟩:=qaA.mp hc;obtain ⟨a4,ha4,hc⟩:=qaA.mp hc;refine e0 G1 s1 a0 ha0 H sH _ fun v0 G2 H2 x0 r0=>?_;have y0:=x0;refine e1 G2 (s1.trans y0.gg) a1 ha1 H2 y0.gh _ fun v1 G3 H3 x1 r1=>?_;have y1:=y0.trans x1;refine e2 G3 (s1.trans y1.gg) a2 ha2 H3 y1.gh _ fun v2 G4 H4 x2 r2=>?_;have y2:=y1.trans x2;refine e3 G4 (s1.trans y2.gg) a3 ha3 H4 y2.gh _ fun v3 G5 H5 x3 r3=>?_;have y3:=y2.trans x3;refine e4 G5 (s1.trans y3.gg) a4 ha4 H5 y3.gh _ fun v4 G6 H6 x4 r4=>?_;have y4:=y3.trans x4;exact ⟨G6,_,c,y4.gh,⟨v0,_,rfl,(Rp.mono x4.gg (Rp.mono x3.gg (Rp.mono x2.gg (Rp.mono x1.gg r0)))),⟨v1,_,rfl,(Rp.mono x4.gg (Rp.mono x3.gg (Rp.mono x2.gg r1))),⟨v2,_,rfl,(Rp.mono x4.gg (Rp.mono x3.gg r2)),⟨v3,_,rfl,(Rp.mono x4.gg r3),⟨v4,_,rfl,r4,rfl⟩⟩⟩⟩⟩,hc,fun v G9 H9 x9 r9=>k v G9 H9 (y4.trans x9) r9⟩
section
variable {ta tb:TE}{a b:Bool}{tt tu:TT}{mb:Option Bool}
theorem ev_andP (ea:EV K ta σ G (some a))(eb:EV K tb σ G (some b)):EV K (tAndV ta tb) σ G (some (a && b)):=(Lc ea eb).of (by cases a<;>rfl)
theorem TV.of {m m':Option Bool}(e:TV tt σ G m)(h:m=m'):TV tt σ G m':=h ▸ e
theorem tv_orP (ea:TV tt σ G (some a))(eb:TV tu σ G (some b)):TV (tOr tt tu) σ G (some (a || b)):=(Ch ea eb).of (by cases a<;>rfl)
theorem BY {α:Type}[Rp α]{te:TE}{mo:Option (Option α)}(e:EV K te σ G mo):EV K te σ G (mo.bind fun o=>o):=by
 clear 7;obtain ⟨o,ho,hc⟩:=qaA.mp hc;subst hc;exact e G1 s1 _ ho H sH Q k
theorem TruV.mono {G H:Hp}{v:V}{k:Bool}(s:Same G H)(h:TruV K v G k):TruV K v H k:=by
 cases v with
 | ref p =>
  rcases h with ⟨xs,hx,e⟩ | ⟨xs,hx,e⟩ | ⟨kvs,hx,e⟩
  ·exact .inl ⟨xs,s.seq hx,e⟩
  ·exact .inr (.inl ⟨xs,s.tup hx,e⟩)
  ·exact .inr (.inr ⟨kvs,s _ _ hx,e⟩)
 | _=>exact h
theorem F6 {mb:Option Bool}(ea:EV K ta σ G mb):TV (fun σ H Q=>ta σ H fun x H'=>∃ k,TruV K x H' k/\Q k H') σ G mb:=by
 have h:=tv_tru (K:=K) (f:=fun (a:Bool)=>a) (fun {G v a}(r:Rp.rel K G v a)=>by cases r;exact rfl) (fun s=>TruV.mono s) ea;refine h.of ?_;cases mb<;>rfl
end
theorem cT {α:Type}{A B:Option α}{r:Option α}(h:cond true A B=r):A=r:=h
theorem cF {α:Type}{A B:Option α}{r:Option α}(h:cond false A B=r):B=r:=h
theorem Bc {i:Nat}{x:V}{σ:St}{H:Hp}{tb:TS}{D:Ends}(h:tb D (σ.set i (some x)) H):CB i x σ H fun σ2 H2=>tb D σ2 H2:=h
end
section
variable {K:FZ9}{σ:St}{G H:Hp}{α β γ:Type}[Rp α][Rp β][Rp γ]{ta tb te:TE}{ia ib:Option Int}{c:Int}{rest t u:TS}{D:Ends}{i j:Nat}{tt:TT}
theorem GS (ea:EV K ta σ G ia)(hc:-(2 ^ 64)<c/\c<2 ^ 64:=by decide):EV K (tOp (rMul K) ta (tC (.int c))) σ G (ia.bind fun a=>some (a * c)):=by
 have h:=HW ea (An (K:=K) (σ:=σ) (G:=G) (i:=c))
 have e:(ia.bind fun a=>(some c).bind fun b=>JO a b)=ia.bind fun a=>some (a * c):=by
  congr 1;funext a
  show JO a c=_;unfold JO;rw [if_pos (.inr hc)]
 exact h.of e
theorem ev_mulL (eb:EV K tb σ G ib)(hc:-(2 ^ 64)<c/\c<2 ^ 64:=by decide):EV K (tOp (rMul K) (tC (.int c)) tb) σ G (ib.bind fun b=>some (c * b)):=by
 have h:=HW (An (K:=K) (σ:=σ) (G:=G) (i:=c)) eb
 have e:((some c).bind fun a=>ib.bind fun b=>JO a b)=ib.bind fun b=>some (c * b):=by
  show (ib.bind fun b=>JO c b)=_
  congr 1;funext b
  unfold JO;rw [if_pos (.inl hc)]
 exact h.of e
theorem Bh (ea:EV K ta σ G ia)(hc:0<c:=by decide):EV K (tOp (rI (fun _ j=>0<j) fun i j=>.int (i % j)) ta (tC (.int c))) σ G (ia.bind fun a=>some (a % c)):=by
 have h:=Fd ea (An (K:=K) (σ:=σ) (G:=G) (i:=c))
 have e:(ia.bind fun a=>(some c).bind fun b=>HG a b)=ia.bind fun a=>some (a % c):=by
  congr 1;funext a
  show HG a c=_;unfold HG;rw [if_pos hc]
 exact h.of e
theorem RU (ea:EV K ta σ G ia)(eb:EV K tb σ G (some c))(hc:0<c):EV K (tOp (rI (fun _ j=>0<j) fun i j=>.int (i % j)) ta tb) σ G (ia.bind fun a=>some (a % c)):=by
 have h:=Fd ea eb
 have e:(ia.bind fun a=>(some c).bind fun b=>HG a b)=ia.bind fun a=>some (a % c):=by
  congr 1;funext a
  show HG a c=_;unfold HG;rw [if_pos hc]
 exact h.of e
theorem Em (ea:EV K ta σ G ia)(hc:0<c/\c<1073741824:=by decide):EV K (tOp (rI Q4 fun i j=>.int (i / j)) ta (tC (.int c))) σ G (ia.bind fun a=>some (a / c)):=by
 have h:=ev_div ea (An (K:=K) (σ:=σ) (G:=G) (i:=c))
 have e:(ia.bind fun a=>(some c).bind fun b=>Ps a b)=ia.bind fun a=>some (a / c):=by
  congr 1;funext a
  show Ps a c=_;unfold Ps;rw [if_pos (show Q4 a c from hc)]
 exact h.of e
structure Scr where
 l:List Int
instance rpScr:Rp Scr:=⟨fun K H v a=>∃ l,v = .ref l/\SqL K H l (a.l.map V.int),fun s ⟨l,e,h⟩=>⟨l,e,s.seq h⟩⟩
theorem ND {ma:Option Scr}(ea:EV K ta σ G ma):EV K (tCB (SL K) (B5 ta DE)) σ G (ma.bind fun a=>some (a.l.length:Int)):=by
 clear 7;obtain ⟨a,ha,hc⟩:=qaA.mp hc;cases hc;clear 8 ea a ha;obtain ⟨l,rfl,h⟩:=r2;exact ⟨_,.inl (x2.gh.seq h),by rw [qeA];exact k _ _ _ x2 rfl⟩
theorem Qx {H:Hp}:∀ ns:List Int,Paired (Rp.rel K H) (ns.map V.int) ns
 | []=>.nil
 | _::r=>.cons rfl (Qx r)
theorem ev_atX {ma:Option Scr}(ea:EV K ta σ G ma)(eb:EV K tb σ G ib):EV K (tOp (rAt K) ta tb) σ G (ma.bind fun a=>ib.bind fun i=>atI a.l i) :=
 C5 (fun s ra rb e Q k=>by
  obtain ⟨l,rfl,h⟩:=ra;cases rb;obtain ⟨v,hv,r⟩:=FH (Qx (K:=K) _) e
  exact .inl ⟨_,v,s.seq h,hv,k _ _ _ (.refl s) r⟩) ea eb
theorem decOI {G:Hp}{v u:V}{a b:Option Int}(ra:Rp.rel K G v a)(rb:Rp.rel K G u b):scal v u=true/\decide (v=u)=decide (a=b):=by
 cases a with
 | none =>
  cases (show v=V.non from ra)
  cases b with
  | none=>cases (show u=V.non from rb);exact ⟨rfl,rfl⟩
  | some j=>cases (show u=V.int j from rb);exact ⟨rfl,by simp⟩
 | some i =>
  cases (show v=V.int i from ra)
  cases b with
  | none=>cases (show u=V.non from rb);exact ⟨rfl,by simp⟩
  | some j=>cases (show u=V.int j from rb);exact ⟨rfl,by simp⟩
theorem Qw {oa ob:Option (Option Int)}(ea:EV K ta σ G oa)(eb:EV K tb σ G ob):EV K (tOp rEq ta tb) σ G (oa.bind fun a=>ob.bind fun b=>some (decide (a=b))) :=
 C5 (fun s ra rb e Q k=>by cases e;obtain ⟨h1,h2⟩:=decOI ra rb;exact ⟨h1,k _ _ _ (.refl s) (by show V.bl _=V.bl _;rw [h2])⟩) ea eb
theorem ev_neOI {oa ob:Option (Option Int)}(ea:EV K ta σ G oa)(eb:EV K tb σ G ob):EV K (tOp rNe ta tb) σ G (oa.bind fun a=>ob.bind fun b=>some (!decide (a=b))) :=
 C5 (fun s ra rb e Q k=>by cases e;obtain ⟨h1,h2⟩:=decOI ra rb;exact ⟨h1,k _ _ _ (.refl s) (by show V.bl _=V.bl _;rw [h2])⟩) ea eb
theorem Kv {a:α}{m:Option α}[Imm α]{v:V}{p:Addr}{vs:List V}{as:List β}(o:Own K G H v p vs as)(e:EV K te σ (upd G p (.lst vs)) m)(hm:m=some a)(s:Same G H)(k:∀ v G2 H2,Ext G H G2 H2->Rp.rel K G2 v a->rest D (σ.set i (some v)) H2) :
  Cm (Fv te (CB i)) rest D σ H:=EV.runB o e hm s k
theorem IG {b:Bool}{m:Option Bool}{v:V}{p:Addr}{vs:List V}{as:List β}(o:Own K G H v p vs as)(e:TV tt σ (upd G p (.lst vs)) m)(hm:m=some b)(s:Same G H)(k:∀ G2 H2,Ext G H G2 H2->if b=true then t { D with nx:=rest D } σ H2 else u { D with nx:=rest D } σ H2) :
  Cm (IH tt t u) rest D σ H:=TV.runB o e hm s k
def J7 {α:Type}(as:List α)(k:Int)(a:α):Option (List α):=(ixN as.length k).bind fun j=>some (as.set j a)
theorem EI {a:α}{m:Option α}{ti:TE}{mi:Option Int}{k':Int}{as as':List α}{v:V}{p:Addr}{vs:List V}(hσ:σ[i]? = some (some v))(o:Own K G H v p vs as)(e:EV K te σ G m)(hm:m=some a)(ei:EV K ti σ G mi)(hi:mi=some k')(hs:J7 as k' a=some as')(s:Same G H)
  (k:∀ G2 H2 w j,Ext G H G2 H2->Own K G2 (upd H2 p (.lst (vs.set j w))) v p (vs.set j w) as'->rest D σ (upd H2 p (.lst (vs.set j w)))):Cm (Fv te (gSub (FP i) ti Ql)) rest D σ H:=by
 obtain ⟨j,hj,e'⟩:=qaA.mp hs;cases e';have hlen:=Paired.length o.p;refine e.run hm s fun w G2 H2 x r=>?_;have o2:=o.ext x;refine ⟨v,hσ,?_⟩;refine ei G2 x.gg k' hi H2 x.gh _ fun u G3 H3 x3 r3=>?_;cases r3;have o3:=o2.ext x3;refine ⟨p,vs,k',j,o3.v,rfl,o3.h,by rw [hlen];exact hj,?_⟩;refine k G3 H3 w j (x.trans x3) ⟨o3.v,o3.g,AQ,by rw [List.length_set];exact o3.z,Paired.st (Rp.mono x3.gg r) j o3.p⟩
end
section
variable {X:Cx}{K:FZ9}
theorem op_plusK (h:X.K=K):OpR X (binaryOp .Add) (Mg K):=h ▸ op_plus
theorem DB (h:X.K=K):OpR X (binaryOp .Mult) (rMul K):=h ▸ op_mulU
theorem Qr (h:X.K=K):SlR X (rSl K):=h ▸ sl_any
theorem ix_anyK (h:X.K=K):IxR X (rAt K):=h ▸ ix_any
theorem SK (h:X.K=K):Ek X (.builtin "len") (SL K):=h ▸ SO
theorem Dl (h:X.K=K):Ek X (.builtin "isinstance") (rInst K):=h ▸ SS
theorem JI (h:X.K=K):MtR X "str.join" (rJoin K):=h ▸ mt_join
theorem op_eqK {j:Nat}(h:X.K=K)(α:Type)[Rp α][DecidableEq α][RpE α](hr:Room j X.A)(hk:RpE.k α<=10):OpR X (compareOp .Eq) (rEqD K α):=h ▸ op_eqM α hr hk
theorem op_neK {j:Nat}(h:X.K=K)(α:Type)[Rp α][DecidableEq α][RpE α](hr:Room j X.A)(hk:RpE.k α<=10):OpR X (compareOp .NotEq) (rNeD K α):=h ▸ op_neM α hr hk
theorem GL (h:X.K=K):Ek X (.type "list") (fun xs H Q=>∃ p ys,xs=[.ref p]/\(SqL K H p ys\/SqT K H p ys)/\∀ l,H l=none->Q (.ref l) (upd H l (.lst ys))):=h ▸ NW
theorem Ay {tg l:Expr}{tl:TE}(h:X.K=K)(hl:PE X l tl):PI X tg l (iAny K tl):=h ▸ pi_any hl
theorem Rs {a:Expr}{ta:TE}(h:X.K=K)(ha:PE X a ta)(he:∀ whole,isTrue a X.env whole=(do let v <- whole;standAt a.pos;holding [v] (truthy v))) :
  PT X a (fun σ H Q=>ta σ H fun x H'=>∃ k,TruV K x H' k/\Q k H'):=h ▸ pt_truth ha he
section
variable {o e:Expr}{es:List Expr}{to:TE}{t:TA}{name:Str}{apos cpos:Pos}{T id:String}{r:V->List V->Hp->VK->Prop}
theorem Ic (h:X.K=K)(pa:PlainAttrs T)(slot:Slot T name id)(hty:typeOf (.builtin id)=pure (.type "method_descriptor"))(hm:MtR X id r)(ho:PE X o to)(ha:PA X (e::es) t)
  (hbase:attributeBase o name X.env (eval o X.env)=eval o X.env:=by rfl)
  (hfew:((backTo cpos (starEach (e::es) X.env)).all (fun x=>!x.1) && (backToKw cpos (keywordEach [] X.env)).all (fun x=>x.1.isSome)
   && decide ((e::es).length+([]:List Keyword).length+(if ([]:List Keyword).isEmpty then 0 else 1)<30))=true:=by rfl)
  (hline:(apos.endLine == cpos.line)=true:=by rfl) (hs:starEach (e::es) X.env=(false,eval e X.env)::starEach es X.env:=by rfl) (hplain:(backTo cpos (starEach es X.env)).any (·.1)=false:=by rfl) :
  PE X (.Call (.Attribute o name apos) (e::es) [] cpos) (tBM K T r to t):=h ▸ pe_bm pa slot hty hm ho ha hbase hfew hline hs hplain
end
end
theorem C6 {f:St->Hp->Prop}{rt:VK}{bk ct:St->Hp->Prop}{σ:St}{H:Hp}(h:f σ H):({ nx:=f,rt:=rt,bk:=bk,ct:=ct }:Ends).nx σ H:=h
section
variable {K:FZ9}{σ:St}{G H:Hp}{α β γ:Type}[Rp α][Rp β][Rp γ]{ta tb te:TE}{rest t u:TS}{D:Ends}{i j:Nat}
def extO {α:Type}(as bs:List α):Option (List α):=if as.length+bs.length<=sizeLine then some (as++bs) else none
end
inductive D where
 | non
 | bl (b:Bool)
 | int (i:Int)
 | str (x:Str)
 | lst (l:List D)
 | tup (l:List D)
 | dic
mutual
inductive RelD (K:FZ9)(H:Hp):V->D->Prop where
 | non:RelD K H .non .non
 | bl (b:Bool):RelD K H (.bl b) (.bl b)
 | int (i:Int):RelD K H (.int i) (.int i)
 | str (x:Str) (z:x.length<=sizeLine):RelD K H (.str x) (.str x)
 | lst {a:Addr}{xs:List V}{ds:List D}(h:Rd H a (.lst xs)) (z:xs.length<=sizeLine) (r:RelDs K H xs ds):RelD K H (.ref a) (.lst ds)
 | tup {a:Addr}{xs:List V}{ds:List D}(h:SqT K H a xs) (z:xs.length<=sizeLine) (r:RelDs K H xs ds):RelD K H (.ref a) (.tup ds)
 | dK {a:Addr}{kvs:List (Key × V)}(h:Rd H a (.dK kvs)):RelD K H (.ref a) .dic
inductive RelDs (K:FZ9)(H:Hp):List V->List D->Prop where
 | nil:RelDs K H [] []
 | cons {x:V}{d:D}{xs:List V}{ds:List D}(h:RelD K H x d) (t:RelDs K H xs ds):RelDs K H (x::xs) (d::ds)
end
mutual
theorem RelD.mono {K:FZ9}{H H':Hp}(s:Same H H'):∀ {v:V}{d:D},RelD K H v d->RelD K H' v d
 | _,_,.non=>.non
 | _,_,.bl b=>.bl b
 | _,_,.int i=>.int i
 | _,_,.str x z=>.str x z
 | _,_,.lst h z r=>.lst (s.rd h) z (RelDs.mono s r)
 | _,_,.tup h z r=>.tup (s.tup h) z (RelDs.mono s r)
 | _,_,.dK h=>.dK (s.rd h)
theorem RelDs.mono {K:FZ9}{H H':Hp}(s:Same H H'):∀ {v:List V}{d:List D},RelDs K H v d->RelDs K H' v d
 | _,_,.nil=>.nil
 | _,_,.cons h t=>.cons (RelD.mono s h) (RelDs.mono s t)
end
instance rpD:Rp D:=⟨RelD,fun s h=>RelD.mono s h⟩
theorem JM {K:FZ9}{H:Hp}:∀ {xs:List V}{ds:List D},Paired (Rp.rel K H) xs ds->RelDs K H xs ds
 | _,_,.nil=>.nil
 | _,_,.cons h t=>.cons h (JM t)
theorem HC {K:FZ9}{H:Hp}:∀ {xs:List V}{ds:List D},RelDs K H xs ds->Paired (Rp.rel K H) xs ds
 | _,_,.nil=>.nil
 | _,_,.cons h t=>.cons h (HC t)
class ToD (α:Type) [Rp α] where
 to:α->D
 rel:∀ {K:FZ9}{H:Hp}{v:V}{a:α},Rp.rel K H v a->RelD K H v (to a)
theorem toDs {K:FZ9}{H:Hp}{α:Type}[Rp α][ToD α]:∀ {xs:List V}{as:List α},Paired (Rp.rel K H) xs as->Paired (Rp.rel (α:=D) K H) xs (as.map ToD.to)
 | _,_,.nil=>.nil
 | _,_,.cons h t=>.cons (ToD.rel h) (toDs t)
instance tdD:ToD D:=⟨id,fun h=>h⟩
instance tdInt:ToD Int:=⟨.int,fun h=>by cases h;exact .int _⟩
instance tdStr:ToD Str:=⟨.str,fun h=>by obtain ⟨rfl,z⟩:=h;exact .str _ z⟩
instance tdList {α:Type}[Rp α][ToD α]:ToD (List α):=⟨fun l=>.lst (l.map ToD.to),fun ⟨l,xs,e,h,z,p⟩=>by subst e;exact .lst h z (JM (toDs p))⟩
instance tdTp {α:Type}[Rp α][ToD α]:ToD (Tp α):=⟨fun l=>.tup (l.l.map ToD.to),fun ⟨l,xs,e,h,z,p⟩=>by subst e;exact .tup h z (JM (toDs p))⟩
def Io:D->Option Str
 | .str x=>some x
 | _=>none
def Ms:D->Option (List D)
 | .lst l=>some l
 | _=>none
def dk:D->String
 | .non => "NoneType"
 | .bl _ => "bool"
 | .int _ => "int"
 | .str _ => "str"
 | .lst _ => "list"
 | .tup _ => "tuple"
 | .dic => "dict"
def isK (T:String)(d:D):Bool:=dk d == T || (T == "int" && dk d == "bool")
def Hs:D->Option Int
 | .str x=>some (x.length:Int)
 | .lst l=>some (l.length:Int)
 | .tup l=>some (l.length:Int)
 | _=>none
def atD:D->Int->Option D
 | .lst l,i=>atI l i
 | .tup l,i=>atI l i
 | .str x,i=>(atI x.cps.toList i).bind fun c=>some (.str ⟨#[c]⟩)
 | _,_=>none
section
variable {K:FZ9}{σ:St}{G:Hp}{α β:Type}[Rp α][Rp β]{ta tb te:TE}{md:Option D}
theorem IJ [ToD α]{m:Option α}(e:EV K te σ G m):EV K te σ G (m.bind fun a=>some (ToD.to a)):=by
 clear 7;obtain ⟨a,ha,hc⟩:=qaA.mp hc;cases hc;exact e G1 s1 a ha H sH Q fun v G2 H2 x r=>k v G2 H2 x (ToD.rel r)
theorem JW (e:EV K te σ G md):EV K te σ G (md.bind fun d=>Io d):=by
 clear 7;obtain ⟨d,hd,hc⟩:=qaA.mp hc;refine e G1 s1 d hd H sH Q fun v G2 H2 x r=>?_
 cases d with
 | str y =>
  cases hc
  cases r with
  | str _ z=>exact k _ _ _ x ⟨rfl,z⟩
 | _=>cases hc
theorem LK (e:EV K te σ G md):EV K te σ G (md.bind fun d=>Ms d):=by
 clear 7;obtain ⟨d,hd,hc⟩:=qaA.mp hc;refine e G1 s1 d hd H sH Q fun v G2 H2 x r=>?_
 cases d with
 | lst l =>
  cases hc
  cases r with
  | lst h z r=>exact k _ _ _ x ⟨_,_,rfl,h,z,HC r⟩
 | _=>cases hc
theorem RelD.ty {H:Hp}{v:V}{d:D}(r:RelD K H v d):TyS K H v (dk d):=by
 cases r with
 | non=>exact .non
 | bl=>exact .bl _
 | int=>exact .int _
 | str=>exact .str _
 | lst h=>exact .lst (.inl h)
 | tup h=>exact .tup h
 | dK h=>exact .dK h
theorem kit_all:∀ n∈["NoneType","bool","int","str","list","tuple","dict"],∀ T∈["str","list","tuple","bool","int","dict"],kitC n T=some (n == T || (T == "int" && n == "bool")):=by decide +kernel
theorem isK_ok {T:String}(hT:T∈["str","list","tuple","bool","int","dict"])(d:D):kitC (dk d) T=some (isK T d):=by
 unfold isK;exact kit_all (dk d) (by cases d<;>simp [dk]) T hT
theorem FO {T:String}(hT:T∈["str","list","tuple","bool","int","dict"])(ea:EV K ta σ G md):EV K (tCB (rInst K) (B5 ta (B5 (tC (.ty T)) DE))) σ G (md.bind fun d=>some (isK T d)):=by
 clear 7;obtain ⟨a,ha,hc⟩:=qaA.mp hc;cases hc;clear 8 ea a ha;exact ⟨_,_,_,_,rfl,(RelD.ty r2).mono x2.gh,isK_ok hT a,k _ _ _ x2 rfl⟩
theorem RelDs.len {H:Hp}{xs:List V}{ds:List D}(r:RelDs K H xs ds):xs.length=ds.length:=Paired.length (HC r)
theorem Et (ea:EV K ta σ G md):EV K (tCB (SL K) (B5 ta DE)) σ G (md.bind fun d=>Hs d):=by
 clear 7;obtain ⟨a,ha,hc⟩:=qaA.mp hc;clear 8 ea a ha
 cases r2 with
 | str x z=>cases hc;exact ⟨z,k _ _ _ x2 rfl⟩
 | lst h z r=>cases hc;exact ⟨_,.inl (.inl (x2.gh.rd h)),by rw [r.len];exact k _ _ _ x2 rfl⟩
 | tup h z r=>cases hc;exact ⟨_,.inr (x2.gh.tup h),by rw [r.len];exact k _ _ _ x2 rfl⟩
 | _=>cases hc
theorem BR {ib:Option Int}(ea:EV K ta σ G md)(eb:EV K tb σ G ib):EV K (tOp (rAt K) ta tb) σ G (md.bind fun d=>ib.bind fun i=>atD d i) :=
 C5 (fun s ra rb e Q k=>by
  cases rb
  cases ra with
  | str x z =>
   obtain ⟨c,hc,e⟩:=qaA.mp e;cases e;exact ⟨z,c,hc,k _ _ _ (.refl s) (.str _ (by show 1<=sizeLine;decide))⟩
  | lst h z r =>
   obtain ⟨v,hv,r⟩:=FH (HC r) e;exact .inl ⟨_,v,.inl (s.rd h),hv,k _ _ _ (.refl s) r⟩
  | tup h z r =>
   obtain ⟨v,hv,r⟩:=FH (HC r) e;exact .inr ⟨_,v,s.tup h,hv,k _ _ _ (.refl s) r⟩
  | _=>cases e) ea eb
theorem Re {X:Cx}(h:X.K=K):Ek X (.type "tuple") (fun xs H Q=>∃ p ys,xs=[.ref p]/\((SqL K H p ys/\∀ l,H l=none->Q (.ref l) (upd H l (.tup ys)))\/(SqT K H p ys/\Q (.ref p) H))):=h ▸ MM
theorem ev_tuple {la:Option (List α)}(ea:EV K ta σ G la):EV K (tCB (fun xs H Q=>∃ p ys,xs=[.ref p]/\((SqL K H p ys/\∀ l,H l=none->Q (.ref l) (upd H l (.tup ys)))\/(SqT K H p ys/\Q (.ref p) H))) (B5 ta DE)) σ G (la.bind fun a=>some (Tp.mk a)):=by
 clear 7;obtain ⟨a,ha,hc⟩:=qaA.mp hc;cases hc;clear 8 ea a ha;obtain ⟨l,xs,rfl,h,z,p⟩:=r2;refine ⟨l,xs,rfl,.inl ⟨.inl (x2.gh.rd h),fun q hq=>?_⟩⟩;exact k _ _ _ (x2.trans (.new x2.gh hq)) ⟨q,xs,rfl,SqT.of AQ,z,Paired.imp' (fun _ _ r=>Rp.mono (Same.new (x2.gh.free hq)) r) p⟩
end
section
variable {K:FZ9}{σ:St}{G:Hp}{ta:TE}
theorem Iq {H:Hp}:∀ {xs:List V}{ys:List Bool},Paired (Rp.rel K H) xs ys->xs=ys.map V.bl
 | _,_,.nil=>rfl
 | _,_,.cons r t=>by
  cases r;rw [Iq t]
  rfl
end
def OK {α:Type}(m:Option α)(P:α->Prop):Prop:=∃ a,m=some a/\P a
section
variable {α β S ρ:Type}{m:Option α}{P Q:α->Prop}{R:β->Prop}
theorem OK.mono (h:OK m P)(k:∀ a,P a->Q a):OK m Q:=let ⟨a,e,p⟩:=h;⟨a,e,k a p⟩
theorem AD {a:α}(h:P a):OK (some a) P:=⟨a,rfl,h⟩
theorem AB {f:α->Option β}(h:OK m fun a=>OK (f a) R):OK (m.bind f) R:=by
 obtain ⟨a,rfl,h⟩:=h;exact h
theorem B8 {f:α->Option β}(h:OK m P)(k:∀ a,P a->OK (f a) R):OK (m.bind f) R:=AB (h.mono k)
theorem AZ {b:Bool}{x y:Option α}(h1:b=true->OK x P)(h2:b=false->OK y P):OK (cond b x y) P:=by
 cases b with
 | true=>exact h1 rfl
 | false=>exact h2 rfl
theorem OK.eq {a:α}(h:OK m fun b=>b=a):m=some a:=by obtain ⟨b,e,rfl⟩:=h;exact e
theorem OK.of {a:α}(e:m=some a)(h:P a):OK m P:=⟨a,e,h⟩
theorem Ag {α β:Type}(a:α)(f:α->Option β):(some a).bind f=f a:=by rw [Option.bind_some]
theorem Ab {α:Type}(m:Option α):(m.bind fun x=>some x)=m:=by cases m<;>rfl
theorem GW {a b:Int}{P:Int->Prop}(hb:0<b)(h:P (a % b)):OK (HG a b) P:=⟨_,if_pos hb,h⟩
theorem Ja {a b:Int}{P:Int->Prop}(hb:CMul a b)(h:P (a * b)):OK (JO a b) P:=⟨_,if_pos hb,h⟩
theorem ok_div {a b:Int}{P:Int->Prop}(hb:0<b/\b<1073741824)(h:P (a / b)):OK (Ps a b) P:=⟨_,if_pos hb,h⟩
theorem NX {a b:Str}{P:Str->Prop}(hb:a.length+b.length<=sizeLine)(h:P (a++b)):OK (RZ a b) P:=⟨_,if_pos hb,h⟩
theorem Nk {a b:List α}{P:List α->Prop}(hb:a.length+b.length<=sizeLine)(h:P (a++b)):OK (catL a b) P:=⟨_,if_pos hb,h⟩
theorem DO {a:List α}{b:α}{P:List α->Prop}(hb:a.length<sizeLine)(h:P (a++[b])):OK (E4 a b) P:=⟨_,if_pos hb,h⟩
theorem Eb {lo hi:Int}{n:Nat}{P:List Int->Prop}(hn:hi - lo=n)(h0:-1000000000<=lo/\lo<=1000000000)(h1:n<=sizeLine)(h:P ((List.range n).map fun (i:Nat)=>lo+(i:Int))):OK (Iv lo hi) P:=by
 have hs:sizeLine=16777216:=qoB;have e:(hi - lo).toNat=n:=by omega
 refine ⟨_,if_pos ⟨⟨by omega,by omega,by omega,by omega⟩,by omega⟩,?_⟩;rw [e];exact h
theorem P6 {a:List α}{i:Int}(h0:0<=i)(h1:i<a.length)(h:∀ x,a[i.toNat]? = some x->P x):OK (atI a i) P:=by
 obtain ⟨k,rfl⟩:=qrB h0;have hk:k<a.length:=by omega
 refine ⟨a[k],DQ (by simp [hk]),h _ ?_⟩;rw [qqB];simp [hk]
theorem Br {a:List α}{k:Nat}(h1:k<a.length)(h:∀ x,a[k]? = some x->P x):OK (atI a (k:Int)) P :=
 ⟨a[k],DQ (by simp [h1]),h _ (by simp [h1])⟩
theorem ok_last {a:List α}(h:a ≠ [])(k:P (a.getLast h)):OK (atI a (-1)) P:=by
 refine ⟨_,?_,k⟩;have:=JT a.dropLast (a.getLast h)
 rwa [List.dropLast_concat_getLast] at this
theorem ok_for {f:α->S->Option (Fl S ρ)}{as:List α}{s0:S}(I:Nat->S->Prop)(J:S->Prop)(R:ρ->Prop){P:Fl S ρ->Prop}(h0:I 0 s0)
  (hs:∀ (i:Nat) a s,as[i]? = some a->I i s->OK (f a s) fun fl=>match fl with | .nx s'=>I (i+1) s' | .bk s'=>J s' | .rt r=>R r)
  (hn:∀ s,I as.length s->P (.nx s)) (hj:∀ s,J s->P (.nx s)) (hr:∀ r,R r->P (.rt r)):OK (Ct f as s0) P:=by
 have key:∀ (n i:Nat) (s:S),n=as.length - i->i<=as.length->I i s->OK (Ct f (as.drop i) s) P:=by
  intro n
  induction n with
  | zero =>
   intro i s hn0 hi hI;have e:i=as.length:=by omega
   subst e;rw [List.drop_length];exact AD (hn s hI)
  | succ n ih =>
   intro i s hn0 hi hI;have hlt:i<as.length:=by omega
   rw [List.drop_eq_getElem_cons hlt];obtain ⟨fl,e,h⟩:=hs i as[i] s (by simp [hlt]) hI;show OK ((f as[i] s).bind _) P;rw [e]
   cases fl with
   | nx s'=>exact ih (i+1) s' (by omega) hlt h
   | bk s'=>exact AD (hj s' h)
   | rt r=>exact AD (hr r h)
 exact key as.length 0 s0 (by omega) (qeC _) h0
theorem BP {f:α->S->Option (Fl S ρ)}{as:List α}{s0:S}(I:Nat->S->Prop){P:Fl S ρ->Prop}(h0:I 0 s0)
  (hs:∀ (i:Nat) a s,as[i]? = some a->I i s->OK (f a s) fun fl=>∃ s',fl = .nx s'/\I (i+1) s') (hn:∀ s,I as.length s->P (.nx s)):OK (Ct f as s0) P :=
 ok_for I (fun _=>False) (fun _=>False) h0 (fun i a s ha hI=>(hs i a s ha hI).mono fun fl ⟨s',e,h⟩=>by subst e;exact h) hn (fun _ h=>h.elim) fun _ h=>h.elim
theorem HX {c:S->Option Bool}{f:S->Option (Fl S ρ)}{s0:S}(I:S->Prop)(J:S->Prop)(R:ρ->Prop)(μ:S->Nat){P:Fl S ρ->Prop}(h0:I s0)(hμ:μ s0<1000000)
  (hs:∀ s,I s->OK (c s) fun b=>if b=true then OK (f s) fun fl=>match fl with | .nx s'=>I s'/\μ s'<μ s | .bk s'=>J s' | .rt r=>R r else P (.nx s))
  (hj:∀ s,J s->P (.nx s)) (hr:∀ r,R r->P (.rt r)):OK (FK c f KQ s0) P:=by
 have key:∀ (n:Nat) (s:S),μ s<n->I s->OK (FK c f n s) P:=by
  intro n
  induction n with
  | zero=>intro s h;exact absurd h (Nat.not_lt_zero _)
  | succ n ih =>
   intro s hlt hI;obtain ⟨b,e,h⟩:=hs s hI;show OK ((c s).bind _) P;rw [e]
   cases b with
   | false =>
    rw [if_neg quB] at h;exact AD h
   | true =>
    rw [if_pos rfl] at h;obtain ⟨fl,e2,h⟩:=h;show OK ((f s).bind _) P;rw [e2]
    cases fl with
    | nx s'=>exact ih s' (by have:=h.2;omega) h.1
    | bk s'=>exact AD (hj s' h)
    | rt r=>exact AD (hr r h)
 exact key KQ s0 (by unfold KQ;omega) h0
theorem F5 {f:α->Option β}{g:α->β}{P:List β->Prop}:∀ {as:List α},(∀ a∈as,f a=some (g a))->P (as.map g)->OK (Cw f as) P:=by
 intro as
 have key:∀ as:List α,(∀ a∈as,f a=some (g a))->Cw f as=some (as.map g):=by
  intro as
  induction as with
  | nil=>intro _;rfl
  | cons a r ih =>
   intro h;show ((f a).bind fun y=>(Cw f r).bind fun ys=>some (y::ys))=_;rw [h a qqA,ih fun x hx=>h x (qrA _ hx)]
   rfl
 exact fun h p=>⟨_,key as h,p⟩
theorem Kn {f:α->Option β}{R:α->β->Prop}{P:List β->Prop}:∀ {as:List α},(∀ a∈as,OK (f a) (R a))->(∀ bs:List β,bs.length=as.length->(∀ b∈bs,∃ a∈as,R a b)->(∀ (i:Nat) a b,as[i]? = some a->bs[i]? = some b->R a b)->P bs)->OK (Cw f as) P:=by
 intro as
 have key:∀ as:List α,(∀ a∈as,OK (f a) (R a))->OK (Cw f as) fun bs=>bs.length=as.length/\(∀ b∈bs,∃ a∈as,R a b)/\∀ (i:Nat) a b,as[i]? = some a->bs[i]? = some b->R a b:=by
  intro as
  induction as with
  | nil=>intro _;exact AD ⟨rfl,fun b h=>by simp at h,fun i a b h=>by simp at h⟩
  | cons a r ih =>
   intro h;refine B8 (h a qqA) fun y hy=>B8 (ih fun x hx=>h x (qrA _ hx)) fun ys ⟨h1,h2,h3⟩=>AD ⟨by simp [h1],?_,?_⟩
   ·intro b hb;rcases qmA.mp hb with e|e
    ·subst e;exact ⟨a,qqA,hy⟩
    ·obtain ⟨x,hx,hr⟩:=h2 b e;exact ⟨x,qrA _ hx,hr⟩
   ·intro i x b hx hb
    cases i with
    | zero=>simp at hx hb;subst hx;subst hb;exact hy
    | succ i=>exact h3 i x b (by simpa using hx) (by simpa using hb)
 exact fun h p=>(key as h).mono fun bs ⟨h1,h2,h3⟩=>p bs h1 h2 h3
theorem Ks {fc:α->Option Bool}{fe:α->Option β}{c:α->Bool}{g:α->β}{P:List β->Prop}{as:List α}(hc:∀ a∈as,fc a=some (c a))(he:∀ a∈as,c a=true->fe a=some (g a))(p:P ((as.filter c).map g)):OK (DA fc fe as) P:=by
 have key:∀ as:List α,(∀ a∈as,fc a=some (c a))->(∀ a∈as,c a=true->fe a=some (g a))->DA fc fe as=some ((as.filter c).map g):=by
  intro as
  induction as with
  | nil=>intro _ _;rfl
  | cons a r ih =>
   intro h1 h2;have i:=ih (fun x hx=>h1 x (qrA _ hx)) fun x hx=>h2 x (qrA _ hx);show ((fc a).bind fun b=>cond b ((fe a).bind fun y=>(DA fc fe r).bind fun ys=>some (y::ys)) (DA fc fe r))=_;rw [h1 a qqA,i]
   cases hb:c a with
   | true =>
    show ((fe a).bind fun y=>_)=_;rw [h2 a qqA hb];simp [hb]
   | false=>simp [hb]
 exact ⟨_,key as hc he,p⟩
end
end L2
namespace Lasso
variable {α β:Type}
end Lasso
namespace Lasso
variable {α:Type}[DecidableEq α]
end Lasso
namespace L2
open PySem PySem.Spec PyProof.Rows
section
variable {K:FZ9}{σ:St}{G H G0 H0 Gx G1 H1 G2 H2:Hp}{α β:Type}[Rp α][Rp β]{ta tb tc te:TE}{tt:TT}{t u rest:TS}{D:Ends}{i j:Nat}{v:V}
theorem TV.runX {mb:Option Bool}{b:Bool}{Q:Bool->Hp->Prop}(s1:Same G Gx)(s2:Same Gx H)(e:TV tt σ Gx mb)(hm:mb=some b)(k:∀ G2 H2,Ext G H G2 H2->Q b H2):tt σ H Q:=by
 refine e.run hm s2 fun G2 H2 x=>?_
 classical
 refine k (fun a=>if G a=none/\H a≠none then none else G2 a) H2 ⟨fun a o e=>?_,fun a o e=>?_,x.hh,fun a h1 h2=>if_pos ⟨h1,h2⟩⟩
 ·rw [if_neg (by rw [e];exact fun z=>nomatch z.1)];exact x.gg _ _ (s1 _ _ e)
 ·split at e
  ·cases e
  ·exact x.gh _ _ e
theorem sv_ifX {b:Bool}{m:Option Bool}(s1:Same G Gx)(s2:Same Gx H)(e:TV tt σ Gx m)(hm:m=some b)(k:∀ G2 H2,Ext G H G2 H2->if b=true then t { D with nx:=rest D } σ H2 else u { D with nx:=rest D } σ H2):Cm (IH tt t u) rest D σ H:=TV.runX s1 s2 e hm k
end
def MI {α:Type}:List α->Option (α × List α)
 | []=>none
 | [a]=>some (a,[])
 | a::b::r=>(MI (b::r)).bind fun p=>some (p.1,a::p.2)
theorem Kt {α:Type}:∀ {as:List α}(h:as ≠ []),MI as=some (as.getLast h,as.dropLast)
 | [],h=>absurd rfl h
 | [a],_=>rfl
 | a::b::r,_=>by
  show ((MI (b::r)).bind fun p=>some (p.1,a::p.2))=_;rw [Kt (by simp)]
  rfl
theorem Paired.last {α β:Type}{R:α->β->Prop}:∀ {vs:List α}{as:List β}{a:β}{as':List β},Paired R vs as->MI as=some (a,as')->∃ w,vs[vs.length - 1]? = some w/\R w a/\Paired R vs.dropLast as'
 | _,_,_,_,.nil,hp=>by cases hp
 | _,_,_,_,.cons h .nil,hp=>by
  cases hp;exact ⟨_,rfl,h,.nil⟩
 | _,_,_,_,.cons h (.cons h2 t),hp=>by
  obtain ⟨q,hq,e⟩:=qaA.mp hp;cases e;obtain ⟨w,hw,r,pr⟩:=Paired.last (.cons h2 t) hq;exact ⟨w,by simpa using hw,r,.cons h pr⟩
section
variable {X:Cx}{K:FZ9}{o:Expr}{to:TE}{name:Str}{apos cpos:Pos}{T id:String}{r:V->List V->Hp->VK->Prop}
theorem N7 (h:X.K=K)(pa:PlainAttrs T)(slot:Slot T name id)(hty:typeOf (.builtin id)=pure (.type "method_descriptor"))(hm:MtR X id r)(ho:PE X o to)
  (hbase:attributeBase o name X.env (eval o X.env)=eval o X.env:=by rfl) (hline:(apos.endLine == cpos.line)=true:=by rfl):PE X (.Call (.Attribute o name apos) [] [] cpos) (tBM0 K T r to):=h ▸ pe_bm0 pa slot hty hm ho hbase hline
end
section
variable {K:FZ9}{σ:St}{G H G1 H1 G0 H0:Hp}{α β:Type}[Rp α][Rp β]{te ti:TE}{tt:TT}{t u rest:TS}{D:Ends}{i j:Nat}{a:α}{m:Option α}{as:List α}{v:V}{p q:Addr}{vs:List V}
theorem sv_pop {as':List α}(hσ:σ[i]? = some (some v))(o:Own K G H v p vs as)(hp:MI as=some (a,as'))
  (k:∀ w,Rp.rel K G w a->Own K G (upd H p (.lst vs.dropLast)) v p vs.dropLast as'->rest D (σ.set j (some w)) (upd H p (.lst vs.dropLast))):Cm (Fv (tBM0 K "list" rPop (FP i)) (CB j)) rest D σ H:=by
 obtain ⟨rfl,og,oh,oz,op⟩:=o;obtain ⟨w,hw,r,pr⟩:=Paired.last op hp;refine ⟨_,hσ,.inl ⟨rfl,_,SqL.of oh⟩,p,vs,w,rfl,rfl,oh,hw,?_⟩;refine k w r ⟨rfl,og,AQ,?_,pr⟩;rw [List.length_dropLast];omega
def era (H:Hp)(C:List Addr):Hp:=fun a=>if a∈C then none else H a
theorem era_in {C:List Addr}{b:Addr}(h:b∈C):era H C b=none:=if_pos h
theorem Nr {C:List Addr}{b:Addr}(h:b ∉ C):era H C b=H b:=if_neg h
theorem era_same {C:List Addr}:Same (era H C) H:=fun b o e=>by
 by_cases h:b∈C
 ·rw [era_in h] at e;cases e
 ·rw [Nr h] at e;exact e
theorem Ext.begin {C:List Addr}(s:Same G H):Ext G (era H C) G H:=⟨.refl _,s,era_same,fun _ h _=>h⟩
theorem Ext.past {C:List Addr}(x:Ext G0 H0 G H)(h0:∀ b∈C,H0 b=none)(y:Ext G (era H C) G1 H1):Ext G0 H0 G1 H1:=by
 refine ⟨x.gg.trans y.gg,y.gh,fun b o e=>?_,fun b g h=>?_⟩
 ·have hb:b ∉ C:=fun hc=>by
   rw [h0 b hc] at e;cases e
  exact y.hh b o (by rw [Nr hb];exact x.hh b o e)
 ·have hb:b ∉ C:=fun hc=>h (h0 b hc);refine y.no b (x.no b g h) ?_;rw [Nr hb]
  cases e:H0 b with
  | none=>exact absurd e h
  | some o =>
   rw [x.hh b o e];exact fun z=>nomatch z
def spW1 (K:FZ9){A:Type}[RpA A]{α:Type}[Rp α](m:List α->A->Option (List α)):Sp:=fun vs H Q _ =>
 ∃ G p xs us as a r,vs = .ref p::us/\Same G H/\Own K G H (.ref p) p xs as/\RpA.rel K G us a/\m as a=some r /\
  ∀ G2 H2 xs',Ext G (era H [p]) G2 H2->Own K G2 H2 (.ref p) p xs' r->Q .non H2
theorem spW1_len {A:Type}[RpA A]{m:List α->A->Option (List α)}{vs:List V}{Q:VK}{E:XK}(h:spW1 K m vs H Q E):vs.length=RpA.n A+1:=by
 obtain ⟨G,p,xs,us,as,a,r,rfl,_,_,h,_⟩:=h;rw [qgA,RpA.len h]
theorem SM {A:Type}[RpA A]{mA:Option A}{ta:TA}{c:A}{m:List α->A->Option (List α)}{r:List α}(hσ:σ[i]? = some (some v))(o:Own K G H v p vs as)(ea:AV K ta σ G mA)(ha:mA=some c)(hm:m as c=some r)(s:Same G H)
  (k:∀ G1 H1 G2 H2 vs',Ext G H G1 H1->Ext G1 (era H1 [p]) G2 H2->Own K G2 H2 v p vs' r->rest D σ H2):Cm (KY (KR (spW1 K m) [] E0 (B5 (FP i) ta))) rest D σ H:=by
 have ov:=o.v;subst ov;refine ⟨_,hσ,?_⟩;refine ea G (.refl G) c ha H s _ fun us G1 H1 x h=>?_;exact ⟨G1,p,vs,us,as,c,r,qdB _,x.gh,o.ext x,h,hm,fun G2 H2 xs' y o'=>k G1 H1 G2 H2 xs' x y o'⟩
end
inductive Nt where
 | txt (x:Str)
 | tup (l:List Nt)
 | int (n:Int)
mutual
def Nt.dec:(a b:Nt)->Decidable (a=b)
 | .txt x,.txt y=>if h:x=y then .isTrue (by rw [h]) else .isFalse fun e=>h (by cases e;rfl)
 | .txt _,.tup _=>.isFalse fun e=>by cases e
 | .tup _,.txt _=>.isFalse fun e=>by cases e
 | .int m,.int n=>if h:m=n then .isTrue (by rw [h]) else .isFalse fun e=>h (by cases e;rfl)
 | .int _,.txt _=>.isFalse fun e=>by cases e
 | .int _,.tup _=>.isFalse fun e=>by cases e
 | .txt _,.int _=>.isFalse fun e=>by cases e
 | .tup _,.int _=>.isFalse fun e=>by cases e
 | .tup l,.tup m=>match Nt.decs l m with
  | .isTrue h=>.isTrue (by rw [h])
  | .isFalse h=>.isFalse fun e=>h (by cases e;rfl)
def Nt.decs:(l m:List Nt)->Decidable (l=m)
 | [],[]=>.isTrue rfl
 | [],_::_=>.isFalse fun e=>by cases e
 | _::_,[]=>.isFalse fun e=>by cases e
 | a::l,b::m=>match Nt.dec a b with
  | .isFalse h=>.isFalse fun e=>h (by cases e;rfl)
  | .isTrue h=>match Nt.decs l m with
   | .isTrue h2=>.isTrue (by rw [h,h2])
   | .isFalse h2=>.isFalse fun e=>h2 (by cases e;rfl)
end
mutual
def Nt.dep:Nt->Nat
 | .txt _=>0
 | .int _=>0
 | .tup l=>Nt.deps l+1
def Nt.deps:List Nt->Nat
 | []=>0
 | a::l=>max (Nt.dep a) (Nt.deps l)
end
mutual
inductive RelN (K:FZ9)(H:Hp):V->Nt->Prop where
 | txt (x:Str) (z:x.length<=sizeLine):RelN K H (.str x) (.txt x)
 | int (n:Int):RelN K H (.int n) (.int n)
 | tup {a:Addr}{xs:List V}{ds:List Nt}(h:SqT K H a xs) (z:xs.length<=sizeLine) (r:RelNs K H xs ds) (l:ds[0]? = some (.txt "lamp")->H a=some (.tup xs)):RelN K H (.ref a) (.tup ds)
inductive RelNs (K:FZ9)(H:Hp):List V->List Nt->Prop where
 | nil:RelNs K H [] []
 | cons {x:V}{d:Nt}{xs:List V}{ds:List Nt}(h:RelN K H x d) (t:RelNs K H xs ds):RelNs K H (x::xs) (d::ds)
end
mutual
theorem RelN.mono {K:FZ9}{H H':Hp}(s:Same H H'):∀ {v:V}{d:Nt},RelN K H v d->RelN K H' v d
 | _,_,.txt x z=>.txt x z
 | _,_,.int n=>.int n
 | _,_,.tup h z r l=>.tup (s.tup h) z (RelNs.mono s r) fun e=>s _ _ (l e)
theorem RelNs.mono {K:FZ9}{H H':Hp}(s:Same H H'):∀ {v:List V}{d:List Nt},RelNs K H v d->RelNs K H' v d
 | _,_,.nil=>.nil
 | _,_,.cons h t=>.cons (RelN.mono s h) (RelNs.mono s t)
end
instance rpN:Rp Nt:=⟨RelN,fun s h=>RelN.mono s h⟩
theorem SqT.keep {K:FZ9}{H H':Hp}{a:Addr}{xs:List V}(s:TupK H H')(h:SqT K H a xs):SqT K H' a xs:=by
 rcases h with h|h
 ·exact .inl (s.rd _ _ h)
 ·exact .inr h
mutual
theorem RelN.keep {K:FZ9}{H H':Hp}(s:TupK H H'):∀ {v:V}{d:Nt},RelN K H v d->RelN K H' v d
 | _,_,.txt x z=>.txt x z
 | _,_,.int n=>.int n
 | _,_,.tup h z r l=>.tup (SqT.keep s h) z (RelNs.keep s r) fun e=>s.eq _ _ (l e)
theorem RelNs.keep {K:FZ9}{H H':Hp}(s:TupK H H'):∀ {v:List V}{d:List Nt},RelNs K H v d->RelNs K H' v d
 | _,_,.nil=>.nil
 | _,_,.cons h t=>.cons (RelN.keep s h) (RelNs.keep s t)
end
instance imN:Imm Nt:=⟨fun s h=>RelN.keep s h⟩
section
variable {X:Cx}{K:FZ9}
theorem QK (h:X.K=K):OpR X (compareOp .In) (rIn K false):=h ▸ Rw
end
section
variable {K:FZ9}{σ:St}{G:Hp}{α:Type}[Rp α]{ta tb tc te:TE}{t1 t2:TO}{ia ib ic:Option Int}{m1 m2:Option (Option Int)}
class Flat (α:Type) [Rp α] [DecidableEq α]:Prop where
 fl:∀ {K:FZ9}{H:Hp}{v:V}{a:α},Rp.rel K H v a->Hx v=true
 eq:∀ {K:FZ9}{H H':Hp}{v u:V}{a b:α},Rp.rel K H v a->Rp.rel K H' u b->eqV v u=decide (a=b)
instance flInt:Flat Int:=⟨fun h=>by cases h;rfl,fun h h'=>by cases h;cases h';exact J9 _ _⟩
theorem Oc [DecidableEq α][Flat α]{H:Hp}:∀ {xs:List V}{as:List α},Paired (Rp.rel K H) xs as->xs.all Hx=true
 | _,_,.nil=>rfl
 | _,_,.cons h t=>by rw [List.all_cons,Flat.fl h,Oc t];rfl
theorem R8 [DecidableEq α][Flat α]{H H':Hp}{v:V}{a:α}(hv:Rp.rel K H' v a):∀ {xs:List V}{as:List α},Paired (Rp.rel K H) xs as->inV v xs=decide (a∈as)
 | _,_,.nil=>by simp [inV]
 | _,_,.cons (b:=b) h t=>by
  have ih:=R8 hv t;unfold inV at ih ⊢;rw [List.any_cons,ih,Flat.eq h hv];apply Bool.eq_iff_iff.mpr;simp only [Bool.or_eq_true,decide_eq_true_iff,qmA];exact ⟨fun h=>h.imp Eq.symm id,fun h=>h.imp Eq.symm id⟩
theorem Px [DecidableEq α][Flat α]{ma:Option α}{ml:Option (Tp α)}(ea:EV K ta σ G ma)(eb:EV K tb σ G ml):EV K (tOp (rIn K false) ta tb) σ G (ma.bind fun a=>ml.bind fun l=>some (decide (a∈l.l))) :=
 C5 (fun s ra rb e Q k=>by
  cases e;obtain ⟨l,xs,rfl,h,z,p⟩:=rb
  exact ⟨l,xs,rfl,.inr (s.tup h),Flat.fl ra,Oc p,by rw [if_neg quB,R8 ra p];exact k _ _ _ (.refl s) rfl⟩) ea eb
end
mutual
def Nt.toD:Nt->D
 | .txt x=>.str x
 | .int n=>.int n
 | .tup l=>.tup (Nt.toDs l)
def Nt.toDs:List Nt->List D
 | []=>[]
 | a::l=>Nt.toD a::Nt.toDs l
end
mutual
theorem RelN.toD {K:FZ9}{H:Hp}:∀ {v:V}{a:Nt},RelN K H v a->RelD K H v a.toD
 | _,_,.txt x z=>by unfold Nt.toD;exact .str x z
 | _,_,.int n=>by unfold Nt.toD;exact .int n
 | _,_,.tup h z r _=>by unfold Nt.toD;exact .tup h z (RelNs.toD r)
theorem RelNs.toD {K:FZ9}{H:Hp}:∀ {xs:List V}{l:List Nt},RelNs K H xs l->RelDs K H xs (Nt.toDs l)
 | _,_,.nil=>by unfold Nt.toDs;exact .nil
 | _,_,.cons h t=>by unfold Nt.toDs;exact .cons (RelN.toD h) (RelNs.toD t)
end
instance tdN:ToD Nt:=⟨Nt.toD,fun h=>RelN.toD h⟩
section
variable {K:FZ9}{σ:St}{G H G1 H1 G0 H0:Hp}{α β γ:Type}[Rp α][Rp β][Rp γ]{te ti:TE}{tt:TT}{t u rest:TS}{D:Ends}{i j:Nat}{as:List α}{bs:List β}{v w:V}{p q:Addr}{vs ws:List V}
theorem Own.over {o:HO}(h:Own K G H v p vs as)(ne:p≠q)(hq:G q=none):Own K (upd G q o) H v p vs as :=
 ⟨h.v,by rw [At ne];exact h.g,h.h,h.z,Paired.imp' (fun _ _ r=>Rp.mono (Same.new hq) r) h.p⟩
theorem Oo [Imm α]{a:α}{m:Option α}{mi:Option Int}{k':Int}{as':List α}(hσ:σ[i]? = some (some v))(o:Own K G H v p vs as)(e:EV K te σ (upd G p (.lst vs)) m)(hm:m=some a)(ei:EV K ti σ G mi)(hi:mi=some k')(hs:J7 as k' a=some as')(s:Same G H)
  (k:∀ G2 H2 w j,Ext G H G2 H2->Own K G2 (upd H2 p (.lst (vs.set j w))) v p (vs.set j w) as'->rest D σ (upd H2 p (.lst (vs.set j w)))):Cm (Fv te (gSub (FP i) ti Ql)) rest D σ H:=by
 obtain ⟨j,hj,e'⟩:=qaA.mp hs;cases e';have hlen:=Paired.length o.p;refine EV.runB o e hm s fun w G2 H2 x r=>?_;have o2:=o.ext x;refine ⟨v,hσ,?_⟩;refine ei G2 x.gg k' hi H2 x.gh _ fun u G3 H3 x3 r3=>?_;cases r3;have o3:=o2.ext x3;refine ⟨p,vs,k',j,o3.v,rfl,o3.h,by rw [hlen];exact hj,?_⟩;exact k G3 H3 w j (x.trans x3) ⟨o3.v,o3.g,AQ,by rw [List.length_set];exact o3.z,Paired.st (Rp.mono x3.gg r) j o3.p⟩
end
theorem Inv.turned2 {X:Cx}{pins:List (Addr × Obj)}{σ:List (Option V)}{H:Hp}{s:Shared}{h':Heap}{t':Nat}{e it:Addr}(I:Inv X pins σ H s)(k:∀ b o,b≠e->b≠it->s.heap.get? b=some o->h'.get? b=some o)(fe:IM X pins H e)(fi:IM X pins H it) :
  Inv X pins σ H { s with heap:=h',toks:=t' }:=by
 have nit:∀ b u,H b=some u->b≠e/\b≠it:=fun b u q=>⟨fun z=>(by rw [z,fe.1] at q;cases q),fun z=>(by rw [z,fi.1] at q;cases q)⟩;have nm:∀ b,b ∉ [e,it]->b≠e/\b≠it:=fun b hb=>⟨fun z=>hb (by simp [z]),fun z=>hb (by simp [z])⟩
 refine I.step (g':=s.gens) (d':=s.drawn) (ch:=[e,it]) (fun b hb=>?_) (fun b o _ _ hc q _=>k b o (nm b hc).1 (nm b hc).2 q) (fun b o _ _ hc q _=>⟨o.slots,k b o (nm b hc).1 (nm b hc).2 q⟩) (fun _ _ _ _ n=>n)
  (fun b o hc q=>⟨o,k b o (nm b hc).1 (nm b hc).2 q⟩) (fun _ _ q=>q) (fun _ _ _ q=>q) (fun b ps q=>⟨#[],by rw [q];simp⟩) (fun m hm=>?_) (fun b u q=>?_) I.bare
 ·simp only [qmA,List.not_mem_nil,or_false] at hb;rcases hb with z|z
  ·subst z;exact ⟨fe.2.2.2.1,fe.2.1,fe.2.2.2.2.1,fe.2.2.2.2.2⟩
  ·subst z;exact ⟨fi.2.2.2.1,fi.2.1,fi.2.2.2.2.1,fi.2.2.2.2.2⟩
 ·obtain ⟨o,es,ep,ho,r⟩:=hm;exact ⟨o,es,ep,k _ o (Ne.symm fe.2.1) (Ne.symm fi.2.1) ho,r⟩
 ·refine (I.hok b u q).stay (fun c v hc z=>?_) (fun _ z=>z) fun _ _ z=>z;rcases hc with y|y
  ·rw [y] at z ⊢;exact k b v (nit b u q).1 (nit b u q).2 z
  ·exact k c v (nit c _ y).1 (nit c _ y).2 z
def Itn (K:FZ9)(a:Addr):It :=
 ⟨fun i H=>∃ xs x,SqL K H a xs/\xs[i]? = some x,fun i H x H'=>∃ t v,x = .ref t/\H t=none/\H'=upd H t (.tup [.int i,v])/\∀ xs,SqL K H a xs->xs[i]? = some v,fun i H=>∃ xs,SqL K H a xs/\xs.length<=i⟩
theorem S6 {P:Program}{w:World}{K:FZ9}{elts:List Expr}{x1:_}{pos:Pos}(a e it:Addr)(ne:e≠it):Turn P w K (.Tuple elts x1 pos) (Itn K a) [e,it] e (fun i h=>(∃ old,IsEnum h e it i old)/\h.IsListIter it a i) where
 mem:=by simp
 obj:=fun i h st b hb=>by
  obtain ⟨⟨old,he⟩,o,q,c,d⟩:=st;simp only [qmA,List.not_mem_nil,or_false] at hb;rcases hb with z|z
  ·subst z
   exact ⟨_,he,fun v z=>by
    have z':Data.fields _=Data.cell v:=z
    cases z'⟩
  ·subst z;exact ⟨o,q,fun v z=>by rw [d] at z;cases z⟩
 keep:=fun i h h' st k=>⟨let ⟨old,he⟩:=st.1;⟨old,k e (by simp) _ he⟩,st.2.at fun o q=>k it (by simp) o q⟩
 item:=by
  intro X hP hw hK hc i pins s σ H E I hf st hg;subst hP hw hK;obtain ⟨⟨old,he⟩,hit⟩:=st;obtain ⟨xs,x,hq,hx⟩:=hg;obtain ⟨its,rv,p,hz⟩:=I.list hq;obtain ⟨u,hu,ru⟩:=rv.get hx;have fe:=hf e (by simp);have fi:=hf it (by simp);refine wpAny_pyNext_enum_item he hit p.isList (x:=u) (by simpa using hu) ne fun h1 heo hit1 ht1 hz1 hk1=>?_;refine ⟨_,rfl,wpAny_letOwnedTupleGo_enum heo fun h2 he2 hs2=>?_⟩;replace hs2:Heap.SameBut e h1 h2:=hs2;have heH:e<s.heap.objs.size:=qkB he;have hiH:it<s.heap.objs.size:=by obtain ⟨o,q,_⟩:=hit;exact qkB q
  have ht2:h2.get? s.heap.objs.size=some { cls:=.type "tuple",data:=.seq #[.int i s.toks,u] }:=(hs2.2 _ (Nat.ne_of_gt heH)).trans ht1
  have I1:Inv X pins σ (upd H s.heap.objs.size (.tup [.int i,x])) { s with heap:=s.heap.push { cls:=.type "tuple",data:=.seq #[.int i s.toks,u] },toks:=s.toks } :=
   I.laid (fun b ob q=>qmB _ q) (qfB _) ⟨by show 2<=sizeLine;decide,[.int i s.toks,u],.cons ⟨_,rfl⟩ (.cons ru .nil),IsTup.new _ _⟩
  have fre:∀ b,b∈[e,it]->b≠s.heap.objs.size:=fun b hb=>by
   simp only [qmA,List.not_mem_nil,or_false] at hb;rcases hb with z|z
   ·rw [z];exact qyB heH
   ·rw [z];exact qyB hiH
  have fn:∀ b∈[e,it],IM X pins (upd H s.heap.objs.size (.tup [.int i,x])) b:=fun b hb=>⟨by rw [At (fre b hb)];exact (hf b hb).1,(hf b hb).2⟩
  have I2:Inv X pins σ (upd H s.heap.objs.size (.tup [.int i,x])) { s with heap:=h2,toks:=s.toks+1 }:=I1.turned2 (h':=h2) (t':=s.toks+1) (fun b o h1' h2' q=>by
   replace q:(s.heap.push { cls:=.type "tuple",data:=.seq #[.int i s.toks,u] }).get? b=some o:=q;by_cases hb:b=s.heap.objs.size
   ·rw [hb] at q ⊢;rw [qnB _ rfl] at q;rw [ht2];exact q
   ·have q':s.heap.get? b=some o:=by rw [<- q];exact (Heap.get?_push_ne _ _ _ hb).symm
    exact (hs2.2 _ h1').trans (hk1 b o h1' h2' q')) (fn e (by simp)) (fn it (by simp))
  refine ⟨.ref s.heap.objs.size,_,I2,rfl,⟨_,x,rfl,I.hok.fresh (qfB _),rfl,fun ys hy=>by rw [I.list_inj hy hq];exact hx⟩,⟨⟨u,?_⟩,?_⟩,fun b hb=>(fn b hb).1⟩
  ·have:((i+1:Nat):Int)=(i:Int)+1:=by omega
   rw [this];exact he2
  ·exact hit1.extBut hs2.extBut (Ne.symm ne)
 done:=by
  intro X hP hw hK hc i pins s σ H E I hf st hg;subst hP hw hK;obtain ⟨⟨old,he⟩,hit⟩:=st;obtain ⟨xs,hq,hx⟩:=hg;obtain ⟨its,rv,p,hz⟩:=I.list hq;obtain ⟨f0,f1,f2,f3,f4,f5⟩:=hf it (by simp);have hl:=rv.length;exact wpAny_pyNext_enum_end (I.ok.hd hc) he hit p.isList (by simp;omega) fun h' eb=>⟨rfl,I.turned (t':=s.toks) (fun b o hb q=>eb b o hb q) f0 f1 f3 f4 f5⟩
 self:=fun _ _ _ _ _ st h=>by
  obtain ⟨⟨old,he⟩,_⟩:=st;exact wpAny_pyIter_enum he h
def iEnum (K:FZ9)(ta:TA):TI:=fun σ H R=>ta σ H fun vs H1=>∃ a,vs=[.ref a]/\(∃ xs,SqL K H1 a xs)/\R (Itn K a) H1
theorem J5 {X:Cx}{K:FZ9}{elts:List Expr}{x1:_}{tp:Pos}{a:Expr}{ta:TA}{p pos:Pos}(hK:X.K=K)(hg:Gl X "enumerate")(hm:X.mg "enumerate" = none)(ha:PA X [a] ta)(hs:starEach [a] X.env=[(false,eval a X.env)]:=by rfl) :
  PI X (.Tuple elts x1 tp) (.Call (.Name "enumerate" p) [a] [] pos) (iEnum K ta):=by
 subst hK;intro pins s σ H R I h;refine Call_ (Jo I hg hm boot_enumerate (PyProof.Rows.callWith_type1 (thn (ha pos pins s σ H _ I h) fun us s1 ⟨vs,H1,I1,r1,q1⟩=>?_) hs rfl));obtain ⟨l,e,⟨xs,hq⟩,q⟩:=q1;subst e
 cases r1 with
 | cons r rr =>
  cases rr;cases r;obtain ⟨its,rv,pl,hz⟩:=I1.list hq;refine call_enumerate_list pl.isList fun h' he hit hz' hk=>?_;refine wpAny_pyIter_enum (s:={ s1 with heap:=h' }) he ?_;have I2:Inv X pins σ H1 { s1 with heap:=h' }:=I1.kept (t':=s1.toks) hk;refine ⟨s1.heap.objs.size+1,[s1.heap.objs.size+1,s1.heap.objs.size],_,_,H1,rfl,I2,S6 l (s1.heap.objs.size+1) s1.heap.objs.size (Nat.ne_of_gt (Nat.lt_succ_self _)),⟨⟨_,he⟩,hit⟩,fun b hb=>?_,q⟩;simp only [qmA,List.not_mem_nil,or_false] at hb;rcases hb with z|z
  ·subst z;exact I1.fpOk (by omega) (I1.hok.fresh (by omega))
  ·subst z;exact I1.fpOk (qfB _) (I1.hok.fresh (qfB _))
def Bp {α:Type}:Nat->List α->List (Int × α)
 | _,[]=>[]
 | n,a::l=>((n:Int),a)::Bp (n+1) l
theorem Ce {α:Type}:∀ (l:List α) (n i:Nat),(Bp n l)[i]? = (l[i]?).map fun a=>(((n+i:Nat):Int),a)
 | [],n,i=>by simp [Bp]
 | a::l,n,0=>by simp [Bp]
 | a::l,n,i+1=>by
  show (Bp (n+1) l)[i]? = _;rw [Ce l (n+1) i];have:n+1+i=n+(i+1):=by omega
  rw [this]
  rfl
theorem Ex {α:Type}:∀ (l:List α) (n:Nat),(Bp n l).length=l.length
 | [],_=>rfl
 | a::l,n=>by show (Bp (n+1) l).length+1=_;rw [Ex l (n+1)];rfl
section
variable {K:FZ9}{σ:St}{G H:Hp}{α β γ:Type}[Rp α][Rp β][Rp γ]{ta tb te:TE}{rest:TS}{D:Ends}{i j:Nat}
def IE (K:FZ9){α:Type}[Rp α](wi:TI)(σ:St)(G:Hp)(m:Option (List α)):Prop :=
 ∀ G1,Same G G1->∀ a,m=some a->∀ H,Same G1 H->∀ R:It->Hp->Prop,(∀ l vs G2 H2,Ext G1 H G2 H2->Rd G2 l (.lst vs)->Paired (Rp.rel K G2) vs a->R (Itn K l) H2)->wi σ H R
theorem Kz {la:Option (List α)}(ea:EV K ta σ G la):IE K (iEnum K (B5 ta DE)) σ G la:=by
 intro G1 s1 a ha H sH R k;clear 8 ea a ha;obtain ⟨l,xs,rfl,h,z,p⟩:=r2;exact ⟨l,rfl,⟨xs,.inl (x2.gh.rd h)⟩,k l xs G2 H2 x2 h p⟩
structure LoopObE (K:FZ9){α S ρ:Type}[Rp α](RR:ρ->V->Hp->Hp->Prop)(f:Int × α->S->Option (Fl S ρ))(g:TG)(tb:TS)(D:Ends)(σ:St)(G2 H2:Hp)(s0:S)(res:Fl S ρ)(RS:S->St->Hp->Hp->Prop):Prop where
 start:RS s0 σ G2 H2
 keep:∀ s σ' G' H',RS s σ' G' H'->Same G2 G'/\Same G' H'
 step:∀ (x:V) (t:Addr) (a:Int × α) (s:S) (σ1:St) (G1 H1:Hp) (fl:Fl S ρ),RS s σ1 G1 H1->H1 t=none->Rp.rel K G1 x a.2->f a s=some fl->∀ D':Ends,(∀ s' σ' G' H',fl = .nx s'->RS s' σ' G' H'->D'.nx σ' H')->(∀ s' σ' G' H',fl = .nx s'->RS s' σ' G' H'->D'.ct σ' H') ->
  (∀ s' σ' G' H',fl = .bk s'->RS s' σ' G' H'->D'.bk σ' H')->(∀ r v G' H',fl = .rt r->RR r v G' H'->D'.rt v H')->g (.ref t) σ1 (upd H1 t (.tup [.int a.1,x])) fun σ2 H2=>tb D' σ2 H2
 nxt:∀ s σ' G' H',res = .nx s->RS s σ' G' H'->D.nx σ' H'
 rtn:∀ r v G' H',res = .rt r->RR r v G' H'->D.rt v H'
theorem L5 {S ρ:Type}{RR:ρ->V->Hp->Hp->Prop}{f:Int × α->S->Option (Fl S ρ)}{wi:TI}{g:TG}{tb:TS}{mi:Option (List α)}{as:List α}{s0:S}{res:Fl S ρ}(ei:IE K wi σ G mi)(hm:mi=some as)(hf:Ct f (Bp 0 as) s0=some res)(sg:Same G H)
  (k:∀ G2 H2,Ext G H G2 H2->∃ RS,LoopObE K RR f g tb { D with nx:=rest D } σ G2 H2 s0 res RS):Cm (tFor wi g tb) rest D σ H:=by
 refine ei G (.refl G) as hm H sg _ fun l vs G2 H2 x2 hl pr=>?_;obtain ⟨RS,L⟩:=k G2 H2 x2;have hla:=Paired.length pr;have hle:=Ex as 0;refine ⟨fun i m σ' H'=>m=vs.length - i/\i<=vs.length/\∃ s G',RS s σ' G' H'/\Ct f ((Bp 0 as).drop i) s=some res,⟨vs.length,by simp,qeC _,s0,G2,L.start,hf⟩,?_⟩;rintro i m σ' H' ⟨rfl,hi,s,G',rs,hfo⟩;obtain ⟨k1,k2⟩:=L.keep _ _ _ _ rs;have hlH:SqL K H' l vs:=.inl ((k1.trans k2).rd hl);by_cases hlt:i<vs.length
 ·refine .inr ⟨⟨vs,vs[i],hlH,by simp [hlt]⟩,fun σ'' H''=>∃ s' G'',RS s' σ'' G'' H''/\Ct f ((Bp 0 as).drop (i+1)) s'=some res,fun σ'' H'' ⟨s',G'',h⟩=>⟨vs.length - (i+1),by omega,rfl,hlt,s',G'',h⟩,fun x H3 y=>?_⟩;obtain ⟨t,v,rfl,ht,rfl,hv⟩:=y;obtain ⟨a,hai,ra⟩:=Paired.getR pr (hv vs hlH);have hge:(Bp 0 as)[i]? = some ((i:Int),a):=by rw [Ce,hai];simp
  have hd:(Bp 0 as).drop i=((i:Int),a)::(Bp 0 as).drop (i+1):=by
   obtain ⟨h1,h2⟩:=quA.mp hge;rw [List.drop_eq_getElem_cons h1,h2]
  rw [hd] at hfo;obtain ⟨fl,hfl,hfo⟩:=qaA.mp hfo;refine L.step v t ((i:Int),a) s σ' G' H' fl rs ht (Rp.mono k1 ra) hfl _ ?_ ?_ ?_ ?_
  ·intro s' σ'' G'' H'' e r;subst e;exact ⟨s',G'',r,hfo⟩
  ·intro s' σ'' G'' H'' e r;subst e;exact ⟨s',G'',r,hfo⟩
  ·intro s' σ'' G'' H'' e r;subst e;exact L.nxt s' σ'' G'' H'' (qjB hfo).symm r
  ·intro r v G'' H'' e rl;subst e;exact L.rtn r v G'' H'' (qjB hfo).symm rl
 ·have e:i=vs.length:=by omega
  subst e;have hd:(Bp 0 as).drop vs.length=[]:=List.drop_eq_nil_of_le (by omega);rw [hd] at hfo;exact .inl ⟨⟨vs,hlH,qfB _⟩,L.nxt s σ' G' H' (qjB hfo).symm rs⟩
theorem Ik {a:Int × α}{x:V}{t:Addr}{tb:TS}(k:tb D ((σ.set i (some (.int a.1))).set j (some x)) (upd H t (.tup [.int a.1,x]))) :
  gTup K 2 (Ka (CB i) (Ka (CB j) gNil)) (.ref t) σ (upd H t (.tup [.int a.1,x])) fun σ2 H2=>tb D σ2 H2 :=
 ⟨t,_,rfl,SqT.of AQ,rfl,_,_,rfl,_,_,rfl,rfl,k⟩
theorem bt_any:bootBuiltins "any" = some (.builtin "any"):=by decide +kernel
def rAnyB (K:FZ9):List V->Hp->VK->Prop:=fun vs H Q=>∃ (l:Addr) (bs:List Bool),vs=[.ref l]/\SqL K H l (bs.map V.bl)/\Q (.bl (bs.any id)) H
theorem Rm {bs:List Bool}{its:List Value}(r:Vals (bs.map V.bl) its){i:Nat}{v:Value}(h:its.toArray[i]? = some v):v = .bool (bs.getD i false):=by
 have h:its[i]? = some v:=by simpa using h
 have hl:=r.length;rw [qeA] at hl;obtain ⟨hi,_⟩:=quA.mp h
 have e:(bs.map V.bl)[i]? = some (V.bl (bs.getD i false)):=by
  have:i<bs.length:=by omega
  simp [this]
 obtain ⟨u,hu,ru⟩:=r.get e;rw [h] at hu;cases hu;exact ru
theorem S3 {X:Cx}(hc:X.calm=true)(h:X.K=K):Ek X (.builtin "any") (rAnyB K):=by
 subst h;intro pins s σ H vs us Q I r h;obtain ⟨l,bs,rfl,hl,q⟩:=h;obtain ⟨u,rfl,ru⟩:=IB r;cases ru;obtain ⟨its,rv,pl,_⟩:=I.list hl;have hL:=pl.isList;have hlt:l<s.heap.objs.size:=by obtain ⟨_,e,_⟩:=hL;exact qkB e
 have hlen:=rv.length;rw [qeA] at hlen;refine call_any_walk (wpAny_pyIter_list hL ?_);refine ⟨_,_,_,_,_,_,fun i=>bs.getD i false,rfl,Walks.list (A:=X.A.in1) (I.ok.hd hc) _ l (qyB hlt) its.toArray,⟨⟨_,qnB _ rfl,rfl,rfl⟩,hL.push _⟩,?_,fun h' tk hk=>?_⟩
 ·intro i v s' Q' E' hP hQ;rw [Rm rv hP];exact wpAny_truthy_bool hQ
 ·have e:(List.range its.toArray.size).any (fun i=>bs.getD i false)=bs.any id:=by
   rw [qvB,<- hlen];apply Bool.eq_iff_iff.mpr;rw [List.any_eq_true,List.any_eq_true];constructor
   ·rintro ⟨i,hi,hb⟩;have hi2:=qsA.mp hi;rw [List.getD_eq_getElem?_getD,qvA hi2] at hb;exact ⟨_,List.getElem_mem hi2,hb⟩
   ·rintro ⟨b,hb,hq⟩;obtain ⟨i,hi⟩:=List.mem_iff_getElem?.mp hb;have hi2:=(quA.mp hi).1;refine ⟨i,qsA.mpr hi2,?_⟩;rw [List.getD_eq_getElem?_getD,hi];exact hq
  rw [e];refine ⟨.bl _,H,I.kept fun b o eb=>?_,rfl,q⟩;refine hk b o (fun hm=>?_) (qmB _ eb);have:b=s.heap.objs.size:=by simpa using hm
  exact absurd (this ▸ qkB eb) (qhB _)
theorem ev_any {lb:Option (List Bool)}(ea:EV K ta σ G lb):EV K (tCB (rAnyB K) (B5 ta DE)) σ G (lb.bind fun bs=>some (bs.any id)):=by
 clear 7;obtain ⟨a,ha,hc⟩:=qaA.mp hc;cases hc;clear 8 ea a ha;obtain ⟨l,xs,rfl,h,z,p⟩:=r2;obtain rfl:=Iq p;exact ⟨l,a,rfl,.inl (x2.gh.rd h),k _ _ _ x2 rfl⟩
end
def P0 (K:FZ9){α:Type}(R:Hp->V->α->Prop):Hp->V->Tp α->Prop:=fun H x a=>∃ t xs,x = .ref t/\SqT K H t xs/\Paired (R H) xs a.l
theorem tp_dec {α:Type}[DecidableEq α]{as bs:Tp α}{n m:Nat}(hn:n=as.l.length)(hm:m=bs.l.length):((List.range (min n m)).all (fun j=>decide (as.l[j]? = bs.l[j]?)) && n == m)=decide (as=bs):=by
 obtain ⟨as⟩:=as;obtain ⟨bs⟩:=bs;subst hn;subst hm;by_cases hl:as.length=bs.length
 ·show ((List.range (min as.length bs.length)).all (fun j=>decide (as[j]? = bs[j]?)) && as.length == bs.length)=_;rw [<- hl,Nat.min_self,beq_self_eq_true,Bool.and_true,Qj as bs hl];exact decide_eq_decide.mpr ⟨fun e=>by rw [e],fun e=>by cases e;rfl⟩
 ·have h:(as.length == bs.length)=false:=by simpa using hl
  have ne:Tp.mk as≠Tp.mk bs:=fun e=>by
   cases e;exact hl rfl
  show (_ && as.length == bs.length)=_;rw [h,Bool.and_false,decide_eq_false ne]
theorem eqTp {K:FZ9}{k:Nat}{α:Type}[DecidableEq α]{R:Hp->V->α->Prop}(E:EqTy K k R):EqTy K (k+1) (P0 K R):=by
 have fn:∀ {X:Cx}{pins:List (Addr × Obj)}{σ:St}{H:Hp}{s:Shared}{x:V}{a b:Tp α},X.K=K->Inv X pins σ H s->P0 K R H x a->P0 K R H x b->a=b:=by
  intro X pins σ H s x a b hK I ha hb;obtain ⟨a⟩:=a;obtain ⟨b⟩:=b;obtain ⟨l,xs,rfl,h1,p1⟩:=ha;obtain ⟨l',ys,e,h2,p2⟩:=hb;cases e;subst hK;have:=I.tuple_inj h1 h2;subst this;exact congrArg Tp.mk (Jj (F:=R H) (fun _ _ _ p q=>E.fn rfl I p q) p1 p2)
 have rc:∀ {X:Cx}{pins:List (Addr × Obj)}{σ:St}{H:Hp}{s:Shared}{x y:V}{u v:Value}{a b:Tp α}(A:Around),X.K=K->Inv X pins σ H s->A.units+(k+1)<cLine->RelV x u->RelV y v->P0 K R H x a->P0 K R H y b ->
   SeqAt.RcAt A s u v (decide (a=b))/\SeqAt.RcNeAt A s u v (!decide (a=b)):=by
  intro X pins σ H s x y u v a b A hK I hu r1 r2 ha hb;obtain ⟨l,xs,rfl,h1,p1⟩:=ha;obtain ⟨l',ys,rfl,h2,p2⟩:=hb;cases r1;cases r2;subst hK;obtain ⟨us,rx,plx,_⟩:=I.tuple h1;obtain ⟨vs,ry,ply,_⟩:=I.tuple h2;have lx:=rx.length;have ly:=ry.length;have lpx:=Paired.length p1;have lpy:=Paired.length p2;have it:=LX E rfl I hu rx ry p1 p2;rw [<- tp_dec (as:=a) (bs:=b) (n:=us.toArray.size) (m:=vs.toArray.size) (by simp;omega) (by simp;omega)];exact ⟨SeqAt.RcAt.tuples plx ply (by omega) it,SeqAt.RcNeAt.tuples plx ply (by omega) it⟩
 refine ⟨fn,?_,rc⟩;intro X pins σ H s x y u v a b A hK I hu r1 r2 ha hb;have h:=(rc A hK I hu r1 r2 ha hb).1;obtain ⟨l,xs,rfl,h1,p1⟩:=id ha;obtain ⟨l',ys,rfl,h2,p2⟩:=id hb;cases r1;cases r2;by_cases e:l=l'
 ·subst e;have:a=b:=fn hK I ha hb;rw [decide_eq_true this];exact SeqAt.EqAt.same _
 ·exact SeqAt.EqAt.of_refs e h
theorem vals3' {x y z:V}{us:List Value}(h:Vals [x,y,z] us):∃ a b c,us=[a,b,c]/\RelV x a/\RelV y b/\RelV z c:=by
 cases h with
 | cons r t=>cases t with
  | cons r' t'=>cases t' with
   | cons r'' t''=>cases t'';exact ⟨_,_,_,rfl,r,r',r''⟩
class NoN (α:Type) [Rp α]:Prop where
 no_non:∀ {K:FZ9}{H:Hp}{x:V}{a:α},Rp.rel K H x a->x ≠ .non
 ne:∀ {K:FZ9}{X:Cx}{pins:List (Addr × Obj)}{σ:St}{H:Hp}{s:Shared}{x:V}{u:Value}{a:α}(A:Around),X.K=K->Inv X pins σ H s->A.units<cLine->RelV x u->Rp.rel K H x a ->
  (SeqAt.EqAt A s .none u false/\SeqAt.RcAt A s .none u false/\SeqAt.RcNeAt A s .none u true)/\SeqAt.EqAt A s u .none false/\SeqAt.RcAt A s u .none false/\SeqAt.RcNeAt A s u .none true
instance reTp {α:Type}[Rp α][DecidableEq α][RpE α]:RpE (Tp α):=⟨RpE.k α+1,fun K=>(eqTp (RpE.ty K)).imp fun _ _ _ ⟨l,xs,e,h,_,p⟩=>⟨l,xs,e,h,p⟩⟩
class Fix (α:Type) [Rp α]:Prop where
 fx:∀ {K:FZ9}{G G':Hp}{v:V}{a:α},Rp.rel K G v a->Rp.rel K G' v a
end L2
namespace L3
open PySem
end L3
namespace L2
open PySem PySem.Spec PyProof.Rows
def Qd (cap:List Nat)(σ:St):St:=none::none::cap.map fun i=>(σ[i]?).join
abbrev gTwo (K:FZ9):TG:=gTup K 2 (Ka (CB 0) (Ka (CB 1) gNil))
def tComp2 (K:FZ9)(cap:List Nat)(wi:TI)(tc:TT)(te:TE):TE:=fun σ H Q=>wi σ H fun J H1=>∀ p,H1 p=none ->
 ∃ W:Nat->Nat->List V->Hp->Prop,(∃ m,W 0 m [] (upd H1 p (.lst [])))/\∀ i m xs H2,W i m xs H2 ->
  (J.stop i H2/\Q (.ref p) H2)\/(J.go i H2/\∃ N:List V->Hp->Prop,(∀ xs' H',N xs' H'->∃ m',m'<m/\W (i+1) m' xs' H') /\
   ∀ x H3,J.yld i H2 x H3->gTwo K x (Qd cap σ) H3 fun σ2 H4=>tc σ2 H4 fun b H5=>if b=true then te σ2 H5 fun v H6=>H6 p=some (.lst xs)/\xs.length<sizeLine/\N (xs++[v]) (upd H6 p (.lst (xs++[v]))) else N xs H5)
section
variable {X:Cx}{pins:List (Addr × Obj)}{σ:St}
theorem gat2' {K:FZ9}:GAt 2 (gTwo K):=by
 intro v σ H Q h;obtain ⟨a,xs,e,hs,hl,v0,r,e1,v1,r',e2,e4,q⟩:=h;refine ⟨a,xs,e,hs,hl,v0,r,e1,v1,r',e2,e4,⟨by simp,fun j hj=>?_⟩,q⟩;rw [List.getElem?_set,if_neg (by omega),List.getElem?_set,if_neg (by omega)]
theorem pg2' {X:Cx}{scope:Scope}{x y:Str}{px py pt:Pos}{k0:Nat}{cn:List Str}{C:Addr}{s:Shared}{H:Hp}{fp:List Addr}(hx:scope.names.lookup x=some .local)(hy:scope.names.lookup y=some .local)(hnd:(x::y::cn).Nodup) :
  PG (Bk X (x::y::cn) scope C s H fp) (.Tuple [.Name x px,.Name y py] k0 pt) (gTwo X.K):=by
 have hlx:(relabel scope X.env).names.lookup x=some .local := lookup_relabel_local hx;have hly:(relabel scope X.env).names.lookup y=some .local := lookup_relabel_local hy;exact Ji rfl (CY (FT (i:=0) hnd rfl (.inl hlx) (.inr hlx)) (CY (FT (i:=1) hnd rfl (.inl hly) (.inr hly)) Hr))
theorem P5 {scope:Scope}{x x' y:Str}{px px' pt py pos spos:Pos}{k0:Nat}{elt iter:Expr}{ifs:List Expr}{cn:List Str}{cap:List Nat}{wi:TI}{tc:TT}{te:TE}{i:Nat}
  (hN:X.N.Nodup) (hi:X.N[i]? = some y) (hy:Loc X.env.scope y) (hc:X.calm=true) (S:CompScope X scope) (hx:scope.names.lookup x=some .local) (hx':scope.names.lookup x'=some .local) (hnd:(x::x'::cn).Nodup) (hcap:Caps X scope cn cap) (hit:PI X (.Tuple [.Name x px,.Name x' px'] k0 pt) iter wi)
  (body:∀ (C:Addr) (s:Shared) (H:Hp) (fp:List Addr),PTs (Bk X (x::x'::cn) scope C s H fp) ifs tc/\PE (Bk X (x::x'::cn) scope C s H fp) elt te)
  (hsw:swapsWith (.ListComp elt [⟨.Tuple [.Name x px,.Name x' px'] k0 pt,iter,ifs,0⟩] scope pos) (some (.Name y py)) spos.line X.env=pure true:=by rfl)
  (hf:X.fn y=true\/X.env.scope.names.lookup y=some .local := by first|exact .inl rfl|exact .inr rfl|assumption)
  (hs:∀ x,foldedSetIterable iter X.env x=pure x:=by intro _;rfl):PS X (.Assign [.Name y py] (.ListComp elt [⟨.Tuple [.Name x px,.Name x' px'] k0 pt,iter,ifs,0⟩] scope pos) spos) (Fv (tComp2 X.K cap wi tc te) (CB i)):=by
 have h:=KO (xn:=[x,x']) (tg:=.Tuple [.Name x px,.Name x' px'] k0 pt) (g:=gTwo X.K) (pos:=pos) (spos:=spos) (py:=py) (elt:=elt) hN hi hy hc S gat2' (fun C s H fp=>pg2' hx hx' hnd) hnd hcap hit body hsw hf hs;exact h
end
structure YieldsE (J:It)(H:Hp)(xs:List V):Prop where
 go:∀ i H',Same H H'->i<xs.length->J.go i H'
 stop:∀ H',Same H H'->J.stop xs.length H'
 yld:∀ (i:Nat) (H':Hp) (x:V) (H'':Hp),Same H H'->i<xs.length->J.yld i H' x H''->∃ t v,x = .ref t/\H' t=none/\H''=upd H' t (.tup [.int i,v])/\xs[i]? = some v
section
variable {K:FZ9}{σ:St}{G:Hp}{α β:Type}[Rp α][Rp β]{ta:TE}
def IF (K:FZ9){α:Type}[Rp α](wi:TI)(σ:St)(G:Hp)(m:Option (List α)):Prop :=
 ∀ G1,Same G G1->∀ a,m=some a->∀ H,Same G1 H->∀ R:It->Hp->Prop,(∀ J vs G2 H2,Ext G1 H G2 H2->YieldsE J G2 vs->vs.length<=sizeLine->Paired (Rp.rel K G2) vs a->R J H2)->wi σ H R
theorem if_list {la:Option (List α)}(ea:EV K ta σ G la):IF K (iEnum K (B5 ta DE)) σ G la:=by
 intro G1 s1 a ha H sH R k;clear 8 ea a ha;obtain ⟨l,xs,rfl,h,z,p⟩:=r2;refine ⟨l,rfl,⟨xs,.inl (x2.gh.rd h)⟩,k _ xs G2 H2 x2 ⟨fun i H' s hi=>⟨xs,xs[i],.inl (s.rd h),by simp [hi]⟩,fun H' s=>⟨xs,.inl (s.rd h),qfB _⟩,fun i H' y H'' s hi hy=>?_⟩ z p⟩;obtain ⟨t,v,e1,e2,e3,e4⟩:=hy;exact ⟨t,v,e1,e2,e3,e4 xs (.inl (s.rd h))⟩
theorem rel_i (G:Hp)(i:Int):Rp.rel K G (V.int i) i:=rfl
theorem fv_comp2 {cap:List Nat}{wi:TI}{tt:TT}{te:TE}{mi:Option (List α)}{fc:Int × α->Option Bool}{fe:Int × α->Option β}(ei:IF K wi σ G mi)
  (hb:∀ (x:V) (a:Int × α) (G1:Hp),Same G G1->Rp.rel K G1 x a.2->TV tt (((Qd cap σ).set 0 (some (.int a.1))).set 1 (some x)) G1 (fc a)/\EV K te (((Qd cap σ).set 0 (some (.int a.1))).set 1 (some x)) G1 (fe a)) :
  FV K (tComp2 K cap wi tt te) σ G (mi.bind fun as=>DA fc fe (Bp 0 as)):=by
 clear 7;obtain ⟨as,has,hc⟩:=qaA.mp hc;refine ei G1 s1 as has H sH _ fun J vs Ga Ha xa Y hz pr p hp=>?_;have hla:=Paired.length pr;have hle:=Ex as 0
 refine ⟨fun i m ys H2=>m=vs.length - i/\i<=vs.length/\∃ G2 bs cs,Ext Ga Ha G2 H2/\G2 p=none/\H2 p=some (.lst ys)/\ys.length<=i/\Paired (Rp.rel K G2) ys bs/\DA fc fe ((Bp 0 as).drop i)=some cs/\c=bs++cs,
  ⟨vs.length,by simp,qeC _,Ga,[],c,.own xa.gh hp,xa.gh.free hp,AQ,qfB _,.nil,hc,rfl⟩,?_⟩
 rintro i m ys H2 ⟨rfl,hi,G2,bs,cs,x2,hg,hh,hy,hpr,hcs,rfl⟩;by_cases hlt:i<vs.length
 ·refine .inr ⟨Y.go i _ (x2.gg.trans x2.gh) hlt,fun ys' H'=>∃ G2 bs' cs',Ext Ga Ha G2 H'/\G2 p=none/\H' p=some (.lst ys')/\ys'.length<=i+1/\Paired (Rp.rel K G2) ys' bs'/\DA fc fe ((Bp 0 as).drop (i+1))=some cs'/\bs++cs=bs'++cs',
   fun ys' H' ⟨G3,bs',cs',h⟩=>⟨vs.length - (i+1),by omega,rfl,hlt,G3,bs',cs',h⟩,fun x H3 y=>?_⟩
  obtain ⟨t,v,rfl,ht,rfl,hv⟩:=Y.yld i _ x H3 (x2.gg.trans x2.gh) hlt y;obtain ⟨a,hai,ra⟩:=Paired.getR pr hv;have hge:(Bp 0 as)[i]? = some ((i:Int),a):=by rw [Ce,hai];simp
  have hd:(Bp 0 as).drop i=((i:Int),a)::(Bp 0 as).drop (i+1):=by
   obtain ⟨h1,h2⟩:=quA.mp hge;rw [List.drop_eq_getElem_cons h1,h2]
  rw [hd] at hcs;obtain ⟨b,hbb,hcs⟩:=qaA.mp hcs;have xn:=Ext.new (o:=.tup [.int i,v]) x2.gh ht;have x2:=x2.trans xn;have ne:p≠t:=fun e=>by rw [e,ht] at hh;cases hh
  have hh:(upd H2 t (.tup [.int i,v])) p=some (.lst ys):=by rw [At ne];exact hh
  have hg:(upd G2 t (.tup [.int i,v])) p=none:=by rw [At ne];exact hg
  have hpr:=Paired.imp' (fun _ _ r=>Rp.mono xn.gg r) hpr;have B:=hb v ((i:Int),a) _ (s1.trans (xa.gg.trans x2.gg)) (Rp.mono x2.gg ra);refine ⟨t,_,rfl,SqT.of AQ,rfl,_,_,rfl,_,_,rfl,rfl,?_⟩;refine B.1 _ (.refl _) b hbb _ x2.gh _ fun G5 H5 x5=>?_;have hp5:H5 p=some (.lst ys):=x5.hh _ _ hh;have hg5:G5 p=none:=x5.no p hg (by rw [hh];exact fun z=>nomatch z)
  cases b with
  | false =>
   rw [if_neg quB];exact ⟨G5,bs,cs,x2.trans x5,hg5,hp5,by omega,Paired.imp' (fun _ _ r=>Rp.mono x5.gg r) hpr,hcs,rfl⟩
  | true =>
   rw [if_pos rfl];obtain ⟨z,hze,hcs⟩:=qaA.mp hcs;obtain ⟨cs',hcs',hcs⟩:=qaA.mp hcs;cases hcs;refine B.2 G5 x5.gg z hze H5 x5.gh _ fun v G6 H6 x6 r6=>?_;have hp6:H6 p=some (.lst ys):=x6.hh _ _ hp5;have hg6:G6 p=none:=x6.no p hg5 (by rw [hp5];exact fun z=>nomatch z);refine ⟨hp6,by omega,G6,bs++[z],cs',((x2.trans x5).trans x6).put hp hg6,hg6,AQ,?_,Paired.app (Paired.imp' (fun _ _ r=>Rp.mono (x5.trans x6).gg r) hpr) (.cons r6 .nil),hcs',by simp⟩;rw [qfA,qhA];omega
 ·have e:i=vs.length:=by omega
  subst e;have hd:(Bp 0 as).drop vs.length=[]:=List.drop_eq_nil_of_le (by omega);rw [hd] at hcs;cases hcs;refine .inl ⟨Y.stop _ (x2.gg.trans x2.gh),?_⟩;rw [qdB] at k;exact k p ys G2 H2 (xa.trans x2) (xa.hh.free hp) hg hh (by omega) hpr
end
inductive SI where
 | s (x:Str)
 | i (n:Int)
 deriving DecidableEq
def RelSI (v:V):SI->Prop
 | .s x=>v = .str x/\x.length<=sizeLine
 | .i n=>v = .int n
instance rpSI:Rp SI:=⟨fun _ _ v a=>RelSI v a,fun _ h=>h⟩
theorem DZ {j:Nat}{A:Around}(hr:Room j A):A.units+1<cLine:=by
 have:=hr.un;omega
def asI:SI->Option Int
 | .s _=>none
 | .i n=>some n
section
variable {K:FZ9}{σ:St}{G H:Hp}{ta tb te td ti:TE}{α:Type}[Rp α]{md:Option SI}{rest:TS}{D:Ends}{i:Nat}
theorem ev_toS {m:Option Str}(e:EV K te σ G m):EV K te σ G (m.bind fun x=>some (SI.s x)):=by
 clear 7;obtain ⟨x,hx,hc⟩:=qaA.mp hc;cases hc;exact e G1 s1 x hx H sH Q fun v G2 H2 x2 r=>k v G2 H2 x2 r
theorem IV {m:Option Int}(e:EV K te σ G m):EV K te σ G (m.bind fun x=>some (SI.i x)):=by
 clear 7;obtain ⟨x,hx,hc⟩:=qaA.mp hc;cases hc;exact e G1 s1 x hx H sH Q fun v G2 H2 x2 r=>k v G2 H2 x2 r
theorem ev_asI (e:EV K te σ G md):EV K te σ G (md.bind fun d=>asI d):=by
 clear 7;obtain ⟨d,hd,hc⟩:=qaA.mp hc;refine e G1 s1 d hd H sH Q fun v G2 H2 x r=>?_
 cases d with
 | s y=>cases hc
 | i n=>cases hc;exact k _ _ _ x r
end
structure Mp (α:Type) where
 l:List (Int × α)
def Ht {α:Type}:List (Int × α)->Int->Option α
 | [],_=>none
 | (j,a)::r,k=>if j=k then some a else Ht r k
def JU {α:Type}(l:List (Int × α))(k:Int)(a:α):List (Int × α):=if (l.any fun q=>decide (q.1=k))=true then l.map (fun q=>if q.1=k then (q.1,a) else q) else l++[(k,a)]
def OP {α:Type}(m:Mp α)(k:Int)(a:α):Option (Mp α):=if m.l.length<sizeLine then some ⟨JU m.l k a⟩ else none
def M9 (K:FZ9){α:Type}[Rp α](H:Hp)(kv:Key × V)(q:Int × α):Prop:=kv.1 = .inl q.1/\Rp.rel K H kv.2 q.2
instance rpMp {α:Type}[Rp α]:Rp (Mp α):=⟨fun K H v a=>∃ p kvs,v = .ref p/\H p=some (.dK kvs)/\Paired (M9 K H) kvs a.l,
 fun s ⟨p,kvs,e,h,pr⟩=>⟨p,kvs,e,s _ _ h,Paired.imp' (fun _ _ r=>⟨r.1,Rp.mono s r.2⟩) pr⟩⟩
structure OwnM (K:FZ9){α:Type}[Rp α](G H:Hp)(v:V)(p:Addr)(kvs:List (Key × V))(a:Mp α):Prop where
 v:v = .ref p
 g:G p=none
 h:H p=some (.dK kvs)
 p:Paired (M9 K G) kvs a.l
section
variable {K:FZ9}{σ:St}{G H G1 H1 G0 H0:Hp}{α β:Type}[Rp α][Rp β]{td te ti:TE}{rest:TS}{D:Ends}{i:Nat}{a:Mp α}{v:V}{p q:Addr}{kvs:List (Key × V)}
theorem OwnM.ext (o:OwnM K G H v p kvs a)(x:Ext G H G1 H1):OwnM K G1 H1 v p kvs a :=
 ⟨o.v,x.no p o.g (by rw [o.h];exact fun z=>nomatch z),x.hh _ _ o.h,Paired.imp' (fun _ _ r=>⟨r.1,Rp.mono x.gg r.2⟩) o.p⟩
theorem OwnM.put {ho:HO}(o:OwnM K G H v p kvs a)(h:p≠q):OwnM K G (upd H q ho) v p kvs a:=⟨o.v,o.g,by rw [At h];exact o.h,o.p⟩
theorem OwnM.tell (o:OwnM K G H v p kvs a):Rp.rel K (upd G p (.dK kvs)) v a:=⟨p,kvs,o.v,AQ,Paired.imp' (fun _ _ r=>⟨r.1,Rp.mono (Same.new o.g) r.2⟩) o.p⟩
theorem KI {G:Hp}:∀ {kvs:List (Key × V)}{l:List (Int × α)}{k:Int}{b:α},Paired (M9 K G) kvs l->Ht l k=some b->∃ w,Cu kvs (.inl k)=some w/\Rp.rel K G w b
 | _,_,k,b,.nil,e=>by cases e
 | kv::kvs,(j,c)::l,k,b,.cons h t,e=>by
  obtain ⟨h1,h2⟩:=h;unfold Ht at e;by_cases hj:j=k
  ·rw [if_pos hj] at e;cases e;exact ⟨kv.2,De (by rw [h1,hj]),h2⟩
  ·rw [if_neg hj] at e;obtain ⟨w,e1,e2⟩:=KI t e;refine ⟨w,?_,e2⟩;rw [DJ (fun z=>hj (by rw [h1] at z;exact Sum.inl.inj z))];exact e1
theorem ID {G:Hp}{k:Int}:∀ {kvs:List (Key × V)}{l:List (Int × α)},Paired (M9 K G) kvs l->(kvs.any fun kv=>decide (kv.1 = .inl k))=l.any fun q=>decide (q.1=k)
 | _,_,.nil=>rfl
 | kv::kvs,q::l,.cons h t=>by
  rw [List.any_cons,List.any_cons,ID t,h.1]
  congr 1
  exact decide_eq_decide.mpr ⟨fun e=>Sum.inl.inj e,fun e=>by rw [e]⟩
theorem KP {G:Hp}{k:Int}{w:V}{b:α}(r:Rp.rel K G w b):∀ {kvs:List (Key × V)}{l:List (Int × α)},Paired (M9 K G) kvs l->Paired (M9 K G) (kvs.map fun kv=>if kv.1 = .inl k then (kv.1,w) else kv) (l.map fun q=>if q.1=k then (q.1,b) else q)
 | _,_,.nil=>.nil
 | kv::kvs,q::l,.cons h t=>by
  rw [qaB,qaB];refine .cons ?_ (KP r t);by_cases e:q.1=k
  ·rw [if_pos e,if_pos (by rw [h.1,e])];exact ⟨h.1,r⟩
  ·rw [if_neg e,if_neg (fun z=>e (by rw [h.1] at z;exact Sum.inl.inj z))];exact h
theorem Kb {G:Hp}{k:Int}{w:V}{b:α}{l:List (Int × α)}(r:Rp.rel K G w b)(h:Paired (M9 K G) kvs l):Paired (M9 K G) (Cg kvs (.inl k) w) (JU l k b):=by
 unfold Cg JU;rw [ID h];by_cases e:(l.any fun q=>decide (q.1=k))=true
 ·rw [if_pos e,if_pos e];exact KP r h
 ·rw [if_neg e,if_neg e];exact Paired.app h (.cons ⟨rfl,r⟩ .nil)
theorem R9 {md:Option (Mp α)}{mi:Option Int}(ed:EV K td σ G md)(ei:EV K ti σ G mi):EV K (tDGet td ti) σ G (md.bind fun d=>mi.bind fun k=>Ht d.l k):=by
 clear 7;obtain ⟨d,hd,hc⟩:=qaA.mp hc;obtain ⟨j,hj,hc⟩:=qaA.mp hc;clear 8 ed d hd;refine ei G2 (s1.trans x2.gg) j hj H2 x2.gh _ fun u G3 H3 x3 r3=>?_;obtain ⟨p,kvs,rfl,h,pr⟩:=Rp.mono x3.gg r2;cases r3;obtain ⟨w,e1,e2⟩:=KI pr hc;exact ⟨p,w,rfl,.inl ⟨kvs,.inl j,.inl (x3.gh _ _ h),rfl,e1.symm⟩,k _ _ _ (x2.trans x3) e2⟩
theorem sv_ownM {b:Mp α}(hm:(some (Mp.mk []):Option (Mp α))=some b)(s:Same G H)(k:∀ p kvs G2 H2,Ext G H G2 H2->H p=none->OwnM K G2 H2 (.ref p) p kvs b->rest D (σ.set i (some (.ref p))) H2):Cm (Fv Py (CB i)) rest D σ H:=by
 cases hm;exact fun p hp=>k p [] G _ (.own s hp) hp ⟨rfl,s.free hp,AQ,.nil⟩
theorem Qv {b:α}{m:Option α}{mi:Option Int}{k':Int}{a':Mp α}(hσ:σ[i]? = some (some v))(o:OwnM K G H v p kvs a)(e:EV K te σ G m)(hm:m=some b)(ei:EV K ti σ G mi)(hi:mi=some k')(hs:OP a k' b=some a')(s:Same G H)
  (k:∀ G2 H2 w,Ext G H G2 H2->OwnM K G2 (upd H2 p (.dK (Cg kvs (.inl k') w))) v p (Cg kvs (.inl k') w) a'->rest D σ (upd H2 p (.dK (Cg kvs (.inl k') w)))):Cm (RQ (FP i) ti te) rest D σ H:=by
 obtain ⟨hl,rfl⟩:=BZ hs;have hlen:=Paired.length o.p;refine e.run hm s fun w G2 H2 x r=>?_;have o2:=o.ext x;refine ⟨v,hσ,?_⟩;refine ei G2 x.gg k' hi H2 x.gh _ fun u G3 H3 x3 r3=>?_;cases r3;have o3:=o2.ext x3;refine ⟨p,_,o3.v,.inl ⟨kvs,.inl k',o3.h,rfl,by omega,rfl⟩,?_⟩;exact k G3 H3 w (x.trans x3) ⟨o3.v,o3.g,AQ,Kb (Rp.mono x3.gg r) o3.p⟩
end
section
variable {K:FZ9}{σ:St}{G H:Hp}{α:Type}[Rp α]{te:TE}{rest:TS}{D:Ends}{i:Nat}{a:α}{m:Option α}{as:List α}{v:V}{p:Addr}{vs:List V}
theorem Pp [Imm α]{as':List α}(hσ:σ[i]? = some (some v))(o:Own K G H v p vs as)(e:EV K te σ (upd G p (.lst vs)) m)(hm:m=some a)(hp:E4 as a=some as')(s:Same G H)
  (k:∀ G2 H2 w,Ext G H G2 H2->Own K G2 (upd H2 p (.lst (vs++[w]))) v p (vs++[w]) as'->rest D σ (upd H2 p (.lst (vs++[w])))):Cm (KY (tBM K "list" GQ (FP i) (B5 te DE))) rest D σ H:=by
 obtain ⟨hl,rfl⟩:=BZ hp;have hlen:=Paired.length o.p;have ov:=o.v;subst ov;refine ⟨_,hσ,.inl ⟨rfl,_,SqL.of o.h⟩,?_⟩;refine EV.runB o e hm s fun w G2 H2 x r=>?_;have o2:=o.ext x;refine ⟨p,vs,w,rfl,rfl,o2.h,by omega,?_⟩;refine k G2 H2 w x ⟨rfl,o2.g,AQ,?_,Paired.app o2.p (.cons r .nil)⟩;rw [qfA,qhA];omega
end
def F7 {α:Type}(l:List α)(lo hi:Option Int)(st:Int):List α :=
 (sliceRange (sliceBounds lo hi (some st) l.length).1 (sliceBounds lo hi (some st) l.length).2.1 (sliceBounds lo hi (some st) l.length).2.2).filterMap fun i=>l[i]?
theorem Paired.fm {α β:Type}{R:α->β->Prop}{f:Nat->Option α}{g:Nat->Option β}(h:∀ i,(f i=none/\g i=none)\/∃ a b,f i=some a/\g i=some b/\R a b):∀ is:List Nat,Paired R (is.filterMap f) (is.filterMap g)
 | []=>.nil
 | i::is=>by
  rcases h i with ⟨h1,h2⟩ | ⟨a,b,h1,h2,r⟩
  ·rw [List.filterMap_cons_none h1,List.filterMap_cons_none h2];exact Paired.fm h is
  ·rw [List.filterMap_cons_some h1,List.filterMap_cons_some h2];exact .cons r (Paired.fm h is)
theorem Paired.opt {α β:Type}{R:α->β->Prop}:∀ {vs:List α}{as:List β}(_:Paired R vs as) (i:Nat),(vs[i]? = none/\as[i]? = none)\/∃ a b,vs[i]? = some a/\as[i]? = some b/\R a b
 | _,_,.nil,i=>.inl ⟨by simp,by simp⟩
 | _,_,.cons r t,0=>.inr ⟨_,_,rfl,rfl,r⟩
 | _,_,.cons r t,i+1=>by
  rw [List.getElem?_cons_succ,List.getElem?_cons_succ];exact Paired.opt t i
theorem Paired.pick {α β:Type}{R:α->β->Prop}{vs:List α}{as:List β}(p:Paired R vs as)(lo hi:Option Int)(st:Int):Paired R (F7 vs lo hi st) (F7 as lo hi st):=by
 unfold F7;rw [Paired.length p];exact Paired.fm (Paired.opt p) _
theorem J6 {α:Type}(l:List α)(lo hi:Option Int)(st:Int):(F7 l lo hi st).length<=l.length:=by
 have h:=slicePick_size_le (l.map fun _=>Value.none).toArray lo hi (some st)
 have p:Paired (fun _ _=>True) l (l.map fun _=>Value.none):=by
  induction l with
  | nil=>exact .nil
  | cons a l ih=>exact .cons trivial (ih (slicePick_size_le _ _ _ _))
 have e:=Paired.length (Paired.pick p lo hi st)
 have e2:(slicePick (l.map fun _=>Value.none).toArray lo hi (some st)).size=(F7 (l.map fun _=>Value.none) lo hi st).length:=by
  unfold slicePick F7;rw [qvB,qvB]
  congr 1
  congr 1
  funext i
  simp
 rw [e2,qvB,qeA] at h;omega
def SlR3 (X:Cx)(r:V->Option Int->Option Int->Option Int->Hp->VK->Prop):Prop :=
 ∀ (pins:List (Addr × Obj)) (s:Shared) (σ:St) (H:Hp) (x:V) (v vl vu vs:Value) (lo hi st:Option Int) (sl:Addr) (Q:VK),Inv X pins σ H s->RelV x v->s.heap.IsSliceOf sl vl vu vs->IsPart vl lo->IsPart vu hi->IsPart vs st->r x lo hi st H Q ->
  ∃ T id,typeLookup (.type T) "__getitem__" = pure (some (.builtin id))/\s.TypeIs v T/\wpAny (model X.prog X.w) X.A (getItem v (.ref sl)) (EP X pins σ Q) X.xe s
abbrev tSl3 (r:V->Option Int->Option Int->Option Int->Hp->VK->Prop)(te:TE)(tl th ts:TO):TE:=fun σ H Q=>te σ H fun x H1=>tl σ H1 fun l H2=>th σ H2 fun u H3=>ts σ H3 fun c H4=>r x l u c H4 Q
def rSl3 (K:FZ9):V->Option Int->Option Int->Option Int->Hp->VK->Prop:=fun x lo hi st H Q=>∃ a xs c,x = .ref a/\SqL K H a xs/\st=some c/\c≠0/\∀ p,H p=none->Q (.ref p) (upd H p (.lst (F7 xs lo hi c)))
section
variable {X:Cx}{e:Expr}{te:TE}{lo hi:Option Expr}{se:Expr}{tl th ts:TO}{pos p2:Pos}
theorem Ri {r:V->Option Int->Option Int->Option Int->Hp->VK->Prop}(hr:SlR3 X r)(he:PE X e te)(hl:PO X lo tl)(hu:PO X hi th)(hs:PO X (some se) ts):PE X (.Subscript e (.Slice lo hi (some se) p2) pos) (tSl3 r te tl th ts):=by
 intro pins s σ H Q I h;refine Subscript_ (thn (he pins s σ H _ I h) fun v s1 ⟨x,H1,I1,r1,q1⟩=>?_);refine wpAny_Slice (thn (hl pins s1 σ H1 _ I1 q1) fun vl s2 ⟨l,H2,I2,pl,q2⟩=>thn (hu pins s2 σ H2 _ I2 q2) fun vu s3 ⟨u,H3,I3,pu,q3⟩=>thn (hs pins s3 σ H3 _ I3 q3) fun vs s4 ⟨c,H4,I4,pc,q4⟩=>?_);have I5:Inv X pins σ H4 { s4 with heap:=s4.heap.push { cls:=.type "slice",data:=.fields #[vl,vu,vs] } }:=I4.kept (t':=s4.toks) fun b ob q=>qmB _ q;obtain ⟨T,id,hT,ht,hg⟩:=hr pins { s4 with heap:=s4.heap.push { cls:=.type "slice",data:=.fields #[vl,vu,vs] } } σ H4 x v vl vu vs l u c s4.heap.objs.size Q I5 r1 (Heap.IsSliceOf.new ..) pl pu pc q4;show wpAny (model X.prog X.w) X.A (subscriptTail e (.Slice lo hi (some se) p2) v (.ref s4.heap.objs.size)) (EP X pins σ Q) X.xe { s4 with heap:=s4.heap.push { cls:=.type "slice",data:=.fields #[vl,vu,vs] } };exact tail_any (ops:=[v,.ref s4.heap.objs.size]) ht hT hg (by with_unfolding_all rfl)
theorem sl3_list {K:FZ9}(h:X.K=K):SlR3 X (rSl3 K):=by
 subst h;intro pins s σ H x v vl vu vs lo hi st sl Q I rx hs pl pu ps h;obtain ⟨a,xs,c,rfl,hx,rfl,hc,q⟩:=h;cases rx;obtain ⟨its,r,ht,hz⟩:=I.list hx;have hlen:=r.length;refine ⟨"list",_,slot_list_getitem.lookup,ht.isList.typeIs,?_⟩;refine wpAny_getItem_list_slice ht.isList hs pl pu ps (fun z=>hc (qjB z)) ?_ (by rw [qvB]<;>omega)
 have e:slicePick its.toArray lo hi (some c)=(F7 its lo hi c).toArray:=by
  unfold slicePick F7;rw [qvB]
  congr 1
  congr 1
  funext i
  simp
 rw [e];refine ⟨.ref s.heap.objs.size,_,I.laid (t':=s.toks) (o:=.lst (F7 xs lo hi c)) (fun b ob q=>qmB _ q) (qfB _) ?_,rfl,q _ (I.hok.fresh (qfB _))⟩;exact ⟨qgB (J6 xs lo hi c) hz,_,0,Paired.pick r lo hi c,qnB _ rfl⟩
end
section
variable {K:FZ9}{σ:St}{G H:Hp}{ta t3:TE}{t1 t2:TO}{α:Type}[Rp α]{m1 m2:Option (Option Int)}{c:Int}
theorem RX {la:Option (List α)}(ea:EV K ta σ G la)(e1:OV t1 σ G m1)(e2:OV t2 σ G m2)(e3:EV K t3 σ G (some c))(hc:c≠0:=by decide):FV K (tSl3 (rSl3 K) ta t1 t2 (ON t3)) σ G (la.bind fun a=>m1.bind fun lo=>m2.bind fun hi=>some (F7 a lo hi c)):=by
 intro G1 s1 z hz H sH Q k;obtain ⟨a,ha,hz⟩:=qaA.mp hz;obtain ⟨lo,hlo,hz⟩:=qaA.mp hz;obtain ⟨hi,hhi,hz⟩:=qaA.mp hz;cases hz;clear 8 ea a ha;refine e1 G2 (s1.trans x2.gg) lo hlo H2 x2.gh _ fun G3 H3 x3=>?_;refine e2 G3 (s1.trans (x2.trans x3).gg) hi hhi H3 x3.gh _ fun G4 H4 x4=>?_;refine e3 G4 (s1.trans ((x2.trans x3).trans x4).gg) c rfl H4 x4.gh _ fun w G5 H5 x5 r5=>?_;cases r5;obtain ⟨l,xs,rfl,h,z,p⟩:=Rp.mono ((x3.trans x4).trans x5).gg r2;exact ⟨c,rfl,l,xs,c,rfl,.inl (x5.gh.rd h),rfl,hc,MX x5.gh (qgB (J6 _ _ _ _) z) (Paired.pick p lo hi c) (FV.mono (((x2.trans x3).trans x4).trans x5) k)⟩
end
def leS (a b:Str):Bool:=!decide (b.cps.toList<a.cps.toList)
theorem leS_iff {a b:Str}:leS a b=true ↔ a.cps.toList<=b.cps.toList:=by
 unfold leS;rw [Bool.not_eq_true',decide_eq_false_iff_not];exact List.not_lt
theorem MT (a b c:Str)(h1:leS a b=true)(h2:leS b c=true):leS a c=true:=leS_iff.mpr (List.le_trans (leS_iff.mp h1) (leS_iff.mp h2))
theorem S9 (a b:Str):(leS a b || leS b a)=true:=by
 rw [Bool.or_eq_true,leS_iff,leS_iff];exact List.le_total _ _
theorem leS_anti {a b:Str}(h1:leS a b=true)(h2:leS b a=true):a=b:=by
 have:=List.le_antisymm (leS_iff.mp h1) (leS_iff.mp h2);cases a;cases b
 congr 1
 exact Array.toList_inj.mp this
def MQ (ys:List Str):List Str:=ys.mergeSort leS
theorem EE (ys:List Str):(MQ ys).Perm ys:=List.mergeSort_perm ys leS
theorem MZ:∀ (p:Str) (l:List Str),risingS p l=true->(p::l).Pairwise fun a b=>leS a b=true
 | p,[],_=>by simp
 | p,x::r,h=>by
  have h:(!ltCps x.cps.toList p.cps.toList && risingS x r)=true:=h;rw [qfC,ltCps_eq] at h;have h1:leS p x=true:=h.1;have ih:=MZ x r h.2;refine List.pairwise_cons.mpr ⟨fun y hy=>?_,ih⟩;rcases qmA.mp hy with rfl|hy
  ·exact h1
  ·exact MT _ _ _ h1 (List.rel_of_pairwise_cons ih hy)
theorem sortS_of {ss ss':List Str}(hp:ss'.Perm ss)(hs:sortedS ss'=true):ss'=MQ ss:=by
 have pw:ss'.Pairwise fun a b=>leS a b=true:=by
  cases ss' with
  | nil=>exact .nil
  | cons x r=>exact MZ x r hs
 exact List.Perm.eq_of_pairwise (fun a b _ _ h1 h2=>leS_anti h1 h2) pw (List.pairwise_mergeSort MT S9 ss) (hp.trans (EE ss).symm)
theorem MR:∀ {vs:List Value}{ss:List Str},StrsAre vs ss->Vals (ss.map V.str) vs
 | _,_,.nil=>.nil
 | _,_,.cons x t r=>.cons ⟨t,rfl⟩ (MR r)
def Ris (xs:Array Nat):Prop:=∀ i j,i<j->(hj:j<xs.size)->xs.getD i 0<xs.getD j 0
theorem below_go (xs:Array Nat)(j:Nat)(hr:Ris xs):∀ fuel lo hi,lo<=hi->hi<=xs.size->hi - lo<=fuel->(∀ i,i<lo->xs.getD i 0<j)->(∀ i,hi<=i->i<xs.size->j<=xs.getD i 0) ->
  (SetTable.below.go xs j fuel lo hi<=xs.size/\(∀ i,i<SetTable.below.go xs j fuel lo hi->xs.getD i 0<j)/\∀ i,SetTable.below.go xs j fuel lo hi<=i->i<xs.size->j<=xs.getD i 0):=by
 intro fuel
 induction fuel with
 | zero =>
  intro lo hi h1 h2 h3 h4 h5;have e:lo=hi:=by omega
  subst e;exact ⟨h2,h4,h5⟩
 | succ fuel ih =>
  intro lo hi h1 h2 h3 h4 h5;unfold SetTable.below.go;by_cases hlt:lo<hi
  ·rw [if_pos hlt];dsimp only;have hm1:lo<=(lo+hi) / 2:=by omega
   have hm2:(lo+hi) / 2<hi:=by omega
   generalize (lo+hi) / 2=mid at hm1 hm2 ⊢;have hms:mid<xs.size:=by omega
   have e1:xs.getD mid j=xs.getD mid 0:=by simp [Array.getD,hms]
   rw [e1]
   have mono:∀ a b,a<=b->b<xs.size->xs.getD a 0<=xs.getD b 0:=fun a b hab hb=>by
    rcases Nat.lt_or_eq_of_le hab with h|h
    ·exact Nat.le_of_lt (hr a b h hb)
    ·rw [h];exact qfB _
   by_cases hc:xs.getD mid 0<j
   ·rw [if_pos hc];refine ih (mid+1) hi (by omega) h2 (by omega) (fun i hi'=>?_) h5;exact Nat.lt_of_le_of_lt (mono i mid (by omega) hms) hc
   ·rw [if_neg hc];refine ih lo mid hm1 (by omega) (by omega) h4 fun i hi' hs=>?_;exact qgB (Nat.le_of_not_lt hc) (mono mid i hi' hs)
  ·rw [if_neg hlt];have e:lo=hi:=by omega
   subst e;exact ⟨h2,h4,h5⟩
theorem Oq {xs:Array Nat}(hr:Ris xs)(j:Nat):SetTable.below xs j<=xs.size/\(∀ i,i<SetTable.below xs j->xs.getD i 0<j)/\∀ i,SetTable.below xs j<=i->i<xs.size->j<=xs.getD i 0 :=
 below_go xs j hr xs.size 0 xs.size (qeC _) (qfB _) (qfB _) (fun i h=>absurd h (Nat.not_lt_zero _)) fun i h h'=>absurd h' (Nat.not_lt.mpr h)
theorem OL {xs:Array Nat}(hr:Ris xs){j p:Nat}(hp:p<=xs.size)(h1:∀ i,i<p->xs.getD i 0<j)(h2:∀ i,p<=i->i<xs.size->j<=xs.getD i 0):SetTable.below xs j=p:=by
 obtain ⟨a,b,c⟩:=Oq hr j;rcases Nat.lt_trichotomy (SetTable.below xs j) p with h|h|h
 ·have:=c _ (qfB _) (by omega);have:=h1 _ h;omega
 ·exact h
 ·have:=b _ h;have:=h2 p (qfB _) (by omega);omega
theorem QU {xs:Array Nat}(hr:Ris xs):SetTable.below xs 0=0:=OL hr (qeC _) (fun i h=>absurd h (Nat.not_lt_zero _)) fun i _ _=>qeC _
theorem Qi {xs:Array Nat}(hr:Ris xs){i:Nat}(hi:i<xs.size):SetTable.below xs (xs.getD i 0+1)=i+1 :=
 OL hr hi (fun k hk=>by
  rcases Nat.lt_or_eq_of_le (Nat.le_of_lt_succ hk) with h|h
  ·have:=hr k i h hi;omega
  ·rw [h];exact Nat.lt_succ_self _) fun k hk hs=>hr i k hk hs
theorem JZ {xs:Array Nat}(h:xs.toList.Pairwise (· < ·)):Ris xs:=fun i j hij hj=>by
 have:=List.pairwise_iff_getElem.mp h i j (by simpa using Nat.lt_trans hij hj) (by simpa using hj) hij
 simpa [Array.getD,hj,Nat.lt_trans hij hj] using this
theorem Ru {xs:Array Nat}(h:Ris xs):xs.toList.Pairwise (· < ·):=by
 rw [List.pairwise_iff_getElem];intro i j hi hj hij;have hi':i<xs.size:=by simpa using hi
 have hj':j<xs.size:=by simpa using hj
 have:=h i j hij hj'
 simpa [Array.getD,hj',hi'] using this
theorem Pw {xs:Array Nat}(hr:Ris xs){j:Nat}(hn:xs[SetTable.below xs j]?≠some j):Ris (SetTable.insertAt xs (SetTable.below xs j) j):=by
 apply JZ;rw [SetTable.toList_insertAt];obtain ⟨a,b,c⟩:=Oq hr j;have pw:=Ru hr;generalize hp:SetTable.below xs j=p at a b c hn
 have hA:∀ x∈xs.toList.take p,x<j:=fun x hx=>by
  obtain ⟨i,hi,rfl⟩:=List.mem_iff_getElem.mp hx;rw [qjA] at hi;have h1:i<p:=by omega
  have h2:i<xs.size:=by rw [qxB] at hi;omega
  have:=b i h1;rw [List.getElem_take]
  simpa [Array.getD,h2] using this
 have hB:∀ x∈xs.toList.drop p,j<x:=fun x hx=>by
  obtain ⟨i,hi,rfl⟩:=List.mem_iff_getElem.mp hx;rw [List.length_drop,qxB] at hi;have h2:p+i<xs.size:=by omega
  have hp2:p<xs.size:=by omega
  have h3:=c (p+i) (Nat.le_add_right _ _) h2;rw [List.getElem_drop]
  have h4:xs.getD (p+i) 0≠j:=fun e=>by
   have h5:=c p (qfB _) hp2
   have h6:xs.getD p 0<=xs.getD (p+i) 0:=by
    cases i with
    | zero=>exact qfB _
    | succ i=>exact Nat.le_of_lt (hr p (p+(i+1)) (by omega) h2)
   have h7:xs.getD p 0=j:=by omega
   apply hn;simp only [Array.getD,hp2,dite_true] at h7;rw [Array.getElem?_eq_getElem hp2];exact congrArg some h7
  simp only [Array.getD,h2,dite_true] at h3 h4;have e:xs.toList[p+i]'(by simpa using h2)=xs[p+i]:=by simp
  rw [e];have h3':j<=xs[p+i]:=by simpa using h3
  have h4':xs[p+i]≠j:=by simpa using h4
  omega
 rw [List.pairwise_append];refine ⟨pw.take,List.pairwise_cons.mpr ⟨hB,pw.drop⟩,fun x hx y hy=>?_⟩;have h1:=hA x hx;rcases qmA.mp hy with rfl|hy
 ·exact h1
 ·exact Nat.lt_trans h1 (hB y hy)
structure RT (t:SetTable):Prop where
 ris:Ris t.place
 dum:t.dummies = #[]
theorem Mj (j:Nat):SetTable.has #[] j=false:=by
 unfold SetTable.has;simp
theorem probe_go {t:SetTable}(hd:t.dummies = #[])(f:Nat->Int)(h:Int):∀ fuel p j d,p.dummy=none->SetTable.probe.go t f h fuel p=some (.empty j d)->d=none/\t.place[SetTable.below t.place j]?≠some j:=by
 intro fuel
 induction fuel with
 | zero=>intro p j d _ e;cases e
 | succ fuel ih =>
  intro p j d hp e;unfold SetTable.probe.go at e
  have hadv:(t.advance p).dummy=none:=by
   unfold SetTable.advance;split
   ·exact hp
   ·exact hp
  cases hs:t.slot p.j with
  | empty =>
   rw [hs] at e;dsimp only at e;cases e;refine ⟨hp,fun hc=>?_⟩;unfold SetTable.slot at hs;dsimp only at hs;rw [hc] at hs;simp at hs
  | dummy =>
   unfold SetTable.slot at hs;dsimp only at hs;rw [hd,Mj] at hs;split at hs<;>simp at hs
  | live i =>
   rw [hs] at e;dsimp only at e;split at e
   ·cases e
   ·exact ih _ _ _ hadv e
theorem OW {t:SetTable}(hd:t.dummies = #[]){h:Int}{j:Nat}{b:Bool}(e:t.freeSlot h=some (j,b)):b=false/\t.place[SetTable.below t.place j]?≠some j:=by
 unfold SetTable.freeSlot at e
 cases hp:t.probe (fun _=>h+1) h (t.probeStart h) with
 | none=>rw [hp] at e;cases e
 | some m =>
  rw [hp] at e
  cases m with
  | candidate _ _ _=>cases e
  | empty j' d =>
   obtain ⟨rfl,h2⟩:=probe_go hd _ _ _ _ _ _ rfl hp;simp only [Option.getD_none,Option.isSome_none,Option.some.injEq,Prod.mk.injEq] at e;obtain ⟨rfl,rfl⟩:=e;exact ⟨rfl,h2⟩
theorem GM (t:SetTable)(n:Nat):RT (t.standIn n):=⟨JZ (by show (Array.range n).toList.Pairwise _;rw [Array.toList_range];exact List.pairwise_lt_range),rfl⟩
theorem Ng {t:SetTable}(h:RT t)(n:Nat):RT (t.orStandIn n):=by
 unfold SetTable.orStandIn;split
 ·exact h
 ·exact GM t n
theorem MF (t:SetTable)(n:Nat):(t.orStandIn n).led=t.led:=by
 unfold SetTable.orStandIn;split<;>rfl
theorem RY {t:SetTable}(ht:RT t)(es:Array (Int × Value))(h:Int)(x:Value):RT (layNew t es h x).2.1/\(layNew t es h x).2.1.led=t.led:=by
 unfold layNew;split
 ·rename_i slot wd e;obtain ⟨_,h2⟩:=OW ht.dum e;refine ⟨Ng ⟨?_,?_⟩ _,MF _ _⟩
  ·exact Pw ht.ris h2
  ·show (if SetTable.has t.dummies slot then _ else t.dummies) = #[];rw [ht.dum,Mj]
   rfl
 ·exact ⟨GM _ _,rfl⟩
theorem JL {β:Type}(f:Nat->Option β):∀ l:List Nat,l.Pairwise (· < ·)->((l.filterMap fun j=>(f j).map (j,·)).map (·.1)).Pairwise (· < ·)
 | [],_=>.nil
 | a::l,h=>by
  have ih:=JL f l h.tail
  cases hf:f a with
  | none=>rw [List.filterMap_cons_none (by rw [hf];rfl)];exact ih
  | some b =>
   rw [List.filterMap_cons_some (b:=(a,b)) (by rw [hf];rfl),qaB];refine List.pairwise_cons.mpr ⟨fun y hy=>?_,ih⟩;obtain ⟨⟨j,c⟩,hq,rfl⟩:=qnA.mp hy;obtain ⟨j',hj',e⟩:=List.mem_filterMap.mp hq
   cases hf':f j' with
   | none=>rw [hf'] at e;cases e
   | some c' =>
    rw [hf'] at e;cases e;exact List.rel_of_pairwise_cons h hj'
theorem laid_rt {mask finger moves:Nat}{led plain:Bool}{hs:Array Int}{t:SetTable}{o:Array Nat}(e:SetTable.laid mask finger moves led plain hs=some (t,o)):RT t/\t.led=led/\t.plain=plain/\t.mask=mask:=by
 unfold SetTable.laid at e
 cases hl:SetTable.layClean mask hs with
 | none=>rw [hl] at e;cases e
 | some ow =>
  rw [hl] at e;simp only [Option.pure_def,Option.bind_eq_bind,Option.bind_some,Option.some.injEq,Prod.mk.injEq] at e;obtain ⟨rfl,rfl⟩:=e;refine ⟨⟨JZ ?_,rfl⟩,rfl,rfl,rfl⟩;exact JL (fun j=>ow.getD j none) _ List.pairwise_lt_range
theorem Pa (t:SetTable)(ht:RT t)(es:Array (Int × Value))(wanted:Nat):RT (relayAll t es wanted).2.1/\(relayAll t es wanted).2.1.led=t.led:=by
 unfold relayAll;split
 ·rename_i t' order e;dsimp only;split
  ·unfold SetTable.relaid at e;obtain ⟨a,b,_⟩:=laid_rt e;exact ⟨a,b⟩
  ·exact ⟨GM _ _,rfl⟩
 ·exact ⟨GM _ _,rfl⟩
theorem LY {α:Type}{l:List α}{i:Nat}(h:i<l.length):(l[i]::l.eraseIdx i).Perm l:=by
 rw [List.eraseIdx_eq_take_drop_succ];have e:l=l.take i++l[i]::l.drop (i+1):=by rw [List.getElem_cons_drop,List.take_append_drop]
 exact List.perm_middle.symm.trans (List.Perm.of_eq e.symm)
theorem pick_go {α:Type}(next:Nat->Nat):∀ fuel k (left:List α) (out:Array α),left.length=fuel->(pickOrder.go next fuel k left out).toList.Perm (out.toList++left):=by
 intro fuel
 induction fuel with
 | zero =>
  intro k left out h;have:left=[]:=List.eq_nil_of_length_eq_zero h;subst this;unfold pickOrder.go;rw [qdB]
 | succ fuel ih =>
  intro k left out h;unfold pickOrder.go;have hlt:next k % left.length<left.length:=Nat.mod_lt _ (by omega);rw [qvA hlt];dsimp only;refine (ih (k+1) _ _ (by rw [List.length_eraseIdx_of_lt hlt];omega)).trans ?_;rw [Array.toList_push,qcB];refine List.Perm.append_left _ ?_;exact LY hlt
theorem Mm {α:Type}(next:Nat->Nat)(xs:Array α):(pickOrder next xs).toList.Perm xs.toList:=by
 unfold pickOrder;exact (pick_go next xs.size 0 xs.toList #[] (by simp)).trans (by simp)
def byT (w:World):Bool:=w.params.followText "set-order"
def Ent (w:World)(e:Int × Value)(k:Key):Prop:=FQ k e.2=true/\e.1=P9 w k
theorem Op {k:Key}{v:Value}(h:FQ k v=true):v.scannable=true:=by
 rcases Bl h with ⟨i,t,rfl,rfl⟩ | ⟨x,t,rfl,rfl⟩<;>rfl
structure SObj (w:World)(o:Obj)(es:Array (Int × Value))(ep:Nat)(t:SetTable)(ks:List Key):Prop where
 exact':o.ExactSet
 data:o.data = .set es ep t
 ent:Paired (Ent w) es.toList ks
 few:ks.length<scanBound
 fit:t.fits es.size=true
 rt:RT t
 led:t.led = !byT w
def SetIs (w:World)(h:Heap)(a:Addr)(ks:List Key):Prop:=∃ o es ep t,h.get? a=some o/\SObj w o es ep t ks
theorem Dp {α β:Type}{F:α->β->Prop}:∀ {l₁:List α}{l₂:List β},Paired F l₁ l₂->l₁.length=l₂.length
 | _,_,.nil=>rfl
 | _,_,.cons _ t=>congrArg (· + 1) (Dp t)
theorem SObj.size {w:World}{o es ep t ks}(S:SObj w o es ep t ks):es.size=ks.length:=by
 have:=Dp S.ent
 rwa [qxB] at this
theorem SObj.elems {prog:Program}{w:World}{o es ep t ks}(S:SObj w o es ep t ks):ElemsOf (BN prog w) es.toList:=by
 have:∀ {l:List (Int × Value)}{ks:List Key},Paired (Ent w) l ks->ElemsOf (BN prog w) l:=by
  intro l ks p
  induction p with
  | nil=>intro e he;cases he
  | cons hd _ ih =>
   intro e he;rcases qmA.mp he with rfl|he
   ·exact ⟨⟨_,hd.1,hd.2⟩,Op hd.1⟩
   ·exact ih e he
 exact this S.ent
theorem He {α β:Type}{F:α->β->Prop}{l l':List α}(hp:l'.Perm l):∀ {m:List β},Paired F l m->∃ m',m'.Perm m/\Paired F l' m':=by
 have:=hp.symm;clear hp
 induction this with
 | nil=>intro m p;exact ⟨m,.rfl,p⟩
 | cons x _ ih =>
  intro m p
  cases p with
  | cons h t =>
   obtain ⟨m',e,q⟩:=ih t;exact ⟨_,e.cons _,.cons h q⟩
 | swap x y l =>
  intro m p
  cases p with
  | cons h t=>cases t with
   | cons h2 t2=>exact ⟨_,List.Perm.swap _ _ _,.cons h2 (.cons h t2)⟩
 | trans _ _ ih1 ih2 =>
  intro m p;obtain ⟨m1,e1,q1⟩:=ih1 p;obtain ⟨m2,e2,q2⟩:=ih2 q1;exact ⟨m2,e2.trans e1,q2⟩
theorem PJ {w:World}{k:Key}:∀ {l:List (Int × Value)}{ks:List Key},Paired (Ent w) l ks->((∃ e∈l,FQ k e.2=true) ↔ k∈ks)
 | _,_,.nil=>by simp
 | _,_,.cons (a:=e) (b:=k') h t=>by
  have ih:=PJ (k:=k) t;have hk:FQ k e.2=true ↔ k=k':=⟨fun q=>(BN default w).inj _ _ _ q h.1,fun q=>q ▸ h.1⟩;constructor
  ·rintro ⟨x,hx,q⟩;rcases qmA.mp hx with rfl|hx
   ·exact qmA.mpr (.inl (hk.mp q))
   ·exact qmA.mpr (.inr (ih.mp ⟨x,hx,q⟩))
  ·intro hm;rcases qmA.mp hm with rfl|hm
   ·exact ⟨e,qqA,h.1⟩
   ·obtain ⟨x,hx,q⟩:=ih.mpr hm;exact ⟨x,qrA _ hx,q⟩
def Hu (ks:List Key)(k:Key):List Key:=if ks.any (fun y=>decide (y=k)) then ks else ks++[k]
theorem any_mem {ks:List Key}{k:Key}:ks.any (fun y=>decide (y=k))=true ↔ k∈ks:=by
 rw [List.any_eq_true];exact ⟨fun ⟨y,hy,e⟩=>(of_decide_eq_true e) ▸ hy,fun h=>⟨k,h,decide_eq_true rfl⟩⟩
theorem NE {ks:List Key}{k:Key}(h:k∈ks):Hu ks k=ks:=by unfold Hu;rw [if_pos (any_mem.mpr h)]
theorem LD {ks:List Key}{k:Key}(h:k ∉ ks):Hu ks k=ks++[k]:=by unfold Hu;rw [if_neg (fun q=>h (any_mem.mp q))]
theorem Np {t:SetTable}(h:RT t):RT { t with plain:=false }:=⟨h.ris,h.dum⟩
section
variable {prog:Program}{w:World}{A:Around}{E:Value->Shared->Prop}{s:Shared}
theorem Hl {Q:Bool->Shared->Prop}(h:Q (byT w) s):wpAny (model prog w) A setsByText Q E s:=by
 unfold setsByText;exact qbA (wpAny_askSetting (qcA h))
theorem Rn {src:Source}{n:Nat}{Q:Nat->Shared->Prop}(hn:n≠0)(h:∀ i d,i<n->Q i { s with drawn:=d }):wpAny (model prog w) A (choose src n) Q E s :=
 fun Γ p hΓ=>⟨hn,h _ _ (Nat.mod_lt _ (Nat.pos_of_ne_zero hn))⟩
theorem MU {a:Addr}{o:Obj}{es:Array (Int × Value)}{ep:Nat}{t:SetTable}{es':Array (Int × Value)}{t':SetTable}(ho:s.heap.get? a=some o)(hd:o.data = .set es ep t) :
  (s.heap.update a (Obj.putSet es' t')).get? a=some { o with data:=.set es' (ep+1) t' }:=by
 have:=Heap.get?_update_self (Obj.putSet es' t') ho (by rw [putSet_of es' t' hd];rfl)
 rwa [putSet_of es' t' hd] at this
theorem JQ {n:Nat}(h:n<scanBound):n<=sizeLine:=fits_of_scanBound h
theorem P8 {g:Bool->Sem Unit}(hg:∀ (b:Bool) (s₁:Shared) (Q':Unit->Shared->Prop),Q' () s₁->wpAny (model prog w) A (g b) Q' E s₁)
  {a:Addr}{o:Obj}{es:Array (Int × Value)}{ep:Nat}{t:SetTable}(gA:s.heap.get? a=some o) (xA:o.ExactSet) (dA:o.data = .set es ep t)
  {es1:Array (Int × Value)}{t2:SetTable}{ks:List Key}(p1:Paired (Ent w) es1.toList ks) (f1:ks.length<scanBound) (ft:t2.fits es1.size=true) (r2:RT t2) (l2:t2.led = !byT w) {wd:Bool}{R:Option Bool->Shared->Prop}
  (h:∀ h' ks',Heap.SameBut a s.heap h'->SetIs w h' a ks'->ks'.Perm ks->R (some true) { s with heap:=h' }) :
  wpAny (model prog w) A (do
    storeSet a es1 t2
    if (!wd && t2.tooFull)=true then do
      g (relayAll t2 es1 (SetTable.grown es1.size)).2.2;storeSet a (relayAll t2 es1 (SetTable.grown es1.size)).1 (relayAll t2 es1 (SetTable.grown es1.size)).2.1
      pure (some true)
     else pure (some true)) R E s:=by
 have z1:es1.size=ks.length:=by have:=Dp p1;rwa [qxB] at this
 refine qbA (wpAny_storeSet_of gA dA ?_ (JQ (by rw [z1];exact f1)));have g1:=MU (es':=es1) (t':=t2) gA dA;have b1:=Heap.SameBut.update s.heap a (Obj.putSet es1 t2);split
 ·have hp:=relayAll_perm t2 es1 (SetTable.grown es1.size);have hfr:=relayAll_fits t2 es1 (SetTable.grown es1.size);obtain ⟨hrt,hld⟩:=Pa t2 r2 es1 (SetTable.grown es1.size);generalize relayAll t2 es1 (SetTable.grown es1.size)=Rl at hp hfr hrt hld ⊢;obtain ⟨es2,t3,gave2⟩:=Rl;dsimp only at hp hfr hrt hld ⊢;obtain ⟨ks',e',p2⟩:=He hp p1;have f2:ks'.length<scanBound:=by rw [e'.length_eq];exact f1
  have z2:es2.size=ks'.length:=by have:=Dp p2;rwa [qxB] at this
  refine qbA (hg _ _ _ (qbA (wpAny_storeSet_of (o:={ o with data:=.set es1 (ep+1) t2 }) g1 rfl ?_ (JQ (by rw [z2];exact f2)))));have g2:=MU (s:={ s with heap:=s.heap.update a (Obj.putSet es1 t2) }) (es':=es2) (t':=t3) g1 rfl;exact qcA (h _ ks' (b1.trans (Heap.SameBut.update _ a _)) ⟨_,es2,_,t3,g2,⟨xA,rfl,p2,f2,hfr,hrt,hld.trans l2⟩⟩ e')
 ·exact qcA (h _ ks b1 ⟨_,es1,_,t2,g1,⟨xA,rfl,p1,f1,ft,r2,l2⟩⟩ .rfl)
theorem add_ok {a:Addr}{ks:List Key}{k:Key}{x:Value}{Q:Bool->Shared->Prop}(hk:FQ k x=true)(hS:SetIs w s.heap a ks)(hroom:ks.length+1<scanBound)
  (h:∀ h' ks',Heap.SameBut a s.heap h'->SetIs w h' a ks'->ks'.Perm (Hu ks k)->∀ b,Q b { s with heap:=h' }) :
  wpAny (model prog w) A (setAddHashed a x (P9 w k)) Q E s:=by
 obtain ⟨o,es,ep,t,gA,S⟩:=hS;have hel:=S.elems (prog:=prog);have hsz:=S.size;have hsc:=Op hk;unfold setAddHashed setAddHashedIn;refine qdA (qbA (qcC gA S.data S.fit ?_));dsimp only;rw [byScan_of hsc (by rw [hsz];exact S.few) hel];simp only [↓reduceIte];unfold setAddByScan;refine qbA (qbA (wpAny_rule (qbA (wpAny_setScan_of (knd:=BN prog w) (k:=k) hk gA S.data S.fit hel ?_))));have hf:=PJ (k:=k) S.ent
 cases hr:List.findIdx? (fun e=>(BN prog w).is k e.2) es.toList with
 | some j =>
  dsimp only;obtain ⟨hj,hpj,_⟩:=List.findIdx?_eq_some_iff_getElem.mp hr;have hm:k∈ks:=hf.mp ⟨es.toList[j],List.getElem_mem hj,hpj⟩;refine qcA (qcA ?_);have e:s = { s with heap:=s.heap }:=by cases s;rfl
  have q:=h s.heap ks (Heap.SameBut.refl a s.heap) ⟨o,es,ep,t,gA,S⟩ (by rw [NE hm]) false;rw [<- e] at q;exact q
 | none =>
  dsimp only
  have hm:k ∉ ks:=fun hm=>by
   obtain ⟨e,he,q⟩:=hf.mpr hm;have:=List.findIdx?_eq_none_iff.mp hr e he;have q':(BN prog w).is k e.2=true:=q;rw [q'] at this;exact Bool.noConfusion this
  have hgw:∀ (b:Bool) {s₁:Shared}{Q':Unit->Shared->Prop},Q' () s₁->wpAny (model prog w) A (match b with|true=>rule "set.scan.the-table-gave-way" | false=>pure ()) Q' E s₁:=by
   intro b s₁ Q' hq;cases b
   ·exact qcA hq
   ·exact wpAny_rule hq
  have hperm:=layNew_perm t es (P9 w k) x;have hfits:=layNew_fits t es (P9 w k) x;obtain ⟨hrt,hld⟩:=RY S.rt es (P9 w k) x;generalize hL:layNew t es (P9 w k) x=L at hperm hfits hrt hld;obtain ⟨es1,t1,wd,gave⟩:=L;dsimp only at hperm hfits hrt hld ⊢;rw [Array.toList_push] at hperm;obtain ⟨ks1,e1,p1⟩:=He hperm (S.ent.snoc (b:=k) (show Ent w (P9 w k,x) k from ⟨hk,rfl⟩));have f1:ks1.length<scanBound:=by rw [e1.length_eq,qfA];exact hroom
  have fin:∀ (h':Heap) (ks':List Key),Heap.SameBut a s.heap h'->SetIs w h' a ks'->ks'.Perm ks1->Q true { s with heap:=h' }:=fun h' ks' b1 b2 b3=>h h' ks' b1 b2 (by rw [LD hm];exact b3.trans e1) true;refine qbA (hgw _ ?_);split
  ·refine qbA ?_;rw [hashByValue_scannable 8 hsc];refine qcA (P8 (fun b s₁ Q' hq=>by cases b<;>first|exact qcA hq|exact wpAny_rule hq) gA S.exact' S.data p1 f1 ?_ ?_ ?_ fun h' ks' b1 b2 b3=>?_)
   ·split
    ·exact hfits
    ·exact SetTable.fits_plain_off hfits
   ·split
    ·exact hrt
    ·exact Np hrt
   ·split
    ·exact hld.trans S.led
    ·exact hld.trans S.led
   ·exact qcA (fin h' ks' b1 b2 b3)
  ·refine qbA (qcA ?_);simp only [↓reduceIte];refine P8 (fun b s₁ Q' hq=>by cases b<;>first|exact qcA hq|exact wpAny_rule hq) gA S.exact' S.data p1 f1 hfits hrt (hld.trans S.led) fun h' ks' b1 b2 b3=>?_;exact qcA (fin h' ks' b1 b2 b3)
end
def JA (ks:List Key):List Key:=ks.foldl Hu []
theorem Rg {a b:List Key}(h:a.Perm b)(k:Key):(Hu a k).Perm (Hu b k):=by
 by_cases hk:k∈b
 ·rw [NE hk,NE (h.mem_iff.mpr hk)];exact h
 ·rw [LD hk,LD (fun q=>hk (h.mem_iff.mp q))];exact h.append_right _
theorem addK_len (a:List Key)(k:Key):(Hu a k).length<=a.length+1:=by
 unfold Hu;split
 ·exact Nat.le_succ _
 ·rw [qfA];exact qfB _
theorem S0 (ks:List Key):∀ a:List Key,(ks.foldl Hu a).length<=a.length+ks.length:=by
 induction ks with
 | nil=>intro a;exact qfB _
 | cons k ks ih =>
  intro a;have h1:=ih (Hu a k);have h2:=addK_len a k;rw [qdC,qgA];omega
theorem dedK_len (ks:List Key):(JA ks).length<=ks.length:=by
 have:=S0 ks [];rw [List.length_nil] at this;unfold JA;omega
theorem S8 (ks:List Key)(k:Key):JA (ks++[k])=Hu (JA ks) k:=by
 unfold JA;rw [List.foldl_append]
 rfl
def SetP (w:World)(h:Heap)(a:Addr)(ks:List Key):Prop:=∃ ks',SetIs w h a ks'/\ks'.Perm ks
theorem SetIs.at {w:World}{h h':Heap}{a:Addr}{ks:List Key}(x:SetIs w h a ks)(k:∀ o,h.get? a=some o->h'.get? a=some o):SetIs w h' a ks:=by
 obtain ⟨o,es,ep,t,g,S⟩:=x;exact ⟨o,es,ep,t,k _ g,S⟩
theorem SetP.at {w:World}{h h':Heap}{a:Addr}{ks:List Key}(x:SetP w h a ks)(k:∀ o,h.get? a=some o->h'.get? a=some o):SetP w h' a ks:=by
 obtain ⟨ks',g,e⟩:=x;exact ⟨ks',g.at k,e⟩
def DL (w:World):Obj:={ cls:=.type "set",dict:=none,data:=.set #[] 0 (.fresh 0 0 (!byT w)) }
theorem fresh_is {w:World}{h:Heap}{a:Addr}(g:h.get? a=some (DL w)):SetIs w h a [] :=
 ⟨_,#[],0,_,g,⟨⟨rfl,rfl,rfl⟩,rfl,.nil,by decide,rfl,⟨fun i j _ hj=>absurd hj (Nat.not_lt_zero _),rfl⟩,rfl⟩⟩
section
variable {prog:Program}{w:World}{A:Around}{R:Result->Shared->Prop}{I:Addr}{fp wr:List Addr}{G:Array GenState->Array GenState->Prop}{n:Nat}{P:Nat->Value->Prop}{St:Nat->Shared->Prop}
theorem upd_loop (W:WalksS prog w A.in1 I fp wr G n P St)(S:Addr)(nS:S ∉ fp)(val:List Key)(hn:val.length=n)(hv:∀ i v,P i v->∃ k,val[i]? = some k/\FQ k v=true)(hb:n+1<scanBound) :
  ∀ (k i:Nat) (s:Shared),n - i=k->i<=n->St i s->SetP w s.heap S (JA (val.take i)) ->
   (∀ s',Moved (S::wr) G s s'->SetP w s'.heap S (JA val)->R (.ok (.ret .none)) s') ->
   codeAny (model prog w) A (.builtin "set.update.loop" ⟨[.ref S,.ref I],[]⟩) R s:=by
 have nW:S ∉ wr:=fun h=>nS (W.sub _ h);have up:∀ b∈wr,b∈S::wr:=fun b hb=>qrA _ hb;intro k
 induction k with
 | zero =>
  intro i s e1 e2 st hS hR;have ei:i=n:=by omega
  subst ei;refine codeAny_builtin PyProof.Rows.F.entry_set_update_loop ?_;rw [Around.under_plainId PyProof.Rows.F.plain_set_update_loop _];show wpAny _ A.in1 (pyNext (.ref I) >>= _) _ _ s;refine qbA (W.done s _ _ st fun s' hm=>?_);show wpAny _ A.in1 (ret Value.none) _ _ s';refine qcA (hR s' (hm.mono up) ?_);rw [List.take_of_length_le (Nat.le_of_eq hn)] at hS;exact hS.at fun o e=>hm.heap S _ nW e
 | succ k ih =>
  intro i s e1 e2 st hS hR;have hlt:i<n:=by omega
  refine codeAny_builtin PyProof.Rows.F.entry_set_update_loop ?_;rw [Around.under_plainId PyProof.Rows.F.plain_set_update_loop _];show wpAny _ A.in1 (pyNext (.ref I) >>= _) _ _ s;refine qbA (W.item i s _ _ hlt st fun v s' hP st' hm=>?_);obtain ⟨kk,hkk,hi⟩:=hv i v hP;obtain ⟨ks',hS',ep⟩:SetP w s'.heap S (JA (val.take i)):=hS.at fun o e=>hm.heap S _ nW e;show wpAny _ A.in1 (holding [v] (setAdd S v) >>= _) _ _ s';refine qbA (qdA ?_);unfold setAdd;refine qdA (qbA ((BN prog w).pyHash (k:=kk) hi ?_))
  have hl:ks'.length<=i:=by
   rw [ep.length_eq];exact qgB (dedK_len _) (by rw [qjA];exact Nat.min_le_left _ _)
  refine add_ok (s:={ s' with toks:=s'.toks+1 }) hi hS' (by omega) fun h' ks2 hsb hS2 e2' b=>?_
  have hnext:SetP w h' S (JA (val.take (i+1))):=by
   refine ⟨ks2,hS2,?_⟩;rw [List.take_add_one,hkk];show ks2.Perm (JA (val.take i++[kk]));rw [S8];exact e2'.trans (Rg ep kk)
  refine qcA ⟨plainId_quiet PyProof.Rows.F.plain_set_update_loop _,ih (i+1) _ (by omega) hlt (W.frame _ s' _ _ st' (Nat.le_succ _) fun b hb o e=>?_) hnext fun s'' hm'' hS''=>?_⟩
  ·exact (hsb.2 b (fun h:b=S=>nS (by rw [<- h];exact hb))).trans e
  ·refine hR s'' (Moved.trans W.gtrans ((hm.mono up).then_heap (Nat.le_succ _) fun b o hb e=>?_) hm'') hS'';exact (hsb.2 b (fun h:b=S=>hb (by rw [h];exact qqA))).trans e
end
def Src (prog:Program)(w:World)(x:Value)(h0:Heap)(n:Nat)(P:Nat->Value->Prop):Prop :=
 ∀ s₁:Shared,(∀ b o,h0.get? b=some o->s₁.heap.get? b=some o)->∃ (oI:Obj) (fp:List Addr) (St:Nat->Heap->Prop),oI.isFreed=false/\(∀ b∈fp,b=s₁.heap.objs.size\/b<h0.objs.size)/\St 0 (s₁.heap.push oI) /\
  (∀ (A':Around) (Q:Value->Shared->Prop) (E:Value->Shared->Prop),A'.handled=none->Q (.ref s₁.heap.objs.size) { s₁ with heap:=s₁.heap.push oI }->wpAny (model prog w) A' (pyIter x) Q E s₁) /\
  ∀ A':Around,A'.handled=none->Walks prog w A' s₁.heap.objs.size fp [s₁.heap.objs.size] n P St
section
variable {prog:Program}{w:World}{A:Around}{E:Value->Shared->Prop}{s:Shared}
theorem src_str {x:Str}{t:Tok}:Src prog w (.str x t) s.heap x.cps.size (SignAt x):=fun s₁ hk=>by
 refine ⟨{ cls:=.type (strIterType x),data:=.fields #[.str x t,.int 0 0] },[s₁.heap.objs.size],fun i h=>h.IsStrIter s₁.heap.objs.size (strIterType x) x t i,rfl,fun b hb=>.inl (qpA.mp hb),?_,fun A' Q E' hh q=>wpAny_pyIter_strU q,fun A' hh=>?_⟩
 ·exact ⟨_,qnB _ rfl,rfl,rfl⟩
 ·unfold strIterType;cases ha:x.cps.all (· < 128)
  ·exact Walks.strWide hh _ x t
  ·exact Walks.strAscii hh _ x t
theorem Nw (a:Value){Q₁:Value->Shared->Prop}(h:Q₁ (.ref s.heap.objs.size) { s with heap:=s.heap.push (DL w) }) :
  codeAny (model prog w) A (.call (.builtin "set.__new__") ⟨[.type "set",a],[]⟩) (wants Q₁ E) s:=by
 refine codeAny_of_tree ?_;show wpAny _ A.in1 (checkBuiltinCall "set.__new__" ⟨[.type "set",a],[]⟩ >>= fun _=>again (.builtin "set.__new__" ⟨[.type "set",a],[]⟩)) _ _ s;refine qbA (wpAny_of_eq (PySem.F.newCall_set_1 a) (qcA ⟨plainId_quiet F.plain_set_new _,codeAny_builtin F.entry_set_new ?_⟩));rw [Around.under_plainId F.plain_set_new _];unfold Builtin.«set.__new__» Builtin.Frozenset.newClass;have hsub:=sub_set_self;obtain ⟨hp,g,d,tk,os⟩:=s;dsimp only
 wp_walk
 refine wpAny_askSetting (qcA ?_);dsimp only;simp only [newObj];exact qbA (wpAny_alloc (qcA (qcA h)))
end
theorem OM:isSubtype (.type "str") (.type "set")=pure false:=by rw [isSubtype_type];kernel_rfl
theorem On:isSubtype (.type "str") (.type "frozenset")=pure false:=by rw [isSubtype_type];kernel_rfl
section
variable {prog:Program}{w:World}{A:Around}{E:Value->Shared->Prop}{s:Shared}
theorem NV {x:Value}{T:String}{n:Nat}{P:Nat->Value->Prop}{val:List Key}{Q:Value->Shared->Prop}(hh:A.handled=none)(hx:Src prog w x s.heap n P)
  (tx:∀ s₁:Shared,(∀ b o,s.heap.get? b=some o->s₁.heap.get? b=some o)->s₁.TypeIs x T) (n1:isSubtype (.type T) (.type "set")=pure false) (n2:isSubtype (.type T) (.type "frozenset")=pure false) (n3:(Value.type T == Value.type "dict")=false)
  (hn:val.length=n) (hv:∀ i v,P i v->∃ k,val[i]? = some k/\FQ k v=true) (hb:n+1<scanBound)
  (h:∀ (h':Heap) (tk:Nat),SetP w h' s.heap.objs.size (JA val)->(∀ b o,s.heap.get? b=some o->h'.get? b=some o)->Q (.ref s.heap.objs.size) { s with heap:=h',toks:=tk }) :
  wpAny (model prog w) A (call (.type "set") [x]) Q E s:=by
 obtain ⟨c,tl,hmro⟩:=F.called_set.mro;have hmade:=F.called_set.made;have hsub:=F.called_set.sub;refine wpAny_call (codeAny_of_tree ?_);show wpAny _ _ (callAny (.type "set") _) _ _ _;refine qcA ⟨Code.quiet_builtin _ (by decide +kernel),codeAny_builtin F.entry_type_call ?_⟩;rw [Around.under_plain (weight_type_call_type "set" [x] []) rfl];have h1:=F.called_set.notType;have h2:=F.called_set.canCreate;have hct:=PySem.F.typeCall_set_1 x
 repeat (any_goals (first|assumption|wp_step))
 refine codeAny_mono (Nw x (E:=E) (Q₁:=fun obj s₁=>obj = .ref s.heap.objs.size/\s₁ = { s with heap:=s.heap.push (DL w) }) ⟨rfl,rfl⟩) fun r s₁ hr=>?_
 cases r with
 | error e=>exact hr
 | ok fl=>cases fl with
  | ret obj =>
   obtain ⟨rfl,rfl⟩:=hr;have gS:(s.heap.push (DL w)).get? s.heap.objs.size=some (DL w):=qnB _ rfl;have hT:Shared.TypeIs { s with heap:=s.heap.push (DL w) } (.ref s.heap.objs.size) "set" := ⟨_,gS,rfl⟩;have hli:=F.called_set.init.lookup;have hbi:=F.called_set.init.bind (.ref s.heap.objs.size)
   repeat (any_goals (first|assumption|wp_step))
   refine codeAny_mono (codeAny_call_builtin (R:=wants (fun r s₂=>r = .none/\∃ h' tk,s₂ = { s with heap:=h',toks:=tk }/\SetP w h' s.heap.objs.size (JA val)/\(∀ b o,s.heap.get? b=some o->h'.get? b=some o)) E) F.called_set.init.plain F.entry_set_init (check_set_init_1 hT ?_)) fun r₂ s₂ hr₂=>?_
   ·obtain ⟨hp,g,d,tk0,os⟩:=s;dsimp only at *;have kp:∀ b o,hp.get? b=some o->(hp.push (DL w)).get? b=some o:=fun b o e=>qmB _ e;have hTx:Shared.TypeIs { heap:=hp.push (DL w),gens:=g,drawn:=d,toks:=tk0,os:=os } x T:=tx _ kp;unfold Builtin.«set.__init__» noKeywords Builtin.Frozenset.updateFrom;generalize hPI:pyIter=PI;unfold DL at *
    wp_walk
    subst hPI;obtain ⟨oI,fp,St,hf,hfp,st0,hit,hW⟩:=hx { heap:=hp.push (DL w),gens:=g,drawn:=d,toks:=tk0,os:=os } kp;refine hit _ _ _ (by simp [hh]) (qbA (wpAny_runValue ?_));have eS:(hp.push (DL w)).objs.size=hp.objs.size+1:=size_push' _ _
    have nS:hp.objs.size ∉ fp:=fun hm=>by
     rcases hfp _ hm with e|e
     ·rw [eS] at e;exact absurd e (qyB (Nat.lt_succ_self _))
     ·exact qhB _ e
    refine upd_loop (hW _ (by simp [hh])).toS hp.objs.size nS val hn hv hb n 0 _ rfl (qeC _) st0 ?_ fun s' hm hS'=>?_
    ·exact ⟨[],fresh_is (qmB _ gS),.rfl⟩
    ·obtain ⟨h',g',d',tk',os'⟩:=s';obtain rfl:g'=g:=hm.gens;obtain rfl:d'=d:=hm.drawn;obtain rfl:os'=os:=hm.os;refine qcA ?_;show wpAny _ _ (ret Value.none) _ _ _;refine qcA ⟨rfl,h',tk',rfl,hS',fun b o e=>?_⟩;have lb:b<hp.objs.size:=qkB e;refine hm.heap b o (fun hmem=>?_) (qmB _ (kp b o e));rcases qmA.mp hmem with q|q
     ·exact absurd q (qyB lb)
     ·have q:=qpA.mp q;rw [eS] at q;exact absurd q (qyB (Nat.lt_succ_of_lt lb))
   ·cases r₂ with
    | error e=>exact hr₂
    | ok fl₂=>cases fl₂ with
     | ret r =>
      obtain ⟨rfl,h',tk,rfl,hS',hk'⟩:=hr₂
      repeat (any_goals (first|assumption|wp_step))
      exact h _ _ hS' hk'
     | _=>exact hr₂.elim
  | _=>exact hr.elim
end
theorem slot_si_next:Slot "set_iterator" "__next__" "set_iterator.__next__" :=
 .of (owner := "set_iterator") (n := "__next__") (by rw [typeLookup_type,builtinLookup_eq_fast];kernel_rfl) (by decide +kernel) (by decide +kernel) (by decide +kernel) (by first|exact .inl (by decide +kernel)|exact .inr (by decide +kernel)) (by rw [isSubtype_type];kernel_rfl)
theorem EO:entryFor table "set_iterator.__next__" = some Builtin.«set_iterator.__next__»:=entryFor_of_tree (by kernel_rfl)
theorem Eo (a:Value):argsOk "set_iterator.__next__" ⟨[a],[]⟩:=by unfold argsOk;kernel_rfl
theorem NU:entryFor table "set.__iter__" = some Builtin.«frozenset.__iter__»:=entryFor_alias (id' := "frozenset.__iter__") (by kernel_rfl) rfl (by decide +kernel) (by kernel_rfl)
def SIter (h:Heap)(I:Addr)(f:Value)(i:Nat)(a:Addr)(n ep:Nat):Prop:=∃ o,h.get? I=some o/\o.cls = .type "set_iterator" /\ o.data = .fields #[f,rawInt i,.ref a,rawInt n,rawInt ep]
theorem SIter.type {s:Shared}{I f i a n ep}(x:SIter s.heap I f i a n ep):s.TypeIs (.ref I) "set_iterator" := by
 obtain ⟨o,g,c,_⟩:=x;exact ⟨o,g,c⟩
def SAt (w:World)(h:Heap)(a:Addr)(es:Array (Int × Value))(ep:Nat)(t:SetTable)(ks:List Key):Prop:=∃ o,h.get? a=some o/\SObj w o es ep t ks
section
variable {prog:Program}{w:World}{A:Around}{E:Value->Shared->Prop}{s:Shared}
theorem Kx {h:Heap}{I:Addr}{o:Obj}{fs:Array Value}(k:Nat)(v:Value)(g:h.get? I=some o)(d:o.data = .fields fs) :
  ∃ o',(h.update I (Obj.mapFields (·.setIfInBounds k v))).get? I=some o'/\o'.cls=o.cls/\o'.data = .fields (fs.setIfInBounds k v) :=
 ⟨_,Heap.get?_update_self _ g (Obj.isFreed_of_fields (Obj.data_mapFields d _)),Obj.cls_mapFields ..,Obj.data_mapFields d _⟩
theorem SC {I a:Addr}{sl i n ep:Nat}{es:Array (Int × Value)}{t:SetTable}{ks:List Key}{x:Value}{nx:Nat}{Q:Option Value->Shared->Prop}(it:SIter s.heap I (rawInt sl) i a n ep)(sa:SAt w s.heap a es ep t ks)(hn:es.size=n)
  (nxt:∀ (A':Around) (E':Value->Shared->Prop) (Q':Option (Value × Nat)->Shared->Prop),Q' (some (x,nx)) s->wpAny (model prog w) A' (setNext a sl i ep) Q' E' s)
  (h:∀ h',SIter h' I (rawInt nx) (i+1) a n ep->Heap.SameBut I s.heap h'->Q (some x) { s with heap:=h' }):wpAny (model prog w) A (pyNext (.ref I)) Q E s:=by
 obtain ⟨o,g,c,dt⟩:=id it;obtain ⟨os,gs,S⟩:=sa;unfold pyNext;refine qbA (wpAny_attempt (wpAny_callSpecial?_slot (name:=Str.ofString "__next__") it.type slot_si_next (qbC slot_si_next it.type EO ?_ (Eo _))));unfold Builtin.«set_iterator.__next__»;refine qbA (qcA ?_);dsimp only;refine qbA (wpAny_fieldsOf g dt ?_);simp only [rawInt];refine qbA (wpAny_setEntries_of gs S.data S.fit ?_);rw [if_neg (by rw [hn];simp)];simp only [qqB];refine qbA (nxt _ _ _ ?_);dsimp only;refine qbA (wpAny_setField g dt (by simp) ?_);obtain ⟨o1,g1,c1,d1⟩:=Kx 0 (Value.int (nx:Int) 0) g dt;refine qbA (wpAny_setField (s:={ s with heap:=s.heap.update I (Obj.mapFields (·.setIfInBounds 0 (Value.int (nx:Int) 0))) }) g1 d1 (by simp) ?_);obtain ⟨o2,g2,c2,d2⟩:=Kx 1 (Value.int ((i:Int)+1) 0) g1 d1;refine qcA ⟨_,rfl,qcA (h _ ⟨o2,g2,c2.trans (c1.trans c),?_⟩ ((Heap.SameBut.update _ I _).trans (Heap.SameBut.update _ I _)))⟩;rw [d2];simp [rawInt]
theorem Mu {I:Addr}{o:Obj}{fs:Array Value}{Q:Option Value->Shared->Prop}{Q1:PySem.Fin->Shared->Prop}(hh:A.handled=none)(g:s.heap.get? I=some o)(dt:o.data = .fields fs)(hz:2<fs.size)
  (h:∀ h',Heap.ExtBut I s.heap h'->Q none { s with heap:=h' }) :
  wpAny (model prog w) A.in1 (setField (.ref I) 2 .none >>= fun _=>newExc (.type "StopIteration") [] >>= fun e=>raiseNew e) Q1
   (fun e s'=>wpAny (model prog w) A (isInstance e (.type "StopIteration") >>= fun b=>if b=true then pure none else throw e) Q E s') s:=by
 refine qbA (wpAny_setField g dt hz ?_);refine qbA ?_;simp only [newExc,newTuple];refine qbA (wpAny_newObj_type ?_ (by size_fits));refine qbA (m:=firstArgMember _ _) (wpAny_of_eq (a:=Value.none) (by first|rfl | (simp only [firstArgMember];rfl)) ?_);refine wpAny_newObj_type ?_ (by size_fits);simp only [raiseNew];refine qbA (wpAny_handled ?_);rw [show A.in1.handled=none from hh];refine qbA (qcA (wpAny_throw ?_));refine qbA (wpAny_isInstance (T := "StopIteration") (b:=true) ⟨_,qnB _ rfl,rfl⟩ isSubtype_stop ?_);exact qcA (h _ (((Heap.SameBut.update ..).extBut.push _).push _))
theorem next_end {I a:Addr}{sl i n ep:Nat}{es:Array (Int × Value)}{t:SetTable}{ks:List Key}{Q:Option Value->Shared->Prop}(hh:A.handled=none)(it:SIter s.heap I (rawInt sl) i a n ep)(sa:SAt w s.heap a es ep t ks)(hn:es.size=n)
  (nxt:∀ (A':Around) (E':Value->Shared->Prop) (Q':Option (Value × Nat)->Shared->Prop),Q' none s->wpAny (model prog w) A' (setNext a sl i ep) Q' E' s)
  (h:∀ h',Heap.ExtBut I s.heap h'->Q none { s with heap:=h' }):wpAny (model prog w) A (pyNext (.ref I)) Q E s:=by
 obtain ⟨o,g,c,dt⟩:=id it;obtain ⟨os,gs,S⟩:=sa;unfold pyNext;refine qbA (wpAny_attempt (wpAny_callSpecial?_slot (name:=Str.ofString "__next__") it.type slot_si_next (qbC slot_si_next it.type EO ?_ (Eo _))));unfold Builtin.«set_iterator.__next__»;refine qbA (qcA ?_);dsimp only;refine qbA (wpAny_fieldsOf g dt ?_);simp only [rawInt];refine qbA (wpAny_setEntries_of gs S.data S.fit ?_);rw [if_neg (by rw [hn];simp)];simp only [qqB];refine qbA (nxt _ _ _ ?_);dsimp only;exact Mu hh g dt (by simp) h
def TupAt (h:Heap)(T:Addr)(ps:List Nat):Prop:=∃ o n,h.get? T=some o/\o.data = .seq (ps.map fun (p:Nat)=>rawInt p).toArray n
theorem QS {I a T:Addr}{i n ep p:Nat}{ps:List Nat}{es:Array (Int × Value)}{t:SetTable}{ks:List Key}{e:Int × Value}{Q:Option Value->Shared->Prop}(it:SIter s.heap I (.ref T) i a n ep)(tp:TupAt s.heap T ps)(sa:SAt w s.heap a es ep t ks)(hn:es.size=n)
  (hp:ps[i]? = some p) (he:es[p]? = some e) (h:∀ h',SIter h' I (.ref T) (i+1) a n ep->Heap.SameBut I s.heap h'->Q (some e.2) { s with heap:=h' }):wpAny (model prog w) A (pyNext (.ref I)) Q E s:=by
 obtain ⟨o,g,c,dt⟩:=id it;obtain ⟨os,gs,S⟩:=sa;obtain ⟨ot,nt,gt,dtt⟩:=tp;unfold pyNext;refine qbA (wpAny_attempt (wpAny_callSpecial?_slot (name:=Str.ofString "__next__") it.type slot_si_next (qbC slot_si_next it.type EO ?_ (Eo _))));unfold Builtin.«set_iterator.__next__»;refine qbA (qcA ?_);dsimp only;refine qbA (wpAny_fieldsOf g dt ?_);simp only [rawInt];refine qbA (wpAny_setEntries_of gs S.data S.fit ?_);rw [if_neg (by rw [hn];simp)];refine qbA (wpAny_seqItems gt dtt ?_);dsimp only;have e1:(ps.map fun (p:Nat)=>rawInt p).toArray[((i:Int)).toNat]? = some (Value.int (p:Int) 0):=by simp [hp,rawInt]
 rw [e1];dsimp only;unfold setNextDrawn;simp only [qqB];refine qbA (qbA (qcC gs S.data S.fit ?_));dsimp only;rw [if_neg (by simp)];rw [he];refine qcA ?_;refine qbA (wpAny_setField g dt (by simp) ?_);obtain ⟨o2,g2,c2,d2⟩:=Kx 1 (Value.int ((i:Int)+1) 0) g dt;refine qcA ⟨_,rfl,qcA (h _ ⟨o2,g2,c2.trans c,?_⟩ (Heap.SameBut.update _ I _))⟩;rw [d2];simp [rawInt]
theorem Rr {I a T:Addr}{i n ep:Nat}{ps:List Nat}{es:Array (Int × Value)}{t:SetTable}{ks:List Key}{Q:Option Value->Shared->Prop}(hh:A.handled=none)(it:SIter s.heap I (.ref T) i a n ep)(tp:TupAt s.heap T ps)(sa:SAt w s.heap a es ep t ks)(hn:es.size=n)
  (hp:ps[i]? = none) (h:∀ h',Heap.ExtBut I s.heap h'->Q none { s with heap:=h' }):wpAny (model prog w) A (pyNext (.ref I)) Q E s:=by
 obtain ⟨o,g,c,dt⟩:=id it;obtain ⟨os,gs,S⟩:=sa;obtain ⟨ot,nt,gt,dtt⟩:=tp;unfold pyNext;refine qbA (wpAny_attempt (wpAny_callSpecial?_slot (name:=Str.ofString "__next__") it.type slot_si_next (qbC slot_si_next it.type EO ?_ (Eo _))));unfold Builtin.«set_iterator.__next__»;refine qbA (qcA ?_);dsimp only;refine qbA (wpAny_fieldsOf g dt ?_);simp only [rawInt];refine qbA (wpAny_setEntries_of gs S.data S.fit ?_);rw [if_neg (by rw [hn];simp)];refine qbA (wpAny_seqItems gt dtt ?_);dsimp only
 have e1:(ps.map fun (p:Nat)=>rawInt p).toArray[((i:Int)).toNat]? = none:=by
  have:=List.getElem?_eq_none_iff.mp hp;simp [this]
 rw [e1];dsimp only;refine qbA (wpAny_setField g dt (by simp) ?_);obtain ⟨o1,g1,c1,d1⟩:=Kx 0 (Value.int 0 0) g dt;refine Mu (s:={ s with heap:=s.heap.update I (Obj.mapFields (·.setIfInBounds 0 (Value.int 0 0))) }) hh g1 d1 (by simp) fun h' q=>h h' ?_;exact fun b o hb e=>q b o hb (((Heap.SameBut.update s.heap I _).2 b hb).trans e)
end
theorem Iw:Slot "set_iterator" "__iter__" "set_iterator.__iter__" :=
 .of (owner := "set_iterator") (n := "__iter__") (by rw [typeLookup_type,builtinLookup_eq_fast];kernel_rfl) (by decide +kernel) (by decide +kernel) (by decide +kernel) (by first|exact .inl (by decide +kernel)|exact .inr (by decide +kernel)) (by rw [isSubtype_type];kernel_rfl)
theorem MC:entryFor table "set_iterator.__iter__" = some Builtin.«dict_keyiterator.__iter__»:=entryFor_alias (id' := "dict_keyiterator.__iter__") (by kernel_rfl) rfl (by decide +kernel) (by kernel_rfl)
theorem NB (a:Value):argsOk "set_iterator.__iter__" ⟨[a],[]⟩:=by unfold argsOk;kernel_rfl
theorem SAt.at {w:World}{h h':Heap}{a:Addr}{es ep t ks}(x:SAt w h a es ep t ks)(k:∀ o,h.get? a=some o->h'.get? a=some o):SAt w h' a es ep t ks:=by
 obtain ⟨o,g,S⟩:=x;exact ⟨o,k _ g,S⟩
theorem SIter.at {h h':Heap}{I f i a n ep}(x:SIter h I f i a n ep)(k:∀ o,h.get? I=some o->h'.get? I=some o):SIter h' I f i a n ep:=by
 obtain ⟨o,g,r⟩:=x;exact ⟨o,k _ g,r⟩
theorem TupAt.at {h h':Heap}{T ps}(x:TupAt h T ps)(k:∀ o,h.get? T=some o->h'.get? T=some o):TupAt h' T ps:=by
 obtain ⟨o,n,g,r⟩:=x;exact ⟨o,n,k _ g,r⟩
section
variable {prog:Program}{w:World}{A:Around}{E:Value->Shared->Prop}{s:Shared}{I a T:Addr}{es xs:Array (Int × Value)}{ep:Nat}{t:SetTable}{ks:List Key}
theorem Mw {f:Value}{i n:Nat}{Q:Value->Shared->Prop}(it:SIter s.heap I f i a n ep)(h:Q (.ref I) s):wpAny (model prog w) A (pyIter (.ref I)) Q E s:=by
 refine wpAny_pyIter_slot it.type Iw (qbC Iw it.type MC ?_ (NB _));show wpAny _ _ (ret (.ref I)) _ _ s;exact qcA ⟨_,rfl,"set_iterator",_,it.type,slot_si_next.lookup,h⟩
theorem walk_int (hne:a≠I)(sl:Nat->Nat)(hx:xs.size=es.size)
  (nx:∀ (i:Nat) (s:Shared) (A':Around) (E':Value->Shared->Prop) (Q':Option (Value × Nat)->Shared->Prop),SAt w s.heap a es ep t ks->i<=es.size->Q' ((xs[i]?).map fun e=>(e.2,sl (i+1))) s->wpAny (model prog w) A' (setNext a (sl i) i ep) Q' E' s) (hh:A.handled=none) :
  Walks prog w A I [I,a] [I] es.size (fun i v=>∃ e,xs[i]? = some e/\e.2=v) (fun i h=>SIter h I (rawInt (sl i)) i a es.size ep/\SAt w h a es ep t ks) where
 sub:=fun b hb=>by simp at hb;simp [hb]
 frame:=fun _ _ _ st hk=>⟨st.1.at fun o e=>hk I (by simp) o e,st.2.at fun o e=>hk a (by simp) o e⟩
 item:=fun i s Q E hi st hQ=>by
  have hi':i<xs.size:=by rw [hx];exact hi
  refine SC (x:=xs[i].2) (nx:=sl (i+1)) st.1 st.2 rfl (fun A' E' Q' q=>nx i s A' E' Q' st.2 (Nat.le_of_lt hi) ?_) fun h' it' hs=>?_
  ·rw [Array.getElem?_eq_getElem hi'];exact q
  ·exact hQ _ h' s.toks ⟨xs[i],Array.getElem?_eq_getElem hi',rfl⟩ ⟨it',st.2.at fun o e=>(hs.2 a hne).trans e⟩ fun b o hb e=>(hs.2 b (fun q=>hb (by simp [q]))).trans e
 done:=fun s Q E st hQ=>by
  refine next_end hh st.1 st.2 rfl (fun A' E' Q' q=>nx es.size s A' E' Q' st.2 (qfB _) ?_) fun h' hs=>hQ h' s.toks fun b o hb e=>hs b o (fun q=>hb (by simp [q])) e;rw [Array.getElem?_eq_none (by rw [hx];exact qfB _)];exact q
 self:=fun i s Q E st q=>Mw st.1 q
theorem QY (hne:a≠I)(hT:T≠I)(ps:List Nat)(hp:ps.length=es.size)(hb:∀ p∈ps,p<es.size)(hh:A.handled=none) :
  Walks prog w A I [I,a,T] [I] es.size (fun i v=>∃ p e,ps[i]? = some p/\es[p]? = some e/\e.2=v) (fun i h=>SIter h I (.ref T) i a es.size ep/\SAt w h a es ep t ks/\TupAt h T ps) where
 sub:=fun b hb=>by simp at hb;simp [hb]
 frame:=fun _ _ _ st hk=>⟨st.1.at fun o e=>hk I (by simp) o e,st.2.1.at fun o e=>hk a (by simp) o e,st.2.2.at fun o e=>hk T (by simp) o e⟩
 item:=fun i s Q E hi st hQ=>by
  have hi':i<ps.length:=by rw [hp];exact hi
  have h1:ps[i]? = some ps[i]:=qvA hi';have h2:ps[i]<es.size:=hb _ (List.getElem_mem hi');have h3:es[ps[i]]? = some es[ps[i]]:=Array.getElem?_eq_getElem h2;refine QS st.1 st.2.2 st.2.1 rfl h1 h3 fun h' it' hs=>?_;exact hQ _ h' s.toks ⟨_,_,h1,h3,rfl⟩ ⟨it',st.2.1.at fun o e=>(hs.2 a hne).trans e,st.2.2.at fun o e=>(hs.2 T hT).trans e⟩ fun b o hb e=>(hs.2 b (fun q=>hb (by simp [q]))).trans e
 done:=fun s Q E st hQ=>Rr hh st.1 st.2.2 st.2.1 rfl (qyA (by rw [hp];exact qfB _)) fun h' hs=>hQ h' s.toks fun b o hb e=>hs b o (fun q=>hb (by simp [q])) e
 self:=fun i s Q E st q=>Mw st.1 q
theorem nxt_text (hb:byT w=true){sl i:Nat}{Q:Option (Value × Nat)->Shared->Prop}(sa:SAt w s.heap a es ep t ks)(h:Q (((pickOrder (w.params.setOrder a ep) es)[i]?).map fun e=>(e.2,sl)) s):wpAny (model prog w) A (setNext a sl i ep) Q E s:=by
 obtain ⟨o,g,S⟩:=sa;unfold setNext;refine qbA (qcC g S.data S.fit (qbA (Hl ?_)));dsimp only;rw [hb,if_pos rfl,if_neg (by simp)];refine qbA ?_;unfold setWalk;refine qbA (qcC g S.data S.fit (qbA (Hl ?_)));rw [hb,if_pos rfl];refine qbA (wpAny_askSetting (qcA (qcA ?_)));exact h
def slP (t:SetTable):Nat->Nat
 | 0=>0
 | i+1=>t.place.getD i 0+1
theorem S4 {t:SetTable}(hr:RT t):∀ {i:Nat},i<=t.place.size->SetTable.below t.place (slP t i)=i
 | 0,_=>QU hr.ris
 | i+1,h=>Qi hr.ris h
theorem SF (hb:byT w=false)(hd:t.plain=true\/es.size<=1){i:Nat}{Q:Option (Value × Nat)->Shared->Prop}(sa:SAt w s.heap a es ep t ks)(hi:i<=es.size)(h:Q ((es[i]?).map fun e=>(e.2,slP t (i+1))) s):wpAny (model prog w) A (setNext a (slP t i) i ep) Q E s:=by
 obtain ⟨o,g,S⟩:=sa
 have hps:t.place.size=es.size:=by
  have:=S.fit;simp only [SetTable.fits,qfC,beq_iff_eq] at this;exact this.1
 unfold setNext;refine qbA (qcC g S.data S.fit (qbA (Hl ?_)));dsimp only;rw [hb,if_neg quB];refine wpAny_ite_split (fun hab=>?_) fun _=>?_
 ·have q:(!t.plain && decide (es.size > 1))=true:=hab;rw [qfC,decide_eq_true_eq] at q;rcases hd with e|e
  ·rw [e] at q;exact absurd q.1 (by simp)
  ·omega
 ·refine qbA ?_;show wpAny _ _ (if (!t.led && !es.isEmpty)=true then unsupported "set:maker-not-led" else pure ()) _ _ _;rw [S.led,hb];simp only [Bool.not_false,Bool.not_true,Bool.false_and,Bool.false_eq_true,if_false];refine qcA (qcA ?_);rw [S4 S.rt (by rw [hps];exact hi)];rcases Nat.lt_or_eq_of_le hi with hl|hl
  ·have e1:es[i]? = some es[i]:=Array.getElem?_eq_getElem hl
   have e2:t.place[i]? = some (t.place.getD i 0):=by
    have:i<t.place.size:=by rw [hps];exact hl
    simp [Array.getD,this]
   rw [e1] at h ⊢;rw [e2];exact h
  ·have e1:es[i]? = none:=Array.getElem?_eq_none (by omega);rw [e1] at h ⊢;exact h
theorem Pn {α:Type}{Q:List α->Shared->Prop}:∀ (xs:List α) (s:Shared),(∀ ys d,ys.Perm xs->Q ys { s with drawn:=d })->wpAny (model prog w) A (drawOrder xs.length xs) Q E s:=by
 intro xs;generalize hn:xs.length=n
 induction n generalizing xs Q with
 | zero =>
  intro s h;have:xs=[]:=List.eq_nil_of_length_eq_zero hn;subst this;unfold drawOrder;exact qcA (h [] s.drawn .rfl)
 | succ n ih =>
  intro s h
  match xs,hn with
  | x::r,hn =>
   unfold drawOrder;refine qbA (Rn (by simp) fun i d hi=>?_);rw [qvA hi];dsimp only;refine qbA (ih _ (by rw [List.length_eraseIdx_of_lt hi];omega) _ fun ys d' hp=>qcA (h _ d' ?_));exact (hp.cons _).trans (LY hi)
theorem S5 {Q:Value->Shared->Prop}(sa:SAt w s.heap a es ep t ks)
  (h:∀ (s':Shared) (I:Addr) (xs:Array (Int × Value)) (fp:List Addr) (St:Nat->Heap->Prop),xs.toList.Perm es.toList->(∀ b o,s.heap.get? b=some o->s'.heap.get? b=some o)->s'.gens=s.gens->s'.os=s.os->s'.toks=s.toks ->
   s.heap.objs.size<=I->(∀ b∈fp,b<s'.heap.objs.size/\(b=a\/s.heap.objs.size<=b))->(∀ A':Around,A'.handled=none->Walks prog w A' I fp [I] es.size (fun i v=>∃ e,xs[i]? = some e/\e.2=v) St)->St 0 s'.heap->Q (.ref I) s') :
  wpAny (model prog w) A (pyIter (.ref a)) Q E s:=by
 obtain ⟨o,g,S⟩:=id sa;have la:a<s.heap.objs.size:=qkB g;have hT:s.TypeIs (.ref a) "set" := ⟨o,g,S.exact'.1⟩;refine wpAny_pyIter_slot hT F.slot_set_iter (qbC F.slot_set_iter hT NU ?_ (F.args_set_iter_1 _));unfold Builtin.«frozenset.__iter__» Builtin.Frozenset.slot0 Builtin.Frozenset.sizeOf;refine qbA (qbA (qcA (qcA ?_)));refine qbA (qbA (wpAny_setEntries_of g S.data S.fit (qcA ?_)));refine qbA ?_;unfold setDrawn;refine qbA (qcC g S.data S.fit (qbA (Hl (qcA ?_))))
 have fin:∀ (d:Drawn) (sl:Nat->Nat) (xs:Array (Int × Value)),sl 0=0->xs.size=es.size->xs.toList.Perm es.toList ->
   (∀ (i:Nat) (s:Shared) (A':Around) (E':Value->Shared->Prop) (Q':Option (Value × Nat)->Shared->Prop),SAt w s.heap a es ep t ks->i<=es.size->Q' ((xs[i]?).map fun e=>(e.2,sl (i+1))) s->wpAny (model prog w) A' (setNext a (sl i) i ep) Q' E' s) ->
   wpAny (model prog w) A.in1 (setEpoch a >>= fun e=>newFields "set_iterator" [rawInt 0,rawInt 0,.ref a,rawInt es.size,rawInt e] >>= fun v=>ret v) (fun fin s'=>∃ v,fin = .done (.ret v)/\∃ T' r,s'.TypeIs v T'/\typeLookup (.type T') "__next__" = pure (some r)/\Q v s') E { s with drawn:=d }:=by
  intro d sl xs e0 ex hp nx;refine qbA (wpAny_setEpoch_of g S.data S.fit (qbA (wpAny_newObj_type (qcA ⟨_,rfl,"set_iterator",_,⟨_,qnB _ rfl,rfl⟩,slot_si_next.lookup,?_⟩))));refine h { s with drawn:=d,heap:=s.heap.push { cls:=.type "set_iterator",data:=.fields #[rawInt 0,rawInt 0,.ref a,rawInt es.size,rawInt ep] } } s.heap.objs.size xs [s.heap.objs.size,a] _ hp (fun b o e=>qmB _ e) rfl rfl rfl (qfB _) (fun b hb=>?_) (fun A' hh=>walk_int (qyB la) sl ex nx hh) ?_
  ·show b<(s.heap.push _).objs.size/\_;rw [size_push'];rcases qmA.mp hb with e|e
   ·rw [e];exact ⟨Nat.lt_succ_self _,.inr (qfB _)⟩
   ·rw [qpA.mp e];exact ⟨Nat.lt_succ_of_lt la,.inl rfl⟩
  ·refine ⟨⟨_,qnB _ rfl,rfl,?_⟩,sa.at fun o e=>qmB _ e⟩;rw [e0];rfl
 dsimp only
 have hps:t.place.size=es.size:=by
  have:=S.fit;simp only [SetTable.fits,qfC,beq_iff_eq] at this;exact this.1
 have fewE:es.size<=sizeLine:=JQ (by rw [S.size];exact S.few);refine wpAny_ite_split (fun hab=>?_) (fun hab=>?_)
 ·have key:=Pn (prog:=prog) (w:=w) (A:=A.in1) (E:=E) (List.range es.size) s (Q:=fun ys s'=>wpAny (model prog w) A.in1 (newTuple (ys.map fun (i:Nat)=>rawInt i) >>= fun first=>setEpoch a >>= fun e=>newFields "set_iterator" [first,rawInt 0,.ref a,rawInt es.size,rawInt e] >>= fun v=>ret v) (fun fin s'=>∃ v,fin = .done (.ret v)/\∃ T' r,s'.TypeIs v T'/\typeLookup (.type T') "__next__" = pure (some r)/\Q v s') E s') fun ys d hp=>?_
  ·rw [qiA] at key;exact qbA key
  ·have hl:ys.length=es.size:=by rw [hp.length_eq,qiA]
   have hlt:∀ p∈ys,p<es.size:=fun p h=>qsA.mp (hp.mem_iff.mp h);refine qbA (wpAny_newTuple ?_ (by rw [qeA,hl];exact fewE));have gt:(s.heap.push (seqObj "tuple" (ys.map fun (i:Nat)=>rawInt i).toArray 0)).get? s.heap.objs.size=some (seqObj "tuple" (ys.map fun (i:Nat)=>rawInt i).toArray 0):=qnB _ rfl;refine qbA (wpAny_setEpoch_of (s:={ s with drawn:=d,heap:=s.heap.push (seqObj "tuple" (ys.map fun (i:Nat)=>rawInt i).toArray 0) }) (qmB _ g) S.data S.fit (qbA (wpAny_newObj_type (qcA ⟨_,rfl,"set_iterator",_,⟨_,qnB _ rfl,rfl⟩,slot_si_next.lookup,?_⟩))));have z1:(s.heap.push (seqObj "tuple" (ys.map fun (i:Nat)=>rawInt i).toArray 0)).objs.size=s.heap.objs.size+1:=size_push' _ _
   have W:∀ A':Around,A'.handled=none->Walks prog w A' (s.heap.objs.size+1) [s.heap.objs.size+1,a,s.heap.objs.size] [s.heap.objs.size+1] es.size (fun i v=>∃ e,(ys.filterMap (es[·]?)).toArray[i]? = some e/\e.2=v) (fun i h=>SIter h (s.heap.objs.size+1) (.ref s.heap.objs.size) i a es.size ep/\SAt w h a es ep t ks/\TupAt h s.heap.objs.size ys):=fun A' hh=>by
    have W0:=QY (prog:=prog) (w:=w) (A:=A') (I:=s.heap.objs.size+1) (a:=a) (T:=s.heap.objs.size) (es:=es) (ep:=ep) (t:=t) (ks:=ks) (qyB (Nat.lt_succ_of_lt la)) (qyB (Nat.lt_succ_self _)) ys hl hlt hh;refine ⟨W0.sub,W0.frame,fun i s Q E hi st hQ=>W0.item i s Q E hi st fun v h' tk hP=>hQ v h' tk ?_,W0.done,W0.self⟩;obtain ⟨p,e,h1,h2,h3⟩:=hP;refine ⟨e,?_,h3⟩
    have:∀ (l:List Nat) (i:Nat),(∀ p∈l,p<es.size)->(l.filterMap (es[·]?))[i]? = (l[i]?).bind (es[·]?):=by
     intro l
     induction l with
     | nil=>intro i _;simp
     | cons q l ih =>
      intro i hq;have lq:q<es.size:=hq q qqA;have e0:es[q]? = some es[q]:=Array.getElem?_eq_getElem lq;rw [List.filterMap_cons_some e0]
      cases i with
      | zero=>simp [e0]
      | succ i=>simpa using ih i fun p hp=>hq p (qrA _ hp)
    rw [List.getElem?_toArray,this ys i hlt,h1];show es[p]? = some e;exact h2
   show Q (.ref (s.heap.push (seqObj "tuple" (ys.map fun (i:Nat)=>rawInt i).toArray 0)).objs.size) _;rw [z1];refine h { s with drawn:=d,heap:=(s.heap.push (seqObj "tuple" (ys.map fun (i:Nat)=>rawInt i).toArray 0)).push { cls:=.type "set_iterator",data:=.fields #[.ref s.heap.objs.size,rawInt 0,.ref a,rawInt es.size,rawInt ep] } } (s.heap.objs.size+1) _ _ _ ?_ (fun b o e=>qmB _ (qmB _ e)) rfl rfl rfl (Nat.le_succ _) (fun b hb=>?_) W ?_
   ·show (ys.filterMap (es[·]?)).Perm es.toList;exact (hp.filterMap _).trans (by rw [filterMap_getElem?_range])
   ·show b<((s.heap.push _).push _).objs.size/\_;rw [size_push',size_push'];rcases qmA.mp hb with e|e
    ·rw [e];exact ⟨Nat.lt_succ_self _,.inr (Nat.le_succ _)⟩
    ·rcases qmA.mp e with e|e
     ·rw [e];exact ⟨Nat.lt_succ_of_lt (Nat.lt_succ_of_lt la),.inl rfl⟩
     ·rw [qpA.mp e];exact ⟨Nat.lt_succ_of_lt (Nat.lt_succ_self _),.inr (qfB _)⟩
   ·refine ⟨⟨{ cls:=.type "set_iterator",data:=.fields #[.ref s.heap.objs.size,rawInt 0,.ref a,rawInt es.size,rawInt ep] },?_,rfl,rfl⟩,sa.at fun o e=>qmB _ (qmB _ e),⟨_,_,qmB _ gt,rfl⟩⟩;rw [<- z1];exact qnB _ rfl
 ·refine qbA (qcA ?_)
  cases hb:byT w with
  | true=>exact fin s.drawn (fun _=>0) (pickOrder (w.params.setOrder a ep) es) rfl (by rw [<- qxB,(Mm _ es).length_eq,qxB]) (Mm _ es) fun i s' A' E' Q' sa' hi q=>nxt_text hb sa' q
  | false =>
   have hd:t.plain=true\/es.size<=1:=by
    have q:¬ (!byT w && (!t.plain && decide (es.size > 1)))=true:=hab;rw [hb] at q
    cases hp:t.plain with
    | true=>exact .inl rfl
    | false =>
     rw [hp] at q;simp at q;exact .inr q
   exact fin s.drawn (slP t) es rfl rfl .rfl fun i s' A' E' Q' sa' hi q=>SF hb hd sa' hi q
end
section
variable {prog:Program}{w:World}{A:Around}{E:Value->Shared->Prop}{s:Shared}{a:Addr}{es:Array (Int × Value)}{ep:Nat}{t:SetTable}{ks:List Key}
theorem hint_set (hT:s.TypeIs (.ref a) "set"){Q:Bool->Shared->Prop}(h:Q false s):wpAny (model prog w) A (Builtin.List.listLengthHint (.ref a)) Q E s:=by
 unfold Builtin.List.listLengthHint;refine qbA (wpAny_specialOf hT PySem.F.slot_set_len.lookup ?_);generalize hid:("set.__len__" : String)=id0
 wp_delta
 rw [show splitId id0=some ("set","__len__") from by subst hid;decide +kernel];subst hid;refine qbA (wpAny_isInstance (T := "set") (b:=true) hT (by rw [isSubtype_type];kernel_rfl) ?_);refine wpAny_ite_split (fun hab=>absurd hab (by decide)) (fun _=>?_);refine wpAny_ite_split (fun _=>?_) (fun hab=>absurd (by decide +kernel) hab);exact qbA (wpAny_typeOf hT (qcA h))
def Kw (vs:List Value)(ks:List Key):Prop:=Paired (fun v k=>FQ k v=true) vs ks
theorem Pm {w:World}{ps:Array (Int × Value)}{es:Array (Int × Value)}{ks:List Key}{acc:Array Value}(hp:ps.toList.Perm es.toList)(he:Paired (Ent w) es.toList ks)(hi:ItemsOf (fun i v=>∃ e,ps[i]? = some e/\e.2=v) acc es.size) :
  ∃ ks',ks'.Perm ks/\Kw acc.toList ks':=by
 obtain ⟨ks',e1,p1⟩:=He hp he;refine ⟨ks',e1,?_⟩
 have e2:acc.toList=ps.toList.map (·.2):=by
  apply List.ext_getElem?;intro i;rw [Array.getElem?_toList,qzA,Array.getElem?_toList];have hz:acc.size=es.size:=hi.1;have hz2:ps.size=es.size:=by rw [<- qxB,hp.length_eq,qxB]
  by_cases hl:i<es.size
  ·have h1:acc[i]? = some (acc[i]'(by omega)):=Array.getElem?_eq_getElem (by omega);obtain ⟨e,h2,h3⟩:=hi.2 i _ h1;rw [h1,h2,<- h3]
   rfl
  ·rw [Array.getElem?_eq_none (by omega),Array.getElem?_eq_none (by omega)]
   rfl
 rw [e2]
 have:∀ {l:List (Int × Value)}{ks:List Key},Paired (Ent w) l ks->Kw (l.map (·.2)) ks:=by
  intro l ks p
  induction p with
  | nil=>exact .nil
  | cons h _ ih=>exact .cons h.1 ih
 exact this p1
theorem OJ {R:List Value->Shared->Prop}(hh:A.handled=none)(sa:SetP w s.heap a ks)
  (h:∀ (s':Shared) (vs:List Value) (ks':List Key),(∀ b o,s.heap.get? b=some o->s'.heap.get? b=some o)->s'.gens=s.gens->s'.os=s.os->s.heap.objs.size<=s'.heap.objs.size->ks'.Perm ks->Kw vs ks'->R vs s') :
  wpAny (model prog w) A (collect (.ref a)) R E s:=by
 obtain ⟨ks0,⟨o,es,ep,t,g,S⟩,ek⟩:=sa;have la:a<s.heap.objs.size:=qkB g;have hn:es.size<=sizeLine:=JQ (by rw [S.size];exact S.few);unfold collect;refine qbA (wpAny_runValue (codeAny_builtin entry_proto_collect' ?_));rw [Around.under_plainId PySem.F.plain_proto_collect _];show wpAny _ A.in1 (newList [] >>= fun l=>again (.builtin "list.__iadd__" ⟨[l,.ref a],[]⟩)) _ _ s;refine qbA (wpAny_newObj_type ?_);refine qcA ⟨plainId_quiet PySem.F.plain_list_iadd _,codeAny_builtin entry_list_iadd' ?_⟩;rw [Around.under_plainId PySem.F.plain_list_iadd _];have gL:(s.heap.push { cls:=.type "list",data:=.seq ([]:List Value).toArray }).get? s.heap.objs.size=some { cls:=.type "list",data:=.seq #[] }:=qnB _ rfl;have zL:(s.heap.push { cls:=.type "list",data:=.seq ([]:List Value).toArray }).objs.size=s.heap.objs.size+1:=size_push' _ _;show wpAny _ A.in1 (Builtin.List.listExtendWith (.ref s.heap.objs.size) (.ref a) (.ref s.heap.objs.size)) _ _ _;have gA:(s.heap.push { cls:=.type "list",data:=.seq ([]:List Value).toArray }).get? a=some o:=qmB _ g;have hTa:Shared.TypeIs { s with heap:=s.heap.push { cls:=.type "list",data:=.seq ([]:List Value).toArray } } (.ref a) "set" := ⟨o,gA,S.exact'.1⟩;unfold Builtin.List.listExtendWith;refine qbA (wpAny_typeOf (T := "set") hTa ?_);have ne:s.heap.objs.size≠a:=Nat.ne_of_gt la;have h1:Builtin.List.listSameRef (.ref s.heap.objs.size) (.ref a)=false:=by simp [Builtin.List.listSameRef,ne]
 have h2:(Value.type "set" == Value.type "list")=false:=by decide
 have h3:(Value.type "set" == Value.type "tuple")=false:=by decide
 simp only [h1,h2,h3,Bool.or_false,Bool.false_eq_true,if_false];refine qbA (S5 (s:={ s with heap:=s.heap.push { cls:=.type "list",data:=.seq ([]:List Value).toArray } }) ⟨o,gA,S⟩ fun s1 I ps fp St hp hk eg eo et lI hfp W st=>?_);have gL1:s1.heap.get? s.heap.objs.size=some { cls:=.type "list",data:=.seq #[] }:=hk _ _ gL
 have nL:s.heap.objs.size ∉ fp:=fun hm=>by
  rcases (hfp _ hm).2 with q|q
  ·exact ne q
  ·exact absurd q (by show ¬ (s.heap.push _).objs.size<=_;rw [zL];exact Nat.not_succ_le_self _)
 have hTa1:s1.TypeIs (.ref a) "set" := ⟨o,hk _ _ gA,S.exact'.1⟩;refine qbA (qdA (hint_set hTa1 ?_))
 have key:∀ (hp':Heap) (c₁:Nat),St 0 hp'->(∀ b o,b≠s.heap.objs.size->s1.heap.get? b=some o->hp'.get? b=some o)->hp'.get? s.heap.objs.size=some { cls:=.type "list",data:=.seq #[] c₁ } ->
   codeAny (model prog w) A (.builtin "list.extend.loop" ⟨[.ref s.heap.objs.size,.ref I,.ref s.heap.objs.size],[]⟩) (fun x s'=>∃ acc c',x = .ok (.ret (.ref s.heap.objs.size))/\(∀ b o,s.heap.get? b=some o->s'.heap.get? b=some o)/\s'.gens=s.gens/\s'.os=s.os /\
    s'.heap.get? s.heap.objs.size=some { cls:=.type "list",dict:=none,data:=.seq acc c',slots:=#[] }/\ItemsOf (fun i v=>∃ e,ps[i]? = some e/\e.2=v) acc es.size) { s1 with heap:=hp' }:=by
  intro hp' c₁ st' hk' gL';refine codeAny_extend_loopS (W A.in1 hh).toS hn s.heap.objs.size nL _ es.size 0 _ #[] c₁ rfl (qeC _) st' gL' (ItemsOf.nil _) fun s' acc c' hm gL'' hi=>?_;refine ⟨acc,c',rfl,fun b o e=>?_,hm.gens.trans eg,hm.os.trans eo,gL'',hi⟩;have lb:b<s.heap.objs.size:=qkB e;refine hm.heap b o (fun hmem=>?_) (hk' b o (qyB lb) (hk b o (qmB _ e)));rcases qmA.mp hmem with q|q
  ·exact absurd q (qyB lb)
  ·have q:=qpA.mp q;have lI':s.heap.objs.size+1<=I:=by rw [<- zL];exact lI
   rw [q] at lb;exact absurd lb (Nat.not_lt.mpr (Nat.le_of_succ_le lI'))
 have last:∀ (x:Result) (s':Shared),(∃ acc c',x = .ok (.ret (.ref s.heap.objs.size))/\(∀ b o,s.heap.get? b=some o->s'.heap.get? b=some o)/\s'.gens=s.gens/\s'.os=s.os /\
   s'.heap.get? s.heap.objs.size=some { cls:=.type "list",dict:=none,data:=.seq acc c',slots:=#[] }/\ItemsOf (fun i v=>∃ e,ps[i]? = some e/\e.2=v) acc es.size)->∃ v,x = .ok (.ret v)/\wpAny (model prog w) A (match v with
   | Value.ref a=>do
    match (<- load a).data with
     | Data.seq xs _=>pure xs.toList
     | _=>unsupported "internal:collect"
   | _=>unsupported "internal:collect") R E s':=by
  intro x s' q;obtain ⟨acc,c',rfl,k1,k2,k3,k4,k5⟩:=q;refine ⟨_,rfl,?_⟩;show wpAny _ A (load s.heap.objs.size >>= _) _ _ _;refine qbA (wpAny_load k4 (qcA ?_));obtain ⟨ks',e1,e2⟩:=Pm hp S.ent k5;exact h s' acc.toList ks' k1 k2 k3 (Nat.le_of_lt (qkB k4)) (e1.trans ek) e2
 refine wpAny_ite_split (fun _=>?_) (fun _=>?_)
 ·refine qbA (wpAny_rule (qbA ?_));show wpAny _ _ (updateSeq s.heap.objs.size (·.push .none) >>= fun _=>updateSeq s.heap.objs.size (·.pop)) _ _ _;refine qbA (wpAny_updateSeq gL1 rfl ?_);have gL2:=Heap.get?_update_self (Obj.mapSeq (·.push Value.none)) gL1 rfl;refine wpAny_updateSeq (hz:=by seq_fits) gL2 rfl ?_;have gL3:=Heap.get?_update_self (Obj.mapSeq (·.pop)) gL2 rfl;refine qcA ⟨plainId_quiet PySem.F.plain_extend_loop _,codeAny_mono (key _ _ ?_ (fun b o hb e=>?_) gL3) fun x s' q=>?_⟩
  ·refine (W A.in1 hh).frame 0 _ _ st fun b hb o e=>?_;have hbS:b≠s.heap.objs.size:=fun q=>nL (q ▸ hb);exact (Heap.get?_update_other _ _ (Ne.symm hbS)).trans ((Heap.get?_update_other _ _ (Ne.symm hbS)).trans e)
  ·exact (Heap.get?_update_other _ _ (Ne.symm hb)).trans ((Heap.get?_update_other _ _ (Ne.symm hb)).trans e)
  ·obtain ⟨v,rfl,q'⟩:=last x s' q;exact q'
 ·refine qcA ⟨plainId_quiet PySem.F.plain_extend_loop _,codeAny_mono (key s1.heap 0 st (fun b o _ e=>e) gL1) fun x s' q=>?_⟩;obtain ⟨v,rfl,q'⟩:=last x s' q;exact q'
theorem strsK {ss:List Str}:∀ {vs:List Value},Kw vs (ss.map Sum.inr)->StrsAre vs ss:=by
 induction ss with
 | nil=>intro vs p;cases p;exact .nil
 | cons n ns ih =>
  intro vs p
  cases p with
  | cons h r =>
   rcases Bl h with ⟨i,t,e,rfl⟩ | ⟨x,t,e,rfl⟩
   ·cases e
   ·cases e;exact .cons _ _ (ih r)
theorem NJ {α:Type}{f:α->Key}:∀ {l:List α}{ks:List Key},ks.Perm (l.map f)->∃ l':List α,l'.Perm l/\ks=l'.map f:=by
 have:∀ {ks ks':List Key},ks'.Perm ks->∀ {l:List α},ks'=l.map f->∃ l':List α,l'.Perm l/\ks=l'.map f:=by
  intro ks ks' hp
  induction hp with
  | nil=>intro l e;exact ⟨l,.rfl,e⟩
  | cons x _ ih =>
   intro l e
   match l,e with
   | y::l,e =>
    rw [qaB] at e;injection e with e1 e2
    obtain ⟨l',h1,h2⟩:=ih e2;exact ⟨y::l',h1.cons _,by rw [qaB,<- h2,e1]⟩
  | swap x y _ =>
   intro l e
   match l,e with
   | a::b::l,e =>
    simp only [qaB,List.cons.injEq] at e;obtain ⟨e1,e2,e3⟩:=e;exact ⟨b::a::l,List.Perm.swap _ _ _,by simp [e1,e2,e3]⟩
  | trans _ _ ih1 ih2 =>
   intro l e;obtain ⟨l1,h1,h2⟩:=ih1 e;obtain ⟨l2,h3,h4⟩:=ih2 h2;exact ⟨l2,h3.trans h1,h4⟩
 intro l ks hp;exact this hp.symm rfl
theorem PU {ns:List Str}{Q:Value->Shared->Prop}(hh:A.handled=none)(sa:SetP w s.heap a (ns.map Sum.inr))(h64:ns.length<64)
  (h:∀ (s':Shared) (D n:Nat) (out:Array Value) (ns':List Str),(∀ b o,s.heap.get? b=some o->s'.heap.get? b=some o)->s'.gens=s.gens->s'.os=s.os->s.heap.objs.size<=D->s'.heap.get? D=some (seqObj "list" out n)->StrsAre out.toList ns'->ns'.Perm ns->sortedS ns'=true->Q (.ref D) s') :
  wpAny (model prog w) A (call (.builtin "sorted") [.ref a]) Q E s:=by
 refine Calls.call_function_entry kind_sorted plain_sorted entry_sorted (args_sorted1 _) ?_;unfold Builtin.«sorted»;refine qbA (m:=checkCount "sorted" 1 1 _) (qcA (qbA (OJ (A:=A.in1) hh sa fun s1 vs ks' hk eg eo ez ep kv=>?_)));obtain ⟨ns1,p1,rfl⟩:=NJ ep;have hi:=strsK kv
 have hl:vs.length<64:=by
  have:vs.length=ns1.length:=by
   have:=Dp kv
   rwa [qeA] at this
  rw [this,p1.length_eq];exact h64
 refine qbA (wpAny_newList ?_ (by rw [qoB];omega));have gD:(s1.heap.push (seqObj "list" vs.toArray 0)).get? s1.heap.objs.size=some (seqObj "list" vs.toArray 0):=qnB _ rfl;refine qbA (qdA (qbC slot_list_sort ⟨_,gD,rfl⟩ entry_list_sort (list_sort_treeK (s:={ s1 with heap:=s1.heap.push (seqObj "list" vs.toArray 0) }) strKind_oneLt gD hi.keysOf (fun v₁ v₂ rest e=>keyKind_strs (by rw [<- e];exact hi)) hl fun st' b1 b2=>⟨_,rfl,?_⟩) (args_list_sort _)));obtain ⟨ns',a1,a2,a3⟩:=sorted_out_str hi b1 b2;have lD:∀ b o,s.heap.get? b=some o->b<s1.heap.objs.size:=fun b o e=>qkB (hk b o e);obtain ⟨n,gO⟩:∃ n,(sortedHeap (s1.heap.push (seqObj "list" vs.toArray 0)) s1.heap.objs.size vs ((arrOf st').map (·.2))).get? s1.heap.objs.size=some (seqObj "list" ((arrOf st').map (·.2)) n):=sortedHeap_at gD;refine qcA ⟨_,rfl,h _ s1.heap.objs.size n _ ns' (fun b o e=>?_) eg eo ez gO a1 (a2.trans p1) a3⟩;have lb:=lD b o e;exact (sortedHeap_old (qyB lb) (by rw [size_push'];exact Nat.lt_succ_of_lt lb)).trans (qmB _ (hk b o e))
end
def SetO (w:World)(p:Addr)(ks:List Key):HO:=.ext fun h=>SetP w h p ks
theorem setO_ok {P:Program}{w:World}{H:Hp}{h:Heap}{p:Addr}{ks:List Key}(x:SetP w h p ks):ObjOk P w H h p (SetO w p ks):=by
 refine ⟨x,?_,fun h1 h2 a b=>a.at b⟩;obtain ⟨_,⟨o,_,_,_,g,_⟩,_⟩:=x;exact ⟨o,g⟩
theorem setO_get {P:Program}{w:World}{H:Hp}{h:Heap}{p:Addr}{ks:List Key}(x:HOk P w H h)(e:H p=some (SetO w p ks)):SetP w h p ks:=(x p _ e).1
section
variable {X:Cx}{pins:List (Addr × Obj)}{σ:List (Option V)}{H:Hp}{s s':Shared}
theorem Inv.same (I:Inv X pins σ H s)(e1:s'.heap=s.heap)(e2:s'.gens=s.gens)(e3:s'.os=s.os):Inv X pins σ H s':=by
 obtain ⟨h,g,d,t,o⟩:=s;obtain ⟨h',g',d',t',o'⟩:=s';dsimp only at e1 e2 e3;subst e1;subst e2;subst e3;exact ⟨I.ok,I.os,I.bare,I.base,I.loc,I.cell,I.free,I.freeC,I.pin,I.hok,I.len⟩
theorem Inv.laid' {a:Addr}{o:HO}(I:Inv X pins σ H s)(k:∀ b u,s.heap.get? b=some u->s'.heap.get? b=some u)(hp:s.heap.objs.size<=a)(new:ObjOk X.prog X.w (upd H a o) s'.heap a o)(e2:s'.gens=s.gens)(e3:s'.os=s.os) :
  Inv X pins σ (upd H a o) s':=(I.laid (t':=s.toks) k hp new).same rfl e2 e3
end
def rSetSg (w:World):List V->Hp->VK->Prop:=fun vs H Q=>∃ x:Str,vs=[.str x]/\x.length<4000/\∀ p,H p=none->Q (.ref p) (upd H p (SetO w p (JA ((Bg x).map Sum.inr))))
theorem Ro {X:Cx}{w:World}(hc:X.calm=true)(hw:X.w=w):Ek X (.type "set") (rSetSg w):=by
 subst hw;intro pins s σ H vs us Q I r h;obtain ⟨x,rfl,hz,q⟩:=h;obtain ⟨u,rfl,ru⟩:=IB r;obtain ⟨t,rfl⟩:=ru;have e0:(Bg x).length=x.cps.size:=by unfold Bg;rw [qeA,qxB]
 refine NV (val:=(Bg x).map Sum.inr) (T := "str") (I.ok.hd hc) src_str (fun s1 k=>rfl) OM On (by decide) ?_ (fun i v e=>?_) ?_ fun h' tk hS hk=>?_
 ·rw [qeA];exact e0
 ·obtain ⟨c,u,hc,rfl⟩:=e;refine ⟨.inr ⟨#[c]⟩,?_,Ma _ _⟩;unfold Bg;rw [qzA,qzA,Array.getElem?_toList,hc]
  rfl
 ·have:x.cps.size<4000:=hz;unfold scanBound;omega
 ·exact ⟨.ref s.heap.objs.size,_,I.laid' (s':={ s with heap:=h',toks:=tk }) (fun b o e=>hk b o e) (qfB _) (setO_ok hS) rfl rfl,rfl,q _ (I.hok.fresh (qfB _))⟩
def Qp (w:World):List V->Hp->VK->Prop:=fun vs H Q=>∃ (l:Addr) (ys:List Str),vs=[.ref l]/\H l=some (SetO w l (ys.map Sum.inr))/\ys.length<64/\∀ p,H p=none->Q (.ref p) (upd H p (.lst ((MQ ys).map V.str)))
theorem P7 {X:Cx}{w:World}(hc:X.calm=true)(hw:X.w=w):Ek X (.builtin "sorted") (Qp w):=by
 subst hw;intro pins s σ H vs us Q I r h;obtain ⟨l,ys,rfl,hl,h64,q⟩:=h;obtain ⟨u,rfl,ru⟩:=IB r;cases ru;refine PU (I.ok.hd hc) (setO_get I.hok hl) h64 fun s' D n out ns' hk eg eo lD gD a1 a2 a3=>?_;have e:=sortS_of a2 a3;subst e;refine ⟨.ref D,_,I.laid' (o:=.lst ((MQ ys).map V.str)) hk lD ⟨?_,out.toList,n,MR a1,gD⟩ eg eo,rfl,q _ (I.hok.fresh lD)⟩;rw [qeA,(EE ys).length_eq,qoB];omega
def Ld {α:Type}[DecidableEq α](ks:List α)(k:α):List α:=if ks.any (fun y=>decide (y=k)) then ks else ks++[k]
def MD {α:Type}[DecidableEq α](ks:List α):List α:=ks.foldl Ld []
theorem addA_map {α:Type}[DecidableEq α]{f:α->Key}(hf:∀ a b,f a=f b->a=b)(ks:List α)(k:α):Hu (ks.map f) (f k)=(Ld ks k).map f:=by
 have e:(ks.map f).any (fun y=>decide (y=f k))=ks.any (fun y=>decide (y=k)):=by
  rw [List.any_map]
  congr 1
  funext y
  show decide (f y=f k)=decide (y=k);by_cases h:y=k
  ·rw [h,decide_eq_true rfl,decide_eq_true rfl]
  ·rw [decide_eq_false h,decide_eq_false (fun q=>h (hf _ _ q))]
 unfold Hu Ld;rw [e];split
 ·rfl
 ·rw [qbB];rfl
theorem dedA_map {α:Type}[DecidableEq α]{f:α->Key}(hf:∀ a b,f a=f b->a=b)(ks:List α):JA (ks.map f)=(MD ks).map f:=by
 have:∀ (ks acc:List α),(ks.map f).foldl Hu (acc.map f)=(ks.foldl Ld acc).map f:=by
  intro ks
  induction ks with
  | nil=>intro acc;rfl
  | cons k ks ih=>intro acc;rw [qaB,qdC,qdC,addA_map hf,ih]
 exact this ks []
theorem inr_inj (a b:Str)(h:(Sum.inr a:Key)=Sum.inr b):a=b:=Sum.inr.inj h
theorem mem_addA {α:Type}[DecidableEq α]{ks:List α}{k x:α}:x∈Ld ks k ↔ x∈ks\/x=k:=by
 unfold Ld;split
 ·rename_i h;obtain ⟨y,hy,e⟩:=List.any_eq_true.mp h;have e:=of_decide_eq_true e;constructor
  ·exact .inl
  ·rintro (h|rfl)
   ·exact h
   ·exact e ▸ hy
 ·rw [qkA,qpA]
theorem mem_dedA {α:Type}[DecidableEq α]{ks:List α}{x:α}:x∈MD ks ↔ x∈ks:=by
 have:∀ (ks acc:List α),x∈ks.foldl Ld acc ↔ x∈acc\/x∈ks:=by
  intro ks
  induction ks with
  | nil=>intro acc;simp
  | cons k ks ih=>intro acc;rw [qdC,ih,mem_addA,qmA,or_assoc]
 rw [MD,this];simp
section
variable {K:FZ9}{σ:St}{G:Hp}{ta tb:TE}{w:World}
theorem strs_rel {G2:Hp}(zs:List Str)(h:∀ y∈zs,y.length<=sizeLine):Paired (Rp.rel K G2) (zs.map V.str) zs:=by
 induction zs with
 | nil=>exact .nil
 | cons y zs ih=>exact .cons ⟨rfl,h y qqA⟩ (ih fun w hw=>h w (qrA _ hw))
end
theorem dedA_len {α:Type}[DecidableEq α](ks:List α):(MD ks).length<=ks.length:=by
 have:∀ (ks acc:List α),(ks.foldl Ld acc).length<=acc.length+ks.length:=by
  intro ks
  induction ks with
  | nil=>intro acc;exact qfB _
  | cons k ks ih =>
   intro acc;have h1:=ih (Ld acc k)
   have h2:(Ld acc k).length<=acc.length+1:=by
    unfold Ld;split
    ·exact Nat.le_succ _
    ·rw [qfA];exact qfB _
   rw [qdC,qgA];omega
 have:=this ks [];rw [List.length_nil] at this;unfold MD;omega
section
variable {K:FZ9}{σ:St}{G:Hp}{ta tb:TE}{w:World}
theorem sign_len {x y:Str}(h:y∈Bg x):y.length<=sizeLine:=by
 unfold Bg at h;obtain ⟨c,_,rfl⟩:=qnA.mp h;rw [qoB];show (#[c]:Array _).size<=_;simp
end
def epOf (o:Obj):Nat:=match o.data with
 | .dict _ ep=>ep
 | _=>0
structure MpS (α:Type) where
 l:List (Str × α)
section
variable {X:Cx}{i o:Expr}{ty td:TE}{pos:Pos}
theorem pe_cmpDI (hu:X.A.units+1<cLine)(hi:PE X i ty)(ho:PE X o td)(hm:behindInMarks .In o=false):PE X (.Compare i [.In] [o] pos) (tDIn ty td):=pe_cmp (pc_din hu hi ho) hm
theorem pt_cmpDI (hu:X.A.units+1<cLine)(hi:PE X i ty)(ho:PE X o td)(hm:behindInMarks .In o=false):PT X (.Compare i [.In] [o] pos) (RH (tDIn ty td)):=pt_cmp (pc_din hu hi ho) hm
end
end L2
namespace HT
open PySem PySem.Spec PyProof.Rows
section
variable {prog:Program}{w:World}{A:Around}{E:Value->Shared->Prop}{s:Shared}
theorem getItem_tuple_all {t sl:Addr}{items:Array Value}{vl vu:Value}{lo hi:Option Int}{Q:Value->Shared->Prop}(ht:IsTup s.heap t items)(hs:s.heap.IsSliceOf sl vl vu .none)(pl:IsPart vl lo)(pu:IsPart vu hi)
  (hw:sIx items.size 0 lo=0/\sIx items.size items.size hi=items.size) (h:Q (.ref t) s):wpAny (model prog w) A (getItem (.ref t) (.ref sl)) Q E s:=by
 obtain ⟨os,hos,hcs,hds⟩:=id hs;have hTs:s.TypeIs (.ref sl) "slice" := ⟨os,hos,hcs⟩;unfold getItem
 try with_reducible refine qdA ?_
 first|refine qbA (qcA ?_)|skip
 refine qbA (wpAny_sequenceKey ht.typeIs (by decide) ?_);refine qbA (wpAny_callSpecial?_slot (name:=Str.ofString "__getitem__") ht.typeIs PyProof.Rows.slot_tuple_getitem (qbC PyProof.Rows.slot_tuple_getitem ht.typeIs entry_tuple_getitem ?_ (args_tuple_getitem _ _)));show wpAny _ _ (Builtin.Tuple.tupleItemsOf (.ref t) >>= _) _ _ s;refine qbA (tupleItemsOf_ ht ?_);refine qbA (wpAny_typeOf hTs ?_);rw [if_pos (by decide)];refine qbA (Ft hs pl pu ?_);show wpAny _ _ (if (((sIx items.size 0 lo:Nat):Int) == 0 && (1:Int) == 1 && (sIx items.size items.size hi - sIx items.size 0 lo) == items.size)=true then _ else _) _ _ s;rw [if_pos (by rw [hw.1,hw.2];simp)];refine qbA ?_;unfold Builtin.Tuple.tupleIsExact;refine qbA (wpAny_typeOf ht.typeIs (qcA ?_));rw [if_pos (by decide)];refine qbA (wpAny_rule ?_);exact qcA ⟨_,rfl,qcA h⟩
end
end HT
namespace L2
open PySem PySem.Spec PyProof.Rows
def rSlA (K:FZ9):V->Option Int->Option Int->Hp->VK->Prop:=fun x lo hi H Q=>∃ a xs,x = .ref a/\SqT K H a xs /\
 ((HT.sIx xs.length 0 lo=0/\HT.sIx xs.length xs.length hi=xs.length)->Q (.ref a) H) /\
 (¬ (HT.sIx xs.length 0 lo=0/\HT.sIx xs.length xs.length hi=xs.length)->∀ p,H p=none->Q (.ref p) (upd H p (.tup (Ki xs lo hi))))
theorem NI {X:Cx}{K:FZ9}(h:X.K=K):SlR X (rSlA K):=by
 subst h;intro pins s σ H x v vl vu lo hi sl Q I rx hs pl pu h;obtain ⟨a,xs,rfl,hx,q1,q2⟩:=h;by_cases hw:HT.sIx xs.length 0 lo=0/\HT.sIx xs.length xs.length hi=xs.length
 ·cases rx;obtain ⟨its,r,ht,hz⟩:=I.tuple hx;have hlen:its.toArray.size=xs.length:=by rw [qvB];exact r.length.symm
  exact ⟨"tuple",_,PyProof.Rows.slot_tuple_getitem.lookup,ht.typeIs,HT.getItem_tuple_all ht hs pl pu (by rw [hlen];exact hw) ⟨.ref a,H,I,rfl,q1 hw⟩⟩
 ·exact sl_tup pins s σ H _ v vl vu lo hi sl Q I rx hs pl pu ⟨a,xs,rfl,hx,hw,q2 hw⟩
theorem vals4' {x y z w:V}{us:List Value}(h:Vals [x,y,z,w] us):∃ a b c d,us=[a,b,c,d]/\RelV x a/\RelV y b/\RelV z c/\RelV w d:=by
 cases h with
 | cons r t =>
  obtain ⟨a,b,c,rfl,h1,h2,h3⟩:=vals3' t;exact ⟨_,_,_,_,rfl,r,h1,h2,h3⟩
def isT4 (K:FZ9){α β γ δ:Type}(R:Hp->V->α->Prop)(S:Hp->V->β->Prop)(T:Hp->V->γ->Prop)(U:Hp->V->δ->Prop):Hp->V->T4 α β γ δ->Prop:=fun H x p=>∃ t a b c d,x = .ref t/\SqT K H t [a,b,c,d]/\R H a p.a/\S H b p.b/\T H c p.c/\U H d p.d
theorem eqT4 {K:FZ9}{k:Nat}{α β γ δ:Type}[DecidableEq α][DecidableEq β][DecidableEq γ][DecidableEq δ]{R:Hp->V->α->Prop}{S:Hp->V->β->Prop}{T:Hp->V->γ->Prop}{U:Hp->V->δ->Prop}(E:EqTy K k R)(G:EqTy K k S)(F:EqTy K k T)(D:EqTy K k U):EqTy K (k+1) (isT4 K R S T U):=by
 have fn:∀ {X:Cx}{pins:List (Addr × Obj)}{σ:St}{H:Hp}{s:Shared}{x:V}{a b:T4 α β γ δ},X.K=K->Inv X pins σ H s->isT4 K R S T U H x a->isT4 K R S T U H x b->a=b:=by
  intro X pins σ H s x a b hK I ha hb;obtain ⟨l,x1,x2,x3,x4,rfl,h1,p1,p2,p3,p4⟩:=ha;obtain ⟨l',y1,y2,y3,y4,e,h2,q1,q2,q3,q4⟩:=hb;cases e;subst hK;have:=I.tuple_inj h1 h2;cases this;obtain ⟨a1,a2,a3,a4⟩:=a;obtain ⟨b1,b2,b3,b4⟩:=b;have e1:a1=b1:=E.fn rfl I p1 q1;have e2:a2=b2:=G.fn rfl I p2 q2;have e3:a3=b3:=F.fn rfl I p3 q3;have e4:a4=b4:=D.fn rfl I p4 q4;rw [e1,e2,e3,e4]
 have rc:∀ {X:Cx}{pins:List (Addr × Obj)}{σ:St}{H:Hp}{s:Shared}{x y:V}{u v:Value}{a b:T4 α β γ δ}(A:Around),X.K=K->Inv X pins σ H s->A.units+(k+1)<cLine->RelV x u->RelV y v->isT4 K R S T U H x a->isT4 K R S T U H y b ->
   SeqAt.RcAt A s u v (decide (a=b))/\SeqAt.RcNeAt A s u v (!decide (a=b)):=by
  intro X pins σ H s x y u v a b A hK I hu r1 r2 ha hb;obtain ⟨l,x1,x2,x3,x4,rfl,h1,p1,p2,p3,p4⟩:=ha;obtain ⟨l',y1,y2,y3,y4,rfl,h2,q1,q2,q3,q4⟩:=hb;cases r1;cases r2;subst hK;obtain ⟨us,rx,plx,_⟩:=I.tuple h1;obtain ⟨vs,ry,ply,_⟩:=I.tuple h2;obtain ⟨u1,u2,u3,u4,rfl,ru1,ru2,ru3,ru4⟩:=vals4' rx;obtain ⟨v1,v2,v3,v4,rfl,rv1,rv2,rv3,rv4⟩:=vals4' ry;have e1:=E.eq A.in1 rfl I (show A.units+1+k<cLine by omega) ru1 rv1 p1 q1;have e2:=G.eq A.in1 rfl I (show A.units+1+k<cLine by omega) ru2 rv2 p2 q2;have e3:=F.eq A.in1 rfl I (show A.units+1+k<cLine by omega) ru3 rv3 p3 q3;have e4:=D.eq A.in1 rfl I (show A.units+1+k<cLine by omega) ru4 rv4 p4 q4
  have it:∀ j (h1:j < [u1,u2,u3,u4].toArray.size) (h2:j < [v1,v2,v3,v4].toArray.size),SeqAt.EqAt A.in1 s [u1,u2,u3,u4].toArray[j] [v1,v2,v3,v4].toArray[j] ((fun j=>if j=0 then decide (a.a=b.a) else if j=1 then decide (a.b=b.b) else if j=2 then decide (a.c=b.c) else decide (a.d=b.d)) j):=by
   intro j h1 h2
   match j,h1 with
   | 0,_=>exact e1
   | 1,_=>exact e2
   | 2,_=>exact e3
   | 3,_=>exact e4
   | j+4,h=>exact absurd h (by simp)
  have ed:((List.range (min [u1,u2,u3,u4].toArray.size [v1,v2,v3,v4].toArray.size)).all (fun j=>if j=0 then decide (a.a=b.a) else if j=1 then decide (a.b=b.b) else if j=2 then decide (a.c=b.c) else decide (a.d=b.d)) && [u1,u2,u3,u4].toArray.size == [v1,v2,v3,v4].toArray.size)=decide (a=b):=by
   apply Bool.eq_iff_iff.mpr;rw [decide_eq_true_iff];constructor
   ·intro h;have h:(decide (a.a=b.a) && (decide (a.b=b.b) && (decide (a.c=b.c) && (decide (a.d=b.d) && true))) && true)=true:=h;simp only [Bool.and_true,qfC,decide_eq_true_iff] at h;obtain ⟨a1,a2,a3,a4⟩:=a;obtain ⟨b1,b2,b3,b4⟩:=b;obtain ⟨h1,h2,h3,h4⟩:=h;dsimp only at h1 h2 h3 h4;rw [h1,h2,h3,h4]
   ·rintro rfl;show (decide (a.a=a.a) && (decide (a.b=a.b) && (decide (a.c=a.c) && (decide (a.d=a.d) && true))) && true)=true;simp
  rw [<- ed];exact ⟨SeqAt.RcAt.tuples plx ply (by omega) it,SeqAt.RcNeAt.tuples plx ply (by omega) it⟩
 refine ⟨fn,?_,rc⟩;intro X pins σ H s x y u v a b A hK I hu r1 r2 ha hb;have h:=(rc A hK I hu r1 r2 ha hb).1;obtain ⟨l,x1,x2,x3,x4,rfl,h1,p1,p2,p3,p4⟩:=id ha;obtain ⟨l',y1,y2,y3,y4,rfl,h2,q1,q2,q3,q4⟩:=id hb;cases r1;cases r2;by_cases e:l=l'
 ·subst e;have:a=b:=fn hK I ha hb;rw [decide_eq_true this];exact SeqAt.EqAt.same _
 ·exact SeqAt.EqAt.of_refs e h
instance reT4 {α β γ δ:Type}[Rp α][DecidableEq α][RpE α][Rp β][DecidableEq β][RpE β][Rp γ][DecidableEq γ][RpE γ][Rp δ][DecidableEq δ][RpE δ]:RpE (T4 α β γ δ) :=
 ⟨max (max (RpE.k α) (RpE.k β)) (max (RpE.k γ) (RpE.k δ))+1,fun K=>eqT4 ((RpE.ty (α:=α) K).up (qgB (Nat.le_max_left _ _) (Nat.le_max_left _ _))) ((RpE.ty (α:=β) K).up (qgB (Nat.le_max_right _ _) (Nat.le_max_left _ _))) ((RpE.ty (α:=γ) K).up (qgB (Nat.le_max_left _ _) (Nat.le_max_right _ _))) ((RpE.ty (α:=δ) K).up (qgB (Nat.le_max_right _ _) (Nat.le_max_right _ _)))⟩
def siK:SI->Key
 | .s x=>.inr x
 | .i n=>.inl n
theorem siK_inj:∀ {a b:SI},siK a=siK b->a=b
 | .s x,.s y,e=>by rw [Sum.inr.inj e]
 | .s _,.i _,e=>nomatch e
 | .i _,.s _,e=>nomatch e
 | .i m,.i n,e=>by rw [Sum.inl.inj e]
theorem OA:∀ {l m:List SI},l.map siK=m.map siK->l=m
 | [],[],_=>rfl
 | [],_::_,e=>nomatch e
 | _::_,[],e=>nomatch e
 | a::l,b::m,e=>by
  rw [qaB,qaB] at e;obtain ⟨h1,h2⟩:=List.cons.inj e;rw [siK_inj h1,OA h2]
def Cq (r:Tp SI):List Key:=r.l.map siK
theorem rowK_inj {a b:Tp SI}(e:Cq a=Cq b):a=b:=by
 cases a;cases b;exact congrArg Tp.mk (OA e)
structure Rk where
 l:List SI
instance rpRk:Rp Rk:=⟨fun K H v r=>∃ t xs,v = .ref t/\H t=some (.tup xs)/\xs.length<=sizeLine/\Paired (Rp.rel K H) xs r.l,
 fun s ⟨t,xs,e,h,z,p⟩=>⟨t,xs,e,s _ _ h,z,Paired.imp' (fun _ _ r=>Rp.mono s r) p⟩⟩
def Rk.tp (r:Rk):Tp SI:=⟨r.l⟩
theorem Rk.rel {K:FZ9}{H:Hp}{v:V}{r:Rk}(h:Rp.rel K H v r):Rp.rel K H v r.tp :=
 let ⟨t,xs,e,h,z,p⟩:=h
 ⟨t,xs,e,SqT.of h,z,p⟩
theorem QX {K:FZ9}{H:Hp}:∀ {xs:List V}{l:List SI},Paired (Rp.rel K H) xs l->xs=(l.map siK).map kV
 | _,_,.nil=>rfl
 | _,_,.cons (b:=.s x) h t=>by
  rw [qaB,qaB,<- QX t];exact congrArg (·::_) h.1
 | _,_,.cons (b:=.i n) h t=>by
  rw [qaB,qaB,<- QX t];exact congrArg (·::_) (show _=V.int n from h)
def Itv (K:FZ9)(a:Addr)(n:Nat):It :=
 ⟨fun i H=>∃ xs x,SqL K H a xs/\xs.length=n/\i<n/\xs[n - 1 - i]? = some x,fun i H x H'=>H'=H/\∀ xs,SqL K H a xs->xs[n - 1 - i]? = some x,fun i H=>i=n/\∃ xs,SqL K H a xs/\xs.length=n⟩
theorem turn_rev {P:Program}{w:World}{K:FZ9}{tg:Expr}(a it:Addr)(n:Nat):Turn P w K tg (Itv K a n) [it] it (fun i h=>h.IsRevIter it a ((n:Int) - 1 - (i:Int))) where
 mem:=by simp
 obj:=fun i h st b hb=>by
  have e:b=it:=by simpa using hb
  subst e;obtain ⟨o,e,c,d⟩:=st;exact ⟨o,e,fun v z=>by rw [d] at z;cases z⟩
 keep:=fun i h h' st k=>st.at fun o e=>k it (by simp) o e
 item:=by
  intro X hP hw hK hc i pins s σ H E I hf st hg;subst hP hw hK;obtain ⟨xs,x,hq,hn,hi,hx⟩:=hg;obtain ⟨its,rv,p,hz⟩:=I.list hq;obtain ⟨u,hu,ru⟩:=rv.get hx;obtain ⟨f0,f1,f2,f3,f4,f5⟩:=hf it (by simp);have e:(n:Int) - 1 - (i:Int)=((n - 1 - i:Nat):Int):=by omega
  rw [e] at st;refine wpAny_pyNext_rev_item st p.isList (x:=u) (by simpa using hu) fun h' st' sb=>?_;have I1:Inv X pins σ H { s with heap:=h' }:=I.turned (t':=s.toks) (fun b o hb e=>(sb.2 b hb).trans e) f0 f1 f3 f4 f5;have e2:((n - 1 - i:Nat):Int) - 1=(n:Int) - 1 - ((i+1:Nat):Int):=by omega
  rw [e2] at st';obtain ⟨o,e,c,d⟩:=id st';exact ⟨u,rfl,LG (s:={ s with heap:=h' }) e c d (by decide) ⟨x,H,I1,ru,⟨rfl,fun ys hy=>by rw [I.list_inj hy hq];exact hx⟩,st',fun b hb=>(hf b hb).1⟩⟩
 done:=by
  intro X hP hw hK hc i pins s σ H E I hf st hg;subst hP hw hK;obtain ⟨rfl,xs,hq,hn⟩:=hg;obtain ⟨f0,f1,f2,f3,f4,f5⟩:=hf it (by simp);have e:(i:Int) - 1 - (i:Int) = -1:=by omega
  rw [e] at st;exact wpAny_pyNext_rev_end (I.ok.hd hc) st fun h' eb=>⟨rfl,I.turned (t':=s.toks) (fun b o hb e=>eb b o hb e) f0 f1 f3 f4 f5⟩
 self:=fun _ _ _ _ _ st h=>wpAny_pyIter_revIter st h
def iRev (K:FZ9)(ta:TA):TI:=fun σ H R=>ta σ H fun vs H1=>∃ a xs,vs=[.ref a]/\SqL K H1 a xs/\R (Itv K a xs.length) H1
theorem MJ:bootBuiltins "reversed" = some (.type "reversed"):=by decide +kernel
theorem pi_rev {X:Cx}{K:FZ9}{tg a:Expr}{ta:TA}{p pos:Pos}(hK:X.K=K)(hg:Gl X "reversed")(hm:X.mg "reversed" = none)(ha:PA X [a] ta)(hs:starEach [a] X.env=[(false,eval a X.env)]:=by rfl) :
  PI X tg (.Call (.Name "reversed" p) [a] [] pos) (iRev K ta):=by
 subst hK;intro pins s σ H R I h;refine Call_ (Jo I hg hm MJ (PyProof.Rows.callWith_type1 (thn (ha pos pins s σ H _ I h) fun us s1 ⟨vs,H1,I1,r1,q1⟩=>?_) (by rw [hs];rfl) (by rfl)));obtain ⟨l,xs,e,hq,q⟩:=q1;subst e;obtain ⟨u1,rfl,r1q⟩:=IB r1;obtain rfl:u1=Value.ref l:=r1q;obtain ⟨its,rv,pl,_⟩:=I1.list hq;have hl:=rv.length;refine call_reversed_list pl.isList ?_
 have st:(s1.heap.push (revObj l ((its.toArray.size:Int) - 1))).IsRevIter s1.heap.objs.size l ((xs.length:Int) - 1 - ((0:Nat):Int)):=⟨_,qnB _ rfl,rfl,by
  rw [qvB,<- hl];have e:((xs.length:Int) - 1 - ((0:Nat):Int))=(xs.length:Int) - 1:=by omega
  rw [e]
  rfl⟩
 refine wpAny_pyIter_revIter (s:={ s1 with heap:=s1.heap.push (revObj l ((its.toArray.size:Int) - 1)) }) st ?_;have I2:Inv X pins σ H1 { s1 with heap:=s1.heap.push (revObj l ((its.toArray.size:Int) - 1)) }:=I1.kept (t':=s1.toks) fun b o e=>qmB _ e;refine ⟨s1.heap.objs.size,[s1.heap.objs.size],_,_,H1,rfl,I2,turn_rev l s1.heap.objs.size xs.length,st,fun b hb=>?_,q⟩;rw [qpA.mp hb];exact I1.fpOk (qfB _) (I1.hok.fresh (qfB _))
section
variable {K:FZ9}{σ:St}{G:Hp}{α:Type}[Rp α]{ta:TE}
theorem Paired.rev {β:Type}{F:V->β->Prop}:∀ {xs:List V}{as:List β},Paired F xs as->Paired F xs.reverse as.reverse
 | _,_,.nil=>.nil
 | _,_,.cons r t=>by
  rw [List.reverse_cons,List.reverse_cons];exact Paired.app (Paired.rev t) (.cons r .nil)
theorem iw_rev {la:Option (List α)}(ea:EV K ta σ G la):IW K (iRev K (B5 ta DE)) σ G (la.bind fun a=>some a.reverse):=by
 intro G1 s1 a ha H sH R k;obtain ⟨b,hb,ha⟩:=qaA.mp ha;cases ha;clear 8 ea b hb;obtain ⟨l,xs,rfl,h,z,p⟩:=r2;refine ⟨l,xs,rfl,.inl (x2.gh.rd h),k _ xs.reverse G2 H2 x2 ⟨fun i H' s hi=>?_,fun H' s=>?_,fun i H' x H'' s hi hy=>?_⟩ (by rw [List.length_reverse];exact z) (Paired.rev p)⟩
 ·rw [List.length_reverse] at hi;exact ⟨xs,xs[xs.length - 1 - i]'(by omega),.inl (s.rd h),rfl,hi,qvA (by omega)⟩
 ·rw [List.length_reverse];exact ⟨rfl,xs,.inl (s.rd h),rfl⟩
 ·rw [List.length_reverse] at hi;refine ⟨hy.1,?_⟩;rw [List.getElem?_reverse (by omega)];exact hy.2 xs (.inl (s.rd h))
end
instance rkDec:DecidableEq Rk:=fun a b=>if h:a.l=b.l then .isTrue (by cases a;cases b;cases h;rfl) else .isFalse fun e=>h (by rw [e])
section
variable {K:FZ9}{σ:St}{G:Hp}{te ta tb:TE}
theorem Qe {m:Option Rk}(e:EV K te σ G m):EV K te σ G (m.bind fun r=>some r.tp):=by
 clear 7;obtain ⟨x,hx,hc⟩:=qaA.mp hc;cases hc;exact e G1 s1 x hx H sH Q fun v G2 H2 x2 r=>k v G2 H2 x2 (Rk.rel r)
theorem HA {t:TA}{n:Nat}{ml:Option (List SI)}(e:LV K t σ G n ml)(z:n<=sizeLine:=by decide):EV K (Rz t) σ G (ml.bind fun l=>some (Rk.mk l)) :=
 fun G1 s1 c hc H sH Q k=>by
  obtain ⟨l,hl,hc⟩:=qaA.mp hc;cases hc;refine e G1 s1 l hl H sH _ fun vs G2 H2 x2 hl hp=>⟨by omega,fun p h=>?_⟩;exact k _ _ _ (x2.trans (.new x2.gh h)) ⟨p,vs,rfl,AQ,by omega,Paired.imp' (fun _ _ r=>Rp.mono (Same.new (x2.gh.free h)) r) hp⟩
end
section
variable {κ:PyProof.Rows.KeyKind}
def ky (κ:PyProof.Rows.KeyKind)(p:Keyed):κ.α:=(κ.keyOf p.1).getD κ.dflt
variable {prog:Program}{w:World}{A:Around}{E:Value->Shared->Prop}{s:Shared}
end
section
variable {κ:PyProof.Rows.KeyKind}
def kl (κ:PyProof.Rows.KeyKind)(x y:Keyed):Prop:=κ.kle (ky κ x) (ky κ y)
end
def sg (st:SortSt)(g:Nat):SortSt:=SortSt.mk' (kindOf st) (arrOf st) (pendingOf st) g (failedOf st)
end L2
set_option maxHeartbeats 2000000
namespace L2
open PySem PySem.Spec PyProof.Rows
end L2
set_option maxHeartbeats 2000000
namespace L2
open PySem PySem.Spec PyProof.Rows
end L2
set_option maxHeartbeats 2000000
namespace L2
open PySem PySem.Spec PyProof.Rows
end L2
set_option maxHeartbeats 2000000
namespace L2
open PySem PySem.Spec PyProof.Rows
end L2
set_option maxHeartbeats 2000000
namespace L2
open PySem PySem.Spec PyProof.Rows
end L2
set_option maxHeartbeats 2000000
namespace L2
open PySem PySem.Spec PyProof.Rows
end L2
set_option maxHeartbeats 2000000
namespace L2
open PySem PySem.Spec PyProof.Rows
end L2
set_option maxHeartbeats 2000000
namespace L2
open PySem PySem.Spec PyProof.Rows
section
variable {κ:PyProof.Rows.KeyKind}{prog:Program}{w:World}{A:Around}{E:Value->Shared->Prop}{s:Shared}
abbrev mk (X:Array Keyed)(p:Array (Nat × Nat × Nat))(g:Nat):SortSt:=SortSt.mk' oneType' X p g none
end
end L2
set_option maxHeartbeats 2000000
namespace L2
open PySem PySem.Spec PyProof.Rows
end L2
set_option maxHeartbeats 2000000
namespace L2
open PySem PySem.Spec PyProof.Rows
structure MpR (α:Type) where
 l:List (Rk × α)
def P1 {α:Type}(l:List (Rk × α))(k:Rk)(a:α):List (Rk × α):=if (l.any fun q=>decide (q.1=k))=true then l.map (fun q=>if q.1=k then (q.1,a) else q) else l++[(k,a)]
def putRO {α:Type}(m:MpR α)(k:Rk)(a:α):Option (MpR α):=if m.l.length<sizeLine then some ⟨P1 m.l k a⟩ else none
def Le {α:Type}(l:List (Rk × α))(k:Rk):Bool:=l.any fun q=>decide (q.1=k)
def Gp (K:FZ9){α:Type}[Rp α](H:Hp)(kv:List Key × V)(q:Rk × α):Prop:=kv.1=Cq q.1.tp/\Rp.rel K H kv.2 q.2
instance rpMpR {α:Type}[Rp α]:Rp (MpR α):=⟨fun K H v a=>∃ p kvs,v = .ref p/\H p=some (.dT kvs)/\Paired (Gp K H) kvs a.l,
 fun s ⟨p,kvs,e,h,pr⟩=>⟨p,kvs,e,s _ _ h,Paired.imp' (fun _ _ r=>⟨r.1,Rp.mono s r.2⟩) pr⟩⟩
structure OwnR (K:FZ9){α:Type}[Rp α](G H:Hp)(v:V)(p:Addr)(kvs:List (List Key × V))(a:MpR α):Prop where
 v:v = .ref p
 g:G p=none
 h:H p=some (.dT kvs)
 p:Paired (Gp K G) kvs a.l
theorem FS {a b:Rk}(e:Cq a.tp=Cq b.tp):a=b:=by
 have h:=rowK_inj e;cases a;cases b;cases h
 rfl
theorem IL {K:FZ9}{H:Hp}{v:V}{r:Rk}(h:Rp.rel K H v r):∃ t,v = .ref t/\H t=some (.tup ((Cq r.tp).map kV)):=by
 obtain ⟨t,xs,e,h,_,p⟩:=h;rw [QX p] at h;exact ⟨t,e,h⟩
section
variable {K:FZ9}{σ:St}{G H G1 H1 G0 H0:Hp}{α β:Type}[Rp α][Rp β]{td te ti:TE}{rest:TS}{D:Ends}{i:Nat}{a:MpR α}{v:V}{p q:Addr}{kvs:List (List Key × V)}
theorem OwnR.ext (o:OwnR K G H v p kvs a)(x:Ext G H G1 H1):OwnR K G1 H1 v p kvs a :=
 ⟨o.v,x.no p o.g (by rw [o.h];exact fun z=>nomatch z),x.hh _ _ o.h,Paired.imp' (fun _ _ r=>⟨r.1,Rp.mono x.gg r.2⟩) o.p⟩
theorem OwnR.tell (o:OwnR K G H v p kvs a):Rp.rel K (upd G p (.dT kvs)) v a:=⟨p,kvs,o.v,AQ,Paired.imp' (fun _ _ r=>⟨r.1,Rp.mono (Same.new o.g) r.2⟩) o.p⟩
theorem OwnR.same (o:OwnR K G H v p kvs a)(s:Same G H):Same (upd G p (.dT kvs)) H:=fun b ho e=>by
 by_cases hb:b=p
 ·subst hb;rw [AQ] at e;cases e;exact o.h
 ·rw [At hb] at e;exact s _ _ e
theorem TV.runR {tt:TT}{mb:Option Bool}{b:Bool}{Q:Bool->Hp->Prop}(o:OwnR K G H v p kvs a)(e:TV tt σ (upd G p (.dT kvs)) mb)(hm:mb=some b)(s:Same G H)(k:∀ G2 H2,Ext G H G2 H2->Q b H2):tt σ H Q :=
 e.run hm (o.same s) fun G2 H2 x=>k (del G2 p) H2 (x.del o.g)
theorem sv_ifR {tt:TT}{t u:TS}{b:Bool}{m:Option Bool}(o:OwnR K G H v p kvs a)(e:TV tt σ (upd G p (.dT kvs)) m)(hm:m=some b)(s:Same G H)(k:∀ G2 H2,Ext G H G2 H2->if b=true then t { D with nx:=rest D } σ H2 else u { D with nx:=rest D } σ H2) :
  Cm (IH tt t u) rest D σ H:=TV.runR o e hm s k
theorem HU {G:Hp}{k:Rk}:∀ {kvs:List (List Key × V)}{l:List (Rk × α)},Paired (Gp K G) kvs l->(kvs.any fun kv=>decide (kv.1=Cq k.tp))=l.any fun q=>decide (q.1=k)
 | _,_,.nil=>rfl
 | kv::kvs,q::l,.cons h t=>by
  rw [List.any_cons,List.any_cons,HU t,h.1]
  congr 1
  exact decide_eq_decide.mpr ⟨fun e=>FS e,fun e=>by rw [e]⟩
theorem JG {G:Hp}{k:Rk}{w:V}{b:α}(r:Rp.rel K G w b):∀ {kvs:List (List Key × V)}{l:List (Rk × α)},Paired (Gp K G) kvs l->Paired (Gp K G) (kvs.map fun kv=>if kv.1=Cq k.tp then (kv.1,w) else kv) (l.map fun q=>if q.1=k then (q.1,b) else q)
 | _,_,.nil=>.nil
 | kv::kvs,q::l,.cons h t=>by
  rw [qaB,qaB];refine .cons ?_ (JG r t);by_cases e:q.1=k
  ·rw [if_pos e,if_pos (by rw [h.1,e])];exact ⟨h.1,r⟩
  ·rw [if_neg e,if_neg (fun z=>e (by rw [h.1] at z;exact FS z))];exact h
theorem PP {G:Hp}{k:Rk}{w:V}{b:α}{l:List (Rk × α)}(r:Rp.rel K G w b)(h:Paired (Gp K G) kvs l):Paired (Gp K G) (Cg kvs (Cq k.tp) w) (P1 l k b):=by
 unfold Cg P1;rw [HU h];by_cases e:(l.any fun q=>decide (q.1=k))=true
 ·rw [if_pos e,if_pos e];exact JG r h
 ·rw [if_neg e,if_neg e];exact Paired.app h (.cons ⟨rfl,r⟩ .nil)
theorem sv_ownR {b:MpR α}(hm:(some (MpR.mk []):Option (MpR α))=some b)(s:Same G H)(k:∀ p kvs G2 H2,Ext G H G2 H2->H p=none->OwnR K G2 H2 (.ref p) p kvs b->rest D (σ.set i (some (.ref p))) H2):Cm (Fv Nq (CB i)) rest D σ H:=by
 cases hm;exact fun p hp=>k p [] G _ (.own s hp) hp ⟨rfl,s.free hp,AQ,.nil⟩
theorem sv_dputR {b:α}{m:Option α}{mi:Option Rk}{k':Rk}{a':MpR α}(hσ:σ[i]? = some (some v))(o:OwnR K G H v p kvs a)(e:EV K te σ G m)(hm:m=some b)(ei:EV K ti σ G mi)(hi:mi=some k')(hs:putRO a k' b=some a')(s:Same G H)
  (k:∀ G2 H2 w,Ext G H G2 H2->OwnR K G2 (upd H2 p (.dT (Cg kvs (Cq k'.tp) w))) v p (Cg kvs (Cq k'.tp) w) a'->rest D σ (upd H2 p (.dT (Cg kvs (Cq k'.tp) w)))):Cm (RQ (FP i) ti te) rest D σ H:=by
 obtain ⟨hl,rfl⟩:=BZ hs;have hlen:=Paired.length o.p;refine e.run hm s fun w G2 H2 x r=>?_;have o2:=o.ext x;refine ⟨v,hσ,?_⟩;refine ei G2 x.gg k' hi H2 x.gh _ fun u G3 H3 x3 r3=>?_;obtain ⟨t,rfl,ht⟩:=IL r3;have o3:=o2.ext x3;refine ⟨p,_,o3.v,DPut.t o3.h (x3.gh _ _ ht) (by omega),?_⟩;exact k G3 H3 w (x.trans x3) ⟨o3.v,o3.g,AQ,PP (Rp.mono x3.gg r) o3.p⟩
theorem KN {G:Hp}{k:Rk}{l:List (Rk × α)}(h:Paired (Gp K G) kvs l):(Cu kvs (Cq k.tp)).isSome=Le l k:=by
 unfold Cu Le;rw [Option.isSome_map,List.isSome_find?,HU h]
end
section
variable {X:Cx}{i o:Expr}{ty td:TE}{pos:Pos}
theorem OR (hu:X.A.units+1<cLine)(hi:PE X i ty)(ho:PE X o td)(hm:behindInMarks .NotIn o=false):PT X (.Compare i [.NotIn] [o] pos) (RH (O5 ty td)):=pt_cmp (Rx hu hi ho) hm
end
def cv:Option Addr->V
 | none=>.non
 | some q=>.ref q
class RpC (γ:Type) [Rp γ] where
 P:FZ9->Hp->HO->γ->Prop
 mono:∀ {K:FZ9}{G G':Hp}{ho:HO}{a:γ},Same G G'->P K G ho a->P K G' ho a
 rel:∀ {K:FZ9}{G:Hp}{ho:HO}{a:γ}{q:Addr},P K G ho a->G q=some ho->Rp.rel K G (.ref q) a
instance rcList {α:Type}[Rp α]:RpC (List α) :=
 ⟨fun K G ho as=>∃ vs,ho = .lst vs/\vs.length<=sizeLine/\Paired (Rp.rel K G) vs as,fun s ⟨vs,e,z,p⟩=>⟨vs,e,z,Paired.imp' (fun _ _ r=>Rp.mono s r) p⟩,
  fun ⟨vs,e,z,p⟩ h=>⟨_,vs,rfl,.inl (by rw [h,e]),z,p⟩⟩
instance rcMp {α:Type}[Rp α]:RpC (Mp α) :=
 ⟨fun K G ho a=>∃ kvs,ho = .dK kvs/\Paired (M9 K G) kvs a.l,fun s ⟨vs,e,p⟩=>⟨vs,e,Paired.imp' (fun _ _ r=>⟨r.1,Rp.mono s r.2⟩) p⟩,
  fun ⟨vs,e,p⟩ h=>⟨_,vs,rfl,by rw [h,e],p⟩⟩
def CellR (K:FZ9){γ:Type}[Rp γ][RpC γ](G H:Hp):Option Addr->Option γ->Prop
 | none,none=>True
 | some q,some x=>G q=none/\∃ ho,H q=some ho/\RpC.P K G ho x
 | _,_=>False
structure OwnC (K:FZ9){γ:Type}[Rp γ][RpC γ](H0 G H:Hp)(v:V)(p:Addr)(cs:List (Option Addr))(as:List (Option γ)):Prop where
 v:v = .ref p
 g:G p=none
 h:H p=some (.lst (cs.map cv))
 z:cs.length<=sizeLine
 h0:H0 p=none
 c0:∀ q,some q∈cs->H0 q=none/\q≠p
 nd:∀ (i j:Nat) q,cs[i]? = some (some q)->cs[j]? = some (some q)->i=j
 p:Paired (CellR K G H) cs as
def KC (G H:Hp)(C:List Addr):Hp:=fun b=>if b∈C then H b else G b
def Gc (p:Addr)(cs:List (Option Addr)):List Addr:=p::cs.filterMap id
theorem mem_addrs {p b:Addr}{cs:List (Option Addr)}:b∈Gc p cs ↔ b=p\/some b∈cs:=by
 unfold Gc;rw [qmA,List.mem_filterMap];constructor
 ·rintro (h | ⟨a,h1,h2⟩)
  ·exact .inl h
  ·exact .inr (by rw [<- h2];exact h1)
 ·rintro (h|h)
  ·exact .inl h
  ·exact .inr ⟨some b,h,rfl⟩
section
variable {K:FZ9}{σ:St}{G H G1 H1 G0 H0:Hp}{γ α β:Type}[Rp γ][RpC γ][Rp α][Rp β]{t1 t2 te ti tk:TE}{rest:TS}{D:Ends}{i:Nat}{v:V}{p:Addr}{cs:List (Option Addr)}{as:List (Option γ)}
theorem Qh {G:Hp}{v:V}{a:Mp α}(h:Rp.rel K G v a):v ≠ .non:=by obtain ⟨_,_,rfl,_⟩:=h;exact fun z=>nomatch z
theorem OE:∀ {cs:List (Option Addr)}{as:List (Option γ)}{j:Nat}{c:Option Addr},Paired (CellR K G H) cs as->cs[j]? = some c->∃ a,as[j]? = some a/\CellR K G H c a
 | _,_,_,_,.nil,e=>by simp at e
 | _,_,0,_,.cons r _,e=>by simp at e;subst e;exact ⟨_,rfl,r⟩
 | _,_,j+1,_,.cons _ t,e=>OE (j:=j) t (by simpa using e)
theorem Jr {a:Option γ}:∀ {cs:List (Option Addr)}{as:List (Option γ)}{j:Nat},Paired (CellR K G H) cs as->as[j]? = some a->∃ c,cs[j]? = some c/\CellR K G H c a
 | _,_,_,.nil,e=>by simp at e
 | _,_,0,.cons r _,e=>by simp at e;subst e;exact ⟨_,rfl,r⟩
 | _,_,j+1,.cons _ t,e=>Jr (j:=j) t (by simpa using e)
theorem OwnC.cell (o:OwnC K H0 G H v p cs as){q:Addr}(h:some q∈cs):G q=none/\H q≠none:=by
 obtain ⟨j,hj⟩:=List.mem_iff_getElem?.mp h;obtain ⟨a,_,r⟩:=OE o.p hj
 cases a with
 | none=>exact r.elim
 | some a =>
  obtain ⟨g,ho,hh,_⟩:=r;exact ⟨g,by rw [hh];exact fun z=>nomatch z⟩
theorem OwnC.gC (o:OwnC K H0 G H v p cs as){b:Addr}(h:b∈Gc p cs):G b=none:=by
 rcases mem_addrs.mp h with rfl|h
 ·exact o.g
 ·exact (o.cell h).1
theorem OwnC.zC (o:OwnC K H0 G H v p cs as){b:Addr}(h:b∈Gc p cs):H0 b=none:=by
 rcases mem_addrs.mp h with rfl|h
 ·exact o.h0
 ·exact (o.c0 _ h).1
theorem CellR.imp {c:Option Addr}{a:Option γ}(sg:Same G G1)(hg:∀ q,c=some q->G q=none->G1 q=none)(hh:∀ q ho,c=some q->H q=some ho->H1 q=some ho)(r:CellR K G H c a):CellR K G1 H1 c a:=by
 cases c with
 | none=>cases a with
  | none=>trivial
  | some a=>exact r.elim
 | some q=>cases a with
  | none=>exact r.elim
  | some a =>
   obtain ⟨g,ho,e,pp⟩:=r;exact ⟨hg q rfl g,ho,hh q ho rfl e,RpC.mono sg pp⟩
theorem pimp {F F':Option Addr->Option γ->Prop}:∀ {cs:List (Option Addr)}{as:List (Option γ)},(∀ c a,c∈cs->F c a->F' c a)->Paired F cs as->Paired F' cs as
 | _,_,_,.nil=>.nil
 | _,_,h,.cons r t=>.cons (h _ _ (qqA ..) r) (pimp (fun c a hc=>h c a (qrA _ hc)) t)
theorem OwnC.ext (o:OwnC K H0 G H v p cs as)(x:Ext G H G1 H1):OwnC K H0 G1 H1 v p cs as :=
 ⟨o.v,x.no p o.g (by rw [o.h];exact fun z=>nomatch z),x.hh _ _ o.h,o.z,o.h0,o.c0,o.nd,
  pimp (fun c a hc r=>r.imp x.gg (fun q e g=>x.no q g (o.cell (e ▸ hc)).2) (fun q ho _ e=>x.hh _ _ e)) o.p⟩
theorem OwnC.up (o:OwnC K H0 G H v p cs as):Same G (KC G H (Gc p cs)):=fun b u e=>by
 unfold KC;rw [if_neg (fun hb=>by rw [o.gC hb] at e;cases e)];exact e
theorem OwnC.sm (o:OwnC K H0 G H v p cs as)(s:Same G H):Same (KC G H (Gc p cs)) H:=fun b u e=>by
 unfold KC at e;split at e
 ·exact e
 ·exact s _ _ e
theorem OwnC.frz (o:OwnC K H0 G H v p cs as)(x:Ext G0 H0 G H):Ext G0 H0 (KC G H (Gc p cs)) H :=
 ⟨x.gg.trans o.up,o.sm x.gh,x.hh,fun b h1 h2=>by
  unfold KC;rw [if_neg (fun hb=>h2 (o.zC hb))]
  exact x.no b h1 h2⟩
theorem OwnC.pv (o:OwnC K H0 G H v p cs as):Paired (Rp.rel K (KC G H (Gc p cs))) (cs.map cv) as:=by
 have key:∀ (cs':List (Option Addr)) (as':List (Option γ)),(∀ c∈cs',c∈cs)->Paired (CellR K G H) cs' as'->Paired (Rp.rel K (KC G H (Gc p cs))) (cs'.map cv) as':=by
  intro cs' as' hs pr
  induction pr with
  | nil=>exact .nil
  | @cons c a cs2 as2 r t ih =>
   refine .cons ?_ (ih fun c hc=>hs c (qrA _ hc))
   cases c with
   | none=>cases a with
    | none=>exact (rfl:V.non=V.non)
    | some a=>exact r.elim
   | some q=>cases a with
    | none=>exact r.elim
    | some a =>
     obtain ⟨g,ho,e,pp⟩:=r
     have hq:KC G H (Gc p cs) q=some ho:=by
      unfold KC;rw [if_pos (mem_addrs.mpr (.inr (hs _ (qqA ..))))];exact e
     exact (RpC.rel (a:=a) (RpC.mono o.up pp) hq:Rp.rel K _ (V.ref q) a)
 exact key cs as (fun _ h=>h) o.p
theorem OwnC.tell (o:OwnC K H0 G H v p cs as):Rp.rel K (KC G H (Gc p cs)) v as:=by
 refine ⟨p,cs.map cv,o.v,.inl ?_,by rw [qeA];exact o.z,o.pv⟩;unfold KC;rw [if_pos (mem_addrs.mpr (.inl rfl))];exact o.h
theorem Im {G:Hp}:∀ {xs:List V}{ls:List γ},Paired (Rp.rel K G) xs (ls.map some)->Paired (Rp.rel K G) xs ls
 | [],[],_=>.nil
 | _::_,_::_,.cons r t=>.cons r (Im t)
theorem OwnC.tellL {ls:List γ}(o:OwnC K H0 G H v p cs (ls.map some)):Rp.rel K (KC G H (Gc p cs)) v ls:=by
 obtain ⟨l,xs,e,h,z,pr⟩:=o.tell;exact ⟨l,xs,e,h,z,Im pr⟩
theorem OwnC.cellput {j:Nat}{q:Addr}{ho ho':HO}{a:γ}(o:OwnC K H0 G H v p cs as)(hj:cs[j]? = some (some q))(hp:RpC.P K G ho' a):OwnC K H0 G (upd H q ho') v p cs (as.set j (some a)):=by
 have hm:some q∈cs:=qtA hj;have np:=(o.c0 q hm).2;refine ⟨o.v,o.g,by rw [At (Ne.symm np)];exact o.h,o.z,o.h0,o.c0,o.nd,?_⟩
 have key:∀ (cs':List (Option Addr)) (as':List (Option γ)) (n:Nat),(∀ i,cs'[i]? = cs[n+i]?)->Paired (CellR K G H) cs' as'->∀ m,m+n=j\/(j<n/\cs'.length<=m)->Paired (CellR K G (upd H q ho')) cs' (as'.set m (some a)):=by
  intro cs' as' n hs pr
  induction pr generalizing n with
  | nil=>intro m _;exact .nil
  | @cons c x cs2 as2 r t ih =>
   intro m hm';have hc:cs[n]? = some c:=by have:=hs 0;simpa using this.symm
   have hs2:∀ i,cs2[i]? = cs[n+1+i]?:=fun i=>by
    have:=hs (i+1);rw [List.getElem?_cons_succ] at this;rw [this]
    congr 1
    omega
   have other:n≠j->CellR K G (upd H q ho') c x:=fun hne=>by
    refine r.imp (.refl _) (fun _ _ g=>g) fun b u e hb=>?_;rw [At (fun z=>hne (o.nd n j q (by rw [hc,e,z]) hj))];exact hb
   cases m with
   | zero =>
    rcases hm' with hm' | ⟨_,hl⟩
    ·have hn:n=j:=by omega
     subst hn;rw [hj] at hc;cases hc;rw [List.set_cons_zero];refine .cons ?_ ?_
     ·cases x with
      | none=>exact r.elim
      | some x=>exact ⟨r.1,ho',AQ,hp⟩
     ·have hl:(as2.set as2.length (some a))=as2:=List.set_eq_of_length_le (qfB _);have:=ih (n+1) hs2 as2.length (.inr ⟨by omega,by rw [Paired.length t];exact qfB _⟩);rw [hl] at this;exact this
    ·rw [qgA] at hl;omega
   | succ m =>
    rw [List.set_cons_succ];rcases hm' with hm' | ⟨h1,hl⟩
    ·exact .cons (other (by omega)) (ih (n+1) hs2 m (.inl (by omega)))
    ·rw [qgA] at hl;exact .cons (other (by omega)) (ih (n+1) hs2 m (.inr ⟨by omega,by omega⟩))
 exact key cs as 0 (fun i=>by rw [Nat.zero_add]) o.p j (.inl (by omega))
theorem Ext.putC (x:Ext G0 H0 G H)(o:OwnC K H0 G H v p cs as){q:Addr}{ho:HO}(hq:some q∈cs):Ext G0 H0 G (upd H q ho):=x.put (o.c0 q hq).1 (o.cell hq).1
end
section
variable {K:FZ9}{σ:St}{G H G1 H1 G0 H0:Hp}{γ α β:Type}[Rp γ][RpC γ][Rp α][Rp β]{t1 t2 te ti tk:TE}{rest:TS}{D:Ends}{i:Nat}{v:V}{p:Addr}{cs:List (Option Addr)}
theorem NN {cap:List Nat}{wi:TI}{mi:Option (List α)}{ls:List α}{r:List (List β)}(ei:IW K wi σ G mi)(hm:mi=some ls)(hr:r=ls.map fun _=>([]:List β))(xt:Ext G0 H0 G H)
  (k:∀ p cs G2 H2,Ext G H G2 H2->OwnC K H0 G2 H2 (.ref p) p cs (r.map some)->rest D (σ.set i (some (.ref p))) H2):Cm (Fv (Me cap wi MG (tLst DE)) (CB i)) rest D σ H:=by
 subst hr;refine ei G (.refl G) ls hm H xt.gh _ fun J vs Ga Ha xa Y hz pr p hp=>?_;have hla:=Paired.length pr
 refine ⟨fun i m ys H2=>m=vs.length - i/\i<=vs.length/\∃ cs,ys=cs.map cv/\cs.length=i/\Ext Ga Ha Ga H2/\OwnC K H0 Ga H2 (.ref p) p cs ((List.replicate i ([]:List β)).map some),
  ⟨vs.length,by simp,qeC _,[],rfl,rfl,.own xa.gh hp,⟨rfl,xa.gh.free hp,AQ,qeC _,(xt.trans xa).hh.free hp,fun q h=>(nomatch h),fun i j q h=>by simp at h,.nil⟩⟩,?_⟩
 rintro i m ys H2 ⟨rfl,hi,cs,rfl,hc,x2,o2⟩;by_cases hlt:i<vs.length
 ·refine .inr ⟨Y.go i _ x2.gh hlt,fun ys' H'=>∃ cs,ys'=cs.map cv/\cs.length=i+1/\Ext Ga Ha Ga H'/\OwnC K H0 Ga H' (.ref p) p cs ((List.replicate (i+1) ([]:List β)).map some),
   fun ys' H' ⟨cs',h⟩=>⟨vs.length - (i+1),by omega,rfl,hlt,cs',h⟩,fun x H3 y=>?_⟩
  obtain ⟨rfl,hx⟩:=Y.yld i _ x H3 x2.gh hlt y;unfold MG
  try dsimp only
  rw [if_pos rfl];refine ⟨qeC _,fun q hq=>?_⟩;have hqp:q≠p:=fun z=>by rw [z,o2.h] at hq;cases hq
  refine ⟨by rw [At (Ne.symm hqp)];exact o2.h,by rw [qeA];omega,cs++[some q],by rw [qbB];rfl,by rw [qfA,qhA,hc],?_⟩;have x3:Ext Ga Ha Ga (upd H3 q (.lst [])):=x2.trans (.own x2.gh hq);have x4:Ext Ga Ha Ga (upd (upd H3 q (.lst [])) p (.lst (cs.map cv++[.ref q]))):=x3.put hp o2.g;have h0q:H0 q=none:=((xt.trans xa).hh.trans x2.hh).free hq;have old:∀ b,some b∈cs->b≠q:=fun b hb z=>(o2.cell hb).2 (by rw [z];exact hq);refine ⟨x4,rfl,o2.g,?_,?_,o2.h0,?_,?_,?_⟩
  ·rw [AQ,qbB];rfl
  ·rw [qfA,qhA];omega
  ·intro b hb;rcases qkA.mp hb with hb|hb
   ·exact o2.c0 b hb
   ·cases qpA.mp hb;exact ⟨h0q,hqp⟩
  ·intro a b c h1 h2;rw [List.getElem?_append] at h1 h2;split at h1<;>split at h2
   ·exact o2.nd a b c h1 h2
   ·have:c=q:=by
     have:=qtA h2;rw [qpA] at this;exact qjB this
    exact absurd this (old c (qtA h1))
   ·have:c=q:=by
     have:=qtA h1;rw [qpA] at this;exact qjB this
    exact absurd this (old c (qtA h2))
   ·have e1:=(quA.mp h1).1;have e2:=(quA.mp h2).1;rw [qhA] at e1 e2;omega
  ·rw [List.replicate_succ',qbB];refine Paired.app (pimp (fun c a hc r=>r.imp (.refl _) (fun _ _ g=>g) fun b u e hb=>?_) o2.p) (.cons ⟨xa.gh.free (x2.hh.free hq),.lst [],?_,[],rfl,qeC _,.nil⟩ .nil)
   ·rw [At hqp,AQ]
   ·subst e;rw [At (o2.c0 b hc).2,At (old b hc)];exact hb
 ·have e:i=vs.length:=by omega
  subst e
  have hr:List.replicate vs.length ([]:List β)=ls.map fun _=>([]:List β):=by
   rw [List.map_const',hla]
  rw [hr] at o2;exact .inl ⟨Y.stop _ x2.gh,k p cs Ga H2 (xa.trans x2) o2⟩
theorem sv_ownD {cap:List Nat}{wi:TI}{mi:Option (List α)}{ls:List α}{r:List (Option γ)}(ei:IW K wi σ G mi)(hm:mi=some ls)(hr:r=ls.map fun _=>(none:Option γ))(xt:Ext G0 H0 G H)
  (k:∀ p cs G2 H2,Ext G H G2 H2->OwnC K H0 G2 H2 (.ref p) p cs r->rest D (σ.set i (some (.ref p))) H2):Cm (Fv (Me cap wi MG (tC .non)) (CB i)) rest D σ H:=by
 subst hr;have e:=D6 (cap:=cap) (fe:=fun _=>some (none:Option γ)) ei fun x a G1 s r=>Eu
 have hmm:∀ l:List α,Cw (fun _=>some (none:Option γ)) l=some (l.map fun _=>(none:Option γ)):=by
  intro l
  induction l with
  | nil=>rfl
  | cons a l ih =>
   show ((Cw (fun _=>some (none:Option γ)) l).bind fun ys=>some (none::ys))=_;rw [ih]
   rfl
 refine e G (.refl G) (ls.map fun _=>(none:Option γ)) (by rw [hm];exact hmm ls) H xt.gh _ fun p vs G2 H2 x2 h0 hg hh hz hp=>?_
 have hv:vs=(List.replicate ls.length (none:Option Addr)).map cv:=by
  rw [List.map_replicate]
  have key:∀ (vs:List V) (l:List α),Paired (Rp.rel K G2) vs (l.map fun _=>(none:Option γ))->vs=List.replicate l.length (cv none):=by
   intro vs l
   induction l generalizing vs with
   | nil=>intro h;cases h;rfl
   | cons a l ih =>
    intro h;rw [qaB] at h
    cases h with
    | cons r t =>
     have r:_=V.non:=r;rw [r,ih _ t,qgA,List.replicate_succ]
     rfl
  exact key vs ls hp
 subst hv;refine k p (List.replicate ls.length none) G2 H2 x2 ⟨rfl,hg,hh,by rw [qeA] at hz;exact hz,xt.hh.free h0,?_,?_,?_⟩
 ·intro q hq;cases List.eq_of_mem_replicate hq
 ·intro a b q h1;cases List.eq_of_mem_replicate (qtA h1)
 ·rw [List.map_const'];generalize ls.length=n
  induction n with
  | zero=>exact .nil
  | succ n ih=>exact .cons trivial ih
def LP {α:Type}(as:List (List α))(k:Int)(a:α):Option (List (List α)):=(ixN as.length k).bind fun j=>as[j]?.bind fun l=>(E4 l a).bind fun l'=>some (as.set j l')
theorem atI_cell {ls:List γ}{j:Nat}{k:Int}{l:γ}(o:OwnC K H0 G H v p cs (ls.map some))(hj:ixN ls.length k=some j)(hl:ls[j]? = some l):∃ q ho,cs[j]? = some (some q)/\atI (cs.map cv) k=some (.ref q)/\G q=none/\H q=some ho/\RpC.P K G ho l:=by
 have hlen:=Paired.length o.p;rw [qeA] at hlen;obtain ⟨c,hc,r⟩:=Jr o.p (show (ls.map some)[j]? = some (some l) by rw [qzA,hl];rfl)
 cases c with
 | none=>exact r.elim
 | some q =>
  obtain ⟨g,ho,e,pp⟩:=r;refine ⟨q,ho,hc,?_,g,e,pp⟩;unfold atI;rw [qeA,hlen,hj];show (cs.map cv)[j]? = _;rw [qzA,hc]
  rfl
theorem Lo {ls ls':List (List α)}{m1:Option Int}{k1:Int}{m2:Option α}{a:α}(hσ:σ[i]? = some (some v))(o:OwnC K H0 G H v p cs (ls.map some))(e1:EV K t1 σ G m1)(h1:m1=some k1)(e2:EV K t2 σ G m2)(h2:m2=some a)(hs:LP ls k1 a=some ls')(xt:Ext G0 H0 G H)
  (k:∀ G2 H2 H3,Ext G H G2 H2->Ext G0 H0 G2 H3->OwnC K H0 G2 H3 v p cs (ls'.map some)->rest D σ H3):Cm (KY (tBM K "list" GQ (tOp (rAt K) (FP i) t1) (B5 t2 DE))) rest D σ H:=by
 obtain ⟨j,hj,hs⟩:=qaA.mp hs;obtain ⟨l,hl,hs⟩:=qaA.mp hs;obtain ⟨l',hl',hs⟩:=qaA.mp hs;cases hs;obtain ⟨hz,rfl⟩:=BZ hl';have ov:=o.v;subst ov;refine ⟨_,hσ,?_⟩;refine e1.run h1 xt.gh fun v1 G1 H1 x1 r1=>?_;cases r1;have o1:=o.ext x1;obtain ⟨q,ho,hc,hat,gq,hq,vs,rfl,z,pr⟩:=atI_cell o1 hj hl;refine .inl ⟨cs.map cv,.ref q,SqL.of o1.h,hat,?_⟩;refine ⟨.inl ⟨rfl,vs,SqL.of hq⟩,?_⟩;refine e2 G1 x1.gg a h2 H1 x1.gh _ fun w G2 H2 x2 r2=>?_;have o2:=o1.ext x2;have hlen:=Paired.length pr;refine ⟨q,vs,w,rfl,rfl,x2.hh _ _ hq,by omega,?_⟩;have hm:=qtA hc;have o3:=o2.cellput (ho:=.lst vs) (ho':=.lst (vs++[w])) (a:=l++[a]) hc ⟨vs++[w],rfl,by rw [qfA,qhA];omega,Paired.app (Paired.imp' (fun _ _ r=>Rp.mono x2.gg r) pr) (.cons r2 .nil)⟩;refine k G2 H2 _ (x1.trans x2) ((xt.trans (x1.trans x2)).putC o2 hm) ?_;rw [List.map_set];exact o3
theorem SU {as as':List (Option (Mp α))}{m1:Option Int}{k1:Int}(hσ:σ[i]? = some (some v))(o:OwnC K H0 G H v p cs as)(e1:EV K t1 σ G m1)(h1:m1=some k1)(hs:J7 as k1 (some (Mp.mk []))=some as')(xt:Ext G0 H0 G H)
  (k:∀ G2 H2 H3 cs',Ext G H G2 H2->Ext G0 H0 G2 H3->OwnC K H0 G2 H3 v p cs' as'->rest D σ H3):Cm (Fv Py (gSub (FP i) t1 Ql)) rest D σ H:=by
 obtain ⟨j,hj,hs⟩:=qaA.mp hs;cases hs;intro q hq;have ov:=o.v;subst ov;refine ⟨_,hσ,?_⟩;have x0:Ext G H G (upd H q (.dK [])):=.own xt.gh hq;refine e1 G (.refl G) k1 h1 _ x0.gh _ fun v1 G1 H1 x1 r1=>?_;cases r1;have x01:=x0.trans x1;have o1:=o.ext x01;have hq1:H1 q=some (.dK []):=x1.hh _ _ AQ;have gq1:G1 q=none:=x1.no q (xt.gh.free hq) (by rw [AQ];exact fun z=>nomatch z);have hqp:q≠p:=fun z=>by rw [z,o.h] at hq;cases hq
 have old:∀ b,some b∈cs->b≠q:=fun b hb z=>(o.cell hb).2 (by rw [z];exact hq);have hlen:=Paired.length o1.p
 have hjl:j<cs.length:=by
  obtain ⟨_,hh,_⟩:=Nh hj;omega
 refine ⟨p,cs.map cv,k1,j,rfl,rfl,o1.h,by rw [qeA,hlen];exact hj,?_⟩;have e:(cs.map cv).set j (.ref q)=(cs.set j (some q)).map cv:=by rw [List.map_set];rfl
 rw [e];refine k G1 H1 _ (cs.set j (some q)) x01 ((xt.trans x01).put o.h0 o1.g) ⟨rfl,o1.g,AQ,by rw [List.length_set];exact o1.z,o.h0,?_,?_,?_⟩
 ·intro b hb;rcases List.mem_or_eq_of_mem_set hb with hb|hb
  ·exact o.c0 b hb
  ·cases hb;exact ⟨xt.hh.free hq,hqp⟩
 ·intro a b c ha hb;rw [List.getElem?_set] at ha hb;by_cases h1:j=a<;>by_cases h2:j=b
  ·omega
  ·rw [if_pos h1,if_pos (by omega)] at ha;cases ha;rw [if_neg h2] at hb;exact absurd rfl (old _ (qtA hb))
  ·rw [if_pos h2,if_pos (by omega)] at hb;cases hb;rw [if_neg h1] at ha;exact absurd rfl (old _ (qtA ha))
  ·rw [if_neg h1] at ha;rw [if_neg h2] at hb;exact o.nd a b c ha hb
 ·have key:Paired (CellR K G1 (upd H1 p (.lst ((cs.set j (some q)).map cv)))) cs as:=pimp (fun c a hc r=>r.imp (.refl _) (fun _ _ g=>g) fun b u e hb=>by
    subst e;rw [At (o.c0 b hc).2]
    exact hb) o1.p
  have cell:CellR K G1 (upd H1 p (.lst ((cs.set j (some q)).map cv))) (some q) (some (Mp.mk []:Mp α)):=⟨gq1,.dK [],by rw [At hqp];exact hq1,[],rfl,.nil⟩;exact Paired.st cell j key
def RG {α:Type}(as:List (Option (Mp α)))(k m:Int)(b:α):Option (List (Option (Mp α))):=(ixN as.length k).bind fun j=>as[j]?.bind fun o=>o.bind fun d=>(OP d m b).bind fun d'=>some (as.set j (some d'))
theorem sv_putDA {as as':List (Option (Mp α))}{m1 m2:Option Int}{k1 k2:Int}{m:Option α}{b:α}(hσ:σ[i]? = some (some v))(o:OwnC K H0 G H v p cs as)(e:EV K te σ G m)(hm:m=some b)(e1:EV K t1 σ G m1)(h1:m1=some k1)(e2:EV K t2 σ G m2)(h2:m2=some k2)(hs:RG as k1 k2 b=some as')(xt:Ext G0 H0 G H)
  (k:∀ G2 H2 H3,Ext G H G2 H2->Ext G0 H0 G2 H3->OwnC K H0 G2 H3 v p cs as'->rest D σ H3):Cm (RQ (tOp (rAt K) (FP i) t1) t2 te) rest D σ H:=by
 obtain ⟨j,hj,hs⟩:=qaA.mp hs;obtain ⟨x,hx,hs⟩:=qaA.mp hs;obtain ⟨d,hd,hs⟩:=qaA.mp hs;obtain ⟨d',hd',hs⟩:=qaA.mp hs;cases hs;cases hd;obtain ⟨hz,rfl⟩:=BZ hd';have ov:=o.v;subst ov;refine e.run hm xt.gh fun w G1 H1 x1 r1=>?_;have o1:=o.ext x1;refine ⟨_,hσ,?_⟩;refine e1 G1 x1.gg k1 h1 H1 x1.gh _ fun v2 G2 H2 x2 r2=>?_;cases r2;have o2:=o1.ext x2;have hlen:=Paired.length o2.p;obtain ⟨c,hc,r⟩:=Jr o2.p hx
 cases c with
 | none=>exact r.elim
 | some q =>
  obtain ⟨g,ho,eq,kvs,rfl,pr⟩:=r;refine .inl ⟨cs.map cv,.ref q,SqL.of o2.h,?_,?_⟩
  ·unfold atI;rw [qeA,hlen,hj];show (cs.map cv)[j]? = _;rw [qzA,hc]
   rfl
  refine e2 G2 (x1.gg.trans x2.gg) k2 h2 H2 x2.gh _ fun v3 G3 H3 x3 r3=>?_;cases r3;have o3:=o2.ext x3;have hlp:=Paired.length pr;have hm:=qtA hc;refine ⟨q,_,rfl,.inl ⟨kvs,.inl k2,x3.hh _ _ eq,rfl,by omega,rfl⟩,?_⟩;have o4:=o3.cellput (ho:=.dK kvs) (ho':=.dK (Cg kvs (.inl k2) w)) (a:=Mp.mk (JU d.l k2 b)) hc ⟨_,rfl,Kb (Rp.mono (x2.gg.trans x3.gg) r1) (Paired.imp' (fun _ _ r=>⟨r.1,Rp.mono x3.gg r.2⟩) pr)⟩;exact k G3 H3 _ ((x1.trans x2).trans x3) ((xt.trans ((x1.trans x2).trans x3)).putC o3 hm) o4
theorem sv_ownFB {δ:Type}[Rp δ][Imm δ]{vs:List V}{b:List δ}{m:Option (List δ)}{as:List β}(o:Own K G H v p vs as)(e:FV K te σ (upd G p (.lst vs)) m)(hm:m=some b)(s:Same G H)(k:∀ q ws G2 H2,Ext G H G2 H2->H q=none->Own K G2 H2 (.ref q) q ws b->rest D (σ.set i (some (.ref q))) H2):Cm (Fv te (CB i)) rest D σ H:=by
 refine e _ (.refl _) b hm H (o.same s) _ fun l ys G2 H2 x h0 hg hh hz hpr=>?_;have gp:G2 p=some (.lst vs):=x.gg _ _ AQ
 have gl:L2.del G2 p l=none:=by
  unfold L2.del;split
  ·rfl
  ·exact hg
 exact k l ys _ H2 (x.del o.g) h0 ⟨rfl,gl,hh,hz,Paired.imp' (fun _ _ r=>Imm.del gp r) hpr⟩
theorem fv_ifx {tt:TT}{ba:Option Bool}{m1 m2:Option (List α)}(et:TV tt σ G ba)(ea:FV K t1 σ G m1)(eb:FV K t2 σ G m2):FV K (tIf tt t1 t2) σ G (ba.bind fun a=>cond a m1 m2):=by
 clear 7;obtain ⟨a,ha,hc⟩:=qaA.mp hc;refine et G1 s1 a ha H sH _ fun G2 H2 x2=>?_
 cases a with
 | true=>exact Bn (ea G2 (s1.trans x2.gg) c hc H2 x2.gh _ (FV.mono x2 k))
 | false=>exact Bm (eb G2 (s1.trans x2.gg) c hc H2 x2.gh _ (FV.mono x2 k))
theorem SD {j:Nat}{u:V}{p':Addr}{vs ws:List V}{as as' bs bs':List α}{a:α}(hσ:σ[i]? = some (some v))(hσ':σ[j]? = some (some u))(o:Own K G H v p vs as)(o':Own K G H u p' ws bs)(ne:p≠p')(hp:MI bs=some (a,bs'))(hs:E4 as a=some as')
  (k:∀ w,Own K G (upd (upd H p' (.lst ws.dropLast)) p (.lst (vs++[w]))) v p (vs++[w]) as'->Own K G (upd (upd H p' (.lst ws.dropLast)) p (.lst (vs++[w]))) u p' ws.dropLast bs'->rest D σ (upd (upd H p' (.lst ws.dropLast)) p (.lst (vs++[w])))) :
  Cm (KY (tBM K "list" GQ (FP i) (B5 (tBM0 K "list" rPop (FP j)) DE))) rest D σ H:=by
 obtain ⟨hz,rfl⟩:=BZ hs;have hlen:=Paired.length o.p;obtain ⟨rfl,og,oh,oz,op⟩:=o;obtain ⟨rfl,og',oh',oz',op'⟩:=o';obtain ⟨w,hw,r,pr⟩:=Paired.last op' hp;refine ⟨_,hσ,.inl ⟨rfl,_,SqL.of oh⟩,?_⟩;refine ⟨_,hσ',.inl ⟨rfl,_,SqL.of oh'⟩,p',ws,w,rfl,rfl,oh',hw,?_⟩;refine ⟨p,vs,w,rfl,rfl,by rw [At ne];exact oh,by omega,?_⟩;refine k w ⟨rfl,og,AQ,?_,Paired.app op (.cons r .nil)⟩ ⟨rfl,og',by rw [At (Ne.symm ne),AQ],?_,pr⟩
 ·rw [qfA,qhA];omega
 ·rw [List.length_dropLast];omega
end
section
variable {K:FZ9}{σ:St}{G H:Hp}{α:Type}[Rp α]{tk te ti td:TE}{rest:TS}{D:Ends}{i:Nat}
theorem sv_ownM1 {m1:Option Int}{k1:Int}{m:Option α}{a:α}{b:Mp α}(e1:EV K tk σ G m1)(h1:m1=some k1)(e:EV K te σ G m)(hm:m=some a)(hb:(some (Mp.mk [(k1,a)]):Option (Mp α))=some b)(s:Same G H)(k:∀ p kvs G2 H2,Ext G H G2 H2->H p=none->OwnM K G2 H2 (.ref p) p kvs b->rest D (σ.set i (some (.ref p))) H2) :
  Cm (Fv (tDisp [(tk,te)]) (CB i)) rest D σ H:=by
 cases hb;intro p hp;have x0:Ext G H G (upd H p (.dK [])):=.own s hp;refine e1 G (.refl G) k1 h1 _ x0.gh _ fun u G1 H1 x1 r1=>?_;cases r1;refine e G1 x1.gg a hm H1 x1.gh _ fun v G2 H2 x2 r2=>?_;have x3:=(x0.trans x1).trans x2;have hg:G2 p=none:=(x1.trans x2).no p (s.free hp) (by rw [AQ];exact fun z=>nomatch z);refine ⟨(x1.trans x2).hh _ _ AQ,[(Sum.inl k1,v)],rfl,by show 1<=15;decide,?_⟩;exact k p _ G2 _ (x3.put hp hg) hp ⟨rfl,hg,AQ,.cons ⟨rfl,r2⟩ .nil⟩
def hasM {α:Type}(l:List (Int × α))(k:Int):Bool:=l.any fun q=>decide (q.1=k)
theorem PH {G:Hp}{k:Int}{kvs:List (Key × V)}{l:List (Int × α)}(h:Paired (M9 K G) kvs l):(Cu kvs (.inl k)).isSome=hasM l k:=by
 unfold Cu hasM;rw [Option.isSome_map,List.isSome_find?,ID h]
theorem N0 {md:Option (Mp α)}{mi:Option Int}(ei:EV K ti σ G mi)(ed:EV K td σ G md):EV K (O5 ti td) σ G (mi.bind fun k=>md.bind fun d=>some (!hasM d.l k)):=by
 clear 7;obtain ⟨j,hj,hc⟩:=qaA.mp hc;obtain ⟨d,hd,hc⟩:=qaA.mp hc;cases hc;refine ei G1 s1 j hj H sH _ fun u G2 H2 x2 r2=>?_;refine ed G2 (s1.trans x2.gg) d hd H2 x2.gh _ fun v G3 H3 x3 r3=>?_;cases r2;obtain ⟨p,kvs,rfl,h,pr⟩:=r3;refine ⟨p,Cu kvs (.inl j),rfl,.inl ⟨kvs,.inl j,.inl (x3.gh _ _ h),rfl,rfl⟩,?_⟩;rw [PH pr];exact k _ _ _ (x2.trans x3) rfl
end
def Pg:V->List V->Hp->VK->Prop:=fun x vs H Q=>∃ l b xs zs,x = .ref l/\vs=[.ref b]/\H l=some (.lst xs)/\Rd H b (.lst zs)/\xs.length+zs.length<=sizeLine/\Q .non (upd H l (.lst (xs++zs)))
theorem LJ {X:Cx}:MtM X "list.extend" Pg:=by
 intro pins s σ H x vs v us Q I rx rv h;obtain ⟨l,b,xs,zs,rfl,rfl,hH,hB,hz,q⟩:=h;cases rx;obtain ⟨u,rfl,ru⟩:=rv.one;cases ru;obtain ⟨z,its,n,r,hl,e⟩:=I.lstM hH;obtain ⟨z2,its2,n2,r2,e2⟩:=hB.ok I.hok;have hl2:=r2.length;have hsz:its.toArray.size+its2.toArray.size<=sizeLine:=by rw [qvB,qvB];omega
 have hlong:¬ (!its.toArray.isEmpty && Builtin.List.listTooLong (its.toArray.size+its2.toArray.size))=true:=by
  rw [Ox hsz,Bool.and_false];exact quB
 refine call_meets F.slot_list_extend ⟨_,e,rfl⟩ F.entry_list_extend (F.args_list_extend_2 _ _)
  (AutoSeq1.list_extend_list_list_0 l its.toArray n b its2.toArray n2 hlong (by rw [qvB];omega) (by omega)) ⟨e,e2,?_⟩
 refine ⟨.non,_,I.lset (its':=its++its2) hH e (by simp) (r.append r2) ?_,rfl,q⟩;rw [qfA];omega
section
variable {K:FZ9}{σ:St}{G H:Hp}{α:Type}[Rp α]{te:TE}{rest:TS}{D:Ends}{i:Nat}
theorem LN {ml:Option (List α)}{as bs as':List α}{v:V}{p:Addr}{vs:List V}(hσ:σ[i]? = some (some v))(o:Own K G H v p vs as)(e:EV K te σ G ml)(hm:ml=some bs)(hp:extO as bs=some as')(s:Same G H)
  (k:∀ G2 H2 ws,Ext G H G2 H2->Own K G2 (upd H2 p (.lst (vs++ws))) v p (vs++ws) as'->rest D σ (upd H2 p (.lst (vs++ws)))):Cm (KY (tBM K "list" Pg (FP i) (B5 te DE))) rest D σ H:=by
 obtain ⟨hl,rfl⟩:=BZ hp;have hlen:=Paired.length o.p;obtain ⟨rfl,og,oh,oz,op⟩:=o;refine ⟨_,hσ,.inl ⟨rfl,_,SqL.of oh⟩,?_⟩;refine e.run hm s fun w G2 H2 x r=>?_;obtain ⟨q,ws,rfl,hh,hz,hpr⟩:=r;have hlw:=Paired.length hpr;refine ⟨p,q,vs,ws,rfl,rfl,x.hh _ _ oh,x.gh.rd hh,by omega,?_⟩;refine k G2 H2 ws x ⟨rfl,x.no p og (by rw [oh];exact fun z=>nomatch z),AQ,?_,Paired.app (Paired.imp' (fun _ _ r=>Rp.mono x.gg r) op) hpr⟩;rw [qfA];omega
theorem OwnM.same {v:V}{p:Addr}{kvs:List (Key × V)}{a:Mp α}(o:OwnM K G H v p kvs a)(s:Same G H):Same (upd G p (.dK kvs)) H:=fun b ho e=>by
 by_cases hb:b=p
 ·subst hb;rw [AQ] at e;cases e;exact o.h
 ·rw [At hb] at e;exact s _ _ e
theorem sv_ifM {tt:TT}{t u:TS}{v:V}{p:Addr}{kvs:List (Key × V)}{a:Mp α}{b:Bool}{m:Option Bool}(o:OwnM K G H v p kvs a)(e:TV tt σ (upd G p (.dK kvs)) m)(hm:m=some b)(s:Same G H)(k:∀ G2 H2,Ext G H G2 H2->if b=true then t { D with nx:=rest D } σ H2 else u { D with nx:=rest D } σ H2) :
  Cm (IH tt t u) rest D σ H:=e.run hm (o.same s) fun G2 H2 x=>k (del G2 p) H2 (x.del o.g)
end
abbrev O7 (K:FZ9):TG:=gTup K 3 (Ka (CB 0) (Ka (CB 1) (Ka (CB 2) gNil)))
theorem gat3 {K:FZ9}:GAt 3 (O7 K):=by
 intro v σ H Q h;obtain ⟨a,xs,e,hs,hl,v0,r,e1,v1,r',e2,v2,r'',e3,e4,q⟩:=h;refine ⟨a,xs,e,hs,hl,v0,r,e1,v1,r',e2,v2,r'',e3,e4,⟨by simp,fun j hj=>?_⟩,q⟩;rw [List.getElem?_set,if_neg (by omega),List.getElem?_set,if_neg (by omega),List.getElem?_set,if_neg (by omega)]
section
variable {X:Cx}
theorem pg3 {scope:Scope}{x y z:Str}{px py pz pt:Pos}{k0:Nat}{cn:List Str}{C:Addr}{s:Shared}{H:Hp}{fp:List Addr}(hc:X.calm=true)(hx:scope.names.lookup x=some .local)(hy:scope.names.lookup y=some .local)(hz:scope.names.lookup z=some .local)(hnd:([x,y,z]++cn).Nodup) :
  PG (Bk X ([x,y,z]++cn) scope C s H fp) (.Tuple [.Name x px,.Name y py,.Name z pz] k0 pt) (O7 X.K):=by
 have hlx:(relabel scope X.env).names.lookup x=some .local := lookup_relabel_local hx;have hly:(relabel scope X.env).names.lookup y=some .local := lookup_relabel_local hy;have hlz:(relabel scope X.env).names.lookup z=some .local := lookup_relabel_local hz;exact Ji rfl (CY (FT (i:=0) hnd rfl (.inl hlx) (.inr hlx)) (CY (FT (i:=1) hnd rfl (.inl hly) (.inr hly)) (CY (FT (i:=2) hnd rfl (.inl hlz) (.inr hlz)) Hr)))
end
section
variable {K:FZ9}{σ:St}{G:Hp}{α β γ δ:Type}[Rp α][Rp β][Rp γ][Rp δ]
theorem fv_compG {n:Nat}{cap:List Nat}{wi:TI}{g:TG}{tt:TT}{te:TE}{mi:Option (List α)}{fc:α->Option Bool}{fe:α->Option β}(ei:IW K wi σ G mi)
  (hb:∀ (x:V) (a:α) (G1 H1:Hp),Same G G1->Same G1 H1->Rp.rel K G1 x a->∃ σ2,(∀ Q:St->Hp->Prop,Q σ2 H1->g x (D4 n cap σ) H1 Q)/\TV tt σ2 G1 (fc a)/\EV K te σ2 G1 (fe a)) :
  FV K (Lp g n cap wi tt te) σ G (mi.bind fun as=>DA fc fe as):=by
 clear 7;obtain ⟨as,has,hc⟩:=qaA.mp hc;refine ei G1 s1 as has H sH _ fun J vs Ga Ha xa Y hz pr p hp=>?_;have hla:=Paired.length pr
 refine ⟨fun i m ys H2=>m=vs.length - i/\i<=vs.length/\∃ G2 bs cs,Ext Ga Ha G2 H2/\G2 p=none/\H2 p=some (.lst ys)/\ys.length<=i/\Paired (Rp.rel K G2) ys bs/\DA fc fe (as.drop i)=some cs/\c=bs++cs,
  ⟨vs.length,by simp,qeC _,Ga,[],c,.own xa.gh hp,xa.gh.free hp,AQ,qfB _,.nil,hc,rfl⟩,?_⟩
 rintro i m ys H2 ⟨rfl,hi,G2,bs,cs,x2,hg,hh,hy,hpr,hcs,rfl⟩;by_cases hlt:i<vs.length
 ·refine .inr ⟨Y.go i _ (x2.gg.trans x2.gh) hlt,fun ys' H'=>∃ G2 bs' cs',Ext Ga Ha G2 H'/\G2 p=none/\H' p=some (.lst ys')/\ys'.length<=i+1/\Paired (Rp.rel K G2) ys' bs'/\DA fc fe (as.drop (i+1))=some cs'/\bs++cs=bs'++cs',
   fun ys' H' ⟨G3,bs',cs',h⟩=>⟨vs.length - (i+1),by omega,rfl,hlt,G3,bs',cs',h⟩,fun x H3 y=>?_⟩
  obtain ⟨rfl,hx⟩:=Y.yld i _ x H3 (x2.gg.trans x2.gh) hlt y;obtain ⟨a,hai,ra⟩:=Paired.getR pr hx
  have hd:as.drop i=a::as.drop (i+1):=by
   obtain ⟨h1,h2⟩:=quA.mp hai;rw [List.drop_eq_getElem_cons h1,h2]
  rw [hd] at hcs;obtain ⟨b,hbb,hcs⟩:=qaA.mp hcs;obtain ⟨σ2,hun,B1,B2⟩:=hb x a G2 _ (s1.trans (xa.gg.trans x2.gg)) x2.gh (Rp.mono x2.gg ra);refine hun _ ?_;refine B1 G2 (.refl _) b hbb _ x2.gh _ fun G5 H5 x5=>?_;have hp5:H5 p=some (.lst ys):=x5.hh _ _ hh;have hg5:G5 p=none:=x5.no p hg (by rw [hh];exact fun z=>nomatch z)
  cases b with
  | false =>
   rw [if_neg quB];exact ⟨G5,bs,cs,x2.trans x5,hg5,hp5,by omega,Paired.imp' (fun _ _ r=>Rp.mono x5.gg r) hpr,hcs,rfl⟩
  | true =>
   rw [if_pos rfl];obtain ⟨z,hze,hcs⟩:=qaA.mp hcs;obtain ⟨cs',hcs',hcs⟩:=qaA.mp hcs;cases hcs;refine B2 G5 x5.gg z hze H5 x5.gh _ fun v G6 H6 x6 r6=>?_;have hp6:H6 p=some (.lst ys):=x6.hh _ _ hp5;have hg6:G6 p=none:=x6.no p hg5 (by rw [hp5];exact fun z=>nomatch z);refine ⟨hp6,by omega,G6,bs++[z],cs',((x2.trans x5).trans x6).put hp hg6,hg6,AQ,?_,Paired.app (Paired.imp' (fun _ _ r=>Rp.mono (x5.trans x6).gg r) hpr) (.cons r6 .nil),hcs',by simp⟩;rw [qfA,qhA];omega
 ·have e:i=vs.length:=by omega
  subst e;have hd:as.drop vs.length=[]:=List.drop_eq_nil_of_le (by omega);rw [hd] at hcs;cases hcs;refine .inl ⟨Y.stop _ (x2.gg.trans x2.gh),?_⟩;rw [qdB] at k;exact k p ys G2 H2 (xa.trans x2) (xa.hh.free hp) hg hh (by omega) hpr
theorem fv_mapG {n:Nat}{cap:List Nat}{wi:TI}{g:TG}{te:TE}{mi:Option (List α)}{fe:α->Option β}(ei:IW K wi σ G mi)
  (hb:∀ (x:V) (a:α) (G1 H1:Hp),Same G G1->Same G1 H1->Rp.rel K G1 x a->∃ σ2,(∀ Q:St->Hp->Prop,Q σ2 H1->g x (D4 n cap σ) H1 Q)/\EV K te σ2 G1 (fe a)) :
  FV K (Lp g n cap wi MG te) σ G (mi.bind fun as=>Cw fe as):=by
 have h:=fv_compG (tt:=MG) (fc:=fun _=>some true) ei fun x a G1 H1 s s' r=>let ⟨σ2,h1,h2⟩:=hb x a G1 H1 s s' r;⟨σ2,h1,tv_yes,h2⟩
 have e:(fun as=>DA (fun _=>some true) fe as)=fun as=>Cw fe as:=funext (Ig fe);rw [e] at h;exact h
theorem fv_map3 {cap:List Nat}{wi:TI}{te:TE}{mi:Option (List (T3 α β γ))}{fe:T3 α β γ->Option δ}(ei:IW K wi σ G mi)
  (hb:∀ (x y z:V) (a:T3 α β γ) (G1:Hp),Same G G1->Rp.rel K G1 x a.a->Rp.rel K G1 y a.b->Rp.rel K G1 z a.c->EV K te ((((D4 3 cap σ).set 0 (some x)).set 1 (some y)).set 2 (some z)) G1 (fe a)) :
  FV K (Lp (O7 K) 3 cap wi MG te) σ G (mi.bind fun as=>Cw fe as) :=
 fv_mapG ei fun x a G1 H1 s s' r=>by
  obtain ⟨t,v0,v1,v2,rfl,ht,r0,r1,r2⟩:=r;exact ⟨_,fun Q q=>⟨t,_,rfl,s'.tup ht,rfl,_,_,rfl,_,_,rfl,_,_,rfl,rfl,q⟩,hb v0 v1 v2 a G1 s r0 r1 r2⟩
end
section
variable {K:FZ9}{σ:St}{G H:Hp}{α:Type}[Rp α]{te ti ta:TE}{rest:TS}{D:Ends}{i:Nat}{v:V}{p:Addr}{vs:List V}{as:List α}{w:World}
instance tdT4 {α β γ δ:Type}[Rp α][ToD α][Rp β][ToD β][Rp γ][ToD γ][Rp δ][ToD δ]:ToD (T4 α β γ δ):=⟨fun p=>.tup [ToD.to p.a,ToD.to p.b,ToD.to p.c,ToD.to p.d],fun ⟨t,x,y,z,u,e,h,r1,r2,r3,r4⟩=>by
 subst e
 exact .tup h (by show 4<=sizeLine;decide) (JM (.cons (ToD.rel r1) (.cons (ToD.rel r2) (.cons (ToD.rel r3) (.cons (ToD.rel r4) .nil)))))⟩
instance tdOpt {α:Type}[Rp α][ToD α]:ToD (Option α):=⟨fun a=>match a with|none=>.non|some a=>ToD.to a,fun {K H v a} h=>by
 cases a with
 | none=>cases h;exact .non
 | some a=>exact ToD.rel (α:=α) h⟩
def rLenM:List V->Hp->VK->Prop:=fun vs H Q=>∃ p kvs,vs=[.ref p]/\Rd H p (.dK kvs)/\Q (.int (kvs.length:Int)) H
theorem SB {X:Cx}:Ek X (.builtin "len") rLenM:=by
 intro pins s σ H vs us Q I r h;obtain ⟨p,kvs,rfl,hH,q⟩:=h;obtain ⟨u,rfl,ru⟩:=IB r;cases ru;exact d_len I hH fun t s' I'=>⟨.int (kvs.length:Int),H,I',⟨t,rfl⟩,q⟩
theorem ev_lenM {la:Option (Mp α)}(ea:EV K ta σ G la):EV K (tCB rLenM (B5 ta DE)) σ G (la.bind fun a=>some ((a.l.length:Nat):Int)):=by
 clear 7;obtain ⟨b,hb,hc⟩:=qaA.mp hc;cases hc;clear 8 ea b hb;obtain ⟨p,kvs,rfl,h,pr⟩:=r2;refine ⟨p,kvs,rfl,.inl (x2.gh _ _ h),k _ _ _ x2 ?_⟩;rw [Dp pr]
 rfl
def LZ (x:Str):Option (List Str):=if x.length<4000/\(MD (Bg x)).length<64 then some (MQ (MD (Bg x))) else none
theorem Od {la:Option Str}(ea:EV K ta σ G la):FV K (tCB (Qp w) (B5 (tCB (rSetSg w) (B5 ta DE)) DE)) σ G (la.bind fun x=>LZ x):=by
 clear 7;obtain ⟨a,ha,hc⟩:=qaA.mp hc;obtain ⟨⟨h4,h64⟩,rfl⟩:=BZ hc;clear 8 ea a ha;obtain ⟨rfl,z⟩:=r2;refine ⟨a,rfl,h4,fun q hq=>?_⟩;rw [dedA_map inr_inj];refine ⟨q,MD (Bg a),rfl,AQ,h64,?_⟩;have x3:Ext G2 H2 G2 (upd H2 q (SetO w q ((MD (Bg a)).map Sum.inr))):=.own x2.gh hq;refine MX x3.gh ?_ (strs_rel _ fun y hy=>sign_len (mem_dedA.mp ((EE _).mem_iff.mp hy))) (FV.mono (x2.trans x3) k);rw [qeA,(EE _).length_eq,qoB];omega
end
def getR {α:Type}:List (Rk × α)->Rk->Option α
 | [],_=>none
 | q::l,k=>if q.1=k then some q.2 else getR l k
section
variable {K:FZ9}{σ:St}{G H:Hp}{α:Type}[Rp α]{ti td ta tb:TE}
theorem KL {G:Hp}{k:Rk}:∀ {kvs:List (List Key × V)}{l:List (Rk × α)},Paired (Gp K G) kvs l->Rp.rel K G ((Cu kvs (Cq k.tp)).getD .non) (getR l k)
 | _,_,.nil=>rfl
 | kv::kvs,q::l,.cons h t=>by
  obtain ⟨h1,h2⟩:=h;unfold getR;by_cases hj:q.1=k
  ·rw [if_pos hj,De (by rw [h1,hj])];exact h2
  ·rw [if_neg hj,DJ (fun z=>hj (by rw [h1] at z;exact FS z))];exact KL t
end
section
variable {prog:Program}{w:World}{A:Around}{E:Value->Shared->Prop}{s:Shared}{κ:Type}[DecidableEq κ]{knd:HeapKind prog w κ}
theorem OC {d a:Addr}{xs:List (κ × Addr × Value)}{k:κ}{v:Value}{Q:Value->Shared->Prop}(hu:knd.room A)(hkey:knd.is s.heap k a)(hm:s.heap.DictOfH knd d xs)
  (h1:∀ p,atKey xs k=some p->Q p.2 { s with toks:=s.toks+knd.draws k })
  (h2:atKey xs k=none->∀ h',h'.DictOfH knd d (storedH xs k a v)->Heap.SameBut d s.heap h'->Q v { s with heap:=h',toks:=s.toks+knd.draws k })
  (hsz:xs.length<=sizeLine):wpAny (model prog w) A (dictSetDefault d (.ref a) v) Q E s:=by
 obtain ⟨o,es,ep,ho,hc,hd,he,his,hn⟩:=hm;unfold dictSetDefault
 try with_reducible refine qdA ?_
 refine qbA (knd.pyHash hu hkey ?_);refine qbA (wpAny_dictFind_heap (s:={ s with toks:=s.toks+knd.draws k }) hu hkey ho hd he his hn ?_ ?_)
 ·intro hno;have hnot:k ∉ xs.map (·.1):=not_mem_keys_of_get hno;have hat:=atKey_none_of_get hno
  refine qbA (wpAny_rule (qbA (wpAny_updateDictKeys (hz:=by have e:=size_of_entries he;omega) (s:={ s with toks:=s.toks+knd.draws k }) ho hd (qcA (h2 hat _ ⟨_,_,ep+1,Heap.get?_update_self _ ho (Obj.isFreed_of_dict (Obj.data_mapDictKeys hd _)),
   hc.mapDictKeys _,Obj.data_mapDictKeys hd _,?_,?_,?_⟩ (Heap.SameBut.update ..))))))
  ·rw [storedH_new hat];simp [he,entryOfKey]
  ·rw [storedH_new hat];intro x hx;rcases qkA.mp hx with hx|hx
   ·exact knd.keeps (his x hx) ho hd (Heap.SameBut.update ..)
   ·simp only [qpA] at hx;subst hx;exact knd.keeps hkey ho hd (Heap.SameBut.update ..)
  ·rw [storedH_new hat];rw [qbB,qeB];refine ⟨hn,by simp,?_⟩;intro x hx y hy;simp only [qaB,List.map_nil,qpA] at hy;subst hy;exact fun e=>hnot (e ▸ hx)
 ·intro j p hj;have hat:=atKey_of_get hn hj;refine qbA (wpAny_dictEntries (s:={ s with toks:=s.toks+knd.draws k }) ho hd ?_);rw [entry_at he j,hj];exact qbA (wpAny_rule (qcA (h1 p hat)))
theorem Oz {d a:Addr}{xs:List (κ × Addr × Value)}{k:κ}{v:Value}{Q:Value->Shared->Prop}(hu:knd.room A.in1)(hds:(d == sysModules)=false)(hkey:knd.is s.heap k a)(hm:s.heap.DictOfH knd d xs)
  (h1:∀ p,atKey xs k=some p->Q p.2 { s with toks:=s.toks+knd.draws k })
  (h2:atKey xs k=none->∀ h',h'.DictOfH knd d (storedH xs k a v)->Heap.SameBut d s.heap h'->Q v { s with heap:=h',toks:=s.toks+knd.draws k })
  (hsz:xs.length<=sizeLine):wpAny (model prog w) A (call (.builtin "dict.setdefault") [.ref d,.ref a,v]) Q E s:=by
 refine qbC PySem.F.slot_dict_setdefault hm.typeIs PySem.F.entry_dict_setdefault ?_ (PySem.F.args_dict_setdefault_3 _ _ _);unfold Builtin.«dict.setdefault»;refine qbA ?_;unfold Builtin.Dict.keyAndDefault;refine qbA (wpAny_notOrdered_dict hm.typeIs ?_);show wpAny _ _ (pure (d,Value.ref a,some v)) _ _ s;refine qcA ?_;show wpAny _ _ (if (d == sysModules)=true then _ else (dictSetDefault d (.ref a) v >>= _)) _ _ s;rw [if_neg (by rw [hds];exact quB)];exact qbA (OC hu hkey hm (fun p hp=>qcA ⟨p.2,rfl,h1 p hp⟩) (fun hn h' hm' hs'=>qcA ⟨v,rfl,h2 hn h' hm' hs'⟩) hsz)
end
section
variable {X:Cx}{pins:List (Addr × Obj)}{σ:St}{H:Hp}{s:Shared}{a:Addr}{v:V}{r:Value}{A:Around}{E:Value->Shared->Prop}
theorem d_setdef {kvs:List (List Key × V)}{k:List Key}{b:Addr}{Q:Value->Shared->Prop}(hu:A.units+1<cLine)(I:Inv X pins σ H s)(e:H a=some (.dT kvs))(eb:H b=some (.tup (k.map kV)))(hl:kvs.length<sizeLine)(rv:RelV v r)
  (h1:∀ u w' s',Cu kvs k=some u->Inv X pins σ H s'->RelV u w'->Q w' s') (h2:Cu kvs k=none->∀ s',Inv X pins σ (upd H a (.dT (Cg kvs k v))) s'->Q r s') :
  wpAny (model X.prog X.w) A (call (.builtin "dict.setdefault") [.ref a,.ref b,r]) Q E s:=by
 obtain ⟨z,hd,xs,rel,dd⟩:=dt_of I.hok e;have hz:xs.length<=sizeLine:=by rw [<- Paired.length rel];exact z
 have hl':(Cg kvs k v).length<=sizeLine:=by have:=FZ kvs k v;omega
 refine Oz (tupleKind_room_in1 hu) hd (Ih I.hok eb) dd (fun p hp=>?_) (fun hn h' dd' hs=>?_) hz
 ·have:=rel.val k;rw [hp] at this
  cases hv:Cu kvs k with
  | none=>rw [hv] at this;exact this.elim
  | some u =>
   rw [hv] at this;exact h1 u p.2 _ hv (I.tok _) this
 ·have:=rel.val k;rw [hn] at this
  cases hv:Cu kvs k with
  | some u=>rw [hv] at this;exact this.elim
  | none =>
   refine h2 hv _ ?_;obtain ⟨q,es,ep,hq,g2,g3,g4,_,g5⟩:=dd';refine Kp I (by rw [e];exact True.intro) hs ⟨q,hq⟩ ⟨hl',hd,_,(rel.put k eb rv).keeps fun c ys ec=>?_,q,es,ep,hq,g2,g3,g4,g5⟩;rw [At (PL ec e (fun z=>nomatch z))];exact ec
end
def tSetD (td ty tx:TE):TE:=fun σ H Q=>td σ H fun x H1=>∃ a,x = .ref a/\IsD H1 a/\ty σ H1 fun y H2=>tx σ H2 fun z H3=>∃ kvs k b,H3 a=some (.dT kvs)/\y = .ref b/\H3 b=some (.tup (k.map kV))/\kvs.length<sizeLine /\
 (∀ u,Cu kvs k=some u->Q u H3)/\(Cu kvs k=none->Q z (upd H3 a (.dT (Cg kvs k z))))
section
variable {X:Cx}{o e f:Expr}{td ty tx:TE}{apos cpos:Pos}
theorem pe_setD (hu:X.A.units+1<cLine)(ho:PE X o td)(he:PE X e ty)(hf:PE X f tx)(m:M2 X o "setdefault" apos e f cpos):PE X (.Call (.Attribute o "setdefault" apos) [e,f] [] cpos) (tSetD td ty tx):=by
 intro pins s σ H Q I h;refine wpAny_Call_method m.base m.few m.line PySem.F.plainAttrs_dict PySem.F.slot_dict_setdefault PySem.F.type_dict_setdefault (thn (ho pins s σ H _ I h) fun u s1 ⟨x,H1,I1,rx,a,ex,d,q1⟩=>?_);subst ex;obtain rfl:u=Value.ref a:=rx;obtain ⟨t1,t2,_⟩:=isD_at I1 d;refine ⟨t1,t2,?_⟩;rw [m.trees]
 refine Calls.callWith_builtin rfl (Calls.evalArgs_plain (Calls.spliced_cons (thn (he pins s1 σ H1 _ I1 q1) fun iv s2 ⟨y,H2,I2,ry,q2⟩ =>
  Calls.spliced_cons (thn (hf pins s2 σ H2 _ I2 q2) fun fv s3 ⟨z,H3,I3,rz,kvs,k,b,e1,e2,e3,e4,q3,q4⟩=>Calls.spliced_nil ?_))))
 subst e2;obtain rfl:iv=Value.ref b:=ry;exact d_setdef hu I3 e1 e3 e4 rz (fun u w' s' hv I4 r4=>⟨u,H3,I4,r4,q3 u hv⟩) (fun hv s' I4=>⟨z,_,I4,rz,q4 hv⟩)
end
def ML {α:Type}(l:List (Rk × List α))(k:Rk)(a:α):List (Rk × List α):=if (l.any fun q=>decide (q.1=k))=true then l.map (fun q=>if q.1=k then (q.1,q.2++[a]) else q) else l++[(k,[a])]
def addLO {α:Type}(m:MpR (List α))(k:Rk)(a:α):Option (MpR (List α)):=if m.l.length<sizeLine/\(m.l.all fun q=>decide (q.2.length<sizeLine))=true then some ⟨ML m.l k a⟩ else none
def RelW (K:FZ9){α:Type}[Rp α](H0 G H:Hp)(kv:List Key × V)(q:Rk × List α):Prop:=kv.1=Cq q.1.tp/\∃ l vs,kv.2 = .ref l/\H0 l=none/\Own K G H (.ref l) l vs q.2
structure OwnDL (K:FZ9){α:Type}[Rp α](H0 G H:Hp)(p:Addr)(kvs:List (List Key × V))(a:MpR (List α)):Prop where
 g:G p=none
 n:H0 p=none
 h:H p=some (.dT kvs)
 r:Paired (RelW K H0 G H) kvs a.l
 d:(kvs.map (·.2)).Nodup
 e:(kvs.map (·.1)).Nodup
section
variable {K:FZ9}{σ:St}{G H G1 H1 G0 H0:Hp}{α:Type}[Rp α]{ti tz tr:TE}{rest:TS}{D:Ends}{i:Nat}{a:MpR (List α)}{p q:Addr}{kvs:List (List Key × V)}
theorem RelW.ext {kv:List Key × V}{b:Rk × List α}(x:Ext G H G1 H1)(r:RelW K H0 G H kv b):RelW K H0 G1 H1 kv b:=by
 obtain ⟨h1,l,vs,h2,h3,o⟩:=r;exact ⟨h1,l,vs,h2,h3,o.ext x⟩
theorem OwnDL.ext (o:OwnDL K H0 G H p kvs a)(x:Ext G H G1 H1):OwnDL K H0 G1 H1 p kvs a :=
 ⟨x.no p o.g (by rw [o.h];exact fun z=>nomatch z),o.n,x.hh _ _ o.h,Paired.imp' (fun _ _ r=>r.ext x) o.r,o.d,o.e⟩
theorem RelW.put {kv:List Key × V}{b:Rk × List α}{ho:HO}(h:kv.2 ≠ .ref q)(r:RelW K H0 G H kv b):RelW K H0 G (upd H q ho) kv b:=by
 obtain ⟨h1,l,vs,h2,h3,o⟩:=r;exact ⟨h1,l,vs,h2,h3,o.put fun z=>h (by rw [h2,z])⟩
theorem JC {ho:HO}:∀ {kvs:List (List Key × V)}{l:List (Rk × List α)},(∀ kv∈kvs,kv.2 ≠ .ref q)->Paired (RelW K H0 G H) kvs l->Paired (RelW K H0 G (upd H q ho)) kvs l
 | _,_,_,.nil=>.nil
 | kv::kvs,b::l,h,.cons r t=>.cons (r.put (h kv (qqA ..))) (JC (fun x hx=>h x (qrA _ hx)) t)
theorem PM:∀ {kvs:List (List Key × V)}{k:List Key}{u:V},Cu kvs k=some u->∃ kv∈kvs,kv.1=k/\kv.2=u
 | [],_,_,h=>nomatch h
 | kv::kvs,k,u,h=>by
  by_cases e:kv.1=k
  ·rw [De e] at h;exact ⟨kv,qqA ..,e,qjB h⟩
  ·rw [DJ e] at h;obtain ⟨x,hx,q⟩:=PM h;exact ⟨x,qrA _ hx,q⟩
theorem Ln {k:Rk}:∀ {kvs:List (List Key × V)}{l:List (Rk × List α)},Paired (RelW K H0 G H) kvs l->(Cu kvs (Cq k.tp)).isSome=(l.any fun q=>decide (q.1=k))
 | _,_,.nil=>rfl
 | kv::kvs,b::l,.cons r t=>by
  rw [List.any_cons];by_cases e:b.1=k
  ·rw [De (by rw [r.1,e]),decide_eq_true e]
   rfl
  ·rw [DJ (fun z=>e (by rw [r.1] at z;exact FS z)),decide_eq_false e,Ln t]
   rfl
theorem Ov {k:Rk}{u:V}:∀ {kvs:List (List Key × V)}{l:List (Rk × List α)},Paired (RelW K H0 G H) kvs l->Cu kvs (Cq k.tp)=some u->∃ t vs b,u = .ref t/\H0 t=none/\(k,b)∈l/\Own K G H (.ref t) t vs b
 | _,_,.nil,h=>nomatch h
 | kv::kvs,b::l,.cons r t,h=>by
  by_cases e:b.1=k
  ·rw [De (by rw [r.1,e])] at h;obtain ⟨_,t,vs,h2,h3,o⟩:=r;refine ⟨t,vs,b.2,by rw [<- qjB h,h2],h3,?_,o⟩;rw [<- e];exact qqA ..
  ·rw [DJ (fun z=>e (by rw [r.1] at z;exact FS z))] at h;obtain ⟨t',vs,b',h1,h2,h3,h4⟩:=Ov t h;exact ⟨t',vs,b',h1,h2,qrA _ h3,h4⟩
theorem KH {k:Rk}{c:α}:∀ {l:List (Rk × List α)},(∀ q∈l,q.1≠k)->l.map (fun q=>if q.1=k then (q.1,q.2++[c]) else q)=l
 | [],_=>rfl
 | b::l,h=>by
  rw [qaB,if_neg (h b (qqA ..)),KH fun q hq=>h q (qrA _ hq)]
theorem MO:∀ {kvs:List (List Key × V)}{l:List (Rk × List α)},Paired (RelW K H0 G H) kvs l->∀ q∈l,Cq q.1.tp∈kvs.map (·.1)
 | _,_,.nil,q,h=>nomatch h
 | kv::kvs,b::l,.cons r t,q,h=>by
  rcases qmA.mp h with e|h
  ·subst e;rw [<- r.1];exact qqA ..
  ·exact qrA _ (MO t q h)
theorem OF {k:Rk}{c:α}{t:Addr}{vs:List V}{w:V}(hv:H t=some (.lst vs))(hz:vs.length<sizeLine)(rw_:Rp.rel K G w c):∀ {kvs:List (List Key × V)}{l:List (Rk × List α)},Paired (RelW K H0 G H) kvs l->(kvs.map (·.2)).Nodup->(kvs.map (·.1)).Nodup->Cu kvs (Cq k.tp)=some (.ref t) ->
  Paired (RelW K H0 G (upd H t (.lst (vs++[w])))) kvs (l.map fun q=>if q.1=k then (q.1,q.2++[c]) else q)
 | _,_,.nil,_,_,h=>nomatch h
 | kv::kvs,b::l,.cons r tl,nd,ne,h=>by
  rw [qaB,List.nodup_cons] at nd ne;rw [qaB];by_cases e:b.1=k
  ·have ek:kv.1=Cq k.tp:=by rw [r.1,e]
   rw [De ek] at h;have h2:=qjB h;rw [if_pos e,KH fun q hq hqk=>ne.1 (by rw [ek,<- hqk];exact MO tl q hq)];refine .cons ?_ (JC (fun x hx z=>nd.1 (by rw [h2,<- z];exact qnA.mpr ⟨x,hx,rfl⟩)) tl);obtain ⟨h1,t',vs',e2,h3,o⟩:=r;rw [h2] at e2;cases e2
   have ev:vs'=vs:=by
    have:=o.h;rw [hv] at this;cases this
    rfl
   subst ev;refine ⟨h1,t,vs'++[w],h2,h3,rfl,o.g,AQ,?_,Paired.app o.p (.cons rw_ .nil)⟩;rw [qfA,qhA];omega
  ·rw [DJ (fun z=>e (by rw [r.1] at z;exact FS z))] at h;rw [if_neg e];obtain ⟨x,hx,_,hx2⟩:=PM h;exact .cons (r.put fun z=>nd.1 (by rw [z,<- hx2];exact qnA.mpr ⟨x,hx,rfl⟩)) (OF hv hz rw_ tl nd.2 ne.2 h)
theorem OwnDL.new (s:Same G H)(h0:H0 p=none)(hp:H p=none):OwnDL K H0 G (upd H p (.dT [])) p [] (⟨[]⟩:MpR (List α)):=⟨s.free hp,h0,AQ,.nil,.nil,.nil⟩
theorem RW {c:α}{mr:Option α}{k':Rk}{mi:Option Rk}{a':MpR (List α)}(hσ:σ[i]? = some (some (.ref p)))(o:OwnDL K H0 G H p kvs a)(ei:EV K ti σ G mi)(hi:mi=some k')(ez:FV K tz σ G (some ([]:List α)))(er:EV K tr σ G mr)(hr:mr=some c)(ha:addLO a k' c=some a')(s:Same G H)(s0:Same H0 H)
  (k:∀ G2 H2 kvs2,Same G G2->(∀ G0,Ext G0 H0 G H->Ext G0 H0 G2 H2)->OwnDL K H0 G2 H2 p kvs2 a'->rest D σ H2) :
  Cm (KY (tBM K "list" GQ (tSetD (FP i) ti tz) (B5 tr DE))) rest D σ H:=by
 obtain ⟨⟨hl,hall⟩,rfl⟩:=BZ ha;refine ⟨_,hσ,p,rfl,.inr ⟨kvs,.inl o.h⟩,?_⟩;refine ei G (.refl G) k' hi H s _ fun y G2 H2 x2 r2=>?_;have o2:=o.ext x2;obtain ⟨b,rfl,hbk⟩:=IL r2;refine ez G2 x2.gg [] rfl H2 x2.gh _ fun q0 vs0 G3 H3 x3 hq0 gq0 hh0 z0 pr0=>?_;have o3:=o2.ext x3;have xx:=x2.trans x3;have ev0:vs0=[]:=by cases pr0;rfl
 subst ev0;have hlen:=Paired.length o.r
 have n0:H0 q0=none:=by
  cases e:H0 q0 with
  | none=>rfl
  | some ho =>
   have:=x2.hh _ _ (s0 _ _ e);rw [hq0] at this;exact nomatch this
 refine ⟨kvs,Cq k'.tp,b,o3.h,rfl,(x3.hh _ _ (x2.gh _ _ hbk)),by omega,fun u hu=>?_,fun hu=>?_⟩
 ·obtain ⟨t,vs,bs,rfl,n1,hm,ow⟩:=Ov o3.r hu;have hbz:bs.length<sizeLine:=of_decide_eq_true (List.all_eq_true.mp hall _ hm);have hvl:=Paired.length ow.p;refine ⟨.inl ⟨rfl,_,SqL.of ow.h⟩,?_⟩;refine er G3 xx.gg c hr H3 xx.gh _ fun w G4 H4 x4 r4=>?_;have o4:=o3.ext x4;have ow4:=ow.ext x4;refine ⟨t,vs,w,rfl,rfl,ow4.h,by omega,?_⟩;have hpt:p≠t:=PL o4.h ow4.h fun z=>nomatch z
  have hany:(a.l.any fun q=>decide (q.1=k'))=true:=by
   rw [<- Ln o3.r,hu]
   rfl
  refine k G4 _ kvs (xx.trans x4).gg (fun G0 xt=>(xt.trans (xx.trans x4)).put n1 ow4.g) ⟨o4.g,o4.n,by rw [At hpt];exact o4.h,?_,o4.d,o4.e⟩;show Paired _ kvs (ML a.l k' c);unfold ML;rw [if_pos hany];exact OF ow4.h (by omega) r4 o4.r o4.d o4.e hu
 ·have hany:¬ (a.l.any fun q=>decide (q.1=k'))=true:=by
   rw [<- Ln o3.r,hu];exact quB
  have hpq:p≠q0:=PL o3.h hh0 fun z=>nomatch z;have s4:Same G3 (upd H3 p (.dT (Cg kvs (Cq k'.tp) (.ref q0)))):=x3.gh.put o3.g;have hq4:upd H3 p (.dT (Cg kvs (Cq k'.tp) (.ref q0))) q0=some (.lst []):=by rw [At (Ne.symm hpq)];exact hh0
  refine ⟨.inl ⟨rfl,_,SqL.of hq4⟩,?_⟩;refine er G3 xx.gg c hr _ s4 _ fun w G4 H4 x4 r4=>?_;have gp4:G4 p=none:=x4.no p o3.g (by rw [AQ];exact fun z=>nomatch z);have gq4:G4 q0=none:=x4.no q0 gq0 (by rw [hq4];exact fun z=>nomatch z);refine ⟨q0,[],w,rfl,rfl,x4.hh _ _ hq4,by decide,?_⟩;have enew:Cg kvs (Cq k'.tp) (.ref q0)=kvs++[(Cq k'.tp,.ref q0)]:=putK_new _ hu
  have nk:Cq k'.tp ∉ kvs.map (·.1):=fun z=>by
   obtain ⟨kv,hkv,e⟩:=qnA.mp z;have:(kvs.any fun kv=>decide (kv.1=Cq k'.tp))=true:=List.any_eq_true.mpr ⟨kv,hkv,decide_eq_true e⟩
   have h2:(Cu kvs (Cq k'.tp)).isSome=true:=by
    unfold Cu;rw [Option.isSome_map,List.isSome_find?];exact this
   rw [hu] at h2;exact nomatch h2
  have old:∀ kv∈kvs,kv.2 ≠ .ref q0:=fun kv hkv z=>by
   have all:∀ {kvs:List (List Key × V)}{l:List (Rk × List α)},Paired (RelW K H0 G2 H2) kvs l->∀ kv∈kvs,∃ t vs,kv.2 = .ref t/\H2 t=some (.lst vs):=by
    intro kvs l pr
    induction pr with
    | nil=>intro kv h;exact nomatch h
    | @cons x b xs bs hx t ih =>
     intro kv h;rcases qmA.mp h with e|h
     ·subst e;obtain ⟨_,t,vs,h2,_,ow⟩:=hx;exact ⟨t,vs,h2,ow.h⟩
     ·exact ih kv h
   obtain ⟨t,vs,h1,h2⟩:=all o2.r kv hkv;rw [h1] at z;cases z;rw [hq0] at h2;exact nomatch h2
  have nq:V.ref q0 ∉ kvs.map (·.2):=fun z=>by
   obtain ⟨kv,hkv,e⟩:=qnA.mp z;exact old kv hkv e
  have r5:Paired (RelW K H0 G4 (upd H4 q0 (.lst ([]++[w])))) kvs a.l:=by
   have rp:Paired (RelW K H0 G3 (upd H3 p (.dT (Cg kvs (Cq k'.tp) (.ref q0))))) kvs a.l:=JC (fun kv hkv z=>by
    have all:∀ {kvs:List (List Key × V)}{l:List (Rk × List α)},Paired (RelW K H0 G3 H3) kvs l->∀ kv∈kvs,∃ t vs,kv.2 = .ref t/\H3 t=some (.lst vs):=by
     intro kvs l pr
     induction pr with
     | nil=>intro kv h;exact nomatch h
     | @cons x b xs bs hx t ih =>
      intro kv h;rcases qmA.mp h with e|h
      ·subst e;obtain ⟨_,t,vs,h2,_,ow⟩:=hx;exact ⟨t,vs,h2,ow.h⟩
      ·exact ih kv h
    obtain ⟨t,vs,h1,h2⟩:=all o3.r kv hkv;rw [h1] at z;cases z;rw [o3.h] at h2
    exact nomatch h2) o3.r
   exact JC old (Paired.imp' (fun _ _ r=>r.ext x4) rp)
  refine k G4 _ (kvs++[(Cq k'.tp,.ref q0)]) (xx.gg.trans x4.gg) (fun G0 xt=>((((xt.trans xx).put (o:=.dT (Cg kvs (Cq k'.tp) (.ref q0))) o.n o3.g).trans x4).put n0 gq4)) ⟨gp4,o.n,?_,?_,?_,?_⟩
  ·rw [At hpq,<- enew];exact x4.hh _ _ AQ
  ·show Paired _ _ (ML a.l k' c);unfold ML;rw [if_neg hany];exact Paired.app r5 (.cons ⟨rfl,q0,[]++[w],rfl,n0,rfl,gq4,AQ,(show 1<=sizeLine by decide),.cons r4 .nil⟩ .nil)
  ·rw [qbB,qeB];refine ⟨o.d,by simp,fun x hx y hy e=>?_⟩;rw [qaB,List.map_nil,qpA] at hy;have hy:y=V.ref q0:=hy;exact nq (by rw [<- hy,<- e];exact hx)
  ·rw [qbB,qeB];refine ⟨o.e,by simp,fun x hx y hy e=>?_⟩;rw [qaB,List.map_nil,qpA] at hy;have hy:y=Cq k'.tp:=hy;exact nk (by rw [<- hy,<- e];exact hx)
def tellD (G H:Hp)(p:Addr)(kvs:List (List Key × V)):Hp:=fun b=>if b=p\/V.ref b∈kvs.map (·.2) then H b else G b
theorem NR:∀ {kvs:List (List Key × V)}{l:List (Rk × List α)},Paired (RelW K H0 G H) kvs l->∀ b:Addr,V.ref b∈kvs.map (·.2)->G b=none/\H0 b=none/\∃ vs,H b=some (.lst vs)
 | _,_,.nil,b,h=>nomatch h
 | kv::kvs,q::l,.cons r t,b,h=>by
  rcases qmA.mp h with e|h
  ·obtain ⟨_,t,vs,h2,h3,ow⟩:=r;have e:V.ref b=kv.2:=e;rw [h2] at e;cases e;exact ⟨ow.g,h3,vs,ow.h⟩
  ·exact NR t b h
theorem OwnDL.sameT (o:OwnDL K H0 G H p kvs a):Same G (tellD G H p kvs):=fun b ho e=>by
 unfold tellD;rw [if_neg]
 ·exact e
 ·rintro (rfl|h)
  ·rw [o.g] at e;exact nomatch e
  ·rw [(NR o.r b h).1] at e;exact nomatch e
theorem OwnDL.frz (o:OwnDL K H0 G H p kvs a)(x:Ext G0 H0 G H):Ext G0 H0 (tellD G H p kvs) H :=
 ⟨x.gg.trans o.sameT,fun b ho e=>by
  unfold tellD at e;split at e
  ·exact e
  ·exact x.gh b ho e,x.hh,fun b h1 h2=>by
  unfold tellD;rw [if_neg]
  ·exact x.no b h1 h2
  ·rintro (rfl|h)
   ·exact h2 o.n
   ·exact h2 (NR o.r b h).2.1⟩
theorem OwnDL.tell (o:OwnDL K H0 G H p kvs a):Rp.rel K (tellD G H p kvs) (.ref p) a:=by
 have st:=o.sameT
 have hp:tellD G H p kvs p=some (.dT kvs):=by
  unfold tellD;rw [if_pos (.inl rfl)];exact o.h
 refine ⟨p,kvs,rfl,hp,?_⟩
 have all:∀ {ks:List (List Key × V)}{l:List (Rk × List α)},(∀ kv∈ks,kv.2∈kvs.map (·.2))->Paired (RelW K H0 G H) ks l->Paired (Gp K (tellD G H p kvs)) ks l:=by
  intro ks l hk pr
  induction pr with
  | nil=>exact .nil
  | @cons x b xs bs hx t ih =>
   refine .cons ?_ (ih fun kv h=>hk kv (qrA _ h));obtain ⟨h1,t,vs,h2,_,ow⟩:=hx;refine ⟨h1,t,vs,h2,.inl ?_,ow.z,Paired.imp' (fun _ _ r=>Rp.mono st r) ow.p⟩;unfold tellD;rw [if_pos (.inr (by rw [<- h2];exact hk x (qqA ..)))];exact ow.h
 exact all (fun kv h=>qnA.mpr ⟨kv,h,rfl⟩) o.r
end
theorem sv_ownDL {K:FZ9}{σ:St}{G H H0:Hp}{α:Type}[Rp α]{rest:TS}{D:Ends}{i:Nat}{b:MpR (List α)}(hm:(some (MpR.mk []):Option (MpR (List α)))=some b)(s:Same G H)(s0:Same H0 H)(k:∀ p G2 H2,Ext G H G2 H2->H p=none->OwnDL K H0 G2 H2 p [] b->rest D (σ.set i (some (.ref p))) H2):Cm (Fv Nq (CB i)) rest D σ H:=by
 cases hm;exact fun p hp=>k p G _ (.own s hp) hp (OwnDL.new s (s0.free hp) hp)
theorem sv_retDL {K:FZ9}{σ:St}{G H H0 G0:Hp}{α:Type}[Rp α]{rest:TS}{D:Ends}{i:Nat}{p:Addr}{kvs:List (List Key × V)}{a:MpR (List α)}(hσ:σ[i]? = some (some (.ref p)))(o:OwnDL K H0 G H p kvs a)(x:Ext G0 H0 G H)(k:∀ G2,Ext G0 H0 G2 H->Rp.rel K G2 (.ref p) a->D.rt (.ref p) H):Cm (tRet (FP i)) rest D σ H :=
 ⟨_,hσ,k _ (o.frz x) o.tell⟩
section
variable {K:FZ9}{σ:St}{G H G1 H1 G0 H0:Hp}{α β γ δ:Type}[Rp α][Rp β][Rp γ][Rp δ]{ta td ti tx:TE}
theorem JV {kvs:List (List Key × V)}{k:Rk}:∀ {l:List (Rk × α)},Paired (Gp K G) kvs l->∀ a,getR l k=some a->∃ v,Cu kvs (Cq k.tp)=some v/\Rp.rel K G v a:=by
 intro l pr
 induction pr with
 | nil=>intro a h;exact nomatch h
 | @cons kv q kvs l r t ih =>
  intro a h;unfold getR at h;by_cases e:q.1=k
  ·rw [if_pos e] at h;cases h;exact ⟨kv.2,De (by rw [r.1,e]),r.2⟩
  ·rw [if_neg e] at h;obtain ⟨v,h1,h2⟩:=ih a h;exact ⟨v,by rw [DJ (fun z=>e (by rw [r.1] at z;exact FS z))];exact h1,h2⟩
theorem O1 {kvs:List (List Key × V)}{k:Rk}:∀ {l:List (Rk × α)},Paired (Gp K G) kvs l->getR l k=none->Cu kvs (Cq k.tp)=none:=by
 intro l pr
 induction pr with
 | nil=>intro h;rfl
 | @cons kv q kvs l r t ih =>
  intro h;unfold getR at h;by_cases e:q.1=k
  ·rw [if_pos e] at h;exact nomatch h
  ·rw [if_neg e] at h;rw [DJ (fun z=>e (by rw [r.1] at z;exact FS z))];exact ih h
theorem ev_getRD {md:Option (MpR α)}{mi:Option Rk}{mx:Option α}(ed:EV K td σ G md)(ei:EV K ti σ G mi)(ex:EV K tx σ G mx):EV K (QB td ti tx) σ G (md.bind fun d=>mi.bind fun k=>mx.bind fun x=>some ((getR d.l k).getD x)):=by
 clear 7;obtain ⟨d,hd,hc⟩:=qaA.mp hc;obtain ⟨j,hj,hc⟩:=qaA.mp hc;obtain ⟨x,hx,hc⟩:=qaA.mp hc;cases hc;clear 8 ed d hd;obtain ⟨p,kvs,rfl,h,pr⟩:=r2;refine ⟨p,rfl,.inr ⟨kvs,.inl (x2.gh _ _ h)⟩,?_⟩;refine ei G2 (s1.trans x2.gg) j hj H2 x2.gh _ fun u G3 H3 x3 r3=>?_;have y3:=x2.trans x3;refine ex G3 (s1.trans y3.gg) x hx H3 x3.gh _ fun z G4 H4 x4 r4=>?_;have y4:=y3.trans x4;obtain ⟨t,rfl,ht⟩:=IL (Rp.mono x4.gg r3);have pr4:Paired (Gp K G4) kvs d.l:=Paired.imp' (fun _ _ r=>⟨r.1,Rp.mono (x3.trans x4).gg r.2⟩) pr;refine ⟨Cu kvs (Cq j.tp),DGet.t (x4.gh _ _ ((x3.trans x4).gg _ _ h)) (x4.gh _ _ ht),k _ _ _ y4 ?_⟩
 cases hg:getR d.l j with
 | none =>
  rw [O1 pr4 hg];exact r4
 | some b =>
  obtain ⟨w,h1,h2⟩:=JV pr4 b hg;rw [h1];exact h2
end
def Dk:D->Option Int
 | .int i=>some i
 | _=>none
section
variable {K:FZ9}{σ:St}{G H:Hp}{α β γ δ:Type}[Rp α][Rp β][Rp γ][Rp δ]{ta te:TE}
theorem C1 {md:Option D}(e:EV K te σ G md):EV K te σ G (md.bind fun d=>Dk d):=by
 clear 7;obtain ⟨d,hd,hc⟩:=qaA.mp hc;refine e G1 s1 d hd H sH Q fun v G2 H2 x r=>k v G2 H2 x ?_
 cases d with
 | int i =>
  have e:=qjB (show some i=some c from hc);subst e;cases (show RelD K G2 v (.int i) from r);exact rfl
 | _=>exact nomatch hc
theorem nn_t3 {v:V}{a:T3 α β γ}(h:Rp.rel K G v a):v ≠ .non:=by obtain ⟨_,_,_,_,rfl,_⟩:=h;exact fun z=>nomatch z
theorem Qm {ma:Option (T3 α β γ)}(ea:EV K ta σ G ma):EV K (tSl (rSlA K) ta Kq (ON (tC (.int 2)))) σ G (ma.bind fun a=>some (a.a,a.b)):=by
 clear 7;obtain ⟨a,ha,hc⟩:=qaA.mp hc;cases hc;clear 8 ea a ha;obtain ⟨t,x,y,z,rfl,ht,r1,r2,r3⟩:=r2;refine ⟨2,rfl,t,_,rfl,x2.gh.tup ht,fun hw=>absurd hw.2 (by show ¬ HT.sIx 3 3 (some 2)=3;decide),fun hw q hq=>?_⟩;have hg:=Same.free x2.gh hq;exact k _ _ _ (x2.trans (.new x2.gh hq)) ⟨q,x,y,rfl,.inl (.inl AQ),Rp.mono (Same.new hg) r1,Rp.mono (Same.new hg) r2⟩
def slD2:D->Option Rk
 | .tup (.int i::.int j::_::_)=>some ⟨[.i i,.i j]⟩
 | _=>none
theorem ev_slD2 {md:Option D}(ea:EV K ta σ G md):EV K (tSl (rSlA K) ta Kq (ON (tC (.int 2)))) σ G (md.bind fun d=>slD2 d):=by
 clear 7;obtain ⟨d,hd,hc⟩:=qaA.mp hc;unfold slD2 at hc;split at hc
 ·cases hc;rename_i i j e l;clear 8 ea _ hd
  cases (show RelD K G2 v _ from r2) with
  | @tup t xs _ ht z r =>
   cases r with
   | cons h1 r =>
    cases r with
    | cons h2 r =>
     cases r with
     | @cons x3 _ xs3 _ h3 r =>
      cases h1;cases h2;refine ⟨2,rfl,t,_,rfl,x2.gh.tup ht,fun hw=>absurd hw.2 ?_,fun hw q hq=>?_⟩
      ·show ¬ HT.sIx (xs3.length+1+1+1) _ (some 2)=_;unfold HT.sIx;simp only [qgA];split<;>omega
      ·have ec:Ki (V.int i::V.int j::x3::xs3) none (some 2)=[.int i,.int j]:=by
        unfold Ki;have e1:HT.sIx (V.int i::V.int j::x3::xs3).length 0 none=0:=rfl
        have e2:HT.sIx (V.int i::V.int j::x3::xs3).length (V.int i::V.int j::x3::xs3).length (some 2)=2:=by
         rw [show (2:Int)=((2:Nat):Int) from rfl,HT.sIx_nat];show min 2 (xs3.length+1+1+1)=2;omega
        rw [e1,e2]
        rfl
       rw [ec];exact k _ _ _ (x2.trans (.new x2.gh hq)) ⟨q,_,rfl,AQ,(show 2<=sizeLine by decide),.cons rfl (.cons rfl .nil)⟩
 ·exact nomatch hc
theorem ev_inR {td ti:TE}{md:Option (MpR α)}{mi:Option Rk}(ei:EV K ti σ G mi)(ed:EV K td σ G md):EV K (tDIn ti td) σ G (mi.bind fun k=>md.bind fun d=>some (Le d.l k)):=by
 clear 7;obtain ⟨j,hj,hc⟩:=qaA.mp hc;obtain ⟨d,hd,hc⟩:=qaA.mp hc;cases hc;refine ei G1 s1 j hj H sH _ fun u G2 H2 x2 r2=>?_;refine ed G2 (s1.trans x2.gg) d hd H2 x2.gh _ fun v G3 H3 x3 r3=>?_;obtain ⟨t,rfl,ht⟩:=IL (Rp.mono x3.gg r2);obtain ⟨p,kvs,rfl,h,pr⟩:=r3;refine ⟨p,Cu kvs (Cq j.tp),rfl,DGet.t (x3.gh _ _ h) (x3.gh _ _ ht),?_⟩;rw [KN pr];exact k _ _ _ (x2.trans x3) rfl
end
section
variable {prog:Program}{w:World}{A:Around}{E:Value->Shared->Prop}{s:Shared}{it d:Addr}{i n ep:Nat}{od:Obj}{es:Array DictEntry}
theorem iterT {Q:Value->Shared->Prop}(hd:(d == sysModules)=false)(hod:s.heap.get? d=some od)(hx:od.ExactDict)(hdd:od.data = .dict es ep)(hT:s.TypeIs (.ref d) "dict")
  (hQ:Q (.ref s.heap.objs.size) { s with heap:=s.heap.push { cls:=.type "dict_keyiterator",data:=.fields #[.ref d,.int 0 0,.int es.size 0,.int ep 0] } }):wpAny (model prog w) A (pyIter (.ref d)) Q E s:=by
 refine wpAny_pyIter_slot hT F.slot_dict_iter (qbC F.slot_dict_iter hT F.entry_dict_iter ?_ (F.args_dict_iter_1 _));unfold Builtin.«dict.__iter__» Builtin.Dict.dictSlotNone Builtin.Dict.showsAll;refine qbA (qbA (wpAny_notOrdered_dict hT (qcA (α:=Value) (a:=.ref d) ?_)));refine qbA (qcA (α:=Addr) (a:=d) ?_);rw [if_neg (fun z=>quB (hd.symm.trans z))];refine qbA (qcA (qbA (wpAny_dictEntries hod hdd (qbA (wpAny_dictEpoch hod hdd (qbA (wpAny_newObj_type (qcA ?_))))))));exact ⟨_,rfl,"dict_keyiterator",_,⟨_,qnB _ rfl,rfl⟩,F.slot_dict_keyiterator_next.lookup,hQ⟩
theorem nextT {Q:Option Value->Shared->Prop}(hit:s.heap.IsKeyIter it d i es.size ep)(hod:s.heap.get? d=some od)(hdd:od.data = .dict es ep)(hlt:i<es.size)
  (hQ:∀ h',h'.IsKeyIter it d (i+1) es.size ep->Heap.SameBut it s.heap h'->Q (some es[i].key) { s with heap:=h' }):wpAny (model prog w) A (pyNext (.ref it)) Q E s:=by
 obtain ⟨o,ho,hc,hd⟩:=id hit;have T:=hit.typeIs;unfold pyNext;refine qbA (wpAny_attempt (wpAny_callSpecial?_slot (name:=Str.ofString "__next__") T F.slot_dict_keyiterator_next (qbC F.slot_dict_keyiterator_next T F.entry_dict_keyiterator_next ?_ (F.args_dict_keyiterator_next_1 _))));refine qbA (qcA (qbA (qbA (qbA (wpAny_typeNameOfWhole_keyiter T (qcA (qbA (wpAny_fieldsOf ho hd ?_))))))));have no:∀ {b:Bool},b=false->¬ b=true:=fun e z=>quB (e.symm.trans z);rw [show Builtin.Dict_items.ownsTuple "dict_keyiterator" = false by decide]
 change wpAny _ _ (ite ((Value.ref d == Value.none)=true) _ _) _ _ s
 rw [if_neg (no rfl)];refine qbA (qcA (α:=Addr) (a:=d) (qbA (wpAny_dictEntries hod hdd ?_)));rw [if_neg (no (bne_self_eq_false _))];refine qbA (qcA (α:=Addr) (a:=d) (qbA (wpAny_dictEpoch hod hdd ?_)));rw [if_neg (no (bne_self_eq_false _))];refine qcA ?_;dsimp only;rw [if_neg (show ¬ ((i:Int)<0) by omega),qqB,Array.getElem?_eq_getElem hlt];have hit2:(s.heap.update it (Obj.mapFields (·.setIfInBounds 1 (rawInt ((i:Int)+1))))).IsKeyIter it d (i+1) es.size ep:=⟨_,Heap.get?_update_self _ ho (Obj.isFreed_of_fields (Obj.data_mapFields hd _)),(Obj.cls_mapFields ..).trans hc,by rw [Obj.data_mapFields hd];simp [rawInt]⟩;refine qbA (qbA (wpAny_typeNameOfWhole_keyiter T (qcA (qbA (wpAny_isOneOf_keyiter T ?_)))))
 change wpAny _ _ (bind (setField (.ref it) 1 (rawInt ((i:Int)+1))) _) _ _ s
 refine qbA (wpAny_setField ho hd (by simp) (qbA (qdA (qbA (wpAny_isOneOf_keyiter (s:={ s with heap:=s.heap.update it (Obj.mapFields (·.setIfInBounds 1 (rawInt ((i:Int)+1)))) }) hit2.typeIs ?_)))));exact qcA (a:=es[i].key) (qcA ⟨_,rfl,qcA (hQ _ hit2 (Heap.SameBut.update ..))⟩)
theorem endT {Q:Option Value->Shared->Prop}(hh:A.handled=none)(hit:s.heap.IsKeyIter it d i es.size ep)(hod:s.heap.get? d=some od)(hdd:od.data = .dict es ep)(hge:es.size<=i)
  (hQ:∀ h',Heap.ExtBut it s.heap h'->Q none { s with heap:=h' }):wpAny (model prog w) A (pyNext (.ref it)) Q E s:=by
 obtain ⟨o,ho,hc,hd⟩:=id hit;have T:=hit.typeIs;unfold pyNext;refine qbA (wpAny_attempt (wpAny_callSpecial?_slot (name:=Str.ofString "__next__") T F.slot_dict_keyiterator_next (qbC F.slot_dict_keyiterator_next T F.entry_dict_keyiterator_next ?_ (F.args_dict_keyiterator_next_1 _))));refine qbA (qcA (qbA (qbA (qbA (wpAny_typeNameOfWhole_keyiter T (qcA (qbA (wpAny_fieldsOf ho hd ?_))))))));have no:∀ {b:Bool},b=false->¬ b=true:=fun e z=>quB (e.symm.trans z);rw [show Builtin.Dict_items.ownsTuple "dict_keyiterator" = false by decide]
 change wpAny _ _ (ite ((Value.ref d == Value.none)=true) _ _) _ _ s
 rw [if_neg (no rfl)];refine qbA (qcA (α:=Addr) (a:=d) (qbA (wpAny_dictEntries hod hdd ?_)));rw [if_neg (no (bne_self_eq_false _))];refine qbA (qcA (α:=Addr) (a:=d) (qbA (wpAny_dictEpoch hod hdd ?_)));rw [if_neg (no (bne_self_eq_false _))];refine qcA ?_;dsimp only;rw [if_neg (show ¬ ((i:Int)<0) by omega),qqB,Array.getElem?_eq_none hge];refine qbA (qbA (wpAny_typeNameOfWhole_keyiter T (qcA ?_)))
 change wpAny _ _ (bind (setField (.ref it) 0 .none) _) _ _ s
 refine qbA (wpAny_setField ho hd (by simp) ?_)
 change wpAny _ _ (bind (newExc (.type "StopIteration") []) _) _ _ _
 simp only [newExc,newTuple];refine qbA (qbA (wpAny_newObj_type (qbA (m:=firstArgMember _ _) (wpAny_of_eq (a:=Value.none) (by first|rfl | (simp only [firstArgMember];rfl)) (wpAny_newObj_type ?_ (by size_fits)))) (by size_fits)));simp only [raiseNew];refine qbA (wpAny_handled ?_);rw [show A.in1.handled=none from hh];refine qbA (qcA (wpAny_throw ?_));refine qbA (wpAny_isInstance (T := "StopIteration") (b:=true) ⟨_,qnB _ rfl,rfl⟩ isSubtype_stop ?_);exact qcA (hQ _ (((Heap.SameBut.update ..).extBut.push _).push _))
end
structure MpRF (α:Type) where
 l:List (Rk × α)
instance rpMpRF {α:Type}[Rp α]:Rp (MpRF α):=⟨fun K H v a=>∃ p o kvs,v = .ref p/\H p=some (.frz o (.dT kvs))/\Paired (Gp K H) kvs a.l,
 fun s ⟨p,o,kvs,e,h,pr⟩=>⟨p,o,kvs,e,s _ _ h,Paired.imp' (fun _ _ r=>⟨r.1,Rp.mono s r.2⟩) pr⟩⟩
def tFrzT (te:TE):TE:=fun σ H Q=>te σ H fun v H1=>∃ p kvs,v = .ref p/\H1 p=some (.dT kvs)/\∀ o,Q v (upd H1 p (.frz o (.dT kvs)))
theorem J2 {X:Cx}{te:TE}{e:Expr}(h:PE X e te):PE X e (tFrzT te):=by
 intro pins s σ H Q I q;refine thn (h pins s σ H _ I q) fun u s1 ⟨x,H1,I1,r1,p,kvs,e1,hp,k⟩=>?_;subst e1;have ok:=I1.hok p _ hp
 obtain ⟨o,g⟩:∃ o,s1.heap.get? p=some o:=by
  obtain ⟨_,_,_,_,o,_,_,g,_⟩:=ok;exact ⟨o,g⟩
 have hn:∀ b xs,H1 b=some (.tup xs)->upd H1 p (.frz o (.dT kvs)) b=some (.tup xs):=fun b xs e=>by
  rw [At (PL e hp fun z=>nomatch z)];exact e
 have I2:Inv X pins σ (upd H1 p (.frz o (.dT kvs))) { s1 with heap:=s1.heap,toks:=s1.toks }:=by
  refine I1.write (x:=p) (e:=p) (by rw [hp];trivial) (.inl rfl) (fun b u _ q=>q) ⟨o,g⟩ ⟨g,?_⟩;obtain ⟨a1,a2,vs,a3,a4⟩:=ok;exact ⟨a1,a2,vs,Paired.imp' (fun _ _ r=>⟨r.1,hn _ _ r.2.1,r.2.2⟩) a3,a4⟩
 exact ⟨_,_,I2,r1,k o⟩
section
variable {K:FZ9}{σ:St}{G H G0 H0:Hp}{α β:Type}[Rp α][Rp β]{ta td ti tx:TE}{rest:TS}{D:Ends}{i:Nat}{a:MpR α}{v:V}{p:Addr}{kvs:List (List Key × V)}
theorem sv_retFT (hσ:σ[i]? = some (some v))(o:OwnR K G H v p kvs a)(x:Ext G0 H0 G H)(h0:H0 p=none)(k:∀ v G2 H2,Ext G0 H0 G2 H2->Rp.rel K G2 v (MpRF.mk a.l)->D.rt v H2):Cm (tRet (tFrzT (FP i))) rest D σ H:=by
 refine ⟨v,hσ,p,kvs,o.v,o.h,fun ob=>k v (upd G p (.frz ob (.dT kvs))) _ ((x.put h0 o.g).frz h0 o.g AQ) ⟨p,ob,kvs,o.v,AQ,Paired.imp' (fun _ _ r=>⟨r.1,Rp.mono (Same.new o.g) r.2⟩) o.p⟩⟩
theorem Iu:EV K (tFrzT Nq) σ G (some (MpRF.mk ([]:List (Rk × α)))):=by
 clear 7;cases hc;refine fun p hp=>⟨p,[],rfl,AQ,fun o=>?_⟩;rw [upd_upd];exact k _ (upd G1 p (.frz o (.dT []))) _ (.new sH hp) ⟨p,o,[],rfl,AQ,.nil⟩
theorem DGet.tF {H:Hp}{a b:Addr}{o:Obj}{kvs:List (List Key × V)}{k:List Key}(e:H a=some (.frz o (.dT kvs)))(eb:H b=some (.tup (k.map kV))):DGet H a (.ref b) (Cu kvs k):=.inr ⟨kvs,k,b,.inr ⟨o,e⟩,rfl,eb,rfl⟩
theorem Jn {md:Option (MpRF α)}{mi:Option Rk}(ed:EV K td σ G md)(ei:EV K ti σ G mi):EV K (tDGet td ti) σ G (md.bind fun d=>mi.bind fun k=>getR d.l k):=by
 clear 7;obtain ⟨d,hd,hc⟩:=qaA.mp hc;obtain ⟨j,hj,hc⟩:=qaA.mp hc;clear 8 ed d hd;obtain ⟨p,o,kvs,rfl,h,pr⟩:=r2;refine ei G2 (s1.trans x2.gg) j hj H2 x2.gh _ fun u G3 H3 x3 r3=>?_;obtain ⟨t,rfl,ht⟩:=IL r3;have pr4:Paired (Gp K G3) kvs d.l:=Paired.imp' (fun _ _ r=>⟨r.1,Rp.mono x3.gg r.2⟩) pr;obtain ⟨w,h1,h2⟩:=JV pr4 c hc;refine ⟨p,w,rfl,?_,k _ _ _ (x2.trans x3) h2⟩;rw [<- h1];exact DGet.tF (x3.gh _ _ (x3.gg _ _ h)) (x3.gh _ _ ht)
theorem SQ {md:Option (MpRF α)}{mi:Option Rk}(ed:EV K td σ G md)(ei:EV K ti σ G mi):EV K (QB td ti (tC .non)) σ G (md.bind fun d=>mi.bind fun k=>some (getR d.l k)):=by
 clear 7;obtain ⟨d,hd,hc⟩:=qaA.mp hc;obtain ⟨j,hj,hc⟩:=qaA.mp hc;cases hc;clear 8 ed d hd;obtain ⟨p,o,kvs,rfl,h,pr⟩:=r2;refine ⟨p,rfl,.inr ⟨kvs,.inr ⟨o,x2.gh _ _ h⟩⟩,?_⟩;refine ei G2 (s1.trans x2.gg) j hj H2 x2.gh _ fun u G3 H3 x3 r3=>?_;obtain ⟨t,rfl,ht⟩:=IL r3;have pr4:Paired (Gp K G3) kvs d.l:=Paired.imp' (fun _ _ r=>⟨r.1,Rp.mono x3.gg r.2⟩) pr;exact ⟨Cu kvs (Cq j.tp),DGet.tF (x3.gh _ _ (x3.gg _ _ h)) (x3.gh _ _ ht),k _ _ _ (x2.trans x3) (KL pr4)⟩
theorem ev_inRF {md:Option (MpRF α)}{mi:Option Rk}(ei:EV K ti σ G mi)(ed:EV K td σ G md):EV K (tDIn ti td) σ G (mi.bind fun k=>md.bind fun d=>some (Le d.l k)):=by
 clear 7;obtain ⟨j,hj,hc⟩:=qaA.mp hc;obtain ⟨d,hd,hc⟩:=qaA.mp hc;cases hc;refine ei G1 s1 j hj H sH _ fun u G2 H2 x2 r2=>?_;refine ed G2 (s1.trans x2.gg) d hd H2 x2.gh _ fun v G3 H3 x3 r3=>?_;obtain ⟨t,rfl,ht⟩:=IL (Rp.mono x3.gg r2);obtain ⟨p,o,kvs,rfl,h,pr⟩:=r3;refine ⟨p,Cu kvs (Cq j.tp),rfl,DGet.tF (x3.gh _ _ h) (x3.gh _ _ ht),?_⟩;rw [KN pr];exact k _ _ _ (x2.trans x3) rfl
end
def isNonD:D->Bool
 | .non=>true
 | _=>false
def Q8:D->Option (Option Int)
 | .non=>some none
 | .int i=>some (some i)
 | _=>none
section
variable {K:FZ9}{σ:St}{G H:Hp}{ta:TE}
theorem nonD {v:V}{d:D}(r:RelD K G v d):decide (v = .non)=isNonD d:=by cases r<;>rfl
theorem ev_notND {md:Option D}(ea:EV K ta σ G md):EV K (tOp (fun x y H Q=>y = .non/\Q (.bl (!decide (x = .non))) H) ta (tC .non)) σ G (md.bind fun d=>some (!isNonD d)):=by
 clear 7;obtain ⟨a,ha,hc⟩:=qaA.mp hc;cases hc;refine ea G1 s1 a ha H sH _ fun v G2 H2 x2 r2=>⟨rfl,k _ _ _ x2 ?_⟩;rw [nonD r2];exact rfl
theorem Rc {md:Option D}(e:EV K ta σ G md):EV K ta σ G (md.bind fun d=>Q8 d):=by
 clear 7;obtain ⟨d,hd,hc⟩:=qaA.mp hc;refine e G1 s1 d hd H sH Q fun v G2 H2 x r=>k v G2 H2 x ?_
 cases d with
 | non =>
  cases (show some none=some c from hc);cases (show RelD K G2 v .non from r);exact rfl
 | int i =>
  cases (show some (some i)=some c from hc);cases (show RelD K G2 v (.int i) from r);exact rfl
 | _=>exact nomatch hc
end
def ItT (p:Addr)(o:Obj)(kvs:List (List Key × V))(ts:List Addr):It :=
 ⟨fun i H=>H p=some (.frz o (.dT kvs))/\i<ts.length,fun i H x H'=>H'=H/\(ts.map V.ref)[i]? = some x,fun i H=>H p=some (.frz o (.dT kvs))/\ts.length<=i⟩
def KeysAt (o:Obj)(ts:List Addr):Prop:=∃ es,o.data = .dict es (epOf o)/\es.toList.map (·.key)=ts.map Value.ref
theorem KeysAt.size {ts:List Addr}{es:Array DictEntry}(h:es.toList.map (·.key)=ts.map Value.ref):es.size=ts.length:=by
 have:=congrArg List.length h
 simpa using this
theorem turn_T {P:Program}{w:World}{K:FZ9}{tg:Expr}(p it:Addr)(o:Obj)(kvs:List (List Key × V))(ts:List Addr)(hk:KeysAt o ts):Turn P w K tg (ItT p o kvs ts) [it] it (fun i h=>h.IsKeyIter it p i ts.length (epOf o)) where
 mem:=by simp
 obj:=fun i h st b hb=>by
  have e:b=it:=by simpa using hb
  subst e;obtain ⟨ob,e,c,d⟩:=st;exact ⟨ob,e,fun v z=>by rw [d] at z;cases z⟩
 keep:=fun i h h' st k=>st.at fun o e=>k it (by simp) o e
 item:=by
  intro X hP hw hK hc i pins s σ H E I hf st hg;subst hP hw hK;obtain ⟨hH,hi⟩:=hg;obtain ⟨es,hd,hks⟩:=hk;have hs:=KeysAt.size hks;obtain ⟨g,_⟩:=(show ObjOk X.prog X.w H s.heap p (.frz o (.dT kvs)) from I.hok p _ hH);rw [<- hs] at st;obtain ⟨f0,f1,f2,f3,f4,f5⟩:=hf it (by simp);have hi':i<es.size:=by omega
  have hkey:es[i].key = .ref ts[i]:=by
   have h1:(es.toList.map (·.key))[i]? = some es[i].key:=by simp [hi']
   rw [hks,qzA,qvA hi] at h1;exact (qjB h1).symm
  refine nextT st g hd hi' fun h' st' sb=>?_;have I1:Inv X pins σ H { s with heap:=h' }:=I.turned (t':=s.toks) (fun b o hb e=>(sb.2 b hb).trans e) f0 f1 f3 f4 f5;obtain ⟨ob,e,c,d⟩:=id st';rw [hs] at st';rw [hkey];exact ⟨_,rfl,LG (s:={ s with heap:=h' }) e c d (by decide) ⟨.ref ts[i],H,I1,rfl,⟨rfl,by rw [qzA,qvA hi];rfl⟩,st',fun b hb=>(hf b hb).1⟩⟩
 done:=by
  intro X hP hw hK hc i pins s σ H E I hf st hg;subst hP hw hK;obtain ⟨hH,hi⟩:=hg;obtain ⟨es,hd,hks⟩:=hk;have hs:=KeysAt.size hks;obtain ⟨g,_⟩:=(show ObjOk X.prog X.w H s.heap p (.frz o (.dT kvs)) from I.hok p _ hH);rw [<- hs] at st;obtain ⟨f0,f1,f2,f3,f4,f5⟩:=hf it (by simp);exact endT (I.ok.hd hc) st g hd (by omega) fun h' eb=>⟨rfl,I.turned (t':=s.toks) (fun b o hb e=>eb b o hb e) f0 f1 f3 f4 f5⟩
 self:=fun _ _ _ _ _ st h=>wpAny_pyIter_keyiter st h
def iFrzT (tl:TE):TI:=fun σ H R=>tl σ H fun v H1=>∃ p o kvs,v = .ref p/\H1 p=some (.frz o (.dT kvs))/\∀ ts,ts.length<=sizeLine->Paired (fun (kv:List Key × V) t=>H1 t=some (.tup (kv.1.map kV))) kvs ts->R (ItT p o kvs ts) H1
theorem pi_frzT {X:Cx}{tg l:Expr}{tl:TE}(hl:PE X l tl):PI X tg l (iFrzT tl):=by
 intro pins s σ H R I h;refine thn (hl pins s σ H _ I h) fun v s1 ⟨x,H1,I1,r1,p,o,kvs,ex,hH,q⟩=>?_;subst ex;cases r1;obtain ⟨g,a1,lo,xs,pr,o',es,ep,g',x1,x2,x3,x4⟩:=(show ObjOk X.prog X.w H1 s1.heap p (.frz o (.dT kvs)) from I1.hok p _ hH);rw [g] at g';cases g';have hep:epOf o=ep:=by unfold epOf;rw [x2]
 have hk:KeysAt o (xs.map (·.2.1)):=⟨es,by rw [hep];exact x2,by rw [x3,List.map_map,List.map_map];rfl⟩
 have hs:es.size=(xs.map (·.2.1)).length:=by
  have:=congrArg List.length x3
  simpa using this
 have pt:Paired (fun (kv:List Key × V) t=>H1 t=some (.tup (kv.1.map kV))) kvs (xs.map (·.2.1)):=by
  clear hs hk x3 x4 hH q a1
  induction pr with
  | nil=>exact .nil
  | cons h _ ih=>exact .cons h.2.1 ih
 have hl:=Paired.length pr
 have one:∀ b∈[s1.heap.objs.size],IM X pins H1 b:=fun b hb=>by
  have e:b=s1.heap.objs.size:=by simpa using hb
  subst e;exact I1.fpOk (qfB _) (I1.hok.fresh (qfB _))
 refine iterT lo g x1 x2 ⟨o,g,x1.1⟩ ⟨s1.heap.objs.size,[s1.heap.objs.size],_,_,H1,rfl,I1.kept (t':=s1.toks) fun b o e=>qmB _ e,turn_T p _ o kvs _ hk,⟨_,qnB _ rfl,rfl,?_⟩,one,q _ (by rw [qeA,<- hl];exact a1) pt⟩;rw [hs,hep]
 rfl
section
variable {K:FZ9}{σ:St}{H:Hp}{α:Type}[Rp α]{rest:TS}{D:Ends}{i:Nat}{a:MpRF α}{v:V}{tl:TE}
def SI.isI:SI->Bool
 | .i _=>true
 | _=>false
def rowI (r:Rk):Bool:=r.l.all SI.isI && decide (r.l.length<=8)
def R7 (m:MpRF α):Option (List Rk):=if (m.l.all fun q=>rowI q.1)=true then some (m.l.map (·.1)) else none
theorem PN {G:Hp}:∀ {l:List SI},l.all SI.isI=true->Paired (Rp.rel K G) ((l.map siK).map kV) l
 | [],_=>.nil
 | .i n::l,h=>by
  rw [List.all_cons,qfC] at h;exact .cons rfl (PN h.2)
 | .s x::l,h=>by
  rw [List.all_cons,qfC] at h;exact nomatch h.1
theorem Oe {G:Hp}:∀ {kvs:List (List Key × V)}{l:List (Rk × α)}{ts:List Addr},(l.all fun q=>rowI q.1)=true->Paired (Gp K G) kvs l->Paired (fun (kv:List Key × V) t=>G t=some (.tup (kv.1.map kV))) kvs ts->Paired (Rp.rel K G) (ts.map V.ref) (l.map (·.1))
 | _,_,_,_,.nil,.nil=>.nil
 | kv::_,q::_,t::_,hi,.cons h r,.cons h2 r2=>by
  rw [List.all_cons,qfC] at hi;have hi1:=hi.1;unfold rowI at hi1;rw [qfC] at hi1;refine .cons ?_ (Oe hi.2 r r2);rw [h.1] at h2;refine ⟨t,_,rfl,h2,?_,PN hi1.1⟩;have:=of_decide_eq_true hi1.2;show ((q.1.l.map siK).map kV).length<=sizeLine;rw [qeA,qeA,qoB];omega
theorem sv_forT {S ρ:Type}{RR:ρ->V->Hp->Hp->Prop}{f:Rk->S->Option (Fl S ρ)}{g:TG}{tb:TS}{s0:S}{res:Fl S ρ}{as:List Rk}(hσ:σ[i]? = some (some v))(r:Rp.rel K H v a)(ha:R7 a=some as)(hf:Ct f as s0=some res)
  (k:∀ G2 H2,Ext H H G2 H2->∃ RS,LoopOb K RR f g tb { D with nx:=rest D } σ G2 H2 as s0 res RS):Cm (tFor (iFrzT (FP i)) g tb) rest D σ H:=by
 obtain ⟨hi,rfl⟩:=BZ ha;obtain ⟨p,o,kvs,rfl,hp,pr⟩:=r;refine ⟨_,hσ,p,o,kvs,rfl,hp,fun ts hz pt=>?_⟩
 exact CC (K:=K) (RR:=RR) (wi:=fun _ H1 R=>R (ItT p o kvs ts) H1) (mi:=some (a.l.map (·.1))) (fun G1 s1 c hc H2 sH R k=>by
  cases hc
  exact k _ (ts.map V.ref) G1 H2 (.refl sH) ⟨fun i H' s hi=>⟨s _ _ (s1 _ _ hp),by simpa using hi⟩,fun H' s=>⟨s _ _ (s1 _ _ hp),by simp⟩,fun i H' x H'' s _ y=>y⟩ (by rw [qeA];exact hz) (Paired.imp' (fun _ _ r=>Rp.mono s1 r) (Oe hi pr pt))) rfl hf (.refl H) k
end
structure DIn (K:FZ9)(mg:Str->Option Value)(x:Str)(st:Stmt):Prop where
 ex:∃ f fd,mg x=some (.ref f)/\Fun K x x st f fd
def BnO (x:Str)(st:Stmt)(ps:List Str):Prop:=∀ (kV doc pm:Value) (an:Option Addr) (cdv ct:Value) (us:List Value),us.length=ps.length->bindArgs (qwB x x (Dz st) (CA st) (AK st) .none kV doc pm an cdv ct) ⟨us,[]⟩=pure (ps.zip us)
abbrev Nn (K:FZ9)(x:Str):Prop:=PySem.W.nsIn K mainGlobals x=some none
theorem scm {N ps:List Str}{sc:Scope}(a:sc.kind = .function:=by rfl)(b:sc.isCoroutine=false:=by rfl)(c:sc.isGenerator=false:=by rfl)(d:N.Nodup:=by decide +kernel)(e:N.take ps.length=ps:=by rfl)(f:∀ x∈ps,sc.names.lookup x=some .local \/ sc.names.lookup x=some .cell:=by decide +kernel)(g:∀ y∈sc.names,y.2 ≠ .free:=by decide +kernel):FnScope N ps sc:=⟨a,b,c,d,e,f,g⟩
theorem din {K:FZ9}{h:Heap}{mg:Str->Option Value}{x:Str}{st:Stmt}{f:Addr}{oc:Value}{od an:Option Addr}{osl:Array (Option Value)}{kV doc pm cdv ct:Value}(X:K.In h)(G:h.Ns mainGlobals mg)(a:PySem.W.nsIn K mainGlobals x=some (some (.ref f)))
  (l:K.lookup f=some ⟨oc,od,.func (qwB x x (Dz st) (CA st) (AK st) .none kV doc pm an cdv ct),osl⟩) (c:PySem.W.codeIn K cdv x=true) (k:PySem.W.keepIn K (.ref f)=true):DIn K mg x st:=⟨f,_,PySem.W.mg_of X G a,fun_mk l c k⟩
section
variable {P:Program}{w:World}{K:FZ9}{mg:Str->Option Value}{base:Heap}{x:Str}{st:Stmt}{N ps:List Str}{k:Nat}{sp:Sp}{ρ:Type}[Rp ρ]
theorem DIn.ok (Z:DIn K mg x st)(S:FnScope N ps (AK st))(b:BnO x st ps)(len:∀ vs H Q E,sp vs H Q E->vs.length=ps.length)
  (hbody:∀ (f:Addr) (cdv:Value) (A:Around) (outer:List Env) (s:Shared) (H:Hp) (vs:List V) (Q:VK) (E:XK),Room k (A.deeper (envOfC x (AK st) s.heap.objs.size f cdv))->sp vs H Q E ->
   ∃ t,PSs (Kk CX0 P w K mg base N x (AK st) f cdv A outer s H E).nox (CA st) t/\t { nx:=fun _ H'=>Q .non H',rt:=Q } (start N vs) H):DefOk P w K mg base x (k+1) ps sp:=by
 obtain ⟨f,fd,a,F⟩:=Z.ex;exact def_of F a (F.binds b) (F.ok S len fun cdv A outer s H vs Q E hr h=>hbody f cdv A outer s H vs Q E hr h)
theorem bn1 {p0:Str}(h:∀ (kV doc pm:Value) (an:Option Addr) (cdv ct:Value) (a0:Value),bindArgs (qwB x x (Dz st) (CA st) (AK st) .none kV doc pm an cdv ct) ⟨[a0],[]⟩=pure (List.zip [p0] [a0]):=by intros;rfl):BnO x st [p0]:=fun kV doc pm an cdv ct us hl=>match us,hl with | [a0],_=>h kV doc pm an cdv ct a0
theorem DIn.okM1 {α0:Type}[Rp α0]{p0:Str}{m:α0->Option ρ}(Z:DIn K mg x st)(S:FnScope N [p0] (AK st))
  (hbody:∀ (f:Addr) (cdv:Value) (A:Around) (outer:List Env) (s:Shared) (H:Hp) (Q:VK) (E:XK),Room k (A.deeper (envOfC x (AK st) s.heap.objs.size f cdv))->∀ G a0 res v0,Ext G H G H->Rp.rel K G v0 a0->m a0=some res->(∀ v G2 H2,Ext G H G2 H2->Rp.rel K G2 v res->Q v H2) ->
   ∃ t,PSs (Kk CX0 P w K mg base N x (AK st) f cdv A outer s H E).nox (CA st) t/\t { nx:=fun _ H'=>Q .non H',rt:=Q } (start N [v0]) H)
  (b:BnO x st [p0]:=by exact bn1):DefOk P w K mg base x (k+1) [p0] (spM K fun x:α0 × Unit=>m x.1) :=
 Z.ok S b (fun vs H Q E h=>(GF h).trans rfl) fun f cdv A outer s H vs Q E hr h=>by
  obtain ⟨G,⟨a0,⟨⟩⟩,res,sg,⟨v0,_,rfl,r0,rfl⟩,hm,q⟩:=h;exact hbody f cdv A outer s H Q E hr G a0 res v0 (Ext.refl sg) r0 hm q
theorem bn2 {p0 p1:Str}(h:∀ (kV doc pm:Value) (an:Option Addr) (cdv ct:Value) (a0 a1:Value),bindArgs (qwB x x (Dz st) (CA st) (AK st) .none kV doc pm an cdv ct) ⟨[a0,a1],[]⟩=pure (List.zip [p0,p1] [a0,a1]):=by intros;rfl):BnO x st [p0,p1]:=fun kV doc pm an cdv ct us hl=>match us,hl with | [a0,a1],_=>h kV doc pm an cdv ct a0 a1
theorem DIn.okM2 {α0 α1:Type}[Rp α0][Rp α1]{p0 p1:Str}{m:α0->α1->Option ρ}(Z:DIn K mg x st)(S:FnScope N [p0,p1] (AK st))
  (hbody:∀ (f:Addr) (cdv:Value) (A:Around) (outer:List Env) (s:Shared) (H:Hp) (Q:VK) (E:XK),Room k (A.deeper (envOfC x (AK st) s.heap.objs.size f cdv))->∀ G a0 a1 res v0 v1,Ext G H G H->Rp.rel K G v0 a0->Rp.rel K G v1 a1->m a0 a1=some res->(∀ v G2 H2,Ext G H G2 H2->Rp.rel K G2 v res->Q v H2) ->
   ∃ t,PSs (Kk CX0 P w K mg base N x (AK st) f cdv A outer s H E).nox (CA st) t/\t { nx:=fun _ H'=>Q .non H',rt:=Q } (start N [v0,v1]) H)
  (b:BnO x st [p0,p1]:=by exact bn2):DefOk P w K mg base x (k+1) [p0,p1] (spM K fun x:α0 × α1 × Unit=>m x.1 x.2.1) :=
 Z.ok S b (fun vs H Q E h=>(GF h).trans rfl) fun f cdv A outer s H vs Q E hr h=>by
  obtain ⟨G,⟨a0,a1,⟨⟩⟩,res,sg,⟨v0,_,rfl,r0,⟨v1,_,rfl,r1,rfl⟩⟩,hm,q⟩:=h;exact hbody f cdv A outer s H Q E hr G a0 a1 res v0 v1 (Ext.refl sg) r0 r1 hm q
theorem bn3 {p0 p1 p2:Str}(h:∀ (kV doc pm:Value) (an:Option Addr) (cdv ct:Value) (a0 a1 a2:Value),bindArgs (qwB x x (Dz st) (CA st) (AK st) .none kV doc pm an cdv ct) ⟨[a0,a1,a2],[]⟩=pure (List.zip [p0,p1,p2] [a0,a1,a2]):=by intros;rfl):BnO x st [p0,p1,p2]:=fun kV doc pm an cdv ct us hl=>match us,hl with | [a0,a1,a2],_=>h kV doc pm an cdv ct a0 a1 a2
theorem DIn.okM3 {α0 α1 α2:Type}[Rp α0][Rp α1][Rp α2]{p0 p1 p2:Str}{m:α0->α1->α2->Option ρ}(Z:DIn K mg x st)(S:FnScope N [p0,p1,p2] (AK st))
  (hbody:∀ (f:Addr) (cdv:Value) (A:Around) (outer:List Env) (s:Shared) (H:Hp) (Q:VK) (E:XK),Room k (A.deeper (envOfC x (AK st) s.heap.objs.size f cdv))->∀ G a0 a1 a2 res v0 v1 v2,Ext G H G H->Rp.rel K G v0 a0->Rp.rel K G v1 a1->Rp.rel K G v2 a2->m a0 a1 a2=some res->(∀ v G2 H2,Ext G H G2 H2->Rp.rel K G2 v res->Q v H2) ->
   ∃ t,PSs (Kk CX0 P w K mg base N x (AK st) f cdv A outer s H E).nox (CA st) t/\t { nx:=fun _ H'=>Q .non H',rt:=Q } (start N [v0,v1,v2]) H)
  (b:BnO x st [p0,p1,p2]:=by exact bn3):DefOk P w K mg base x (k+1) [p0,p1,p2] (spM K fun x:α0 × α1 × α2 × Unit=>m x.1 x.2.1 x.2.2.1) :=
 Z.ok S b (fun vs H Q E h=>(GF h).trans rfl) fun f cdv A outer s H vs Q E hr h=>by
  obtain ⟨G,⟨a0,a1,a2,⟨⟩⟩,res,sg,⟨v0,_,rfl,r0,⟨v1,_,rfl,r1,⟨v2,_,rfl,r2,rfl⟩⟩⟩,hm,q⟩:=h;exact hbody f cdv A outer s H Q E hr G a0 a1 a2 res v0 v1 v2 (Ext.refl sg) r0 r1 r2 hm q
theorem bn4 {p0 p1 p2 p3:Str}(h:∀ (kV doc pm:Value) (an:Option Addr) (cdv ct:Value) (a0 a1 a2 a3:Value),bindArgs (qwB x x (Dz st) (CA st) (AK st) .none kV doc pm an cdv ct) ⟨[a0,a1,a2,a3],[]⟩=pure (List.zip [p0,p1,p2,p3] [a0,a1,a2,a3]):=by intros;rfl):BnO x st [p0,p1,p2,p3]:=fun kV doc pm an cdv ct us hl=>match us,hl with | [a0,a1,a2,a3],_=>h kV doc pm an cdv ct a0 a1 a2 a3
theorem DIn.okM4 {α0 α1 α2 α3:Type}[Rp α0][Rp α1][Rp α2][Rp α3]{p0 p1 p2 p3:Str}{m:α0->α1->α2->α3->Option ρ}(Z:DIn K mg x st)(S:FnScope N [p0,p1,p2,p3] (AK st))
  (hbody:∀ (f:Addr) (cdv:Value) (A:Around) (outer:List Env) (s:Shared) (H:Hp) (Q:VK) (E:XK),Room k (A.deeper (envOfC x (AK st) s.heap.objs.size f cdv))->∀ G a0 a1 a2 a3 res v0 v1 v2 v3,Ext G H G H->Rp.rel K G v0 a0->Rp.rel K G v1 a1->Rp.rel K G v2 a2->Rp.rel K G v3 a3->m a0 a1 a2 a3=some res->(∀ v G2 H2,Ext G H G2 H2->Rp.rel K G2 v res->Q v H2) ->
   ∃ t,PSs (Kk CX0 P w K mg base N x (AK st) f cdv A outer s H E).nox (CA st) t/\t { nx:=fun _ H'=>Q .non H',rt:=Q } (start N [v0,v1,v2,v3]) H)
  (b:BnO x st [p0,p1,p2,p3]:=by exact bn4):DefOk P w K mg base x (k+1) [p0,p1,p2,p3] (spM K fun x:α0 × α1 × α2 × α3 × Unit=>m x.1 x.2.1 x.2.2.1 x.2.2.2.1) :=
 Z.ok S b (fun vs H Q E h=>(GF h).trans rfl) fun f cdv A outer s H vs Q E hr h=>by
  obtain ⟨G,⟨a0,a1,a2,a3,⟨⟩⟩,res,sg,⟨v0,_,rfl,r0,⟨v1,_,rfl,r1,⟨v2,_,rfl,r2,⟨v3,_,rfl,r3,rfl⟩⟩⟩⟩,hm,q⟩:=h;exact hbody f cdv A outer s H Q E hr G a0 a1 a2 a3 res v0 v1 v2 v3 (Ext.refl sg) r0 r1 r2 r3 hm q
theorem bn5 {p0 p1 p2 p3 p4:Str}(h:∀ (kV doc pm:Value) (an:Option Addr) (cdv ct:Value) (a0 a1 a2 a3 a4:Value),bindArgs (qwB x x (Dz st) (CA st) (AK st) .none kV doc pm an cdv ct) ⟨[a0,a1,a2,a3,a4],[]⟩=pure (List.zip [p0,p1,p2,p3,p4] [a0,a1,a2,a3,a4]):=by intros;rfl):BnO x st [p0,p1,p2,p3,p4]:=fun kV doc pm an cdv ct us hl=>match us,hl with | [a0,a1,a2,a3,a4],_=>h kV doc pm an cdv ct a0 a1 a2 a3 a4
theorem DIn.okM5 {α0 α1 α2 α3 α4:Type}[Rp α0][Rp α1][Rp α2][Rp α3][Rp α4]{p0 p1 p2 p3 p4:Str}{m:α0->α1->α2->α3->α4->Option ρ}(Z:DIn K mg x st)(S:FnScope N [p0,p1,p2,p3,p4] (AK st))
  (hbody:∀ (f:Addr) (cdv:Value) (A:Around) (outer:List Env) (s:Shared) (H:Hp) (Q:VK) (E:XK),Room k (A.deeper (envOfC x (AK st) s.heap.objs.size f cdv))->∀ G a0 a1 a2 a3 a4 res v0 v1 v2 v3 v4,Ext G H G H->Rp.rel K G v0 a0->Rp.rel K G v1 a1->Rp.rel K G v2 a2->Rp.rel K G v3 a3->Rp.rel K G v4 a4->m a0 a1 a2 a3 a4=some res->(∀ v G2 H2,Ext G H G2 H2->Rp.rel K G2 v res->Q v H2) ->
   ∃ t,PSs (Kk CX0 P w K mg base N x (AK st) f cdv A outer s H E).nox (CA st) t/\t { nx:=fun _ H'=>Q .non H',rt:=Q } (start N [v0,v1,v2,v3,v4]) H)
  (b:BnO x st [p0,p1,p2,p3,p4]:=by exact bn5):DefOk P w K mg base x (k+1) [p0,p1,p2,p3,p4] (spM K fun x:α0 × α1 × α2 × α3 × α4 × Unit=>m x.1 x.2.1 x.2.2.1 x.2.2.2.1 x.2.2.2.2.1) :=
 Z.ok S b (fun vs H Q E h=>(GF h).trans rfl) fun f cdv A outer s H vs Q E hr h=>by
  obtain ⟨G,⟨a0,a1,a2,a3,a4,⟨⟩⟩,res,sg,⟨v0,_,rfl,r0,⟨v1,_,rfl,r1,⟨v2,_,rfl,r2,⟨v3,_,rfl,r3,⟨v4,_,rfl,r4,rfl⟩⟩⟩⟩⟩,hm,q⟩:=h;exact hbody f cdv A outer s H Q E hr G a0 a1 a2 a3 a4 res v0 v1 v2 v3 v4 (Ext.refl sg) r0 r1 r2 r3 r4 hm q
end
section
variable {X:Cx}{K:FZ9}{N ps:List Str}{sc:Scope}{i:Nat}{x:Str}{e a b:Expr}{te ta tb:TE}{pos pos':Pos}{σ:St}{G:Hp}{α:Type}[Rp α]{v:V}{c:α}
theorem AG (S:FnScope N ps sc)(he:PE X e te)(hN:X.N=N:=by rfl)(hi:X.N[i]? = some x:=by rfl)(hx:Loc X.env.scope x:=by first|exact Or.inl rfl|exact Or.inr rfl)(hs:swapsWith e (some (.Name x pos')) pos.line X.env=pure false:=by rfl)(hf:X.fn x=true\/X.env.scope.names.lookup x=some .local := by first|exact .inl rfl|exact .inr rfl|assumption) :
  PS X (.Assign [.Name x pos'] e pos) (Fv te (CB i)):=ps_set (hN ▸ S.nd) hi hx he hs hf
theorem Av (S:FnScope N ps sc)(hN:X.N=N:=by rfl)(hi:X.N[i]? = some x:=by rfl)(hx:Loc X.env.scope x:=by first|exact Or.inl rfl|exact Or.inr rfl)(hf:X.fn x=true\/X.env.scope.names.lookup x=some .local := by first|exact .inl rfl|exact .inr rfl|assumption):PG X (.Name x pos) (CB i):=FT (hN ▸ S.nd) hi hx hf
theorem AC (K:FZ9)(ha:PE X a ta)(hb:PE X b tb)(hs:RK b:=by exact fun _ _=>rfl)(h:X.K=K:=by rfl):PE X (.Subscript a b pos) (tOp (rAt K) ta tb):=pe_ix (ix_anyK h) ha hb hs
theorem Aj (K:FZ9)(ha:PE X a ta)(hb:PE X b tb)(h:X.K=K:=by rfl):PE X (.BinOp a .Add b pos) (tOp (Mg K) ta tb):=Ax (op_plusK h) ha hb
theorem Aw (K:FZ9)(hm:X.mg "len" = none)(ha:PE X e te)(hg:Gl X "len" := by rfl)(h:X.K=K:=by rfl)(he:starEach [e] X.env=(false,eval e X.env)::starEach [] X.env:=by rfl):PE X (.Call (.Name "len" pos') [e] [] pos) (tCB (SL K) (B5 te DE)):=DI (SK h) hg hm bt_len (A6 ha AE he) (by decide) (by decide) he rfl
theorem B3 (K:FZ9)(ha:PE X a ta)(he:∀ whole,isTrue a X.env whole=(do let v <- whole;standAt a.pos;holding [v] (truthy v)):=by exact fun _=>rfl)(h:X.K=K:=by rfl):PT X a (fun σ H Q=>ta σ H fun x H'=>∃ k,TruV K x H' k/\Q k H'):=Rs h ha he
theorem BH (K:FZ9)(ha:PE X a ta)(hb:PE X e te)(h:X.K=K:=by rfl)(hbase:attributeBase a "append" X.env (eval a X.env)=eval a X.env:=by rfl)
  (hfew:((backTo pos (starEach [e] X.env)).all (fun x=>!x.1) && (backToKw pos (keywordEach [] X.env)).all (fun x=>x.1.isSome) && decide ([e].length+([]:List Keyword).length+(if ([]:List Keyword).isEmpty then 0 else 1)<30))=true:=by rfl)
  (hline:(pos'.endLine == pos.line)=true:=by rfl) (hs:starEach [e] X.env=(false,eval e X.env)::starEach [] X.env:=by rfl) (hplain:(backTo pos (starEach [] X.env)).any (·.1)=false:=by rfl) :
  PE X (.Call (.Attribute a "append" pos') [e] [] pos) (tBM K "list" GQ ta (B5 te DE)):=Ic h PySem.F.plainAttrs_list PySem.F.slot_list_append PySem.F.type_list_append Mb ha (A6 hb AE hs) hbase hfew hline hs hplain
theorem Ge (S:FnScope N ps sc):N.Nodup:=S.nd
theorem A7 (r:Rp.rel K G v c)(h:σ[i]? = some (some v):=by rfl):EV K (FP i) σ G (some c):=ev_var h r
end
end L2
namespace My
open PySem PySem.Spec PyProof.Rows L2
def Du (Ai:Int):Option Str :=
 (some ("" : Str)).bind fun B6 =>
 (some (Ai % 1000000000000)).bind fun La =>
 ((some ((1:Int)+(La % (3:Int)))).bind fun t13=>Iv 0 t13).bind fun as14=>(Ct (S:=(Str × Int)) (ρ:=Str) (fun (k_:Int) s21 =>
   (some ((s21.2 / (3:Int))+((7:Int) * k_))).bind fun La =>
   ((some s21.1).bind fun t46=>((some ("abcdefghijklmnopqrstuvwxyz" : Str)).bind fun t44=>(some (La % (26:Int))).bind fun t45=>(atI t44.cps.toList t45).bind fun z=>some (⟨#[z]⟩:Str)).bind fun t47=>RZ t46 t47).bind fun B6 =>
   some (Fl.nx (B6,La))) as14 (B6,La)).bind fun fl16=>match fl16 with
  | .nx s21 =>
   ((some ("" : Str)).bind fun t67=>((some (Bg ("abcdefghijklmnopqrstuvwxyz" : Str))).bind fun t66=>DA (fun (Bu:Str)=>(some (inS Bu s21.1))) (fun (Bu:Str)=>(some Bu)) t66).bind fun t68=>LS t67 t68)
  | .rt r=>some r
  | .bk _=>none
abbrev J0 (x:Int × Unit):Option Str:=Du x.1
def Dt (Ai:Int)(Am:Str):Option Str :=
 (some ("" : Str)).bind fun B6 =>
 (some (Bg Am)).bind fun as7=>(Ct (S:=(Int × Str)) (ρ:=Str) (fun (Bu:Str) s14 =>
   (some (decide ((s14.1 % (2:Int))=(1:Int)))).bind fun b31=>(cond b31
    (((some s14.2).bind fun t42=>(some Bu).bind fun t43=>RZ t42 t43).bind fun B6 =>
    some B6)
    (some s14.2)).bind fun s36 =>
   (some (s14.1 / (2:Int))).bind fun Ai =>
   some (Fl.nx (Ai,s36))) as7 (Ai,B6)).bind fun fl9=>match fl9 with
  | .nx s14 =>
   (some s14.2)
  | .rt r=>some r
  | .bk _=>none
abbrev Ib (x:Int × Str × Unit):Option Str:=Dt x.1 x.2.1
def Az (script_:Scr)(k_:Int):Option Int :=
 (some (decide (k_<(script_.l.length:Int)))).bind fun b1=>cond b1
  (((some script_).bind fun t6=>(some k_).bind fun t7=>atI t6.l t7))
  ((some ((k_ * (7919:Int))+(5:Int))).bind fun Ai =>
  (some (decide ((0:Int)<(script_.l.length:Int)))).bind fun b19=>(cond b19
   ((((((some script_).bind fun t32=>((some (k_ * (7:Int))).bind fun t30=>(some (script_.l.length:Int)).bind fun t31=>HG t30 t31).bind fun t33=>atI t32.l t33).bind fun t34=>(some (t34 * (48271:Int)))).bind fun t35=>(some (t35+(k_ * (7919:Int))))).bind fun t36=>(some (t36 % (2147483647:Int)))).bind fun Ai =>
   some Ai)
   (some Ai)).bind fun s24 =>
  (((some s24).bind fun t46=>(some s24).bind fun t47=>JO t46 t47).bind fun t48=>(some (t48 % (2147483629:Int)))))
abbrev BC (x:Scr × Int × Unit):Option Int:=Az x.1 x.2.1
def F0 (script_:Scr)(DX:Int)(stem_many_:Int)(ring_many_:Int)(Am:Str):Option ((List Str) × (List Str)) :=
 (((some (stem_many_+ring_many_)).bind fun t1=>Iv 0 t1).bind fun t11=>Cw (fun (k_:Int)=>((((some script_).bind fun t6=>(some (DX+k_)).bind fun t7=>Az t6 t7).bind fun t8=>(some (t8 % 67108864))).bind fun t9=>(some Am).bind fun t10=>Dt t9 t10)) t11).bind fun B6 =>
 (some ((NS B6 none (some stem_many_)),(NS B6 (some stem_many_) none)))
abbrev Lm (x:Scr × Int × Int × Int × Str × Unit):Option ((List Str) × (List Str)):=F0 x.1 x.2.1 x.2.2.1 x.2.2.2.1 x.2.2.2.2.1
def By (Ai:Int)(Bb:Int):Option (Tp Int) :=
 (some ([]:List Int)).bind fun some_ =>
 ((some Bb).bind fun t9=>Iv 0 t9).bind fun as10=>(Ct (S:=(Int × (List Int))) (ρ:=(Tp Int)) (fun (DF:Int) s17 =>
   (some (decide ((s17.1 % (2:Int))=(1:Int)))).bind fun b32=>(cond b32
    ((some DF).bind fun a41=>(E4 s17.2 a41).bind fun z49 =>
    some z49)
    (some s17.2)).bind fun s37 =>
   (some (s17.1 / (2:Int))).bind fun Ai =>
   some (Fl.nx (Ai,s37))) as10 (Ai,some_)).bind fun fl12=>match fl12 with
  | .nx s17 =>
   (some (Tp.mk s17.2))
  | .rt r=>some r
  | .bk _=>none
abbrev FY (x:Int × Int × Unit):Option (Tp Int):=By x.1 x.2.1
def D1 (Ai:Int)(Cd:Int)(Am:Str)(Bb:Int):Option (T4 Int Str Int (Tp Int)) :=
 ((some (Ai % (2147483563:Int))).bind fun t1=>(some Cd).bind fun t2=>HG t1 t2).bind fun begin_ =>
 ((some ((Ai * (48271:Int)) % (2147483629:Int))).bind fun t9=>(some Cd).bind fun t10=>HG t9 t10).bind fun end_ =>
 ((some ((Ai * (69621:Int)) % (2147483587:Int))).bind fun t17=>(some Am).bind fun t18=>Dt t17 t18).bind fun B6 =>
 (((some (((Ai * (16807:Int)) % (2147483549:Int)) / (8:Int))).bind fun t25=>(some Bb).bind fun t26=>By t25 t26).bind fun t27=>(some (T4.mk begin_ B6 end_ t27)))
abbrev Gk (x:Int × Int × Str × Int × Unit):Option (T4 Int Str Int (Tp Int)):=D1 x.1 x.2.1 x.2.2.1 x.2.2.2.1
def CM (BK:Int)(Ao:((List Str) × (List Str))):Option Int :=
 (some (decide ((BK+(1:Int))=((Ao.1.length:Int)+(Ao.2.length:Int))))).bind fun b1=>cond b1
  ((some (Ao.1.length:Int)))
  ((some (BK+(1:Int))))
abbrev EM (x:Int × ((List Str) × (List Str)) × Unit):Option Int:=CM x.1 x.2.1
def Cf (one_:Str)(Am:Str):Option Str :=
 ((some ("" : Str)).bind fun t6=>((some (Bg one_)).bind fun t5=>DA (fun (Bu:Str)=>(some (inS Bu Am))) (fun (Bu:Str)=>(some Bu)) t5).bind fun t7=>LS t6 t7)
abbrev GO (x:Str × Str × Unit):Option Str:=Cf x.1 x.2.1
def DD (script_:Scr)(DX:Int)(Am:Str)(Ao:((List Str) × (List Str))):Option (T4 Str Int (List (T4 Int Str Int (Tp Int))) Int) :=
 (((some script_).bind fun t1=>(some DX).bind fun t2=>Az t1 t2).bind fun t3=>(some (t3 % (41:Int)))).bind fun Kc =>
 ((((some script_).bind fun t10=>(some (DX+(1:Int))).bind fun t11=>Az t10 t11).bind fun t12=>(some (t12 % (9:Int)))).bind fun t13=>(some ((1:Int)+t13))).bind fun Cd =>
 (((((some script_).bind fun t20=>(some (DX+(1:Int))).bind fun t21=>Az t20 t21).bind fun t22=>(some (t22 / (9:Int)))).bind fun t23=>(some (t23 % (8:Int)))).bind fun t24=>(some (decide (t24=(3:Int))))).bind fun b25=>(cond b25
  ((((((some script_).bind fun t36=>(some (DX+(1:Int))).bind fun t37=>Az t36 t37).bind fun t38=>(some (t38 / (72:Int)))).bind fun t39=>(some (t39 % (50:Int)))).bind fun t40=>(some ((1:Int)+t40))).bind fun Cd =>
  some Cd)
  (some Cd)).bind fun s30 =>
 (((some script_).bind fun t50=>(some (DX+(2:Int))).bind fun t51=>Az t50 t51).bind fun t52=>(some (t52 % (4:Int)))).bind fun Bb =>
 (((((some script_).bind fun t59=>(some (DX+(2:Int))).bind fun t60=>Az t59 t60).bind fun t61=>(some (t61 / (4:Int)))).bind fun t62=>(some (t62 % (8:Int)))).bind fun t63=>(some (decide (t63=(3:Int))))).bind fun b64=>(cond b64
  (((((some script_).bind fun t75=>(some (DX+(2:Int))).bind fun t76=>Az t75 t76).bind fun t77=>(some (t77 / (32:Int)))).bind fun t78=>(some (t78 % (9:Int)))).bind fun Bb =>
  some Bb)
  (some Bb)).bind fun s69 =>
 (some ([]:List (T4 Int Str Int (Tp Int)))).bind fun Oj =>
 (some (0:Int)).bind fun BK =>
 ((some Kc).bind fun t102=>Iv 0 t102).bind fun as103=>(Ct (S:=((List (T4 Int Str Int (Tp Int))) × Int)) (ρ:=(T4 Str Int (List (T4 Int Str Int (Tp Int))) Int)) (fun (k_:Int) s110 =>
   (((some script_).bind fun t127=>(some ((DX+(3:Int))+k_)).bind fun t128=>Az t127 t128).bind fun t129=>(some s30).bind fun t130=>(some Am).bind fun t131=>(some s69).bind fun t132=>D1 t129 t130 t131 t132).bind fun row_ =>
   (((((some script_).bind fun t139=>(some (DX+(2:Int))).bind fun t140=>Az t139 t140).bind fun t141=>(some (t141 / (4:Int)))).bind fun t142=>(some (t142 % (3:Int)))).bind fun t143=>(some (decide (t143=(0:Int))))).bind fun b144=>(cond b144
    (((((some Ao.1).bind fun t157=>(some Ao.2).bind fun t158=>catL t157 t158).bind fun t159=>(some s110.2).bind fun t160=>atI t159 t160).bind fun t161=>(some Am).bind fun t162=>Cf t161 t162).bind fun B6 =>
    (((some k_).bind fun t169=>(some s30).bind fun t170=>HG t169 t170).bind fun t173=>((some (k_+(1:Int))).bind fun t171=>(some s30).bind fun t172=>HG t171 t172).bind fun t174=>(some (T4.mk t173 B6 t174 row_.d))).bind fun row_ =>
    some row_)
    (some row_)).bind fun s149 =>
   ((some s110.2).bind fun t184=>(some Ao).bind fun t185=>CM t184 t185).bind fun BK =>
   (some s149).bind fun a192=>(E4 s110.1 a192).bind fun z200 =>
   some (Fl.nx (z200,BK))) as103 (Oj,BK)).bind fun fl105=>match fl105 with
  | .nx s110 =>
   (some (T4.mk Am s30 s110.1 s69))
  | .rt r=>some r
  | .bk _=>none
abbrev GC (x:Scr × Int × Str × ((List Str) × (List Str)) × Unit):Option (T4 Str Int (List (T4 Int Str Int (Tp Int))) Int):=DD x.1 x.2.1 x.2.2.1 x.2.2.2.1
def Il (Iy:Str)(Pz:Str):Option Str :=
 ((some ("" : Str)).bind fun t6=>((some (Bg Iy)).bind fun t5=>DA (fun (KM:Str)=>(some (inS KM Pz))) (fun (KM:Str)=>(some KM)) t5).bind fun t7=>LS t6 t7)
abbrev mm_cut (x:Str × Str × Unit):Option Str:=Il x.1 x.2.1
def GK (run_:((List Str) × (List Str)))(BK:Int):Option Int :=
 (some (run_.1.length:Int)).bind fun stem_length_ =>
 (some (decide (BK<stem_length_))).bind fun b7=>cond b7
  ((some BK))
  ((((some (BK - stem_length_)).bind fun t17=>(some (run_.2.length:Int)).bind fun t18=>HG t17 t18).bind fun t19=>(some (stem_length_+t19))))
abbrev Nv (x:((List Str) × (List Str)) × Int × Unit):Option Int:=GK x.1 x.2.1
def Jx (run_:((List Str) × (List Str)))(BK:Int):Option Str :=
 ((some run_).bind fun t1=>(some BK).bind fun t2=>GK t1 t2).bind fun Qz =>
 (some run_.1).bind fun stem_ =>
 (some (decide (Qz<(stem_.length:Int)))).bind fun b15=>cond b15
  (((some stem_).bind fun t20=>(some Qz).bind fun t21=>atI t20 t21))
  (((some run_.2).bind fun t27=>(some (Qz - (stem_.length:Int))).bind fun t28=>atI t27 t28))
abbrev R0 (x:((List Str) × (List Str)) × Int × Unit):Option Str:=Jx x.1 x.2.1
def Dr (watcher_:(T4 Str Int (List (T4 Int Str Int (Tp Int))) Int))(run_:((List Str) × (List Str))):Option ((T3 Int (List (T3 Int Int (Tp Int))) Int) × (List Int)) :=
 (some watcher_.b).bind fun Cd =>
 (some ((run_.1.length:Int)+(run_.2.length:Int))).bind fun Hm =>
 (some ([]:List (T3 Int Int (Tp Int)))).bind fun CN =>
 (some ([]:List Int)).bind fun Kh =>
 ((some Hm).bind fun t29=>Iv 0 t29).bind fun as30=>(Ct (S:=((List (T3 Int Int (Tp Int))) × (List Int))) (ρ:=((T3 Int (List (T3 Int Int (Tp Int))) Int) × (List Int))) (fun (BK:Int) s37 =>
   (((some run_).bind fun t54=>(some BK).bind fun t55=>Jx t54 t55).bind fun t56=>(some watcher_.a).bind fun t57=>Il t56 t57).bind fun Iy =>
   ((some run_).bind fun t64=>(some (BK+(1:Int))).bind fun t65=>GK t64 t65).bind fun M6 =>
   (some watcher_.c).bind fun as72=>(Ct (S:=((List (T3 Int Int (Tp Int))) × (List Int))) (ρ:=((T3 Int (List (T3 Int Int (Tp Int))) Int) × (List Int))) (fun (pr95:(Int × (T4 Int Str Int (Tp Int)))) s79 =>
     (some (decide (pr95.2.b=Iy))).bind fun b98=>cond b98
      (((((some BK).bind fun t103=>(some Cd).bind fun t104=>JO t103 t104).bind fun t105=>(some (t105+pr95.2.a))).bind fun t109=>(((some M6).bind fun t106=>(some Cd).bind fun t107=>JO t106 t107).bind fun t108=>(some (t108+pr95.2.c))).bind fun t110=>(some (T3.mk t109 t110 pr95.2.d))).bind fun a111=>(E4 s79.1 a111).bind fun z119 =>
      (some pr95.1).bind fun a120=>(E4 s79.2 a120).bind fun z128 =>
      some (Fl.nx (z119,z128)))
      (some (Fl.nx (s79.1,s79.2)))) (Bp 0 as72) (s37.1,s37.2)).bind fun fl74=>match fl74 with
    | .nx s79 =>
     some (Fl.nx (s79.1,s79.2))
    | .rt r=>some (Fl.rt r)
    | .bk _=>none) as30 (CN,Kh)).bind fun fl32=>match fl32 with
  | .nx s37 =>
   ((((some Hm).bind fun t148=>(some Cd).bind fun t149=>JO t148 t149).bind fun t150=>(some (T3.mk t150 s37.1 watcher_.d))).bind fun t151=>(some (t151,s37.2)))
  | .rt r=>some r
  | .bk _=>none
abbrev J8 (x:(T4 Str Int (List (T4 Int Str Int (Tp Int))) Int) × ((List Str) × (List Str)) × Unit):Option ((T3 Int (List (T3 Int Int (Tp Int))) Int) × (List Int)):=Dr x.1 x.2.1
def CH (leads_:(List (List Int))):Option (List Int) :=
 ((some leads_).bind fun t5=>Cw (fun (Cc:(List Int))=>(some false)) t5).bind fun seen_ =>
 ((some leads_).bind fun t18=>Cw (fun (Cc:(List Int))=>(some (0:Int))) t18).bind fun tried_ =>
 (some ([]:List Int)).bind fun order_ =>
 ((some (leads_.length:Int)).bind fun t35=>Iv 0 t35).bind fun as36=>(Ct (S:=((List Bool) × (List Int) × (List Int))) (ρ:=(List Int)) (fun (begin_:Int) s43 =>
   (((some s43.1).bind fun t62=>(some begin_).bind fun t63=>atI t62 t63).bind fun t64=>cond t64 (some ([]:List Int)) (some [begin_])).bind fun Ph =>
   (some true).bind fun a73=>(some begin_).bind fun k75=>(J7 s43.1 k75 a73).bind fun z84 =>
   (FK (S:=((List Bool) × (List Int) × (List Int) × (List Int))) (ρ:=(List Int)) (fun s87=>(some (decide ((0:Int)<(s87.2.2.2.length:Int))))) (fun s87 =>
     ((some s87.2.2.2).bind fun t106=>(some (-(1:Int))).bind fun t107=>atI t106 t107).bind fun Cc =>
     (((some s87.2.1).bind fun t124=>(some Cc).bind fun t125=>atI t124 t125).bind fun t132=>(((some leads_).bind fun t129=>(some Cc).bind fun t130=>atI t129 t130).bind fun t131=>(some (t131.length:Int))).bind fun t133=>(some (decide (t132=t133)))).bind fun b134=>cond b134
      ((MI s87.2.2.2).bind fun pr139=>(E4 s87.2.2.1 pr139.1).bind fun z141 =>
      some (Fl.nx (s87.1,s87.2.1,z141,pr139.2)))
      ((((some leads_).bind fun t152=>(some Cc).bind fun t153=>atI t152 t153).bind fun t156=>((some s87.2.1).bind fun t154=>(some Cc).bind fun t155=>atI t154 t155).bind fun t157=>atI t156 t157).bind fun Dc =>
      (((some s87.2.1).bind fun t167=>(some Cc).bind fun t168=>atI t167 t168).bind fun t169=>(some (t169+(1:Int)))).bind fun a170=>(some Cc).bind fun k172=>(J7 s87.2.1 k172 a170).bind fun z181 =>
      (((some s87.1).bind fun t185=>(some Dc).bind fun t186=>atI t185 t186).bind fun t187=>(some (!t187))).bind fun b188=>cond b188
       ((some true).bind fun a193=>(some Dc).bind fun k195=>(J7 s87.1 k195 a193).bind fun z204 =>
       (some Dc).bind fun a205=>(E4 s87.2.2.2 a205).bind fun z213 =>
       some (Fl.nx (z204,z181,s87.2.2.1,z213)))
       (some (Fl.nx (s87.1,z181,s87.2.2.1,s87.2.2.2))))) KQ (z84,s43.2.1,s43.2.2,Ph)).bind fun fl85=>match fl85 with
    | .nx s87 =>
     some (Fl.nx (s87.1,s87.2.1,s87.2.2.1))
    | .rt r=>some (Fl.rt r)
    | .bk _=>none) as36 (seen_,tried_,order_)).bind fun fl38=>match fl38 with
  | .nx s43 =>
   (some s43.2.2)
  | .rt r=>some r
  | .bk _=>none
abbrev Fm (x:(List (List Int)) × Unit):Option (List Int):=CH x.1
def EF (net_:(T3 Int (List (T3 Int Int (Tp Int))) Int)):Option (List (List Int)) :=
 ((some net_.a).bind fun t1=>Iv 0 t1).bind fun l9=>(some (l9.map fun _=>([]:(List Int)))).bind fun Hz =>
 (some net_.b).bind fun as11=>(Ct (S:=((List (List Int)))) (ρ:=(List (List Int))) (fun (way_:(T3 Int Int (Tp Int))) s18 =>
   (some way_.a).bind fun k31=>(some way_.b).bind fun a33=>(LP s18 k31 a33).bind fun z41 =>
   some (Fl.nx z41)) as11 Hz).bind fun fl13=>match fl13 with
  | .nx s18 =>
   (some s18)
  | .rt r=>some r
  | .bk _=>none
abbrev IS (x:(T3 Int (List (T3 Int Int (Tp Int))) Int) × Unit):Option (List (List Int)):=EF x.1
def DC (net_:(T3 Int (List (T3 Int Int (Tp Int))) Int)):Option (List (List Int)) :=
 ((some net_.a).bind fun t1=>Iv 0 t1).bind fun l9=>(some (l9.map fun _=>([]:(List Int)))).bind fun R3 =>
 (some net_.b).bind fun as11=>(Ct (S:=((List (List Int)))) (ρ:=(List (List Int))) (fun (way_:(T3 Int Int (Tp Int))) s18 =>
   (some way_.b).bind fun k31=>(some way_.a).bind fun a33=>(LP s18 k31 a33).bind fun z41 =>
   some (Fl.nx z41)) as11 R3).bind fun fl13=>match fl13 with
  | .nx s18 =>
   (some s18)
  | .rt r=>some r
  | .bk _=>none
abbrev GD (x:(T3 Int (List (T3 Int Int (Tp Int))) Int) × Unit):Option (List (List Int)):=DC x.1
def D0 (BW:(List (Option Int)))(Hz:(List (List Int)))(begin_:Int)(Ai:Int):Option (List (Option Int)) :=
 (some (some Ai)).bind fun a1=>(some begin_).bind fun k3=>(J7 BW k3 a1).bind fun z12 =>
 (some [begin_]).bind fun KU =>
 (FK (S:=((List (Option Int)) × (List Int))) (ρ:=(List (Option Int))) (fun s23=>(some (decide ((0:Int)<(s23.2.length:Int))))) (fun s23 =>
   (MI s23.2).bind fun pr40 =>
   ((some Hz).bind fun t45=>(some pr40.1).bind fun t46=>atI t45 t46).bind fun as47=>(Ct (S:=((List (Option Int)) × (List Int))) (ρ:=(List (Option Int))) (fun (Dc:Int) s54 =>
     (((some s54.1).bind fun t71=>(some Dc).bind fun t72=>atI t71 t72).bind fun t73=>(some t73.isNone)).bind fun b74=>cond b74
      ((some (some Ai)).bind fun a79=>(some Dc).bind fun k81=>(J7 s54.1 k81 a79).bind fun z90 =>
      (some Dc).bind fun a91=>(E4 s54.2 a91).bind fun z99 =>
      some (Fl.nx (z90,z99)))
      (some (Fl.nx (s54.1,s54.2)))) as47 (s23.1,pr40.2)).bind fun fl49=>match fl49 with
    | .nx s54 =>
     some (Fl.nx (s54.1,s54.2))
    | .rt r=>some (Fl.rt r)
    | .bk _=>none) KQ (z12,KU)).bind fun fl21=>match fl21 with
  | .nx s23 =>
   some s23.1
  | .rt r=>some r
  | .bk _=>none
abbrev HV (BW:(List (Option Int)))(x:(List (List Int)) × Int × Int × Unit):Option (List (Option Int)):=D0 BW x.1 x.2.1 x.2.2.1
def Dm (net_:(T3 Int (List (T3 Int Int (Tp Int))) Int)):Option (List (Option Int)) :=
 (((some net_).bind fun t1=>DC t1).bind fun t2=>CH t2).bind fun order_ =>
 ((some net_).bind fun t9=>EF t9).bind fun Hz =>
 ((some order_).bind fun t20=>Cw (fun (Cc:Int)=>(some none)) t20).bind fun BW =>
 (some (0:Int)).bind fun Kc =>
 (some order_.reverse).bind fun as35=>(Ct (S:=((List (Option Int)) × Int)) (ρ:=(List (Option Int))) (fun (begin_:Int) s42 =>
   (((some s42.1).bind fun t60=>(some begin_).bind fun t61=>atI t60 t61).bind fun t62=>(some t62.isNone)).bind fun b63=>cond b63
    (((some Hz).bind fun t72=>((some begin_).bind fun t70=>((some s42.2).bind fun t68=>(some ()).bind fun t69=>some (t68,t69)).bind fun t71=>some (t70,t71)).bind fun t73=>some (t72,t73)).bind fun ca74=>(D0 s42.1 ca74.1 ca74.2.1 ca74.2.2.1).bind fun rz76 =>
    (some (s42.2+(1:Int))).bind fun Kc =>
    some (Fl.nx (rz76,Kc)))
    (some (Fl.nx (s42.1,s42.2)))) as35 (BW,Kc)).bind fun fl37=>match fl37 with
  | .nx s42 =>
   (some s42.1)
  | .rt r=>some r
  | .bk _=>none
abbrev Gq (x:(T3 Int (List (T3 Int Int (Tp Int))) Int) × Unit):Option (List (Option Int)):=Dm x.1
def C4 (net_:(T3 Int (List (T3 Int Int (Tp Int))) Int))(BW:(List (Option Int))):Option (List (Option (Mp Bool))) :=
 (some BW).bind fun l8=>(some (l8.map fun _=>(none:(Option (Mp Bool))))).bind fun EA =>
 (some net_.b).bind fun as10=>(Ct (S:=((List (Option (Mp Bool))))) (ρ:=(List (Option (Mp Bool)))) (fun (way_:(T3 Int Int (Tp Int))) s17 =>
   ((some BW).bind fun t32=>(some way_.a).bind fun t33=>atI t32 t33).bind fun FA =>
   (((some BW).bind fun t42=>(some way_.b).bind fun t43=>atI t42 t43).bind fun t44=>(some (decide (FA=t44)))).bind fun b45=>cond b45
    ((((some s17).bind fun t55=>((some FA).bind fun t54=>t54).bind fun t56=>atI t55 t56).bind fun t57=>(some t57.isNone)).bind fun b58=>(cond b58
     (((some FA).bind fun t67=>t67).bind fun k68=>(J7 s17 k68 (some (Mp.mk []))).bind fun z77 =>
     some z77)
     (some s17)).bind fun s63 =>
    (some way_.c.l).bind fun as81=>(Ct (S:=((List (Option (Mp Bool))))) (ρ:=(List (Option (Mp Bool)))) (fun (DF:Int) s88 =>
      (some true).bind fun a102=>((some FA).bind fun t101=>t101).bind fun k104=>(some DF).bind fun k106=>(RG s88 k104 k106 a102).bind fun z115 =>
      some (Fl.nx z115)) as81 s63).bind fun fl83=>match fl83 with
     | .nx s88 =>
      some (Fl.nx s88)
     | .rt r=>some (Fl.rt r)
     | .bk _=>none)
    (some (Fl.nx s17))) as10 EA).bind fun fl12=>match fl12 with
  | .nx s17 =>
   (some s17)
  | .rt r=>some r
  | .bk _=>none
abbrev EY (x:(T3 Int (List (T3 Int Int (Tp Int))) Int) × (List (Option Int)) × Unit):Option (List (Option (Mp Bool))):=C4 x.1 x.2.1
def C3 (net_:(T3 Int (List (T3 Int Int (Tp Int))) Int))(Dh:(List Bool)):Option (List (List Int)) :=
 ((some net_.a).bind fun t1=>Iv 0 t1).bind fun l9=>(some (l9.map fun _=>([]:(List Int)))).bind fun Cy =>
 (some net_.b).bind fun as11=>(Ct (S:=((List (List Int)))) (ρ:=(List (List Int))) (fun (pr34:(Int × (T3 Int Int (Tp Int)))) s18 =>
   ((some Dh).bind fun t37=>(some pr34.1).bind fun t38=>atI t37 t38).bind fun b39=>cond b39
    ((some pr34.2.a).bind fun k44=>(some pr34.1).bind fun a46=>(LP s18 k44 a46).bind fun z54 =>
    some (Fl.nx z54))
    (some (Fl.nx s18))) (Bp 0 as11) Cy).bind fun fl13=>match fl13 with
  | .nx s18 =>
   (some s18)
  | .rt r=>some r
  | .bk _=>none
abbrev Eh (x:(T3 Int (List (T3 Int Int (Tp Int))) Int) × (List Bool) × Unit):Option (List (List Int)):=C3 x.1 x.2.1
def Fq (CN:(List (T3 Int Int (Tp Int))))(came_by_:(Mp (Option Int)))(last_:Int):Option (List Int) :=
 (some [last_]).bind fun Ph =>
 (FK (S:=((List Int))) (ρ:=(List Int)) (fun s11=>(((some came_by_).bind fun t28=>(((some CN).bind fun t25=>((some s11).bind fun t23=>(some (-(1:Int))).bind fun t24=>atI t23 t24).bind fun t26=>atI t25 t26).bind fun t27=>(some t27.a)).bind fun t29=>Ht t28.l t29).bind fun t30=>(some t30.isSome))) (fun s11 =>
   (((some came_by_).bind fun t54=>(((some CN).bind fun t51=>((some s11).bind fun t49=>(some (-(1:Int))).bind fun t50=>atI t49 t50).bind fun t52=>atI t51 t52).bind fun t53=>(some t53.a)).bind fun t55=>Ht t54.l t55).bind fun t56=>t56).bind fun a57=>(E4 s11 a57).bind fun z65 =>
   some (Fl.nx z65)) KQ Ph).bind fun fl9=>match fl9 with
  | .nx s11 =>
   (some (F7 s11 none none (-1)))
  | .rt r=>some r
  | .bk _=>none
abbrev Mt (x:(List (T3 Int Int (Tp Int))) × (Mp (Option Int)) × Int × Unit):Option (List Int):=Fq x.1 x.2.1 x.2.2.1
def Ba (CN:(List (T3 Int Int (Tp Int))))(Cy:(List (List Int)))(begin_:Int)(Dh:(List Bool)):Option (Option (List Int)) :=
 (some begin_).bind fun k9=>(some none).bind fun a11=>(some (Mp.mk [(k9,a11)])).bind fun came_by_ =>
 (some [begin_]).bind fun KU =>
 (some (0:Int)).bind fun BK =>
 (FK (S:=((Mp (Option Int)) × (List Int) × Int)) (ρ:=(Option (List Int))) (fun s29=>(some (decide (s29.2.2<(s29.2.1.length:Int))))) (fun s29 =>
   ((some s29.2.1).bind fun t50=>(some s29.2.2).bind fun t51=>atI t50 t51).bind fun Cc =>
   ((some Cy).bind fun t58=>(some Cc).bind fun t59=>atI t58 t59).bind fun as60=>(Ct (S:=((Mp (Option Int)) × (List Int))) (ρ:=(Option (List Int))) (fun (Ai:Int) s67 =>
     ((some Dh).bind fun t81=>(some Ai).bind fun t82=>atI t81 t82).bind fun b83=>cond b83
      ((((some CN).bind fun t97=>(some s67.1).bind fun t98=>(some Ai).bind fun t99=>Fq t97 t98 t99).bind fun t100=>(some (some t100))).bind fun rr106=>some (Fl.rt rr106))
      ((((some CN).bind fun t108=>(some Ai).bind fun t109=>atI t108 t109).bind fun t110=>(some t110.b)).bind fun end_ =>
      (some (!hasM s67.1.l end_)).bind fun b117=>cond b117
       ((some (some Ai)).bind fun a122=>(some end_).bind fun k124=>(OP s67.1 k124 a122).bind fun z132 =>
       (some end_).bind fun a133=>(E4 s67.2 a133).bind fun z141 =>
       some (Fl.nx (z132,z141)))
       (some (Fl.nx (s67.1,s67.2))))) as60 (s29.1,s29.2.1)).bind fun fl62=>match fl62 with
    | .nx s67 =>
     (some (s29.2.2+(1:Int))).bind fun BK =>
     some (Fl.nx (s67.1,s67.2,BK))
    | .rt r=>some (Fl.rt r)
    | .bk _=>none) KQ (came_by_,KU,BK)).bind fun fl27=>match fl27 with
  | .nx s29 =>
   (some none)
  | .rt r=>some r
  | .bk _=>none
abbrev DR (x:(List (T3 Int Int (Tp Int))) × (List (List Int)) × Int × (List Bool) × Unit):Option (Option (List Int)):=Ba x.1 x.2.1 x.2.2.1 x.2.2.2.1
def BO (taken_:(Mp Bool))(Bb:Int):Option (List Int) :=
 (((some Bb).bind fun t1=>Iv 0 t1).bind fun t6=>DA (fun (DF:Int)=>(some (!hasM taken_.l DF))) (fun (DF:Int)=>(some DF)) t6)
abbrev EG (x:(Mp Bool) × Int × Unit):Option (List Int):=BO x.1 x.2.1
def Cz (taken_:(Option (Mp Bool)))(Bb:Int):Option Bool :=
 ((some taken_.isSome).bind fun t6=>cond t6 (((((some taken_).bind fun t1=>t1).bind fun t2=>(some Bb).bind fun t3=>BO t2 t3).bind fun t4=>(some (t4.length:Int))).bind fun t5=>(some (decide (t5=(0:Int))))) (some false))
abbrev IZ (x:(Option (Mp Bool)) × Int × Unit):Option Bool:=Cz x.1 x.2.1
def ED (CN:(List (T3 Int Int (Tp Int))))(DF:Int)(HN:(List Int)):Option Bool :=
 (((some HN).bind fun t9=>Cw (fun (Ai:Int)=>((((some CN).bind fun t5=>(some Ai).bind fun t6=>atI t5 t6).bind fun t7=>(some t7.c)).bind fun t8=>(some (decide (DF∈t8.l))))) t9).bind fun t10=>(some (t10.any id)))
abbrev Ke (x:(List (T3 Int Int (Tp Int))) × Int × (List Int) × Unit):Option Bool:=ED x.1 x.2.1 x.2.2.1
def CQ (net_:(T3 Int (List (T3 Int Int (Tp Int))) Int))(BW:(List (Option Int)))(begin_:Int):Option (List Int) :=
 (some net_.b).bind fun CN =>
 ((some net_).bind fun t20=>((some CN).bind fun t19=>Cw (fun (way_:(T3 Int Int (Tp Int)))=>(((some BW).bind fun t11=>(some way_.a).bind fun t12=>atI t11 t12).bind fun t17=>((some BW).bind fun t15=>(some way_.b).bind fun t16=>atI t15 t16).bind fun t18=>(some (decide (t17=t18))))) t19).bind fun t21=>C3 t20 t21).bind fun Cy =>
 (some ([]:List Int)).bind fun ring_ =>
 (some begin_).bind fun Pi =>
 ((some net_.c).bind fun t42=>Iv 0 t42).bind fun as43=>(Ct (S:=((List Int) × Int)) (ρ:=(List Int)) (fun (DF:Int) s50 =>
   (((some CN).bind fun t69=>(some DF).bind fun t70=>(some s50.1).bind fun t71=>ED t69 t70 t71).bind fun t72=>(some (!t72))).bind fun b73=>cond b73
    ((((some CN).bind fun t92=>(some Cy).bind fun t93=>(some s50.2).bind fun t94=>((some CN).bind fun t91=>Cw (fun (way_:(T3 Int Int (Tp Int)))=>(some (decide (DF∈way_.c.l)))) t91).bind fun t95=>Ba t92 t93 t94 t95).bind fun t96=>t96).bind fun a97=>(extO s50.1 a97).bind fun z105 =>
    (((some CN).bind fun t113=>((some z105).bind fun t111=>(some (-(1:Int))).bind fun t112=>atI t111 t112).bind fun t114=>atI t113 t114).bind fun t115=>(some t115.b)).bind fun Pi =>
    some (Fl.nx (z105,Pi)))
    (some (Fl.nx (s50.1,s50.2)))) as43 (ring_,Pi)).bind fun fl45=>match fl45 with
  | .nx s50 =>
   (some ((decide ((s50.1.length:Int)=(0:Int))) || (!decide (s50.2=begin_)))).bind fun b128=>(cond b128
    ((((some CN).bind fun t151=>(some Cy).bind fun t152=>(some s50.2).bind fun t153=>((some CN).bind fun t150=>Cw (fun (way_:(T3 Int Int (Tp Int)))=>(some (decide (way_.b=begin_)))) t150).bind fun t154=>Ba t151 t152 t153 t154).bind fun t155=>t155).bind fun a156=>(extO s50.1 a156).bind fun z164 =>
    some z164)
    (some s50.1)).bind fun s133 =>
   (some s133)
  | .rt r=>some r
  | .bk _=>none
abbrev FM (x:(T3 Int (List (T3 Int Int (Tp Int))) Int) × (List (Option Int)) × Int × Unit):Option (List Int):=CQ x.1 x.2.1 x.2.2.1
def Dv (net_:(T3 Int (List (T3 Int Int (Tp Int))) Int))(Cc:Int):Option (Option ((List Int) × (List Int))) :=
 (some net_.b).bind fun CN =>
 ((some net_).bind fun t7=>Dm t7).bind fun BW =>
 ((some net_).bind fun t14=>(some BW).bind fun t15=>C4 t14 t15).bind fun EA =>
 ((some BW).bind fun t31=>Cw (fun (FA:(Option Int))=>(((some EA).bind fun t27=>((some FA).bind fun t26=>t26).bind fun t28=>atI t27 t28).bind fun t29=>(some net_.c).bind fun t30=>Cz t29 t30)) t31).bind fun RL =>
 ((some RL).bind fun t38=>(some Cc).bind fun t39=>atI t38 t39).bind fun b40=>cond b40
  ((((some ([]:List Int)).bind fun t49=>((some net_).bind fun t45=>(some BW).bind fun t46=>(some Cc).bind fun t47=>CQ t45 t46 t47).bind fun t50=>some (t49,t50)).bind fun t51=>(some (some t51))))
  (((some net_).bind fun t62=>((some CN).bind fun t61=>Cw (fun (way_:(T3 Int Int (Tp Int)))=>(some true)) t61).bind fun t63=>C3 t62 t63).bind fun Cy =>
  ((some CN).bind fun t77=>(some Cy).bind fun t78=>(some Cc).bind fun t79=>((some CN).bind fun t76=>Cw (fun (way_:(T3 Int Int (Tp Int)))=>((some RL).bind fun t74=>(some way_.b).bind fun t75=>atI t74 t75)) t76).bind fun t80=>Ba t77 t78 t79 t80).bind fun stem_ =>
  (some stem_.isNone).bind fun b87=>cond b87
   ((some none))
   (((((some stem_).bind fun t97=>t97).bind fun t107=>((some net_).bind fun t104=>(some BW).bind fun t105=>(((some CN).bind fun t101=>(((some stem_).bind fun t98=>t98).bind fun t99=>(some (-(1:Int))).bind fun t100=>atI t99 t100).bind fun t102=>atI t101 t102).bind fun t103=>(some t103.b)).bind fun t106=>CQ t104 t105 t106).bind fun t108=>(some (t107,t108))).bind fun t109=>(some (some t109)))))
abbrev JP (x:(T3 Int (List (T3 Int Int (Tp Int))) Int) × Int × Unit):Option (Option ((List Int) × (List Int))):=Dv x.1 x.2.1
def FG (leads_:(List (List Int)))(Dh:(List Bool)):Option (List Bool) :=
 (some Dh).bind fun found_ =>
 ((some Dh).bind fun t14=>DA (fun (pc13:(Int × Bool))=>(some pc13.2)) (fun (pc13:(Int × Bool))=>(some pc13.1)) (Bp 0 t14)).bind fun KU =>
 (FK (S:=((List Bool) × (List Int))) (ρ:=(List Bool)) (fun s25=>(some (decide ((0:Int)<(s25.2.length:Int))))) (fun s25 =>
   (MI s25.2).bind fun pr41 =>
   ((some leads_).bind fun t46=>(some pr41.1).bind fun t47=>atI t46 t47).bind fun as48=>(Ct (S:=((List Bool) × (List Int))) (ρ:=(List Bool)) (fun (Dc:Int) s55 =>
     (((some s55.1).bind fun t72=>(some Dc).bind fun t73=>atI t72 t73).bind fun t74=>(some (!t74))).bind fun b75=>cond b75
      ((some true).bind fun a80=>(some Dc).bind fun k82=>(J7 s55.1 k82 a80).bind fun z91 =>
      (some Dc).bind fun a92=>(E4 s55.2 a92).bind fun z100 =>
      some (Fl.nx (z91,z100)))
      (some (Fl.nx (s55.1,s55.2)))) as48 (s25.1,pr41.2)).bind fun fl50=>match fl50 with
    | .nx s55 =>
     some (Fl.nx (s55.1,s55.2))
    | .rt r=>some (Fl.rt r)
    | .bk _=>none) KQ (found_,KU)).bind fun fl23=>match fl23 with
  | .nx s25 =>
   (some s25.1)
  | .rt r=>some r
  | .bk _=>none
abbrev Jd (x:(List (List Int)) × (List Bool) × Unit):Option (List Bool):=FG x.1 x.2.1
def DP (taken_:(Option (Mp Bool)))(Bb:Int):Option (Option Int) :=
 (some taken_.isNone).bind fun b1=>cond b1
  ((some none))
  ((((((some taken_).bind fun t11=>t11).bind fun t12=>(some Bb).bind fun t13=>BO t12 t13).bind fun t14=>(some (0:Int)).bind fun t15=>atI t14 t15).bind fun t16=>(some (some t16))))
abbrev Ly (x:(Option (Mp Bool)) × Int × Unit):Option (Option Int):=DP x.1 x.2.1
def Jp (net_:(T3 Int (List (T3 Int Int (Tp Int))) Int)):Option (List (Option (Int × (Option Int)))) :=
 (some net_.c).bind fun Bb =>
 ((some net_).bind fun t7=>Dm t7).bind fun BW =>
 ((some net_).bind fun t14=>(some BW).bind fun t15=>C4 t14 t15).bind fun EA =>
 (((some net_).bind fun t22=>DC t22).bind fun t33=>((some BW).bind fun t32=>Cw (fun (FA:(Option Int))=>(((some EA).bind fun t28=>((some FA).bind fun t27=>t27).bind fun t29=>atI t28 t29).bind fun t30=>(some Bb).bind fun t31=>Cz t30 t31)) t32).bind fun t34=>FG t33 t34).bind fun free_ =>
 (some ([]:List (Option (Int × (Option Int))))).bind fun Oj =>
 (some BW).bind fun as49=>(Ct (S:=((List (Option (Int × (Option Int)))))) (ρ:=(List (Option (Int × (Option Int))))) (fun (pr72:(Int × (Option Int))) s56 =>
   (((some free_).bind fun t75=>(some pr72.1).bind fun t76=>atI t75 t76).bind fun t86=>cond t86 (some none) ((((some pr72.2).bind fun t77=>t77).bind fun t83=>(((some EA).bind fun t79=>((some pr72.2).bind fun t78=>t78).bind fun t80=>atI t79 t80).bind fun t81=>(some Bb).bind fun t82=>DP t81 t82).bind fun t84=>(some (t83,t84))).bind fun t85=>(some (some t85)))).bind fun a87=>(E4 s56 a87).bind fun z95 =>
   some (Fl.nx z95)) (Bp 0 as49) Oj).bind fun fl51=>match fl51 with
  | .nx s56 =>
   (some s56)
  | .rt r=>some r
  | .bk _=>none
abbrev RB (x:(T3 Int (List (T3 Int Int (Tp Int))) Int) × Unit):Option (List (Option (Int × (Option Int)))):=Jp x.1
def Cp (net_:(T3 Int (List (T3 Int Int (Tp Int))) Int))(Qt:(List Int)):Option (List (T3 Int Int (Option Int))) :=
 (((some net_.a).bind fun t1=>Iv 0 t1).bind fun t6=>Cw (fun (Cc:Int)=>(some false)) t6).bind fun Dh =>
 (some Qt).bind fun as15=>(Ct (S:=((List Bool))) (ρ:=(List (T3 Int Int (Option Int)))) (fun (DX:Int) s22 =>
   (some true).bind fun a35=>(some DX).bind fun k37=>(J7 s22 k37 a35).bind fun z46 =>
   some (Fl.nx z46)) as15 Dh).bind fun fl17=>match fl17 with
  | .nx s22 =>
   (((some net_).bind fun t55=>EF t55).bind fun t56=>(some s22).bind fun t57=>FG t56 t57).bind fun RI =>
   (some ([]:List (T3 Int Int (Option Int)))).bind fun Ls =>
   ((some net_).bind fun t72=>Jp t72).bind fun as73=>(Ct (S:=((List (T3 Int Int (Option Int))))) (ρ:=(List (T3 Int Int (Option Int)))) (fun (pr96:(Int × (Option (Int × (Option Int))))) s80 =>
     ((some RI).bind fun t99=>(some pr96.1).bind fun t100=>atI t99 t100).bind fun b101=>cond b101
      (((((some pr96.2).bind fun t106=>t106).bind fun t107=>(some t107.1)).bind fun t110=>(((some pr96.2).bind fun t108=>t108).bind fun t109=>(some t109.2)).bind fun t111=>(some (T3.mk pr96.1 t110 t111))).bind fun a112=>(E4 s80 a112).bind fun z120 =>
      some (Fl.nx z120))
      (some (Fl.nx s80))) (Bp 0 as73) Ls).bind fun fl75=>match fl75 with
    | .nx s80 =>
     (some s80)
    | .rt r=>some r
    | .bk _=>none
  | .rt r=>some r
  | .bk _=>none
abbrev IC (x:(T3 Int (List (T3 Int Int (Tp Int))) Int) × (List Int) × Unit):Option (List (T3 Int Int (Option Int))):=Cp x.1 x.2.1
def El (watcher_:(T4 Str Int (List (T4 Int Str Int (Tp Int))) Int))(run_:((List Str) × (List Str))):Option D :=
 ((some watcher_).bind fun t1=>(some run_).bind fun t2=>Dr t1 t2).bind fun along_ =>
 (some along_.1).bind fun net_ =>
 (some along_.2).bind fun Kh =>
 ((some net_).bind fun t21=>(some (0:Int)).bind fun t22=>Dv t21 t22).bind fun found_ =>
 (some found_.isSome).bind fun b29=>cond b29
  ((((((((((some found_).bind fun t34=>t34).bind fun t35=>(some t35.1)).bind fun t42=>Cw (fun (way_:Int)=>((some Kh).bind fun t40=>(some way_).bind fun t41=>atI t40 t41)) t42).bind fun t43=>(some (ToD.to t43))).bind fun t55=>((((((some found_).bind fun t44=>t44).bind fun t45=>(some t45.2)).bind fun t52=>Cw (fun (way_:Int)=>((some Kh).bind fun t50=>(some way_).bind fun t51=>atI t50 t51)) t52).bind fun t53=>(some (ToD.to t53))).bind fun t54=>(some [t54])).bind fun t56=>(some (t55::t56))).bind fun t57=>(some ((ToD.to ("taken" : Str))::t57))).bind fun t58=>(some (Tp.mk t58))).bind fun t59=>(some (ToD.to t59))))
  ((some watcher_.b).bind fun Cd =>
  ((((((((some net_).bind fun t71=>(some [(0:Int)]).bind fun t72=>Cp t71 t72).bind fun t88=>Cw (fun (pc75:(T3 Int Int (Option Int)))=>(((some pc75.a).bind fun t82=>(some Cd).bind fun t83=>Ps t82 t83).bind fun t86=>((some pc75.a).bind fun t84=>(some Cd).bind fun t85=>HG t84 t85).bind fun t87=>(some (T4.mk t86 t87 pc75.b pc75.c)))) t88).bind fun t89=>(some (ToD.to t89))).bind fun t90=>(some [t90])).bind fun t91=>(some ((ToD.to ("left" : Str))::t91))).bind fun t92=>(some (Tp.mk t92))).bind fun t93=>(some (ToD.to t93))))
abbrev J3 (x:(T4 Str Int (List (T4 Int Str Int (Tp Int))) Int) × ((List Str) × (List Str)) × Unit):Option D:=El x.1 x.2.1
def CL (QW:D):Option Bool :=
 (some ((isK "int" QW) && (!(isK "bool" QW))))
abbrev DU (x:D × Unit):Option Bool:=CL x.1
def DN (watching_:(T4 Str Int (List (T4 Int Str Int (Tp Int))) Int))(Ao:((List Str) × (List Str)))(HN:(List D))(BK:Int)(LQ:Int):Option (Option (T3 Int Int Int)) :=
 (((some Ao.1).bind fun t1=>(some Ao.2).bind fun t2=>catL t1 t2).bind fun t9=>Cw (fun (one_:Str)=>((some one_).bind fun t7=>(some watching_.a).bind fun t8=>Cf t7 t8)) t9).bind fun Ll =>
 (some (Mp.mk ([]:List (Int × Bool)))).bind fun Bb =>
 (some HN).bind fun as24=>(Ct (S:=(Int × Int × (Mp Bool))) (ρ:=(Option (T3 Int Int Int))) (fun (Ai:D) s31 =>
   ((((some Ai).bind fun t50=>CL t50).bind fun t51=>(some (!t51))).bind fun t57=>cond t57 (some true) ((((some Ai).bind fun t52=>Dk t52).bind fun t53=>(some (decide (t53<(0:Int))))).bind fun t56=>cond t56 (some true) (((some Ai).bind fun t54=>Dk t54).bind fun t55=>(some (decide ((watching_.c.length:Int)<=t55)))))).bind fun b58=>cond b58
    ((some none).bind fun rr68=>some (Fl.rt rr68))
    (((some watching_.c).bind fun t71=>((some Ai).bind fun t70=>Dk t70).bind fun t72=>atI t71 t72).bind fun row_ =>
    ((some (!decide (row_.a=s31.2.1))).bind fun t85=>cond t85 (some true) ((some row_.b).bind fun t83=>((some Ll).bind fun t81=>(some s31.1).bind fun t82=>atI t81 t82).bind fun t84=>some (!decide (t83=t84)))).bind fun b86=>cond b86
     ((some none).bind fun rr96=>some (Fl.rt rr96))
     ((some row_.c).bind fun LQ =>
     ((some s31.1).bind fun t104=>(some Ao).bind fun t105=>CM t104 t105).bind fun BK =>
     (some row_.d.l).bind fun as112=>(Ct (S:=((Mp Bool))) (ρ:=(Option (T3 Int Int Int))) (fun (DF:Int) s119 =>
       (some true).bind fun a132=>(some DF).bind fun k134=>(OP s119 k134 a132).bind fun z142 =>
       some (Fl.nx z142)) as112 s31.2.2).bind fun fl114=>match fl114 with
      | .nx s119 =>
       some (Fl.nx (BK,LQ,s119))
      | .rt r=>some (Fl.rt r)
      | .bk _=>none))) as24 (BK,LQ,Bb)).bind fun fl26=>match fl26 with
  | .nx s31 =>
   (some (some (T3.mk s31.1 s31.2.1 ((s31.2.2.l.length:Nat):Int))))
  | .rt r=>some r
  | .bk _=>none
abbrev Go (x:(T4 Str Int (List (T4 Int Str Int (Tp Int))) Int) × ((List Str) × (List Str)) × (List D) × Int × Int × Unit):Option (Option (T3 Int Int Int)):=DN x.1 x.2.1 x.2.2.1 x.2.2.2.1 x.2.2.2.2.1
def CJ (watching_:(T4 Str Int (List (T4 Int Str Int (Tp Int))) Int))(Ao:((List Str) × (List Str)))(CV:D):Option Bool :=
 ((((some CV).bind fun t1=>Hs t1).bind fun t2=>(some (!decide (t2=(3:Int))))).bind fun t12=>cond t12 (some true) (((((some CV).bind fun t3=>(some (1:Int)).bind fun t4=>atD t3 t4).bind fun t5=>(some (isK "list" t5))).bind fun t6=>(some (!t6))).bind fun t11=>cond t11 (some true) ((((some CV).bind fun t7=>(some (2:Int)).bind fun t8=>atD t7 t8).bind fun t9=>(some (isK "list" t9))).bind fun t10=>(some (!t10))))).bind fun b13=>cond b13
  ((some false))
  (((some ((Ao.1.length:Int)+(Ao.2.length:Int))).bind fun t23=>(some watching_.b).bind fun t24=>JO t23 t24).bind fun most_ =>
  (((((some CV).bind fun t31=>(some (1:Int)).bind fun t32=>atD t31 t32).bind fun t33=>Hs t33).bind fun t34=>(some (decide (most_<=t34)))).bind fun t47=>cond t47 (some true) (((((some CV).bind fun t35=>(some (2:Int)).bind fun t36=>atD t35 t36).bind fun t37=>Hs t37).bind fun t40=>((some most_).bind fun t38=>(some (watching_.d+(1:Int))).bind fun t39=>JO t38 t39).bind fun t41=>(some (decide (t41<t40)))).bind fun t46=>cond t46 (some true) ((((some CV).bind fun t42=>(some (2:Int)).bind fun t43=>atD t42 t43).bind fun t44=>Hs t44).bind fun t45=>(some (decide (t45=(0:Int))))))).bind fun b48=>cond b48
   ((some false))
   ((((((some CV).bind fun t58=>(some (1:Int)).bind fun t59=>atD t58 t59).bind fun t60=>Hs t60).bind fun t61=>(some (decide (t61<(Ao.1.length:Int))))).bind fun t68=>cond t68 (some true) (((((some CV).bind fun t62=>(some (2:Int)).bind fun t63=>atD t62 t63).bind fun t64=>Hs t64).bind fun t65=>(some (Ao.2.length:Int)).bind fun t66=>HG t65 t66).bind fun t67=>(some (!decide (t67=(0:Int)))))).bind fun b69=>cond b69
    ((some false))
    (((some watching_).bind fun t82=>(some Ao).bind fun t83=>(((some CV).bind fun t79=>(some (1:Int)).bind fun t80=>atD t79 t80).bind fun t81=>Ms t81).bind fun t84=>(some (0:Int)).bind fun t85=>(some (0:Int)).bind fun t86=>DN t82 t83 t84 t85 t86).bind fun begin_ =>
    (some begin_.isNone).bind fun b93=>cond b93
     ((some false))
     (((some watching_).bind fun t110=>(some Ao).bind fun t111=>(((some CV).bind fun t103=>(some (2:Int)).bind fun t104=>atD t103 t104).bind fun t105=>Ms t105).bind fun t112=>(((some begin_).bind fun t106=>t106).bind fun t107=>(some t107.a)).bind fun t113=>(((some begin_).bind fun t108=>t108).bind fun t109=>(some t109.b)).bind fun t114=>DN t110 t111 t112 t113 t114).bind fun end_ =>
     ((some end_.isSome).bind fun t133=>cond t133 (((((some end_).bind fun t121=>t121).bind fun t122=>(some (t122.a,t122.b))).bind fun t127=>(((some begin_).bind fun t125=>t125).bind fun t126=>(some (t126.a,t126.b))).bind fun t128=>(some (decide (t127=t128)))).bind fun t132=>cond t132 ((((some end_).bind fun t129=>t129).bind fun t130=>(some t130.c)).bind fun t131=>(some (decide (t131=watching_.d)))) (some false)) (some false))))))
abbrev Fi (x:(T4 Str Int (List (T4 Int Str Int (Tp Int))) Int) × ((List Str) × (List Str)) × D × Unit):Option Bool:=CJ x.1 x.2.1 x.2.2.1
def Dq (watching_:(T4 Str Int (List (T4 Int Str Int (Tp Int))) Int))(Ao:((List Str) × (List Str)))(Ls:(List D)):Option (MpRF (Int × (Option Int))) :=
 (some (MpR.mk ([]:List (Rk × (Int × (Option Int)))))).bind fun ranks_here_ =>
 (some ((Ao.1.length:Int)+(Ao.2.length:Int))).bind fun Hm =>
 (some Ls).bind fun as15=>(Ct (S:=((MpR (Int × (Option Int))))) (ρ:=(MpRF (Int × (Option Int)))) (fun (one_:D) s22 =>
   ((some (!(isK "tuple" one_))).bind fun t37=>cond t37 (some true) (((some one_).bind fun t35=>Hs t35).bind fun t36=>(some (!decide (t36=(4:Int)))))).bind fun b38=>cond b38
    ((some (MpRF.mk ([]:List (Rk × (Int × (Option Int)))))).bind fun rr48=>some (Fl.rt rr48))
    ((((((some one_).bind fun t50=>(some (0:Int)).bind fun t51=>atD t50 t51).bind fun t52=>CL t52).bind fun t53=>(some (!t53))).bind fun t70=>cond t70 (some true) (((((some one_).bind fun t54=>(some (1:Int)).bind fun t55=>atD t54 t55).bind fun t56=>CL t56).bind fun t57=>(some (!t57))).bind fun t69=>cond t69 (some true) (((((some one_).bind fun t58=>(some (2:Int)).bind fun t59=>atD t58 t59).bind fun t60=>CL t60).bind fun t61=>(some (!t61))).bind fun t68=>cond t68 (some true) ((((some one_).bind fun t64=>(some (2:Int)).bind fun t65=>atD t64 t65).bind fun t66=>Dk t66).bind fun t67=>(some (decide (t67<(0:Int)))))))).bind fun b71=>cond b71
     ((some (MpRF.mk ([]:List (Rk × (Int × (Option Int)))))).bind fun rr81=>some (Fl.rt rr81))
     ((((((some one_).bind fun t117=>(some (0:Int)).bind fun t118=>atD t117 t118).bind fun t119=>Dk t119).bind fun t120=>(some (decide (t120<(0:Int))))).bind fun t146=>cond t146 (some true) (((((some one_).bind fun t123=>(some (0:Int)).bind fun t124=>atD t123 t124).bind fun t125=>Dk t125).bind fun t126=>(some (decide (Hm<=t126)))).bind fun t145=>cond t145 (some true) (((((some one_).bind fun t129=>(some (1:Int)).bind fun t130=>atD t129 t130).bind fun t131=>Dk t131).bind fun t132=>(some (decide (t132<(0:Int))))).bind fun t144=>cond t144 (some true) (((((some one_).bind fun t135=>(some (1:Int)).bind fun t136=>atD t135 t136).bind fun t137=>Dk t137).bind fun t138=>(some (decide (watching_.b<=t138)))).bind fun t143=>cond t143 (some true) (((some one_).bind fun t141=>slD2 t141).bind fun t142=>(some (Le s22.l t142))))))).bind fun b147=>cond b147
      ((some (MpRF.mk ([]:List (Rk × (Int × (Option Int)))))).bind fun rr157=>some (Fl.rt rr157))
      (((((some one_).bind fun t159=>(some (3:Int)).bind fun t160=>atD t159 t160).bind fun t161=>(some (!isNonD t161))).bind fun t180=>cond t180 (((((some one_).bind fun t162=>(some (3:Int)).bind fun t163=>atD t162 t163).bind fun t164=>CL t164).bind fun t165=>(some (!t165))).bind fun t179=>cond t179 (some true) (((((some one_).bind fun t168=>(some (3:Int)).bind fun t169=>atD t168 t169).bind fun t170=>Dk t170).bind fun t171=>(some (decide (t171<(0:Int))))).bind fun t178=>cond t178 (some true) ((((some one_).bind fun t174=>(some (3:Int)).bind fun t175=>atD t174 t175).bind fun t176=>Dk t176).bind fun t177=>(some (decide (watching_.d<=t177)))))) (some false)).bind fun b181=>cond b181
       ((some (MpRF.mk ([]:List (Rk × (Int × (Option Int)))))).bind fun rr191=>some (Fl.rt rr191))
       (((((some one_).bind fun t193=>(some (2:Int)).bind fun t194=>atD t193 t194).bind fun t195=>Dk t195).bind fun t199=>(((some one_).bind fun t196=>(some (3:Int)).bind fun t197=>atD t196 t197).bind fun t198=>Q8 t198).bind fun t200=>(some (t199,t200))).bind fun a217=>((((((some one_).bind fun t203=>(some (0:Int)).bind fun t204=>atD t203 t204).bind fun t205=>Dk t205).bind fun t206=>(some (SI.i t206))).bind fun t214=>(((((some one_).bind fun t209=>(some (1:Int)).bind fun t210=>atD t209 t210).bind fun t211=>Dk t211).bind fun t212=>(some (SI.i t212))).bind fun t213=>(some [t213])).bind fun t215=>(some (t214::t215))).bind fun t216=>(some (Rk.mk t216))).bind fun k219=>(putRO s22 k219 a217).bind fun z227 =>
       some (Fl.nx z227)))))) as15 ranks_here_).bind fun fl17=>match fl17 with
  | .nx s22 =>
   some (MpRF.mk s22.l)
  | .rt r=>some r
  | .bk _=>none
abbrev JK (x:(T4 Str Int (List (T4 Int Str Int (Tp Int))) Int) × ((List Str) × (List Str)) × (List D) × Unit):Option (MpRF (Int × (Option Int))):=Dq x.1 x.2.1 x.2.2.1
def CF (watching_:(T4 Str Int (List (T4 Int Str Int (Tp Int))) Int)):Option (MpR (List (T4 Int Str Int (Tp Int)))) :=
 (some (MpR.mk ([]:List (Rk × (List (T4 Int Str Int (Tp Int))))))).bind fun found_ =>
 (some watching_.c).bind fun as9=>(Ct (S:=((MpR (List (T4 Int Str Int (Tp Int)))))) (ρ:=(MpR (List (T4 Int Str Int (Tp Int))))) (fun (row_:(T4 Int Str Int (Tp Int))) s16 =>
    ((some (Rk.mk [(SI.i row_.a),(SI.s row_.b)])).bind fun k36=>(addLO s16 k36 row_).bind fun z44 =>
    some (Fl.nx z44))) as9 found_).bind fun fl11=>match fl11 with
  | .nx s16 =>
   (some s16)
  | .rt r=>some r
  | .bk _=>none
abbrev Fs (x:(T4 Str Int (List (T4 Int Str Int (Tp Int))) Int) × Unit):Option (MpR (List (T4 Int Str Int (Tp Int)))):=CF x.1
def Bq (watching_:(T4 Str Int (List (T4 Int Str Int (Tp Int))) Int))(Ao:((List Str) × (List Str)))(CV:D):Option Bool :=
 ((((some CV).bind fun t1=>Hs t1).bind fun t2=>(some (!decide (t2=(2:Int))))).bind fun t7=>cond t7 (some true) ((((some CV).bind fun t3=>(some (1:Int)).bind fun t4=>atD t3 t4).bind fun t5=>(some (isK "list" t5))).bind fun t6=>(some (!t6)))).bind fun b8=>cond b8
  ((some false))
  (((some watching_).bind fun t21=>(some Ao).bind fun t22=>(((some CV).bind fun t18=>(some (1:Int)).bind fun t19=>atD t18 t19).bind fun t20=>Ms t20).bind fun t23=>Dq t21 t22 t23).bind fun ranks_here_ =>
  ((some watching_).bind fun t30=>CF t30).bind fun rows_from_here_ =>
  (((some Ao.1).bind fun t37=>(some Ao.2).bind fun t38=>catL t37 t38).bind fun t45=>Cw (fun (one_:Str)=>((some one_).bind fun t43=>(some watching_.a).bind fun t44=>Cf t43 t44)) t45).bind fun Ll =>
  ((some ranks_here_).bind fun t52=>R7 t52).bind fun as53=>(Ct (S:=Unit) (ρ:=Bool) (fun (at_:Rk) s60 =>
    (((((some at_.tp).bind fun t75=>(some (1:Int)).bind fun t76=>atI t75.l t76).bind fun t84=>((((some Ll).bind fun t80=>(((some at_.tp).bind fun t77=>(some (0:Int)).bind fun t78=>atI t77.l t78).bind fun t79=>asI t79).bind fun t81=>atI t80 t81).bind fun t82=>(some (SI.s t82))).bind fun t83=>(some [t83])).bind fun t85=>(some (t84::t85))).bind fun t86=>(some (Rk.mk t86))).bind fun t87=>(some ((getR rows_from_here_.l t87).getD ([]:List (T4 Int Str Int (Tp Int)))))).bind fun as88=>(Ct (S:=Unit) (ρ:=Bool) (fun (row_:(T4 Int Str Int (Tp Int))) s95 =>
      ((((((((some at_.tp).bind fun t109=>(some (0:Int)).bind fun t110=>atI t109.l t110).bind fun t111=>asI t111).bind fun t112=>(some Ao).bind fun t113=>CM t112 t113).bind fun t114=>(some (SI.i t114))).bind fun t115=>(some [t115,(SI.i row_.c)])).bind fun t116=>(some (Rk.mk t116))).bind fun t117=>(some (getR ranks_here_.l t117))).bind fun to_ =>
      ((some to_.isNone).bind fun t131=>cond t131 (some true) ((((some to_).bind fun t124=>t124).bind fun t125=>(some t125.1)).bind fun t129=>(((some ranks_here_).bind fun t126=>(some at_).bind fun t127=>getR t126.l t127).bind fun t128=>(some t128.1)).bind fun t130=>(some (decide (t130<t129))))).bind fun b132=>cond b132
       ((some false).bind fun rr142=>some (Fl.rt rr142))
       ((((((some to_).bind fun t144=>t144).bind fun t145=>(some t145.1)).bind fun t152=>(((some ranks_here_).bind fun t149=>(some at_).bind fun t150=>getR t149.l t150).bind fun t151=>(some t151.1)).bind fun t153=>(some (decide (t152=t153)))).bind fun t175=>cond t175 (((((some to_).bind fun t154=>t154).bind fun t155=>(some t155.2)).bind fun t156=>(some t156.isNone)).bind fun t174=>cond t174 (some true) (((((some to_).bind fun t157=>t157).bind fun t158=>(some t158.2)).bind fun t165=>(((some ranks_here_).bind fun t162=>(some at_).bind fun t163=>getR t162.l t163).bind fun t164=>(some t164.2)).bind fun t166=>(some (!decide (t165=t166)))).bind fun t173=>cond t173 (some true) (((((some to_).bind fun t169=>t169).bind fun t170=>(some t170.2)).bind fun t171=>t171).bind fun t172=>(some (decide (t172∈row_.d.l)))))) (some false)).bind fun b176=>cond b176
        ((some false).bind fun rr186=>some (Fl.rt rr186))
        (some (Fl.nx ())))) as88 ()).bind fun fl90=>match fl90 with
     | .nx s95 =>
      some (Fl.nx ())
     | .rt r=>some (Fl.rt r)
     | .bk _=>none) as53 ()).bind fun fl55=>match fl55 with
   | .nx s60 =>
    (some (Le ranks_here_.l (Rk.mk [(SI.i (0:Int)),(SI.i (0:Int))])))
   | .rt r=>some r
   | .bk _=>none)
abbrev F8 (x:(T4 Str Int (List (T4 Int Str Int (Tp Int))) Int) × ((List Str) × (List Str)) × D × Unit):Option Bool:=Bq x.1 x.2.1 x.2.2.1
def CK (watching_:(T4 Str Int (List (T4 Int Str Int (Tp Int))) Int))(Ao:((List Str) × (List Str)))(CV:D):Option Bool :=
 ((some (!(isK "tuple" CV))).bind fun t3=>cond t3 (some true) (((some CV).bind fun t1=>Hs t1).bind fun t2=>(some (decide (t2<(2:Int)))))).bind fun b4=>cond b4
  ((some false))
  (((((some CV).bind fun t16=>(some (0:Int)).bind fun t17=>atD t16 t17).bind fun t18=>Io t18).bind fun t19=>(some (decide (t19=("taken" : Str))))).bind fun b20=>cond b20
   (((some watching_).bind fun t25=>(some Ao).bind fun t26=>(some CV).bind fun t27=>CJ t25 t26 t27))
   ((((((some CV).bind fun t35=>(some (0:Int)).bind fun t36=>atD t35 t36).bind fun t37=>Io t37).bind fun t38=>(some (decide (t38=("left" : Str))))).bind fun t42=>cond t42 ((some watching_).bind fun t39=>(some Ao).bind fun t40=>(some CV).bind fun t41=>Bq t39 t40 t41) (some false))))
abbrev Er (x:(T4 Str Int (List (T4 Int Str Int (Tp Int))) Int) × ((List Str) × (List Str)) × D × Unit):Option Bool:=CK x.1 x.2.1 x.2.2.1
def PB (script_:Scr):Option Bool :=
 (((some script_).bind fun t1=>(some (0:Int)).bind fun t2=>Az t1 t2).bind fun t3=>Du t3).bind fun Am =>
 ((((some script_).bind fun t10=>(some (0:Int)).bind fun t11=>Az t10 t11).bind fun t12=>(some (t12 % (9:Int)))).bind fun t13=>(some (decide (t13=(4:Int))))).bind fun b14=>(cond b14
  ((some ("" : Str)).bind fun Am =>
  some Am)
  (some Am)).bind fun s19 =>
 ((some ("" : Str)).bind fun t37=>(((some s19).bind fun t34=>(some ("bmz" : Str)).bind fun t35=>RZ t34 t35).bind fun t36=>LZ t36).bind fun t38=>LS t37 t38).bind fun seen_lamps_ =>
 ((some script_).bind fun t52=>(some (3:Int)).bind fun t53=>(((some script_).bind fun t45=>(some (1:Int)).bind fun t46=>Az t45 t46).bind fun t47=>(some (t47 % (5:Int)))).bind fun t54=>((((some script_).bind fun t48=>(some (2:Int)).bind fun t49=>Az t48 t49).bind fun t50=>(some (t50 % (5:Int)))).bind fun t51=>(some ((1:Int)+t51))).bind fun t55=>(some seen_lamps_).bind fun t56=>F0 t52 t53 t54 t55 t56).bind fun Ao =>
 ((some script_).bind fun t63=>(some (12:Int)).bind fun t64=>(some s19).bind fun t65=>(some Ao).bind fun t66=>DD t63 t64 t65 t66).bind fun watching_ =>
 ((some script_).bind fun t73=>(some (30:Int)).bind fun t74=>(some s19).bind fun t75=>(some Ao).bind fun t76=>DD t73 t74 t75 t76).bind fun Dc =>
 (some (T4.mk s19 watching_.b watching_.c watching_.d)).bind fun Ir =>
 (some (Ao.1,Ao.2)).bind fun handed_run_ =>
 ((some Ir).bind fun t95=>(some handed_run_).bind fun t96=>El t95 t96).bind fun CV =>
 ((((some watching_).bind fun t103=>(some Ao).bind fun t104=>(some CV).bind fun t105=>CK t103 t104 t105).bind fun t106=>(some (!t106))).bind fun t107=>cond t107 (some true) (some ((!decide (Ir=watching_)) || (!decide (handed_run_=Ao))))).bind fun b108=>cond b108
  ((some false))
  ((((some Dc).bind fun t120=>(some Ao).bind fun t121=>((some Dc).bind fun t118=>(some Ao).bind fun t119=>El t118 t119).bind fun t122=>CK t120 t121 t122).bind fun t123=>(some (!t123))).bind fun b124=>cond b124
   ((some false))
   (((some Ir).bind fun t134=>(some handed_run_).bind fun t135=>El t134 t135).bind fun Pl =>
   ((((some watching_).bind fun t142=>(some Ao).bind fun t143=>(some Pl).bind fun t144=>CK t142 t143 t144).bind fun t145=>(some (!t145))).bind fun t160=>cond t160 (some true) ((((some Pl).bind fun t152=>(some (0:Int)).bind fun t153=>atD t152 t153).bind fun t154=>Io t154).bind fun t158=>(((some CV).bind fun t155=>(some (0:Int)).bind fun t156=>atD t155 t156).bind fun t157=>Io t157).bind fun t159=>(some (!decide (t158=t159))))).bind fun b161=>cond b161
    ((some false))
    ((some (decide (Ir=watching_))))))
abbrev mm_law (x:Scr × Unit):Option Bool:=PB x.1
def top (i:Nat):Stmt:=PySem.Challenge.pw_lassoscribe_k40_rows_gone.main.body.getD i (.Pass ⟨0,0,0,0⟩)
abbrev s_cut:Stmt:=top 1
abbrev IU:Stmt:=top 3
abbrev K5:Stmt:=top 5
abbrev HJ:Stmt:=top 6
abbrev Ei:Stmt:=top 7
abbrev Fg:Stmt:=top 8
abbrev Ij:Stmt:=top 9
abbrev FD:Stmt:=top 10
abbrev Ec:Stmt:=top 11
abbrev JY:Stmt:=top 12
abbrev Js:Stmt:=top 13
abbrev M0:Stmt:=top 14
abbrev QQ:Stmt:=top 15
abbrev GG:Stmt:=top 16
abbrev M7:Stmt:=top 17
abbrev Ea:Stmt:=top 18
abbrev F9:Stmt:=top 19
abbrev Fc:Stmt:=top 20
abbrev Gm:Stmt:=top 21
abbrev Pt:Stmt:=top 23
abbrev Q9:Stmt:=top 24
abbrev Gf:Stmt:=top 26
abbrev O2:Stmt:=top 27
abbrev IT:Stmt:=top 29
abbrev HI:Stmt:=top 30
abbrev Jz:Stmt:=top 31
abbrev KB:Stmt:=top 32
abbrev EJ:Stmt:=top 33
abbrev HP:Stmt:=top 34
abbrev Je:Stmt:=top 35
abbrev GE:Stmt:=top 36
abbrev Ia:Stmt:=top 37
abbrev Ee:Stmt:=top 38
abbrev Hh:Stmt:=top 39
abbrev EW:Stmt:=top 40
abbrev E5:Stmt:=top 41
abbrev Gy:Stmt:=top 42
abbrev Fb:Stmt:=top 43
abbrev Gj:Stmt:=top 44
abbrev s_law:Stmt:=top 45
structure Txt (mg:Str->Option Value):Prop where
 any_:mg "any" = none
 bool_:mg "bool" = none
 enumerate_:mg "enumerate" = none
 int_:mg "int" = none
 isinstance_:mg "isinstance" = none
 len_:mg "len" = none
 list_:mg "list" = none
 range_:mg "range" = none
 reversed_:mg "reversed" = none
 set_:mg "set" = none
 sorted_:mg "sorted" = none
 tuple_:mg "tuple" = none
theorem sc_cut:FnScope ["moment","lamps"] ["moment","lamps"] (AK s_cut):=scm
theorem PV:FnScope ["ways","mark","numbers"] ["ways","mark","numbers"] (AK IU):=scm
theorem II:FnScope ["net","ends","way"] ["net"] (AK K5):=scm
theorem GI:FnScope ["net","begins","way"] ["net"] (AK HJ):=scm
theorem BU:FnScope ["leads","seen","tried","order","begin","path","node","other"] ["leads"] (AK Ei):=scm
theorem E6:FnScope ["knots","ends","begin","number","line","node","other"] ["knots","ends","begin","number"] (AK Fg):=scm
theorem DG:FnScope ["net","order","ends","knots","many","begin"] ["net"] (AK Ij):=scm
theorem Cv:FnScope ["net","knots","within","way","knot","mark"] ["net","knots"] (AK FD):=scm
theorem Jl:FnScope ["taken","marks"] ["taken","marks"] (AK Ec):=scm
theorem Po:FnScope ["taken","marks"] ["taken","marks"] (AK JY):=scm
theorem Qf:FnScope ["taken","marks"] ["taken","marks"] (AK Js):=scm
theorem Fj:FnScope ["leads","wanted","found","line","node","other"] ["leads","wanted"] (AK M0):=scm
theorem FU:FnScope ["net","marks","knots","within","free","rows","node","knot"] ["net"] (AK QQ):=scm
theorem CS:FnScope ["net","starts","wanted","start","needed","paper","node","row"] ["net","starts"] (AK GG):=scm
theorem Mv:FnScope ["ways","came_by","last","path"] ["ways","came_by","last"] (AK M7):=scm
theorem BV:FnScope ["ways","leaving","begin","wanted","came_by","line","place","node","number","end"] ["ways","leaving","begin","wanted"] (AK Ea):=scm
theorem Dj:FnScope ["net","wanted","leaving","number","way"] ["net","wanted"] (AK F9):=scm
theorem C7:FnScope ["net","knots","begin","ways","leaving","ring","here","mark"] ["net","knots","begin"] (AK Fc):=scm
theorem Cj:FnScope ["net","node","ways","knots","within","fair","leaving","stem"] ["net","node"] (AK Gm):=scm
theorem R1:FnScope ["run","place","stem_length"] ["run","place"] (AK Pt):=scm
theorem NT:FnScope ["run","place","spot","stem"] ["run","place"] (AK Q9):=scm
theorem Bi:FnScope ["watcher","run","count","places","ways","gone","place","moment","following","number","row"] ["watcher","run"] (AK Gf):=scm
theorem Fw:FnScope ["watcher","run","along","net","gone","found","count"] ["watcher","run"] (AK O2):=scm
theorem Gg:FnScope ["_law_script","_law_k","_law_number"] ["_law_script","_law_k"] (AK IT):=scm
theorem DT:FnScope ["_law_number","_law_lit_here","_law_left","_law_k"] ["_law_number"] (AK HI):=scm
theorem FC:FnScope ["_law_number","_law_lamps_here","_law_lit_here","_law_letter"] ["_law_number","_law_lamps_here"] (AK Jz):=scm
theorem L9:FnScope ["_law_script","_law_start","_law_stem_many","_law_ring_many","_law_lamps_here","_law_lit_here"] ["_law_script","_law_start","_law_stem_many","_law_ring_many","_law_lamps_here"] (AK KB):=scm
theorem D8:FnScope ["_law_number","_law_marks","_law_some","_law_mark"] ["_law_number","_law_marks"] (AK EJ):=scm
theorem NQ:FnScope ["_law_thing"] ["_law_thing"] (AK HP):=scm
theorem QM:FnScope ["_law_one","_law_lamps_here"] ["_law_one","_law_lamps_here"] (AK Je):=scm
theorem MA:FnScope ["_law_place","_law_run_here"] ["_law_place","_law_run_here"] (AK GE):=scm
theorem Ci:FnScope ["_law_watching","_law_run_here","_law_numbers","_law_place","_law_state","_law_shown","_law_marks","_law_number","_law_row","_law_mark"] ["_law_watching","_law_run_here","_law_numbers","_law_place","_law_state"] (AK Ia):=scm
theorem DS:FnScope ["_law_watching","_law_run_here","_law_told","_law_most","_law_begin","_law_end"] ["_law_watching","_law_run_here","_law_told"] (AK Ee):=scm
theorem Ew:FnScope ["_law_watching","_law_run_here","_law_paper","_law_ranks_here","_law_places","_law_one"] ["_law_watching","_law_run_here","_law_paper"] (AK Hh):=scm
theorem EH:FnScope ["_law_watching","_law_rows_from_here","_law_row"] ["_law_watching"] (AK EW):=scm
theorem BQ:FnScope ["_law_watching","_law_run_here","_law_told","_law_ranks_here","_law_rows_from_here","_law_shown","_law_at","_law_row","_law_to"] ["_law_watching","_law_run_here","_law_told"] (AK E5):=scm
theorem NK:FnScope ["_law_watching","_law_run_here","_law_told"] ["_law_watching","_law_run_here","_law_told"] (AK Gy):=scm
theorem Dy:FnScope ["_law_number","_law_count","_law_lamps_here","_law_marks","_law_begin","_law_end","_law_lit_here"] ["_law_number","_law_count","_law_lamps_here","_law_marks"] (AK Fb):=scm
theorem BE:FnScope ["_law_script","_law_start","_law_lamps_here","_law_run_here","_law_many","_law_count","_law_marks","_law_rows","_law_place","_law_k","_law_row","_law_lit_here"] ["_law_script","_law_start","_law_lamps_here","_law_run_here"] (AK Gj):=scm
theorem FJ:FnScope ["_law_script","_law_lamps_here","_law_seen_lamps","_law_run_here","_law_watching","_law_other","_law_handed","_law_handed_run","_law_told","_law_again"] ["_law_script"] (AK s_law):=scm
def N5 (K:FZ9):Sp:=fun vs H Q _=>∃ (a:Addr) (ns:List Int),vs=[.ref a]/\SqL K H a (ns.map V.int)/\ns.length<=63/\∀ H',Q (.bl true) H'
section
variable (P:Program)(w:World)(K:FZ9)(mg:Str->Option Value)(base:Heap)
abbrev Kf:Prop:=DefOk P w K mg base "_law_lamps" 1 ["_law_number"] (spM K J0)
abbrev Jg:Prop:=DefOk P w K mg base "_law_lit" 1 ["_law_number","_law_lamps_here"] (spM K Ib)
abbrev GP:Prop:=DefOk P w K mg base "_law_cell" 1 ["_law_script","_law_k"] (spM K BC)
abbrev Mn:Prop:=DefOk P w K mg base "_law_run" 2 ["_law_script","_law_start","_law_stem_many","_law_ring_many","_law_lamps_here"] (spM K Lm)
abbrev Fk:Prop:=DefOk P w K mg base "_law_some_marks" 1 ["_law_number","_law_marks"] (spM K FY)
abbrev I0:Prop:=DefOk P w K mg base "_law_one_row" 2 ["_law_number","_law_count","_law_lamps_here","_law_marks"] (spM K Gk)
abbrev Ep:Prop:=DefOk P w K mg base "_law_behind" 1 ["_law_place","_law_run_here"] (spM K EM)
abbrev Hk:Prop:=DefOk P w K mg base "_law_cut" 1 ["_law_one","_law_lamps_here"] (spM K GO)
abbrev KZ:Prop:=DefOk P w K mg base "_law_drawn" 3 ["_law_script","_law_start","_law_lamps_here","_law_run_here"] (spM K GC)
abbrev Z_cut:Prop:=DefOk P w K mg base "cut" 1 ["moment","lamps"] (spM K mm_cut)
abbrev Qb:Prop:=DefOk P w K mg base "fold" 1 ["run","place"] (spM K Nv)
abbrev Z_sign:Prop:=DefOk P w K mg base "sign" 2 ["run","place"] (spM K R0)
abbrev KS:Prop:=DefOk P w K mg base "net_along" 3 ["watcher","run"] (spM K J8)
abbrev GY:Prop:=DefOk P w K mg base "leaving_order" 1 ["leads"] (spM K Fm)
abbrev KD:Prop:=DefOk P w K mg base "ends_of" 1 ["net"] (spM K IS)
abbrev Gv:Prop:=DefOk P w K mg base "begins_of" 1 ["net"] (spM K GD)
abbrev Hw:Prop:=DefOk P w K mg base "number_knot" 1 ["knots","ends","begin","number"] (spW1 K HV)
abbrev IY:Prop:=DefOk P w K mg base "knots_of" 2 ["net"] (spM K Gq)
abbrev FF:Prop:=DefOk P w K mg base "marks_within" 1 ["net","knots"] (spM K EY)
abbrev F4:Prop:=DefOk P w K mg base "ways_leaving" 1 ["net","wanted"] (spM K Eh)
abbrev P4:Prop:=DefOk P w K mg base "traced" 1 ["ways","came_by","last"] (spM K Mt)
abbrev EZ:Prop:=DefOk P w K mg base "shortest_path" 2 ["ways","leaving","begin","wanted"] (spM K DR)
abbrev Eg:Prop:=DefOk P w K mg base "missing_marks" 1 ["taken","marks"] (spM K EG)
abbrev Jh:Prop:=DefOk P w K mg base "is_fair" 2 ["taken","marks"] (spM K IZ)
abbrev Lq:Prop:=DefOk P w K mg base "is_taken" 1 ["ways","mark","numbers"] (spM K Ke)
abbrev Hy:Prop:=DefOk P w K mg base "ring_within" 3 ["net","knots","begin"] (spM K FM)
abbrev KJ:Prop:=DefOk P w K mg base "ring_from" 4 ["net","node"] (spM K JP)
abbrev LR:Prop:=DefOk P w K mg base "spread" 1 ["leads","wanted"] (spM K Jd)
abbrev Ml:Prop:=DefOk P w K mg base "lack_of" 2 ["taken","marks"] (spM K Ly)
abbrev Z_shut:Prop:=DefOk P w K mg base "shut" 3 ["net"] (spM K RB)
abbrev JB:Prop:=DefOk P w K mg base "paper_from" 4 ["net","starts"] (spM K IC)
abbrev Qu:Prop:=DefOk P w K mg base "takes" 5 ["watcher","run"] (spM K J3)
abbrev HQ:Prop:=DefOk P w K mg base "_law_whole" 1 ["_law_thing"] (spM K DU)
abbrev Lf:Prop:=DefOk P w K mg base "_law_gone" 2 ["_law_watching","_law_run_here","_law_numbers","_law_place","_law_state"] (spM K Go)
abbrev Gb:Prop:=DefOk P w K mg base "_law_way_holds" 3 ["_law_watching","_law_run_here","_law_told"] (spM K Fi)
abbrev KW:Prop:=DefOk P w K mg base "_law_ranks" 2 ["_law_watching","_law_run_here","_law_paper"] (spM K JK)
abbrev GX:Prop:=DefOk P w K mg base "_law_rows_from" 1 ["_law_watching"] (spM K Fs)
abbrev FW:Prop:=DefOk P w K mg base "_law_paper_holds" 3 ["_law_watching","_law_run_here","_law_told"] (spM K F8)
abbrev Kd:Prop:=DefOk P w K mg base "_law_holds" 4 ["_law_watching","_law_run_here","_law_told"] (spM K Er)
end
section
variable {P:Program}{w:World}{K:FZ9}{mg:Str->Option Value}{base:Heap}
local macro_rules | `(tactic| ac_rfl) => `(tactic| first | assumption | exact Ne.symm (by assumption))
local macro_rules
 | `(tactic| clear $n:num $rs*) => do
  let hm := Lean.mkIdent `hm
  let xt := Lean.mkIdent `xt
  let q := Lean.mkIdent `q
  let rf := Lean.mkIdent `rfl
  let w : Array Lean.Ident := rs.map fun r => ⟨r.raw⟩
  match n.getNat with
  | 2 =>
   let mut ts := #[]
   for k in [0:w.size/2] do
    let a := w[2*k]!
    let b := w[2*k+1]!
    ts := ts.push (← `(tactic| refine bE $hm fun $a $b $hm => ?_))
   `(tactic| ($[$ts:tactic];*))
  | 3 => `(tactic| (replace $hm := cT $hm; refine Bn ?_))
  | 4 => `(tactic| (replace $hm := cF $hm; refine Bm ?_))
  | 5 => `(tactic| (rintro r' v' G' H' $rf:ident rl; cases $hm:ident; exact $q v' G' H' rl.1 rl.2))
  | 6 => let k := w[0]!; `(tactic| (rintro r' v' G' H' $rf:ident rl; cases $hm:ident; exact $k _ v' G' H' rfl rl))
  | 9 =>
   let x := w[0]!
   let ts ← (w.extract 1 w.size).mapM fun (i : Lean.Ident) => `(tactic| have $i := Rp.mono $x $i)
   `(tactic| ($[$ts:tactic];*))
  | z =>
   if z > 1 then Lean.Macro.throwUnsupported
   let x := w[0]!
   let mut m := 1
   let mut ts := #[]
   let mut hs := #[]
   for i in w.extract 1 w.size do
    if let some k := i.raw.isNatLit? then m := k
    else if m == 4 then hs := hs.push (← `(tactic| have $i := ($xt).hh.free $i))
    else ts := ts.push (← match m with
     | 1 => `(tactic| have $i := Rp.mono ($x).gg $i)
     | 2 => `(tactic| have $i := ($i).ext $x)
     | _ => `(tactic| have $i := ($i).trans ($x).gg))
   if z == 1 then hs := hs.push (← `(tactic| have $xt := ($xt).trans $x))
   let zs := hs ++ ts
   `(tactic| ($[$zs:tactic];*))
theorem Nb (F:DIn K mg "_law_lamps" HI)(T:Txt mg):Kf P w K mg base:=by
 refine F.okM1 (m:=Du) DT fun _ _ _ _ _ H0 _ _ hr G0 Ai res D2 xt Aa hm q=>?_;unfold Du at hm
 refine ⟨_,(A5 (AG (i:=1) DT E7)
   (A5 (AG (i:=2) DT (Ax BS (pv 0) (Ax op_pow A8 A8)))
   (A5 (Bj PassesOwn.never rfl (CI rfl T.range_ (A6 (Aj K A8 (Ax BS (pv 2) A8)) AE)) (Av (i:=3) DT) (A5 (AG (i:=2) DT (Aj K (Ax EL (pv 2) A8) (Ax (DB (K:=K) rfl) A8 (pv 3))))
   (A5 (AG (i:=1) DT (Aj K (pv 1) (AC K E7 (Ax BS (pv 2) A8))))
   AA)))
   (A5 (Ae (Ic (K:=K) rfl PySem.F.plainAttrs_str PySem.F.slot_str_join PySem.F.type_str_join (JI (K:=K) rfl) E7 (A6 (D7 (cn:=["_law_lit_here"]) (cap:=[1]) rfl ⟨by decide +kernel,rfl,by decide +kernel,BF rfl⟩ rfl (by decide +kernel) ⟨⟨rfl,.inl rfl,rfl⟩,trivial⟩ (Ay (K:=K) rfl E7) (fun C s0 H0 fp=>⟨(Iz (AY K4 (pv 0) (pv 1) rfl)),(pv 0)⟩)) AE)))
   AA)))),?_⟩
 clear 2 B6 h6;refine AW (K:=K) J1 h6 xt.gh fun v1 G2 H3 x4 r5=>?_;clear 1 x4 Aa;clear 2 La h12;refine AW (K:=K) (RU (A7 Aa) (EV.of (m':=some (1000000000000:Int)) (ev_pow (An (i:=10)) (An (i:=12))) (by decide +kernel)) (by decide +kernel)) h12 xt.gh fun v7 G8 H9 x10 r11=>?_;clear 1 x10 r5;clear 2 as14 h15 fl16 h17;refine CC (K:=K) (RR:=fun r v G' H'=>Ext G0 H0 G' H'/\Rp.rel K G' v r) (Di (BJ An (Bh (A7 r11)))) h15 h17 xt.gh fun G18 H19 x20=>⟨fun s21 S' G' H'=>∃ (v22:V) (v23:V) (v24:Option V),Ext G0 H0 G' H'/\Same G18 G'/\S'=[some D2,some v22,some v23,v24]/\Rp.rel K G' v22 (s21.1:Str)/\Rp.rel K G' v23 (s21.2:Int),?_,?_,?_,?_,?_⟩
 ·clear 1 x20 r5 r11;exact ⟨v1,v7,_,xt,(Same.refl _),rfl,r5,r11⟩
 ·rintro _ S' G' H' ⟨v22,v23,v24,xt,mk25,rfl,r26,r27⟩;exact ⟨mk25,xt.gh⟩
 ·rintro xv28 a29 s21 _ G32 H33 fl30 - ⟨v22,v23,v24,xt,mk25,rfl,r26,r27⟩ rx31 hm D' kN34 kC35 kB36 kR37;refine Bc ?_;clear 2 La h43;refine AW (K:=K) (BJ (Em (A7 r27)) (ev_mulL (A7 rx31))) h43 xt.gh fun v38 G39 H40 x41 r42=>?_;clear 1 x41 r26 3 mk25;clear 2 B6 h53;refine AW (K:=K) (NH (A7 r26) (ev_atS J1 (Bh (A7 r42)))) h53 xt.gh fun v48 G49 H50 x51 r52=>?_;clear 1 x51 r42 3 mk25;cases hm;exact kN34 _ _ _ _ rfl ⟨v48,v38,_,xt,mk25,rfl,r52,r42⟩
 ·rintro s21 _ G60 H61 rfl ⟨v54,v55,v56,xt,mk57,rfl,r58,r59⟩;refine C6 ?_;exact Af (K:=K) (L6 J1 (FV.ev (JD (cap:=[1]) (fc:=fun (Bu:Str)=>(some (inS Bu s21.1))) (fe:=fun (Bu:Str)=>(some Bu)) (O6 J1) fun xc65 Bu Gc62 sc63 rc64=>⟨(AU (K:=K) (Q7 (A7 rc64) (A7 (Rp.mono sc63 r58)))),(A7 rc64)⟩))) hm xt.gh fun v69 G70 H71 x72 r73=>q v69 G70 H71 (xt.trans x72) r73
 ·clear 5
theorem Pj (F:DIn K mg "_law_lit" Jz)(T:Txt mg):Jg P w K mg base:=by
 refine F.okM2 (m:=Dt) FC fun _ _ _ _ _ H0 _ _ hr G0 Ai Am res D2 BX xt Aa AH hm q=>?_;unfold Dt at hm
 refine ⟨_,(A5 (AG (i:=2) FC E7)
   (A5 (Bj PassesOwn.never rfl (Ay (K:=K) rfl (pv 1)) (Av (i:=3) FC) (A5 (BD (AY E9 (Ax BS (pv 0) A8) A8 (Ac _)) (A5 (AG (i:=2) FC (Aj K (pv 2) (pv 3)))
   AA) AA)
   (A5 (AG (i:=0) FC (Ax EL (pv 0) A8))
   AA)))
   (A5 (Ae (pv 2))
   AA))),?_⟩
 clear 2 B6 h6;refine AW (K:=K) J1 h6 xt.gh fun v1 G2 H3 x4 r5=>?_;clear 1 x4 Aa AH;clear 2 as7 h8 fl9 h10;refine CC (K:=K) (RR:=fun r v G' H'=>Ext G0 H0 G' H'/\Rp.rel K G' v r) (O6 (A7 AH)) h8 h10 xt.gh fun G11 H12 x13=>⟨fun s14 S' G' H'=>∃ (v15:V) (v16:V) (v17:Option V),Ext G0 H0 G' H'/\Same G11 G'/\S'=[some v15,some BX,some v16,v17]/\Rp.rel K G' v15 (s14.1:Int)/\Rp.rel K G' v16 (s14.2:Str),?_,?_,?_,?_,?_⟩
 ·clear 1 x13 Aa r5;exact ⟨D2,v1,_,xt,(Same.refl _),rfl,Aa,r5⟩
 ·rintro _ S' G' H' ⟨v15,v16,v17,xt,mk18,rfl,r19,r20⟩;exact ⟨mk18,xt.gh⟩
 ·rintro xv21 a22 s14 _ G25 H26 fl23 - ⟨v15,v16,v17,xt,mk18,rfl,r19,r20⟩ rx24 hm D' kN27 kC28 kB29 kR30;have AH:=Rp.mono (x13.gg.trans mk18) AH;refine Bc ?_;clear 2 b31 h32 s36 h37
  try (with_reducible refine nxt_ ?_;dsimp only)
  refine Ev (t:=IH _ _ _) (fun S52 H51=>∃ (G50:Hp) (v39:V),Ext G0 H0 G50 H51/\Same G25 G50/\S52=[some v15,some BX,some v39,some xv21]/\Rp.rel K G50 v39 (s36:Str)) (fun nx kn41=>?_) ?_
  ·refine Bf (AU (K:=K) (E3 (Bh (A7 r19)) An)) h32 xt.gh fun G33 H34 x35=>?_;clear 1 x35 r20 rx24;have mk38:Same G25 G33:=x35.gg;have hm:=h37
   cases b31 with
   | true =>
    clear 3;clear 2 B6 h49;refine AW (K:=K) (NH (A7 r20) (A7 rx24)) h49 xt.gh fun v44 G45 H46 x47 r48=>?_;clear 1 x47 3 mk38;cases hm;exact kn41 _ _ ⟨G45,v44,xt,mk38,rfl,r48⟩
   | false =>
    clear 4;cases hm;exact kn41 _ _ ⟨G33,v16,xt,mk38,rfl,r20⟩
  ·rintro _ H51 ⟨G50,v39,xt,mk38,rfl,r40⟩;have mk18:=mk18.trans mk38;clear 9 mk38 r19;clear 2 Ai h58;refine AW (K:=K) (Em (A7 r19)) h58 xt.gh fun v53 G54 H55 x56 r57=>?_;clear 1 x56 r40 3 mk18;cases hm;exact kN27 _ _ _ _ rfl ⟨v53,v39,_,xt,mk18,rfl,r57,r40⟩
 ·rintro s14 _ G65 H66 rfl ⟨v59,v60,v61,xt,mk62,rfl,r63,r64⟩;refine C6 ?_;exact Af (K:=K) (A7 r64) hm xt.gh fun v67 G68 H69 x70 r71=>q v67 G68 H69 (xt.trans x70) r71
 ·clear 5
theorem OD (F:DIn K mg "_law_cell" IT)(T:Txt mg):GP P w K mg base:=by
 refine F.okM2 (m:=Az) Gg fun _ _ _ _ _ H0 _ _ hr G0 script_ k_ res C0 v_k_ xt AJ LH hm q=>?_;unfold Az at hm
 refine ⟨_,(A5 (BD (AY FB (pv 1) (Aw K T.len_ (pv 0)) (Ac _)) (A5 (Ae (AC K (pv 0) (pv 1)))
   AA) AA)
   (A5 (AG (i:=2) Gg (Aj K (Ax (DB (K:=K) rfl) (pv 1) A8) A8))
   (A5 (BD (AY K2 (Aw K T.len_ (pv 0)) A8 (Ac _)) (A5 (AG (i:=2) Gg (Ax BS (Aj K (Ax (DB (K:=K) rfl) (AC K (pv 0) (Ax BS (Ax (DB (K:=K) rfl) (pv 1) A8) (Aw K T.len_ (pv 0)))) A8) (Ax (DB (K:=K) rfl) (pv 1) A8)) A8))
   AA) AA)
   (A5 (Ae (Ax BS (Ax (DB (K:=K) rfl) (pv 2) (pv 2)) A8))
   AA)))),?_⟩
 clear 2 b1 h2;refine Bf (AU (K:=K) (CD (A7 LH) (ND (A7 AJ)))) h2 xt.gh fun G3 H4 x5=>?_;clear 1 x5 AJ LH
 cases b1 with
 | true =>
  clear 3;exact Af (K:=K) (ev_atX (A7 AJ) (A7 LH)) hm xt.gh fun v8 G9 H10 x11 r12=>q v8 G9 H10 (xt.trans x11) r12
 | false =>
  clear 4;clear 2 Ai h18;refine AW (K:=K) (BJ (GS (A7 LH)) An) h18 xt.gh fun v13 G14 H15 x16 r17=>?_;clear 1 x16 AJ LH;clear 2 b19 h20 s24 h25
  try (with_reducible refine nxt_ ?_;dsimp only)
  refine Ev (t:=IH _ _ _) (fun S45 H44=>∃ (G43:Hp) (v27:V),Ext G0 H0 G43 H44/\Same G14 G43/\S45=[some C0,some v_k_,some v27]/\Rp.rel K G43 v27 (s24:Int)) (fun nx kn29=>?_) ?_
  ·refine Bf (AU (K:=K) (CD (ND (A7 AJ)) An)) h20 xt.gh fun G21 H22 x23=>?_;clear 1 x23 AJ LH r17;have mk26:Same G14 G21:=x23.gg;have hm:=h25
   cases b19 with
   | true =>
    clear 3;clear 2 Ai h42;refine AW (K:=K) (Bh (BJ (GS (ev_atX (A7 AJ) (Fd (GS (A7 LH)) (ND (A7 AJ))))) (GS (A7 LH)))) h42 xt.gh fun v37 G38 H39 x40 r41=>?_;clear 1 x40 3 mk26;cases hm;exact kn29 _ _ ⟨G38,v37,xt,mk26,rfl,r41⟩
   | false =>
    clear 4;cases hm;exact kn29 _ _ ⟨G21,v13,xt,mk26,rfl,r17⟩
  ·rintro _ H44 ⟨G43,v27,xt,mk26,rfl,r28⟩;exact Af (K:=K) (Bh (HW (A7 r28) (A7 r28))) hm xt.gh fun v49 G50 H51 x52 r53=>q v49 G50 H51 (xt.trans x52) r53
theorem Qc (F:DIn K mg "_law_run" KB)(T:Txt mg)(F2:Jg P w K mg base)(B4:GP P w K mg base):Mn P w K mg base:=by
 refine F.okM5 (m:=F0) L9 fun _ _ _ _ _ H0 _ _ hr G0 script_ DX stem_many_ ring_many_ Am res C0 HE v_stem_many_ v_ring_many_ BX xt AJ Ar E1 N9 AH hm q=>?_;unfold F0 at hm
 refine ⟨_,(A5 (C2 (i:=5) (Ge L9) rfl (Or.inl rfl) (cn:=["_law_lamps_here","_law_script","_law_start"]) (cap:=[4,0,1]) rfl ⟨by decide +kernel,rfl,by decide +kernel,BF rfl⟩ rfl (by decide +kernel) ⟨⟨rfl,.inl rfl,rfl⟩,⟨rfl,.inl rfl,rfl⟩,⟨rfl,.inl rfl,rfl⟩,trivial⟩ (CI rfl T.range_ (A6 (Aj K (pv 2) (pv 3)) AE)) (fun C s0 H0 fp=>⟨Bd,(AX F2 hr (by decide) rfl (A6 (Ax BS (AX B4 hr (by decide) rfl (A6 (pv 2) (A6 (Aj K (pv 3) (pv 0)) AE))) (Ax op_pow A8 A8)) (A6 (pv 1) AE)))⟩))
   (A5 (Ae (C9 (A6 (HY (Qr (K:=K) rfl) (pv 5) GA (Ho (pv 2))) (A6 (HY (Qr (K:=K) rfl) (pv 5) (Ho (pv 2)) GA) AE))))
   AA)),?_⟩
 clear 2 B6 h17;refine AW (K:=K) (FV.ev (D6 (cap:=[4,0,1]) (fe:=fun (k_:Int)=>((((some script_).bind fun t6=>(some (DX+k_)).bind fun t7=>Az t6 t7).bind fun t8=>(some (t8 % 67108864))).bind fun t9=>(some Am).bind fun t10=>Dt t9 t10)) (Di (BJ (A7 E1) (A7 N9))) fun xc5 k_ Gc2 sc3 rc4=>(Ak (m:=Ib) (RU (Ak (m:=BC) (A7 (Rp.mono sc3 AJ)) (BJ (A7 (Rp.mono sc3 Ar)) (A7 rc4))) (EV.of (m':=some (67108864:Int)) (ev_pow (An (i:=2)) (An (i:=26))) (by decide +kernel)) (by decide +kernel)) (A7 (Rp.mono sc3 AH))))) h17 xt.gh fun v12 G13 H14 x15 r16=>?_;clear 1 x15 E1;exact Af (K:=K) (GR (FV.ev (Ob (A7 r16) Ku (RC (K:=K) (A7 E1)))) (FV.ev (Ob (A7 r16) (RC (K:=K) (A7 E1)) Ku))) hm xt.gh fun v18 G19 H20 x21 r22=>q v18 G19 H20 (xt.trans x21) r22
theorem JJ (F:DIn K mg "_law_some_marks" EJ)(T:Txt mg):Fk P w K mg base:=by
 refine F.okM2 (m:=By) D8 fun _ _ _ _ _ H0 _ _ hr G0 Ai Bb res D2 FE xt Aa BM hm q=>?_;unfold By at hm
 refine ⟨_,(A5 (AG (i:=2) D8 (Cb AE))
   (A5 (Bj PassesOwn.never rfl (CI rfl T.range_ (A6 (pv 1) AE)) (Av (i:=3) D8) (A5 (BD (AY E9 (Ax BS (pv 0) A8) A8 (Ac _)) (A5 (Bv (BH K (pv 2) (pv 3)))
   AA) AA)
   (A5 (AG (i:=0) D8 (Ax EL (pv 0) A8))
   AA)))
   (A5 (Ae (F1 (Re (K:=K) rfl) (by rfl) T.tuple_ LE (A6 (pv 2) AE)))
   AA))),?_⟩
 clear 2 some_ h8;refine DH (K:=K) (DM (Bw (α:=Int))) h8 xt.gh fun p1 vs2 G3 H4 x5 hz6 o7=>?_;clear 1 x5 Aa BM 4 hz6;clear 2 as10 h11 fl12 h13;refine CC (K:=K) (RR:=fun r v G' H'=>Ext G0 H0 G' H'/\Rp.rel K G' v r) (Di (A7 BM)) h11 h13 xt.gh fun G14 H15 x16=>⟨fun s17 S' G' H'=>∃ (v18:V) (v19:Option V),Ext G0 H0 G' H'/\Same G14 G'/\S'=[some v18,some FE,some (V.ref p1),v19]/\Rp.rel K G' v18 (s17.1:Int)/\(∃ vs,Own K G' H' (V.ref p1) p1 vs s17.2),?_,?_,?_,?_,?_⟩
 ·clear 1 x16 Aa 2 o7;exact ⟨D2,_,xt,(Same.refl _),rfl,Aa,⟨_,o7⟩⟩
 ·rintro _ S' G' H' ⟨v18,v19,xt,mk20,rfl,r21,⟨vs2,o7⟩⟩;exact ⟨mk20,xt.gh⟩
 ·rintro xv22 a23 s17 _ G26 H27 fl24 - ⟨v18,v19,xt,mk20,rfl,r21,⟨vs2,o7⟩⟩ rx25 hm D' kN28 kC29 kB30 kR31;have BM:=Rp.mono (x16.gg.trans mk20) BM;refine Bc ?_;clear 2 b32 h33 s37 h38
  try (with_reducible refine nxt_ ?_;dsimp only)
  refine Ev (t:=IH _ _ _) (fun S52 H51=>∃ (G50:Hp) ,Ext G0 H0 G50 H51/\Same G26 G50/\S52=[some v18,some FE,some (V.ref p1),some xv22]/\(∃ vs,Own K G50 H51 (V.ref p1) p1 vs s37)) (fun nx kn40=>?_) ?_
  ·refine Bf (AU (K:=K) (E3 (Bh (A7 r21)) An)) h33 xt.gh fun G34 H35 x36=>?_;clear 1 x36 rx25 2 o7;have mk39:Same G26 G34:=x36.gg;have hm:=h38
   cases b32 with
   | true =>
    clear 3;clear 2 a41 h42 z49 h43;refine D3 (K:=K) rfl o7 (A7 rx25) h42 h43 xt.gh fun G44 H45 w46 x47 o48=>?_;have xt:Ext G0 H0 G44 (upd H45 p1 (.lst (vs2++[w46]))):=(xt.trans x47).put hz6 o48.g;clear 0 x47 3 mk39;cases hm;exact kn40 _ _ ⟨G44,xt,mk39,rfl,⟨_,o48⟩⟩
   | false =>
    clear 4;cases hm;exact kn40 _ _ ⟨G34,xt,mk39,rfl,⟨_,o7⟩⟩
  ·rintro _ H51 ⟨G50,xt,mk39,rfl,⟨vs2,o7⟩⟩;have mk20:=mk20.trans mk39;clear 9 mk39 r21;clear 2 Ai h58;refine AW (K:=K) (Em (A7 r21)) h58 xt.gh fun v53 G54 H55 x56 r57=>?_;clear 1 x56 2 o7 3 mk20;cases hm;exact kN28 _ _ _ _ rfl ⟨v53,_,xt,mk20,rfl,r57,⟨_,o7⟩⟩
 ·rintro s17 _ G63 H64 rfl ⟨v59,v60,xt,mk61,rfl,r62,⟨vs2,o7⟩⟩;refine C6 ?_;have sf:=Same.new (o:=.lst vs2) o7.g;have xt:=xt.frz hz6 o7.g o7.h;have r65:=o7.tell;exact Af (K:=K) (ev_tuple (A7 r65)) hm xt.gh fun v66 G67 H68 x69 r70=>q v66 G67 H68 (xt.trans x69) r70
 ·clear 5
theorem LM (F:DIn K mg "_law_one_row" Fb)(T:Txt mg)(F2:Jg P w K mg base)(EC:Fk P w K mg base):I0 P w K mg base:=by
 refine F.okM4 (m:=D1) Dy fun _ _ _ _ _ H0 _ _ hr G0 Ai Cd Am Bb res D2 v_count_ BX FE xt Aa JH AH BM hm q=>?_;unfold D1 at hm
 refine ⟨_,(A5 (AG (i:=4) Dy (Ax BS (Ax BS (pv 0) A8) (pv 1)))
   (A5 (AG (i:=5) Dy (Ax BS (Ax BS (Ax (DB (K:=K) rfl) (pv 0) A8) A8) (pv 1)))
   (A5 (AG (i:=6) Dy (AX F2 hr (by decide) rfl (A6 (Ax BS (Ax (DB (K:=K) rfl) (pv 0) A8) A8) (A6 (pv 2) AE))))
   (A5 (Ae (C9 (A6 (pv 4) (A6 (pv 6) (A6 (pv 5) (A6 (AX EC hr (by decide) rfl (A6 (Ax EL (Ax BS (Ax (DB (K:=K) rfl) (pv 0) A8) A8) A8) (A6 (pv 3) AE))) AE))))))
   AA)))),?_⟩
 clear 2 begin_ h8;refine AW (K:=K) (Fd (Bh (A7 Aa)) (A7 JH)) h8 xt.gh fun v3 G4 H5 x6 r7=>?_;clear 1 x6 Aa JH AH BM;clear 2 end_ h16;refine AW (K:=K) (Fd (Bh (GS (A7 Aa))) (A7 JH)) h16 xt.gh fun v11 G12 H13 x14 r15=>?_;clear 1 x14 Aa AH BM r7;clear 2 B6 h24;refine AW (K:=K) (Ak (m:=Ib) (Bh (GS (A7 Aa))) (A7 AH)) h24 xt.gh fun v19 G20 H21 x22 r23=>?_;clear 1 x22 Aa BM r7 r15;exact Af (K:=K) (JE (A7 r7) (A7 r23) (A7 r15) (Ak (m:=FY) (Em (Bh (GS (A7 Aa)))) (A7 BM))) hm xt.gh fun v28 G29 H30 x31 r32=>q v28 G29 H30 (xt.trans x31) r32
theorem ME (F:DIn K mg "_law_behind" GE)(T:Txt mg):Ep P w K mg base:=by
 refine F.okM2 (m:=CM) MA fun _ _ _ _ _ H0 _ _ hr G0 BK Ao res JX Ad xt BG A9 hm q=>?_;unfold CM at hm
 refine ⟨_,(A5 (BD (AY E9 (Aj K (pv 0) A8) (Aj K (Aw K T.len_ (AC K (pv 1) A8)) (Aw K T.len_ (AC K (pv 1) A8))) (Ac _)) (A5 (Ae (Aw K T.len_ (AC K (pv 1) A8)))
   AA) AA)
   (A5 (Ae (Aj K (pv 0) A8))
   AA)),?_⟩
 clear 2 b1 h2;refine Bf (AU (K:=K) (E3 (BJ (A7 BG) An) (BJ (Bx (Cn (A7 A9))) (Bx (D5 (A7 A9)))))) h2 xt.gh fun G3 H4 x5=>?_;clear 1 x5 BG A9
 cases b1 with
 | true =>
  clear 3;exact Af (K:=K) (Bx (Cn (A7 A9))) hm xt.gh fun v6 G7 H8 x9 r10=>q v6 G7 H8 (xt.trans x9) r10
 | false =>
  clear 4;exact Af (K:=K) (BJ (A7 BG) An) hm xt.gh fun v11 G12 H13 x14 r15=>q v11 G12 H13 (xt.trans x14) r15
theorem Pr (F:DIn K mg "_law_cut" Je)(T:Txt mg):Hk P w K mg base:=by
 refine F.okM2 (m:=Cf) QM fun _ _ _ _ _ H0 _ _ hr G0 one_ Am res v_one_ BX xt r_one_ AH hm q=>?_;unfold Cf at hm
 refine ⟨_,(A5 (Ae (Ic (K:=K) rfl PySem.F.plainAttrs_str PySem.F.slot_str_join PySem.F.type_str_join (JI (K:=K) rfl) E7 (A6 (D7 (cn:=["_law_lamps_here"]) (cap:=[1]) rfl ⟨by decide +kernel,rfl,by decide +kernel,BF rfl⟩ rfl (by decide +kernel) ⟨⟨rfl,.inl rfl,rfl⟩,trivial⟩ (Ay (K:=K) rfl (pv 0)) (fun C s0 H0 fp=>⟨(Iz (AY K4 (pv 0) (pv 1) rfl)),(pv 0)⟩)) AE)))
   AA),?_⟩
 exact Af (K:=K) (L6 J1 (FV.ev (JD (cap:=[1]) (fc:=fun (Bu:Str)=>(some (inS Bu Am))) (fe:=fun (Bu:Str)=>(some Bu)) (O6 (A7 r_one_)) fun xc4 Bu Gc1 sc2 rc3=>⟨(AU (K:=K) (Q7 (A7 rc3) (A7 (Rp.mono sc2 AH)))),(A7 rc3)⟩))) hm xt.gh fun v8 G9 H10 x11 r12=>q v8 G9 H10 (xt.trans x11) r12
theorem Nf (F:DIn K mg "_law_drawn" Gj)(T:Txt mg)(B4:GP P w K mg base)(Ff:I0 P w K mg base)(Bt:Ep P w K mg base)(DV:Hk P w K mg base):KZ P w K mg base:=by
 refine F.okM4 (m:=DD) BE fun _ _ _ _ _ H0 _ _ hr G0 script_ DX Am Ao res C0 HE BX Ad xt AJ Ar AH A9 hm q=>?_;unfold DD at hm
 refine ⟨_,(A5 (AG (i:=4) BE (Ax BS (AX B4 hr (by decide) rfl (A6 (pv 0) (A6 (pv 1) AE))) A8))
   (A5 (AG (i:=5) BE (Aj K A8 (Ax BS (AX B4 hr (by decide) rfl (A6 (pv 0) (A6 (Aj K (pv 1) A8) AE))) A8)))
   (A5 (BD (AY E9 (Ax BS (Ax EL (AX B4 hr (by decide) rfl (A6 (pv 0) (A6 (Aj K (pv 1) A8) AE))) A8) A8) A8 (Ac _)) (A5 (AG (i:=5) BE (Aj K A8 (Ax BS (Ax EL (AX B4 hr (by decide) rfl (A6 (pv 0) (A6 (Aj K (pv 1) A8) AE))) A8) A8)))
   AA) AA)
   (A5 (AG (i:=6) BE (Ax BS (AX B4 hr (by decide) rfl (A6 (pv 0) (A6 (Aj K (pv 1) A8) AE))) A8))
   (A5 (BD (AY E9 (Ax BS (Ax EL (AX B4 hr (by decide) rfl (A6 (pv 0) (A6 (Aj K (pv 1) A8) AE))) A8) A8) A8 (Ac _)) (A5 (AG (i:=6) BE (Ax BS (Ax EL (AX B4 hr (by decide) rfl (A6 (pv 0) (A6 (Aj K (pv 1) A8) AE))) A8) A8))
   AA) AA)
   (A5 (AG (i:=7) BE (Cb AE))
   (A5 (AG (i:=8) BE A8)
   (A5 (Bj PassesOwn.never rfl (CI rfl T.range_ (A6 (pv 4) AE)) (Av (i:=9) BE) (A5 (AG (i:=10) BE (AX Ff hr (by decide) rfl (A6 (AX B4 hr (by decide) rfl (A6 (pv 0) (A6 (Aj K (Aj K (pv 1) A8) (pv 9)) AE))) (A6 (pv 5) (A6 (pv 2) (A6 (pv 6) AE))))))
   (A5 (BD (AY E9 (Ax BS (Ax EL (AX B4 hr (by decide) rfl (A6 (pv 0) (A6 (Aj K (pv 1) A8) AE))) A8) A8) A8 (Ac _)) (A5 (AG (i:=11) BE (AX DV hr (by decide) rfl (A6 (AC K (Aj K (AC K (pv 3) A8) (AC K (pv 3) A8)) (pv 8)) (A6 (pv 2) AE))))
   (A5 (AG (i:=10) BE (C9 (A6 (Ax BS (pv 9) (pv 5)) (A6 (pv 11) (A6 (Ax BS (Aj K (pv 9) A8) (pv 5)) (A6 (AC K (pv 10) A8) AE))))))
   AA)) AA)
   (A5 (AG (i:=8) BE (AX Bt hr (by decide) rfl (A6 (pv 8) (A6 (pv 3) AE))))
   (A5 (Bv (BH K (pv 7) (pv 10)))
   AA)))))
   (A5 (Ae (C9 (A6 (pv 2) (A6 (pv 5) (A6 (pv 7) (A6 (pv 6) AE))))))
   AA))))))))),?_⟩
 clear 2 Kc h9;refine AW (K:=K) (Bh (Ak (m:=BC) (A7 AJ) (A7 Ar))) h9 xt.gh fun v4 G5 H6 x7 r8=>?_;clear 1 x7 AJ Ar AH A9;clear 2 Cd h19;refine AW (K:=K) (BJ An (Bh (Ak (m:=BC) (A7 AJ) (BJ (A7 Ar) An)))) h19 xt.gh fun v14 G15 H16 x17 r18=>?_;clear 1 x17 AJ Ar AH A9 r8;clear 2 b25 h26 s30 h31
 try (with_reducible refine nxt_ ?_;dsimp only)
 refine Ev (t:=IH _ _ _) (fun S49 H48=>∃ (G47:Hp) (v33:V),Ext G0 H0 G47 H48/\Same G15 G47/\S49=[some C0,some HE,some BX,some Ad,some v4,some v33,none,none,none,none,none,none]/\Rp.rel K G47 v33 (s30:Int)) (fun nx kn35=>?_) ?_
 ·refine Bf (AU (K:=K) (E3 (Bh (Em (Ak (m:=BC) (A7 AJ) (BJ (A7 Ar) An)))) An)) h26 xt.gh fun G27 H28 x29=>?_;clear 1 x29 AJ Ar r18;have mk32:Same G15 G27:=x29.gg;have hm:=h31
  cases b25 with
  | true =>
   clear 3;clear 2 Cd h46;refine AW (K:=K) (BJ An (Bh (Em (Ak (m:=BC) (A7 AJ) (BJ (A7 Ar) An))))) h46 xt.gh fun v41 G42 H43 x44 r45=>?_;clear 1 x44 3 mk32;cases hm;exact kn35 _ _ ⟨G42,v41,xt,mk32,rfl,r45⟩
  | false =>
   clear 4;cases hm;exact kn35 _ _ ⟨G27,v14,xt,mk32,rfl,r18⟩
 ·rintro _ H48 ⟨G47,v33,xt,mk32,rfl,r34⟩;clear 9 mk32 AJ Ar AH A9 r8;clear 2 Bb h58;refine AW (K:=K) (Bh (Ak (m:=BC) (A7 AJ) (BJ (A7 Ar) An))) h58 xt.gh fun v53 G54 H55 x56 r57=>?_;clear 1 x56 AJ Ar AH A9 r8 r34;clear 2 b64 h65 s69 h70
  try (with_reducible refine nxt_ ?_;dsimp only)
  refine Ev (t:=IH _ _ _) (fun S87 H86=>∃ (G85:Hp) (v72:V),Ext G0 H0 G85 H86/\Same G54 G85/\S87=[some C0,some HE,some BX,some Ad,some v4,some v33,some v72,none,none,none,none,none]/\Rp.rel K G85 v72 (s69:Int)) (fun nx kn74=>?_) ?_
  ·refine Bf (AU (K:=K) (E3 (Bh (Em (Ak (m:=BC) (A7 AJ) (BJ (A7 Ar) An)))) An)) h65 xt.gh fun G66 H67 x68=>?_;clear 1 x68 AJ Ar r57;have mk71:Same G54 G66:=x68.gg;have hm:=h70
   cases b64 with
   | true =>
    clear 3;clear 2 Bb h84;refine AW (K:=K) (Bh (Em (Ak (m:=BC) (A7 AJ) (BJ (A7 Ar) An)))) h84 xt.gh fun v79 G80 H81 x82 r83=>?_;clear 1 x82 3 mk71;cases hm;exact kn74 _ _ ⟨G80,v79,xt,mk71,rfl,r83⟩
   | false =>
    clear 4;cases hm;exact kn74 _ _ ⟨G66,v53,xt,mk71,rfl,r57⟩
  ·rintro _ H86 ⟨G85,v72,xt,mk71,rfl,r73⟩;clear 9 mk71 AJ Ar AH A9 r8 r34;clear 2 Oj h95;refine DH (K:=K) (DM (Bw (α:=(T4 Int Str Int (Tp Int))))) h95 xt.gh fun p88 vs89 G90 H91 x92 hz93 o94=>?_;clear 1 x92 AJ Ar AH A9 r8 r34 r73 4 hz93;clear 2 BK h101;refine AW (K:=K) An h101 xt.gh fun v96 G97 H98 x99 r100=>?_;clear 1 x99 AJ Ar AH A9 r8 r34 r73 2 o94;clear 2 as103 h104 fl105 h106;refine CC (K:=K) (RR:=fun r v G' H'=>Ext G0 H0 G' H'/\Rp.rel K G' v r) (Di (A7 r8)) h104 h106 xt.gh fun G107 H108 x109=>⟨fun s110 S' G' H'=>∃ (v111:V) (v112:Option V) (v113:Option V) (v114:Option V),Ext G0 H0 G' H'/\Same G107 G'/\S'=[some C0,some HE,some BX,some Ad,some v4,some v33,some v72,some (V.ref p88),some v111,v112,v113,v114]/\(∃ vs,Own K G' H' (V.ref p88) p88 vs s110.1)/\Rp.rel K G' v111 (s110.2:Int),?_,?_,?_,?_,?_⟩
   ·clear 1 x109 r100 2 o94;exact ⟨v96,_,_,_,xt,(Same.refl _),rfl,⟨_,o94⟩,r100⟩
   ·rintro _ S' G' H' ⟨v111,v112,v113,v114,xt,mk115,rfl,⟨vs89,o94⟩,r116⟩;exact ⟨mk115,xt.gh⟩
   ·rintro xv117 a118 s110 _ G121 H122 fl119 - ⟨v111,v112,v113,v114,xt,mk115,rfl,⟨vs89,o94⟩,r116⟩ rx120 hm D' kN123 kC124 kB125 kR126;have AJ:=Rp.mono (x109.gg.trans mk115) AJ;have Ar:=Rp.mono (x109.gg.trans mk115) Ar;have AH:=Rp.mono (x109.gg.trans mk115) AH;have A9:=Rp.mono (x109.gg.trans mk115) A9;have r8:=Rp.mono (x109.gg.trans mk115) r8;have r34:=Rp.mono (x109.gg.trans mk115) r34;have r73:=Rp.mono (x109.gg.trans mk115) r73;refine Bc ?_;clear 2 row_ h138;refine AW (K:=K) (Hq (m:=Gk) (Ak (m:=BC) (A7 AJ) (BJ (BJ (A7 Ar) An) (A7 rx120))) (A7 r34) (A7 AH) (A7 r73)) h138 xt.gh fun v133 G134 H135 x136 r137=>?_;clear 1 x136 AJ Ar AH A9 r8 r34 r73 r116 rx120 2 o94 3 mk115;clear 2 b144 h145 s149 h150
    try (with_reducible refine nxt_ ?_;dsimp only)
    refine Ev (t:=IH _ _ _) (fun S183 H182=>∃ (G181:Hp) (v152:V) (v154:Option V),Ext G0 H0 G181 H182/\Same G134 G181/\S183=[some C0,some HE,some BX,some Ad,some v4,some v33,some v72,some (V.ref p88),some v111,some xv117,some v152,v154]/\Rp.rel K G181 v152 (s149:(T4 Int Str Int (Tp Int)))/\Own K G181 H182 (V.ref p88) p88 vs89 s110.1) (fun nx kn156=>?_) ?_
    ·refine Bf (AU (K:=K) (E3 (Bh (Em (Ak (m:=BC) (A7 AJ) (BJ (A7 Ar) An)))) An)) h145 xt.gh fun G146 H147 x148=>?_;clear 1 x148 AH A9 r34 r116 rx120 r137 2 o94;have mk151:Same G134 G146:=x148.gg;have hm:=h150
     cases b144 with
     | true =>
      clear 3;clear 2 B6 h168;refine AW (K:=K) (Ak (m:=GO) (B9 (FV.ev (Qg (Cn (A7 A9)) (D5 (A7 A9)))) (A7 r116)) (A7 AH)) h168 xt.gh fun v163 G164 H165 x166 r167=>?_;clear 1 x166 r34 rx120 r137 2 o94 3 mk151;clear 2 row_ h180;refine AW (K:=K) (JE (Fd (A7 rx120) (A7 r34)) (A7 r167) (Fd (BJ (A7 rx120) An) (A7 r34)) (GU (A7 r137))) h180 xt.gh fun v175 G176 H177 x178 r179=>?_;clear 1 x178 2 o94 3 mk151;cases hm;exact kn156 _ _ ⟨G176,v175,_,xt,mk151,rfl,r179,o94⟩
     | false =>
      clear 4;cases hm;exact kn156 _ _ ⟨G146,v133,_,xt,mk151,rfl,r137,o94⟩
    ·rintro _ H182 ⟨G181,v152,v154,xt,mk151,rfl,r153,o94⟩;have mk115:=mk115.trans mk151;clear 9 mk151 A9 r116;clear 2 BK h191;refine AW (K:=K) (Ak (m:=EM) (A7 r116) (A7 A9)) h191 xt.gh fun v186 G187 H188 x189 r190=>?_;clear 1 x189 r153 2 o94 3 mk115;clear 2 a192 h193 z200 h194;refine D3 (K:=K) rfl o94 (A7 r153) h193 h194 xt.gh fun G195 H196 w197 x198 o199=>?_;have xt:Ext G0 H0 G195 (upd H196 p88 (.lst (vs89++[w197]))):=(xt.trans x198).put hz93 o199.g;clear 0 x198 r190 3 mk115;cases hm;exact kN123 _ _ _ _ rfl ⟨v186,_,_,_,xt,mk115,rfl,⟨_,o199⟩,r190⟩
   ·rintro s110 _ G207 H208 rfl ⟨v201,v202,v203,v204,xt,mk205,rfl,⟨vs89,o94⟩,r206⟩;refine C6 ?_;have AH:=Rp.mono (x109.gg.trans mk205) AH;have r34:=Rp.mono (x109.gg.trans mk205) r34;have r73:=Rp.mono (x109.gg.trans mk205) r73;have sf:=Same.new (o:=.lst vs89) o94.g;have xt:=xt.frz hz93 o94.g o94.h;have r209:=o94.tell;clear 9 sf AH r34 r73;exact Af (K:=K) (JE (A7 AH) (A7 r34) (A7 r209) (A7 r73)) hm xt.gh fun v210 G211 H212 x213 r214=>q v210 G211 H212 (xt.trans x213) r214
   ·clear 5
theorem ok_cut (F:DIn K mg "cut" s_cut)(T:Txt mg):Z_cut P w K mg base:=by
 refine F.okM2 (m:=Il) sc_cut fun _ _ _ _ _ H0 _ _ hr G0 Iy Pz res v_moment_ v_lamps_ xt RV r_lamps_ hm q=>?_;unfold Il at hm
 refine ⟨_,(A5 (Ae (Ic (K:=K) rfl PySem.F.plainAttrs_str PySem.F.slot_str_join PySem.F.type_str_join (JI (K:=K) rfl) E7 (A6 (D7 (cn:=["lamps"]) (cap:=[1]) rfl ⟨by decide +kernel,rfl,by decide +kernel,BF rfl⟩ rfl (by decide +kernel) ⟨⟨rfl,.inl rfl,rfl⟩,trivial⟩ (Ay (K:=K) rfl (pv 0)) (fun C s0 H0 fp=>⟨(Iz (AY K4 (pv 0) (pv 1) rfl)),(pv 0)⟩)) AE)))
   AA),?_⟩
 exact Af (K:=K) (L6 J1 (FV.ev (JD (cap:=[1]) (fc:=fun (KM:Str)=>(some (inS KM Pz))) (fe:=fun (KM:Str)=>(some KM)) (O6 (A7 RV)) fun xc4 KM Gc1 sc2 rc3=>⟨(AU (K:=K) (Q7 (A7 rc3) (A7 (Rp.mono sc2 r_lamps_)))),(A7 rc3)⟩))) hm xt.gh fun v8 G9 H10 x11 r12=>q v8 G9 H10 (xt.trans x11) r12
theorem ok_fold (F:DIn K mg "fold" Pt)(T:Txt mg):Qb P w K mg base:=by
 refine F.okM2 (m:=GK) R1 fun _ _ _ _ _ H0 _ _ hr G0 run_ BK res LT JX xt Aq BG hm q=>?_;unfold GK at hm
 refine ⟨_,(A5 (AG (i:=2) R1 (Aw K T.len_ (AC K (pv 0) A8)))
   (A5 (BD (AY FB (pv 1) (pv 2) (Ac _)) (A5 (Ae (pv 1))
   AA) AA)
   (A5 (Ae (Aj K (pv 2) (Ax BS (Ax op_sub (pv 1) (pv 2)) (Aw K T.len_ (AC K (pv 0) A8)))))
   AA))),?_⟩
 clear 2 stem_length_ h6;refine AW (K:=K) (Bx (Cn (A7 Aq))) h6 xt.gh fun v1 G2 H3 x4 r5=>?_;clear 1 x4 Aq BG;clear 2 b7 h8;refine Bf (AU (K:=K) (CD (A7 BG) (A7 r5))) h8 xt.gh fun G9 H10 x11=>?_;clear 1 x11 Aq BG r5
 cases b7 with
 | true =>
  clear 3;exact Af (K:=K) (A7 BG) hm xt.gh fun v12 G13 H14 x15 r16=>q v12 G13 H14 (xt.trans x15) r16
 | false =>
  clear 4;exact Af (K:=K) (BJ (A7 r5) (Fd (ev_sub (A7 BG) (A7 r5)) (Bx (D5 (A7 Aq))))) hm xt.gh fun v20 G21 H22 x23 r24=>q v20 G21 H22 (xt.trans x23) r24
theorem ok_sign (F:DIn K mg "sign" Q9)(T:Txt mg)(Ju:Qb P w K mg base):Z_sign P w K mg base:=by
 refine F.okM2 (m:=Jx) NT fun _ _ _ _ _ H0 _ _ hr G0 run_ BK res LT JX xt Aq BG hm q=>?_;unfold Jx at hm
 refine ⟨_,(A5 (AG (i:=2) NT (AX Ju hr (by decide) rfl (A6 (pv 0) (A6 (pv 1) AE))))
   (A5 (AG (i:=3) NT (AC K (pv 0) A8))
   (A5 (BD (AY FB (pv 2) (Aw K T.len_ (pv 3)) (Ac _)) (A5 (Ae (AC K (pv 3) (pv 2)))
   AA) AA)
   (A5 (Ae (AC K (AC K (pv 0) A8) (Ax op_sub (pv 2) (Aw K T.len_ (pv 3)))))
   AA)))),?_⟩
 clear 2 Qz h8;refine AW (K:=K) (Ak (m:=Nv) (A7 Aq) (A7 BG)) h8 xt.gh fun v3 G4 H5 x6 r7=>?_;clear 1 x6 Aq;clear 2 stem_ h14;refine AW (K:=K) (Cn (A7 Aq)) h14 xt.gh fun v9 G10 H11 x12 r13=>?_;clear 1 x12 Aq r7;clear 2 b15 h16;refine Bf (AU (K:=K) (CD (A7 r7) (Bx (A7 r13)))) h16 xt.gh fun G17 H18 x19=>?_;clear 1 x19 Aq r7 r13
 cases b15 with
 | true =>
  clear 3;exact Af (K:=K) (B9 (A7 r13) (A7 r7)) hm xt.gh fun v22 G23 H24 x25 r26=>q v22 G23 H24 (xt.trans x25) r26
 | false =>
  clear 4;exact Af (K:=K) (B9 (D5 (A7 Aq)) (ev_sub (A7 r7) (Bx (A7 r13)))) hm xt.gh fun v29 G30 H31 x32 r33=>q v29 G30 H31 (xt.trans x32) r33
theorem Ny (F:DIn K mg "net_along" Gf)(T:Txt mg)(D_cut:Z_cut P w K mg base)(Ju:Qb P w K mg base)(QA:Z_sign P w K mg base):KS P w K mg base:=by
 refine F.okM2 (m:=Dr) Bi fun _ _ _ _ _ H0 _ _ hr G0 watcher_ run_ res IK LT xt AO Aq hm q=>?_;unfold Dr at hm
 refine ⟨_,(A5 (AG (i:=2) Bi (AC K (pv 0) A8))
   (A5 (AG (i:=3) Bi (Aj K (Aw K T.len_ (AC K (pv 1) A8)) (Aw K T.len_ (AC K (pv 1) A8))))
   (A5 (AG (i:=4) Bi (Cb AE))
   (A5 (AG (i:=5) Bi (Cb AE))
   (A5 (Bj PassesOwn.never rfl (CI rfl T.range_ (A6 (pv 3) AE)) (Av (i:=6) Bi) (A5 (AG (i:=7) Bi (AX D_cut hr (by decide) rfl (A6 (AX QA hr (by decide) rfl (A6 (pv 1) (A6 (pv 6) AE))) (A6 (AC K (pv 0) A8) AE))))
   (A5 (AG (i:=8) Bi (AX Ju hr (by decide) rfl (A6 (pv 1) (A6 (Aj K (pv 6) A8) AE))))
   (A5 (Bj PassesOwn.never rfl (J5 (K:=K) rfl rfl T.enumerate_ (A6 (AC K (pv 0) A8) AE)) (Ji rfl (CY (Av (i:=9) Bi) (CY (Av (i:=10) Bi) Hr))) (A5 (BD (AY E9 (AC K (pv 10) A8) (pv 7) (Ac _)) (A5 (Bv (BH K (pv 4) (C9 (A6 (Aj K (Ax (DB (K:=K) rfl) (pv 6) (pv 2)) (AC K (pv 10) A8)) (A6 (Aj K (Ax (DB (K:=K) rfl) (pv 8) (pv 2)) (AC K (pv 10) A8)) (A6 (AC K (pv 10) A8) AE))))))
   (A5 (Bv (BH K (pv 5) (pv 9)))
   AA)) AA)
   AA))
   AA))))
   (A5 (Ae (C9 (A6 (C9 (A6 (Ax (DB (K:=K) rfl) (pv 3) (pv 2)) (A6 (pv 4) (A6 (AC K (pv 0) A8) AE)))) (A6 (pv 5) AE))))
   AA)))))),?_⟩
 clear 2 Cd h6;refine AW (K:=K) (Gh (A7 AO)) h6 xt.gh fun v1 G2 H3 x4 r5=>?_;clear 1 x4 AO Aq;clear 2 Hm h12;refine AW (K:=K) (BJ (Bx (Cn (A7 Aq))) (Bx (D5 (A7 Aq)))) h12 xt.gh fun v7 G8 H9 x10 r11=>?_;clear 1 x10 AO Aq r5;clear 2 CN h20;refine DH (K:=K) (DM (Bw (α:=(T3 Int Int (Tp Int))))) h20 xt.gh fun p13 vs14 G15 H16 x17 hz18 o19=>?_;clear 1 x17 AO Aq r5 r11 4 hz18;clear 2 Kh h28;refine DH (K:=K) (DM (Bw (α:=Int))) h28 xt.gh fun p21 vs22 G23 H24 x25 hz26 o27=>?_;have ne_p13_p21:p13≠p21:=B7 o19.h hz26;clear 1 x25 AO Aq r5 r11 2 o19 4 hz26;clear 2 as30 h31 fl32 h33;refine CC (K:=K) (RR:=fun r v G' H'=>Ext G0 H0 G' H'/\Rp.rel K G' v r) (Di (A7 r11)) h31 h33 xt.gh fun G34 H35 x36=>⟨fun s37 S' G' H'=>∃ (v38:Option V) (v39:Option V) (v40:Option V) (v41:Option V) (v42:Option V),Ext G0 H0 G' H'/\Same G34 G'/\S'=[some IK,some LT,some v1,some v7,some (V.ref p13),some (V.ref p21),v38,v39,v40,v41,v42]/\(∃ vs,Own K G' H' (V.ref p13) p13 vs s37.1)/\(∃ vs,Own K G' H' (V.ref p21) p21 vs s37.2),?_,?_,?_,?_,?_⟩
 ·clear 1 x36 2 o19 o27;exact ⟨_,_,_,_,_,xt,(Same.refl _),rfl,⟨_,o19⟩,⟨_,o27⟩⟩
 ·rintro _ S' G' H' ⟨v38,v39,v40,v41,v42,xt,mk43,rfl,⟨vs14,o19⟩,⟨vs22,o27⟩⟩;exact ⟨mk43,xt.gh⟩
 ·rintro xv44 a45 s37 _ G48 H49 fl46 - ⟨v38,v39,v40,v41,v42,xt,mk43,rfl,⟨vs14,o19⟩,⟨vs22,o27⟩⟩ rx47 hm D' kN50 kC51 kB52 kR53;have AO:=Rp.mono (x36.gg.trans mk43) AO;have Aq:=Rp.mono (x36.gg.trans mk43) Aq;have r5:=Rp.mono (x36.gg.trans mk43) r5;have r11:=Rp.mono (x36.gg.trans mk43) r11;refine Bc ?_;clear 2 Iy h63;refine AW (K:=K) (Ak (m:=mm_cut) (Ak (m:=R0) (A7 Aq) (A7 rx47)) (K3 (A7 AO))) h63 xt.gh fun v58 G59 H60 x61 r62=>?_;clear 1 x61 AO Aq r5 r11 rx47 2 o19 o27 3 mk43;clear 2 M6 h71;refine AW (K:=K) (Ak (m:=Nv) (A7 Aq) (BJ (A7 rx47) An)) h71 xt.gh fun v66 G67 H68 x69 r70=>?_;clear 1 x69 AO Aq r5 r11 rx47 r62 2 o19 o27 3 mk43;clear 2 as72 h73 fl74 h75;refine L5 (K:=K) (RR:=fun r v G' H'=>Ext G0 H0 G' H'/\Rp.rel K G' v r) (Kz (Gs (A7 AO))) h73 h75 xt.gh fun G76 H77 x78=>⟨fun s79 S' G' H'=>∃ (v80:Option V) (v81:Option V),Ext G0 H0 G' H'/\Same G76 G'/\S'=[some IK,some LT,some v1,some v7,some (V.ref p13),some (V.ref p21),some xv44,some v58,some v66,v80,v81]/\(∃ vs,Own K G' H' (V.ref p13) p13 vs s79.1)/\(∃ vs,Own K G' H' (V.ref p21) p21 vs s79.2),?_,?_,?_,?_,?_⟩
  ·clear 1 x78 2 o19 o27;exact ⟨_,_,xt,(Same.refl _),rfl,⟨_,o19⟩,⟨_,o27⟩⟩
  ·rintro _ S' G' H' ⟨v80,v81,xt,mk82,rfl,⟨vs14,o19⟩,⟨vs22,o27⟩⟩;exact ⟨mk82,xt.gh⟩
  ·rintro xv83 te93 a84 s79 _ G87 H88 fl85 ⟨v80,v81,xt,mk82,rfl,⟨vs14,o19⟩,⟨vs22,o27⟩⟩ ht94 rx86 hm D' kN89 kC90 kB91 kR92;have mk43:=(mk43.trans x78.gg).trans mk82;have AO:=Rp.mono (x78.gg.trans mk82) AO;have Aq:=Rp.mono (x78.gg.trans mk82) Aq;have r5:=Rp.mono (x78.gg.trans mk82) r5;have r11:=Rp.mono (x78.gg.trans mk82) r11;have rx47:=Rp.mono (x78.gg.trans mk82) rx47;have r62:=Rp.mono (x78.gg.trans mk82) r62;have r70:=Rp.mono (x78.gg.trans mk82) r70;have x96:=Ext.new (o:=.tup [.int a84.1,xv83]) xt.gh ht94;clear 1 x96 AO Aq r5 r11 rx47 r62 r70 rx86 2 o19 o27 3 mk43 mk82;refine Ik (a:=a84) ?_;have r97:Rp.rel K (upd G87 te93 (.tup [.int a84.1,xv83])) (V.int a84.1) a84.1:=rfl;clear 2 b98 h99;refine Bf (AU (K:=K) (Q5 (Gh (A7 rx86)) (A7 r62))) h99 xt.gh fun G100 H101 x102=>?_;clear 1 x102 AO Aq r5 r11 rx47 r62 r70 r97 rx86 2 o19 o27 3 mk43 mk82
   cases b98 with
   | true =>
    clear 3;clear 2 a111 h112 z119 h113;refine D3 (K:=K) rfl o19 (Ko (BJ (HW (A7 rx47) (A7 r5)) (K3 (A7 rx86))) (BJ (HW (A7 r70) (A7 r5)) (Gs (A7 rx86))) (GU (A7 rx86))) h112 h113 xt.gh fun G114 H115 w116 x117 o118=>?_;have xt:Ext G0 H0 G114 (upd H115 p13 (.lst (vs14++[w116]))):=(xt.trans x117).put hz18 o118.g;clear 0 x117 AO Aq r5 r11 3 mk43 mk82;have o27:=(o27.ext x117).put (q:=p13) (ho:=.lst (vs14++[w116])) (by ac_rfl);clear 0 x117 rx47 r62 r70 r97 rx86;clear 2 a120 h121 z128 h122;refine D3 (K:=K) rfl o27 (A7 r97) h121 h122 xt.gh fun G123 H124 w125 x126 o127=>?_;have xt:Ext G0 H0 G123 (upd H124 p21 (.lst (vs22++[w125]))):=(xt.trans x126).put hz26 o127.g;clear 0 x126 AO Aq r5 r11 3 mk43 mk82;have o118:=(o118.ext x126).put (q:=p21) (ho:=.lst (vs22++[w125])) (by ac_rfl);cases hm;exact kN89 _ _ _ _ rfl ⟨_,_,xt,mk82,rfl,⟨_,o118⟩,⟨_,o127⟩⟩
   | false =>
    clear 4;cases hm;exact kN89 _ _ _ _ rfl ⟨_,_,xt,mk82,rfl,⟨_,o19⟩,⟨_,o27⟩⟩
  ·rintro s79 _ G132 H133 rfl ⟨v129,v130,xt,mk131,rfl,⟨vs14,o19⟩,⟨vs22,o27⟩⟩;refine C6 ?_;have mk43:=(mk43.trans x78.gg).trans mk131;cases hm;exact kN50 _ _ _ _ rfl ⟨_,_,_,_,_,xt,mk43,rfl,⟨_,o19⟩,⟨_,o27⟩⟩
  ·clear 6 kR53
 ·rintro s37 _ G140 H141 rfl ⟨v134,v135,v136,v137,v138,xt,mk139,rfl,⟨vs14,o19⟩,⟨vs22,o27⟩⟩;refine C6 ?_;have AO:=Rp.mono (x36.gg.trans mk139) AO;have Aq:=Rp.mono (x36.gg.trans mk139) Aq;have r5:=Rp.mono (x36.gg.trans mk139) r5;have r11:=Rp.mono (x36.gg.trans mk139) r11;have sf:=Same.new (o:=.lst vs22) o27.g;have xt:=xt.frz hz26 o27.g o27.h;have r146:=o27.tell;clear 9 sf AO Aq r5 r11;have o19:=o19.over (o:=.lst vs22) (by ac_rfl) o27.g;have sf:=Same.new (o:=.lst vs14) o19.g;have xt:=xt.frz hz18 o19.g o19.h;have r147:=o19.tell;clear 9 sf AO r5 r11 r146;exact Af (K:=K) (GR (Ko (HW (A7 r11) (A7 r5)) (A7 r147) (GU (A7 AO))) (A7 r146)) hm xt.gh fun v152 G153 H154 x155 r156=>q v152 G153 H154 (xt.trans x155) r156
 ·clear 5
theorem K0 (F:DIn K mg "leaving_order" Ei)(T:Txt mg):GY P w K mg base:=by
 refine F.okM1 (m:=CH) BU fun _ _ _ _ _ H0 _ _ hr G0 leads_ res HK xt AT hm q=>?_;unfold CH at hm
 refine ⟨_,(A5 (C2 (i:=1) (Ge BU) rfl (Or.inl rfl) (cn:=[]) (cap:=[]) rfl ⟨by decide +kernel,rfl,by decide +kernel,BF rfl⟩ rfl (by decide +kernel) trivial (Ay (K:=K) rfl (pv 0)) (fun C s0 H0 fp=>⟨Bd,Dw⟩))
   (A5 (C2 (i:=2) (Ge BU) rfl (Or.inl rfl) (cn:=[]) (cap:=[]) rfl ⟨by decide +kernel,rfl,by decide +kernel,BF rfl⟩ rfl (by decide +kernel) trivial (Ay (K:=K) rfl (pv 0)) (fun C s0 H0 fp=>⟨Bd,A8⟩))
   (A5 (AG (i:=3) BU (Cb AE))
   (A5 (Bj PassesOwn.never rfl (CI rfl T.range_ (A6 (Aw K T.len_ (pv 0)) AE)) (Av (i:=4) BU) (A5 (AG (i:=5) BU (O8 (B3 K (AC K (pv 1) (pv 4))) (Cb AE) (Cb (A6 (pv 4) AE))))
   (A5 (Gu Dw (Hb (pv 1) (pv 4) ES))
   (A5 (HD PassesOwn.never (AY K2 (Aw K T.len_ (pv 5)) A8 (Ac _)) (A5 (AG (i:=6) BU (AC K (pv 5) (Mh Jt A8)))
   (A5 (BD (AY E9 (AC K (pv 2) (pv 6)) (Aw K T.len_ (AC K (pv 0) (pv 6))) (Ac _)) (A5 (Bv (BH K (pv 3) (N7 (K:=K) rfl PySem.F.plainAttrs_list PySem.F.slot_list_pop PySem.F.type_list_pop Pu (pv 5))))
   AA) (A5 (AG (i:=7) BU (AC K (AC K (pv 0) (pv 6)) (AC K (pv 2) (pv 6))))
   (A5 (Gu (Aj K (AC K (pv 2) (pv 6)) A8) (Hb (pv 2) (pv 6) ES))
   (A5 (BD (Da (B3 K (AC K (pv 1) (pv 7)))) (A5 (Gu Dw (Hb (pv 1) (pv 7) ES))
   (A5 (Bv (BH K (pv 5) (pv 7)))
   AA)) AA)
   AA))))
   AA)))
   AA))))
   (A5 (Ae (pv 3))
   AA))))),?_⟩
 clear 2 seen_ h13;refine DH (K:=K) (D6 (cap:=[]) (fe:=fun (Cc:(List Int))=>(some false)) (BB (A7 AT)) fun xc4 Cc Gc1 sc2 rc3=>Fu) h13 xt.gh fun p6 vs7 G8 H9 x10 hz11 o12=>?_;clear 1 x10 AT 4 hz11;clear 2 tried_ h26;refine DH (K:=K) (D6 (cap:=[]) (fe:=fun (Cc:(List Int))=>(some (0:Int))) (BB (A7 AT)) fun xc17 Cc Gc14 sc15 rc16=>An) h26 xt.gh fun p19 vs20 G21 H22 x23 hz24 o25=>?_;have ne_p6_p19:p6≠p19:=B7 o12.h hz24;clear 1 x23 AT 2 o12 4 hz24;clear 2 order_ h34;refine DH (K:=K) (DM (Bw (α:=Int))) h34 xt.gh fun p27 vs28 G29 H30 x31 hz32 o33=>?_;have ne_p6_p27:p6≠p27:=B7 o12.h hz32;have ne_p19_p27:p19≠p27:=B7 o25.h hz32;clear 1 x31 AT 2 o12 o25 4 hz32;clear 2 as36 h37 fl38 h39;refine CC (K:=K) (RR:=fun r v G' H'=>Ext G0 H0 G' H'/\Rp.rel K G' v r) (Di (Bx (A7 AT))) h37 h39 xt.gh fun G40 H41 x42=>⟨fun s43 S' G' H'=>∃ (v44:Option V) (v45:Option V) (v46:Option V) (v47:Option V),Ext G0 H0 G' H'/\Same G40 G'/\S'=[some HK,some (V.ref p6),some (V.ref p19),some (V.ref p27),v44,v45,v46,v47]/\(∃ vs,Own K G' H' (V.ref p6) p6 vs s43.1)/\(∃ vs,Own K G' H' (V.ref p19) p19 vs s43.2.1)/\(∃ vs,Own K G' H' (V.ref p27) p27 vs s43.2.2),?_,?_,?_,?_,?_⟩
 ·clear 1 x42 2 o12 o25 o33;exact ⟨_,_,_,_,xt,(Same.refl _),rfl,⟨_,o12⟩,⟨_,o25⟩,⟨_,o33⟩⟩
 ·rintro _ S' G' H' ⟨v44,v45,v46,v47,xt,mk48,rfl,⟨vs7,o12⟩,⟨vs20,o25⟩,⟨vs28,o33⟩⟩;exact ⟨mk48,xt.gh⟩
 ·rintro xv49 a50 s43 _ G53 H54 fl51 - ⟨v44,v45,v46,v47,xt,mk48,rfl,⟨vs7,o12⟩,⟨vs20,o25⟩,⟨vs28,o33⟩⟩ rx52 hm D' kN55 kC56 kB57 kR58;have AT:=Rp.mono (x42.gg.trans mk48) AT;refine Bc ?_;clear 2 Ph h72;refine sv_ownFB (K:=K) o12 (fv_ifx (F6 (K:=K) (B9 (A7 o12.tell) (A7 (Rp.mono (Same.new o12.g) rx52)))) (DM (Bw (α:=Int))) (DM (Bo (A7 (Rp.mono (Same.new o12.g) rx52)) (Bw (α:=Int))))) h72 xt.gh fun p65 vs66 G67 H68 x69 hz70 o71=>?_;have ne_p6_p65:p6≠p65:=B7 o12.h hz70;have ne_p19_p65:p19≠p65:=B7 o25.h hz70;have ne_p27_p65:p27≠p65:=B7 o33.h hz70;clear 1 x69 AT rx52 2 o12 o25 o33 3 mk48 4 hz70;clear 2 a73 h74 k75 h76 z84 h77;refine EI (K:=K) rfl o12 Fu h74 (A7 rx52) h76 h77 xt.gh fun G78 H79 w80 j81 x82 o83=>?_;have xt:Ext G0 H0 G78 (upd H79 p6 (.lst (vs7.set j81 w80))):=(xt.trans x82).put hz11 o83.g;clear 0 x82 AT 3 mk48;have o25:=(o25.ext x82).put (q:=p6) (ho:=.lst (vs7.set j81 w80)) (by ac_rfl);have o33:=(o33.ext x82).put (q:=p6) (ho:=.lst (vs7.set j81 w80)) (by ac_rfl);clear 0 x82 rx52;have o71:=(o71.ext x82).put (q:=p6) (ho:=.lst (vs7.set j81 w80)) (by ac_rfl);clear 2 fl85 h86;refine HR (K:=K) (G:=G78) (RR:=fun r v G' H'=>Ext G0 H0 G' H'/\Rp.rel K G' v r) h86 (fun s87 S' G' H'=>∃ (v88:Option V) (v89:Option V),Ext G0 H0 G' H'/\Same G78 G'/\S'=[some HK,some (V.ref p6),some (V.ref p19),some (V.ref p27),some xv49,some (V.ref p65),v88,v89]/\(∃ vs,Own K G' H' (V.ref p6) p6 vs s87.1)/\(∃ vs,Own K G' H' (V.ref p19) p19 vs s87.2.1)/\(∃ vs,Own K G' H' (V.ref p27) p27 vs s87.2.2.1)/\(∃ vs,Own K G' H' (V.ref p65) p65 vs s87.2.2.2)) ⟨?_,?_,?_,?_,?_,?_⟩
  ·exact ⟨_,_,xt,(Same.refl _),rfl,⟨_,o83⟩,⟨_,o25⟩,⟨_,o33⟩,⟨_,o71⟩⟩
  ·rintro _ S' G' H' ⟨v88,v89,xt,mk90,rfl,⟨vs91,o83⟩,⟨vs20,o25⟩,⟨vs28,o33⟩,⟨vs66,o71⟩⟩;exact xt.gh
  ·rintro s87 _ G92 H93 b' ⟨v88,v89,xt,mk90,rfl,⟨vs91,o83⟩,⟨vs20,o25⟩,⟨vs28,o33⟩,⟨vs66,o71⟩⟩ hc Q' k';refine TV.runB o71 (AU (K:=K) (CD (Bx (A7 o71.tell)) An)) hc xt.gh fun G94 H95 x96=>?_;clear 1 x96 2 o83 o25 o33 o71 3 mk90;exact k' _ _ ⟨_,_,xt,mk90,rfl,⟨_,o83⟩,⟨_,o25⟩,⟨_,o33⟩,⟨_,o71⟩⟩
  ·rintro s87 _ G98 H99 fl97 ⟨v88,v89,xt,mk90,rfl,⟨vs91,o83⟩,⟨vs20,o25⟩,⟨vs28,o33⟩,⟨vs66,o71⟩⟩ hm - D' kN100 kC101 kB102 kR103;have mk48:=mk48.trans mk90;clear 9 mk90 AT rx52;clear 2 Cc h113;refine Kv (K:=K) o71 (B9 (A7 o71.tell) (Jk An)) h113 xt.gh fun v108 G109 H110 x111 r112=>?_;clear 1 x111 AT rx52 2 o83 o25 o33 o71 3 mk48 mk90;clear 2 b134 h135;refine IG o25 (AU (K:=K) (E3 (B9 (A7 o25.tell) (A7 (Rp.mono (Same.new o25.g) r112))) (Bx (B9 (A7 (Rp.mono (Same.new o25.g) AT)) (A7 (Rp.mono (Same.new o25.g) r112)))))) h135 xt.gh fun G136 H137 x138=>?_;clear 1 x138 AT rx52 r112 2 o83 o25 o33 o71 3 mk48 mk90
   cases b134 with
   | true =>
    clear 3;clear 2 pr139 h140 z141 h142;refine SD (K:=K) (a:=pr139.1) (bs':=pr139.2) rfl rfl o33 o71 (by ac_rfl) h140 h142 fun w143 o144 o145=>?_;have xt:Ext G0 H0 G136 (upd (upd H137 p65 (.lst vs66.dropLast)) p27 (.lst (vs28++[w143]))):=(xt.put hz70 o145.g).put hz32 o144.g;have o83:=(o83.put (q:=p65) (ho:=.lst vs66.dropLast) (by ac_rfl)).put (q:=p27) (ho:=.lst (vs28++[w143])) (by ac_rfl);have o25:=(o25.put (q:=p65) (ho:=.lst vs66.dropLast) (by ac_rfl)).put (q:=p27) (ho:=.lst (vs28++[w143])) (by ac_rfl);cases hm;exact kN100 _ _ _ _ rfl ⟨_,_,xt,mk90,rfl,⟨_,o83⟩,⟨_,o25⟩,⟨_,o144⟩,⟨_,o145⟩⟩
   | false =>
    clear 4;clear 2 Dc h163;refine Kv (K:=K) o25 (B9 (B9 (A7 (Rp.mono (Same.new o25.g) AT)) (A7 (Rp.mono (Same.new o25.g) r112))) (B9 (A7 o25.tell) (A7 (Rp.mono (Same.new o25.g) r112)))) h163 xt.gh fun v158 G159 H160 x161 r162=>?_;clear 1 x161 AT rx52 r112 2 o83 o25 o33 o71 3 mk48 mk90;clear 2 a170 h171 k172 h173 z181 h174;refine Oo (K:=K) rfl o25 (BJ (B9 (A7 o25.tell) (A7 (Rp.mono (Same.new o25.g) r112))) An) h171 (A7 r112) h173 h174 xt.gh fun G175 H176 w177 j178 x179 o180=>?_;have xt:Ext G0 H0 G175 (upd H176 p19 (.lst (vs20.set j178 w177))):=(xt.trans x179).put hz24 o180.g;clear 0 x179 AT 3 mk48 mk90;have o83:=(o83.ext x179).put (q:=p19) (ho:=.lst (vs20.set j178 w177)) (by ac_rfl);have o33:=(o33.ext x179).put (q:=p19) (ho:=.lst (vs20.set j178 w177)) (by ac_rfl);clear 0 x179 rx52;have o71:=(o71.ext x179).put (q:=p19) (ho:=.lst (vs20.set j178 w177)) (by ac_rfl);clear 0 x179 r112 r162;clear 2 b188 h189;refine IG o83 (Dd (F6 (K:=K) (B9 (A7 o83.tell) (A7 (Rp.mono (Same.new o83.g) r162))))) h189 xt.gh fun G190 H191 x192=>?_;clear 1 x192 AT rx52 r112 r162 2 o83 o180 o33 o71 3 mk48 mk90
    cases b188 with
    | true =>
     clear 3;clear 2 a193 h194 k195 h196 z204 h197;refine EI (K:=K) rfl o83 Fu h194 (A7 r162) h196 h197 xt.gh fun G198 H199 w200 j201 x202 o203=>?_;have xt:Ext G0 H0 G198 (upd H199 p6 (.lst (vs91.set j201 w200))):=(xt.trans x202).put hz11 o203.g;clear 0 x202 AT 3 mk48 mk90;have o180:=(o180.ext x202).put (q:=p6) (ho:=.lst (vs91.set j201 w200)) (by ac_rfl);have o33:=(o33.ext x202).put (q:=p6) (ho:=.lst (vs91.set j201 w200)) (by ac_rfl);clear 0 x202 rx52;have o71:=(o71.ext x202).put (q:=p6) (ho:=.lst (vs91.set j201 w200)) (by ac_rfl);clear 0 x202 r112 r162;clear 2 a205 h206 z213 h207;refine D3 (K:=K) rfl o71 (A7 r162) h206 h207 xt.gh fun G208 H209 w210 x211 o212=>?_;have xt:Ext G0 H0 G208 (upd H209 p65 (.lst (vs66++[w210]))):=(xt.trans x211).put hz70 o212.g;clear 0 x211 AT 3 mk48 mk90;have o203:=(o203.ext x211).put (q:=p65) (ho:=.lst (vs66++[w210])) (by ac_rfl);have o180:=(o180.ext x211).put (q:=p65) (ho:=.lst (vs66++[w210])) (by ac_rfl);have o33:=(o33.ext x211).put (q:=p65) (ho:=.lst (vs66++[w210])) (by ac_rfl);cases hm;exact kN100 _ _ _ _ rfl ⟨_,_,xt,mk90,rfl,⟨_,o203⟩,⟨_,o180⟩,⟨_,o33⟩,⟨_,o212⟩⟩
    | false =>
     clear 4;cases hm;exact kN100 _ _ _ _ rfl ⟨_,_,xt,mk90,rfl,⟨_,o83⟩,⟨_,o180⟩,⟨_,o33⟩,⟨_,o71⟩⟩
  ·rintro s87 _ G218 H219 rfl ⟨v214,v215,xt,mk216,rfl,⟨vs217,o83⟩,⟨vs20,o25⟩,⟨vs28,o33⟩,⟨vs66,o71⟩⟩;refine C6 ?_;have mk48:=mk48.trans mk216;cases hm;exact kN55 _ _ _ _ rfl ⟨_,_,_,_,xt,mk48,rfl,⟨_,o83⟩,⟨_,o25⟩,⟨_,o33⟩⟩
  ·clear 6 kR58
 ·rintro s43 _ G225 H226 rfl ⟨v220,v221,v222,v223,xt,mk224,rfl,⟨vs7,o12⟩,⟨vs20,o25⟩,⟨vs28,o33⟩⟩;refine C6 ?_;have AT:=Rp.mono (x42.gg.trans mk224) AT;have sf:=Same.new (o:=.lst vs28) o33.g;have xt:=xt.frz hz32 o33.g o33.h;have r227:=o33.tell;clear 9 sf AT;have o12:=o12.over (o:=.lst vs28) (by ac_rfl) o33.g;have o25:=o25.over (o:=.lst vs28) (by ac_rfl) o33.g;exact Af (K:=K) (A7 r227) hm xt.gh fun v228 G229 H230 x231 r232=>q v228 G229 H230 (xt.trans x231) r232
 ·clear 5
theorem QF (F:DIn K mg "ends_of" K5)(T:Txt mg):KD P w K mg base:=by
 refine F.okM1 (m:=EF) II fun _ _ _ _ _ H0 _ _ hr G0 net_ res CU xt AM hm q=>?_;unfold EF at hm
 refine ⟨_,(A5 (C2 (i:=1) (Ge II) rfl (Or.inl rfl) (cn:=[]) (cap:=[]) rfl ⟨by decide +kernel,rfl,by decide +kernel,BF rfl⟩ rfl (by decide +kernel) trivial (CI rfl T.range_ (A6 (AC K (pv 0) A8) AE)) (fun C s0 H0 fp=>⟨Bd,(Cb AE)⟩))
   (A5 (Bj PassesOwn.never rfl (Ay (K:=K) rfl (AC K (pv 0) A8)) (Av (i:=2) II) (A5 (Bv (BH K (AC K (pv 1) (AC K (pv 2) A8)) (AC K (pv 2) A8)))
   AA))
   (A5 (Ae (pv 1))
   AA))),?_⟩
 clear 2 l9 h10 Hz h8;refine NN (K:=K) (cap:=[]) (Di (EX (A7 AM))) h10 (qjB h8).symm xt fun p2 cs3 G4 H5 x6 o7=>?_;clear 1 x6 AM;clear 2 as11 h12 fl13 h14;refine CC (K:=K) (RR:=fun r v G' H'=>Ext G0 H0 G' H'/\Rp.rel K G' v r) (BB (Db (A7 AM))) h12 h14 xt.gh fun G15 H16 x17=>⟨fun s18 S' G' H'=>∃ (v19:Option V),Ext G0 H0 G' H'/\Same G15 G'/\S'=[some CU,some (V.ref p2),v19]/\(∃ vs,OwnC K H0 G' H' (V.ref p2) p2 vs (s18.map some)),?_,?_,?_,?_,?_⟩
 ·clear 1 x17 2 o7;exact ⟨_,xt,(Same.refl _),rfl,⟨_,o7⟩⟩
 ·rintro _ S' G' H' ⟨v19,xt,mk20,rfl,⟨cs3,o7⟩⟩;exact ⟨mk20,xt.gh⟩
 ·rintro xv21 a22 s18 _ G25 H26 fl23 - ⟨v19,xt,mk20,rfl,⟨cs3,o7⟩⟩ rx24 hm D' kN27 kC28 kB29 kR30;refine Bc ?_;clear 2 k31 h32 a33 h34 z41 h35;refine Lo (K:=K) rfl o7 (EX (A7 rx24)) h32 (Db (A7 rx24)) h34 h35 xt fun G36 H37 H38 x39 xt o40=>?_;clear 0 x39 3 mk20;cases hm;exact kN27 _ _ _ _ rfl ⟨_,xt,mk20,rfl,⟨_,o40⟩⟩
 ·rintro s18 _ G44 H45 rfl ⟨v42,xt,mk43,rfl,⟨cs3,o7⟩⟩;refine C6 ?_;have sf:=o7.up;have xt:=o7.frz xt;have r46:=o7.tellL;exact Af (K:=K) (A7 r46) hm xt.gh fun v47 G48 H49 x50 r51=>q v47 G48 H49 (xt.trans x50) r51
 ·clear 5
theorem Nd (F:DIn K mg "begins_of" HJ)(T:Txt mg):Gv P w K mg base:=by
 refine F.okM1 (m:=DC) GI fun _ _ _ _ _ H0 _ _ hr G0 net_ res CU xt AM hm q=>?_;unfold DC at hm
 refine ⟨_,(A5 (C2 (i:=1) (Ge GI) rfl (Or.inl rfl) (cn:=[]) (cap:=[]) rfl ⟨by decide +kernel,rfl,by decide +kernel,BF rfl⟩ rfl (by decide +kernel) trivial (CI rfl T.range_ (A6 (AC K (pv 0) A8) AE)) (fun C s0 H0 fp=>⟨Bd,(Cb AE)⟩))
   (A5 (Bj PassesOwn.never rfl (Ay (K:=K) rfl (AC K (pv 0) A8)) (Av (i:=2) GI) (A5 (Bv (BH K (AC K (pv 1) (AC K (pv 2) A8)) (AC K (pv 2) A8)))
   AA))
   (A5 (Ae (pv 1))
   AA))),?_⟩
 clear 2 l9 h10 R3 h8;refine NN (K:=K) (cap:=[]) (Di (EX (A7 AM))) h10 (qjB h8).symm xt fun p2 cs3 G4 H5 x6 o7=>?_;clear 1 x6 AM;clear 2 as11 h12 fl13 h14;refine CC (K:=K) (RR:=fun r v G' H'=>Ext G0 H0 G' H'/\Rp.rel K G' v r) (BB (Db (A7 AM))) h12 h14 xt.gh fun G15 H16 x17=>⟨fun s18 S' G' H'=>∃ (v19:Option V),Ext G0 H0 G' H'/\Same G15 G'/\S'=[some CU,some (V.ref p2),v19]/\(∃ vs,OwnC K H0 G' H' (V.ref p2) p2 vs (s18.map some)),?_,?_,?_,?_,?_⟩
 ·clear 1 x17 2 o7;exact ⟨_,xt,(Same.refl _),rfl,⟨_,o7⟩⟩
 ·rintro _ S' G' H' ⟨v19,xt,mk20,rfl,⟨cs3,o7⟩⟩;exact ⟨mk20,xt.gh⟩
 ·rintro xv21 a22 s18 _ G25 H26 fl23 - ⟨v19,xt,mk20,rfl,⟨cs3,o7⟩⟩ rx24 hm D' kN27 kC28 kB29 kR30;refine Bc ?_;clear 2 k31 h32 a33 h34 z41 h35;refine Lo (K:=K) rfl o7 (Db (A7 rx24)) h32 (EX (A7 rx24)) h34 h35 xt fun G36 H37 H38 x39 xt o40=>?_;clear 0 x39 3 mk20;cases hm;exact kN27 _ _ _ _ rfl ⟨_,xt,mk20,rfl,⟨_,o40⟩⟩
 ·rintro s18 _ G44 H45 rfl ⟨v42,xt,mk43,rfl,⟨cs3,o7⟩⟩;refine C6 ?_;have sf:=o7.up;have xt:=o7.frz xt;have r46:=o7.tellL;exact Af (K:=K) (A7 r46) hm xt.gh fun v47 G48 H49 x50 r51=>q v47 G48 H49 (xt.trans x50) r51
 ·clear 5
theorem LI (F:DIn K mg "number_knot" Fg)(T:Txt mg):Hw P w K mg base:=by
 refine F.ok E6 bn4 (fun vs H Q E h=>(spW1_len h).trans rfl) (fun _ cdv A outer s H9 vs Q E hr h=>?_);obtain ⟨G0,CP,vs_knots_,_,BW,⟨Hz,⟨begin_,⟨Ai,⟨⟩⟩⟩⟩,res,rfl,sg0,o_knots_,⟨Nz,_,rfl,Co,⟨Df,_,rfl,AR,⟨D2,_,rfl,Aa,rfl⟩⟩⟩,hm,q⟩:=h;have xt:Ext G0 (era H9 [CP]) G0 H9:=Ext.begin sg0;have Jy:era H9 [CP] CP=none:=era_in (by simp);generalize era H9 [CP]=H0 at xt q Jy;replace Co:Rp.rel K G0 Nz Hz:=Co;replace AR:Rp.rel K G0 Df begin_:=AR;replace Aa:Rp.rel K G0 D2 Ai:=Aa;replace hm:D0 BW Hz begin_ Ai=some res:=hm;unfold D0 at hm
 refine ⟨_,(A5 (Gu (pv 3) (Hb (pv 0) (pv 2) ES))
   (A5 (AG (i:=4) E6 (Cb (A6 (pv 2) AE)))
   (A5 (HD PassesOwn.never (AY K2 (Aw K T.len_ (pv 4)) A8 (Ac _)) (A5 (AG (i:=5) E6 (N7 (K:=K) rfl PySem.F.plainAttrs_list PySem.F.slot_list_pop PySem.F.type_list_pop Pu (pv 4)))
   (A5 (Bj PassesOwn.never rfl (Ay (K:=K) rfl (AC K (pv 1) (pv 5))) (Av (i:=6) E6) (A5 (BD (AY HM (AC K (pv 0) (pv 6)) C8 (Ac _)) (A5 (Gu (pv 3) (Hb (pv 0) (pv 6) ES))
   (A5 (Bv (BH K (pv 4) (pv 6)))
   AA)) AA)
   AA))
   AA)))
   AA))),?_⟩
 clear 2 a1 h2 k3 h4 z12 h5;refine EI (K:=K) rfl o_knots_ (Es (A7 Aa)) h2 (A7 AR) h4 h5 xt.gh fun G6 H7 w8 j9 x10 o11=>?_;have xt:Ext G0 H0 G6 (upd H7 CP (.lst (vs_knots_.set j9 w8))):=(xt.trans x10).put Jy o11.g;clear 0 x10 Co AR Aa;clear 2 KU h20;refine DH (K:=K) (DM (Bo (A7 AR) (Bw (α:=Int)))) h20 xt.gh fun p13 vs14 G15 H16 x17 hz18 o19=>?_;have ne_p_knots__p13:CP≠p13:=B7 o11.h hz18;clear 1 x17 Co AR Aa 2 o11 4 hz18;clear 2 fl21 h22;refine HR (K:=K) (G:=G15) (RR:=fun _ _ _ _=>False) h22 (fun s23 S' G' H'=>∃ (v24:Option V) (v25:Option V),Ext G0 H0 G' H'/\Same G15 G'/\S'=[some (V.ref CP),some Nz,some Df,some D2,some (V.ref p13),v24,v25]/\(∃ vs,Own K G' H' (V.ref CP) CP vs s23.1)/\(∃ vs,Own K G' H' (V.ref p13) p13 vs s23.2)) ⟨?_,?_,?_,?_,?_,?_⟩
 ·exact ⟨_,_,xt,(Same.refl _),rfl,⟨_,o11⟩,⟨_,o19⟩⟩
 ·rintro _ S' G' H' ⟨v24,v25,xt,mk26,rfl,⟨vs27,o11⟩,⟨vs14,o19⟩⟩;exact xt.gh
 ·rintro s23 _ G28 H29 b' ⟨v24,v25,xt,mk26,rfl,⟨vs27,o11⟩,⟨vs14,o19⟩⟩ hc Q' k';refine TV.runB o19 (AU (K:=K) (CD (Bx (A7 o19.tell)) An)) hc xt.gh fun G30 H31 x32=>?_;clear 1 x32 2 o11 o19 3 mk26;exact k' _ _ ⟨_,_,xt,mk26,rfl,⟨_,o11⟩,⟨_,o19⟩⟩
 ·rintro s23 _ G34 H35 fl33 ⟨v24,v25,xt,mk26,rfl,⟨vs27,o11⟩,⟨vs14,o19⟩⟩ hm - D' kN36 kC37 kB38 kR39;clear 9 mk26 Co AR Aa;clear 2 pr40 h41;refine sv_pop (K:=K) (a:=pr40.1) (as':=pr40.2) rfl o19 h41 fun w42 r43 o44=>?_;have xt:Ext G0 H0 G34 (upd H35 p13 (.lst vs14.dropLast)):=xt.put hz18 o44.g;have o11:=o11.put (q:=p13) (ho:=.lst vs14.dropLast) (by ac_rfl);clear 2 as47 h48 fl49 h50;refine CC (K:=K) (RR:=fun _ _ _ _=>False) (BB (B9 (A7 Co) (A7 r43))) h48 h50 xt.gh fun G51 H52 x53=>⟨fun s54 S' G' H'=>∃ (v55:Option V),Ext G0 H0 G' H'/\Same G51 G'/\S'=[some (V.ref CP),some Nz,some Df,some D2,some (V.ref p13),some w42,v55]/\(∃ vs,Own K G' H' (V.ref CP) CP vs s54.1)/\(∃ vs,Own K G' H' (V.ref p13) p13 vs s54.2),?_,?_,?_,?_,?_⟩
  ·clear 1 x53 2 o11 o44;exact ⟨_,xt,(Same.refl _),rfl,⟨_,o11⟩,⟨_,o44⟩⟩
  ·rintro _ S' G' H' ⟨v55,xt,mk56,rfl,⟨vs27,o11⟩,⟨vs57,o44⟩⟩;exact ⟨mk56,xt.gh⟩
  ·rintro xv58 a59 s54 _ G62 H63 fl60 - ⟨v55,xt,mk56,rfl,⟨vs27,o11⟩,⟨vs57,o44⟩⟩ rx61 hm D' kN64 kC65 kB66 kR67;have mk26:=(mk26.trans x53.gg).trans mk56;have Co:=Rp.mono (x53.gg.trans mk56) Co;have AR:=Rp.mono (x53.gg.trans mk56) AR;have Aa:=Rp.mono (x53.gg.trans mk56) Aa;have r43:=Rp.mono (x53.gg.trans mk56) r43;refine Bc ?_;clear 2 b74 h75;refine IG o11 (AU (K:=K) (Gr O4 (B9 (A7 o11.tell) (A7 (Rp.mono (Same.new o11.g) rx61))))) h75 xt.gh fun G76 H77 x78=>?_;clear 1 x78 Co AR Aa r43 rx61 2 o11 o44 3 mk26 mk56
   cases b74 with
   | true =>
    clear 3;clear 2 a79 h80 k81 h82 z90 h83;refine EI (K:=K) rfl o11 (Es (A7 Aa)) h80 (A7 rx61) h82 h83 xt.gh fun G84 H85 w86 j87 x88 o89=>?_;have xt:Ext G0 H0 G84 (upd H85 CP (.lst (vs27.set j87 w86))):=(xt.trans x88).put Jy o89.g;clear 0 x88 Co AR Aa 3 mk26 mk56;have o44:=(o44.ext x88).put (q:=CP) (ho:=.lst (vs27.set j87 w86)) (by ac_rfl);clear 0 x88 r43 rx61;clear 2 a91 h92 z99 h93;refine D3 (K:=K) rfl o44 (A7 rx61) h92 h93 xt.gh fun G94 H95 w96 x97 o98=>?_;have xt:Ext G0 H0 G94 (upd H95 p13 (.lst (vs57++[w96]))):=(xt.trans x97).put hz18 o98.g;clear 0 x97 3 mk26 mk56;have o89:=(o89.ext x97).put (q:=p13) (ho:=.lst (vs57++[w96])) (by ac_rfl);cases hm;exact kN64 _ _ _ _ rfl ⟨_,xt,mk56,rfl,⟨_,o89⟩,⟨_,o98⟩⟩
   | false =>
    clear 4;cases hm;exact kN64 _ _ _ _ rfl ⟨_,xt,mk56,rfl,⟨_,o11⟩,⟨_,o44⟩⟩
  ·rintro s54 _ G103 H104 rfl ⟨v100,xt,mk101,rfl,⟨vs27,o11⟩,⟨vs102,o44⟩⟩;refine C6 ?_;have mk26:=(mk26.trans x53.gg).trans mk101;cases hm;exact kN36 _ _ _ _ rfl ⟨_,_,xt,mk26,rfl,⟨_,o11⟩,⟨_,o44⟩⟩
  ·rintro r' v' G' H' rfl rl;exact rl.elim
 ·rintro s23 _ G109 H110 rfl ⟨v105,v106,xt,mk107,rfl,⟨vs108,o11⟩,⟨vs14,o19⟩⟩;refine C6 ?_;cases hm;exact q _ _ _ xt o11
 ·rintro r' v' G' H' rfl rl;exact rl.elim
theorem Ou (F:DIn K mg "knots_of" Ij)(T:Txt mg)(Ef:GY P w K mg base)(F3:KD P w K mg base)(Ds:Gv P w K mg base)(Fa:Hw P w K mg base):IY P w K mg base:=by
 refine F.okM1 (m:=Dm) DG fun _ _ _ _ _ H0 _ _ hr G0 net_ res CU xt AM hm q=>?_;unfold Dm at hm
 refine ⟨_,(A5 (AG (i:=1) DG (AX Ef hr (by decide) rfl (A6 (AX Ds hr (by decide) rfl (A6 (pv 0) AE)) AE)))
   (A5 (AG (i:=2) DG (AX F3 hr (by decide) rfl (A6 (pv 0) AE)))
   (A5 (C2 (i:=3) (Ge DG) rfl (Or.inl rfl) (cn:=[]) (cap:=[]) rfl ⟨by decide +kernel,rfl,by decide +kernel,BF rfl⟩ rfl (by decide +kernel) trivial (Ay (K:=K) rfl (pv 1)) (fun C s0 H0 fp=>⟨Bd,C8⟩))
   (A5 (AG (i:=4) DG A8)
   (A5 (Bj PassesOwn.never rfl (pi_rev (K:=K) rfl (by rfl) T.reversed_ (A6 (pv 1) AE)) (Av (i:=5) DG) (A5 (BD (AY HM (AC K (pv 3) (pv 5)) C8 (Ac _)) (A5 (Bv (AX Fa hr (by decide) rfl (A6 (pv 3) (A6 (pv 2) (A6 (pv 5) (A6 (pv 4) AE))))))
   (A5 (AG (i:=4) DG (Aj K (pv 4) A8))
   AA)) AA)
   AA))
   (A5 (Ae (pv 3))
   AA)))))),?_⟩
 clear 2 order_ h8;refine AW (K:=K) (Ck (m:=Fm) (Ck (m:=GD) (A7 AM))) h8 xt.gh fun v3 G4 H5 x6 r7=>?_;clear 1 x6 AM;clear 2 Hz h15;refine AW (K:=K) (Ck (m:=IS) (A7 AM)) h15 xt.gh fun v10 G11 H12 x13 r14=>?_;clear 1 x13 AM r7;clear 2 BW h28;refine DH (K:=K) (D6 (cap:=[]) (fe:=fun (Cc:Int)=>(some none)) (BB (A7 r7)) fun xc19 Cc Gc16 sc17 rc18=>(Eu (α:=Int))) h28 xt.gh fun p21 vs22 G23 H24 x25 hz26 o27=>?_;clear 1 x25 AM r7 r14 4 hz26;clear 2 Kc h34;refine AW (K:=K) An h34 xt.gh fun v29 G30 H31 x32 r33=>?_;clear 1 x32 AM r7 r14 2 o27;clear 2 as35 h36 fl37 h38;refine CC (K:=K) (RR:=fun r v G' H'=>Ext G0 H0 G' H'/\Rp.rel K G' v r) (iw_rev (A7 r7)) h36 h38 xt.gh fun G39 H40 x41=>⟨fun s42 S' G' H'=>∃ (v43:V) (v44:Option V),Ext G0 H0 G' H'/\Same G39 G'/\S'=[some CU,some v3,some v10,some (V.ref p21),some v43,v44]/\(∃ vs,Own K G' H' (V.ref p21) p21 vs s42.1)/\Rp.rel K G' v43 (s42.2:Int),?_,?_,?_,?_,?_⟩
 ·clear 1 x41 r33 2 o27;exact ⟨v29,_,xt,(Same.refl _),rfl,⟨_,o27⟩,r33⟩
 ·rintro _ S' G' H' ⟨v43,v44,xt,mk45,rfl,⟨vs22,o27⟩,r46⟩;exact ⟨mk45,xt.gh⟩
 ·rintro xv47 a48 s42 _ G51 H52 fl49 - ⟨v43,v44,xt,mk45,rfl,⟨vs22,o27⟩,r46⟩ rx50 hm D' kN53 kC54 kB55 kR56;have AM:=Rp.mono (x41.gg.trans mk45) AM;have r7:=Rp.mono (x41.gg.trans mk45) r7;have r14:=Rp.mono (x41.gg.trans mk45) r14;refine Bc ?_;clear 2 b63 h64;refine IG o27 (AU (K:=K) (Gr O4 (B9 (A7 o27.tell) (A7 (Rp.mono (Same.new o27.g) rx50))))) h64 xt.gh fun G65 H66 x67=>?_;clear 1 x67 AM r7 r14 r46 rx50 2 o27 3 mk45
  cases b63 with
  | true =>
   clear 3;clear 2 ca74 h75 rz76 h77;refine SM (K:=K) (m:=HV) rfl o27 (NO (A7 r14) (NO (A7 rx50) (NO (A7 r46) av_nil))) h75 h77 xt.gh fun G78 H79 G80 H81 vs84 x82 y83 o85=>?_;have xt:=(xt.trans x82).past (C:=[p21]) (fun b hb=>by simp only [qmA,List.not_mem_nil,or_false] at hb;(first | (rcases hb with e|e<;>(rw [e];assumption)) | (rw [hb];assumption))) y83;have mk45:=mk45.trans (x82.gg.trans y83.gg);have r46:=Rp.mono (x82.gg.trans y83.gg) r46;clear 2 Kc h91;refine AW (K:=K) (BJ (A7 r46) An) h91 xt.gh fun v86 G87 H88 x89 r90=>?_;clear 1 x89 2 o85 3 mk45;cases hm;exact kN53 _ _ _ _ rfl ⟨v86,_,xt,mk45,rfl,⟨_,o85⟩,r90⟩
  | false =>
   clear 4;cases hm;exact kN53 _ _ _ _ rfl ⟨v43,_,xt,mk45,rfl,⟨_,o27⟩,r46⟩
 ·rintro s42 _ G96 H97 rfl ⟨v92,v93,xt,mk94,rfl,⟨vs22,o27⟩,r95⟩;refine C6 ?_;have sf:=Same.new (o:=.lst vs22) o27.g;have xt:=xt.frz hz26 o27.g o27.h;have r98:=o27.tell;exact Af (K:=K) (A7 r98) hm xt.gh fun v99 G100 H101 x102 r103=>q v99 G100 H101 (xt.trans x102) r103
 ·clear 5
theorem Kl (F:DIn K mg "marks_within" FD)(T:Txt mg):FF P w K mg base:=by
 refine F.okM2 (m:=C4) Cv fun _ _ _ _ _ H0 _ _ hr G0 net_ BW res CU Fx xt AM BA hm q=>?_;unfold C4 at hm
 refine ⟨_,(A5 (C2 (i:=2) (Ge Cv) rfl (Or.inl rfl) (cn:=[]) (cap:=[]) rfl ⟨by decide +kernel,rfl,by decide +kernel,BF rfl⟩ rfl (by decide +kernel) trivial (Ay (K:=K) rfl (pv 1)) (fun C s0 H0 fp=>⟨Bd,C8⟩))
   (A5 (Bj PassesOwn.never rfl (Ay (K:=K) rfl (AC K (pv 0) A8)) (Av (i:=3) Cv) (A5 (AG (i:=4) Cv (AC K (pv 1) (AC K (pv 3) A8)))
   (A5 (BD (AY E9 (pv 4) (AC K (pv 1) (AC K (pv 3) A8)) (Ac _)) (A5 (BD (AY HM (AC K (pv 2) (pv 4)) C8 (Ac _)) (A5 (Gu OI (Hb (pv 2) (pv 4) ES))
   AA) AA)
   (A5 (Bj PassesOwn.never rfl (Ay (K:=K) rfl (AC K (pv 3) A8)) (Av (i:=5) Cv) (A5 (Kr (DZ hr) (AC K (pv 2) (pv 4)) (pv 5) Dw rfl)
   AA))
   AA)) AA)
   AA)))
   (A5 (Ae (pv 2))
   AA))),?_⟩
 clear 2 l8 h9 EA h7;refine sv_ownD (K:=K) (cap:=[]) (BB (A7 BA)) h9 (qjB h7).symm xt fun p1 cs2 G3 H4 x5 o6=>?_;clear 1 x5 AM BA;clear 2 as10 h11 fl12 h13;refine CC (K:=K) (RR:=fun r v G' H'=>Ext G0 H0 G' H'/\Rp.rel K G' v r) (BB (Db (A7 AM))) h11 h13 xt.gh fun G14 H15 x16=>⟨fun s17 S' G' H'=>∃ (v18:Option V) (v19:Option V) (v20:Option V),Ext G0 H0 G' H'/\Same G14 G'/\S'=[some CU,some Fx,some (V.ref p1),v18,v19,v20]/\(∃ vs,OwnC K H0 G' H' (V.ref p1) p1 vs s17),?_,?_,?_,?_,?_⟩
 ·clear 1 x16 2 o6;exact ⟨_,_,_,xt,(Same.refl _),rfl,⟨_,o6⟩⟩
 ·rintro _ S' G' H' ⟨v18,v19,v20,xt,mk21,rfl,⟨cs2,o6⟩⟩;exact ⟨mk21,xt.gh⟩
 ·rintro xv22 a23 s17 _ G26 H27 fl24 - ⟨v18,v19,v20,xt,mk21,rfl,⟨cs2,o6⟩⟩ rx25 hm D' kN28 kC29 kB30 kR31;have AM:=Rp.mono (x16.gg.trans mk21) AM;have BA:=Rp.mono (x16.gg.trans mk21) BA;refine Bc ?_;clear 2 FA h39;refine AW (K:=K) (B9 (A7 BA) (EX (A7 rx25))) h39 xt.gh fun v34 G35 H36 x37 r38=>?_;clear 1 x37 AM BA rx25 2 o6 3 mk21;clear 2 b45 h46;refine Bf (AU (K:=K) (Qw (A7 r38) (B9 (A7 BA) (Db (A7 rx25))))) h46 xt.gh fun G47 H48 x49=>?_;clear 1 x49 AM BA rx25 r38 2 o6 3 mk21
  cases b45 with
  | true =>
   clear 3;clear 2 b58 h59 s63 h64
   try (with_reducible refine nxt_ ?_;dsimp only)
   refine Ev (t:=IH _ _ _) (fun S80 H79=>∃ (G78:Hp) ,Ext G0 H0 G78 H79/\Same G47 G78/\S80=[some CU,some Fx,some (V.ref p1),some xv22,some v34,v20]/\(∃ vs,OwnC K H0 G78 H79 (V.ref p1) p1 vs s63)) (fun nx kn66=>?_) ?_
   ·refine sv_ifX o6.up (o6.sm xt.gh) (AU (K:=K) (Gr Qh (B9 (A7 o6.tell) (BY (A7 (Rp.mono o6.up r38)))))) h59 fun G60 H61 x62=>?_;clear 1 x62 r38 2 o6;have mk65:Same G47 G60:=x62.gg;have hm:=h64
    cases b58 with
    | true =>
     clear 3;clear 2 k68 h69 z77 h70;refine SU (K:=K) rfl o6 (BY (A7 r38)) h69 h70 xt fun G71 H72 H73 cs74 x75 xt o76=>?_;clear 0 x75 3 mk65;cases hm;exact kn66 _ _ ⟨G71,xt,mk65,rfl,⟨_,o76⟩⟩
    | false =>
     clear 4;cases hm;exact kn66 _ _ ⟨G60,xt,mk65,rfl,⟨_,o6⟩⟩
   ·rintro _ H79 ⟨G78,xt,mk65,rfl,⟨cs2,o6⟩⟩;have mk21:=mk21.trans mk65;clear 9 mk65 rx25 r38;clear 2 as81 h82 fl83 h84;refine CC (K:=K) (RR:=fun r v G' H'=>Ext G0 H0 G' H'/\Rp.rel K G' v r) (iw_tup (IN (A7 rx25))) h82 h84 xt.gh fun G85 H86 x87=>⟨fun s88 S' G' H'=>∃ (v89:Option V),Ext G0 H0 G' H'/\Same G85 G'/\S'=[some CU,some Fx,some (V.ref p1),some xv22,some v34,v89]/\(∃ vs,OwnC K H0 G' H' (V.ref p1) p1 vs s88),?_,?_,?_,?_,?_⟩
    ·clear 1 x87 2 o6;exact ⟨_,xt,(Same.refl _),rfl,⟨_,o6⟩⟩
    ·rintro _ S' G' H' ⟨v89,xt,mk90,rfl,⟨cs2,o6⟩⟩;exact ⟨mk90,xt.gh⟩
    ·rintro xv91 a92 s88 _ G95 H96 fl93 - ⟨v89,xt,mk90,rfl,⟨cs2,o6⟩⟩ rx94 hm D' kN97 kC98 kB99 kR100;have r38:=Rp.mono (x87.gg.trans mk90) r38;refine Bc ?_;clear 2 a102 h103 k104 h105 k106 h107 z115 h108;refine sv_putDA (K:=K) rfl o6 Fu h103 (BY (A7 r38)) h105 (A7 rx94) h107 h108 xt fun G109 H110 H111 x112 xt o114=>?_;clear 0 x112 3 mk90;cases hm;exact kN97 _ _ _ _ rfl ⟨_,xt,mk90,rfl,⟨_,o114⟩⟩
    ·rintro s88 _ G118 H119 rfl ⟨v116,xt,mk117,rfl,⟨cs2,o6⟩⟩;refine C6 ?_;have mk21:=(mk21.trans x87.gg).trans mk117;cases hm;exact kN28 _ _ _ _ rfl ⟨_,_,_,xt,mk21,rfl,⟨_,o6⟩⟩
    ·clear 6 kR31
  | false =>
   clear 4;cases hm;exact kN28 _ _ _ _ rfl ⟨_,_,_,xt,mk21,rfl,⟨_,o6⟩⟩
 ·rintro s17 _ G124 H125 rfl ⟨v120,v121,v122,xt,mk123,rfl,⟨cs2,o6⟩⟩;refine C6 ?_;have sf:=o6.up;have xt:=o6.frz xt;have r126:=o6.tell;exact Af (K:=K) (A7 r126) hm xt.gh fun v127 G128 H129 x130 r131=>q v127 G128 H129 (xt.trans x130) r131
 ·clear 5
theorem Km (F:DIn K mg "ways_leaving" F9)(T:Txt mg):F4 P w K mg base:=by
 refine F.okM2 (m:=C3) Dj fun _ _ _ _ _ H0 _ _ hr G0 net_ Dh res CU Dx xt AM AN hm q=>?_;unfold C3 at hm
 refine ⟨_,(A5 (C2 (i:=2) (Ge Dj) rfl (Or.inl rfl) (cn:=[]) (cap:=[]) rfl ⟨by decide +kernel,rfl,by decide +kernel,BF rfl⟩ rfl (by decide +kernel) trivial (CI rfl T.range_ (A6 (AC K (pv 0) A8) AE)) (fun C s0 H0 fp=>⟨Bd,(Cb AE)⟩))
   (A5 (Bj PassesOwn.never rfl (J5 (K:=K) rfl rfl T.enumerate_ (A6 (AC K (pv 0) A8) AE)) (Ji rfl (CY (Av (i:=3) Dj) (CY (Av (i:=4) Dj) Hr))) (A5 (BD (B3 K (AC K (pv 1) (pv 3))) (A5 (Bv (BH K (AC K (pv 2) (AC K (pv 4) A8)) (pv 3)))
   AA) AA)
   AA))
   (A5 (Ae (pv 2))
   AA))),?_⟩
 clear 2 l9 h10 Cy h8;refine NN (K:=K) (cap:=[]) (Di (EX (A7 AM))) h10 (qjB h8).symm xt fun p2 cs3 G4 H5 x6 o7=>?_;clear 1 x6 AM AN;clear 2 as11 h12 fl13 h14;refine L5 (K:=K) (RR:=fun r v G' H'=>Ext G0 H0 G' H'/\Rp.rel K G' v r) (Kz (Db (A7 AM))) h12 h14 xt.gh fun G15 H16 x17=>⟨fun s18 S' G' H'=>∃ (v19:Option V) (v20:Option V),Ext G0 H0 G' H'/\Same G15 G'/\S'=[some CU,some Dx,some (V.ref p2),v19,v20]/\(∃ vs,OwnC K H0 G' H' (V.ref p2) p2 vs (s18.map some)),?_,?_,?_,?_,?_⟩
 ·clear 1 x17 2 o7;exact ⟨_,_,xt,(Same.refl _),rfl,⟨_,o7⟩⟩
 ·rintro _ S' G' H' ⟨v19,v20,xt,mk21,rfl,⟨cs3,o7⟩⟩;exact ⟨mk21,xt.gh⟩
 ·rintro xv22 te32 a23 s18 _ G26 H27 fl24 ⟨v19,v20,xt,mk21,rfl,⟨cs3,o7⟩⟩ ht33 rx25 hm D' kN28 kC29 kB30 kR31;have AN:=Rp.mono (x17.gg.trans mk21) AN;have x35:=Ext.new (o:=.tup [.int a23.1,xv22]) xt.gh ht33;clear 1 x35 AN rx25 2 o7 3 mk21;refine Ik (a:=a23) ?_;have r36:Rp.rel K (upd G26 te32 (.tup [.int a23.1,xv22])) (V.int a23.1) a23.1:=rfl;clear 2 b39 h40;refine Bf (F6 (K:=K) (B9 (A7 AN) (A7 r36))) h40 xt.gh fun G41 H42 x43=>?_;clear 1 x43 r36 rx25 2 o7 3 mk21
  cases b39 with
  | true =>
   clear 3;clear 2 k44 h45 a46 h47 z54 h48;refine Lo (K:=K) rfl o7 (EX (A7 rx25)) h45 (A7 r36) h47 h48 xt fun G49 H50 H51 x52 xt o53=>?_;clear 0 x52 3 mk21;cases hm;exact kN28 _ _ _ _ rfl ⟨_,_,xt,mk21,rfl,⟨_,o53⟩⟩
  | false =>
   clear 4;cases hm;exact kN28 _ _ _ _ rfl ⟨_,_,xt,mk21,rfl,⟨_,o7⟩⟩
 ·rintro s18 _ G58 H59 rfl ⟨v55,v56,xt,mk57,rfl,⟨cs3,o7⟩⟩;refine C6 ?_;have sf:=o7.up;have xt:=o7.frz xt;have r60:=o7.tellL;exact Af (K:=K) (A7 r60) hm xt.gh fun v61 G62 H63 x64 r65=>q v61 G62 H63 (xt.trans x64) r65
 ·clear 5
theorem Rf (F:DIn K mg "traced" M7)(T:Txt mg):P4 P w K mg base:=by
 refine F.okM3 (m:=Fq) Mv fun _ _ _ _ _ H0 _ _ hr G0 CN came_by_ last_ res Hn QV v_last_ xt Au DK r_last_ hm q=>?_;unfold Fq at hm
 refine ⟨_,(A5 (AG (i:=3) Mv (Cb (A6 (pv 2) AE)))
   (A5 (HD PassesOwn.never (AY JS (JR (DZ hr) (pv 1) (AC K (AC K (pv 0) (AC K (pv 3) (Mh Jt A8))) A8) (fun _ _=>rfl)) C8 (Ac _)) (A5 (Bv (BH K (pv 3) (JR (DZ hr) (pv 1) (AC K (AC K (pv 0) (AC K (pv 3) (Mh Jt A8))) A8) (fun _ _=>rfl))))
   AA))
   (A5 (Ae (Ri (sl3_list (K:=K) rfl) (pv 3) GA GA (Ho (Mh Jt A8))))
   AA))),?_⟩
 clear 2 Ph h8;refine DH (K:=K) (DM (Bo (A7 r_last_) (Bw (α:=Int)))) h8 xt.gh fun p1 vs2 G3 H4 x5 hz6 o7=>?_;clear 1 x5 Au DK 4 hz6;clear 2 fl9 h10;refine HR (K:=K) (G:=G3) (RR:=fun r v G' H'=>Ext G0 H0 G' H'/\Rp.rel K G' v r) h10 (fun s11 S' G' H'=>Ext G0 H0 G' H'/\Same G3 G'/\S'=[some Hn,some QV,some v_last_,some (V.ref p1)]/\(∃ vs,Own K G' H' (V.ref p1) p1 vs s11)) ⟨?_,?_,?_,?_,?_,?_⟩
 ·exact ⟨xt,(Same.refl _),rfl,⟨_,o7⟩⟩
 ·rintro _ S' G' H' ⟨xt,mk12,rfl,⟨vs2,o7⟩⟩;exact xt.gh
 ·rintro s11 _ G13 H14 b' ⟨xt,mk12,rfl,⟨vs2,o7⟩⟩ hc Q' k';clear 9 mk12 Au DK;refine TV.runB o7 (AU (K:=K) (L0 O4 (R9 (A7 (Rp.mono (Same.new o7.g) DK)) (EX (B9 (A7 (Rp.mono (Same.new o7.g) Au)) (B9 (A7 o7.tell) (Jk An))))))) hc xt.gh fun G31 H32 x33=>?_;clear 1 x33 2 o7 3 mk12;exact k' _ _ ⟨xt,mk12,rfl,⟨_,o7⟩⟩
 ·rintro s11 _ G35 H36 fl34 ⟨xt,mk12,rfl,⟨vs2,o7⟩⟩ hm - D' kN37 kC38 kB39 kR40;clear 9 mk12 Au DK;clear 2 a57 h58 z65 h59;refine Pp (K:=K) rfl o7 (BY (R9 (A7 (Rp.mono (Same.new o7.g) DK)) (EX (B9 (A7 (Rp.mono (Same.new o7.g) Au)) (B9 (A7 o7.tell) (Jk An)))))) h58 h59 xt.gh fun G60 H61 w62 x63 o64=>?_;have xt:Ext G0 H0 G60 (upd H61 p1 (.lst (vs2++[w62]))):=(xt.trans x63).put hz6 o64.g;clear 0 x63 3 mk12;cases hm;exact kN37 _ _ _ _ rfl ⟨xt,mk12,rfl,⟨_,o64⟩⟩
 ·rintro s11 _ G67 H68 rfl ⟨xt,mk66,rfl,⟨vs2,o7⟩⟩;refine C6 ?_;have sf:=Same.new (o:=.lst vs2) o7.g;have xt:=xt.frz hz6 o7.g o7.h;have r69:=o7.tell;exact Af (K:=K) (FV.ev (RX (c:=-1) (A7 r69) Ku Ku (Jk An))) hm xt.gh fun v70 G71 H72 x73 r74=>q v70 G71 H72 (xt.trans x73) r74
 ·clear 5
theorem K8 (F:DIn K mg "shortest_path" Ea)(T:Txt mg)(Lr:P4 P w K mg base):EZ P w K mg base:=by
 refine F.okM4 (m:=Ba) BV fun _ _ _ _ _ H0 _ _ hr G0 CN Cy begin_ Dh res Hn IR Df Dx xt Au Ap AR AN hm q=>?_;unfold Ba at hm
 refine ⟨_,(A5 (AG (i:=4) BV (pe_disp (pps_cons (pv 2) C8 pps_nil) rfl rfl (fun z=>nomatch z) (by decide)))
   (A5 (AG (i:=5) BV (Cb (A6 (pv 2) AE)))
   (A5 (AG (i:=6) BV A8)
   (A5 (HD PassesOwn.never (AY FB (pv 6) (Aw K T.len_ (pv 5)) (Ac _)) (A5 (AG (i:=7) BV (AC K (pv 5) (pv 6)))
   (A5 (Bj PassesOwn.never rfl (Ay (K:=K) rfl (AC K (pv 1) (pv 7))) (Av (i:=8) BV) (A5 (BD (B3 K (AC K (pv 3) (pv 8))) (A5 (Ae (AX Lr hr (by decide) rfl (A6 (pv 0) (A6 (pv 4) (A6 (pv 8) AE)))))
   AA) AA)
   (A5 (AG (i:=9) BV (AC K (AC K (pv 0) (pv 8)) A8))
   (A5 (BD (OR (DZ hr) (pv 9) (pv 4) rfl) (A5 (Kr (DZ hr) (pv 4) (pv 9) (pv 8) rfl)
   (A5 (Bv (BH K (pv 5) (pv 9)))
   AA)) AA)
   AA))))
   (A5 (AG (i:=6) BV (Aj K (pv 6) A8))
   AA))))
   (A5 (Ae C8)
   AA))))),?_⟩
 clear 2 k9 h10 a11 h12 came_by_ h8;refine sv_ownM1 (K:=K) (A7 AR) h10 (Eu (α:=Int)) h12 h8 xt.gh fun p1 vs2 G3 H4 x5 hz6 o7=>?_;clear 1 x5 Au Ap AR AN 4 hz6;clear 2 KU h20;refine DH (K:=K) (DM (Bo (A7 AR) (Bw (α:=Int)))) h20 xt.gh fun p13 vs14 G15 H16 x17 hz18 o19=>?_;have ne_p1_p13:p1≠p13:=B7 o7.h hz18;clear 1 x17 Au Ap AR AN 2 o7 4 hz18;clear 2 BK h26;refine AW (K:=K) An h26 xt.gh fun v21 G22 H23 x24 r25=>?_;clear 1 x24 Au Ap AR AN 2 o7 o19;clear 2 fl27 h28;refine HR (K:=K) (G:=G22) (RR:=fun r v G' H'=>Ext G0 H0 G' H'/\Rp.rel K G' v r) h28 (fun s29 S' G' H'=>∃ (v30:V) (v31:Option V) (v32:Option V) (v33:Option V),Ext G0 H0 G' H'/\Same G22 G'/\S'=[some Hn,some IR,some Df,some Dx,some (V.ref p1),some (V.ref p13),some v30,v31,v32,v33]/\(∃ vs,OwnM K G' H' (V.ref p1) p1 vs s29.1)/\(∃ vs,Own K G' H' (V.ref p13) p13 vs s29.2.1)/\Rp.rel K G' v30 (s29.2.2:Int)) ⟨?_,?_,?_,?_,?_,?_⟩
 ·exact ⟨v21,_,_,_,xt,(Same.refl _),rfl,⟨_,o7⟩,⟨_,o19⟩,r25⟩
 ·rintro _ S' G' H' ⟨v30,v31,v32,v33,xt,mk34,rfl,⟨vs2,o7⟩,⟨vs14,o19⟩,r35⟩;exact xt.gh
 ·rintro s29 _ G36 H37 b' ⟨v30,v31,v32,v33,xt,mk34,rfl,⟨vs2,o7⟩,⟨vs14,o19⟩,r35⟩ hc Q' k';refine TV.runB o19 (AU (K:=K) (CD (A7 (Rp.mono (Same.new o19.g) r35)) (Bx (A7 o19.tell)))) hc xt.gh fun G38 H39 x40=>?_;clear 1 x40 r35 2 o7 o19 3 mk34;exact k' _ _ ⟨v30,_,_,_,xt,mk34,rfl,⟨_,o7⟩,⟨_,o19⟩,r35⟩
 ·rintro s29 _ G42 H43 fl41 ⟨v30,v31,v32,v33,xt,mk34,rfl,⟨vs2,o7⟩,⟨vs14,o19⟩,r35⟩ hm - D' kN44 kC45 kB46 kR47;clear 9 mk34 Au Ap AR AN;clear 2 Cc h57;refine Kv (K:=K) o19 (B9 (A7 o19.tell) (A7 (Rp.mono (Same.new o19.g) r35))) h57 xt.gh fun v52 G53 H54 x55 r56=>?_;clear 1 x55 Au Ap AR AN r35 2 o7 o19 3 mk34;clear 2 as60 h61 fl62 h63;refine CC (K:=K) (RR:=fun r v G' H'=>Ext G0 H0 G' H'/\Rp.rel K G' v r) (BB (B9 (A7 Ap) (A7 r56))) h61 h63 xt.gh fun G64 H65 x66=>⟨fun s67 S' G' H'=>∃ (v68:Option V) (v69:Option V),Ext G0 H0 G' H'/\Same G64 G'/\S'=[some Hn,some IR,some Df,some Dx,some (V.ref p1),some (V.ref p13),some v30,some v52,v68,v69]/\(∃ vs,OwnM K G' H' (V.ref p1) p1 vs s67.1)/\(∃ vs,Own K G' H' (V.ref p13) p13 vs s67.2),?_,?_,?_,?_,?_⟩
  ·clear 1 x66 2 o7 o19;exact ⟨_,_,xt,(Same.refl _),rfl,⟨_,o7⟩,⟨_,o19⟩⟩
  ·rintro _ S' G' H' ⟨v68,v69,xt,mk70,rfl,⟨vs2,o7⟩,⟨vs14,o19⟩⟩;exact ⟨mk70,xt.gh⟩
  ·rintro xv71 a72 s67 _ G75 H76 fl73 - ⟨v68,v69,xt,mk70,rfl,⟨vs2,o7⟩,⟨vs14,o19⟩⟩ rx74 hm D' kN77 kC78 kB79 kR80;have mk34:=(mk34.trans x66.gg).trans mk70;have Au:=Rp.mono (x66.gg.trans mk70) Au;have Ap:=Rp.mono (x66.gg.trans mk70) Ap;have AR:=Rp.mono (x66.gg.trans mk70) AR;have AN:=Rp.mono (x66.gg.trans mk70) AN;have r35:=Rp.mono (x66.gg.trans mk70) r35;have r56:=Rp.mono (x66.gg.trans mk70) r56;refine Bc ?_;clear 2 b83 h84;refine Bf (F6 (K:=K) (B9 (A7 AN) (A7 rx74))) h84 xt.gh fun G85 H86 x87=>?_;clear 1 x87 Au Ap AR AN r35 r56 rx74 2 o7 o19 3 mk34 mk70
   cases b83 with
   | true =>
    clear 3;have sf:=Same.new (o:=.dK vs2) o7.g;have xt:=xt.frz hz6 o7.g o7.h;have r96:=o7.tell;have mk34:=mk34.trans sf;have mk70:=mk70.trans sf;clear 9 sf Au Ap AR AN;have o19:=o19.over (o:=.dK vs2) (by ac_rfl) o7.g;clear 9 sf rx74;clear 2 rr106 h107;cases hm;exact Af (K:=K) (Es (EN (m:=Mt) (A7 Au) (A7 r96) (A7 rx74))) h107 xt.gh fun v101 G102 H103 x104 r105=>kR80 _ v101 G102 H103 rfl ⟨xt.trans x104,r105⟩
   | false =>
    clear 4;clear 2 end_ h116;refine AW (K:=K) (Db (B9 (A7 Au) (A7 rx74))) h116 xt.gh fun v111 G112 H113 x114 r115=>?_;clear 1 x114 Au Ap AR AN r35 r56 rx74 2 o7 o19 3 mk34 mk70;clear 2 b117 h118;refine sv_ifM o7 (AU (K:=K) (N0 (A7 (Rp.mono (Same.new o7.g) r115)) (A7 o7.tell))) h118 xt.gh fun G119 H120 x121=>?_;clear 1 x121 Au Ap AR AN r35 r56 rx74 r115 2 o7 o19 3 mk34 mk70
    cases b117 with
    | true =>
     clear 3;clear 2 a122 h123 k124 h125 z132 h126;refine Qv (K:=K) rfl o7 (Es (A7 rx74)) h123 (A7 r115) h125 h126 xt.gh fun G127 H128 w129 x130 o131=>?_;have xt:Ext G0 H0 G127 (upd H128 p1 (.dK (Cg vs2 (.inl k124) w129))):=(xt.trans x130).put hz6 o131.g;clear 0 x130 Au Ap AR AN 3 mk34 mk70;have o19:=(o19.ext x130).put (q:=p1) (ho:=.dK (Cg vs2 (.inl k124) w129)) (by ac_rfl);clear 0 x130 r35 r56 rx74 r115;clear 2 a133 h134 z141 h135;refine D3 (K:=K) rfl o19 (A7 r115) h134 h135 xt.gh fun G136 H137 w138 x139 o140=>?_;have xt:Ext G0 H0 G136 (upd H137 p13 (.lst (vs14++[w138]))):=(xt.trans x139).put hz18 o140.g;clear 0 x139 Au Ap AR AN 3 mk34 mk70;have o131:=(o131.ext x139).put (q:=p13) (ho:=.lst (vs14++[w138])) (by ac_rfl);cases hm;exact kN77 _ _ _ _ rfl ⟨_,_,xt,mk70,rfl,⟨_,o131⟩,⟨_,o140⟩⟩
    | false =>
     clear 4;cases hm;exact kN77 _ _ _ _ rfl ⟨_,_,xt,mk70,rfl,⟨_,o7⟩,⟨_,o19⟩⟩
  ·rintro s67 _ G145 H146 rfl ⟨v142,v143,xt,mk144,rfl,⟨vs2,o7⟩,⟨vs14,o19⟩⟩;refine C6 ?_;have mk34:=(mk34.trans x66.gg).trans mk144;have r35:=Rp.mono (x66.gg.trans mk144) r35;clear 2 BK h152;refine AW (K:=K) (BJ (A7 r35) An) h152 xt.gh fun v147 G148 H149 x150 r151=>?_;clear 1 x150 2 o7 o19 3 mk34;cases hm;exact kN44 _ _ _ _ rfl ⟨v147,_,_,_,xt,mk34,rfl,⟨_,o7⟩,⟨_,o19⟩,r151⟩
  ·clear 6 kR47
 ·rintro s29 _ G159 H160 rfl ⟨v153,v154,v155,v156,xt,mk157,rfl,⟨vs2,o7⟩,⟨vs14,o19⟩,r158⟩;refine C6 ?_;exact Af (K:=K) (rest:=DW) (σ:=[some Hn,some IR,some Df,some Dx,some (V.ref p1),some (V.ref p13),some v153,v154,v155,v156]) (Eu (α:=(List Int))) hm xt.gh fun v161 G162 H163 x164 r165=>q v161 G162 H163 (xt.trans x164) r165
 ·clear 5
theorem Jf (F:DIn K mg "missing_marks" Ec)(T:Txt mg):Eg P w K mg base:=by
 refine F.okM2 (m:=BO) Jl fun _ _ _ _ _ H0 _ _ hr G0 taken_ Bb res Lj FE xt E2 BM hm q=>?_;unfold BO at hm
 refine ⟨_,(A5 (Ae (D7 (cn:=["taken"]) (cap:=[0]) rfl ⟨by decide +kernel,rfl,by decide +kernel,BF rfl⟩ rfl (by decide +kernel) ⟨⟨rfl,.inl rfl,rfl⟩,trivial⟩ (CI rfl T.range_ (A6 (pv 1) AE)) (fun C s0 H0 fp=>⟨(Iz (OR (DZ hr) (pv 0) (pv 1) rfl)),(pv 0)⟩)))
   AA),?_⟩
 exact Af (K:=K) (FV.ev (JD (cap:=[0]) (fc:=fun (DF:Int)=>(some (!hasM taken_.l DF))) (fe:=fun (DF:Int)=>(some DF)) (Di (A7 BM)) fun xc5 DF Gc2 sc3 rc4=>⟨(AU (K:=K) (N0 (A7 rc4) (A7 (Rp.mono sc3 E2)))),(A7 rc4)⟩)) hm xt.gh fun v7 G8 H9 x10 r11=>q v7 G8 H9 (xt.trans x10) r11
theorem QZ (F:DIn K mg "is_fair" JY)(T:Txt mg)(CG:Eg P w K mg base):Jh P w K mg base:=by
 refine F.okM2 (m:=Cz) Po fun _ _ _ _ _ H0 _ _ hr G0 taken_ Bb res Lj FE xt E2 BM hm q=>?_;unfold Cz at hm
 refine ⟨_,(A5 (Ae (Lv (E8 JS (pv 0) C8 (Ac _)) (NZ (E8 E9 (Aw K T.len_ (AX CG hr (by decide) rfl (A6 (pv 0) (A6 (pv 1) AE)))) A8 (Ac _)))))
   AA),?_⟩
 exact Af (K:=K) (Lc (L0 Qh (A7 E2)) (E3 (Bx (Ak (m:=EG) (BY (A7 E2)) (A7 BM))) An)) hm xt.gh fun v7 G8 H9 x10 r11=>q v7 G8 H9 (xt.trans x10) r11
theorem PR (F:DIn K mg "is_taken" IU)(T:Txt mg):Lq P w K mg base:=by
 refine F.okM3 (m:=ED) PV fun _ _ _ _ _ H0 _ _ hr G0 CN DF HN res Hn v_mark_ FN xt Au r_mark_ Do hm q=>?_;unfold ED at hm
 refine ⟨_,(A5 (Ae (DI (S3 (K:=K) rfl rfl) (by rfl) T.any_ bt_any (A6 (D7 (cn:=["mark","ways"]) (cap:=[1,0]) rfl ⟨by decide +kernel,rfl,by decide +kernel,BF rfl⟩ rfl (by decide +kernel) ⟨⟨rfl,.inl rfl,rfl⟩,⟨rfl,.inl rfl,rfl⟩,trivial⟩ (Ay (K:=K) rfl (pv 2)) (fun C s0 H0 fp=>⟨Bd,(E8 (QK (K:=K) rfl) (pv 1) (AC K (AC K (pv 2) (pv 0)) A8) rfl)⟩)) AE)))
   AA),?_⟩
 exact Af (K:=K) (ev_any (FV.ev (D6 (cap:=[1,0]) (fe:=fun (Ai:Int)=>((((some CN).bind fun t5=>(some Ai).bind fun t6=>atI t5 t6).bind fun t7=>(some t7.c)).bind fun t8=>(some (decide (DF∈t8.l))))) (BB (A7 Do)) fun xc4 Ai Gc1 sc2 rc3=>(Px (A7 (Rp.mono sc2 r_mark_)) (IN (B9 (A7 (Rp.mono sc2 Au)) (A7 rc3))))))) hm xt.gh fun v11 G12 H13 x14 r15=>q v11 G12 H13 (xt.trans x14) r15
theorem Lu (F:DIn K mg "ring_within" Fc)(T:Txt mg)(CZ:F4 P w K mg base)(Ii:Lq P w K mg base)(Bs:EZ P w K mg base):Hy P w K mg base:=by
 refine F.okM3 (m:=CQ) C7 fun _ _ _ _ _ H0 _ _ hr G0 net_ BW begin_ res CU Fx Df xt AM BA AR hm q=>?_;unfold CQ at hm
 refine ⟨_,(A5 (AG (i:=3) C7 (AC K (pv 0) A8))
   (A5 (AG (i:=4) C7 (AX CZ hr (by decide) rfl (A6 (pv 0) (A6 (D7 (cn:=["knots"]) (cap:=[1]) rfl ⟨by decide +kernel,rfl,by decide +kernel,BF rfl⟩ rfl (by decide +kernel) ⟨⟨rfl,.inl rfl,rfl⟩,trivial⟩ (Ay (K:=K) rfl (pv 3)) (fun C s0 H0 fp=>⟨Bd,(E8 E9 (AC K (pv 1) (AC K (pv 0) A8)) (AC K (pv 1) (AC K (pv 0) A8)) (Ac _))⟩)) AE))))
   (A5 (AG (i:=5) C7 (Cb AE))
   (A5 (AG (i:=6) C7 (pv 2))
   (A5 (Bj PassesOwn.never rfl (CI rfl T.range_ (A6 (AC K (pv 0) A8) AE)) (Av (i:=7) C7) (A5 (BD (Da (B3 K (AX Ii hr (by decide) rfl (A6 (pv 3) (A6 (pv 7) (A6 (pv 5) AE)))))) (A5 (Bv (Ic (K:=K) rfl PySem.F.plainAttrs_list PySem.F.slot_list_extend PySem.F.type_list_extend LJ (pv 5) (A6 (AX Bs hr (by decide) rfl (A6 (pv 3) (A6 (pv 4) (A6 (pv 6) (A6 (D7 (cn:=["mark"]) (cap:=[7]) rfl ⟨by decide +kernel,rfl,by decide +kernel,BF rfl⟩ rfl (by decide +kernel) ⟨⟨rfl,.inl rfl,rfl⟩,trivial⟩ (Ay (K:=K) rfl (pv 3)) (fun C s0 H0 fp=>⟨Bd,(E8 (QK (K:=K) rfl) (pv 1) (AC K (pv 0) A8) rfl)⟩)) AE))))) AE)))
   (A5 (AG (i:=6) C7 (AC K (AC K (pv 3) (AC K (pv 5) (Mh Jt A8))) A8))
   AA)) AA)
   AA))
   (A5 (BD (PW.pt (CW (AY E9 (Aw K T.len_ (pv 5)) A8 (Ac _)) (DY (AY JF (pv 6) (pv 2) (Ac _))))) (A5 (Bv (Ic (K:=K) rfl PySem.F.plainAttrs_list PySem.F.slot_list_extend PySem.F.type_list_extend LJ (pv 5) (A6 (AX Bs hr (by decide) rfl (A6 (pv 3) (A6 (pv 4) (A6 (pv 6) (A6 (D7 (cn:=["begin"]) (cap:=[2]) rfl ⟨by decide +kernel,rfl,by decide +kernel,BF rfl⟩ rfl (by decide +kernel) ⟨⟨rfl,.inl rfl,rfl⟩,trivial⟩ (Ay (K:=K) rfl (pv 3)) (fun C s0 H0 fp=>⟨Bd,(E8 E9 (AC K (pv 0) A8) (pv 1) (Ac _))⟩)) AE))))) AE)))
   AA) AA)
   (A5 (Ae (pv 5))
   AA))))))),?_⟩
 clear 2 CN h6;refine AW (K:=K) (Db (A7 AM)) h6 xt.gh fun v1 G2 H3 x4 r5=>?_;clear 1 x4 AM BA AR;clear 2 Cy h27;refine AW (K:=K) (Ak (m:=Eh) (A7 AM) (FV.ev (D6 (cap:=[1]) (fe:=fun (way_:(T3 Int Int (Tp Int)))=>(((some BW).bind fun t11=>(some way_.a).bind fun t12=>atI t11 t12).bind fun t17=>((some BW).bind fun t15=>(some way_.b).bind fun t16=>atI t15 t16).bind fun t18=>(some (decide (t17=t18))))) (BB (A7 r5)) fun xc10 way_ Gc7 sc8 rc9=>(Qw (B9 (A7 (Rp.mono sc8 BA)) (EX (A7 rc9))) (B9 (A7 (Rp.mono sc8 BA)) (Db (A7 rc9))))))) h27 xt.gh fun v22 G23 H24 x25 r26=>?_;clear 1 x25 AM BA AR r5;clear 2 ring_ h35;refine DH (K:=K) (DM (Bw (α:=Int))) h35 xt.gh fun p28 vs29 G30 H31 x32 hz33 o34=>?_;clear 1 x32 AM BA AR r5 r26 4 hz33;clear 2 Pi h41;refine AW (K:=K) (A7 AR) h41 xt.gh fun v36 G37 H38 x39 r40=>?_;clear 1 x39 AM BA AR r5 r26 2 o34;clear 2 as43 h44 fl45 h46;refine CC (K:=K) (RR:=fun r v G' H'=>Ext G0 H0 G' H'/\Rp.rel K G' v r) (Di (IN (A7 AM))) h44 h46 xt.gh fun G47 H48 x49=>⟨fun s50 S' G' H'=>∃ (v51:V) (v52:Option V),Ext G0 H0 G' H'/\Same G47 G'/\S'=[some CU,some Fx,some Df,some v1,some v22,some (V.ref p28),some v51,v52]/\(∃ vs,Own K G' H' (V.ref p28) p28 vs s50.1)/\Rp.rel K G' v51 (s50.2:Int),?_,?_,?_,?_,?_⟩
 ·clear 1 x49 r40 2 o34;exact ⟨v36,_,xt,(Same.refl _),rfl,⟨_,o34⟩,r40⟩
 ·rintro _ S' G' H' ⟨v51,v52,xt,mk53,rfl,⟨vs29,o34⟩,r54⟩;exact ⟨mk53,xt.gh⟩
 ·rintro xv55 a56 s50 _ G59 H60 fl57 - ⟨v51,v52,xt,mk53,rfl,⟨vs29,o34⟩,r54⟩ rx58 hm D' kN61 kC62 kB63 kR64;have r5:=Rp.mono (x49.gg.trans mk53) r5;have r26:=Rp.mono (x49.gg.trans mk53) r26;refine Bc ?_;clear 2 b73 h74;refine IG o34 (Dd (F6 (K:=K) (EN (m:=Ke) (A7 (Rp.mono (Same.new o34.g) r5)) (A7 (Rp.mono (Same.new o34.g) rx58)) (A7 o34.tell)))) h74 xt.gh fun G75 H76 x77=>?_;clear 1 x77 r5 r26 r54 rx58 2 o34 3 mk53
  cases b73 with
  | true =>
   clear 3;clear 2 a97 h98 z105 h99;refine LN (K:=K) rfl o34 (BY (Hq (m:=DR) (A7 r5) (A7 r26) (A7 r54) (FV.ev (D6 (cap:=[7]) (fe:=fun (way_:(T3 Int Int (Tp Int)))=>(some (decide (a56∈way_.c.l)))) (BB (A7 r5)) fun xc90 way_ Gc87 sc88 rc89=>(Px (A7 (Rp.mono sc88 rx58)) (IN (A7 rc89))))))) h98 h99 xt.gh fun G100 H101 w102 x103 o104=>?_;have xt:Ext G0 H0 G100 (upd H101 p28 (.lst (vs29++w102))):=(xt.trans x103).put hz33 o104.g;clear 0 x103 r5 3 mk53;clear 2 Pi h121;refine Kv (K:=K) o104 (Db (B9 (A7 (Rp.mono (Same.new o104.g) r5)) (B9 (A7 o104.tell) (Jk An)))) h121 xt.gh fun v116 G117 H118 x119 r120=>?_;clear 1 x119 2 o104 3 mk53;cases hm;exact kN61 _ _ _ _ rfl ⟨v116,_,xt,mk53,rfl,⟨_,o104⟩,r120⟩
  | false =>
   clear 4;cases hm;exact kN61 _ _ _ _ rfl ⟨v51,_,xt,mk53,rfl,⟨_,o34⟩,r54⟩
 ·rintro s50 _ G126 H127 rfl ⟨v122,v123,xt,mk124,rfl,⟨vs29,o34⟩,r125⟩;refine C6 ?_;have AM:=Rp.mono (x49.gg.trans mk124) AM;have BA:=Rp.mono (x49.gg.trans mk124) BA;have AR:=Rp.mono (x49.gg.trans mk124) AR;have r5:=Rp.mono (x49.gg.trans mk124) r5;have r26:=Rp.mono (x49.gg.trans mk124) r26;clear 2 b128 h129 s133 h134
  try (with_reducible refine nxt_ ?_;dsimp only)
  refine Ev (t:=IH _ _ _) (fun S167 H166=>∃ (G165:Hp) ,Ext G0 H0 G165 H166/\Same G126 G165/\S167=[some CU,some Fx,some Df,some v1,some v22,some (V.ref p28),some v122,v123]/\(∃ vs,Own K G165 H166 (V.ref p28) p28 vs s133)) (fun nx kn136=>?_) ?_
  ·refine IG o34 (tv_orP (AU (K:=K) (E3 (Bx (A7 o34.tell)) An)) (AU (K:=K) (Jv (A7 (Rp.mono (Same.new o34.g) r125)) (A7 (Rp.mono (Same.new o34.g) AR))))) h129 xt.gh fun G130 H131 x132=>?_;clear 1 x132 AR r5 r26 r125 2 o34;have mk135:Same G126 G130:=x132.gg;have hm:=h134
   cases b128 with
   | true =>
    clear 3;clear 2 a156 h157 z164 h158;refine LN (K:=K) rfl o34 (BY (Hq (m:=DR) (A7 r5) (A7 r26) (A7 r125) (FV.ev (D6 (cap:=[2]) (fe:=fun (way_:(T3 Int Int (Tp Int)))=>(some (decide (way_.b=begin_)))) (BB (A7 r5)) fun xc149 way_ Gc146 sc147 rc148=>(E3 (Db (A7 rc148)) (A7 (Rp.mono sc147 AR))))))) h157 h158 xt.gh fun G159 H160 w161 x162 o163=>?_;have xt:Ext G0 H0 G159 (upd H160 p28 (.lst (vs29++w161))):=(xt.trans x162).put hz33 o163.g;clear 0 x162 3 mk135;cases hm;exact kn136 _ _ ⟨G159,xt,mk135,rfl,⟨_,o163⟩⟩
   | false =>
    clear 4;cases hm;exact kn136 _ _ ⟨G130,xt,mk135,rfl,⟨_,o34⟩⟩
  ·rintro _ H166 ⟨G165,xt,mk135,rfl,⟨vs29,o34⟩⟩;have sf:=Same.new (o:=.lst vs29) o34.g;have xt:=xt.frz hz33 o34.g o34.h;have r168:=o34.tell;exact Af (K:=K) (A7 r168) hm xt.gh fun v169 G170 H171 x172 r173=>q v169 G170 H171 (xt.trans x172) r173
 ·clear 5
theorem N6 (F:DIn K mg "ring_from" Gm)(T:Txt mg)(EK:IY P w K mg base)(Ca:FF P w K mg base)(CZ:F4 P w K mg base)(Bs:EZ P w K mg base)(Ez:Jh P w K mg base)(EQ:Hy P w K mg base):KJ P w K mg base:=by
 refine F.okM2 (m:=Dv) Cj fun _ _ _ _ _ H0 _ _ hr G0 net_ Cc res CU v_node_ xt AM Cr hm q=>?_;unfold Dv at hm
 refine ⟨_,(A5 (AG (i:=2) Cj (AC K (pv 0) A8))
   (A5 (AG (i:=3) Cj (AX EK hr (by decide) rfl (A6 (pv 0) AE)))
   (A5 (AG (i:=4) Cj (AX Ca hr (by decide) rfl (A6 (pv 0) (A6 (pv 3) AE))))
   (A5 (AG (i:=5) Cj (D7 (cn:=["within","net"]) (cap:=[4,0]) rfl ⟨by decide +kernel,rfl,by decide +kernel,BF rfl⟩ rfl (by decide +kernel) ⟨⟨rfl,.inl rfl,rfl⟩,⟨rfl,.inl rfl,rfl⟩,trivial⟩ (Ay (K:=K) rfl (pv 3)) (fun C s0 H0 fp=>⟨Bd,(AX Ez hr (by decide) rfl (A6 (AC K (pv 1) (pv 0)) (A6 (AC K (pv 2) A8) AE)))⟩)))
   (A5 (BD (B3 K (AC K (pv 5) (pv 1))) (A5 (Ae (C9 (A6 (Cb AE) (A6 (AX EQ hr (by decide) rfl (A6 (pv 0) (A6 (pv 3) (A6 (pv 1) AE)))) AE))))
   AA) AA)
   (A5 (AG (i:=6) Cj (AX CZ hr (by decide) rfl (A6 (pv 0) (A6 (D7 (cn:=[]) (cap:=[]) rfl ⟨by decide +kernel,rfl,by decide +kernel,BF rfl⟩ rfl (by decide +kernel) trivial (Ay (K:=K) rfl (pv 2)) (fun C s0 H0 fp=>⟨Bd,Dw⟩)) AE))))
   (A5 (AG (i:=7) Cj (AX Bs hr (by decide) rfl (A6 (pv 2) (A6 (pv 6) (A6 (pv 1) (A6 (D7 (cn:=["fair"]) (cap:=[5]) rfl ⟨by decide +kernel,rfl,by decide +kernel,BF rfl⟩ rfl (by decide +kernel) ⟨⟨rfl,.inl rfl,rfl⟩,trivial⟩ (Ay (K:=K) rfl (pv 2)) (fun C s0 H0 fp=>⟨Bd,(AC K (pv 1) (AC K (pv 0) A8))⟩)) AE))))))
   (A5 (BD (AY HM (pv 7) C8 (Ac _)) (A5 (Ae C8)
   AA) AA)
   (A5 (Ae (C9 (A6 (pv 7) (A6 (AX EQ hr (by decide) rfl (A6 (pv 0) (A6 (pv 3) (A6 (AC K (AC K (pv 2) (AC K (pv 7) (Mh Jt A8))) A8) AE)))) AE))))
   AA))))))))),?_⟩
 clear 2 CN h6;refine AW (K:=K) (Db (A7 AM)) h6 xt.gh fun v1 G2 H3 x4 r5=>?_;clear 1 x4 AM Cr;clear 2 BW h13;refine AW (K:=K) (Ck (m:=Gq) (A7 AM)) h13 xt.gh fun v8 G9 H10 x11 r12=>?_;clear 1 x11 AM Cr r5;clear 2 EA h21;refine AW (K:=K) (Ak (m:=EY) (A7 AM) (A7 r12)) h21 xt.gh fun v16 G17 H18 x19 r20=>?_;clear 1 x19 AM Cr r5 r12;clear 2 RL h37;refine AW (K:=K) (FV.ev (D6 (cap:=[4,0]) (fe:=fun (FA:(Option Int))=>(((some EA).bind fun t27=>((some FA).bind fun t26=>t26).bind fun t28=>atI t27 t28).bind fun t29=>(some net_.c).bind fun t30=>Cz t29 t30)) (BB (A7 r12)) fun xc25 FA Gc22 sc23 rc24=>(Ak (m:=IZ) (B9 (A7 (Rp.mono sc23 r20)) (BY (A7 rc24))) (IN (A7 (Rp.mono sc23 AM)))))) h37 xt.gh fun v32 G33 H34 x35 r36=>?_;clear 1 x35 AM Cr r5 r12;clear 2 b40 h41;refine Bf (F6 (K:=K) (B9 (A7 r36) (A7 Cr))) h41 xt.gh fun G42 H43 x44=>?_;clear 1 x44 AM Cr r5 r12 r36
 cases b40 with
 | true =>
  clear 3;exact Af (K:=K) (Es (GR (FV.ev (DM (Bw (α:=Int)))) (EN (m:=FM) (A7 AM) (A7 r12) (A7 Cr)))) hm xt.gh fun v52 G53 H54 x55 r56=>q v52 G53 H54 (xt.trans x55) r56
 | false =>
  clear 4;clear 2 Cy h69;refine AW (K:=K) (Ak (m:=Eh) (A7 AM) (FV.ev (D6 (cap:=[]) (fe:=fun (way_:(T3 Int Int (Tp Int)))=>(some true)) (BB (A7 r5)) fun xc60 way_ Gc57 sc58 rc59=>Fu))) h69 xt.gh fun v64 G65 H66 x67 r68=>?_;clear 1 x67 AM Cr r5 r12 r36;clear 2 stem_ h86;refine AW (K:=K) (Hq (m:=DR) (A7 r5) (A7 r68) (A7 Cr) (FV.ev (D6 (cap:=[5]) (fe:=fun (way_:(T3 Int Int (Tp Int)))=>((some RL).bind fun t74=>(some way_.b).bind fun t75=>atI t74 t75)) (BB (A7 r5)) fun xc73 way_ Gc70 sc71 rc72=>(B9 (A7 (Rp.mono sc71 r36)) (Db (A7 rc72)))))) h86 xt.gh fun v81 G82 H83 x84 r85=>?_;clear 1 x84 AM r5 r12;clear 2 b87 h88;refine Bf (AU (K:=K) (Gr nn_list (A7 r85))) h88 xt.gh fun G89 H90 x91=>?_;clear 1 x91 AM r5 r12 r85
  cases b87 with
  | true =>
   clear 3;exact Af (K:=K) (rest:=DW) (σ:=[some CU,some v_node_,some v1,some v8,some v16,some v32,some v64,some v81]) (Eu (α:=((List Int) × (List Int)))) hm xt.gh fun v92 G93 H94 x95 r96=>q v92 G93 H94 (xt.trans x95) r96
  | false =>
   clear 4;exact Af (K:=K) (Es (GR (BY (A7 r85)) (EN (m:=FM) (A7 AM) (A7 r12) (Db (B9 (A7 r5) (B9 (BY (A7 r85)) (Jk An))))))) hm xt.gh fun v110 G111 H112 x113 r114=>q v110 G111 H112 (xt.trans x113) r114
theorem S1 (F:DIn K mg "spread" M0)(T:Txt mg):LR P w K mg base:=by
 refine F.okM2 (m:=FG) Fj fun _ _ _ _ _ H0 _ _ hr G0 leads_ Dh res HK Dx xt AT AN hm q=>?_;unfold FG at hm
 refine ⟨_,(A5 (AG (i:=2) Fj (F1 (GL (K:=K) rfl) (by rfl) T.list_ GT (A6 (pv 1) AE)))
   (A5 (P5 (i:=3) (Ge Fj) rfl (Or.inl rfl) (cn:=[]) (cap:=[]) rfl ⟨by decide +kernel,rfl,by decide +kernel,BF rfl⟩ rfl rfl (by decide +kernel) trivial (J5 (K:=K) rfl rfl T.enumerate_ (A6 (pv 1) AE)) (fun C s0 H0 fp=>⟨(Iz (B3 K (pv 1))),(pv 0)⟩))
   (A5 (HD PassesOwn.never (AY K2 (Aw K T.len_ (pv 3)) A8 (Ac _)) (A5 (AG (i:=4) Fj (N7 (K:=K) rfl PySem.F.plainAttrs_list PySem.F.slot_list_pop PySem.F.type_list_pop Pu (pv 3)))
   (A5 (Bj PassesOwn.never rfl (Ay (K:=K) rfl (AC K (pv 0) (pv 4))) (Av (i:=5) Fj) (A5 (BD (Da (B3 K (AC K (pv 2) (pv 5)))) (A5 (Gu Dw (Hb (pv 2) (pv 5) ES))
   (A5 (Bv (BH K (pv 3) (pv 5)))
   AA)) AA)
   AA))
   AA)))
   (A5 (Ae (pv 2))
   AA)))),?_⟩
 clear 2 found_ h8;refine DH (K:=K) (L1 (A7 AN)) h8 xt.gh fun p1 vs2 G3 H4 x5 hz6 o7=>?_;clear 1 x5 AT AN 4 hz6;clear 2 KU h22;refine DH (K:=K) (fv_comp2 (cap:=[]) (fc:=fun (pc13:(Int × Bool))=>(some pc13.2)) (fe:=fun (pc13:(Int × Bool))=>(some pc13.1)) (if_list (A7 AN)) fun xc12 pc13 Gc9 sc10 rc11=>⟨(F6 (K:=K) (A7 rc11)),(A7 (rel_i (K:=K) Gc9 pc13.1))⟩) h22 xt.gh fun p15 vs16 G17 H18 x19 hz20 o21=>?_;have ne_p1_p15:p1≠p15:=B7 o7.h hz20;clear 1 x19 AT AN 2 o7 4 hz20;clear 2 fl23 h24;refine HR (K:=K) (G:=G17) (RR:=fun r v G' H'=>Ext G0 H0 G' H'/\Rp.rel K G' v r) h24 (fun s25 S' G' H'=>∃ (v26:Option V) (v27:Option V),Ext G0 H0 G' H'/\Same G17 G'/\S'=[some HK,some Dx,some (V.ref p1),some (V.ref p15),v26,v27]/\(∃ vs,Own K G' H' (V.ref p1) p1 vs s25.1)/\(∃ vs,Own K G' H' (V.ref p15) p15 vs s25.2)) ⟨?_,?_,?_,?_,?_,?_⟩
 ·exact ⟨_,_,xt,(Same.refl _),rfl,⟨_,o7⟩,⟨_,o21⟩⟩
 ·rintro _ S' G' H' ⟨v26,v27,xt,mk28,rfl,⟨vs2,o7⟩,⟨vs16,o21⟩⟩;exact xt.gh
 ·rintro s25 _ G29 H30 b' ⟨v26,v27,xt,mk28,rfl,⟨vs2,o7⟩,⟨vs16,o21⟩⟩ hc Q' k';refine TV.runB o21 (AU (K:=K) (CD (Bx (A7 o21.tell)) An)) hc xt.gh fun G31 H32 x33=>?_;clear 1 x33 2 o7 o21 3 mk28;exact k' _ _ ⟨_,_,xt,mk28,rfl,⟨_,o7⟩,⟨_,o21⟩⟩
 ·rintro s25 _ G35 H36 fl34 ⟨v26,v27,xt,mk28,rfl,⟨vs2,o7⟩,⟨vs16,o21⟩⟩ hm - D' kN37 kC38 kB39 kR40;clear 9 mk28 AT AN;clear 2 pr41 h42;refine sv_pop (K:=K) (a:=pr41.1) (as':=pr41.2) rfl o21 h42 fun w43 r44 o45=>?_;have xt:Ext G0 H0 G35 (upd H36 p15 (.lst vs16.dropLast)):=xt.put hz20 o45.g;have o7:=o7.put (q:=p15) (ho:=.lst vs16.dropLast) (by ac_rfl);clear 2 as48 h49 fl50 h51;refine CC (K:=K) (RR:=fun r v G' H'=>Ext G0 H0 G' H'/\Rp.rel K G' v r) (BB (B9 (A7 AT) (A7 r44))) h49 h51 xt.gh fun G52 H53 x54=>⟨fun s55 S' G' H'=>∃ (v56:Option V),Ext G0 H0 G' H'/\Same G52 G'/\S'=[some HK,some Dx,some (V.ref p1),some (V.ref p15),some w43,v56]/\(∃ vs,Own K G' H' (V.ref p1) p1 vs s55.1)/\(∃ vs,Own K G' H' (V.ref p15) p15 vs s55.2),?_,?_,?_,?_,?_⟩
  ·clear 1 x54 2 o7 o45;exact ⟨_,xt,(Same.refl _),rfl,⟨_,o7⟩,⟨_,o45⟩⟩
  ·rintro _ S' G' H' ⟨v56,xt,mk57,rfl,⟨vs2,o7⟩,⟨vs58,o45⟩⟩;exact ⟨mk57,xt.gh⟩
  ·rintro xv59 a60 s55 _ G63 H64 fl61 - ⟨v56,xt,mk57,rfl,⟨vs2,o7⟩,⟨vs58,o45⟩⟩ rx62 hm D' kN65 kC66 kB67 kR68;have mk28:=(mk28.trans x54.gg).trans mk57;have AT:=Rp.mono (x54.gg.trans mk57) AT;have AN:=Rp.mono (x54.gg.trans mk57) AN;have r44:=Rp.mono (x54.gg.trans mk57) r44;refine Bc ?_;clear 2 b75 h76;refine IG o7 (Dd (F6 (K:=K) (B9 (A7 o7.tell) (A7 (Rp.mono (Same.new o7.g) rx62))))) h76 xt.gh fun G77 H78 x79=>?_;clear 1 x79 AT AN r44 rx62 2 o7 o45 3 mk28 mk57
   cases b75 with
   | true =>
    clear 3;clear 2 a80 h81 k82 h83 z91 h84;refine EI (K:=K) rfl o7 Fu h81 (A7 rx62) h83 h84 xt.gh fun G85 H86 w87 j88 x89 o90=>?_;have xt:Ext G0 H0 G85 (upd H86 p1 (.lst (vs2.set j88 w87))):=(xt.trans x89).put hz6 o90.g;clear 0 x89 AT AN 3 mk28 mk57;have o45:=(o45.ext x89).put (q:=p1) (ho:=.lst (vs2.set j88 w87)) (by ac_rfl);clear 0 x89 r44 rx62;clear 2 a92 h93 z100 h94;refine D3 (K:=K) rfl o45 (A7 rx62) h93 h94 xt.gh fun G95 H96 w97 x98 o99=>?_;have xt:Ext G0 H0 G95 (upd H96 p15 (.lst (vs58++[w97]))):=(xt.trans x98).put hz20 o99.g;clear 0 x98 AT AN 3 mk28 mk57;have o90:=(o90.ext x98).put (q:=p15) (ho:=.lst (vs58++[w97])) (by ac_rfl);cases hm;exact kN65 _ _ _ _ rfl ⟨_,xt,mk57,rfl,⟨_,o90⟩,⟨_,o99⟩⟩
   | false =>
    clear 4;cases hm;exact kN65 _ _ _ _ rfl ⟨_,xt,mk57,rfl,⟨_,o7⟩,⟨_,o45⟩⟩
  ·rintro s55 _ G104 H105 rfl ⟨v101,xt,mk102,rfl,⟨vs2,o7⟩,⟨vs103,o45⟩⟩;refine C6 ?_;have mk28:=(mk28.trans x54.gg).trans mk102;cases hm;exact kN37 _ _ _ _ rfl ⟨_,_,xt,mk28,rfl,⟨_,o7⟩,⟨_,o45⟩⟩
  ·clear 6 kR40
 ·rintro s25 _ G109 H110 rfl ⟨v106,v107,xt,mk108,rfl,⟨vs2,o7⟩,⟨vs16,o21⟩⟩;refine C6 ?_;clear 9 mk108 AT AN;have sf:=Same.new (o:=.lst vs2) o7.g;have xt:=xt.frz hz6 o7.g o7.h;have r111:=o7.tell;clear 9 sf AT AN;have o21:=o21.over (o:=.lst vs2) (by ac_rfl) o7.g;exact Af (K:=K) (A7 r111) hm xt.gh fun v112 G113 H114 x115 r116=>q v112 G113 H114 (xt.trans x115) r116
 ·clear 5
theorem QH (F:DIn K mg "lack_of" Js)(T:Txt mg)(CG:Eg P w K mg base):Ml P w K mg base:=by
 refine F.okM2 (m:=DP) Qf fun _ _ _ _ _ H0 _ _ hr G0 taken_ Bb res Lj FE xt E2 BM hm q=>?_;unfold DP at hm
 refine ⟨_,(A5 (BD (AY HM (pv 0) C8 (Ac _)) (A5 (Ae C8)
   AA) AA)
   (A5 (Ae (AC K (AX CG hr (by decide) rfl (A6 (pv 0) (A6 (pv 1) AE))) A8))
   AA)),?_⟩
 clear 2 b1 h2;refine Bf (AU (K:=K) (Gr Qh (A7 E2))) h2 xt.gh fun G3 H4 x5=>?_;clear 1 x5 E2 BM
 cases b1 with
 | true =>
  clear 3;exact Af (K:=K) (rest:=DW) (σ:=[some Lj,some FE]) (Eu (α:=Int)) hm xt.gh fun v6 G7 H8 x9 r10=>q v6 G7 H8 (xt.trans x9) r10
 | false =>
  clear 4;exact Af (K:=K) (Es (B9 (Ak (m:=EG) (BY (A7 E2)) (A7 BM)) An)) hm xt.gh fun v17 G18 H19 x20 r21=>q v17 G18 H19 (xt.trans x20) r21
theorem ok_shut (F:DIn K mg "shut" QQ)(T:Txt mg)(EK:IY P w K mg base)(Ca:FF P w K mg base)(Fn:LR P w K mg base)(Ds:Gv P w K mg base)(Ez:Jh P w K mg base)(K9:Ml P w K mg base):Z_shut P w K mg base:=by
 refine F.okM1 (m:=Jp) FU fun _ _ _ _ _ H0 _ _ hr G0 net_ res CU xt AM hm q=>?_;unfold Jp at hm
 refine ⟨_,(A5 (AG (i:=1) FU (AC K (pv 0) A8))
   (A5 (AG (i:=2) FU (AX EK hr (by decide) rfl (A6 (pv 0) AE)))
   (A5 (AG (i:=3) FU (AX Ca hr (by decide) rfl (A6 (pv 0) (A6 (pv 2) AE))))
   (A5 (AG (i:=4) FU (AX Fn hr (by decide) rfl (A6 (AX Ds hr (by decide) rfl (A6 (pv 0) AE)) (A6 (D7 (cn:=["marks","within"]) (cap:=[1,3]) rfl ⟨by decide +kernel,rfl,by decide +kernel,BF rfl⟩ rfl (by decide +kernel) ⟨⟨rfl,.inl rfl,rfl⟩,⟨rfl,.inl rfl,rfl⟩,trivial⟩ (Ay (K:=K) rfl (pv 2)) (fun C s0 H0 fp=>⟨Bd,(AX Ez hr (by decide) rfl (A6 (AC K (pv 2) (pv 0)) (A6 (pv 1) AE)))⟩)) AE))))
   (A5 (AG (i:=5) FU (Cb AE))
   (A5 (Bj PassesOwn.never rfl (J5 (K:=K) rfl rfl T.enumerate_ (A6 (pv 2) AE)) (Ji rfl (CY (Av (i:=6) FU) (CY (Av (i:=7) FU) Hr))) (A5 (Bv (BH K (pv 5) (O8 (B3 K (AC K (pv 4) (pv 6))) C8 (C9 (A6 (pv 7) (A6 (AX K9 hr (by decide) rfl (A6 (AC K (pv 3) (pv 7)) (A6 (pv 1) AE))) AE))))))
   AA))
   (A5 (Ae (pv 5))
   AA))))))),?_⟩
 clear 2 Bb h6;refine AW (K:=K) (IN (A7 AM)) h6 xt.gh fun v1 G2 H3 x4 r5=>?_;clear 1 x4 AM;clear 2 BW h13;refine AW (K:=K) (Ck (m:=Gq) (A7 AM)) h13 xt.gh fun v8 G9 H10 x11 r12=>?_;clear 1 x11 AM r5;clear 2 EA h21;refine AW (K:=K) (Ak (m:=EY) (A7 AM) (A7 r12)) h21 xt.gh fun v16 G17 H18 x19 r20=>?_;clear 1 x19 AM r5 r12;clear 2 free_ h40;refine AW (K:=K) (Ak (m:=Jd) (Ck (m:=GD) (A7 AM)) (FV.ev (D6 (cap:=[1,3]) (fe:=fun (FA:(Option Int))=>(((some EA).bind fun t28=>((some FA).bind fun t27=>t27).bind fun t29=>atI t28 t29).bind fun t30=>(some Bb).bind fun t31=>Cz t30 t31)) (BB (A7 r12)) fun xc26 FA Gc23 sc24 rc25=>(Ak (m:=IZ) (B9 (A7 (Rp.mono sc24 r20)) (BY (A7 rc25))) (A7 (Rp.mono sc24 r5)))))) h40 xt.gh fun v35 G36 H37 x38 r39=>?_;clear 1 x38 r5 r12 r20;clear 2 Oj h48;refine DH (K:=K) (DM (Bw (α:=(Option (Int × (Option Int)))))) h48 xt.gh fun p41 vs42 G43 H44 x45 hz46 o47=>?_;clear 1 x45 r5 r12 r20 r39 4 hz46;clear 2 as49 h50 fl51 h52;refine L5 (K:=K) (RR:=fun r v G' H'=>Ext G0 H0 G' H'/\Rp.rel K G' v r) (Kz (A7 r12)) h50 h52 xt.gh fun G53 H54 x55=>⟨fun s56 S' G' H'=>∃ (v57:Option V) (v58:Option V),Ext G0 H0 G' H'/\Same G53 G'/\S'=[some CU,some v1,some v8,some v16,some v35,some (V.ref p41),v57,v58]/\(∃ vs,Own K G' H' (V.ref p41) p41 vs s56),?_,?_,?_,?_,?_⟩
 ·clear 1 x55 2 o47;exact ⟨_,_,xt,(Same.refl _),rfl,⟨_,o47⟩⟩
 ·rintro _ S' G' H' ⟨v57,v58,xt,mk59,rfl,⟨vs42,o47⟩⟩;exact ⟨mk59,xt.gh⟩
 ·rintro xv60 te70 a61 s56 _ G64 H65 fl62 ⟨v57,v58,xt,mk59,rfl,⟨vs42,o47⟩⟩ ht71 rx63 hm D' kN66 kC67 kB68 kR69;have r5:=Rp.mono (x55.gg.trans mk59) r5;have r20:=Rp.mono (x55.gg.trans mk59) r20;have r39:=Rp.mono (x55.gg.trans mk59) r39;have x73:=Ext.new (o:=.tup [.int a61.1,xv60]) xt.gh ht71;clear 1 x73 r5 r20 r39 rx63 2 o47 3 mk59;refine Ik (a:=a61) ?_;have r74:Rp.rel K (upd G64 te70 (.tup [.int a61.1,xv60])) (V.int a61.1) a61.1:=rfl;clear 2 a87 h88 z95 h89;refine D3 (K:=K) rfl o47 (ev_ifx (F6 (K:=K) (B9 (A7 r39) (A7 r74))) (Eu (α:=(Int × (Option Int)))) (Es (GR (BY (A7 rx63)) (Ak (m:=Ly) (B9 (A7 r20) (BY (A7 rx63))) (A7 r5))))) h88 h89 xt.gh fun G90 H91 w92 x93 o94=>?_;have xt:Ext G0 H0 G90 (upd H91 p41 (.lst (vs42++[w92]))):=(xt.trans x93).put hz46 o94.g;clear 0 x93 3 mk59;cases hm;exact kN66 _ _ _ _ rfl ⟨_,_,xt,mk59,rfl,⟨_,o94⟩⟩
 ·rintro s56 _ G99 H100 rfl ⟨v96,v97,xt,mk98,rfl,⟨vs42,o47⟩⟩;refine C6 ?_;have sf:=Same.new (o:=.lst vs42) o47.g;have xt:=xt.frz hz46 o47.g o47.h;have r101:=o47.tell;exact Af (K:=K) (A7 r101) hm xt.gh fun v102 G103 H104 x105 r106=>q v102 G103 H104 (xt.trans x105) r106
 ·clear 5
theorem MB (F:DIn K mg "paper_from" GG)(T:Txt mg)(Fn:LR P w K mg base)(F3:KD P w K mg base)(Q6:Z_shut P w K mg base):JB P w K mg base:=by
 refine F.okM2 (m:=Cp) CS fun _ _ _ _ _ H0 _ _ hr G0 net_ Qt res CU Mo xt AM Jc hm q=>?_;unfold Cp at hm
 refine ⟨_,(A5 (C2 (i:=2) (Ge CS) rfl (Or.inl rfl) (cn:=[]) (cap:=[]) rfl ⟨by decide +kernel,rfl,by decide +kernel,BF rfl⟩ rfl (by decide +kernel) trivial (CI rfl T.range_ (A6 (AC K (pv 0) A8) AE)) (fun C s0 H0 fp=>⟨Bd,Dw⟩))
   (A5 (Bj PassesOwn.never rfl (Ay (K:=K) rfl (pv 1)) (Av (i:=3) CS) (A5 (Gu Dw (Hb (pv 2) (pv 3) ES))
   AA))
   (A5 (AG (i:=4) CS (AX Fn hr (by decide) rfl (A6 (AX F3 hr (by decide) rfl (A6 (pv 0) AE)) (A6 (pv 2) AE))))
   (A5 (AG (i:=5) CS (Cb AE))
   (A5 (Bj PassesOwn.never rfl (J5 (K:=K) rfl rfl T.enumerate_ (A6 (AX Q6 hr (by decide) rfl (A6 (pv 0) AE)) AE)) (Ji rfl (CY (Av (i:=6) CS) (CY (Av (i:=7) CS) Hr))) (A5 (BD (B3 K (AC K (pv 4) (pv 6))) (A5 (Bv (BH K (pv 5) (C9 (A6 (pv 6) (A6 (AC K (pv 7) A8) (A6 (AC K (pv 7) A8) AE))))))
   AA) AA)
   AA))
   (A5 (Ae (pv 5))
   AA)))))),?_⟩
 clear 2 Dh h14;refine DH (K:=K) (D6 (cap:=[]) (fe:=fun (Cc:Int)=>(some false)) (Di (EX (A7 AM))) fun xc5 Cc Gc2 sc3 rc4=>Fu) h14 xt.gh fun p7 vs8 G9 H10 x11 hz12 o13=>?_;clear 1 x11 AM Jc 4 hz12;clear 2 as15 h16 fl17 h18;refine CC (K:=K) (RR:=fun r v G' H'=>Ext G0 H0 G' H'/\Rp.rel K G' v r) (BB (A7 Jc)) h16 h18 xt.gh fun G19 H20 x21=>⟨fun s22 S' G' H'=>∃ (v23:Option V),Ext G0 H0 G' H'/\Same G19 G'/\S'=[some CU,some Mo,some (V.ref p7),v23,none,none,none,none]/\(∃ vs,Own K G' H' (V.ref p7) p7 vs s22),?_,?_,?_,?_,?_⟩
 ·clear 1 x21 2 o13;exact ⟨_,xt,(Same.refl _),rfl,⟨_,o13⟩⟩
 ·rintro _ S' G' H' ⟨v23,xt,mk24,rfl,⟨vs8,o13⟩⟩;exact ⟨mk24,xt.gh⟩
 ·rintro xv25 a26 s22 _ G29 H30 fl27 - ⟨v23,xt,mk24,rfl,⟨vs8,o13⟩⟩ rx28 hm D' kN31 kC32 kB33 kR34;refine Bc ?_;clear 2 a35 h36 k37 h38 z46 h39;refine EI (K:=K) rfl o13 Fu h36 (A7 rx28) h38 h39 xt.gh fun G40 H41 w42 j43 x44 o45=>?_;have xt:Ext G0 H0 G40 (upd H41 p7 (.lst (vs8.set j43 w42))):=(xt.trans x44).put hz12 o45.g;clear 0 x44 3 mk24;cases hm;exact kN31 _ _ _ _ rfl ⟨_,xt,mk24,rfl,⟨_,o45⟩⟩
 ·rintro s22 _ G49 H50 rfl ⟨v47,xt,mk48,rfl,⟨vs8,o13⟩⟩;refine C6 ?_;have AM:=Rp.mono (x21.gg.trans mk48) AM;have sf:=Same.new (o:=.lst vs8) o13.g;have xt:=xt.frz hz12 o13.g o13.h;have r54:=o13.tell;clear 9 sf AM;clear 2 RI h63;refine AW (K:=K) (Ak (m:=Jd) (Ck (m:=IS) (A7 AM)) (A7 r54)) h63 xt.gh fun v58 G59 H60 x61 r62=>?_;clear 1 x61 AM;clear 2 Ls h71;refine DH (K:=K) (DM (Bw (α:=(T3 Int Int (Option Int))))) h71 xt.gh fun p64 vs65 G66 H67 x68 hz69 o70=>?_;clear 1 x68 AM r62 4 hz69;clear 2 as73 h74 fl75 h76;refine L5 (K:=K) (RR:=fun r v G' H'=>Ext G0 H0 G' H'/\Rp.rel K G' v r) (Kz (Ck (m:=RB) (A7 AM))) h74 h76 xt.gh fun G77 H78 x79=>⟨fun s80 S' G' H'=>∃ (v81:Option V) (v82:Option V),Ext G0 H0 G' H'/\Same G77 G'/\S'=[some CU,some Mo,some (V.ref p7),v47,some v58,some (V.ref p64),v81,v82]/\(∃ vs,Own K G' H' (V.ref p64) p64 vs s80),?_,?_,?_,?_,?_⟩
  ·clear 1 x79 2 o70;exact ⟨_,_,xt,(Same.refl _),rfl,⟨_,o70⟩⟩
  ·rintro _ S' G' H' ⟨v81,v82,xt,mk83,rfl,⟨vs65,o70⟩⟩;exact ⟨mk83,xt.gh⟩
  ·rintro xv84 te94 a85 s80 _ G88 H89 fl86 ⟨v81,v82,xt,mk83,rfl,⟨vs65,o70⟩⟩ ht95 rx87 hm D' kN90 kC91 kB92 kR93;have r62:=Rp.mono (x79.gg.trans mk83) r62;have x97:=Ext.new (o:=.tup [.int a85.1,xv84]) xt.gh ht95;clear 1 x97 r62 rx87 2 o70 3 mk83;refine Ik (a:=a85) ?_;have r98:Rp.rel K (upd G88 te94 (.tup [.int a85.1,xv84])) (V.int a85.1) a85.1:=rfl;clear 2 b101 h102;refine Bf (F6 (K:=K) (B9 (A7 r62) (A7 r98))) h102 xt.gh fun G103 H104 x105=>?_;clear 1 x105 r98 rx87 2 o70 3 mk83
   cases b101 with
   | true =>
    clear 3;clear 2 a112 h113 z120 h114;refine D3 (K:=K) rfl o70 (Ko (A7 r98) (Cn (BY (A7 rx87))) (D5 (BY (A7 rx87)))) h113 h114 xt.gh fun G115 H116 w117 x118 o119=>?_;have xt:Ext G0 H0 G115 (upd H116 p64 (.lst (vs65++[w117]))):=(xt.trans x118).put hz69 o119.g;clear 0 x118 3 mk83;cases hm;exact kN90 _ _ _ _ rfl ⟨_,_,xt,mk83,rfl,⟨_,o119⟩⟩
   | false =>
    clear 4;cases hm;exact kN90 _ _ _ _ rfl ⟨_,_,xt,mk83,rfl,⟨_,o70⟩⟩
  ·rintro s80 _ G124 H125 rfl ⟨v121,v122,xt,mk123,rfl,⟨vs65,o70⟩⟩;refine C6 ?_;have sf:=Same.new (o:=.lst vs65) o70.g;have xt:=xt.frz hz69 o70.g o70.h;have r126:=o70.tell;exact Af (K:=K) (A7 r126) hm xt.gh fun v127 G128 H129 x130 r131=>q v127 G128 H129 (xt.trans x130) r131
  ·clear 5
 ·clear 5
theorem ok_takes (F:DIn K mg "takes" O2)(T:Txt mg)(HS:KS P w K mg base)(Hg:KJ P w K mg base)(GH:JB P w K mg base):Qu P w K mg base:=by
 refine F.okM2 (m:=El) Fw fun _ _ _ _ _ H0 _ _ hr G0 watcher_ run_ res IK LT xt AO Aq hm q=>?_;unfold El at hm
 refine ⟨_,(A5 (AG (i:=2) Fw (AX HS hr (by decide) rfl (A6 (pv 0) (A6 (pv 1) AE))))
   (A5 (AG (i:=3) Fw (AC K (pv 2) A8))
   (A5 (AG (i:=4) Fw (AC K (pv 2) A8))
   (A5 (AG (i:=5) Fw (AX Hg hr (by decide) rfl (A6 (pv 3) (A6 A8 AE))))
   (A5 (BD (AY JS (pv 5) C8 (Ac _)) (A5 (Ae (C9 (A6 E7 (A6 (D7 (cn:=["gone"]) (cap:=[4]) rfl ⟨by decide +kernel,rfl,by decide +kernel,BF rfl⟩ rfl (by decide +kernel) ⟨⟨rfl,.inl rfl,rfl⟩,trivial⟩ (Ay (K:=K) rfl (AC K (pv 5) A8)) (fun C s0 H0 fp=>⟨Bd,(AC K (pv 1) (pv 0))⟩)) (A6 (D7 (cn:=["gone"]) (cap:=[4]) rfl ⟨by decide +kernel,rfl,by decide +kernel,BF rfl⟩ rfl (by decide +kernel) ⟨⟨rfl,.inl rfl,rfl⟩,trivial⟩ (Ay (K:=K) rfl (AC K (pv 5) A8)) (fun C s0 H0 fp=>⟨Bd,(AC K (pv 1) (pv 0))⟩)) AE)))))
   AA) AA)
   (A5 (AG (i:=6) Fw (AC K (pv 0) A8))
   (A5 (Ae (C9 (A6 E7 (A6 (PF (xn:=["node","rank","lack"]) (g:=O7 K) (cn:=["count"]) (cap:=[6]) rfl ⟨by decide +kernel,rfl,by decide +kernel,BF rfl⟩ gat3 (fun C s0 H0 fp=>pg3 rfl rfl rfl rfl (by decide +kernel)) (by decide +kernel) ⟨⟨rfl,.inl rfl,rfl⟩,trivial⟩ (Ay (K:=K) rfl (AX GH hr (by decide) rfl (A6 (pv 3) (A6 (Cb (A6 A8 AE)) AE)))) (fun C s0 H0 fp=>⟨Bd,(C9 (A6 (Ax EL (pv 0) (pv 3)) (A6 (Ax BS (pv 0) (pv 3)) (A6 (pv 1) (A6 (pv 2) AE)))))⟩)) AE))))
   AA))))))),?_⟩
 clear 2 along_ h8;refine AW (K:=K) (Ak (m:=J8) (A7 AO) (A7 Aq)) h8 xt.gh fun v3 G4 H5 x6 r7=>?_;clear 1 x6 AO;clear 2 net_ h14;refine AW (K:=K) (Cn (A7 r7)) h14 xt.gh fun v9 G10 H11 x12 r13=>?_;clear 1 x12 AO r7;clear 2 Kh h20;refine AW (K:=K) (D5 (A7 r7)) h20 xt.gh fun v15 G16 H17 x18 r19=>?_;clear 1 x18 AO r13;clear 2 found_ h28;refine AW (K:=K) (Ak (m:=JP) (A7 r13) An) h28 xt.gh fun v23 G24 H25 x26 r27=>?_;clear 1 x26 AO r13 r19;clear 2 b29 h30;refine Bf (AU (K:=K) (L0 Qn (A7 r27))) h30 xt.gh fun G31 H32 x33=>?_;clear 1 x33 AO r13 r19 r27
 cases b29 with
 | true =>
  clear 3;exact Af (K:=K) (IJ (RE (Bo (IJ J1) (Bo (IJ (FV.ev (D6 (cap:=[4]) (fe:=fun (way_:Int)=>((some Kh).bind fun t40=>(some way_).bind fun t41=>atI t40 t41)) (BB (Cn (BY (A7 r27)))) fun xc39 way_ Gc36 sc37 rc38=>(B9 (A7 (Rp.mono sc37 r19)) (A7 rc38))))) (Bo (IJ (FV.ev (D6 (cap:=[4]) (fe:=fun (way_:Int)=>((some Kh).bind fun t50=>(some way_).bind fun t51=>atI t50 t51)) (BB (D5 (BY (A7 r27)))) fun xc49 way_ Gc46 sc47 rc48=>(B9 (A7 (Rp.mono sc47 r19)) (A7 rc48))))) (Bw (α:=D))))))) hm xt.gh fun v60 G61 H62 x63 r64=>q v60 G61 H62 (xt.trans x63) r64
 | false =>
  clear 4;clear 2 Cd h70;refine AW (K:=K) (Gh (A7 AO)) h70 xt.gh fun v65 G66 H67 x68 r69=>?_;clear 1 x68 r13;exact Af (K:=K) (IJ (RE (Bo (IJ J1) (Bo (IJ (FV.ev (fv_map3 (cap:=[6]) (fe:=fun (pc75:(T3 Int Int (Option Int)))=>(((some pc75.a).bind fun t82=>(some Cd).bind fun t83=>Ps t82 t83).bind fun t86=>((some pc75.a).bind fun t84=>(some Cd).bind fun t85=>HG t84 t85).bind fun t87=>(some (T4.mk t86 t87 pc75.b pc75.c)))) (BB (Ak (m:=IC) (A7 r13) (FV.ev (DM (Bo An (Bw (α:=Int))))))) fun xc76 xc77 xc78 pc75 Gc73 sc74 rc79 rc80 rc81=>(JE (ev_div (A7 rc79) (A7 (Rp.mono sc74 r69))) (Fd (A7 rc79) (A7 (Rp.mono sc74 r69))) (A7 rc80) (A7 rc81))))) (Bw (α:=D)))))) hm xt.gh fun v94 G95 H96 x97 r98=>q v94 G95 H96 (xt.trans x97) r98
theorem NP (F:DIn K mg "_law_whole" HP)(T:Txt mg):HQ P w K mg base:=by
 refine F.okM1 (m:=CL) NQ fun _ _ _ _ _ H0 _ _ hr G0 QW res v_thing_ xt Og hm q=>?_;unfold CL at hm
 refine ⟨_,(A5 (Ae (Lv (DI (Dl (K:=K) rfl) (by rfl) T.isinstance_ CT (A6 (pv 0) (A6 (GJ (v:=.ty "int") rfl T.int_ bt_int rfl) AE))) (NZ (pe_not (DI (Dl (K:=K) rfl) (by rfl) T.isinstance_ CT (A6 (pv 0) (A6 (GJ (v:=.ty "bool") rfl T.bool_ bt_bool rfl) AE)))))))
   AA),?_⟩
 exact Af (K:=K) (ev_andP (FO (by decide) (A7 Og)) (ev_not (FO (by decide) (A7 Og)))) hm xt.gh fun v1 G2 H3 x4 r5=>q v1 G2 H3 (xt.trans x4) r5
theorem OZ (F:DIn K mg "_law_gone" Ia)(T:Txt mg)(DV:Hk P w K mg base)(Bt:Ep P w K mg base)(CO:HQ P w K mg base):Lf P w K mg base:=by
 refine F.okM5 (m:=DN) Ci fun _ _ _ _ _ H0 _ _ hr G0 watching_ Ao HN BK LQ res Ah Ad FN JX v_state_ xt AF A9 Do BG FI hm q=>?_;unfold DN at hm
 refine ⟨_,(A5 (C2 (i:=5) (Ge Ci) rfl (Or.inl rfl) (cn:=["_law_watching"]) (cap:=[0]) rfl ⟨by decide +kernel,rfl,by decide +kernel,BF rfl⟩ rfl (by decide +kernel) ⟨⟨rfl,.inl rfl,rfl⟩,trivial⟩ (Ay (K:=K) rfl (Aj K (AC K (pv 1) A8) (AC K (pv 1) A8))) (fun C s0 H0 fp=>⟨Bd,(AX DV hr (by decide) rfl (A6 (pv 0) (A6 (AC K (pv 1) A8) AE)))⟩))
   (A5 (AG (i:=6) Ci OI)
   (A5 (Bj PassesOwn.never rfl (Ay (K:=K) rfl (pv 2)) (Av (i:=7) Ci) (A5 (BD (PW.pt (CW (Da (B3 K (AX CO hr (by decide) rfl (A6 (pv 7) AE)))) (CW (AY FB (pv 7) A8 (Ac _)) (DY (AY Lz (pv 7) (Aw K T.len_ (AC K (pv 0) A8)) (Ac _)))))) (A5 (Ae C8)
   AA) AA)
   (A5 (AG (i:=8) Ci (AC K (AC K (pv 0) A8) (pv 7)))
   (A5 (BD (PW.pt (CW (AY JF (AC K (pv 8) A8) (pv 4) (Ac _)) (DY (AY JF (AC K (pv 8) A8) (AC K (pv 5) (pv 3)) (Ac _))))) (A5 (Ae C8)
   AA) AA)
   (A5 (AG (i:=4) Ci (AC K (pv 8) A8))
   (A5 (AG (i:=3) Ci (AX Bt hr (by decide) rfl (A6 (pv 3) (A6 (pv 1) AE))))
   (A5 (Bj PassesOwn.never rfl (Ay (K:=K) rfl (AC K (pv 8) A8)) (Av (i:=9) Ci) (A5 (Kr (DZ hr) (pv 6) (pv 9) Dw rfl)
   AA))
   AA)))))))
   (A5 (Ae (C9 (A6 (pv 3) (A6 (pv 4) (A6 (DI SB (by rfl) T.len_ bt_len (A6 (pv 6) AE)) AE)))))
   AA)))),?_⟩
 clear 2 Ll h15;refine AW (K:=K) (FV.ev (D6 (cap:=[0]) (fe:=fun (one_:Str)=>((some one_).bind fun t7=>(some watching_.a).bind fun t8=>Cf t7 t8)) (BB (FV.ev (Qg (Cn (A7 A9)) (D5 (A7 A9))))) fun xc6 one_ Gc3 sc4 rc5=>(Ak (m:=GO) (A7 rc5) (K3 (A7 (Rp.mono sc4 AF)))))) h15 xt.gh fun v10 G11 H12 x13 r14=>?_;clear 1 x13 AF A9 Do BG FI;clear 2 Bb h23;refine sv_ownM (K:=K) h23 xt.gh fun p16 vs17 G18 H19 x20 hz21 o22=>?_;clear 1 x20 AF A9 Do BG FI r14 4 hz21;clear 2 as24 h25 fl26 h27;refine CC (K:=K) (RR:=fun r v G' H'=>Ext G0 H0 G' H'/\Rp.rel K G' v r) (BB (A7 Do)) h25 h27 xt.gh fun G28 H29 x30=>⟨fun s31 S' G' H'=>∃ (v32:V) (v33:V) (v34:Option V) (v35:Option V) (v36:Option V),Ext G0 H0 G' H'/\Same G28 G'/\S'=[some Ah,some Ad,some FN,some v32,some v33,some v10,some (V.ref p16),v34,v35,v36]/\Rp.rel K G' v32 (s31.1:Int)/\Rp.rel K G' v33 (s31.2.1:Int)/\(∃ vs,OwnM K G' H' (V.ref p16) p16 vs s31.2.2),?_,?_,?_,?_,?_⟩
 ·clear 1 x30 BG FI 2 o22;exact ⟨JX,v_state_,_,_,_,xt,(Same.refl _),rfl,BG,FI,⟨_,o22⟩⟩
 ·rintro _ S' G' H' ⟨v32,v33,v34,v35,v36,xt,mk37,rfl,r38,r39,⟨vs17,o22⟩⟩;exact ⟨mk37,xt.gh⟩
 ·rintro xv40 a41 s31 _ G44 H45 fl42 - ⟨v32,v33,v34,v35,v36,xt,mk37,rfl,r38,r39,⟨vs17,o22⟩⟩ rx43 hm D' kN46 kC47 kB48 kR49;have AF:=Rp.mono (x30.gg.trans mk37) AF;have A9:=Rp.mono (x30.gg.trans mk37) A9;have r14:=Rp.mono (x30.gg.trans mk37) r14;refine Bc ?_;clear 2 b58 h59;refine Bf (Ch (Dd (F6 (K:=K) (Ck (m:=DU) (A7 rx43)))) (Ch (AU (K:=K) (CD (C1 (A7 rx43)) An)) (AU (K:=K) (CD (C1 (A7 rx43)) (Bx (Gs (A7 AF))))))) h59 xt.gh fun G60 H61 x62=>?_;clear 1 x62 AF A9 r38 r39 r14 rx43 2 o22 3 mk37
  cases b58 with
  | true =>
   clear 3;clear 2 rr68 h69;cases hm;exact Af (K:=K) (rest:=DW) (σ:=[some Ah,some Ad,some FN,some v32,some v33,some v10,some (V.ref p16),some xv40,v35,v36]) (Eu (α:=(T3 Int Int Int))) h69 xt.gh fun v63 G64 H65 x66 r67=>kR49 _ v63 G64 H65 rfl ⟨xt.trans x66,r67⟩
  | false =>
   clear 4;clear 2 row_ h78;refine AW (K:=K) (B9 (Gs (A7 AF)) (C1 (A7 rx43))) h78 xt.gh fun v73 G74 H75 x76 r77=>?_;clear 1 x76 A9 r38 r39 r14 2 o22 3 mk37;clear 2 b86 h87;refine Bf (Ch (AU (K:=K) (Jv (K3 (A7 r77)) (A7 r39))) (AU (K:=K) (ev_neS (Gh (A7 r77)) (B9 (A7 r14) (A7 r38))))) h87 xt.gh fun G88 H89 x90=>?_;clear 1 x90 A9 r38 r77 2 o22 3 mk37
   cases b86 with
   | true =>
    clear 3;clear 2 rr96 h97;cases hm;exact Af (K:=K) (rest:=DW) (σ:=[some Ah,some Ad,some FN,some v32,some v33,some v10,some (V.ref p16),some xv40,some v73,v36]) (Eu (α:=(T3 Int Int Int))) h97 xt.gh fun v91 G92 H93 x94 r95=>kR49 _ v91 G92 H93 rfl ⟨xt.trans x94,r95⟩
   | false =>
    clear 4;clear 2 LQ h103;refine AW (K:=K) (Gs (A7 r77)) h103 xt.gh fun v98 G99 H100 x101 r102=>?_;clear 1 x101 A9 r38 r77 2 o22 3 mk37;clear 2 BK h111;refine AW (K:=K) (Ak (m:=EM) (A7 r38) (A7 A9)) h111 xt.gh fun v106 G107 H108 x109 r110=>?_;clear 1 x109 r102 r77 2 o22 3 mk37;clear 2 as112 h113 fl114 h115;refine CC (K:=K) (RR:=fun r v G' H'=>Ext G0 H0 G' H'/\Rp.rel K G' v r) (iw_tup (GU (A7 r77))) h113 h115 xt.gh fun G116 H117 x118=>⟨fun s119 S' G' H'=>∃ (v120:Option V),Ext G0 H0 G' H'/\Same G116 G'/\S'=[some Ah,some Ad,some FN,some v106,some v98,some v10,some (V.ref p16),some xv40,some v73,v120]/\(∃ vs,OwnM K G' H' (V.ref p16) p16 vs s119),?_,?_,?_,?_,?_⟩
    ·clear 1 x118 2 o22;exact ⟨_,xt,(Same.refl _),rfl,⟨_,o22⟩⟩
    ·rintro _ S' G' H' ⟨v120,xt,mk121,rfl,⟨vs17,o22⟩⟩;exact ⟨mk121,xt.gh⟩
    ·rintro xv122 a123 s119 _ G126 H127 fl124 - ⟨v120,xt,mk121,rfl,⟨vs17,o22⟩⟩ rx125 hm D' kN128 kC129 kB130 kR131;refine Bc ?_;clear 2 a132 h133 k134 h135 z142 h136;refine Qv (K:=K) rfl o22 Fu h133 (A7 rx125) h135 h136 xt.gh fun G137 H138 w139 x140 o141=>?_;have xt:Ext G0 H0 G137 (upd H138 p16 (.dK (Cg vs17 (.inl k134) w139))):=(xt.trans x140).put hz21 o141.g;clear 0 x140 3 mk121;cases hm;exact kN128 _ _ _ _ rfl ⟨_,xt,mk121,rfl,⟨_,o141⟩⟩
    ·rintro s119 _ G145 H146 rfl ⟨v143,xt,mk144,rfl,⟨vs17,o22⟩⟩;refine C6 ?_;have mk37:=(mk37.trans x118.gg).trans mk144;have r110:=Rp.mono (x118.gg.trans mk144) r110;have r102:=Rp.mono (x118.gg.trans mk144) r102;cases hm;exact kN46 _ _ _ _ rfl ⟨v106,v98,_,_,_,xt,mk37,rfl,r110,r102,⟨_,o22⟩⟩
    ·clear 6 kR49
 ·rintro s31 _ G155 H156 rfl ⟨v147,v148,v149,v150,v151,xt,mk152,rfl,r153,r154,⟨vs17,o22⟩⟩;refine C6 ?_;have sf:=Same.new (o:=.dK vs17) o22.g;have xt:=xt.frz hz21 o22.g o22.h;have r157:=o22.tell;clear 9 sf r153 r154;exact Af (K:=K) (Es (Ko (A7 r153) (A7 r154) (ev_lenM (A7 r157)))) hm xt.gh fun v158 G159 H160 x161 r162=>q v158 G159 H160 (xt.trans x161) r162
 ·clear 5
theorem Jb (F:DIn K mg "_law_way_holds" Ee)(T:Txt mg)(Fz:Lf P w K mg base):Gb P w K mg base:=by
 refine F.okM3 (m:=CJ) DS fun _ _ _ _ _ H0 _ _ hr G0 watching_ Ao CV res Ah Ad Dg xt AF A9 As hm q=>?_;unfold CJ at hm
 refine ⟨_,(A5 (BD (PW.pt (CW (AY JF (Aw K T.len_ (pv 2)) A8 (Ac _)) (CW (Da (B3 K (DI (Dl (K:=K) rfl) (by rfl) T.isinstance_ CT (A6 (AC K (pv 2) A8) (A6 (GJ (v:=.ty "list") rfl T.list_ GT rfl) AE))))) (DY (Da (B3 K (DI (Dl (K:=K) rfl) (by rfl) T.isinstance_ CT (A6 (AC K (pv 2) A8) (A6 (GJ (v:=.ty "list") rfl T.list_ GT rfl) AE))))))))) (A5 (Ae Dw)
   AA) AA)
   (A5 (AG (i:=3) DS (Ax (DB (K:=K) rfl) (Aj K (Aw K T.len_ (AC K (pv 1) A8)) (Aw K T.len_ (AC K (pv 1) A8))) (AC K (pv 0) A8)))
   (A5 (BD (PW.pt (CW (AY Lz (Aw K T.len_ (AC K (pv 2) A8)) (pv 3) (Ac _)) (CW (AY K2 (Aw K T.len_ (AC K (pv 2) A8)) (Ax (DB (K:=K) rfl) (pv 3) (Aj K (AC K (pv 0) A8) A8)) (Ac _)) (DY (AY E9 (Aw K T.len_ (AC K (pv 2) A8)) A8 (Ac _)))))) (A5 (Ae Dw)
   AA) AA)
   (A5 (BD (PW.pt (CW (AY FB (Aw K T.len_ (AC K (pv 2) A8)) (Aw K T.len_ (AC K (pv 1) A8)) (Ac _)) (DY (AY JF (Ax BS (Aw K T.len_ (AC K (pv 2) A8)) (Aw K T.len_ (AC K (pv 1) A8))) A8 (Ac _))))) (A5 (Ae Dw)
   AA) AA)
   (A5 (AG (i:=4) DS (AX Fz hr (by decide) rfl (A6 (pv 0) (A6 (pv 1) (A6 (AC K (pv 2) A8) (A6 A8 (A6 A8 AE)))))))
   (A5 (BD (AY HM (pv 4) C8 (Ac _)) (A5 (Ae Dw)
   AA) AA)
   (A5 (AG (i:=5) DS (AX Fz hr (by decide) rfl (A6 (pv 0) (A6 (pv 1) (A6 (AC K (pv 2) A8) (A6 (AC K (pv 4) A8) (A6 (AC K (pv 4) A8) AE)))))))
   (A5 (Ae (Lv (E8 JS (pv 5) C8 (Ac _)) (Lv (E8 (op_eqK (K:=K) rfl (Int × Int) hr (by decide)) (HY (NI (K:=K) rfl) (pv 5) GA (Ho A8)) (HY (NI (K:=K) rfl) (pv 4) GA (Ho A8)) (Ac _)) (NZ (E8 E9 (AC K (pv 5) A8) (AC K (pv 0) A8) (Ac _))))))
   AA)))))))),?_⟩
 clear 2 b13 h14;refine Bf (Ch (AU (K:=K) (Jv (Et (A7 As)) An)) (Ch (Dd (F6 (K:=K) (FO (by decide) (BR (A7 As) An)))) (Dd (F6 (K:=K) (FO (by decide) (BR (A7 As) An)))))) h14 xt.gh fun G15 H16 x17=>?_;clear 1 x17 AF A9 As
 cases b13 with
 | true =>
  clear 3;exact Af (K:=K) (rest:=DW) (σ:=[some Ah,some Ad,some Dg,none,none,none]) Fu hm xt.gh fun v18 G19 H20 x21 r22=>q v18 G19 H20 (xt.trans x21) r22
 | false =>
  clear 4;clear 2 most_ h30;refine AW (K:=K) (HW (BJ (Bx (Cn (A7 A9))) (Bx (D5 (A7 A9)))) (Gh (A7 AF))) h30 xt.gh fun v25 G26 H27 x28 r29=>?_;clear 1 x28 AF A9 As;clear 2 b48 h49;refine Bf (Ch (AU (K:=K) (CD (Et (BR (A7 As) An)) (A7 r29))) (Ch (AU (K:=K) (CD (Et (BR (A7 As) An)) (HW (A7 r29) (BJ (GU (A7 AF)) An)))) (AU (K:=K) (E3 (Et (BR (A7 As) An)) An)))) h49 xt.gh fun G50 H51 x52=>?_;clear 1 x52 AF A9 As
  cases b48 with
  | true =>
   clear 3;exact Af (K:=K) (rest:=DW) (σ:=[some Ah,some Ad,some Dg,some v25,none,none]) Fu hm xt.gh fun v53 G54 H55 x56 r57=>q v53 G54 H55 (xt.trans x56) r57
  | false =>
   clear 4;clear 2 b69 h70;refine Bf (Ch (AU (K:=K) (CD (Et (BR (A7 As) An)) (Bx (Cn (A7 A9))))) (AU (K:=K) (Jv (Fd (Et (BR (A7 As) An)) (Bx (D5 (A7 A9)))) An))) h70 xt.gh fun G71 H72 x73=>?_;clear 1 x73 AF A9 As
   cases b69 with
   | true =>
    clear 3;exact Af (K:=K) (rest:=DW) (σ:=[some Ah,some Ad,some Dg,some v25,none,none]) Fu hm xt.gh fun v74 G75 H76 x77 r78=>q v74 G75 H76 (xt.trans x77) r78
   | false =>
    clear 4;clear 2 begin_ h92;refine AW (K:=K) (Ni (m:=Go) (A7 AF) (A7 A9) (LK (BR (A7 As) An)) An An) h92 xt.gh fun v87 G88 H89 x90 r91=>?_;clear 1 x90 AF A9 As;clear 2 b93 h94;refine Bf (AU (K:=K) (Gr nn_t3 (A7 r91))) h94 xt.gh fun G95 H96 x97=>?_;clear 1 x97 AF A9 As r91
    cases b93 with
    | true =>
     clear 3;exact Af (K:=K) (rest:=DW) (σ:=[some Ah,some Ad,some Dg,some v25,some v87,none]) Fu hm xt.gh fun v98 G99 H100 x101 r102=>q v98 G99 H100 (xt.trans x101) r102
    | false =>
     clear 4;clear 2 end_ h120;refine AW (K:=K) (Ni (m:=Go) (A7 AF) (A7 A9) (LK (BR (A7 As) An)) (EX (BY (A7 r91))) (Db (BY (A7 r91)))) h120 xt.gh fun v115 G116 H117 x118 r119=>?_;clear 1 x118 AF r91;exact Af (K:=K) (Lc (L0 nn_t3 (A7 r119)) (Lc (ev_eq (Qm (BY (A7 r119))) (Qm (BY (A7 r91)))) (E3 (IN (BY (A7 r119))) (GU (A7 AF))))) hm xt.gh fun v134 G135 H136 x137 r138=>q v134 G135 H136 (xt.trans x137) r138
theorem O0 (F:DIn K mg "_law_ranks" Hh)(T:Txt mg)(CO:HQ P w K mg base):KW P w K mg base:=by
 refine F.okM3 (m:=Dq) Ew fun _ _ _ _ _ H0 _ _ hr G0 watching_ Ao Ls res Ah Ad Gi xt AF A9 Hd hm q=>?_;unfold Dq at hm
 refine ⟨_,(A5 (AG (i:=3) Ew Fo)
   (A5 (AG (i:=4) Ew (Aj K (Aw K T.len_ (AC K (pv 1) A8)) (Aw K T.len_ (AC K (pv 1) A8))))
   (A5 (Bj PassesOwn.never rfl (Ay (K:=K) rfl (pv 2)) (Av (i:=5) Ew) (A5 (BD (PW.pt (CW (Da (B3 K (DI (Dl (K:=K) rfl) (by rfl) T.isinstance_ CT (A6 (pv 5) (A6 (GJ (v:=.ty "tuple") rfl T.tuple_ LE rfl) AE))))) (DY (AY JF (Aw K T.len_ (pv 5)) A8 (Ac _))))) (A5 (Ae (J2 Fo))
   AA) AA)
   (A5 (BD (PW.pt (CW (Da (B3 K (AX CO hr (by decide) rfl (A6 (AC K (pv 5) A8) AE)))) (CW (Da (B3 K (AX CO hr (by decide) rfl (A6 (AC K (pv 5) A8) AE)))) (CW (Da (B3 K (AX CO hr (by decide) rfl (A6 (AC K (pv 5) A8) AE)))) (DY (AY FB (AC K (pv 5) A8) A8 (Ac _))))))) (A5 (Ae (J2 Fo))
   AA) AA)
   (A5 (BD (PW.pt (CW (AY FB (AC K (pv 5) A8) A8 (Ac _)) (CW (AY Lz (AC K (pv 5) A8) (pv 4) (Ac _)) (CW (AY FB (AC K (pv 5) A8) A8 (Ac _)) (CW (AY Lz (AC K (pv 5) A8) (AC K (pv 0) A8) (Ac _)) (DY (pt_cmpDI (DZ hr) (HY (NI (K:=K) rfl) (pv 5) GA (Ho A8)) (pv 3) rfl))))))) (A5 (Ae (J2 Fo))
   AA) AA)
   (A5 (BD (PW.pt (pw_and (AY JS (AC K (pv 5) A8) C8 (Ac _)) (RD (PW.pt (CW (Da (B3 K (AX CO hr (by decide) rfl (A6 (AC K (pv 5) A8) AE)))) (CW (AY FB (AC K (pv 5) A8) A8 (Ac _)) (DY (AY Lz (AC K (pv 5) A8) (AC K (pv 0) A8) (Ac _))))))))) (A5 (Ae (J2 Fo))
   AA) AA)
   (A5 (Kr (DZ hr) (pv 3) (C9 (A6 (AC K (pv 5) A8) (A6 (AC K (pv 5) A8) AE))) (C9 (A6 (AC K (pv 5) A8) (A6 (AC K (pv 5) A8) AE))) rfl)
   AA))))))
   (A5 (Ae (J2 (pv 3)))
   AA)))),?_⟩
 clear 2 ranks_here_ h8;refine sv_ownR (K:=K) h8 xt.gh fun p1 vs2 G3 H4 x5 hz6 o7=>?_;clear 1 x5 AF A9 Hd 4 hz6;clear 2 Hm h14;refine AW (K:=K) (BJ (Bx (Cn (A7 A9))) (Bx (D5 (A7 A9)))) h14 xt.gh fun v9 G10 H11 x12 r13=>?_;clear 1 x12 AF Hd 2 o7;clear 2 as15 h16 fl17 h18;refine CC (K:=K) (RR:=fun r v G' H'=>Ext G0 H0 G' H'/\Rp.rel K G' v r) (BB (A7 Hd)) h16 h18 xt.gh fun G19 H20 x21=>⟨fun s22 S' G' H'=>∃ (v23:Option V),Ext G0 H0 G' H'/\Same G19 G'/\S'=[some Ah,some Ad,some Gi,some (V.ref p1),some v9,v23]/\(∃ vs,OwnR K G' H' (V.ref p1) p1 vs s22),?_,?_,?_,?_,?_⟩
 ·clear 1 x21 2 o7;exact ⟨_,xt,(Same.refl _),rfl,⟨_,o7⟩⟩
 ·rintro _ S' G' H' ⟨v23,xt,mk24,rfl,⟨vs2,o7⟩⟩;exact ⟨mk24,xt.gh⟩
 ·rintro xv25 a26 s22 _ G29 H30 fl27 - ⟨v23,xt,mk24,rfl,⟨vs2,o7⟩⟩ rx28 hm D' kN31 kC32 kB33 kR34;have AF:=Rp.mono (x21.gg.trans mk24) AF;have r13:=Rp.mono (x21.gg.trans mk24) r13;refine Bc ?_;clear 2 b38 h39;refine Bf (Ch (Dd (F6 (K:=K) (FO (by decide) (A7 rx28)))) (AU (K:=K) (Jv (Et (A7 rx28)) An))) h39 xt.gh fun G40 H41 x42=>?_;clear 1 x42 AF r13 rx28 2 o7 3 mk24
  cases b38 with
  | true =>
   clear 3;clear 2 rr48 h49;cases hm;exact Af (K:=K) (rest:=DW) (σ:=[some Ah,some Ad,some Gi,some (V.ref p1),some v9,some xv25]) (Iu (α:=(Int × (Option Int)))) h49 xt.gh fun v43 G44 H45 x46 r47=>kR34 _ v43 G44 H45 rfl ⟨xt.trans x46,r47⟩
  | false =>
   clear 4;clear 2 b71 h72;refine Bf (Ch (Dd (F6 (K:=K) (Ck (m:=DU) (BR (A7 rx28) An)))) (Ch (Dd (F6 (K:=K) (Ck (m:=DU) (BR (A7 rx28) An)))) (Ch (Dd (F6 (K:=K) (Ck (m:=DU) (BR (A7 rx28) An)))) (AU (K:=K) (CD (C1 (BR (A7 rx28) An)) An))))) h72 xt.gh fun G73 H74 x75=>?_;clear 1 x75 AF r13 rx28 2 o7 3 mk24
   cases b71 with
   | true =>
    clear 3;clear 2 rr81 h82;cases hm;exact Af (K:=K) (rest:=DW) (σ:=[some Ah,some Ad,some Gi,some (V.ref p1),some v9,some xv25]) (Iu (α:=(Int × (Option Int)))) h82 xt.gh fun v76 G77 H78 x79 r80=>kR34 _ v76 G77 H78 rfl ⟨xt.trans x79,r80⟩
   | false =>
    clear 4;clear 2 b147 h148;refine sv_ifR o7 (Ch (AU (K:=K) (CD (C1 (BR (A7 (Rp.mono (Same.new o7.g) rx28)) An)) An)) (Ch (AU (K:=K) (CD (C1 (BR (A7 (Rp.mono (Same.new o7.g) rx28)) An)) (A7 (Rp.mono (Same.new o7.g) r13)))) (Ch (AU (K:=K) (CD (C1 (BR (A7 (Rp.mono (Same.new o7.g) rx28)) An)) An)) (Ch (AU (K:=K) (CD (C1 (BR (A7 (Rp.mono (Same.new o7.g) rx28)) An)) (Gh (A7 (Rp.mono (Same.new o7.g) AF))))) (AU (K:=K) (ev_inR (ev_slD2 (A7 (Rp.mono (Same.new o7.g) rx28))) (A7 o7.tell))))))) h148 xt.gh fun G149 H150 x151=>?_;clear 1 x151 AF rx28 2 o7 3 mk24
    cases b147 with
    | true =>
     clear 3;clear 2 rr157 h158;cases hm;exact Af (K:=K) (rest:=DW) (σ:=[some Ah,some Ad,some Gi,some (V.ref p1),some v9,some xv25]) (Iu (α:=(Int × (Option Int)))) h158 xt.gh fun v152 G153 H154 x155 r156=>kR34 _ v152 G153 H154 rfl ⟨xt.trans x155,r156⟩
    | false =>
     clear 4;clear 2 b181 h182;refine Bf (tv_and (AU (K:=K) (ev_notND (BR (A7 rx28) An))) (Ch (Dd (F6 (K:=K) (Ck (m:=DU) (BR (A7 rx28) An)))) (Ch (AU (K:=K) (CD (C1 (BR (A7 rx28) An)) An)) (AU (K:=K) (CD (C1 (BR (A7 rx28) An)) (GU (A7 AF))))))) h182 xt.gh fun G183 H184 x185=>?_;clear 1 x185 rx28 2 o7 3 mk24
     cases b181 with
     | true =>
      clear 3;clear 2 rr191 h192;cases hm;exact Af (K:=K) (rest:=DW) (σ:=[some Ah,some Ad,some Gi,some (V.ref p1),some v9,some xv25]) (Iu (α:=(Int × (Option Int)))) h192 xt.gh fun v186 G187 H188 x189 r190=>kR34 _ v186 G187 H188 rfl ⟨xt.trans x189,r190⟩
     | false =>
      clear 4;clear 2 a217 h218 k219 h220 z227 h221;refine sv_dputR (K:=K) rfl o7 (GR (C1 (BR (A7 rx28) An)) (Rc (BR (A7 rx28) An))) h218 (HA (Bo (IV (C1 (BR (A7 rx28) An))) (Bo (IV (C1 (BR (A7 rx28) An))) (Bw (α:=SI))))) h220 h221 xt.gh fun G222 H223 w224 x225 o226=>?_;have xt:Ext G0 H0 G222 (upd H223 p1 (.dT (Cg vs2 (Cq k219.tp) w224))):=(xt.trans x225).put hz6 o226.g;clear 0 x225 3 mk24;cases hm;exact kN31 _ _ _ _ rfl ⟨_,xt,mk24,rfl,⟨_,o226⟩⟩
 ·rintro s22 _ G230 H231 rfl ⟨v228,xt,mk229,rfl,⟨vs2,o7⟩⟩;refine C6 ?_;cases hm;exact sv_retFT (K:=K) rfl o7 xt hz6 fun v9 G9 H9 x9 r9=>q v9 G9 H9 x9 r9
 ·clear 5
theorem Jq (F:DIn K mg "_law_rows_from" EW)(T:Txt mg):GX P w K mg base:=by
 refine F.ok EH bn1 (fun vs H Q E h=>(GF h).trans rfl) (fun _ cdv A outer s H0 vs Q E hr h=>?_);obtain ⟨G0,⟨watching_,⟨⟩⟩,res,sg0,⟨Ah,_,rfl,AF,rfl⟩,hm,q⟩:=h;replace AF:Rp.rel K G0 Ah watching_:=AF;replace hm:CF watching_=some res:=hm;unfold CF at hm;have xt:Ext G0 H0 G0 H0:=Ext.refl sg0
 refine ⟨_,(A5 (AG (i:=1) EH Fo)
   (A5 (Bj PassesOwn.never rfl (Ay (K:=K) rfl (AC K (pv 0) A8)) (Av (i:=2) EH) (A5 (Bv (BH K (pe_setD (DZ hr) (pv 1) (C9 (A6 (AC K (pv 2) A8) (A6 (AC K (pv 2) A8) AE))) (Cb AE) ⟨rfl,rfl,rfl,rfl⟩) (pv 2)))
   AA))
   (A5 (Ae (pv 1))
   AA))),?_⟩
 clear 2 found_ h8;refine sv_ownDL (K:=K) h8 xt.gh xt.hh fun p1 G3 H4 x5 hz6 o7=>?_;clear 1 x5 AF;clear 2 as9 h10 fl11 h12;refine CC (K:=K) (RR:=fun r v G' H'=>Ext G0 H0 G' H'/\Rp.rel K G' v r) (BB (Gs (A7 AF))) h10 h12 xt.gh fun G13 H14 x15=>⟨fun s16 S' G' H'=>∃ (v17:Option V),Ext G0 H0 G' H'/\Same G13 G'/\S'=[some Ah,some (V.ref p1),v17]/\(∃ vs,OwnDL K H0 G' H' p1 vs s16),?_,?_,?_,?_,?_⟩
 ·clear 1 x15 2 o7;exact ⟨_,xt,(Same.refl _),rfl,⟨_,o7⟩⟩
 ·rintro _ S' G' H' ⟨v17,xt,mk18,rfl,⟨vs2,o7⟩⟩;exact ⟨mk18,xt.gh⟩
 ·rintro xv19 a20 s16 _ G23 H24 fl21 - ⟨v17,xt,mk18,rfl,⟨vs2,o7⟩⟩ rx22 hm D' kN25 kC26 kB27 kR28;refine Bc ?_;clear 2 k36 h37 z44 h38;refine RW (K:=K) rfl o7 (HA (Bo (IV (K3 (A7 rx22))) (Bo (ev_toS (Gh (A7 rx22))) (Bw (α:=SI))))) h37 (DM (Bw (α:=(T4 Int Str Int (Tp Int))))) (A7 rx22) rfl h38 xt.gh xt.hh fun G39 H40 vs41 s42 f42 o43=>?_;have xt:=f42 _ xt;have mk18:=mk18.trans s42;cases hm;exact kN25 _ _ _ _ rfl ⟨_,xt,mk18,rfl,⟨_,o43⟩⟩
 ·rintro s16 _ G47 H48 rfl ⟨v45,xt,mk46,rfl,⟨vs2,o7⟩⟩;refine C6 ?_;cases hm;exact sv_retDL (K:=K) rfl o7 xt fun G9 x9 r9=>q _ G9 _ x9 r9
 ·clear 5
theorem IQ (F:DIn K mg "_law_paper_holds" E5)(T:Txt mg)(Gz:KW P w K mg base)(ET:GX P w K mg base)(DV:Hk P w K mg base)(Bt:Ep P w K mg base):FW P w K mg base:=by
 refine F.okM3 (m:=Bq) BQ fun _ _ _ _ _ H0 _ _ hr G0 watching_ Ao CV res Ah Ad Dg xt AF A9 As hm q=>?_;unfold Bq at hm
 refine ⟨_,(A5 (BD (PW.pt (CW (AY JF (Aw K T.len_ (pv 2)) A8 (Ac _)) (DY (Da (B3 K (DI (Dl (K:=K) rfl) (by rfl) T.isinstance_ CT (A6 (AC K (pv 2) A8) (A6 (GJ (v:=.ty "list") rfl T.list_ GT rfl) AE)))))))) (A5 (Ae Dw)
   AA) AA)
   (A5 (AG (i:=3) BQ (AX Gz hr (by decide) rfl (A6 (pv 0) (A6 (pv 1) (A6 (AC K (pv 2) A8) AE)))))
   (A5 (AG (i:=4) BQ (AX ET hr (by decide) rfl (A6 (pv 0) AE)))
   (A5 (C2 (i:=5) (Ge BQ) rfl (Or.inl rfl) (cn:=["_law_watching"]) (cap:=[0]) rfl ⟨by decide +kernel,rfl,by decide +kernel,BF rfl⟩ rfl (by decide +kernel) ⟨⟨rfl,.inl rfl,rfl⟩,trivial⟩ (Ay (K:=K) rfl (Aj K (AC K (pv 1) A8) (AC K (pv 1) A8))) (fun C s0 H0 fp=>⟨Bd,(AX DV hr (by decide) rfl (A6 (pv 0) (A6 (AC K (pv 1) A8) AE)))⟩))
   (A5 (Bj PassesOwn.never rfl (pi_frzT (pv 3)) (Av (i:=6) BQ) (A5 (Bj PassesOwn.never rfl (Ay (K:=K) rfl (OY (DZ hr) (pv 4) (C9 (A6 (AC K (pv 6) A8) (A6 (AC K (pv 5) (AC K (pv 6) A8)) AE))) (Cb AE) ⟨rfl,rfl,rfl,rfl⟩)) (Av (i:=7) BQ) (A5 (AG (i:=8) BQ (OY (DZ hr) (pv 3) (C9 (A6 (AX Bt hr (by decide) rfl (A6 (AC K (pv 6) A8) (A6 (pv 1) AE))) (A6 (AC K (pv 7) A8) AE))) C8 ⟨rfl,rfl,rfl,rfl⟩))
   (A5 (BD (PW.pt (CW (AY HM (pv 8) C8 (Ac _)) (DY (AY K2 (AC K (pv 8) A8) (AC K (JR (DZ hr) (pv 3) (pv 6) (fun _ _=>rfl)) A8) (Ac _))))) (A5 (Ae Dw)
   AA) AA)
   (A5 (BD (PW.pt (pw_and (AY E9 (AC K (pv 8) A8) (AC K (JR (DZ hr) (pv 3) (pv 6) (fun _ _=>rfl)) A8) (Ac _)) (RD (PW.pt (CW (AY HM (AC K (pv 8) A8) C8 (Ac _)) (CW (AY JF (AC K (pv 8) A8) (AC K (JR (DZ hr) (pv 3) (pv 6) (fun _ _=>rfl)) A8) (Ac _)) (DY (AY (QK (K:=K) rfl) (AC K (pv 8) A8) (AC K (pv 7) A8) rfl)))))))) (A5 (Ae Dw)
   AA) AA)
   AA))))
   AA))
   (A5 (Ae (pe_cmpDI (DZ hr) (C9 (A6 A8 (A6 A8 AE))) (pv 3) rfl))
   AA)))))),?_⟩
 clear 2 b8 h9;refine Bf (Ch (AU (K:=K) (Jv (Et (A7 As)) An)) (Dd (F6 (K:=K) (FO (by decide) (BR (A7 As) An))))) h9 xt.gh fun G10 H11 x12=>?_;clear 1 x12 AF A9 As
 cases b8 with
 | true =>
  clear 3;exact Af (K:=K) (rest:=DW) (σ:=[some Ah,some Ad,some Dg,none,none,none,none,none,none]) Fu hm xt.gh fun v13 G14 H15 x16 r17=>q v13 G14 H15 (xt.trans x16) r17
 | false =>
  clear 4;clear 2 ranks_here_ h29;refine AW (K:=K) (EN (m:=JK) (A7 AF) (A7 A9) (LK (BR (A7 As) An))) h29 xt.gh fun v24 G25 H26 x27 r28=>?_;clear 1 x27 AF A9;clear 2 rows_from_here_ h36;refine AW (K:=K) (Ck (m:=Fs) (A7 AF)) h36 xt.gh fun v31 G32 H33 x34 r35=>?_;clear 1 x34 AF A9 r28;clear 2 Ll h51;refine AW (K:=K) (FV.ev (D6 (cap:=[0]) (fe:=fun (one_:Str)=>((some one_).bind fun t43=>(some watching_.a).bind fun t44=>Cf t43 t44)) (BB (FV.ev (Qg (Cn (A7 A9)) (D5 (A7 A9))))) fun xc42 one_ Gc39 sc40 rc41=>(Ak (m:=GO) (A7 rc41) (K3 (A7 (Rp.mono sc40 AF)))))) h51 xt.gh fun v46 G47 H48 x49 r50=>?_;clear 1 x49 A9 r28 r35;have q:∀ v9 G9 H9,Ext H48 H48 G9 H9->Rp.rel K G9 v9 res->_:=fun v9 G9 H9 x9 r9=>q v9 G0 H9 ⟨.refl _,(xt.gg.trans xt.gh).trans x9.hh,xt.hh.trans x9.hh,fun _ h _=>h⟩ r9;have A9:=Rp.mono xt.gh A9;have r28:=Rp.mono xt.gh r28;have r35:=Rp.mono xt.gh r35;have r50:=Rp.mono xt.gh r50;have xt:Ext H48 H48 H48 H48:=Ext.refl (.refl _);clear 2 as53 h54 fl55 h56;refine sv_forT (K:=K) (RR:=fun r v G' H'=>Ext H48 H48 G' H'/\Rp.rel K G' v r) rfl r28 h54 h56 fun G57 H58 x59=>⟨fun s60 S' G' H'=>∃ (v61:Option V) (v62:Option V) (v63:Option V),Ext H48 H48 G' H'/\Same G57 G'/\S'=[some Ah,some Ad,some Dg,some v24,some v31,some v46,v61,v62,v63],?_,?_,?_,?_,?_⟩
  ·clear 1 x59;exact ⟨_,_,_,xt,(Same.refl _),rfl⟩
  ·rintro _ S' G' H' ⟨v61,v62,v63,xt,mk64,rfl⟩;exact ⟨mk64,xt.gh⟩
  ·rintro xv65 a66 s60 _ G69 H70 fl67 - ⟨v61,v62,v63,xt,mk64,rfl⟩ rx68 hm D' kN71 kC72 kB73 kR74;have A9:=Rp.mono (x59.gg.trans mk64) A9;have r28:=Rp.mono (x59.gg.trans mk64) r28;have r35:=Rp.mono (x59.gg.trans mk64) r35;have r50:=Rp.mono (x59.gg.trans mk64) r50;refine Bc ?_;clear 2 as88 h89 fl90 h91;refine CC (K:=K) (RR:=fun r v G' H'=>Ext H48 H48 G' H'/\Rp.rel K G' v r) (BB (ev_getRD (A7 r35) (HA (Bo (QC (Qe (A7 rx68)) An) (Bo (ev_toS (B9 (A7 r50) (ev_asI (QC (Qe (A7 rx68)) An)))) (Bw (α:=SI))))) (FV.ev (DM (Bw (α:=(T4 Int Str Int (Tp Int)))))))) h89 h91 xt.gh fun G92 H93 x94=>⟨fun s95 S' G' H'=>∃ (v96:Option V) (v97:Option V),Ext H48 H48 G' H'/\Same G92 G'/\S'=[some Ah,some Ad,some Dg,some v24,some v31,some v46,some xv65,v96,v97],?_,?_,?_,?_,?_⟩
   ·clear 1 x94;exact ⟨_,_,xt,(Same.refl _),rfl⟩
   ·rintro _ S' G' H' ⟨v96,v97,xt,mk98,rfl⟩;exact ⟨mk98,xt.gh⟩
   ·rintro xv99 a100 s95 _ G103 H104 fl101 - ⟨v96,v97,xt,mk98,rfl⟩ rx102 hm D' kN105 kC106 kB107 kR108;have A9:=Rp.mono (x94.gg.trans mk98) A9;have r28:=Rp.mono (x94.gg.trans mk98) r28;have rx68:=Rp.mono (x94.gg.trans mk98) rx68;refine Bc ?_;clear 2 to_ h123;refine AW (K:=K) (SQ (A7 r28) (HA (Bo (IV (Ak (m:=EM) (ev_asI (QC (Qe (A7 rx68)) An)) (A7 A9))) (Bo (IV (Gs (A7 rx102))) (Bw (α:=SI)))))) h123 xt.gh fun v118 G119 H120 x121 r122=>?_;clear 1 x121 r28 rx68 rx102 3 mk98;clear 2 b132 h133;refine Bf (Ch (AU (K:=K) (Gr Qn (A7 r122))) (AU (K:=K) (CD (Cn (BY (A7 r122))) (Cn (Jn (A7 r28) (A7 rx68)))))) h133 xt.gh fun G134 H135 x136=>?_;clear 1 x136 r28 rx68 rx102 r122 3 mk98
    cases b132 with
    | true =>
     clear 3;clear 2 rr142 h143;cases hm;exact Af (K:=K) (rest:=DW) (σ:=[some Ah,some Ad,some Dg,some v24,some v31,some v46,some xv65,some xv99,some v118]) Fu h143 xt.gh fun v137 G138 H139 x140 r141=>kR108 _ v137 G138 H139 rfl ⟨xt.trans x140,r141⟩
    | false =>
     clear 4;clear 2 b176 h177;refine Bf (tv_and (AU (K:=K) (E3 (Cn (BY (A7 r122))) (Cn (Jn (A7 r28) (A7 rx68))))) (Ch (AU (K:=K) (Gr O4 (D5 (BY (A7 r122))))) (Ch (AU (K:=K) (ev_neOI (D5 (BY (A7 r122))) (D5 (Jn (A7 r28) (A7 rx68))))) (AU (K:=K) (Px (BY (D5 (BY (A7 r122)))) (GU (A7 rx102))))))) h177 xt.gh fun G178 H179 x180=>?_;clear 1 x180 3 mk98
     cases b176 with
     | true =>
      clear 3;clear 2 rr186 h187;cases hm;exact Af (K:=K) (rest:=DW) (σ:=[some Ah,some Ad,some Dg,some v24,some v31,some v46,some xv65,some xv99,some v118]) Fu h187 xt.gh fun v181 G182 H183 x184 r185=>kR108 _ v181 G182 H183 rfl ⟨xt.trans x184,r185⟩
     | false =>
      clear 4;cases hm;exact kN105 _ _ _ _ rfl ⟨_,_,xt,mk98,rfl⟩
   ·rintro s95 _ G191 H192 rfl ⟨v188,v189,xt,mk190,rfl⟩;refine C6 ?_;have mk64:=(mk64.trans x94.gg).trans mk190;cases hm;exact kN71 _ _ _ _ rfl ⟨_,_,_,xt,mk64,rfl⟩
   ·clear 6 kR74
  ·rintro s60 _ G197 H198 rfl ⟨v193,v194,v195,xt,mk196,rfl⟩;refine C6 ?_;have r28:=Rp.mono (x59.gg.trans mk196) r28;exact Af (K:=K) (ev_inRF (HA (Bo (IV An) (Bo (IV An) (Bw (α:=SI))))) (A7 r28)) hm xt.gh fun v199 G200 H201 x202 r203=>q v199 G200 H201 (xt.trans x202) r203
  ·clear 5
theorem Nj (F:DIn K mg "_law_holds" Gy)(T:Txt mg)(EU:Gb P w K mg base)(EB:FW P w K mg base):Kd P w K mg base:=by
 refine F.okM3 (m:=CK) NK fun _ _ _ _ _ H0 _ _ hr G0 watching_ Ao CV res Ah Ad Dg xt AF A9 As hm q=>?_;unfold CK at hm
 refine ⟨_,(A5 (BD (PW.pt (CW (Da (B3 K (DI (Dl (K:=K) rfl) (by rfl) T.isinstance_ CT (A6 (pv 2) (A6 (GJ (v:=.ty "tuple") rfl T.tuple_ LE rfl) AE))))) (DY (AY FB (Aw K T.len_ (pv 2)) A8 (Ac _))))) (A5 (Ae Dw)
   AA) AA)
   (A5 (BD (AY E9 (AC K (pv 2) A8) E7 (Ac _)) (A5 (Ae (AX EU hr (by decide) rfl (A6 (pv 0) (A6 (pv 1) (A6 (pv 2) AE)))))
   AA) AA)
   (A5 (Ae (Lv (E8 E9 (AC K (pv 2) A8) E7 (Ac _)) (NZ (AX EB hr (by decide) rfl (A6 (pv 0) (A6 (pv 1) (A6 (pv 2) AE)))))))
   AA))),?_⟩
 clear 2 b4 h5;refine Bf (Ch (Dd (F6 (K:=K) (FO (by decide) (A7 As)))) (AU (K:=K) (CD (Et (A7 As)) An))) h5 xt.gh fun G6 H7 x8=>?_;clear 1 x8 AF A9 As
 cases b4 with
 | true =>
  clear 3;exact Af (K:=K) (rest:=DW) (σ:=[some Ah,some Ad,some Dg]) Fu hm xt.gh fun v9 G10 H11 x12 r13=>q v9 G10 H11 (xt.trans x12) r13
 | false =>
  clear 4;clear 2 b20 h21;refine Bf (AU (K:=K) (Q5 (JW (BR (A7 As) An)) J1)) h21 xt.gh fun G22 H23 x24=>?_;clear 1 x24 AF A9 As
  cases b20 with
  | true =>
   clear 3;exact Af (K:=K) (EN (m:=Fi) (A7 AF) (A7 A9) (A7 As)) hm xt.gh fun v28 G29 H30 x31 r32=>q v28 G29 H30 (xt.trans x31) r32
  | false =>
   clear 4;exact Af (K:=K) (Lc (Q5 (JW (BR (A7 As) An)) J1) (EN (m:=F8) (A7 AF) (A7 A9) (A7 As))) hm xt.gh fun v43 G44 H45 x46 r47=>q v43 G44 H45 (xt.trans x46) r47
theorem ok_law {f:Addr}{fd:FuncData}(F:Fun K "law" "law" s_law f fd)(T:Txt mg)(HB:Kf P w K mg base)(K7:Mn P w K mg base)(FR:KZ P w K mg base)(Ix:Qu P w K mg base)(B4:GP P w K mg base)(ER:Kd P w K mg base):FnOk P w K mg base CX0 6 f fd ["_law_script"] (spM K mm_law):=by
 refine F.ok FJ (fun vs H Q E h=>(GF h).trans rfl) (fun cdv A outer s H0 vs Q E hr h=>?_);obtain ⟨G0,⟨script_,⟨⟩⟩,res,sg0,⟨C0,_,rfl,AJ,rfl⟩,hm,q⟩:=h;replace AJ:Rp.rel K G0 C0 script_:=AJ;replace hm:PB script_=some res:=hm;unfold PB at hm;have xt:Ext G0 H0 G0 H0:=Ext.refl sg0
 refine ⟨_,(A5 (AG (i:=1) FJ (AX HB hr (by decide) rfl (A6 (AX B4 hr (by decide) rfl (A6 (pv 0) (A6 A8 AE))) AE)))
   (A5 (BD (AY E9 (Ax BS (AX B4 hr (by decide) rfl (A6 (pv 0) (A6 A8 AE))) A8) A8 (Ac _)) (A5 (AG (i:=1) FJ E7)
   AA) AA)
   (A5 (AG (i:=2) FJ (Ic (K:=K) rfl PySem.F.plainAttrs_str PySem.F.slot_str_join PySem.F.type_str_join (JI (K:=K) rfl) E7 (A6 (DI (P7 (w:=w) rfl rfl) (by rfl) T.sorted_ Rv (A6 (F1 (Ro (w:=w) rfl rfl) (by rfl) T.set_ Gw (A6 (Aj K (pv 1) E7) AE)) AE)) AE)))
   (A5 (AG (i:=3) FJ (AX K7 hr (by decide) rfl (A6 (pv 0) (A6 A8 (A6 (Ax BS (AX B4 hr (by decide) rfl (A6 (pv 0) (A6 A8 AE))) A8) (A6 (Aj K A8 (Ax BS (AX B4 hr (by decide) rfl (A6 (pv 0) (A6 A8 AE))) A8)) (A6 (pv 2) AE)))))))
   (A5 (AG (i:=4) FJ (AX FR hr (by decide) rfl (A6 (pv 0) (A6 A8 (A6 (pv 1) (A6 (pv 3) AE))))))
   (A5 (AG (i:=5) FJ (AX FR hr (by decide) rfl (A6 (pv 0) (A6 A8 (A6 (pv 1) (A6 (pv 3) AE))))))
   (A5 (AG (i:=6) FJ (C9 (A6 (pv 1) (A6 (AC K (pv 4) A8) (A6 (F1 (GL (K:=K) rfl) (by rfl) T.list_ GT (A6 (AC K (pv 4) A8) AE)) (A6 (AC K (pv 4) A8) AE))))))
   (A5 (AG (i:=7) FJ (C9 (A6 (F1 (GL (K:=K) rfl) (by rfl) T.list_ GT (A6 (AC K (pv 3) A8) AE)) (A6 (F1 (GL (K:=K) rfl) (by rfl) T.list_ GT (A6 (AC K (pv 3) A8) AE)) AE))))
   (A5 (AG (i:=8) FJ (AX Ix hr (by decide) rfl (A6 (pv 6) (A6 (pv 7) AE))))
   (A5 (BD (PW.pt (CW (Da (B3 K (AX ER hr (by decide) rfl (A6 (pv 4) (A6 (pv 3) (A6 (pv 8) AE)))))) (CW (AY (op_neK (K:=K) rfl (T4 Str Int (List (T4 Int Str Int (Tp Int))) Int) hr (by decide)) (pv 6) (pv 4) (Ac _)) (DY (AY (op_neK (K:=K) rfl ((List Str) × (List Str)) hr (by decide)) (pv 7) (pv 3) (Ac _)))))) (A5 (Ae Dw)
   AA) AA)
   (A5 (BD (Da (B3 K (AX ER hr (by decide) rfl (A6 (pv 5) (A6 (pv 3) (A6 (AX Ix hr (by decide) rfl (A6 (pv 5) (A6 (pv 3) AE))) AE)))))) (A5 (Ae Dw)
   AA) AA)
   (A5 (AG (i:=9) FJ (AX Ix hr (by decide) rfl (A6 (pv 6) (A6 (pv 7) AE))))
   (A5 (BD (PW.pt (CW (Da (B3 K (AX ER hr (by decide) rfl (A6 (pv 4) (A6 (pv 3) (A6 (pv 9) AE)))))) (DY (AY JF (AC K (pv 9) A8) (AC K (pv 8) A8) (Ac _))))) (A5 (Ae Dw)
   AA) AA)
   (A5 (Ae (E8 (op_eqK (K:=K) rfl (T4 Str Int (List (T4 Int Str Int (Tp Int))) Int) hr (by decide)) (pv 6) (pv 4) (Ac _)))
   AA)))))))))))))),?_⟩
 clear 2 Am h9;refine AW (K:=K) (Ck (m:=J0) (Ak (m:=BC) (A7 AJ) An)) h9 xt.gh fun v4 G5 H6 x7 r8=>?_;clear 1 x7 AJ;clear 2 b14 h15 s19 h20
 try (with_reducible refine nxt_ ?_;dsimp only)
 refine Ev (t:=IH _ _ _) (fun S33 H32=>∃ (G31:Hp) (v22:V),Ext G0 H0 G31 H32/\Same G5 G31/\S33=[some C0,some v22,none,none,none,none,none,none,none,none]/\Rp.rel K G31 v22 (s19:Str)) (fun nx kn24=>?_) ?_
 ·refine Bf (AU (K:=K) (E3 (Bh (Ak (m:=BC) (A7 AJ) An)) An)) h15 xt.gh fun G16 H17 x18=>?_;clear 1 x18 r8;have mk21:Same G5 G16:=x18.gg;have hm:=h20
  cases b14 with
  | true =>
   clear 3;clear 2 Am h30;refine AW (K:=K) J1 h30 xt.gh fun v25 G26 H27 x28 r29=>?_;clear 1 x28 3 mk21;cases hm;exact kn24 _ _ ⟨G26,v25,xt,mk21,rfl,r29⟩
  | false =>
   clear 4;cases hm;exact kn24 _ _ ⟨G16,v4,xt,mk21,rfl,r8⟩
 ·rintro _ H32 ⟨G31,v22,xt,mk21,rfl,r23⟩;clear 9 mk21 AJ;clear 2 seen_lamps_ h44;refine AW (K:=K) (L6 J1 (FV.ev (Od (w:=w) (NH (A7 r23) J1)))) h44 xt.gh fun v39 G40 H41 x42 r43=>?_;clear 1 x42 AJ r23;clear 2 Ao h62;refine AW (K:=K) (Ni (m:=Lm) (A7 AJ) An (Bh (Ak (m:=BC) (A7 AJ) An)) (BJ An (Bh (Ak (m:=BC) (A7 AJ) An))) (A7 r43)) h62 xt.gh fun v57 G58 H59 x60 r61=>?_;clear 1 x60 AJ r23;clear 2 watching_ h72;refine AW (K:=K) (Hq (m:=GC) (A7 AJ) An (A7 r23) (A7 r61)) h72 xt.gh fun v67 G68 H69 x70 r71=>?_;clear 1 x70 AJ r23 r61;clear 2 Dc h82;refine AW (K:=K) (Hq (m:=GC) (A7 AJ) An (A7 r23) (A7 r61)) h82 xt.gh fun v77 G78 H79 x80 r81=>?_;clear 1 x80 r23 r61 r71;clear 2 Ir h88;refine AW (K:=K) (JE (A7 r23) (Gh (A7 r71)) (FV.ev (L1 (Gs (A7 r71)))) (GU (A7 r71))) h88 xt.gh fun v83 G84 H85 x86 r87=>?_;clear 1 x86 r61 r71 r81;clear 2 handed_run_ h94;refine AW (K:=K) (GR (FV.ev (L1 (Cn (A7 r61)))) (FV.ev (L1 (D5 (A7 r61))))) h94 xt.gh fun v89 G90 H91 x92 r93=>?_;clear 1 x92 r61 r71 r81 r87;clear 2 CV h102;refine AW (K:=K) (Ak (m:=J3) (A7 r87) (A7 r93)) h102 xt.gh fun v97 G98 H99 x100 r101=>?_;clear 1 x100 r61 r71 r81 r87 r93;clear 2 b108 h109;refine Bf (Ch (Dd (F6 (K:=K) (EN (m:=Er) (A7 r71) (A7 r61) (A7 r101)))) (tv_orP (AU (K:=K) (ev_ne (A7 r87) (A7 r71))) (AU (K:=K) (ev_ne (A7 r93) (A7 r61))))) h109 xt.gh fun G110 H111 x112=>?_;clear 1 x112 r61 r71 r81 r87 r93 r101
  cases b108 with
  | true =>
   clear 3;exact Af (K:=K) (rest:=DW) (σ:=[some C0,some v22,some v39,some v57,some v67,some v77,some v83,some v89,some v97,none]) Fu hm xt.gh fun v113 G114 H115 x116 r117=>q v113 G114 H115 (xt.trans x116) r117
  | false =>
   clear 4;clear 2 b124 h125;refine Bf (Dd (F6 (K:=K) (EN (m:=Er) (A7 r81) (A7 r61) (Ak (m:=J3) (A7 r81) (A7 r61))))) h125 xt.gh fun G126 H127 x128=>?_;clear 1 x128 r61 r71 r87 r93 r101
   cases b124 with
   | true =>
    clear 3;exact Af (K:=K) (rest:=DW) (σ:=[some C0,some v22,some v39,some v57,some v67,some v77,some v83,some v89,some v97,none]) Fu hm xt.gh fun v129 G130 H131 x132 r133=>q v129 G130 H131 (xt.trans x132) r133
   | false =>
    clear 4;clear 2 Pl h141;refine AW (K:=K) (Ak (m:=J3) (A7 r87) (A7 r93)) h141 xt.gh fun v136 G137 H138 x139 r140=>?_;clear 1 x139 r61 r71 r87 r101;clear 2 b161 h162;refine Bf (Ch (Dd (F6 (K:=K) (EN (m:=Er) (A7 r71) (A7 r61) (A7 r140)))) (AU (K:=K) (ev_neS (JW (BR (A7 r140) An)) (JW (BR (A7 r101) An))))) h162 xt.gh fun G163 H164 x165=>?_;clear 1 x165 r71 r87
    cases b161 with
    | true =>
     clear 3;exact Af (K:=K) (rest:=DW) (σ:=[some C0,some v22,some v39,some v57,some v67,some v77,some v83,some v89,some v97,some v136]) Fu hm xt.gh fun v166 G167 H168 x169 r170=>q v166 G167 H168 (xt.trans x169) r170
    | false =>
     clear 4;exact Af (K:=K) (ev_eq (A7 r87) (A7 r71)) hm xt.gh fun v171 G172 H173 x174 r175=>q v171 G172 H173 (xt.trans x174) r175
end
theorem cut_hi {α:Type}(xs:List α)(k:Nat):NS xs none (some (k:Int))=xs.take k:=by
 unfold NS;rw [HT.sIx_none,HT.sIx_nat,List.drop_zero,Nat.sub_zero];by_cases h:k<=xs.length
 ·rw [Nat.min_eq_left h]
 ·rw [Nat.min_eq_right (by omega),List.take_length,List.take_of_length_le (by omega)]
theorem cut_lo {α:Type}(xs:List α)(k:Nat):NS xs (some (k:Int)) none=xs.drop k:=by
 unfold NS;rw [HT.sIx_none,HT.sIx_nat];by_cases h:k<=xs.length
 ·rw [Nat.min_eq_left h,List.take_of_length_le (by rw [List.length_drop];omega)]
 ·rw [Nat.min_eq_right (by omega),Nat.sub_self,List.take_zero,List.drop_of_length_le (by omega)]
abbrev Way:=T3 Int Int (Tp Int)
abbrev Net:=T3 Int (List (T3 Int Int (Tp Int))) Int
def N3 (k:Int)(w:Way):Prop:=(0<=w.a/\w.a<k)/\0<=w.b/\w.b<k
inductive Rch (E:Int->Int->Prop):Int->Int->Prop where
 | refl (u:Int):Rch E u u
 | tail {u v w:Int}:Rch E u v->E v w->Rch E u w
theorem Rch.trans {E:Int->Int->Prop}{u v w:Int}(h1:Rch E u v)(h2:Rch E v w):Rch E u w:=by
 induction h2 with
 | refl=>exact h1
 | tail _ e ih=>exact .tail ih e
theorem Rch.one {E:Int->Int->Prop}{u v:Int}(h:E u v):Rch E u v:=.tail (.refl _) h
theorem Rch.head {E:Int->Int->Prop}{u v w:Int}(h1:E u v)(h2:Rch E v w):Rch E u w:=(Rch.one h1).trans h2
theorem Rch.rev {E F:Int->Int->Prop}(hf:∀ a b,E a b->F b a){u v:Int}(h:Rch E u v):Rch F v u:=by
 induction h with
 | refl=>exact .refl _
 | tail _ e ih=>exact .head (hf _ _ e) ih
theorem Rch.closed {E:Int->Int->Prop}{A:Int->Prop}(hc:∀ u v,A u->E u v->A v){u v:Int}(h:Rch E u v)(hu:A u):A v:=by
 induction h with
 | refl=>exact hu
 | tail _ e ih=>exact hc _ _ ih e
theorem Rch.exit {E:Int->Int->Prop}{A:Int->Prop}{x b:Int}(h:Rch E x b)(hx:A x)(hb:¬A b):∃ u v,Rch E x u/\A u/\E u v/\¬A v/\Rch E v b:=by
 induction h with
 | refl=>exact absurd hx hb
 | @tail v w h e ih =>
  by_cases hv:A v
  ·exact ⟨v,w,h,hv,e,hb,.refl _⟩
  ·obtain ⟨u,v',h1,h2,h3,h4,h5⟩:=ih hv;exact ⟨u,v',h1,h2,h3,h4,.tail h5 e⟩
structure Adj (l:List (List Int))(N:Nat)(E:Int->Int->Prop)(M:Nat):Prop where
 len:l.length=N
 mem:∀ (k:Nat) r,l[k]? = some r->∀ v,v∈r ↔ E k v
 rng:∀ (k:Nat) r,l[k]? = some r->∀ v∈r,0<=v/\v<N
 sum:(l.map List.length).sum<=M
def Ed (ws:List Way)(u v:Int):Prop:=∃ w∈ws,w.a=u/\w.b=v
def Be (ws:List Way)(u v:Int):Prop:=∃ w∈ws,w.b=u/\w.a=v
structure NetW (n:Net):Prop where
 a0:0<=n.a
 a1:n.a<=10000
 c0:0<=n.c
 c1:n.c<=1000
 ac:n.a * (n.c+1)<=1000000
 l:n.b.length<=100000
 w:∀ x∈n.b,N3 n.a x
 z:(n.b.map fun w=>w.c.l.length).sum<=10000000
theorem Nu {n j:Nat}(h:j<n):ixN n (j:Int)=some j:=by
 unfold ixN;rw [if_pos (by omega),if_pos (by omega)];simp
theorem ok_app {α:Type}{ls:List (List α)}{j:Nat}{l:List α}{a:α}{P:List (List α)->Prop}(hj:ls[j]? = some l)(hl:l.length<sizeLine)(h:P (ls.set j (l++[a]))):OK (LP ls (j:Int) a) P:=by
 have hlt:=(quA.mp hj).1;unfold LP;rw [Nu hlt];simp only [Ag];rw [hj];simp only [Ag];exact AB (DO hl (AD h))
theorem FX {α:Type}{as:List α}{j:Nat}{a:α}{P:List α->Prop}(hj:j<as.length)(h:P (as.set j a)):OK (J7 as (j:Int) a) P:=by
 unfold J7;rw [Nu hj];exact AD h
theorem RA {ls:List (List Int)}{j:Nat}{l l':List Int}(hj:ls[j]? = some l):((ls.set j l').map List.length).sum+l.length=(ls.map List.length).sum+l'.length:=by
 induction ls generalizing j with
 | nil=>simp at hj
 | cons x ls ih =>
  cases j with
  | zero=>simp at hj;subst hj;simp;omega
  | succ j =>
   have:=ih (j:=j) (by simpa using hj);simp only [List.set_cons_succ,qaB,List.sum_cons];omega
structure Laid {α:Type}(ls:List (List Int))(N:Nat)(xs:List α)(i:Nat)(p:α->Bool)(f g:α->Int):Prop where
 len:ls.length=N
 mem:∀ (k:Nat) r,ls[k]? = some r->∀ v,v∈r ↔ ∃ x∈xs.take i,p x=true/\f x=k/\g x=v
 sum:(ls.map List.length).sum<=i
theorem Laid.skip {α:Type}{ls:List (List Int)}{N i:Nat}{xs:List α}{p:α->Bool}{f g:α->Int}{x:α}(h:Laid ls N xs i p f g)(hx:xs[i]? = some x)(hp:p x=false):Laid ls N xs (i+1) p f g:=by
 refine ⟨h.len,fun k r hr v=>?_,Nat.le_succ_of_le h.sum⟩;rw [h.mem k r hr v,List.take_add_one,hx];constructor
 ·rintro ⟨y,hy,e⟩;exact ⟨y,List.mem_append_left _ hy,e⟩
 ·rintro ⟨y,hy,e⟩;rcases qkA.mp hy with hy|hy
  ·exact ⟨y,hy,e⟩
  ·cases qpA.mp hy;rw [hp] at e;cases e.1
theorem Laid.step {α:Type}{ls:List (List Int)}{N i:Nat}{xs:List α}{p:α->Bool}{f g:α->Int}{x:α}(h:Laid ls N xs i p f g)(hx:xs[i]? = some x)(hp:p x=true)(h0:0<=f x)(h1:f x<N)(hi:i<1000000) :
  OK (LP ls (f x) (g x)) fun ls'=>Laid ls' N xs (i+1) p f g:=by
 have hs:sizeLine=16777216:=qoB;obtain ⟨j,hj⟩:=qrB h0;have hlt:j<ls.length:=by have:=h.len;omega
 have hl:ls[j]? = some ls[j]:=qvA hlt
 have hsz:ls[j].length<=i:=by
  have:=RA (l':=[]) hl;have:=h.sum;simp at *;omega
 rw [hj];refine ok_app hl (by omega) ⟨by rw [List.length_set];exact h.len,fun k r hr v=>?_,?_⟩
 ·rw [List.getElem?_set] at hr;rw [List.take_add_one,hx];by_cases hk:j=k
  ·subst hk;rw [if_pos rfl,if_pos hlt] at hr;cases hr;rw [qkA,h.mem j _ hl v,qpA];constructor
   ·rintro (⟨y,hy,e⟩|e)
    ·exact ⟨y,List.mem_append_left _ hy,e⟩
    ·exact ⟨x,qaC _ (by simp),hp,hj,e.symm⟩
   ·rintro ⟨y,hy,e⟩;rcases qkA.mp hy with hy|hy
    ·exact .inl ⟨y,hy,e⟩
    ·cases qpA.mp hy;exact .inr e.2.2.symm
  ·rw [if_neg hk] at hr;rw [h.mem k r hr v];constructor
   ·rintro ⟨y,hy,e⟩;exact ⟨y,List.mem_append_left _ hy,e⟩
   ·rintro ⟨y,hy,e⟩;rcases qkA.mp hy with hy|hy
    ·exact ⟨y,hy,e⟩
    ·cases qpA.mp hy;have:=e.2.1;omega
 ·have:=RA (l':=ls[j]++[g x]) hl;have:=h.sum;simp only [qfA,qhA] at *;omega
theorem laid0 {α:Type}{N:Nat}{xs:List α}{p:α->Bool}{f g:α->Int}:Laid ((List.range N).map fun _=>([]:List Int)) N xs 0 p f g:=by
 refine ⟨by simp,fun k r hr v=>?_,?_⟩
 ·have:r=[]:=by
   have:=qtA hr;obtain ⟨_,_,e⟩:=qnA.mp this;exact e.symm
  subst this;simp
 ·have:∀ l:List Nat,((l.map fun _=>([]:List Int)).map List.length).sum=0:=by
   intro l
   induction l with
   | nil=>rfl
   | cons a l ih=>simpa using ih
  rw [this];exact qfB 0
theorem Ie {N:Nat}:((List.range N).map fun (i:Nat)=>(0:Int)+(i:Int)).map (fun _=>([]:List Int))=(List.range N).map fun _=>([]:List Int):=by
 rw [List.map_map]
 rfl
theorem Qk {n:Net}(hn:NetW n):OK (EF n) fun l=>Adj l n.a.toNat (Ed n.b) n.b.length:=by
 have hs:sizeLine=16777216:=qoB;have h0:=hn.a0;have h1:=hn.a1;have hl:=hn.l;obtain ⟨N,hN⟩:=qrB h0;unfold EF;simp only [qpB,Ag,Ab];refine AB (Eb (n:=N) (by omega) (by omega) (by omega) ?_);rw [Ie];refine AB (BP (fun i ls=>Laid ls N n.b i (fun _=>true) (fun w=>w.a) (fun w=>w.b)) laid0 (fun i w ls hw h=>?_) fun ls h=>AD ⟨by rw [h.len];omega,fun k r hr v=>?_,fun k r hr v hv=>?_,h.sum⟩)
 ·have hi:=(quA.mp hw).1;have:=(hn.w w (qtA hw)).1;exact AB ((h.step hw rfl this.1 (by omega) (by omega)).mono fun ls' h'=>AD ⟨ls',rfl,h'⟩)
 ·rw [h.mem k r hr v,List.take_length];constructor
  ·rintro ⟨w,hw,_,e1,e2⟩;exact ⟨w,hw,e1,e2⟩
  ·rintro ⟨w,hw,e1,e2⟩;exact ⟨w,hw,rfl,e1,e2⟩
 ·rw [h.mem k r hr v,List.take_length] at hv;obtain ⟨w,hw,_,e1,e2⟩:=hv;have:=(hn.w w hw).2;omega
theorem MW {n:Net}(hn:NetW n):OK (DC n) fun l=>Adj l n.a.toNat (Be n.b) n.b.length:=by
 have hs:sizeLine=16777216:=qoB;have h0:=hn.a0;have h1:=hn.a1;have hl:=hn.l;obtain ⟨N,hN⟩:=qrB h0;unfold DC;simp only [qpB,Ag,Ab];refine AB (Eb (n:=N) (by omega) (by omega) (by omega) ?_);rw [Ie];refine AB (BP (fun i ls=>Laid ls N n.b i (fun _=>true) (fun w=>w.b) (fun w=>w.a)) laid0 (fun i w ls hw h=>?_) fun ls h=>AD ⟨by rw [h.len];omega,fun k r hr v=>?_,fun k r hr v hv=>?_,h.sum⟩)
 ·have hi:=(quA.mp hw).1;have:=(hn.w w (qtA hw)).2;exact AB ((h.step hw rfl this.1 (by omega) (by omega)).mono fun ls' h'=>AD ⟨ls',rfl,h'⟩)
 ·rw [h.mem k r hr v,List.take_length];constructor
  ·rintro ⟨w,hw,_,e1,e2⟩;exact ⟨w,hw,e1,e2⟩
  ·rintro ⟨w,hw,e1,e2⟩;exact ⟨w,hw,rfl,e1,e2⟩
 ·rw [h.mem k r hr v,List.take_length] at hv;obtain ⟨w,hw,_,e1,e2⟩:=hv;have:=(hn.w w hw).1;omega
theorem ok_atZ {α:Type}{l:List α}{i:Int}{P:α->Prop}(h0:0<=i)(h1:i<l.length)(h:∀ (k:Nat) x,i=k->l[k]? = some x->P x):OK (atI l i) P:=by
 obtain ⟨k,rfl⟩:=qrB h0;exact Br (by omega) fun x hx=>h k x rfl hx
theorem Bz {α:Type}[DecidableEq α]:∀ {l m:List α},l.Nodup->(∀ x∈l,x∈m)->l.length<=m.length
 | [],_,_,_=>qeC _
 | a::l,m,nd,h=>by
  have ⟨h1,h2⟩:=List.nodup_cons.mp nd
  have:=Bz (l:=l) (m:=m.erase a) h2 fun x hx=>by
   have ne:x≠a:=fun e=>h1 (e ▸ hx);exact (List.mem_erase_of_ne ne).mpr (h x (qrA _ hx))
  have hm:a∈m:=h a (qqA ..);rw [List.length_erase_of_mem hm] at this;have:=List.length_pos_of_mem hm;rw [qgA];omega
def lft:List (List Int)->List Int->Nat
 | r::ls,t::ts=>(r.length - t.toNat)+lft ls ts
 | _,_=>0
theorem RM:∀ {ls:List (List Int)}{ts:List Int}{j:Nat}{r:List Int}{t:Int},ls[j]? = some r->ts[j]? = some t->0<=t->t<r.length->lft ls (ts.set j (t+1))+1=lft ls ts
 | [],_,_,_,_,h,_,_,_=>by simp at h
 | _::_,[],_,_,_,_,h,_,_=>by simp at h
 | x::ls,y::ts,0,r,t,h1,h2,h3,h4=>by
  simp at h1 h2;subst h1;subst h2;rw [List.set_cons_zero];unfold lft;omega
 | x::ls,y::ts,j+1,r,t,h1,h2,h3,h4=>by
  have:=RM (ls:=ls) (ts:=ts) (j:=j) (by simpa using h1) (by simpa using h2) h3 h4;rw [List.set_cons_succ];unfold lft;omega
theorem lft_le:∀ (ls:List (List Int)) (ts:List Int),lft ls ts<=(ls.map List.length).sum
 | [],_=>qeC _
 | _::_,[]=>qeC _
 | r::ls,t::ts=>by
  have:=lft_le ls ts;unfold lft;rw [qaB,List.sum_cons];omega
def Fin (E:Int->Int->Prop)(order:List Int):Prop:=∀ p x s,order=p++x::s->∀ u v,(u∈p\/u=x)->E u v->v∈p\/v=x\/Rch E v x
structure Dfs (ls:List (List Int))(N:Nat)(E:Int->Int->Prop)(seen:List Bool)(tried:List Int)(order path:List Int):Prop where
 sl:seen.length=N
 tl:tried.length=N
 tr:∀ (k:Nat) t,tried[k]? = some t->0<=t/\∀ r,ls[k]? = some r->t<=r.length
 rg:∀ u,u∈order\/u∈path->0<=u/\u<N
 sn:∀ (k:Nat) b,seen[k]? = some b->(b=true ↔ ((k:Int)∈order\/(k:Int)∈path))
 nd:(order++path).Nodup
 od:∀ u∈order,∀ v,E u v->v∈order\/v∈path
 pt:∀ (k:Nat) r t,(k:Int)∈path->ls[k]? = some r->tried[k]? = some t->∀ v∈r.take t.toNat,v∈order\/v∈path
 ch:path.Pairwise (Rch E)
 fn:Fin E order
section
variable {ls:List (List Int)}{N M:Nat}{E:Int->Int->Prop}{seen:List Bool}{tried order path:List Int}
theorem Dfs.pop {k:Nat}{r:List Int}(A:Adj ls N E M)(h:Dfs ls N E seen tried order (path++[(k:Int)]))(hr:ls[k]? = some r)(ht:tried[k]? = some (r.length:Int)):Dfs ls N E seen tried (order++[(k:Int)]) path:=by
 have out:∀ u,u∈order\/u=(k:Int)->∀ v,E u v->v∈order\/v∈path++[(k:Int)]:=by
  rintro u (hu|rfl) v e
  ·exact h.od u hu v e
  ·refine h.pt k r _ (by simp) hr ht v ?_;rw [qqB,List.take_length];exact (A.mem k r hr v).mpr e
 have mv:∀ u,(u∈order\/u∈path++[(k:Int)]) ↔ (u∈order++[(k:Int)]\/u∈path):=fun u=>by
  simp only [qkA,qpA];constructor
  ·rintro (h|h|h)
   ·exact .inl (.inl h)
   ·exact .inr h
   ·exact .inl (.inr h)
  ·rintro ((h|h)|h)
   ·exact .inl h
   ·exact .inr (.inr h)
   ·exact .inr (.inl h)
 refine ⟨h.sl,h.tl,h.tr,fun u hu=>h.rg u ((mv u).mpr hu),fun j b hj=>(h.sn j b hj).trans (mv j),?_,?_,?_,(List.pairwise_append.mp h.ch).1,?_⟩
 ·have:=h.nd
  have pm:(order++[(k:Int)]++path).Perm (order++(path++[(k:Int)])):=by
   rw [qcB];exact List.Perm.append_left _ List.perm_append_comm
  exact pm.nodup_iff.mpr this
 ·intro u hu v e;refine (mv v).mp (out u ?_ v e);rcases qkA.mp hu with hu|hu
  ·exact .inl hu
  ·exact .inr (qpA.mp hu)
 ·intro j r' t hj hr' ht' v hv;exact (mv v).mp (h.pt j r' t (List.mem_append_left _ hj) hr' ht' v hv)
 ·intro p x s hs u v hu e;rcases List.eq_nil_or_concat s with rfl | ⟨s',y,rfl⟩
  ·obtain ⟨rfl,hx⟩:=List.append_inj' hs rfl;cases hx;rcases out u hu v e with hv|hv
   ·exact .inl hv
   ·rcases qkA.mp hv with hv|hv
    ·exact .inr (.inr ((List.pairwise_append.mp h.ch).2.2 v hv _ (by simp)))
    ·exact .inr (.inl (qpA.mp hv))
  ·have hs':order++[(k:Int)]=(p++x::s')++[y]:=by rw [hs,qcB,List.concat_eq_append];rfl
   obtain ⟨ho,_⟩:=List.append_inj' hs' rfl;exact h.fn p x s' ho u v hu e
theorem Dfs.step {k:Nat}{r:List Int}{t:Nat}{o:Int}(A:Adj ls N E M)(h:Dfs ls N E seen tried order (path++[(k:Int)]))(hr:ls[k]? = some r)(ht:tried[k]? = some (t:Int))(ho:r[t]? = some o)(hs:o∈order\/o∈path++[(k:Int)]) :
  Dfs ls N E seen (tried.set k ((t:Int)+1)) order (path++[(k:Int)]):=by
 have hlt:=(quA.mp ho).1;have hk:=(quA.mp ht).1;refine ⟨h.sl,by rw [List.length_set];exact h.tl,fun j t' hj=>?_,h.rg,h.sn,h.nd,h.od,fun j r' t' hj hr' ht' v hv=>?_,h.ch,h.fn⟩
 ·rw [List.getElem?_set] at hj;by_cases e:k=j
  ·subst e;rw [if_pos rfl,if_pos hk] at hj;cases hj;refine ⟨by omega,fun r' hr'=>?_⟩;rw [hr] at hr';cases hr';omega
  ·rw [if_neg e] at hj;exact h.tr j t' hj
 ·rw [List.getElem?_set] at ht';by_cases e:k=j
  ·subst e;rw [if_pos rfl,if_pos hk] at ht';cases ht';rw [hr] at hr';cases hr';have:((t:Int)+1).toNat=t+1:=by omega
   rw [this,List.take_add_one,ho] at hv;rcases qkA.mp hv with hv|hv
   ·exact h.pt k r t (by simp) hr ht v (by rw [qqB];exact hv)
   ·cases qpA.mp hv;exact hs
  ·rw [if_neg e] at ht';exact h.pt j r' t' hj hr' ht' v hv
theorem Dfs.push {k:Nat}{o:Nat}(A:Adj ls N E M)(h:Dfs ls N E seen tried order path)(hp:∀ x,path.getLast? = some x->E x (o:Int))(ho:seen[o]? = some false)(ht:tried[o]? = some 0):Dfs ls N E (seen.set o true) tried order (path++[(o:Int)]):=by
 have hlt:=(quA.mp ho).1
 have hno:¬((o:Int)∈order\/(o:Int)∈path):=fun z=>by
  have:=(h.sn o false ho).mpr z;cases this
 have mv:∀ u,(u∈order\/u∈path)->(u∈order\/u∈path++[(o:Int)]):=fun u hu=>hu.imp id (List.mem_append_left _);refine ⟨by rw [List.length_set];exact h.sl,h.tl,h.tr,?_,fun j b hj=>?_,?_,fun u hu v e=>mv v (h.od u hu v e),?_,?_,h.fn⟩
 ·rintro u (hu|hu)
  ·exact h.rg u (.inl hu)
  ·rcases qkA.mp hu with hu|hu
   ·exact h.rg u (.inr hu)
   ·cases qpA.mp hu;have:=h.sl;omega
 ·rw [List.getElem?_set] at hj;by_cases e:o=j
  ·subst e;rw [if_pos rfl,if_pos hlt] at hj;cases hj;simp
  ·rw [if_neg e] at hj;rw [h.sn j b hj,qkA,qpA];constructor
   ·exact fun hu=>hu.imp id .inl
   ·rintro (hu|hu|hu)
    ·exact .inl hu
    ·exact .inr hu
    ·omega
 ·rw [<- qcB];refine qeB.mpr ⟨h.nd,by simp,fun a ha b hb z=>?_⟩;cases qpA.mp hb;subst z;exact hno (qkA.mp ha)
 ·intro j r t hj hr ht' v hv;rcases qkA.mp hj with hj|hj
  ·exact mv v (h.pt j r t hj hr ht' v hv)
  ·have hj:=qpA.mp hj;have e:j=o:=by omega
   subst e;rw [ht] at ht';cases ht';simp at hv
 ·refine List.pairwise_append.mpr ⟨h.ch,by simp,fun a ha b hb=>?_⟩;cases qpA.mp hb;rcases List.eq_nil_or_concat path with hn | ⟨q,x,hq⟩
  ·rw [hn] at ha;cases ha
  ·rw [List.concat_eq_append] at hq;subst hq;have e:=hp x (by simp);rcases qkA.mp ha with ha|ha
   ·exact .tail ((List.pairwise_append.mp h.ch).2.2 a ha x (by simp)) e
   ·cases qpA.mp ha;exact .one e
end
theorem QN {ls:List (List Int)}{N M:Nat}{E:Int->Int->Prop}(A:Adj ls N E M)(hN:N<=10000)(hM:M<=100000):OK (CH ls) fun order=>order.Nodup/\(∀ u,u∈order ↔ 0<=u/\u<N)/\Fin E order:=by
 have hs:sizeLine=16777216:=qoB;have hlen:=A.len;unfold CH;simp only [qpB,Ag,Ab];refine AB (F5 (g:=fun _=>false) (fun _ _=>rfl) (AB (F5 (g:=fun _=>(0:Int)) (fun _ _=>rfl) ?_)));refine AB (Eb (n:=N) (by omega) (by omega) (by omega) ?_);refine AB (BP (fun i (s:List Bool × List Int × List Int)=>Dfs ls N E s.1 s.2.1 s.2.2 []/\(∀ j:Nat,j<i->(j:Int)∈s.2.2)/\∀ j:Nat,s.1[j]? = some false->s.2.1[j]? = some 0) ⟨⟨by simp [hlen],by simp [hlen],?_,?_,?_,by simp,?_,?_,by simp,?_⟩,?_,?_⟩ (fun i a s ha hI=>?_) fun s hI=>AD ⟨?_,?_,hI.1.fn⟩)
 ·intro k t hk;obtain ⟨_,_,e⟩:=qnA.mp (qtA hk);subst e;exact ⟨by omega,fun r _=>by omega⟩
 ·rintro u (h|h)<;>cases h
 ·intro k b hk;obtain ⟨_,_,e⟩:=qnA.mp (qtA hk);subst e;simp
 ·intro u hu;cases hu
 ·intro k r t hk;cases hk
 ·intro p x s h;have:=congrArg List.length h;simp at this
 ·intro j hj;omega
 ·intro j hj;have:=(quA.mp hj).1;rw [qeA] at this;rw [qzA,qvA this]
  rfl
 ·obtain ⟨hi,rfl⟩:i<N/\(0:Int)+(i:Int)=a:=by
   have:=quA.mp ha
   simpa using this
  obtain ⟨hD,hdone,hfr⟩:=hI;rw [Int.zero_add];have hsl:=hD.sl;refine AB (Br (by omega) fun b hb=>?_)
  have start:OK (cond b (some ([]:List Int)) (some [(i:Int)])) fun path=>Dfs ls N E (s.1.set i true) s.2.1 s.2.2 path/\(∀ j:Nat,(s.1.set i true)[j]? = some false->s.2.1[j]? = some 0)/\path.length<=1/\((i:Int)∈s.2.2\/(i:Int)∈path):=by
   have fr2:∀ j:Nat,(s.1.set i true)[j]? = some false->s.2.1[j]? = some 0:=fun j hj=>by
    rw [List.getElem?_set] at hj;by_cases e:i=j
    ·rw [if_pos e,if_pos (by omega)] at hj;cases hj
    ·rw [if_neg e] at hj;exact hfr j hj
   cases b with
   | true =>
    refine AD ⟨?_,fr2,by simp,?_⟩
    ·have:s.1.set i true=s.1:=by
      apply List.ext_getElem?;intro j;rw [List.getElem?_set];by_cases e:i=j
      ·subst e;rw [if_pos rfl,if_pos (by omega),hb]
      ·rw [if_neg e]
     rw [this];exact hD
    ·have:=(hD.sn i true hb).mp rfl;exact this.elim .inl fun z=>nomatch z
   | false =>
    refine AD ⟨?_,fr2,by simp,.inr (by simp)⟩;have:=hD.push (k:=0) A (o:=i) (fun x hx=>by simp at hx) hb (hfr i hb)
    simpa using this
  refine AB (start.mono fun path hst=>?_);obtain ⟨hD1,hfr1,hpl,hip⟩:=hst;refine AB (FX (by omega) ?_);refine AB (HX (fun (z:List Bool × List Int × List Int × List Int)=>Dfs ls N E z.1 z.2.1 z.2.2.1 z.2.2.2/\(∀ j:Nat,z.1[j]? = some false->z.2.1[j]? = some 0)/\((i:Int)∈z.2.2.1\/(i:Int)∈z.2.2.2)/\∀ u∈s.2.2,u∈z.2.2.1) (fun _=>False) (fun _=>False) (fun z=>2 * lft ls z.2.1+z.2.2.2.length) ⟨hD1,hfr1,hip,fun u hu=>hu⟩ ?_ (fun z hz=>?_) (fun _ h=>h.elim) fun _ h=>h.elim)
  ·have h1:=lft_le ls s.2.1;have h2:=A.sum
   try dsimp only
   omega
  ·obtain ⟨hz,hzf,hzi,hzo⟩:=hz;refine AD ?_;by_cases hp0:z.2.2.2=[]
   ·rw [if_neg (by rw [hp0];simp)];refine AD ⟨_,rfl,by rw [hp0] at hz;exact hz,fun j hj=>?_,hzf⟩;by_cases e:j=i
    ·subst e;rw [hp0] at hzi;exact hzi.elim id fun z=>nomatch z
    ·exact hzo _ (hdone j (by omega))
   ·rw [if_pos (by rw [decide_eq_true_iff];have:=List.length_pos_iff.mpr hp0;omega)];have pe:z.2.2.2=z.2.2.2.dropLast++[z.2.2.2.getLast hp0]:=(List.dropLast_concat_getLast hp0).symm;refine AB (ok_last hp0 ?_);have hrx:=hz.rg (z.2.2.2.getLast hp0) (.inr (List.getLast_mem hp0));generalize z.2.2.2.getLast hp0=x at pe hrx;generalize z.2.2.2.dropLast=q at pe;obtain ⟨k,rfl⟩:=qrB hrx.1;have hk:k<N:=by omega
    have htl:=hz.tl;have hzl:=hz.sl;refine AB (Br (by omega) fun t ht=>AB (Br (by omega) fun r hr=>?_));have ⟨ht0,htr⟩:=hz.tr k t ht;have htr:=htr r hr;obtain ⟨t,rfl⟩:=qrB ht0;rw [pe] at hz;refine AZ (fun hb=>?_) fun hb=>?_
    ·have e:(t:Int)=(r.length:Int):=of_decide_eq_true hb;rw [e] at ht
     have hpop:MI z.2.2.2=some ((k:Int),q):=by
      rw [pe,Kt (by simp)];simp
     rw [hpop];simp only [Ag]
     have ho:z.2.2.1.length<sizeLine:=by
      have:=hz.nd
      have hb:z.2.2.1.length<=N:=by
       have nd1:=(qeB.mp this).1
       have sub:∀ u∈z.2.2.1,u∈(List.range N).map fun (i:Nat)=>(i:Int):=fun u hu=>by
        have:=hz.rg u (.inl hu);exact qnA.mpr ⟨u.toNat,by rw [qsA];omega,by omega⟩
       have:=Bz nd1 sub
       simpa using this
      omega
     refine AB (DO ho (AD ⟨⟨hz.pop A hr ht,hzf,?_,fun u hu=>List.mem_append_left _ (hzo u hu)⟩,?_⟩))
     ·try dsimp only
      rcases hzi with h|h
      ·exact .inl (List.mem_append_left _ h)
      ·rw [pe] at h;rcases qkA.mp h with h|h
       ·exact .inr h
       ·exact .inl (qaC _ h)
     ·try dsimp only
      rw [pe,qfA,qhA];omega
    ·have ne:¬(t:Int)=(r.length:Int):=of_decide_eq_false hb;have hlt:t<r.length:=by omega
     refine AB (Br (by omega) fun r' hr'=>AB (Br (by omega) fun t' ht'=>?_));rw [hr] at hr';cases hr';rw [ht] at ht';cases ht';refine AB (Br hlt fun o ho=>?_);have hor:=A.rng k r hr o (qtA ho);have hoe:E k o:=(A.mem k r hr o).mp (qtA ho);obtain ⟨o,rfl⟩:=qrB hor.1;refine AB (Br (by omega) fun t' ht'=>AB (FX (by omega) ?_));rw [ht] at ht';cases ht';refine AB (Br (by omega) fun sb hsb=>?_);have hl:=RM (ls:=ls) (ts:=z.2.1) hr ht (by omega) (by omega);refine AZ (fun hb=>?_) fun hb=>?_
     ·have sb0:sb=false:=by cases sb<;>simp at hb ⊢
      subst sb0;refine AB (FX (by omega) (AB (DO ?_ (AD ⟨⟨?_,?_,?_,hzo⟩,?_⟩))))
      ·have nd1:=(qeB.mp hz.nd).2.1
       have sub:∀ u∈q++[(k:Int)],u∈(List.range N).map fun (i:Nat)=>(i:Int):=fun u hu=>by
        have:=hz.rg u (.inr hu);exact qnA.mpr ⟨u.toNat,by rw [qsA];omega,by omega⟩
       have:=Bz nd1 sub;rw [pe];simp only [qeA,qiA] at this;omega
      ·
       have kn:k≠o:=fun e=>by
        subst e;have:=(hz.sn k false hsb).mpr (.inr (by simp));cases this
       have h1:=hz.push (k:=0) A (o:=o) (fun x hx=>by
        rw [List.getLast?_concat] at hx;cases hx
        exact hoe) hsb (hzf o hsb)
       rw [pe]
       try dsimp only
       refine ⟨h1.sl,by rw [List.length_set];exact h1.tl,fun j t' hj=>?_,h1.rg,h1.sn,h1.nd,h1.od,fun j r' t' hj hr' ht' v hv=>?_,h1.ch,h1.fn⟩
       ·rw [List.getElem?_set] at hj;by_cases e:k=j
        ·subst e;rw [if_pos rfl,if_pos (by omega)] at hj;cases hj;refine ⟨by omega,fun r' hr'=>?_⟩;rw [hr] at hr';cases hr';omega
        ·rw [if_neg e] at hj;exact h1.tr j t' hj
       ·rw [List.getElem?_set] at ht';by_cases e:k=j
        ·subst e;rw [if_pos rfl,if_pos (by omega)] at ht';cases ht';rw [hr] at hr';cases hr';have e1:((t:Int)+1).toNat=t+1:=by omega
         rw [e1,List.take_add_one,ho] at hv;rcases qkA.mp hv with hv|hv
         ·exact h1.pt k r t hj hr ht v (by rw [qqB];exact hv)
         ·cases qpA.mp hv;exact .inr (by simp)
        ·rw [if_neg e] at ht';exact h1.pt j r' t' hj hr' ht' v hv
      ·intro j hj
       try dsimp only at hj ⊢
       rw [List.getElem?_set] at hj;by_cases e:o=j
       ·rw [if_pos e,if_pos (by omega)] at hj;cases hj
       ·rw [if_neg e] at hj;have:=hzf j hj;rw [List.getElem?_set];by_cases e2:k=j
        ·subst e2;exfalso;have:=(hz.sn k false hj).mpr (.inr (by simp));cases this
        ·rw [if_neg e2];exact this
      ·try dsimp only
       exact hzi.imp id (List.mem_append_left _)
      ·try dsimp only
       rw [qfA,qhA];omega
     ·have sb1:sb=true:=by cases sb<;>simp at hb ⊢
      subst sb1;refine AD ⟨⟨?_,?_,hzi,hzo⟩,?_⟩
      ·try dsimp only
       rw [pe];exact hz.step A hr ht ho ((hz.sn o true hsb).mp rfl)
      ·intro j hj
       try dsimp only at hj ⊢
       rw [List.getElem?_set];by_cases e2:k=j
       ·subst e2;exfalso;have:=(hz.sn k false hj).mpr (.inr (by simp));cases this
       ·rw [if_neg e2];exact hzf j hj
      ·try dsimp only
       omega
 ·have:=hI.1.nd
  rwa [qdB] at this
 ·intro u;constructor
  ·intro hu;exact hI.1.rg u (.inl hu)
  ·intro hu;have h2:=hI.2.1;simp only [qeA,qiA] at h2;have:=h2 u.toNat (by omega)
   rwa [Int.toNat_of_nonneg hu.1] at this
def kt (kn:List (Option Int))(u:Int):Option Int:=if 0<=u then (kn[u.toNat]?).bind id else none
theorem kt_in {kn:List (Option Int)}{u:Int}(h:kt kn u≠none):0<=u/\u<kn.length:=by
 unfold kt at h;by_cases h0:0<=u
 ·rw [if_pos h0] at h;refine ⟨h0,?_⟩;apply Classical.byContradiction;intro hc;rw [qyA (by omega)] at h;exact h rfl
 ·rw [if_neg h0] at h;exact absurd rfl h
theorem Na {kn:List (Option Int)}{u x:Int}(h:kt kn u=some x):0<=u/\u<kn.length:=kt_in (by rw [h];exact fun z=>nomatch z)
theorem GV {kn:List (Option Int)}{k:Nat}{x:Option Int}(h:kn[k]? = some x):kt kn (k:Int)=x:=by
 unfold kt;rw [if_pos (by omega),qqB,h]
 rfl
theorem FL {kn:List (Option Int)}{j:Nat}{x:Option Int}{u:Int}(hj:j<kn.length):kt (kn.set j x) u=if u=j then x else kt kn u:=by
 unfold kt;rw [List.getElem?_set];by_cases e:u=j
 ·subst e;rw [qqB,if_pos (by omega),if_pos rfl,if_pos hj,if_pos rfl]
  rfl
 ·rw [if_neg e];by_cases h0:0<=u
  ·rw [if_pos h0,if_pos h0,if_neg (by omega)]
  ·rw [if_neg h0,if_neg h0]
def Hi (kn:List (Option Int)):Nat:=(kn.filter Option.isNone).length
theorem MV {kn:List (Option Int)}{j:Nat}{c:Int}(h:kn[j]? = some none):Hi (kn.set j (some c))+1=Hi kn:=by
 induction kn generalizing j with
 | nil=>simp at h
 | cons x kn ih =>
  cases j with
  | zero =>
   simp at h;subst h;simp [Hi]
  | succ j =>
   have:=ih (j:=j) (by simpa using h);unfold Hi at this ⊢;rw [List.set_cons_succ,List.filter_cons,List.filter_cons];split<;>(try simp only [qgA])<;>omega
theorem Lw (kn:List (Option Int)):Hi kn<=kn.length:=List.length_filter_le _ _
structure Numb (N:Nat)(E:Int->Int->Prop)(k0:List (Option Int))(b c:Int)(kn:List (Option Int))(P:Int->Prop):Prop where
 len:kn.length=N
 old:∀ (u x:Int),kt k0 u=some x->kt kn u=some x
 new:∀ u:Int,0<=u->u<N->kt k0 u=none->kt kn u=none\/(kt kn u=some c/\Rch E b u)
 beg:kt kn b≠none
 cl:∀ u v:Int,kt kn u≠none->E u v->kt kn v≠none\/P u
theorem numb_ok {ls:List (List Int)}{N M:Nat}{E:Int->Int->Prop}(A:Adj ls N E M)(hN:N<=10000){k0:List (Option Int)}(h0:k0.length=N){b c:Int}(hb:0<=b/\b<N)(hbn:kt k0 b=none)(hc:∀ u v:Int,kt k0 u≠none->E u v->kt k0 v≠none) :
  OK (D0 k0 ls b c) fun kn=>Numb N E k0 b c kn fun _=>False:=by
 have hs:sizeLine=16777216:=qoB;have hlen:=A.len;obtain ⟨b,rfl⟩:=qrB hb.1;unfold D0;simp only [qpB,Ag,Ab];have hbl:b<k0.length:=by omega
 have hb0:k0[b]? = some none:=by
  have e:=qvA hbl;rw [GV e] at hbn;rw [e,hbn]
 refine AB (FX hbl ?_);refine AB (HX (fun (z:List (Option Int) × List Int)=>Numb N E k0 b c z.1 (fun u=>u∈z.2)/\(∀ u∈z.2,0<=u/\u<N/\Rch E b u)/\z.2.length+Hi z.1<=N) (fun _=>False) (fun _=>False) (fun z=>2 * Hi z.1+z.2.length) ⟨⟨by rw [List.length_set];exact h0,?_,?_,?_,?_⟩,?_,?_⟩ ?_ (fun z hz=>?_) (fun _ h=>h.elim) fun _ h=>h.elim)
 ·intro u x e
  try dsimp only
  rw [FL hbl];by_cases hub:u=(b:Int)
  ·rw [hub,hbn] at e;cases e
  ·rw [if_neg hub];exact e
 ·intro u hu _ e
  try dsimp only
  rw [FL hbl];by_cases hub:u=(b:Int)
  ·rw [if_pos hub,hub];exact .inr ⟨rfl,.refl _⟩
  ·rw [if_neg hub];exact .inl e
 ·try dsimp only
  rw [FL hbl,if_pos rfl];exact fun z=>nomatch z
 ·intro u v e ev
  try dsimp only at e ⊢
  by_cases hub:u=(b:Int)
  ·exact .inr (by simp [hub])
  ·rw [FL hbl,if_neg hub] at e;have hv:=hc u v e ev;refine .inl ?_;rw [FL hbl];split
   ·exact fun z=>nomatch z
   ·exact hv
 ·intro u hu;cases qpA.mp hu;exact ⟨by omega,by omega,.refl _⟩
 ·have h1:=MV (c:=c) hb0;have h2:=Lw k0
  try dsimp only
  rw [qhA];omega
 ·have:=Lw (k0.set b (some c));rw [List.length_set] at this
  try dsimp only
  rw [qhA];omega
 ·obtain ⟨hz,hl,hll⟩:=hz;refine AD ?_;by_cases hp0:z.2=[]
  ·rw [if_neg (by rw [hp0];simp)];refine AD ⟨hz.len,hz.old,hz.new,hz.beg,fun u v h3 h4=>?_⟩;have:=hz.cl u v h3 h4;rw [hp0] at this;exact this.imp id fun z=>nomatch z
  ·rw [if_pos (by rw [decide_eq_true_iff];have:=List.length_pos_iff.mpr hp0;omega)];have pe:z.2=z.2.dropLast++[z.2.getLast hp0]:=(List.dropLast_concat_getLast hp0).symm;rw [Kt hp0];simp only [Ag];have hx:=hl (z.2.getLast hp0) (List.getLast_mem hp0);generalize z.2.getLast hp0=x at pe hx;generalize z.2.dropLast=q at pe;obtain ⟨hx0,hx1,hxr⟩:=hx;obtain ⟨k,rfl⟩:=qrB hx0;refine AB (Br (by omega) fun r hr=>?_);have hql:q.length+1=z.2.length:=by rw [pe];simp
   refine AB (BP (fun i (y:List (Option Int) × List Int)=>Numb N E k0 b c y.1 (fun u=>u∈y.2\/u=(k:Int))/\(∀ u∈y.2,0<=u/\u<N/\Rch E b u)/\(∀ v∈r.take i,kt y.1 v≠none)/\2 * Hi y.1+y.2.length<=2 * Hi z.1+q.length/\y.2.length+Hi y.1=q.length+Hi z.1) ⟨⟨hz.len,hz.old,hz.new,hz.beg,fun u v h3 h4=>?_⟩,fun u hu=>hl u (by rw [pe];exact List.mem_append_left _ hu),fun v hv=>by simp at hv,qfB _,rfl⟩ (fun i a y ha hI=>?_) fun y hI=>AD ⟨⟨⟨hI.1.len,hI.1.old,hI.1.new,hI.1.beg,fun u v h3 h4=>?_⟩,hI.2.1,?_⟩,?_⟩)
   ·have:=hz.cl u v h3 h4;rw [pe] at this;refine this.imp id fun hu=>?_;rcases qkA.mp hu with hu|hu
    ·exact .inl hu
    ·exact .inr (qpA.mp hu)
   ·obtain ⟨hy,hyl,hyt,hym,hys⟩:=hI;have har:=A.rng k r hr a (qtA ha);have hae:=(A.mem k r hr a).mp (qtA ha);obtain ⟨a,rfl⟩:=qrB har.1;have hyll:=hy.len;have hal:a<y.1.length:=by omega
    refine AB (Br hal fun t ht=>?_);refine AZ (fun hb'=>?_) fun hb'=>?_
    ·have:t=none:=by cases t<;>simp at hb' ⊢
     subst this;have hnn:=MV (c:=c) ht
     have hqn:y.2.length<sizeLine:=by
      have:=Lw z.1;have:=hz.len;omega
     refine AB (FX hal (AB (DO hqn (AD ⟨_,rfl,⟨by rw [List.length_set];exact hyll,?_,?_,?_,?_⟩,?_,?_,?_,?_⟩))))
     ·intro u x e
      try dsimp only
      rw [FL hal];by_cases hua:u=(a:Int)
      ·have:=hy.old u x e;rw [hua,GV ht] at this;cases this
      ·rw [if_neg hua];exact hy.old u x e
     ·intro u hu hu2 e
      try dsimp only
      rw [FL hal];by_cases hua:u=(a:Int)
      ·rw [if_pos hua,hua];exact .inr ⟨rfl,.tail hxr hae⟩
      ·rw [if_neg hua];exact hy.new u hu hu2 e
     ·try dsimp only
      rw [FL hal];split
      ·exact fun z=>nomatch z
      ·exact hy.beg
     ·intro u v h3 h4
      try dsimp only at h3 ⊢
      by_cases hua:u=(a:Int)
      ·exact .inr (.inl (by rw [hua];simp))
      ·rw [FL hal,if_neg hua] at h3;rcases hy.cl u v h3 h4 with h|h|h
       ·refine .inl ?_;rw [FL hal];split
        ·exact fun z=>nomatch z
        ·exact h
       ·exact .inr (.inl (List.mem_append_left _ h))
       ·exact .inr (.inr h)
     ·intro u hu;rcases qkA.mp hu with hu|hu
      ·exact hyl u hu
      ·cases qpA.mp hu;exact ⟨by omega,by omega,.tail hxr hae⟩
     ·intro v hv
      try dsimp only
      rw [FL hal];split
      ·exact fun z=>nomatch z
      ·rw [List.take_add_one,ha] at hv;rcases qkA.mp hv with hv|hv
       ·exact hyt v hv
       ·cases qpA.mp hv
        contradiction
     ·try dsimp only
      rw [qfA,qhA];omega
     ·try dsimp only
      rw [qfA,qhA];omega
    ·refine AD ⟨_,rfl,hy,hyl,fun v hv=>?_,hym,hys⟩;rw [List.take_add_one,ha] at hv;rcases qkA.mp hv with hv|hv
     ·exact hyt v hv
     ·cases qpA.mp hv
      try dsimp only
      rw [GV ht]
      cases t with
      | none=>simp at hb'
      | some t=>exact fun z=>nomatch z
   ·rcases hI.1.cl u v h3 h4 with h|h|h
    ·exact .inl h
    ·exact .inr h
    ·subst h;refine .inl (hI.2.2.1 v ?_);rw [List.take_length];exact (A.mem k r hr v).mpr h4
   ·try dsimp only
    have:=hI.2.2.2.2;omega
   ·try dsimp only
    have:=hI.2.2.2.1;omega
theorem ed_be {ws:List Way}{u v:Int}:Ed ws u v ↔ Be ws v u :=
 ⟨fun ⟨w,hw,e1,e2⟩=>⟨w,hw,e2,e1⟩,fun ⟨w,hw,e1,e2⟩=>⟨w,hw,e2,e1⟩⟩
theorem fin_back {E:Int->Int->Prop}{U:Int->Prop}{p s:List Int}{b:Int}(hf:Fin E (p++b::s))(nd:(p++b::s).Nodup)(hU:∀ u v,U u->E u v->U v)(hin:∀ u,U u->u∈p\/u=b) :
  ∀ (m:Nat) (p1 p2:List Int) x,p2.length<m->p=p1++x::p2->U x->Rch E x b->Rch E b x:=by
 intro m
 induction m with
 | zero=>intro p1 p2 x h;exact absurd h (Nat.not_lt_zero _)
 | succ m ih =>
  intro p1 p2 x hl hp hx hr
  have hbn:¬(b∈p1\/b=x):=fun h=>by
   subst hp
   have hb:b∈p1++x::p2:=by
    rcases h with h|h
    ·exact List.mem_append_left _ h
    ·rw [h];exact qaC _ (qqA ..)
   exact (qeB.mp nd).2.2 b hb b (qqA ..) rfl
  obtain ⟨u,v,h1,h2,h3,h4,h5⟩:=hr.exit (A:=fun u=>u∈p1\/u=x) (.inr rfl) hbn;have hv:U v:=hU u v (h1.closed hU hx) h3
  have hvx:Rch E v x:=by
   have:=hf p1 x (p2++b::s) (by rw [hp];simp) u v h2 h3;rcases this with h|h|h
   ·exact absurd (.inl h) h4
   ·exact absurd (.inr h) h4
   ·exact h
  rcases hin v hv with hvp|rfl
  ·rw [hp] at hvp;rcases qkA.mp hvp with h|h
   ·exact absurd (.inl h) h4
   ·rcases qmA.mp h with h|h
    ·exact absurd (.inr h) h4
    ·obtain ⟨q1,q2,hq⟩:=List.append_of_mem h;have:=ih (p1++x::q1) q2 v (by rw [hq,qfA,qgA] at hl;omega) (by rw [hp,hq];simp) hv h5;exact this.trans hvx
  ·exact hvx
structure Knots (n:Net)(kn:List (Option Int)):Prop where
 len:kn.length=n.a.toNat
 num:∀ u:Int,0<=u->u<n.a->∃ k:Nat,kt kn u=some (k:Int)/\(k:Int)<n.a
 fall:∀ w∈n.b,∀ i j,kt kn w.a=some i->kt kn w.b=some j->j<=i
 same:∀ u v k,kt kn u=some k->kt kn v=some k->Rch (Ed n.b) u v
structure KnI (n:Net)(N:Nat)(order:List Int)(i:Nat)(kn:List (Option Int))(m:Int):Prop where
 len:kn.length=N
 m0:0<=m
 m1:m<=i
 dn:∀ u∈order.reverse.take i,kt kn u≠none
 cl:∀ u v,kt kn u≠none->Ed n.b u v->kt kn v≠none
 lt:∀ u k,kt kn u=some k->0<=k/\k<m
 fall:∀ w∈n.b,∀ i j,kt kn w.a=some i->kt kn w.b=some j->j<=i
 same:∀ u v k,kt kn u=some k->kt kn v=some k->Rch (Ed n.b) u v
theorem OH {n:Net}(hn:NetW n):OK (Dm n) (Knots n):=by
 have hs:sizeLine=16777216:=qoB;have h0:=hn.a0;have h1:=hn.a1;have hl:=hn.l;obtain ⟨N,hN⟩:=qrB h0;have hNt:n.a.toNat=N:=by omega
 unfold Dm;simp only [qpB,Ag,Ab];refine B8 (MW hn) fun bl B=>?_;rw [hNt] at B;refine B8 (QN B (by omega) hl) fun order ⟨nd,hmem,hfin⟩=>?_;refine B8 (Qk hn) fun el A=>?_;rw [hNt] at A
 have hol:order.length=N:=by
  have nr:((List.range N).map fun (i:Nat)=>(i:Int)).Nodup:=by
   refine List.Pairwise.map _ ?_ List.nodup_range;intro a b h;show (a:Int)≠b;omega
  have l1:order.length<=((List.range N).map fun (i:Nat)=>(i:Int)).length:=Bz nd fun u hu=>by
   have h:=(hmem u).mp hu;exact qnA.mpr ⟨u.toNat,by rw [qsA];omega,by omega⟩
  have l2:((List.range N).map fun (i:Nat)=>(i:Int)).length<=order.length:=Bz nr fun u hu=>by
   obtain ⟨i,hi,rfl⟩:=qnA.mp hu;rw [qsA] at hi;exact (hmem _).mpr (by omega)
  simp only [qeA,qiA] at l1 l2;omega
 have edr:∀ u v,Ed n.b u v->(0<=u/\u<N)/\0<=v/\v<N:=by
  rintro u v ⟨w,hw,rfl,rfl⟩;have:=hn.w w hw;unfold N3 at this;omega
 refine AB (F5 (g:=fun _=>(none:Option Int)) (fun _ _=>rfl) ?_)
 have kz:∀ u,kt (order.map fun _=>(none:Option Int)) u=none:=fun u=>by
  unfold kt;split
  ·rw [qzA];cases order[u.toNat]?<;>rfl
  ·rfl
 refine AB (BP (fun i (s:List (Option Int) × Int)=>KnI n N order i s.1 s.2) ⟨by simp [hol],Int.le_refl _,Int.le_refl _,fun u hu=>by simp at hu,fun u v h=>absurd (kz u) h,fun u k h=>(by rw [kz u] at h;cases h),fun w _ i j h=>(by rw [kz] at h;cases h),fun u v k h=>(by rw [kz] at h;cases h)⟩ (fun i b s hb hI=>?_) fun s hI=>AD ⟨by rw [hI.len];exact hNt.symm,fun u hu hu2=>?_,hI.fall,hI.same⟩)
 ·have hbm:b∈order:=by
   have:=qtA hb
   simpa using this
  have hbr:=(hmem b).mp hbm;obtain ⟨b,rfl⟩:=qrB hbr.1;have q1:=hI.len;have hbl:b<s.1.length:=by omega
  have hm0:=hI.m0;have hm1:=hI.m1;refine AB (Br hbl fun t ht=>?_)
  have taken:∀ (s':List (Option Int)),(∀ u,kt s.1 u≠none->kt s' u≠none)->kt s' (b:Int)≠none->∀ u∈order.reverse.take (i+1),kt s' u≠none:=fun s' hk hbk u hu=>by
   rw [List.take_add_one,hb] at hu;rcases qkA.mp hu with hu|hu
   ·exact hk u (hI.dn u hu)
   ·cases qpA.mp hu;exact hbk
  refine AZ (fun hbn=>?_) fun hbn=>?_
  ·have:t=none:=by cases t<;>simp at hbn ⊢
   subst this;have ktb:=GV ht;refine AB ((numb_ok A (by omega) q1 (c:=s.2) ⟨by omega,by omega⟩ ktb hI.cl).mono fun kn R=>?_)
   have what:∀ u k,kt kn u=some k->kt s.1 u=some k\/(kt s.1 u=none/\k=s.2/\Rch (Ed n.b) b u):=fun u k h=>by
    have hin:=Na h;have:=R.len
    cases e:kt s.1 u with
    | some x =>
     have:=R.old u x e;rw [h] at this;exact .inl (by rw [this])
    | none =>
     rcases R.new u hin.1 (by omega) e with z | ⟨z,hr⟩
     ·rw [h] at z;cases z
     ·rw [h] at z;cases z;exact .inr ⟨rfl,rfl,hr⟩
   have keep:∀ u,kt s.1 u≠none->kt kn u≠none:=fun u h=>by
    cases e:kt s.1 u with
    | none=>exact absurd e h
    | some x =>
     rw [R.old u x e];exact fun z=>nomatch z
   have back:∀ x,kt s.1 x=none->0<=x->x<N->Rch (Ed n.b) b x->Rch (Ed n.b) x b:=by
    intro x hx hx0 hx1 hr;by_cases hxb:x=(b:Int)
    ·rw [hxb];exact .refl _
    have hsplit:∃ p s',order=p++(b:Int)::s'/\∀ u∈s',kt s.1 u≠none:=by
     have hi:=(quA.mp hb).1
     have hd:order.reverse=order.reverse.take i++(b:Int)::order.reverse.drop (i+1):=by
      have h1:=List.take_append_drop i order.reverse;have h2:=List.drop_eq_getElem_cons hi;have h3:=(quA.mp hb).2;rw [h3] at h2;rw [<- h2,h1]
     refine ⟨(order.reverse.drop (i+1)).reverse,(order.reverse.take i).reverse,?_,fun u hu=>hI.dn u (List.mem_reverse.mp hu)⟩;have:=congrArg List.reverse hd;rw [List.reverse_reverse,List.reverse_append,List.reverse_cons,qcB] at this;exact this
    obtain ⟨p,s',ho,hs'⟩:=hsplit
    have hin:∀ u,(kt s.1 u=none/\0<=u/\u<N)->u∈p\/u=(b:Int):=fun u ⟨hu,h0,h1⟩=>by
     have hu':=(hmem u).mpr ⟨h0,h1⟩;rw [ho] at hu';rcases qkA.mp hu' with h|h
     ·exact .inl h
     ·rcases qmA.mp h with h|h
      ·exact .inr h
      ·exact absurd hu (hs' u h)
    have hU:∀ u v,(kt s.1 u=none/\0<=u/\u<N)->Be n.b u v->(kt s.1 v=none/\0<=v/\v<N):=fun u v hu e=>by
     have e':=ed_be.mpr e;have:=edr _ _ e';refine ⟨?_,this.1⟩;apply Classical.byContradiction;intro hc;exact hI.cl v u hc e' hu.1
    have hxp:x∈p:=(hin x ⟨hx,hx0,hx1⟩).elim id fun z=>absurd z hxb;obtain ⟨p1,p2,hp⟩:=List.append_of_mem hxp;rw [ho] at hfin nd;have r1:Rch (Be n.b) x b:=hr.rev fun a b e=>ed_be.mp e;have:=fin_back hfin nd hU hin (p2.length+1) p1 p2 x (Nat.lt_succ_self _) hp ⟨hx,hx0,hx1⟩ r1;exact this.rev fun a b e=>ed_be.mpr e
   have lt':∀ u k,kt kn u=some k->0<=k/\k<s.2+1:=fun u k e=>by
    rcases what u k e with h | ⟨_,h,_⟩
    ·have:=hI.lt u k h;omega
    ·omega
   refine AD ⟨_,rfl,R.len,by dsimp only;omega,by dsimp only;omega,taken kn keep R.beg,fun u v h e=>(R.cl u v h e).elim id fun z=>z.elim,lt',?_,?_⟩
   ·intro w hw i' j hi hj
    try dsimp only at hi hj
    rcases what _ _ hi with hi' | ⟨_,hi',_⟩
    ·rcases what _ _ hj with hj' | ⟨hj',_,_⟩
     ·exact hI.fall w hw i' j hi' hj'
     ·exact absurd hj' (hI.cl w.a w.b (by rw [hi'];exact fun z=>nomatch z) ⟨w,hw,rfl,rfl⟩)
    ·have:=lt' _ _ hj;omega
   ·intro u v k hu hv
    try dsimp only at hu hv
    have iu:=Na hu;have iv:=Na hv;have:=R.len;rcases what _ _ hu with hu' | ⟨hu',hk,ru⟩
    ·rcases what _ _ hv with hv' | ⟨_,hk,_⟩
     ·exact hI.same u v k hu' hv'
     ·have:=hI.lt u k hu';omega
    ·rcases what _ _ hv with hv' | ⟨_,_,rv⟩
     ·have:=hI.lt v k hv';omega
     ·exact (back u hu' iu.1 (by omega) ru).trans rv
  ·refine AD ⟨_,rfl,q1,hm0,by dsimp only;omega,taken s.1 (fun _ h=>h) ?_,hI.cl,hI.lt,hI.fall,hI.same⟩;rw [GV ht]
   cases t with
   | none=>simp at hbn
   | some t=>exact fun z=>nomatch z
 ·have hu':u∈order.reverse.take order.reverse.length:=by
   rw [List.take_length,List.mem_reverse];exact (hmem u).mpr ⟨hu,by omega⟩
  have:=hI.dn u hu'
  cases e:kt s.1 u with
  | none=>exact absurd e this
  | some k =>
   have h2:=hI.lt u k e;have h3:=hI.m1;rw [List.length_reverse,hol] at h3;obtain ⟨k,rfl⟩:=qrB h2.1;exact ⟨k,rfl,by omega⟩
def bt (l:List Bool)(u:Int):Bool:=if 0<=u then (l[u.toNat]?).getD false else false
theorem bt_in {l:List Bool}{u:Int}(h:bt l u=true):0<=u/\u<l.length:=by
 unfold bt at h;by_cases h0:0<=u
 ·rw [if_pos h0] at h;refine ⟨h0,?_⟩;apply Classical.byContradiction;intro hc;rw [qyA (by omega)] at h;cases h
 ·rw [if_neg h0] at h;cases h
theorem Dn {l:List Bool}{k:Nat}{x:Bool}(h:l[k]? = some x):bt l (k:Int)=x:=by
 unfold bt;rw [if_pos (by omega),qqB,h]
 rfl
theorem Gw {l:List Bool}{j:Nat}{x:Bool}{u:Int}(hj:j<l.length):bt (l.set j x) u=if u=j then x else bt l u:=by
 unfold bt;rw [List.getElem?_set];by_cases e:u=j
 ·subst e;rw [qqB,if_pos (by omega),if_pos rfl,if_pos hj,if_pos rfl]
  rfl
 ·rw [if_neg e];by_cases h0:0<=u
  ·rw [if_pos h0,if_pos h0,if_neg (by omega)]
  ·rw [if_neg h0,if_neg h0]
def fls (l:List Bool):Nat:=(l.filter fun b=>!b).length
theorem fls_set {l:List Bool}{j:Nat}(h:l[j]? = some false):fls (l.set j true)+1=fls l:=by
 induction l generalizing j with
 | nil=>simp at h
 | cons x l ih =>
  cases j with
  | zero =>
   simp at h;subst h;simp [fls]
  | succ j =>
   have:=ih (j:=j) (by simpa using h);unfold fls at this ⊢;rw [List.set_cons_succ,List.filter_cons,List.filter_cons];split<;>(try simp only [qgA])<;>omega
theorem fls_le (l:List Bool):fls l<=l.length:=List.length_filter_le _ _
theorem RJ (l:List Bool):((l.filter fun b=>b).length)+fls l=l.length:=by
 induction l with
 | nil=>rfl
 | cons x l ih =>
  unfold fls at ih ⊢;cases x<;>simp<;>omega
theorem KA:∀ (l:List Bool) (n:Nat),((Bp n l).filter fun p=>p.2).length=(l.filter fun b=>b).length
 | [],_=>rfl
 | x::l,n=>by
  have:=KA l (n+1);show (List.filter (fun p=>p.2) (((n:Int),x)::Bp (n+1) l)).length=_;cases x<;>simp [this]
structure Spr (N:Nat)(E:Int->Int->Prop)(w found:List Bool)(P:Int->Prop):Prop where
 len:found.length=N
 old:∀ u,bt w u=true->bt found u=true
 new:∀ u,bt found u=true->∃ v,bt w v=true/\Rch E v u
 cl:∀ u v:Int,bt found u=true->E u v->bt found v=true\/P u
theorem Mr {ls:List (List Int)}{N M:Nat}{E:Int->Int->Prop}(A:Adj ls N E M)(hN:N<=10000){w:List Bool}(hw:w.length=N) :
  OK (FG ls w) fun found=>found.length=N/\∀ u,bt found u=true ↔ ∃ v,bt w v=true/\Rch E v u:=by
 have hs:sizeLine=16777216:=qoB;have hlen:=A.len;unfold FG;simp only [qpB,Ag,Ab];refine AB (Ks (c:=fun p:Int × Bool=>p.2) (g:=fun p=>p.1) (fun _ _=>rfl) (fun _ _ _=>rfl) ?_)
 have hline:∀ u,u∈((Bp 0 w).filter fun p=>p.2).map (fun p=>p.1) ↔ bt w u=true:=fun u=>by
  rw [qnA];constructor
  ·rintro ⟨p,hp,rfl⟩;obtain ⟨h1,h2⟩:=qoA.mp hp;obtain ⟨i,hi⟩:=List.mem_iff_getElem?.mp h1;rw [Ce] at hi;obtain ⟨b,hb,e⟩:=qiB.mp hi;subst e
   try dsimp only at h2 ⊢
   rw [Nat.zero_add,Dn hb];exact h2
  ·intro h;have hin:=bt_in h;obtain ⟨k,rfl⟩:=qrB hin.1;have hk:k<w.length:=by omega
   have e:=qvA hk;rw [Dn e] at h;refine ⟨((k:Int),true),qoA.mpr ⟨?_,rfl⟩,rfl⟩;refine List.mem_iff_getElem?.mpr ⟨k,?_⟩;rw [Ce,e,h,Nat.zero_add]
   rfl
 refine AB (HX (fun (z:List Bool × List Int)=>Spr N E w z.1 (fun u=>u∈z.2)/\(∀ u∈z.2,bt z.1 u=true)/\z.2.length+fls z.1<=N) (fun _=>False) (fun _=>False) (fun z=>2 * fls z.1+z.2.length) ⟨⟨hw,fun u h=>h,fun u h=>⟨u,h,.refl _⟩,fun u v h _=>.inr ((hline u).mpr h)⟩,fun u hu=>(hline u).mp hu,?_⟩ ?_ (fun z hz=>?_) (fun _ h=>h.elim) fun _ h=>h.elim)
 ·try dsimp only
  rw [qeA,KA];have:=RJ w;omega
 ·try dsimp only
  rw [qeA,KA];have:=RJ w;have:=fls_le w;omega
 ·obtain ⟨hz,hl,hll⟩:=hz;refine AD ?_;by_cases hp0:z.2=[]
  ·rw [if_neg (by rw [hp0];simp)];refine AD ⟨hz.len,fun u=>⟨hz.new u,fun ⟨v,hv,hr⟩=>?_⟩⟩;refine hr.closed (A:=fun u=>bt z.1 u=true) (fun a b ha e=>?_) (hz.old v hv);have:=hz.cl a b ha e;rw [hp0] at this;exact this.elim id fun z=>nomatch z
  ·rw [if_pos (by rw [decide_eq_true_iff];have:=List.length_pos_iff.mpr hp0;omega)];have pe:z.2=z.2.dropLast++[z.2.getLast hp0]:=(List.dropLast_concat_getLast hp0).symm;rw [Kt hp0];simp only [Ag];have hx:=hl (z.2.getLast hp0) (List.getLast_mem hp0);generalize z.2.getLast hp0=x at pe hx;generalize z.2.dropLast=q at pe;have hxi:=bt_in hx;have hzl:=hz.len;obtain ⟨k,rfl⟩:=qrB hxi.1;refine AB (Br (by omega) fun r hr=>?_);have hql:q.length+1=z.2.length:=by rw [pe];simp
   refine AB (BP (fun i (y:List Bool × List Int)=>Spr N E w y.1 (fun u=>u∈y.2\/u=(k:Int))/\(∀ u∈y.2,bt y.1 u=true)/\(∀ v∈r.take i,bt y.1 v=true)/\(bt y.1 (k:Int)=true)/\fls y.1<=fls z.1/\y.2.length+fls y.1=q.length+fls z.1) ⟨⟨hz.len,hz.old,hz.new,fun u v h3 h4=>?_⟩,fun u hu=>hl u (by rw [pe];exact List.mem_append_left _ hu),fun v hv=>by simp at hv,hx,qfB _,rfl⟩ (fun i a y ha hI=>?_) fun y hI=>AD ⟨⟨⟨hI.1.len,hI.1.old,hI.1.new,fun u v h3 h4=>?_⟩,hI.2.1,?_⟩,?_⟩)
   ·have:=hz.cl u v h3 h4;rw [pe] at this;refine this.imp id fun hu=>?_;rcases qkA.mp hu with hu|hu
    ·exact .inl hu
    ·exact .inr (qpA.mp hu)
   ·obtain ⟨hy,hyl,hyt,hyk,hym,hys⟩:=hI;have har:=A.rng k r hr a (qtA ha);have hae:=(A.mem k r hr a).mp (qtA ha);obtain ⟨a,rfl⟩:=qrB har.1;have hyll:=hy.len;have hal:a<y.1.length:=by omega
    refine AB (Br hal fun t ht=>?_);refine AZ (fun hb'=>?_) fun hb'=>?_
    ·have:t=false:=by cases t<;>simp at hb' ⊢
     subst this;have hnn:=fls_set ht
     have up:∀ u,bt y.1 u=true->bt (y.1.set a true) u=true:=fun u h=>by
      rw [Gw hal];split
      ·rfl
      ·exact h
     refine AB (FX hal (AB (DO (by omega) (AD ⟨_,rfl,⟨by rw [List.length_set];exact hyll,fun u h=>up u (hy.old u h),?_,?_⟩,?_,?_,up _ hyk,?_,?_⟩))))
     ·intro u h
      try dsimp only at h
      rw [Gw hal] at h;by_cases hua:u=(a:Int)
      ·obtain ⟨v,h1,h2⟩:=hy.new _ hyk;rw [hua];exact ⟨v,h1,.tail h2 hae⟩
      ·rw [if_neg hua] at h;exact hy.new u h
     ·intro u v h3 h4
      try dsimp only at h3 ⊢
      by_cases hua:u=(a:Int)
      ·exact .inr (.inl (by rw [hua];simp))
      ·rw [Gw hal,if_neg hua] at h3;rcases hy.cl u v h3 h4 with h|h|h
       ·exact .inl (up v h)
       ·exact .inr (.inl (List.mem_append_left _ h))
       ·exact .inr (.inr h)
     ·intro u hu;rcases qkA.mp hu with hu|hu
      ·exact up u (hyl u hu)
      ·cases qpA.mp hu
       try dsimp only
       rw [Gw hal,if_pos rfl]
     ·intro v hv
      try dsimp only
      rw [List.take_add_one,ha] at hv;rcases qkA.mp hv with hv|hv
      ·exact up v (hyt v hv)
      ·cases qpA.mp hv;rw [Gw hal,if_pos rfl]
     ·try dsimp only
      omega
     ·try dsimp only
      rw [qfA,qhA];omega
    ·refine AD ⟨_,rfl,hy,hyl,fun v hv=>?_,hyk,hym,hys⟩;rw [List.take_add_one,ha] at hv;rcases qkA.mp hv with hv|hv
     ·exact hyt v hv
     ·cases qpA.mp hv
      try dsimp only
      rw [Dn ht]
      cases t with
      | false=>simp at hb'
      | true=>rfl
   ·rcases hI.1.cl u v h3 h4 with h|h|h
    ·exact .inl h
    ·exact .inr h
    ·subst h;refine .inl (hI.2.2.1 v ?_);rw [List.take_length];exact (A.mem k r hr v).mpr h4
   ·try dsimp only
    have:=hI.2.2.2.2.2;omega
   ·try dsimp only
    have:=hI.2.2.2.2;omega
def In (kn:List (Option Int))(k:Int)(w:Way):Prop:=kt kn w.a=some k/\kt kn w.b=some k
theorem Oy {l:List (Int × Bool)}{k m:Int}:hasM (JU l k true) m=(decide (m=k) || hasM l m):=by
 unfold JU hasM;split
 ·rename_i h;rw [List.any_map]
  have e:((fun q:Int × Bool=>decide (q.1=m))∘fun q=>if q.1=k then (q.1,true) else q)=fun q=>decide (q.1=m):=by
   funext q
   show decide ((if q.1=k then (q.1,true) else q).1=m)=_;split<;>rfl
  rw [e];by_cases hm:m=k
  ·subst hm;rw [h];simp
  ·simp [hm]
 ·rw [List.any_append];by_cases hm:m=k
  ·subst hm;simp
  ·have:¬k=m:=fun e=>hm e.symm;simp [hm,this]
theorem putM_len {α:Type}{l:List (Int × α)}{k:Int}{a:α}:(JU l k a).length<=l.length+1:=by
 unfold JU;split
 ·rw [qeA];omega
 ·rw [qfA,qhA];omega
def wi (ws:List (Option (Mp Bool)))(k:Nat):Option (Mp Bool):=(ws[k]?).bind id
structure Wn (n:Net)(kn:List (Option Int))(i:Nat)(ws:List (Option (Mp Bool)))(S:Nat):Prop where
 len:ws.length=n.a.toNat
 non:∀ k:Nat,ws[k]? = some none->∀ w∈n.b.take i,¬In kn k w
 som:∀ (k:Nat) d,ws[k]? = some (some d)->(∃ w∈n.b.take i,In kn k w)/\∀ m,hasM d.l m=true ↔ ∃ w∈n.b.take i,In kn k w/\m∈w.c.l
 sz:∀ (k:Nat) d,ws[k]? = some (some d)->d.l.length<=S
theorem Mi {n:Net}(hn:NetW n){kn:List (Option Int)}(K:Knots n kn):OK (C4 n kn) fun ws=>∃ S,Wn n kn n.b.length ws S:=by
 have hs:sizeLine=16777216:=qoB;have hkl:=K.len;have hz:=hn.z;unfold C4;simp only [qpB,Ag,Ab]
 have tk:∀ {i:Nat}{w:Way},n.b[i]? = some w->(n.b.map fun w=>w.c.l.length).sum=((n.b.take i).map fun w=>w.c.l.length).sum+w.c.l.length+((n.b.drop (i+1)).map fun w=>w.c.l.length).sum:=fun {i w} h=>by
  obtain ⟨h1,h2⟩:=quA.mp h
  have e:n.b=n.b.take i++w::n.b.drop (i+1):=by
   have:=List.drop_eq_getElem_cons h1;rw [h2] at this;rw [<- this,List.take_append_drop]
  have e2:(n.b.map fun w=>w.c.l.length).sum=((n.b.take i++w::n.b.drop (i+1)).map fun w=>w.c.l.length).sum:=by rw [<- e]
  rw [e2,qbB,List.sum_append,qaB,List.sum_cons,Nat.add_assoc]
 refine AB (BP (fun i (ws:List (Option (Mp Bool)))=>Wn n kn i ws ((n.b.take i).map fun w=>w.c.l.length).sum) ⟨by rw [qeA,hkl],fun k _ w hw=>by simp at hw,fun k d hd=>?_,fun k d hd=>?_⟩ (fun i w ws hw hI=>?_) fun ws hI=>AD ⟨_,hI⟩)
 ·obtain ⟨_,_,e⟩:=qnA.mp (qtA hd);cases e
 ·obtain ⟨_,_,e⟩:=qnA.mp (qtA hd);cases e
 ·have hwi:=hn.w w (qtA hw);have h0:=hn.a0;obtain ⟨ka,hka,hka1⟩:=K.num w.a hwi.1.1 hwi.1.2;obtain ⟨kb,hkb,hkb1⟩:=K.num w.b hwi.2.1 hwi.2.2;have sum1:=tk hw
  have hsum:((n.b.take (i+1)).map fun w=>w.c.l.length).sum=((n.b.take i).map fun w=>w.c.l.length).sum+w.c.l.length:=by
   rw [List.take_add_one,hw,qbB,List.sum_append];simp
  have mtk:∀ x,x∈n.b.take (i+1) ↔ x∈n.b.take i\/x=w:=fun x=>by
   rw [List.take_add_one,hw,qkA];simp
  have at_:∀ {u:Int}{k:Nat},0<=u->u<n.a->kt kn u=some (k:Int)->atI kn u=some (some (k:Int)):=fun {u k} h0 h1 e=>by
   obtain ⟨j,rfl⟩:=qrB h0;have hj:j<kn.length:=by omega
   have g:=qvA hj;rw [GV g] at e;rw [e] at g;exact DQ g
  rw [at_ hwi.1.1 hwi.1.2 hka,at_ hwi.2.1 hwi.2.2 hkb];simp only [Ag];refine AZ (fun hb=>?_) fun hb=>?_
  ·have hk:ka=kb:=by
    have:=of_decide_eq_true hb;have:=qjB this;omega
   subst hk;have hin:In kn ka w:=⟨hka,hkb⟩;have hlen:=hI.len;have hkl':ka<ws.length:=by omega
   have step1:OK ((atI ws (ka:Int)).bind fun t=>cond t.isNone ((J7 ws (ka:Int) (some (Mp.mk []))).bind fun z=>some z) (some ws)) fun ws1=>ws1.length=n.a.toNat/\(∃ d,ws1[ka]? = some (some d)/\d.l.length<=((n.b.take i).map fun w=>w.c.l.length).sum/\∀ m,hasM d.l m=true ↔ ∃ w∈n.b.take i,In kn ka w/\m∈w.c.l)/\∀ j:Nat,j≠ka->ws1[j]? = ws[j]?:=by
    refine AB (Br hkl' fun t ht=>?_);refine AZ (fun hb=>?_) fun hb=>?_
    ·have:t=none:=by cases t<;>simp at hb ⊢
     subst this;refine AB (FX hkl' (AD ⟨by rw [List.length_set];exact hlen,⟨⟨[]⟩,by rw [List.getElem?_set,if_pos rfl,if_pos hkl'],qeC _,fun m=>⟨fun h=>(by simp [hasM] at h),fun ⟨x,hx,h1,_⟩=>absurd h1 (hI.non ka ht x hx)⟩⟩,fun j hj=>by rw [List.getElem?_set,if_neg (Ne.symm hj)]⟩))
    ·cases t with
     | none=>simp at hb
     | some d=>exact AD ⟨hlen,⟨d,ht,hI.sz ka d ht,(hI.som ka d ht).2⟩,fun j _=>rfl⟩
   simp only [Ab] at step1;obtain ⟨ws1,hws1,hl1,⟨d1,hd1,hz1,hm1⟩,hoth⟩:=step1;obtain ⟨t,ht,hws1⟩:=qaA.mp hws1;rw [ht];simp only [Ag];rw [hws1];simp only [Ag];refine AB (BP (fun j (y:List (Option (Mp Bool)))=>y.length=n.a.toNat/\(∃ d,y[ka]? = some (some d)/\d.l.length<=((n.b.take i).map fun w=>w.c.l.length).sum+j/\∀ m,hasM d.l m=true ↔ ((∃ w∈n.b.take i,In kn ka w/\m∈w.c.l)\/m∈w.c.l.take j))/\∀ j:Nat,j≠ka->y[j]? = ws[j]?) ⟨hl1,⟨d1,hd1,hz1,fun m=>by rw [hm1 m];simp⟩,hoth⟩ (fun j m y hm hy=>?_) fun y hy=>AD ⟨_,rfl,hy.1,fun k hk x hx=>?_,fun k d hd=>?_,fun k d hd=>?_⟩)
   ·obtain ⟨y1,⟨d,y2,y3,y4⟩,y5⟩:=hy;have hj:=(quA.mp hm).1;have hyk:ka<y.length:=by omega
    have hput:RG y (ka:Int) m true=some (y.set ka (some ⟨JU d.l m true⟩)):=by
     unfold RG;rw [Nu hyk];simp only [Ag];rw [y2];simp only [Ag];unfold OP;rw [if_pos (by omega)]
     rfl
    rw [hput];simp only [Ag];refine AD ⟨_,rfl,by rw [List.length_set];exact y1,⟨_,by rw [List.getElem?_set,if_pos rfl,if_pos hyk],?_,fun m'=>?_⟩,fun j' hj'=>by rw [List.getElem?_set,if_neg (Ne.symm hj')];exact y5 j' hj'⟩
    ·have:=putM_len (l:=d.l) (k:=m) (a:=true)
     try dsimp only
     omega
    ·try dsimp only
     rw [Oy,Bool.or_eq_true,decide_eq_true_iff,y4 m',List.take_add_one,hm];rw [qkA];constructor
     ·rintro (h|h|h)
      ·exact .inr (.inr (by rw [h];simp))
      ·exact .inl h
      ·exact .inr (.inl h)
     ·rintro (h|h|h)
      ·exact .inr (.inl h)
      ·exact .inr (.inr h)
      ·exact .inl (by simpa using h)
   ·obtain ⟨y1,⟨d,y2,y3,y4⟩,y5⟩:=hy;by_cases e:k=ka
    ·subst e;rw [y2] at hk;cases hk
    ·rw [y5 k e] at hk;rcases (mtk x).mp hx with hx|rfl
     ·exact hI.non k hk x hx
     ·intro hin';have:=hin'.1;rw [hka] at this;have:=qjB this;omega
   ·obtain ⟨y1,⟨d',y2,y3,y4⟩,y5⟩:=hy;by_cases e:k=ka
    ·subst e;rw [y2] at hd;cases hd;refine ⟨⟨w,(mtk w).mpr (.inr rfl),hin⟩,fun m=>?_⟩;rw [y4 m,List.take_length];constructor
     ·rintro (⟨x,hx,h⟩|h)
      ·exact ⟨x,(mtk x).mpr (.inl hx),h⟩
      ·exact ⟨w,(mtk w).mpr (.inr rfl),hin,h⟩
     ·rintro ⟨x,hx,h⟩;rcases (mtk x).mp hx with hx|rfl
      ·exact .inl ⟨x,hx,h⟩
      ·exact .inr h.2
    ·rw [y5 k e] at hd
     have no:¬In kn k w:=fun hin'=>by
      have:=hin'.1;rw [hka] at this;have:=qjB this;omega
     obtain ⟨⟨x,hx,h⟩,hm⟩:=hI.som k d hd;refine ⟨⟨x,(mtk x).mpr (.inl hx),h⟩,fun m=>(hm m).trans ⟨fun ⟨x,hx,h⟩=>⟨x,(mtk x).mpr (.inl hx),h⟩,fun ⟨x,hx,h⟩=>?_⟩⟩;rcases (mtk x).mp hx with hx|rfl
     ·exact ⟨x,hx,h⟩
     ·exact absurd h.1 no
   ·obtain ⟨y1,⟨d',y2,y3,y4⟩,y5⟩:=hy;rw [hsum];by_cases e:k=ka
    ·subst e;rw [y2] at hd;cases hd;exact y3
    ·rw [y5 k e] at hd;have:=hI.sz k d hd;omega
  ·have hk:ka≠kb:=fun e=>by
    have:=of_decide_eq_false hb;exact this (by rw [e])
   have no:∀ k:Nat,¬In kn k w:=fun k hin'=>by
    have h1:=hin'.1;have h2:=hin'.2;rw [hka] at h1;rw [hkb] at h2;have:=qjB h1;have:=qjB h2;omega
   refine AD ⟨_,rfl,hI.len,fun k hk' x hx=>?_,fun k d hd=>?_,fun k d hd=>?_⟩
   ·rcases (mtk x).mp hx with hx|rfl
    ·exact hI.non k hk' x hx
    ·exact no k
   ·obtain ⟨⟨x,hx,h⟩,hm⟩:=hI.som k d hd;refine ⟨⟨x,(mtk x).mpr (.inl hx),h⟩,fun m=>(hm m).trans ⟨fun ⟨x,hx,h⟩=>⟨x,(mtk x).mpr (.inl hx),h⟩,fun ⟨x,hx,h⟩=>?_⟩⟩;rcases (mtk x).mp hx with hx|rfl
    ·exact ⟨x,hx,h⟩
    ·exact absurd h.1 (no k)
   ·have:=hI.sz k d hd;rw [hsum];omega
abbrev Lk:=Option (Int × Option Int)
def Hub (n:Net)(v:Int):Prop:=(∃ w∈n.b,Rch (Ed n.b) v w.a/\Rch (Ed n.b) w.b v)/\∀ m,0<=m->m<n.c->∃ w∈n.b,Rch (Ed n.b) v w.a/\Rch (Ed n.b) w.b v/\m∈w.c.l
def JN (n:Net)(u:Int):Prop:=∃ v,Rch (Ed n.b) u v/\Hub n v
theorem ed_rng {n:Net}(hn:NetW n){u v:Int}(h:Ed n.b u v):(0<=u/\u<n.a)/\0<=v/\v<n.a:=by
 obtain ⟨w,hw,rfl,rfl⟩:=h;exact hn.w w hw
theorem rch_rng {n:Net}(hn:NetW n){u v:Int}(h:Rch (Ed n.b) u v)(hu:0<=u/\u<n.a):0<=v/\v<n.a:=by
 cases h with
 | refl=>exact hu
 | tail _ e=>exact (ed_rng hn e).2
theorem Lg {n:Net}(hn:NetW n){kn:List (Option Int)}(K:Knots n kn){u v:Int}(h:Rch (Ed n.b) u v):∀ i j,kt kn u=some i->kt kn v=some j->j<=i:=by
 induction h with
 | refl =>
  intro i j h1 h2;rw [h1] at h2;cases h2;exact Int.le_refl _
 | @tail v w h e ih =>
  intro i j h1 h2;have r:=(ed_rng hn e).1;obtain ⟨k,hk,_⟩:=K.num v r.1 r.2;have:=ih i k h1 hk;obtain ⟨x,hx,rfl,rfl⟩:=e;have:=K.fall x hx k j hk h2;omega
theorem En {n:Net}(hn:NetW n){kn:List (Option Int)}(K:Knots n kn){u k:Int}(hu:kt kn u=some k){w:Way}(hw:w∈n.b):In kn k w ↔ Rch (Ed n.b) u w.a/\Rch (Ed n.b) w.b u:=by
 constructor
 ·rintro ⟨h1,h2⟩;exact ⟨K.same _ _ k hu h1,K.same _ _ k h2 hu⟩
 ·rintro ⟨h1,h2⟩;have r:=hn.w w hw;obtain ⟨a,ha,_⟩:=K.num w.a r.1.1 r.1.2;obtain ⟨b,hb,_⟩:=K.num w.b r.2.1 r.2.2;have e1:=Lg hn K h1 _ _ hu ha;have e2:=K.fall w hw _ _ ha hb;have e3:=Lg hn K h2 _ _ hb hu;have ea:(a:Int)=k:=by omega
  have eb:(b:Int)=k:=by omega
  exact ⟨by rw [ha,ea],by rw [hb,eb]⟩
theorem M5 (d:Mp Bool){c:Int}(h0:0<=c)(h1:c<=1000):OK (BO d c) fun l=>∀ m,m∈l ↔ (0<=m/\m<c)/\hasM d.l m=false:=by
 have hs:sizeLine=16777216:=qoB;obtain ⟨N,rfl⟩:=qrB h0;unfold BO;simp only [qpB,Ag,Ab];refine AB (Eb (n:=N) (by omega) (by omega) (by omega) ?_);refine Ks (c:=fun m=>!hasM d.l m) (g:=id) (fun _ _=>rfl) (fun _ _ _=>rfl) ?_;intro m;rw [List.map_id,qoA,qnA];constructor
 ·rintro ⟨⟨i,hi,rfl⟩,h⟩;rw [qsA] at hi;exact ⟨by omega,by simpa using h⟩
 ·rintro ⟨hm,h⟩;exact ⟨⟨m.toNat,by rw [qsA];omega,by omega⟩,by simpa using h⟩
theorem fair_ok {n:Net}(hn:NetW n){kn:List (Option Int)}(K:Knots n kn){ws:List (Option (Mp Bool))}{S:Nat}(W:Wn n kn n.b.length ws S){u:Int}{k:Nat}(hu:kt kn u=some (k:Int)){x:Option (Mp Bool)}(hx:ws[k]? = some x) :
  OK (Cz x n.c) fun b=>b=true ↔ Hub n u:=by
 unfold Cz;simp only [qpB,Ag,Ab]
 cases x with
 | none =>
  refine AD ⟨fun h=>(nomatch h),fun h=>?_⟩;obtain ⟨⟨w,hw,h1,h2⟩,_⟩:=h;exact absurd ((En hn K hu hw).mpr ⟨h1,h2⟩) (W.non k hx w (by rw [List.take_length];exact hw))
 | some d =>
  show OK ((BO d n.c).bind fun t=>some (decide ((t.length:Int)=0))) _;refine B8 (M5 d hn.c0 hn.c1) fun l hl=>AD ?_;obtain ⟨⟨w,hw,hi⟩,hm⟩:=W.som k d hx;rw [List.take_length] at hw
  have e:decide ((l.length:Int)=0)=true ↔ ∀ m,m ∉ l:=by
   rw [decide_eq_true_iff];constructor
   ·intro h m hm;have:=List.length_pos_of_mem hm;omega
   ·intro h
    cases l with
    | nil=>rfl
    | cons a l=>exact absurd (qqA ..) (h a)
  rw [e];constructor
  ·intro h;refine ⟨⟨w,hw,(En hn K hu hw).mp hi⟩,fun m h0 h1=>?_⟩
   have:hasM d.l m=true:=by
    cases hh:hasM d.l m with
    | true=>rfl
    | false=>exact absurd ((hl m).mpr ⟨⟨h0,h1⟩,hh⟩) (h m)
   obtain ⟨w',hw',hi',hm'⟩:=(hm m).mp this;rw [List.take_length] at hw';have:=(En hn K hu hw').mp hi';exact ⟨w',hw',this.1,this.2,hm'⟩
  ·intro h m hml;obtain ⟨⟨h0,h1⟩,hh⟩:=(hl m).mp hml;obtain ⟨w',hw',a1,a2,hm'⟩:=h.2 m h0 h1;have:=(hm m).mpr ⟨w',by rw [List.take_length];exact hw',(En hn K hu hw').mpr ⟨a1,a2⟩,hm'⟩;rw [this] at hh;cases hh
theorem lack_ok {n:Net}(hn:NetW n){kn:List (Option Int)}(K:Knots n kn){ws:List (Option (Mp Bool))}{S:Nat}(W:Wn n kn n.b.length ws S){u:Int}{k:Nat}(hu:kt kn u=some (k:Int)){x:Option (Mp Bool)}(hx:ws[k]? = some x)(hf:¬Hub n u) :
  OK (DP x n.c) fun l=>(l=none->∀ w∈n.b,¬In kn k w)/\∀ m,l=some m->(0<=m/\m<n.c)/\∀ w∈n.b,In kn k w->m ∉ w.c.l:=by
 unfold DP;simp only [qpB,Ag,Ab]
 cases x with
 | none=>exact AD ⟨fun _ w hw=>W.non k hx w (by rw [List.take_length];exact hw),fun m h=>nomatch h⟩
 | some d =>
  show OK ((BO d n.c).bind fun t=>(atI t 0).bind fun z=>some (some z)) _;refine B8 (M5 d hn.c0 hn.c1) fun l hl=>?_;obtain ⟨⟨w,hw,hi⟩,hm⟩:=W.som k d hx;rw [List.take_length] at hw
  have hne:l ≠ []:=fun e=>hf ⟨⟨w,hw,(En hn K hu hw).mp hi⟩,fun m h0 h1=>by
   have:hasM d.l m=true:=by
    cases hh:hasM d.l m with
    | true=>rfl
    | false =>
     have:=(hl m).mpr ⟨⟨h0,h1⟩,hh⟩;rw [e] at this;cases this
   obtain ⟨w',hw',hi',hm'⟩:=(hm m).mp this;rw [List.take_length] at hw';have:=(En hn K hu hw').mp hi'
   exact ⟨w',hw',this.1,this.2,hm'⟩⟩
  refine AB (P6 (by omega) (by have:=List.length_pos_iff.mpr hne;omega) fun z hz=>AD ⟨fun h=>(nomatch h),fun m h=>?_⟩);cases h;have:=(hl z).mp (qtA hz);refine ⟨this.1,fun w' hw' hi' hm'=>?_⟩;have h2:=(hm z).mpr ⟨w',by rw [List.take_length];exact hw',hi',hm'⟩;rw [this.2] at h2;cases h2
structure Shut (n:Net)(kn:List (Option Int))(rows:List Lk):Prop where
 len:(rows.length:Int)=n.a
 fr:∀ (u:Nat) r,rows[u]? = some r->(r=none ↔ JN n u)
 sh:∀ (u:Nat) k l,rows[u]? = some (some (k,l))->kt kn u=some k/\(l=none->∀ w∈n.b,¬In kn k w)/\∀ m,l=some m->(0<=m/\m<n.c)/\∀ w∈n.b,In kn k w->m ∉ w.c.l
 lk:∃ f:Int->Option Int,∀ (u:Nat) k l,rows[u]? = some (some (k,l))->l=f k
theorem OS {n:Net}(hn:NetW n){kn:List (Option Int)}(K:Knots n kn){ws:List (Option (Mp Bool))}{S:Nat}(W:Wn n kn n.b.length ws S){f:Option Int->Option Bool}(hf:∀ k:Nat,f (some (k:Int))=(atI ws (k:Int)).bind fun t=>Cz t n.c) :
  OK (Cw f kn) fun l=>l.length=n.a.toNat/\∀ u,0<=u->u<n.a->(bt l u=true ↔ Hub n u):=by
 have hkl:=K.len;have hwl:=W.len
 have key:∀ (i:Nat) x,kn[i]? = some x->OK (f x) fun b=>b=true ↔ Hub n i:=fun i x hx=>by
  have hi:=(quA.mp hx).1;obtain ⟨k,hk,hk1⟩:=K.num i (by omega) (by omega);have e:=GV hx;rw [hk] at e;rw [<- e,hf];exact AB (Br (by omega) fun t ht=>fair_ok hn K W hk ht)
 have gen:∀ (l:List (Option Int)) (j:Nat),(∀ (i:Nat) x,l[i]? = some x->kn[j+i]? = some x)->OK (Cw f l) fun bs=>bs.length=l.length/\∀ (i:Nat) b,bs[i]? = some b->(b=true ↔ Hub n ((j+i:Nat):Int)):=by
  intro l
  induction l with
  | nil=>intro j _;exact AD ⟨rfl,fun i b h=>by simp at h⟩
  | cons a l ih =>
   intro j hl;have ha:=hl 0 a rfl
   refine B8 (key j a (by simpa using ha)) fun b hb=>B8 (ih (j+1) fun i x hx=>by
    have:=hl (i+1) x (by simpa using hx);rw [<- this]
    congr 1
    omega) fun bs ⟨h1,h2⟩=>AD ⟨by simp [h1],fun i x hx=>?_⟩
   cases i with
   | zero=>simp at hx;subst hx;exact hb
   | succ i =>
    have:=h2 i x (by simpa using hx);rw [this];have e:j+1+i=j+(i+1):=by omega
    rw [e]
 refine (gen kn 0 fun i x hx=>by rw [Nat.zero_add];exact hx).mono fun l ⟨h1,h2⟩=>⟨by omega,fun u h0 hu=>?_⟩;obtain ⟨i,rfl⟩:=qrB h0;have hi:i<l.length:=by omega
 have e:=qvA hi;rw [Dn e,h2 i _ e,Nat.zero_add]
theorem RP {n:Net}(hn:NetW n){v:Int}(h:Hub n v):0<=v/\v<n.a:=by
 obtain ⟨⟨w,hw,h1,h2⟩,_⟩:=h;exact rch_rng hn h2 (hn.w w hw).2
theorem shut_ok {n:Net}(hn:NetW n):OK (Jp n) fun rows=>∃ kn,Knots n kn/\Shut n kn rows:=by
 have hs:sizeLine=16777216:=qoB;have h0:=hn.a0;have h1:=hn.a1;unfold Jp;simp only [qpB,Ag,Ab];refine B8 (OH hn) fun kn K=>B8 (Mi hn K) fun ws ⟨S,W⟩=>?_;have hkl:=K.len;have hwl:=W.len;refine B8 (MW hn) fun bl B=>?_;refine B8 (OS hn K W (fun k=>rfl)) fun l ⟨l1,l2⟩=>?_;refine B8 (Mr B (by omega) l1) fun free ⟨f1,f2⟩=>?_
 have free_iff:∀ u:Int,0<=u->u<n.a->(bt free u=true ↔ JN n u):=fun u hu0 hu1=>by
  rw [f2 u];constructor
  ·rintro ⟨v,hv,hr⟩;have hvr:=bt_in hv;exact ⟨v,hr.rev fun a b e=>ed_be.mpr e,(l2 v hvr.1 (by omega)).mp hv⟩
  ·rintro ⟨v,hr,hh⟩;have hvr:=RP hn hh;exact ⟨v,(l2 v hvr.1 hvr.2).mpr hh,hr.rev fun a b e=>ed_be.mp e⟩
 have hlf:∃ lf:Int->Option Int,∀ (k:Nat) x l,ws[k]? = some x->DP x n.c=some l->l=lf k:=⟨fun k=>((ws[k.toNat]?).bind fun x=>DP x n.c).getD none,fun k x l hx hl=>by
  try dsimp only
  rw [qqB,hx];show l=(DP x n.c).getD none;rw [hl]
  rfl⟩
 obtain ⟨lf,hlf⟩:=hlf;refine AB (BP (fun i (rows:List Lk)=>rows.length=i/\(∀ (u:Nat) r,rows[u]? = some r->(r=none ↔ JN n u))/\∀ (u:Nat) k l,rows[u]? = some (some (k,l))->(kt kn u=some k/\(l=none->∀ w∈n.b,¬In kn k w)/\∀ m,l=some m->(0<=m/\m<n.c)/\∀ w∈n.b,In kn k w->m ∉ w.c.l)/\l=lf k) ⟨rfl,fun u r h=>by simp at h,fun u k l h=>by simp at h⟩ (fun i p rows hp hI=>?_) fun rows hI=>AD ⟨kn,K,⟨by rw [hI.1,Ex];omega,hI.2.1,fun u k l h=>(hI.2.2 u k l h).1,lf,fun u k l h=>(hI.2.2 u k l h).2⟩⟩);rw [Ce] at hp;obtain ⟨x,hx,rfl⟩:=qiB.mp hp;have hi:=(quA.mp hx).1;obtain ⟨r1,r2,r3⟩:=hI;simp only [Nat.zero_add];obtain ⟨k,hk,hk1⟩:=K.num i (by omega) (by omega);have e:=GV hx;rw [hk] at e;subst e;refine AB (Br (by omega) fun b hb=>?_);have hbf:=free_iff i (by omega) (by omega);rw [Dn hb] at hbf
 have fin:∀ (a:Lk),(a=none ↔ JN n i)->(∀ k l,a=some (k,l)->(kt kn i=some k/\(l=none->∀ w∈n.b,¬In kn k w)/\∀ m,l=some m->(0<=m/\m<n.c)/\∀ w∈n.b,In kn k w->m ∉ w.c.l)/\l=lf k)->OK ((E4 rows a).bind fun z=>some (Fl.nx z:Fl (List Lk) (List Lk))) fun fl=>∃ s',fl = .nx s'/\s'.length=i+1/\(∀ (u:Nat) r,s'[u]? = some r->(r=none ↔ JN n u))/\∀ (u:Nat) k l,s'[u]? = some (some (k,l))->(kt kn u=some k/\(l=none->∀ w∈n.b,¬In kn k w)/\∀ m,l=some m->(0<=m/\m<n.c)/\∀ w∈n.b,In kn k w->m ∉ w.c.l)/\l=lf k:=fun a ha1 ha2=>by
  refine AB (DO (by omega) (AD ⟨_,rfl,by rw [qfA,r1];rfl,fun u r hr=>?_,fun u k l hr=>?_⟩))
  ·rw [List.getElem?_append] at hr;split at hr
   ·exact r2 u r hr
   ·have hm:=qpA.mp (qtA hr);have hl:=(quA.mp hr).1;rw [qhA] at hl;have:u=i:=by omega
    subst this;rw [hm];exact ha1
  ·rw [List.getElem?_append] at hr;split at hr
   ·exact r3 u k l hr
   ·have hm:=qpA.mp (qtA hr);have hl:=(quA.mp hr).1;rw [qhA] at hl;have:u=i:=by omega
    subst this;exact ha2 k l hm.symm
 cases b with
 | true=>exact fin none ⟨fun _=>hbf.mp rfl,fun _=>rfl⟩ fun k l h=>nomatch h
 | false =>
  have nf:¬JN n i:=fun h=>by have:=hbf.mpr h;cases this
  have nh:¬Hub n i:=fun h=>nf ⟨i,.refl _,h⟩;simp only [cond_false,Ag];refine AB (AB (Br (by omega) fun t ht=>?_));obtain ⟨l,el,hl⟩:=lack_ok hn K W hk ht nh;refine AB (OK.of el (AD ?_));exact fin (some ((k:Int),l)) ⟨fun h=>(nomatch h),fun h=>absurd h nf⟩ fun k' l' h=>by cases h;exact ⟨⟨hk,hl⟩,hlf k t l ht el⟩
def wy (ws:List Way)(k:Int):Option Way:=if 0<=k then ws[k.toNat]? else none
theorem PY {ws:List Way}{k:Int}{w:Way}(h:wy ws k=some w):atI ws k=some w/\0<=k/\k<ws.length:=by
 unfold wy at h;by_cases h0:0<=k
 ·rw [if_pos h0] at h;have hl:=(quA.mp h).1;obtain ⟨w',e,hw⟩:=P6 (P:=fun w=>ws[k.toNat]? = some w) h0 (by omega) fun w hw=>hw;rw [h] at hw;cases hw;exact ⟨e,h0,by omega⟩
 ·rw [if_neg h0] at h;cases h
def wk (ws:List Way):Int->List Int->Option Int
 | n,[]=>some n
 | n,k::r=>match wy ws k with
  | some w=>if w.a=n then wk ws w.b r else none
  | none=>none
theorem Cs (ws:List Way)(n k:Int)(r:List Int):wk ws n (k::r)=match wy ws k with
  | some w=>if w.a=n then wk ws w.b r else none
  | none=>none:=rfl
theorem HH (ws:List Way):∀ (a b:List Int) (n:Int),wk ws n (a++b)=(wk ws n a).bind fun m=>wk ws m b
 | [],_,_=>rfl
 | k::a,b,n=>by
  rw [List.cons_append,Cs,Cs]
  cases wy ws k with
  | none=>rfl
  | some w =>
   dsimp only;split
   ·exact HH ws a b w.b
   ·rfl
theorem IP (ws:List Way):∀ (a:List Int) (n e:Int),wk ws n a=some e->∀ k∈a,∃ w,wy ws k=some w
 | [],_,_,_=>fun k hk=>nomatch hk
 | k::a,n,e,h=>fun j hj=>by
  rw [Cs] at h
  cases hw:wy ws k with
  | none=>rw [hw] at h;cases h
  | some w =>
   rw [hw] at h;dsimp only at h;split at h
   ·rcases qmA.mp hj with z|z
    ·rw [z];exact ⟨w,hw⟩
    ·exact IP ws a w.b e h j z
   ·cases h
def tk (ws:List Way)(m k:Int):Bool:=match wy ws k with|some w=>decide (m∈w.c.l)|none=>false
theorem tk_at {ws:List Way}{m k:Int}(h:∃ w,wy ws k=some w):((atI ws k).bind fun t=>some (decide (m∈t.c.l)))=some (tk ws m k):=by
 obtain ⟨w,hw⟩:=h;rw [(PY hw).1];unfold tk;rw [hw]
 rfl
theorem taken_eq {ws:List Way}{ring:List Int}(h:∀ k∈ring,∃ w,wy ws k=some w)(m:Int):ED ws m ring=some (ring.any (tk ws m)):=by
 refine OK.eq ?_;unfold ED;simp only [qpB,Ag,Ab];refine AB (F5 (g:=tk ws m) (fun k hk=>tk_at (h k hk)) (AD ?_));rw [List.any_map]
 rfl
theorem pick_rev {α:Type}(l:List α):F7 l none none (-1)=l.reverse:=by
 have e1:(sliceBounds none none (some (-1)) l.length)=((l.length:Int) - 1,-1,-1):=rfl;unfold F7;rw [e1];dsimp only;unfold sliceRange;rw [if_neg (by decide)]
 have e2:(if (l.length:Int) - 1 > -1 then ((l.length:Int) - 1 - -1 - -1 - 1) / (- -1) else 0).toNat=l.length:=by
  split
  ·rw [show (- (-1:Int))=1 from rfl,Int.ediv_one];omega
  ·omega
 dsimp only;rw [e2]
 have mp:((List.range l.length).map fun (k:Nat)=>((l.length:Int) - 1 + -1 * (k:Int)).toNat)=(List.range l.length).map fun k=>l.length - 1 - k:=List.map_congr_left fun k hk=>by
  have:=qsA.mp hk;show ((l.length:Int) - 1 + -1 * (k:Int)).toNat=l.length - 1 - k;omega
 rw [mp,List.filterMap_map];show (List.range l.length).filterMap (fun k=>l[l.length - 1 - k]?)=_
 have fm2:(List.range l.length).filterMap (fun k=>l[l.length - 1 - k]?)=l.reverse:=by
  have key:∀ n,n<=l.length->(List.range n).filterMap (fun k=>l[l.length - 1 - k]?)=l.reverse.take n:=fun n=>by
   induction n with
   | zero=>intro _;rfl
   | succ n ih =>
    intro hn;rw [List.range_succ,List.filterMap_append,ih (by omega),List.take_succ]
    congr 1
    have h1:l[l.length - 1 - n]? = some (l[l.length - 1 - n]'(by omega)):=qvA (by omega);have h2:l.reverse[n]? = l[l.length - 1 - n]?:=List.getElem?_reverse (by omega);rw [h2,h1];simp [h1]
  have:=key l.length (qfB _);rw [this,List.take_of_length_le (by rw [List.length_reverse];exact qfB _)]
 rw [fm2]
theorem Ip {α:Type}{k u:Int}{a:α}:∀ {l:List (Int × α)},Ht (l++[(k,a)]) u=if hasM l u=true then Ht l u else if k=u then some a else none
 | []=>by simp [Ht,hasM]
 | (j,b)::l=>by
  have ih:=Ip (k:=k) (u:=u) (a:=a) (l:=l);show (if j=u then some b else Ht (l++[(k,a)]) u)=if ((decide (j=u)) || hasM l u)=true then (if j=u then some b else Ht l u) else if k=u then some a else none
  by_cases e:j=u
  ·simp [e]
  ·rw [if_neg e,ih];simp [e]
theorem hasM_app {α:Type}{k u:Int}{a:α}{l:List (Int × α)}:hasM (l++[(k,a)]) u=(hasM l u || decide (k=u)):=by
 unfold hasM;rw [List.any_append];simp
theorem Oh {α:Type}{k:Int}{a:α}{l:List (Int × α)}(h:hasM l k=false):JU l k a=l++[(k,a)]:=by
 unfold JU;unfold hasM at h;rw [h,if_neg quB]
theorem K6 {ws:List Way}{k:Int}{w:Way}(h:wy ws k=some w):w∈ws:=by
 unfold wy at h;by_cases h0:0<=k
 ·rw [if_pos h0] at h;exact qtA h
 ·rw [if_neg h0] at h;cases h
structure Lvg (ws:List Way)(N:Nat)(A:Int->Prop)(lv:List (List Int)):Prop where
 len:lv.length=N
 mem:∀ (k:Nat) r,lv[k]? = some r->∀ j,j∈r ↔ A j/\∃ w,wy ws j=some w/\w.a=k
def st (ws:List Way)(p:List Int):List Int:=p.filterMap fun j=>(wy ws j).map fun w=>w.a
theorem Hj {ws:List Way}{j:Int}{w:Way}{p:List Int}(h:wy ws j=some w):st ws (j::p)=w.a::st ws p:=by
 unfold st;rw [List.filterMap_cons_some (b:=w.a) (by rw [h];rfl)]
structure Bfs (ws:List Way)(N:Nat)(A:Int->Prop)(wd:List Bool)(b:Int)(cb:List (Int × Option Int))(line:List Int):Prop where
 nd:line.Nodup
 rg:∀ u∈line,0<=u/\u<N
 hd:line[0]? = some b
 hb:Ht cb b=some none
 key:∀ u,hasM cb u=true ↔ u∈line
 tr:∀ (j:Nat) u,line[j]? = some u->0<j->∃ k w,Ht cb u=some (some k)/\wy ws k=some w/\w.b=u/\A k/\bt wd k=false/\∃ i,i<j/\line[i]? = some w.a
 sz:cb.length=line.length
structure Pth (ws:List Way)(N:Nat)(A:Int->Prop)(wd:List Bool)(b:Int)(p:List Int):Prop where
 w:∃ q j x,p=q++[j]/\wy ws j=some x/\wk ws b p=some x.b/\bt wd j=true/\∀ i∈q,bt wd i=false
 a:∀ i∈p,A i
 nd:(st ws p).Nodup
 len:(st ws p).length=p.length
 rg:∀ u∈st ws p,0<=u/\u<N
 le:p.length<=N
theorem Fh {l:List Int}(nd:l.Nodup){i j:Nat}{u:Int}(h1:l[i]? = some u)(h2:l[j]? = some u):i=j:=by
 obtain ⟨a1,b1⟩:=quA.mp h1;obtain ⟨a2,b2⟩:=quA.mp h2;exact (List.getElem_inj nd).mp (b1.trans b2.symm)
theorem Rj {ws:List Way}{N:Nat}{A:Int->Prop}{wd:List Bool}{b:Int}{cb:Mp (Option Int)}{line:List Int}(hN:N<=10000)(B:Bfs ws N A wd b cb.l line){last:Int}{w0:Way}(h0:wy ws last=some w0)(ha:A last)(hwd:bt wd last=true){i0:Nat}(hi0:line[i0]? = some w0.a) :
  OK (Fq ws cb last) (Pth ws N A wd b):=by
 have hs:sizeLine=16777216:=qoB
 have hline:line.length<=N:=by
  have:=Bz B.nd (m:=(List.range N).map fun (i:Nat)=>(i:Int)) fun u hu=>by
   have h:=B.rg u hu;exact qnA.mpr ⟨u.toNat,by rw [qsA];omega,by omega⟩
  simpa using this
 unfold Fq;simp only [qpB,Ag,Ab];refine AB (HX (fun s:List Int=>∃ (i:Nat) (x:Int),line[i]? = some x/\(∃ q j w,s=q++[j]/\wy ws j=some w/\w.a=x)/\wk ws x s.reverse=some w0.b/\(∃ t,s=last::t/\∀ j∈t,bt wd j=false)/\(∀ j∈s,A j)/\(st ws s.reverse).Nodup/\(st ws s.reverse).length=s.length/\∀ u∈st ws s.reverse,∃ k:Nat,i<=k/\line[k]? = some u) (fun _=>False) (fun _=>False) (fun s=>N - s.length) ?_ ?_ (fun s hS=>?_) (fun _ h=>h.elim) fun _ h=>h.elim)
 ·refine ⟨i0,w0.a,hi0,⟨[],last,w0,rfl,h0,rfl⟩,?_,⟨[],rfl,fun j h=>nomatch h⟩,fun j hj=>?_,?_,?_,fun u hu=>?_⟩
  ·show wk ws w0.a [last]=some w0.b;rw [Cs,h0]
   try dsimp only
   rw [if_pos rfl]
   rfl
  ·rw [qpA.mp hj];exact ha
  ·show (st ws [last]).Nodup;rw [Hj h0];simp [st]
  ·show (st ws [last]).length=1;rw [Hj h0]
   rfl
  ·have hu:u∈st ws [last]:=hu;rw [Hj h0] at hu
   have:u=w0.a:=by
    rcases qmA.mp hu with h|h
    ·exact h
    ·cases h
   rw [this];exact ⟨i0,qfB _,hi0⟩
 ·try dsimp only
  omega
 ·obtain ⟨i,x,hx,⟨q,j,w,hsj,hwj,hwx⟩,hwk,⟨t,hst,ht⟩,hA,hnd,hln,hge⟩:=hS;have hxl:x∈line:=qtA hx;have hatl:atI s (-1)=some j:=by rw [hsj];exact JT q j
  have hsl:s.length<=N:=by
   have:=Bz hnd (m:=line) fun u hu=>by
    obtain ⟨k,_,hk⟩:=hge u hu;exact qtA hk
   omega
  have rd:∀ (β:Type) (f:Option Int->Option β),((atI s (-1)).bind fun t=>(atI ws t).bind fun t=>(Ht cb.l t.a).bind f)=(Ht cb.l x).bind f:=fun β f=>by
   rw [hatl];simp only [Ag];rw [(PY hwj).1];simp only [Ag];rw [hwx]
  rw [rd];by_cases hi:i=0
  ·subst hi;rw [B.hd] at hx;cases hx;rw [B.hb];refine AD ?_;rw [if_neg (by simp)];refine AD ?_;show Pth ws N A wd b (F7 s none none (-1));rw [pick_rev];refine ⟨⟨t.reverse,last,w0,by rw [hst];simp,h0,hwk,hwd,fun i hi=>ht i (List.mem_reverse.mp hi)⟩,fun i hi=>hA i (List.mem_reverse.mp hi),hnd,by rw [hln,List.length_reverse],fun u hu=>?_,by rw [List.length_reverse];exact hsl⟩;obtain ⟨k,_,hk⟩:=hge u hu;exact B.rg u (qtA hk)
  ·obtain ⟨k,w',hg,hw',hwb,hAk,hwk',i',hi',hl'⟩:=B.tr i x hx (by omega);rw [hg];refine AD ?_;rw [if_pos (by rfl)];rw [rd,hg];simp only [Ag];have hrev:(s++[k]).reverse=k::s.reverse:=by simp
   have hst':st ws (s++[k]).reverse=w'.a::st ws s.reverse:=by rw [hrev,Hj hw']
   have hnew:w'.a ∉ st ws s.reverse:=fun hm=>by
    obtain ⟨k2,hk2,hl2⟩:=hge _ hm;have:=Fh B.nd hl' hl2;omega
   have hnd':(st ws (s++[k]).reverse).Nodup:=by
    rw [hst'];exact List.nodup_cons.mpr ⟨hnew,hnd⟩
   have hge':∀ u∈st ws (s++[k]).reverse,∃ k:Nat,i'<=k/\line[k]? = some u:=fun u hu=>by
    rw [hst'] at hu;rcases qmA.mp hu with h|h
    ·rw [h];exact ⟨i',qfB _,hl'⟩
    ·obtain ⟨k2,hk2,hl2⟩:=hge u h;exact ⟨k2,by omega,hl2⟩
   have hlen':(st ws (s++[k]).reverse).length=(s++[k]).length:=by
    rw [hst',qgA,hln,qfA,qhA]
   have hsl':(s++[k]).length<=N:=by
    have:=Bz hnd' (m:=line) fun u hu=>by
     obtain ⟨k,_,hk⟩:=hge' u hu;exact qtA hk
    omega
   refine AB (DO (by omega) (AD ⟨⟨i',w'.a,hl',⟨s,k,w',rfl,hw',rfl⟩,?_,⟨t++[k],by rw [hst];rfl,fun j hj=>?_⟩,fun j hj=>?_,hnd',hlen',hge'⟩,?_⟩))
   ·rw [hrev,Cs,hw']
    try dsimp only
    rw [if_pos rfl,hwb];exact hwk
   ·rcases qkA.mp hj with h|h
    ·exact ht j h
    ·rw [qpA.mp h];exact hwk'
   ·rcases qkA.mp hj with h|h
    ·exact hA j h
    ·rw [qpA.mp h];exact hAk
   ·try dsimp only
    rw [qfA,qhA] at hsl' ⊢;omega
def Nowh (ws:List Way)(A:Int->Prop)(wd:List Bool)(b:Int):Prop:=∀ p e,wk ws b p=some e->(∀ j∈p,A j)->∀ j∈p,bt wd j=false
theorem NM {ws:List Way}{N:Nat}{A:Int->Prop}{wd:List Bool}{b:Int}{lv:List (List Int)}(hN:N<=10000)(hw:∀ w∈ws,N3 N w)(L:Lvg ws N A lv)(hb:0<=b/\b<N)(hwd:wd.length=ws.length) :
  OK (Ba ws lv b wd) fun r=>match r with|none=>Nowh ws A wd b|some p=>Pth ws N A wd b p:=by
 have hs:sizeLine=16777216:=qoB;have hlv:=L.len
 have lineN:∀ line:List Int,line.Nodup->(∀ u∈line,0<=u/\u<N)->line.length<=N:=fun line nd rg=>by
  have:=Bz nd (m:=(List.range N).map fun (i:Nat)=>(i:Int)) fun u hu=>by
   have h:=rg u hu;exact qnA.mpr ⟨u.toNat,by rw [qsA];omega,by omega⟩
  simpa using this
 unfold Ba;simp only [qpB,Ag,Ab];refine AB (HX (fun (z:Mp (Option Int) × List Int × Int)=>Bfs ws N A wd b z.1.l z.2.1/\(0<=z.2.2/\z.2.2<=z.2.1.length)/\∀ (i:Nat) u,(i:Int)<z.2.2->z.2.1[i]? = some u->∀ j w,A j->wy ws j=some w->w.a=u->bt wd j=false/\w.b∈z.2.1) (fun _=>False) (fun r:Option (List Int)=>match r with|none=>False|some p=>Pth ws N A wd b p) (fun z=>N - z.2.2.toNat) ⟨⟨by simp,fun u hu=>?_,rfl,?_,fun u=>?_,fun j u hj h=>?_,rfl⟩,⟨Int.le_refl _,by simp⟩,fun i u h=>?_⟩ ?_ (fun z hz=>?_) (fun _ h=>h.elim) fun r hr=>?_)
 ·rw [qpA.mp hu];exact hb
 ·simp [Ht]
 ·simp [hasM,eq_comm]
 ·cases j with
  | zero=>omega
  | succ j=>simp at hj
 ·dsimp only at h;omega
 ·try dsimp only
  omega
 ·obtain ⟨B,⟨p0,p1⟩,pr⟩:=hz;refine AD ?_;by_cases hlt:z.2.2<(z.2.1.length:Int)
  ·rw [if_pos (decide_eq_true hlt)];obtain ⟨pl,hpl⟩:=qrB p0;rw [hpl] at hlt pr ⊢;refine AB (Br (by omega) fun node hnode=>?_);have hnr:=B.rg node (qtA hnode);obtain ⟨nk,rfl⟩:=qrB hnr.1;refine AB (Br (by omega) fun r hr=>?_);refine AB (ok_for (fun i (y:Mp (Option Int) × List Int)=>Bfs ws N A wd b y.1.l y.2/\(∃ ext,y.2=z.2.1++ext)/\∀ j∈r.take i,bt wd j=false/\∀ w,wy ws j=some w->w.b∈y.2) (fun _=>False) (fun r:Option (List Int)=>match r with|none=>False|some p=>Pth ws N A wd b p) ⟨B,⟨[],by simp⟩,fun j hj=>by simp at hj⟩ (fun i a y ha hy=>?_) (fun y hy=>?_) (fun _ h=>h.elim) fun r hr=>AD hr)
   ·obtain ⟨Y,⟨ext,hext⟩,yt⟩:=hy;obtain ⟨hAa,w,hwa,hwn⟩:=(L.mem nk r hr a).mp (qtA ha);obtain ⟨hat,ha0,ha1⟩:=PY hwa;obtain ⟨a,rfl⟩:=qrB ha0;refine AB (Br (by omega) fun t ht=>?_)
    have hnode':y.2[pl]? = some (nk:Int):=by
     rw [hext,qwA (by omega)];exact hnode
    refine AZ (fun hb'=>?_) fun hb'=>?_
    ·subst hb';refine AB ((Rj (cb:=y.1) hN Y hwa hAa (Dn ht) (by rw [hwn];exact hnode')).mono fun p hp=>?_);exact AD hp
    ·subst hb';rw [hat];simp only [Ag];have hwi:=hw w (K6 hwa);refine AZ (fun hc=>?_) fun hc=>?_
     ·have hno:hasM y.1.l w.b=false:=by simpa using hc
      have hnl:w.b ∉ y.2:=fun h=>by
       rw [(Y.key w.b).mpr h] at hno;cases hno
      have hyl:=lineN y.2 Y.nd Y.rg;have hsz:=Y.sz
      have hput:OP y.1 w.b (some (a:Int))=some ⟨y.1.l++[(w.b,some (a:Int))]⟩:=by
       unfold OP;rw [if_pos (by omega),Oh hno]
      rw [hput];simp only [Ag]
      have Y':Bfs ws N A wd b (y.1.l++[(w.b,some (a:Int))]) (y.2++[w.b]):=by
       have hbl:b∈y.2:=qtA Y.hd;refine ⟨?_,fun u hu=>?_,?_,?_,fun u=>?_,fun j u hj h0=>?_,by simp [hsz]⟩
       ·exact qeB.mpr ⟨Y.nd,by simp,fun u hu v hv e=>by
         rw [qpA.mp hv] at e
         exact hnl (e ▸ hu)⟩
       ·rcases qkA.mp hu with h|h
        ·exact Y.rg u h
        ·rw [qpA.mp h];exact hwi.2
       ·rw [qwA (by have:=List.length_pos_of_mem hbl;omega)];exact Y.hd
       ·rw [Ip,if_pos ((Y.key b).mpr hbl)];exact Y.hb
       ·rw [hasM_app,Bool.or_eq_true,Y.key u,qkA,qpA,decide_eq_true_iff];constructor
        ·exact fun h=>h.imp id Eq.symm
        ·exact fun h=>h.imp id Eq.symm
       ·rw [List.getElem?_append] at hj;split at hj
        ·obtain ⟨k,w',g1,g2,g3,g4,g5,i',g6,g7⟩:=Y.tr j u hj h0;refine ⟨k,w',?_,g2,g3,g4,g5,i',g6,?_⟩
         ·rw [Ip,if_pos ((Y.key u).mpr (qtA hj))];exact g1
         ·rw [qwA (by omega)];exact g7
        ·have hu:=qpA.mp (qtA hj);subst hu;refine ⟨a,w,?_,hwa,rfl,hAa,Dn ht,pl,?_,?_⟩
         ·rw [Ip,if_neg (by rw [hno];exact quB),if_pos rfl]
         ·have:=(quA.mp hnode').1;omega
         ·rw [hwn,qwA (quA.mp hnode').1];exact hnode'
      refine AB (DO (by omega) (AD ⟨Y',⟨ext++[w.b],by rw [hext];simp⟩,fun j hj=>?_⟩));rw [List.take_add_one,ha] at hj;rcases qkA.mp hj with h|h
      ·obtain ⟨g1,g2⟩:=yt j h;exact ⟨g1,fun w' hw'=>List.mem_append_left _ (g2 w' hw')⟩
      ·cases qpA.mp h;refine ⟨Dn ht,fun w' hw'=>?_⟩;rw [hwa] at hw';cases hw';exact qaC _ (qpA.mpr rfl)
     ·have hyes:hasM y.1.l w.b=true:=by simpa using hc
      refine AD ⟨Y,⟨ext,hext⟩,fun j hj=>?_⟩;rw [List.take_add_one,ha] at hj;rcases qkA.mp hj with h|h
      ·exact yt j h
      ·cases qpA.mp h;refine ⟨Dn ht,fun w' hw'=>?_⟩;rw [hwa] at hw';cases hw';exact (Y.key w.b).mp hyes
   ·obtain ⟨Y,⟨ext,hext⟩,yt⟩:=hy;rw [List.take_length] at yt;have hle:(z.2.1.length:Int)<=y.2.length:=by rw [hext,qfA];omega
    have hyl:=lineN y.2 Y.nd Y.rg;refine AD ⟨⟨Y,⟨by dsimp only;omega,by dsimp only;omega⟩,fun i u hi hu j w hA hj hwa=>?_⟩,?_⟩
    ·dsimp only at hi hu ⊢;have hil:i<z.2.1.length:=by omega
     rw [hext,qwA hil] at hu;by_cases e:i=pl
     ·subst e;rw [hnode] at hu;cases hu;obtain ⟨g1,g2⟩:=yt j ((L.mem nk r hr j).mpr ⟨hA,w,hj,hwa⟩);exact ⟨g1,g2 w hj⟩
     ·obtain ⟨g1,g2⟩:=pr i u (by omega) hu j w hA hj hwa;exact ⟨g1,by rw [hext];exact List.mem_append_left _ g2⟩
    ·try dsimp only
     omega
  ·rw [if_neg (by rw [decide_eq_true_iff];exact hlt)];refine AD ?_;show Nowh ws A wd b;have hbl:b∈z.2.1:=qtA B.hd
   have key:∀ (p:List Int) (u e:Int),u∈z.2.1->wk ws u p=some e->(∀ j∈p,A j)->∀ j∈p,bt wd j=false:=by
    intro p
    induction p with
    | nil=>intro u e _ _ _ j hj;cases hj
    | cons k p ih =>
     intro u e hu hk hA j hj;rw [Cs] at hk
     cases hwk:wy ws k with
     | none=>rw [hwk] at hk;cases hk
     | some w =>
      rw [hwk] at hk
      try dsimp only at hk
      split at hk
      ·rename_i hwa;obtain ⟨i,hi⟩:=List.mem_iff_getElem?.mp hu;have hil:=(quA.mp hi).1;obtain ⟨g1,g2⟩:=pr i u (by omega) hi k w (hA k (qqA ..)) hwk hwa;rcases qmA.mp hj with h|h
       ·rw [h];exact g1
       ·exact ih w.b e g2 hk (fun j hj=>hA j (qrA _ hj)) j h
      ·cases hk
   exact fun p e hk hA=>key p b e hbl hk hA
 ·cases r with
  | none=>exact hr.elim
  | some p=>exact AD hr
theorem GZ {n:Net}(hn:NetW n){wd:List Bool}(hwd:wd.length=n.b.length):OK (C3 n wd) fun lv=>Lvg n.b n.a.toNat (fun j=>bt wd j=true) lv:=by
 have hs:sizeLine=16777216:=qoB;have h0:=hn.a0;have h1:=hn.a1;have hl:=hn.l;obtain ⟨N,hN⟩:=qrB h0;unfold C3;simp only [qpB,Ag,Ab];refine AB (Eb (n:=N) (by omega) (by omega) (by omega) ?_);rw [Ie];refine AB (BP (fun i ls=>Laid ls N (Bp 0 n.b) i (fun x:Int × Way=>bt wd x.1) (fun x=>x.2.a) (fun x=>x.1)) laid0 (fun i x ls hx h=>?_) fun ls h=>AD ⟨by rw [h.len];omega,fun k r hr j=>?_⟩)
 ·have hx':=hx;rw [Ce] at hx';obtain ⟨w,hw,rfl⟩:=qiB.mp hx';have hi:=(quA.mp hw).1;have hwi:=(hn.w w (qtA hw)).1;simp only [Nat.zero_add] at hx ⊢;refine AB (Br (by omega) fun b hb=>?_)
  cases b with
  | true=>exact AB ((h.step hx (by dsimp only;exact Dn hb) hwi.1 (by dsimp only;omega) (by omega)).mono fun ls' h'=>AD ⟨ls',rfl,h'⟩)
  | false=>exact AD ⟨ls,rfl,h.skip hx (by dsimp only;exact Dn hb)⟩
 ·rw [h.mem k r hr j,List.take_length];constructor
  ·rintro ⟨x,hx,hb,e1,rfl⟩;obtain ⟨i,hi⟩:=List.mem_iff_getElem?.mp hx;rw [Ce] at hi;obtain ⟨w,hw,rfl⟩:=qiB.mp hi;simp only [Nat.zero_add] at hb e1 ⊢;refine ⟨hb,w,?_,e1⟩;unfold wy;rw [if_pos (by omega),qqB];exact hw
  ·rintro ⟨hb,w,hw,e⟩;unfold wy at hw;by_cases hj:0<=j
   ·rw [if_pos hj] at hw;obtain ⟨i,rfl⟩:=qrB hj;rw [qqB] at hw;refine ⟨((i:Int),w),List.mem_iff_getElem?.mpr ⟨i,?_⟩,hb,e,rfl⟩;rw [Ce,hw,Nat.zero_add]
    rfl
   ·rw [if_neg hj] at hw;cases hw
theorem rch_wk {ws:List Way}:∀ (p:List Int) (u e:Int),wk ws u p=some e->Rch (Ed ws) u e
 | [],u,e,h=>by cases h;exact .refl _
 | k::p,u,e,h=>by
  rw [Cs] at h
  cases hw:wy ws k with
  | none=>rw [hw] at h;cases h
  | some w =>
   rw [hw] at h;dsimp only at h;split at h
   ·rename_i ha;exact .head ⟨w,K6 hw,ha,rfl⟩ (rch_wk p w.b e h)
   ·cases h
theorem wy_of {ws:List Way}{w:Way}(h:w∈ws):∃ i:Nat,i<ws.length/\wy ws (i:Int)=some w:=by
 obtain ⟨i,hi⟩:=List.mem_iff_getElem?.mp h;exact ⟨i,(quA.mp hi).1,by unfold wy;rw [if_pos (by omega),qqB];exact hi⟩
theorem wk_rch {ws:List Way}{u e:Int}(h:Rch (Ed ws) u e):∃ p,wk ws u p=some e:=by
 induction h with
 | refl=>exact ⟨[],rfl⟩
 | @tail v w h e ih =>
  obtain ⟨p,hp⟩:=ih;obtain ⟨x,hx,rfl,rfl⟩:=e;obtain ⟨i,_,hi⟩:=wy_of hx;refine ⟨p++[(i:Int)],?_⟩;rw [HH,hp];show wk ws x.a [(i:Int)]=_;rw [Cs,hi];dsimp only;rw [if_pos rfl]
  rfl
theorem wk_in {n:Net}(hn:NetW n){kn:List (Option Int)}(K:Knots n kn){k:Int}:∀ (p:List Int) (u e:Int),wk n.b u p=some e->kt kn u=some k->kt kn e=some k->∀ j∈p,∃ w,wy n.b j=some w/\In kn k w
 | [],_,_,_,_,_=>fun j hj=>nomatch hj
 | i::p,u,e,h,hu,he=>by
  rw [Cs] at h
  cases hw:wy n.b i with
  | none=>rw [hw] at h;cases h
  | some w =>
   rw [hw] at h;dsimp only at h;split at h
   ·rename_i ha;have hm:=K6 hw;have r:=(hn.w w hm).2;obtain ⟨b,hb,_⟩:=K.num w.b r.1 r.2;rw [<- ha] at hu;have e1:=K.fall w hm _ _ hu hb;have e2:=Lg hn K (rch_wk p w.b e h) _ _ hb he;have eb:(b:Int)=k:=by omega
    rw [eb] at hb;have ih:=wk_in hn K p w.b e h hb he;intro j hj;rcases qmA.mp hj with z|z
    ·rw [z];exact ⟨w,hw,hu,hb⟩
    ·exact ih j z
   ·cases h
theorem Ej {ws:List Way}{j:Int}{w:Way}(h:wy ws j=some w):∃ i:Nat,j=i/\ws[i]? = some w:=by
 unfold wy at h;by_cases hj:0<=j
 ·rw [if_pos hj] at h;exact ⟨j.toNat,by omega,h⟩
 ·rw [if_neg hj] at h;cases h
def mks (ws:List Way)(ring:List Int):List Int:=ring.flatMap fun k=>match wy ws k with|some w=>w.c.l|none=>[]
theorem Nl {ws:List Way}(a b:List Int):mks ws (a++b)=mks ws a++mks ws b:=by
 unfold mks;rw [List.flatMap_append]
theorem nsum_set {f:List Nat}{j:Nat}{x:Nat}(hj:f[j]? = some x):(f.set j 0).sum+x=f.sum:=by
 induction f generalizing j with
 | nil=>simp at hj
 | cons y f ih =>
  cases j with
  | zero=>simp at hj;subst hj;simp;omega
  | succ j =>
   have:=ih (j:=j) (by simpa using hj);simp only [List.set_cons_succ,List.sum_cons];omega
theorem Mc:∀ {L:List Nat}{f:List Nat},L.Nodup->(∀ i∈L,i<f.length)->(L.map fun i=>f[i]?.getD 0).sum<=f.sum
 | [],_,_,_=>qeC _
 | i::L,f,nd,h=>by
  have ⟨h1,h2⟩:=List.nodup_cons.mp nd;have hi:=h i (qqA ..);have g:=qvA hi;have ih:=Mc (L:=L) (f:=f.set i 0) h2 fun k hk=>by rw [List.length_set];exact h k (qrA _ hk)
  have e:(L.map fun k=>(f.set i 0)[k]?.getD 0)=L.map fun k=>f[k]?.getD 0:=List.map_congr_left fun k hk=>by
   rw [List.getElem?_set,if_neg (fun z:i=k=>h1 (by rw [z];exact hk))]
  rw [e] at ih;have:=nsum_set g;rw [qaB,List.sum_cons,g];show f[i]+_<=_;omega
theorem mks_one {ws:List Way}{k:Int}{w:Way}(h:wy ws k=some w):mks ws [k]=w.c.l:=by
 unfold mks;rw [List.flatMap_cons,List.flatMap_nil,qdB,h]
theorem st_mem {ws:List Way}{j:Int}{w:Way}{p:List Int}(h:wy ws j=some w)(hj:j∈p):w.a∈st ws p:=List.mem_filterMap.mpr ⟨j,hj,by rw [h];rfl⟩
theorem mks_st {ws:List Way}:∀ (p:List Int),(∀ j∈p,∃ w,wy ws j=some w)->(st ws p).Nodup->∃ L:List Nat,L.Nodup/\(∀ i∈L,i<ws.length/\(i:Int)∈p)/\(mks ws p).length=(L.map fun i=>(ws.map fun w=>w.c.l.length)[i]?.getD 0).sum
 | [],_,_=>⟨[],by simp,fun i h=>(nomatch h),rfl⟩
 | j::p,h,nd=>by
  obtain ⟨w,hw⟩:=h j (qqA ..);rw [Hj hw] at nd;obtain ⟨n1,n2⟩:=List.nodup_cons.mp nd;obtain ⟨L,l1,l2,l3⟩:=mks_st p (fun k hk=>h k (qrA _ hk)) n2;obtain ⟨i,rfl,hi⟩:=Ej hw;refine ⟨i::L,List.nodup_cons.mpr ⟨fun hm=>n1 (st_mem hw (l2 i hm).2),l1⟩,fun k hk=>?_,?_⟩
  ·rcases qmA.mp hk with rfl|hk
   ·exact ⟨(quA.mp hi).1,qqA ..⟩
   ·exact ⟨(l2 k hk).1,qrA _ (l2 k hk).2⟩
  ·have e:mks ws ((i:Int)::p)=mks ws [(i:Int)]++mks ws p:=Nl [(i:Int)] p;rw [e,qfA,mks_one hw,l3,qaB,List.sum_cons,qzA,hi]
   rfl
theorem mks_le {ws:List Way}{p:List Int}(h:∀ j∈p,∃ w,wy ws j=some w)(nd:(st ws p).Nodup):(mks ws p).length<=(ws.map fun w=>w.c.l.length).sum:=by
 obtain ⟨L,l1,l2,l3⟩:=mks_st p h nd;rw [l3];exact Mc l1 fun i hi=>by rw [qeA];exact (l2 i hi).1
structure Ring (n:Net)(b:Int)(ring:List Int):Prop where
 w:wk n.b b ring=some b
 ne:ring ≠ []
 m:∀ m,0<=m->m<n.c->ring.any (tk n.b m)=true
 le:(ring.length:Int)<=n.a * (n.c+1)
 mkl:(mks n.b ring).length<=(n.c.toNat+1) * (n.b.map fun w=>w.c.l.length).sum
theorem GN {α:Type}{l:List α}{f:α->Bool}{i:Nat}{x:α}(h:l[i]? = some x):bt (l.map f) (i:Int)=f x:=Dn (by rw [qzA,h];rfl)
theorem HZ {n:Net}(hn:NetW n){kn:List (Option Int)}(K:Knots n kn){b:Int}(hH:Hub n b):OK (CQ n kn b) (Ring n b):=by
 have hs:sizeLine=16777216:=qoB;have hbr:=RP hn hH;have h0:=hn.a0;have h1:=hn.a1;have hc0:=hn.c0;have hc1:=hn.c1;have hac:=hn.ac;have hkl:=K.len;obtain ⟨N,hN⟩:=qrB h0;have hNt:n.a.toNat=N:=by omega
 obtain ⟨C,hC⟩:=qrB hc0;obtain ⟨k,hk,_⟩:=K.num b hbr.1 hbr.2;unfold CQ;simp only [qpB,Ag,Ab]
 have at_:∀ {u:Int},0<=u->u<n.a->atI kn u=some (kt kn u):=fun {u} h0 h1=>by
  obtain ⟨j,rfl⟩:=qrB h0;have hj:j<kn.length:=by omega
  have g:=qvA hj;rw [GV g];exact DQ g
 refine AB (F5 (g:=fun w:Way=>decide (kt kn w.a=kt kn w.b)) (fun w hw=>?_) ?_)
 ·have r:=hn.w w hw;rw [at_ r.1.1 r.1.2,at_ r.2.1 r.2.2]
  rfl
 refine B8 (GZ hn (by rw [qeA])) fun lv L=>?_;rw [hNt] at L;have hwN:∀ w∈n.b,N3 N w:=fun w hw=>by rw [<- hN];exact hn.w w hw
 have allow:∀ {j:Int}{w:Way},wy n.b j=some w->(bt (n.b.map fun w:Way=>decide (kt kn w.a=kt kn w.b)) j=true ↔ kt kn w.a=kt kn w.b):=fun {j w} h=>by
  obtain ⟨i,rfl,hi⟩:=Ej h;rw [GN hi,decide_eq_true_iff]
 have found:∀ {wd:List Bool}{here:Int}{w:Way},kt kn here=some (k:Int)->w∈n.b->In kn k w->(∀ j,wy n.b j=some w->bt wd j=true)->¬Nowh n.b (fun j=>bt (n.b.map fun w:Way=>decide (kt kn w.a=kt kn w.b)) j=true) wd here:=fun {wd here w} hh hw hi hb hno=>by
  obtain ⟨p,hp⟩:=wk_rch (K.same here w.a k hh hi.1);obtain ⟨i,_,hi2⟩:=wy_of hw
  have hpw:wk n.b here (p++[(i:Int)])=some w.b:=by
   rw [HH,hp];show wk n.b w.a [(i:Int)]=_;rw [Cs,hi2];dsimp only;rw [if_pos rfl]
   rfl
  have hin:=wk_in hn K _ _ _ hpw hh hi.2
  have:=hno _ _ hpw (fun j hj=>by
   obtain ⟨w',hw',hi'⟩:=hin j hj
   exact (allow hw').mpr (hi'.1.trans hi'.2.symm)) i (by simp)
  rw [hb i hi2] at this;cases this
 have inK:∀ (p:List Int) (u e:Int),wk n.b u p=some e->kt kn u=some (k:Int)->(∀ j∈p,bt (n.b.map fun w:Way=>decide (kt kn w.a=kt kn w.b)) j=true)->kt kn e=some (k:Int):=by
  intro p
  induction p with
  | nil=>intro u e h hu _;cases h;exact hu
  | cons j p ih =>
   intro u e h hu ha;rw [Cs] at h
   cases hw:wy n.b j with
   | none=>rw [hw] at h;cases h
   | some w =>
    rw [hw] at h;dsimp only at h;split at h
    ·rename_i hwa;have:=(allow hw).mp (ha j (qqA ..));exact ih w.b e h (by rw [<- this,hwa];exact hu) fun i hi=>ha i (qrA _ hi)
    ·cases h
 rw [hC];refine AB (Eb (n:=C) (by omega) (by omega) (by omega) ?_)
 have bound:∀ {i:Nat},i<=C->N * i+N<=1000000:=fun {i} hi=>by
  have e1:N * i<=N * C:=Nat.mul_le_mul_left N hi
  have e2:n.a * (n.c+1)=((N * C+N:Nat):Int):=by
   rw [hN,hC];have:((N:Int)) * ((C:Int)+1)=(N:Int) * C+N:=by rw [Int.mul_add,Int.mul_one]
   rw [this];omega
  omega
 refine AB (BP (fun i (s:List Int × Int)=>wk n.b b s.1=some s.2/\kt kn s.2=some (k:Int)/\(0<=s.2/\s.2<n.a)/\s.1.length<=N * i/\(∀ m:Nat,m<i->s.1.any (tk n.b m)=true)/\(mks n.b s.1).length<=i * (n.b.map fun w=>w.c.l.length).sum) ⟨rfl,hk,hbr,qeC _,fun m hm=>by omega,qeC _⟩ (fun i m s hm hI=>?_) fun s hI=>?_)
 ·obtain ⟨hi,rfl⟩:i<C/\(0:Int)+(i:Int)=m:=by
   have:=quA.mp hm
   simpa using this
  obtain ⟨s1,s2,s3,s4,s5,s6⟩:=hI;rw [Int.zero_add];have e6:(i+1) * (n.b.map fun w=>w.c.l.length).sum=i * (n.b.map fun w=>w.c.l.length).sum+(n.b.map fun w=>w.c.l.length).sum:=Nat.succ_mul ..;rw [taken_eq (fun k hk=>IP n.b s.1 b s.2 s1 k hk)];simp only [Ag];have bd:=bound (i:=i) (by omega);have e3:N * (i+1)=N * i+N:=Nat.mul_succ N i;refine AZ (fun hb=>?_) fun hb=>?_
  ·obtain ⟨w,hw,g1,g2,g3⟩:=hH.2 i (by omega) (by omega);have hin:=(En hn K hk hw).mpr ⟨g1,g2⟩;refine AB (F5 (g:=fun w:Way=>decide ((i:Int)∈w.c.l)) (fun _ _=>rfl) ?_);refine AB ((NM (by omega) hwN L (by omega) (by rw [qeA])).mono fun r hr=>?_)
   cases r with
   | none =>
    exact (found s2 hw hin (fun j hj=>by
     obtain ⟨i',rfl,hi'⟩:=Ej hj;rw [GN hi',decide_eq_true_iff]
     exact g3) hr).elim
   | some p =>
    obtain ⟨q,j,x,hp,hj,hwk,hwd,_⟩:=hr.w;have hpl:=hr.le;simp only [Ag];refine AB (OK.of (if_pos (by omega)) ?_);have hlast:(s.1++p)=(s.1++q)++[j]:=by rw [hp,qcB]
    have hat:atI (s.1++p) (-1)=some j:=by rw [hlast];exact JT _ j
    rw [hat];simp only [Ag];rw [(PY hj).1];simp only [Ag];have hwk2:wk n.b b (s.1++p)=some x.b:=by rw [HH,s1];exact hwk
    refine AD ⟨_,rfl,hwk2,inK p s.2 x.b hwk s2 hr.a,(hn.w x (K6 hj)).2,?_,fun m hm=>?_,?_⟩
    ·try dsimp only
     rw [qfA];omega
    ·try dsimp only
     rw [List.any_append,Bool.or_eq_true];by_cases e:m=i
     ·subst e;refine .inr (List.any_eq_true.mpr ⟨j,by rw [hp];simp,?_⟩);obtain ⟨i',rfl,hi'⟩:=Ej hj;rw [GN hi',decide_eq_true_iff] at hwd;unfold tk;rw [hj];exact decide_eq_true hwd
     ·exact .inl (s5 m (by omega))
    ·have:=mks_le (fun k hk=>IP n.b p s.2 x.b hwk k hk) hr.nd;rw [Nl,qfA,e6];exact Nat.add_le_add s6 this
  ·have ht:s.1.any (tk n.b (i:Int))=true:=by
    cases hh:s.1.any (tk n.b (i:Int)) with
    | true=>rfl
    | false=>rw [hh] at hb;cases hb
   refine AD ⟨_,rfl,s1,s2,s3,by try dsimp only;omega,fun m hm=>?_,by rw [e6];exact qgB s6 (Nat.le_add_right _ _)⟩;by_cases e:m=i
   ·subst e;exact ht
   ·exact s5 m (by omega)
 ·obtain ⟨s1,s2,s3,s4,s5,s6⟩:=hI;simp only [qeA,qiA] at s4 s5;rw [qeA,qiA] at s6;have eC:n.c.toNat=C:=by omega
  have e6:(C+1) * (n.b.map fun w=>w.c.l.length).sum=C * (n.b.map fun w=>w.c.l.length).sum+(n.b.map fun w=>w.c.l.length).sum:=Nat.succ_mul ..;have bd:=bound (i:=C) (qfB _)
  have e2:n.a * (n.c+1)=((N * C+N:Nat):Int):=by
   rw [hN,hC];have:((N:Int)) * ((C:Int)+1)=(N:Int) * C+N:=by rw [Int.mul_add,Int.mul_one]
   rw [this];omega
  have marks:∀ (l:List Int),(∀ m,s.1.any (tk n.b m)=true->l.any (tk n.b m)=true)->∀ m,0<=m->m<n.c->l.any (tk n.b m)=true:=fun l hl m m0 m1=>by
   refine hl m ?_;have:=s5 m.toNat (by omega)
   rwa [Int.toNat_of_nonneg m0] at this
  refine AZ (fun hb=>?_) fun hb=>?_
  ·
   obtain ⟨w,hw,g1,g2⟩:=hH.1;have hin:=(En hn K hk hw).mpr ⟨g1,g2⟩
   have lastw:∃ w',w'∈n.b/\In kn k w'/\w'.b=b:=by
    cases g2 with
    | refl=>exact ⟨w,hw,hin,rfl⟩
    | @tail v _ hr e =>
     obtain ⟨x,hx,hxa,hxb⟩:=e;refine ⟨x,hx,(En hn K hk hx).mpr ⟨?_,by rw [hxb];exact .refl _⟩,hxb⟩;rw [hxa];exact (g1.trans (.one ⟨w,hw,rfl,rfl⟩)).trans hr
   obtain ⟨w',hw',hin',hwb⟩:=lastw;refine AB (F5 (g:=fun w:Way=>decide (w.b=b)) (fun _ _=>rfl) ?_);refine AB ((NM (by omega) hwN L (by omega) (by rw [qeA])).mono fun r hr=>?_)
   cases r with
   | none =>
    exact (found s2 hw' hin' (fun j hj=>by
     obtain ⟨i',rfl,hi'⟩:=Ej hj;rw [GN hi',decide_eq_true_iff]
     exact hwb) hr).elim
   | some p =>
    obtain ⟨q,j,x,hp,hj,hwk,hwd,_⟩:=hr.w;have hpl:=hr.le
    have hxb:x.b=b:=by
     obtain ⟨i',rfl,hi'⟩:=Ej hj;rw [GN hi',decide_eq_true_iff] at hwd;exact hwd
    refine OK.of (if_pos (by omega)) ⟨by rw [HH,s1];exact hwk.trans (by rw [hxb]),by rw [hp];simp,marks _ fun m hm=>by rw [List.any_append,hm];rfl,?_,?_⟩
    ·rw [e2,qfA];omega
    ·have:=mks_le (fun k hk=>IP n.b p s.2 x.b hwk k hk) hr.nd;rw [Nl,qfA,eC,e6];exact Nat.add_le_add s6 this
  ·rw [Bool.or_eq_false_iff] at hb;have e4:s.2=b:=by simpa using hb.2
   have e5:s.1 ≠ []:=fun e=>by rw [e] at hb;simp at hb
   refine AD ⟨by rw [s1,e4],e5,marks _ fun m hm=>hm,?_,by rw [eC,e6];exact qgB s6 (Nat.le_add_right _ _)⟩;rw [e2];omega
structure FairR (n:Net)(u:Int)(stem ring:List Int):Prop where
 ex:∃ v,wk n.b u stem=some v/\Ring n v ring
 le:(stem.length:Int)<n.a
theorem NF {n:Net}(hn:NetW n){u:Int}(hu:0<=u/\u<n.a):OK (Dv n u) fun r=>match r with|none=>¬JN n u|some p=>FairR n u p.1 p.2:=by
 have hs:sizeLine=16777216:=qoB;have h0:=hn.a0;have h1:=hn.a1;obtain ⟨N,hN⟩:=qrB h0;have hNt:n.a.toNat=N:=by omega
 have hwN:∀ w∈n.b,N3 N w:=fun w hw=>by rw [<- hN];exact hn.w w hw
 unfold Dv;simp only [qpB,Ag,Ab];refine B8 (OH hn) fun kn K=>B8 (Mi hn K) fun ws ⟨S,W⟩=>?_;refine B8 (OS hn K W (fun k=>rfl)) fun fr ⟨l1,l2⟩=>?_;refine AB (ok_atZ hu.1 (by omega) fun k x hk hx=>?_);have hxe:=Dn hx;rw [<- hk] at hxe;have hux:=l2 u hu.1 hu.2;rw [hxe] at hux;refine AZ (fun hb=>?_) fun hb=>?_
 ·subst hb;refine AB ((HZ hn K (hux.mp rfl)).mono fun ring hr=>?_);exact AD ⟨⟨u,rfl,hr⟩,by show ((0:Nat):Int)<n.a;omega⟩
 ·subst hb;have nh:¬Hub n u:=fun h=>by have:=hux.mpr h;cases this
  refine AB (F5 (g:=fun _:Way=>true) (fun _ _=>rfl) ?_);refine B8 (GZ hn (by rw [qeA])) fun lv L=>?_;rw [hNt] at L
  have at_:∀ {v:Int},0<=v->v<n.a->atI fr v=some (bt fr v):=fun {v} h0 h1=>by
   obtain ⟨j,rfl⟩:=qrB h0;have hj:j<fr.length:=by omega
   have g:=qvA hj;rw [Dn g];exact DQ g
  refine AB (F5 (g:=fun w:Way=>bt fr w.b) (fun w hw=>?_) ?_)
  ·have r:=hn.w w hw;exact at_ r.2.1 r.2.2
  refine AB ((NM (by omega) hwN L (by omega) (by rw [qeA])).mono fun r hr=>?_)
  have allow:∀ {j:Int}{w:Way},wy n.b j=some w->bt (n.b.map fun _:Way=>true) j=true:=fun {j w} h=>by
   obtain ⟨i,rfl,hi⟩:=Ej h;rw [GN hi]
  cases r with
  | none =>
   refine AD ?_;show ¬JN n u;rintro ⟨v,hr',hh⟩
   cases hr' with
   | refl=>exact nh hh
   | @tail v' _ hp e =>
    obtain ⟨x,hx,rfl,rfl⟩:=e;obtain ⟨p,hp⟩:=wk_rch hp;obtain ⟨i,_,hi⟩:=wy_of hx
    have hpw:wk n.b u (p++[(i:Int)])=some x.b:=by
     rw [HH,hp];show wk n.b x.a [(i:Int)]=_;rw [Cs,hi];dsimp only;rw [if_pos rfl]
     rfl
    have:=hr _ _ hpw (fun j hj=>by
     obtain ⟨w,hw⟩:=IP n.b _ _ _ hpw j hj
     exact allow hw) i (by simp)
    obtain ⟨i',e',hi'⟩:=Ej hi;rw [e',GN hi'] at this;have rx:=(hn.w x hx).2;rw [(l2 x.b rx.1 rx.2).mpr hh] at this;cases this
  | some p =>
   obtain ⟨q,j,x,hp,hj,hwk,hwd,hq⟩:=hr.w;obtain ⟨i',e',hi'⟩:=Ej hj;rw [e',GN hi'] at hwd;have rx:=(hn.w x (K6 hj)).2;have hub:=(l2 x.b rx.1 rx.2).mp hwd;have hat:atI p (-1)=some j:=by rw [hp];exact JT _ j
   simp only [Ag,Option.isNone_some,cond_false];rw [hat];simp only [Ag];rw [(PY hj).1];simp only [Ag];refine AB ((HZ hn K hub).mono fun ring hring=>AD ⟨⟨x.b,hwk,hring⟩,?_⟩)
   have starts:∀ (p:List Int) (u e:Int),wk n.b u p=some e->¬Hub n u->(∀ q j,p=q++[j]->∀ i∈q,bt (n.b.map fun w:Way=>bt fr w.b) i=false)->∀ v∈st n.b p,¬Hub n v:=by
    intro p
    induction p with
    | nil=>intro u e _ _ _ v hv;cases hv
    | cons k p ih =>
     intro u e h hu hq v hv;rw [Cs] at h
     cases hw:wy n.b k with
     | none=>rw [hw] at h;cases h
     | some w =>
      rw [hw] at h;dsimp only at h;split at h
      ·rename_i ha;rw [Hj hw] at hv;rcases qmA.mp hv with z|z
       ·rw [z,ha];exact hu
       ·cases p with
        | nil=>cases z
        | cons k2 p2 =>
         refine ih w.b e h ?_ ?_ v z
         ·obtain ⟨q',j',hqj⟩:∃ q' j',k2::p2=q'++[j']:=⟨_,_,(List.dropLast_concat_getLast (List.cons_ne_nil k2 p2)).symm⟩;have:=hq (k::q') j' (by rw [hqj];rfl) k (qqA ..);obtain ⟨i2,e2,hi2⟩:=Ej hw;rw [e2,GN hi2] at this;intro hh;have rw_:=(hn.w w (K6 hw)).2;rw [(l2 w.b rw_.1 rw_.2).mpr hh] at this;cases this
         ·intro q' j' hqj i hi;exact hq (k::q') j' (by rw [hqj];rfl) i (qrA _ hi)
      ·cases h
   have nhs:=starts p u x.b hwk nh fun q' j' hqj i hi=>by
    rw [hp] at hqj;have:=(List.append_inj' hqj rfl).1;rw [<- this] at hi;exact hq i hi
   have nd2:(x.b::st n.b p).Nodup:=List.nodup_cons.mpr ⟨fun hm=>nhs _ hm hub,hr.nd⟩
   have:=Bz nd2 (m:=(List.range N).map fun (i:Nat)=>(i:Int)) fun v hv=>by
    have hv':0<=v/\v<N:=by
     rcases qmA.mp hv with z|z
     ·rw [z];omega
     ·exact hr.rg v z
    exact qnA.mpr ⟨v.toNat,by rw [qsA];omega,by omega⟩
   simp only [qgA,qeA,qiA] at this;have:=hr.len;show (p.length:Int)<n.a;omega
theorem N1:∀ {ws:List Way},(∀ x∈ws,x.c.l.length<=12)->(ws.map fun w=>w.c.l.length).sum<=12 * ws.length
 | [],_=>qfB _
 | w::ws,h=>by
  have h1:=h w (qqA ..);have h2:=N1 (ws:=ws) fun x hx=>h x (qrA _ hx);rw [qaB,List.sum_cons,qgA];omega
def rf (m:Int):Lk->Bool
 | none=>true
 | some (r,none)=>decide (0<=r)
 | some (r,some k)=>decide (0<=r) && (decide (0<=k) && decide (k<m))
def wf (t:List Int):Lk->Lk->Bool
 | none,_=>true
 | some _,none=>false
 | some (r,none),some (r',_)=>!decide (r<r') && decide (r'<r)
 | some (r,some k),some (r',l')=>!decide (r<r') && (decide (r'<r) || (decide (some k=l') && !decide (k∈t)))
def gt (rows:List Lk)(i:Int):Lk:=(atI rows i).getD none
theorem gt_nat {rows:List Lk}{u:Nat}{x:Lk}(h:rows[u]? = some x):gt rows (u:Int)=x:=by
 unfold gt;rw [DQ h]
 rfl
theorem Nm {rows:List Lk}{u:Int}(h0:0<=u)(h1:u<rows.length):∃ i:Nat,u=i/\rows[i]? = some (gt rows u):=by
 obtain ⟨i,rfl⟩:=qrB h0;have hi:i<rows.length:=by omega
 have e:=qvA hi;exact ⟨i,rfl,by rw [gt_nat e];exact e⟩
theorem SE {n:Net}{u v:Int}(e:Ed n.b u v)(h:JN n v):JN n u:=by
 obtain ⟨x,h1,h2⟩:=h;exact ⟨x,.head e h1,h2⟩
theorem Shut.non {n:Net}{kn:List (Option Int)}{rows:List Lk}(S:Shut n kn rows){u:Int}(h0:0<=u)(h1:u<n.a):gt rows u=none ↔ JN n u:=by
 have hl:=S.len;obtain ⟨i,rfl,hi⟩:=Nm (rows:=rows) h0 (by omega);exact S.fr i _ hi
theorem Shut.fit {n:Net}(hn:NetW n){kn:List (Option Int)}(K:Knots n kn){rows:List Lk}(S:Shut n kn rows){w:Way}(hw:w∈n.b):wf w.c.l (gt rows w.a) (gt rows w.b)=true:=by
 have hl:=S.len;have r:=hn.w w hw;obtain ⟨i,hia,hi⟩:=Nm (rows:=rows) r.1.1 (by have:=r.1.2;omega);obtain ⟨j,hjb,hj⟩:=Nm (rows:=rows) r.2.1 (by have:=r.2.2;omega)
 cases ha:My.gt rows w.a with
 | none=>rfl
 | some p =>
  rw [ha] at hi
  have nf:¬JN n w.a:=fun h=>by
   rw [hia] at h;have:=(S.fr i _ hi).mpr h;cases this
  cases hb:My.gt rows w.b with
  | none =>
   rw [hb] at hj;have hf:=(S.fr j _ hj).mp rfl;rw [<- hjb] at hf;exact absurd (SE ⟨w,hw,rfl,rfl⟩ hf) nf
  | some q =>
   rw [hb] at hj;obtain ⟨k,l⟩:=p;obtain ⟨k',l'⟩:=q;obtain ⟨s1,s2,s3⟩:=S.sh i k l hi;obtain ⟨t1,t2,t3⟩:=S.sh j k' l' hj;obtain ⟨f,hf⟩:=S.lk;rw [<- hia] at s1;rw [<- hjb] at t1;have hle:=K.fall w hw _ _ s1 t1;have e1:decide (k<k')=false:=decide_eq_false (by omega);by_cases hlt:k'<k
   ·cases l with
    | none =>
     show (!decide (k<k') && decide (k'<k))=true;rw [e1,decide_eq_true hlt]
     rfl
    | some m =>
     show (!decide (k<k') && (decide (k'<k) || _))=true;rw [e1,decide_eq_true hlt]
     rfl
   ·have ek:k'=k:=by omega
    subst ek;have hin:In kn k' w:=⟨s1,t1⟩;have ll:l=l':=(hf i k' l hi).trans (hf j k' l' hj).symm;subst ll
    cases l with
    | none=>exact absurd hin (s2 rfl w hw)
    | some m =>
     show (!decide (k'<k') && (decide (k'<k') || (decide (some m=some m) && !decide (m∈w.c.l))))=true;have hm:=(s3 m rfl).2 w hw hin;rw [decide_eq_false (Int.lt_irrefl k'),decide_eq_true rfl,decide_eq_false hm]
     rfl
theorem Shut.kind {n:Net}(hn:NetW n){kn:List (Option Int)}(K:Knots n kn){rows:List Lk}(S:Shut n kn rows){x:Lk}(hx:x∈rows):rf n.c x=true:=by
 obtain ⟨i,hi⟩:=List.mem_iff_getElem?.mp hx;have hil:=(quA.mp hi).1;have hl:=S.len
 match x,hi with
 | none,_=>rfl
 | some (k,l),hi =>
  obtain ⟨s1,s2,s3⟩:=S.sh i k l hi;obtain ⟨k',hk',_⟩:=K.num i (by omega) (by omega);rw [s1] at hk';cases hk'
  cases l with
  | none =>
   show decide (0<=(k':Int))=true;exact decide_eq_true (by omega)
  | some m =>
   have:=(s3 m rfl).1;show (decide (0<=(k':Int)) && (decide (0<=m) && decide (m<n.c)))=true;rw [decide_eq_true (by omega),decide_eq_true this.1,decide_eq_true this.2]
   rfl
def nxt (S P p:Nat):Nat:=if p+1<P then p+1 else S
theorem nxt_lt {S P p:Nat}(h:S<P):nxt S P p<P:=by
 unfold nxt;split<;>omega
theorem RN {stem ring:List Str}{p:Nat}(h:p<stem.length+ring.length):GK (stem,ring) (p:Int)=some (p:Int):=by
 refine OK.eq ?_;unfold GK;simp only [qpB,Ag,Ab];refine AZ (fun _=>AD rfl) fun e=>?_;have e:=of_decide_eq_false e;refine AB (GW (by omega) (AD ?_));rw [Int.emod_eq_of_lt (by omega) (by omega)];omega
theorem Rh {stem ring:List Str}{p:Nat}(h:p<stem.length+ring.length)(hr:0<ring.length):GK (stem,ring) ((p:Int)+1)=some (nxt stem.length (stem.length+ring.length) p:Int):=by
 unfold nxt;by_cases hl:p+1<stem.length+ring.length
 ·rw [if_pos hl];exact RN (p:=p+1) hl
 ·rw [if_neg hl];refine OK.eq ?_;unfold GK;simp only [qpB,Ag,Ab];refine AZ (fun e=>?_) fun e=>?_
  ·have e:=of_decide_eq_true e;omega
  ·refine AB (GW (by omega) (AD ?_));have e2:(p:Int)+1 - (stem.length:Int)=(ring.length:Int):=by omega
   rw [e2,Int.emod_self];omega
theorem sign_ok {stem ring:List Str}{p:Nat}{x:Str}(h:(stem++ring)[p]? = some x):Jx (stem,ring) (p:Int)=some x:=by
 have hp:=(quA.mp h).1;rw [qfA] at hp;refine OK.eq ?_;unfold Jx;simp only [qpB,Ag,Ab,RN hp];refine AZ (fun e=>?_) fun e=>?_
 ·have e:=of_decide_eq_true e;rw [qwA (by omega)] at h;exact OK.of (DQ h) rfl
 ·have e:=of_decide_eq_false e;rw [qxA (by omega)] at h;rw [show (p:Int) - (stem.length:Int)=((p - stem.length:Nat):Int) by omega];exact OK.of (DQ h) rfl
abbrev Rw4:=T4 Int Str Int (Tp Int)
structure Al (rows:List Rw4)(sh:List Str)(S P C i:Nat)(ws:List Way)(gone:List Int):Prop where
 len:gone.length=ws.length
 to:∀ (j:Nat) w,ws[j]? = some w->∃ (p k:Nat) (r:Rw4),p<i/\rows[k]? = some r/\gone[j]? = some (k:Int)/\w.a=(p:Int) * (C:Int)+r.a/\w.b=(nxt S P p:Int) * (C:Int)+r.c/\sh[p]? = some r.b/\w.c=r.d
 of:∀ (p:Nat) (r:Rw4),p<i->r∈rows->sh[p]? = some r.b->∃ w∈ws,w.a=(p:Int) * (C:Int)+r.a/\w.b=(nxt S P p:Int) * (C:Int)+r.c/\w.c=r.d
theorem Pb {α:Type}:∀ (l:List α) (k:Nat),(Bp k l).length=l.length
 | [],_=>rfl
 | x::l,k=>by show (Bp (k+1) l).length+1=_;rw [Pb l];rfl
theorem Al.snoc {rows:List Rw4}{sh:List Str}{S P C i:Nat}{ws:List Way}{gone:List Int}{w:Way}{k:Nat}{r:Rw4}(h:∀ (j:Nat) w,ws[j]? = some w->∃ (p k:Nat) (r:Rw4),p<i/\rows[k]? = some r/\gone[j]? = some (k:Int)/\w.a=(p:Int) * (C:Int)+r.a/\w.b=(nxt S P p:Int) * (C:Int)+r.c/\sh[p]? = some r.b/\w.c=r.d)(len:gone.length=ws.length)
  (hw:∃ p,p<i/\w.a=(p:Int) * (C:Int)+r.a/\w.b=(nxt S P p:Int) * (C:Int)+r.c/\sh[p]? = some r.b/\w.c=r.d) (hk:rows[k]? = some r) :
  ∀ (j:Nat) w',(ws++[w])[j]? = some w'->∃ (p k':Nat) (r:Rw4),p<i/\rows[k']? = some r/\(gone++[(k:Int)])[j]? = some (k':Int)/\w'.a=(p:Int) * (C:Int)+r.a/\w'.b=(nxt S P p:Int) * (C:Int)+r.c/\sh[p]? = some r.b/\w'.c=r.d:=fun j w' hj=>by
 by_cases hjl:j<ws.length
 ·rw [qwA hjl] at hj;rw [qwA (by omega)];exact h j w' hj
 ·have hj2:=(quA.mp hj).1;rw [qfA,qhA] at hj2;have e:j=ws.length:=by omega
  subst e;rw [qxA (qfB _),Nat.sub_self] at hj;cases qjB hj;rw [qxA (by omega),len,Nat.sub_self];obtain ⟨p,h1,h2⟩:=hw;exact ⟨p,k,r,h1,hk,rfl,h2⟩
theorem along_ok {lamps:Str}{rows:List Rw4}{marks:Int}{stem ring:List Str}{sh:List Str}{C R:Nat}(hr:0<ring.length)(hP:stem.length+ring.length<=200)(hz:rows.length<=R)(hR:R<=400)(hC:1<=C)(hC2:C<=1000)
  (hsh:∀ (p:Nat) x,(stem++ring)[p]? = some x->∃ y,Il x lamps=some y/\sh[p]? = some y) :
  OK (Dr ⟨lamps,(C:Int),rows,marks⟩ (stem,ring)) fun q=>q.1.a=(((stem.length+ring.length) * C:Nat):Int)/\q.1.c=marks/\q.1.b.length<=R * (stem.length+ring.length)/\Al rows sh stem.length (stem.length+ring.length) C (stem.length+ring.length) q.1.b q.2:=by
 have hs:sizeLine=16777216:=qoB;unfold Dr;simp only [qpB,Ag,Ab];generalize hPe:stem.length+ring.length=P at *;refine AB (Eb (n:=P) (by omega) (by omega) (by omega) ?_);refine AB (BP (fun i (st:List Way × List Int)=>st.1.length<=R * i/\Al rows sh stem.length P C i st.1 st.2) ⟨qeC _,rfl,fun j w h=>(nomatch h),fun p r h=>by omega⟩ (fun i a st hi hI=>?_) fun st hI=>?_)
 ·obtain ⟨hi,rfl⟩:i<P/\(0:Int)+(i:Int)=a:=by
   have:=quA.mp hi
   simpa using this
  rw [Int.zero_add];have hx:=qvA (l:=stem++ring) (i:=i) (by rw [qfA];omega);obtain ⟨y,hy1,hy2⟩:=hsh i _ hx;rw [sign_ok hx];simp only [Ag];rw [hy1];simp only [Ag];rw [Rh (by omega) hr,hPe];simp only [Ag];obtain ⟨i1,i2⟩:=hI;have hRi:R * i<=400 * 200:=Nat.mul_le_mul hR (by omega)
  refine AB (BP (fun j (s2:List Way × List Int)=>s2.1.length<=R * i+j/\s2.2.length=s2.1.length/\(∀ w∈st.1,w∈s2.1)/\(∀ (j:Nat) w,s2.1[j]? = some w->∃ (p k:Nat) (r:Rw4),p<i+1/\rows[k]? = some r/\s2.2[j]? = some (k:Int)/\w.a=(p:Int) * (C:Int)+r.a/\w.b=(nxt stem.length P p:Int) * (C:Int)+r.c/\sh[p]? = some r.b/\w.c=r.d)/\∀ (k:Nat) r,k<j->rows[k]? = some r->sh[i]? = some r.b->∃ w∈s2.1,w.a=(i:Int) * (C:Int)+r.a/\w.b=(nxt stem.length P i:Int) * (C:Int)+r.c/\w.c=r.d)
   ⟨i1,i2.len,fun w h=>h,fun j w h=>by
    obtain ⟨p,k,r,h1,h2⟩:=i2.to j w h
    exact ⟨p,k,r,by omega,h2⟩,fun k r h=>by omega⟩ (fun j q s2 hq hJ=>?_) fun s2 hJ=>?_)
  ·rw [Ce] at hq;obtain ⟨r,hr2,rfl⟩:=qiB.mp hq;have hj:=(quA.mp hr2).1;obtain ⟨j1,j2,j3,j4,j5⟩:=hJ;rw [Nat.zero_add];refine AZ (fun e=>?_) fun e=>?_
   ·have e:=of_decide_eq_true e;refine AB (Ja (.inr ⟨by omega,by omega⟩) (AB (Ja (.inr ⟨by omega,by omega⟩) ?_)));refine AB (DO (by omega) (AB (DO (by omega) (AD ⟨_,rfl,?_,?_,?_,?_,?_⟩))))
    ·rw [qfA,qhA];omega
    ·rw [qfA,qfA,qhA,qhA];omega
    ·exact fun w h=>List.mem_append_left _ (j3 w h)
    ·exact Al.snoc j4 j2 ⟨i,by omega,rfl,rfl,by rw [hy2,e],rfl⟩ hr2
    ·intro k r' hk hr' hs';by_cases hkj:k=j
     ·subst hkj;rw [hr2] at hr';cases hr';exact ⟨_,qaC _ (qpA.mpr rfl),rfl,rfl,rfl⟩
     ·obtain ⟨w,hw,h2⟩:=j5 k r' (by omega) hr' hs';exact ⟨w,List.mem_append_left _ hw,h2⟩
   ·have e:=of_decide_eq_false e;refine AD ⟨_,rfl,by dsimp only;omega,j2,j3,j4,fun k r' hk hr' hs'=>?_⟩;by_cases hkj:k=j
    ·subst hkj;rw [hr2] at hr';cases hr';rw [hy2] at hs';exact absurd (qjB hs').symm e
    ·exact j5 k r' (by omega) hr' hs'
  ·obtain ⟨j1,j2,j3,j4,j5⟩:=hJ;rw [Pb] at j1 j5;refine AD ⟨_,rfl,by rw [Nat.mul_add];dsimp only;omega,j2,j4,fun p r hp hrm hs'=>?_⟩;by_cases hpi:p=i
   ·subst hpi;obtain ⟨k,hk⟩:=List.mem_iff_getElem?.mp hrm;exact j5 k r (quA.mp hk).1 hk hs'
   ·obtain ⟨w,hw,h2⟩:=i2.of p r (by omega) hrm hs';exact ⟨w,j3 w hw,h2⟩
 ·obtain ⟨i1,i2⟩:=hI;rw [qeA,qiA] at i1 i2;refine AB (Ja (.inr ⟨by omega,by omega⟩) (AD ⟨?_,rfl,i1,i2⟩));show ((stem.length:Int)+(ring.length:Int)) * (C:Int)=_;rw [Int.natCast_mul,<- hPe,Int.natCast_add]
def Ky (l:List (Int × Bool)):Prop:=(l.map (·.1)).Nodup
theorem has_key {l:List (Int × Bool)}{k:Int}:hasM l k=true ↔ k∈l.map (·.1):=by
 unfold hasM;rw [List.any_eq_true,qnA];constructor
 ·rintro ⟨q,h1,h2⟩;exact ⟨q,h1,of_decide_eq_true h2⟩
 ·rintro ⟨q,h1,h2⟩;exact ⟨q,h1,decide_eq_true h2⟩
theorem Ky.put {l:List (Int × Bool)}(h:Ky l)(k:Int):Ky (JU l k true)/\∀ x,x∈(JU l k true).map (·.1) ↔ x=k\/x∈l.map (·.1):=by
 refine ⟨?_,fun x=>?_⟩
 ·cases hk:hasM l k with
  | false =>
   rw [Oh hk];unfold Ky;rw [qbB];refine qeB.mpr ⟨h,by simp,fun a ha b hb e=>?_⟩;have hb:b=k:=by simpa using hb
   rw [e,hb] at ha;rw [has_key.mpr ha] at hk;cases hk
  | true =>
   unfold Ky JU;rw [if_pos (show (l.any fun q=>decide (q.1=k))=true from hk),List.map_map]
   have e:(l.map ((fun q:Int × Bool=>q.1)∘fun q=>if q.1=k then (q.1,true) else q))=l.map (·.1):=List.map_congr_left fun q _=>by
    show (if q.1=k then (q.1,true) else q).1=q.1;split<;>rfl
   rw [e];exact h
 ·rw [<- has_key,Oy,Bool.or_eq_true,has_key];constructor
  ·rintro (h|h)
   ·exact .inl (of_decide_eq_true h)
   ·exact .inr h
  ·rintro (h|h)
   ·exact .inl (decide_eq_true h)
   ·exact .inr h
theorem LF {l:List (Int × Bool)}{M:Nat}{marks:Int}(hM:marks=(M:Int))(h1:Ky l)(h2:∀ x∈l.map (·.1),0<=x/\x<marks):l.length<=M:=by
 have:=Bz h1 (m:=(List.range M).map fun (i:Nat)=>(i:Int)) fun u hu=>by
  have h:=h2 u hu;exact qnA.mpr ⟨u.toNat,by rw [qsA];omega,by omega⟩
 simpa using this
theorem ky_full {l:List (Int × Bool)}{marks:Int}(m0:0<=marks)(i1:Ky l)(i2:∀ x∈l.map (·.1),0<=x/\x<marks):((l.length:Nat):Int)=marks ↔ ∀ m,0<=m->m<marks->m∈l.map (·.1):=by
 obtain ⟨M,hM⟩:=qrB m0;have hb:=LF hM i1 i2;constructor
 ·intro hlen m k0 k1;refine Classical.byContradiction fun hn=>?_
  have h2:=LF (l:=(m,true)::l) hM (by
   unfold Ky;rw [qaB]
   exact List.nodup_cons.mpr ⟨hn,i1⟩) fun x hx=>by
    rw [qaB] at hx;rcases qmA.mp hx with h|h
    ·rw [h];exact ⟨k0,k1⟩
    ·exact i2 x h
  rw [qgA] at h2;omega
 ·intro hD
  have:M<=l.length:=by
   have nr:((List.range M).map fun (i:Nat)=>(i:Int)).Nodup:=by
    refine List.Pairwise.map _ ?_ List.nodup_range;intro a b h;show (a:Int)≠b;omega
   have:=Bz nr (m:=l.map (·.1)) fun u hu=>by
    obtain ⟨j,hj,rfl⟩:=qnA.mp hu;rw [qsA] at hj;exact hD (j:Int) (by omega) (by omega)
   simpa using this
  omega
theorem ky_put {ρ:Type}{marks:Int}(m0:0<=marks)(m1:marks<=1000){d:Mp Bool}{ms:List Int}(i1:Ky d.l)(i2:∀ x∈d.l.map (·.1),0<=x/\x<marks)(hm:∀ m∈ms,0<=m/\m<marks){P:Fl (Mp Bool) ρ->Prop}
  (h:∀ d2:Mp Bool,Ky d2.l->(∀ x∈d2.l.map (·.1),0<=x/\x<marks)->(∀ x,x∈d2.l.map (·.1) ↔ x∈d.l.map (·.1)\/x∈ms)->P (.nx d2)) :
  OK (Ct (S:=Mp Bool) (ρ:=ρ) (fun (DF:Int) s=>(OP s DF true).bind fun z=>some (Fl.nx z)) ms d) P:=by
 have hs:sizeLine=16777216:=qoB;obtain ⟨M,hM⟩:=qrB m0;refine BP (fun j (d2:Mp Bool)=>Ky d2.l/\(∀ x∈d2.l.map (·.1),0<=x/\x<marks)/\∀ x,x∈d2.l.map (·.1) ↔ x∈d.l.map (·.1)\/x∈ms.take j) ⟨i1,i2,fun x=>by simp⟩ (fun j m d2 hmj hJ=>?_) fun d2 hJ=>h d2 hJ.1 hJ.2.1 fun x=>?_
 ·obtain ⟨j1,j2,j3⟩:=hJ;have hb:=LF hM j1 j2;have hmr:=hm m (qtA hmj);obtain ⟨p1,p2⟩:=j1.put m;refine AB (OK.of (if_pos (by omega)) (AD ⟨_,rfl,p1,fun x hx=>?_,fun x=>?_⟩))
  ·rcases (p2 x).mp hx with h|h
   ·rw [h];exact hmr
   ·exact j2 x h
  ·rw [p2 x,j3 x,List.take_add_one,hmj,qkA];simp only [Option.toList_some,qpA];constructor
   ·rintro (h|h|h)
    ·exact .inr (.inr h)
    ·exact .inl h
    ·exact .inr (.inl h)
   ·rintro (h|h|h)
    ·exact .inr (.inl h)
    ·exact .inr (.inr h)
    ·exact .inl h
 ·rw [hJ.2.2 x,List.take_length]
structure Pap (n:Net)(ps:List (T3 Int Int (Option Int))):Prop where
 len:ps.length<=n.a.toNat
 nd:(ps.map (·.a)).Nodup
 rg:∀ t∈ps,(0<=t.a/\t.a<n.a)/\rf n.c (some (t.b,t.c))=true
 z:∃ t∈ps,t.a=0
 cl:∀ t∈ps,∀ w∈n.b,w.a=t.a->∃ t'∈ps,t'.a=w.b/\wf w.c.l (some (t.b,t.c)) (some (t'.b,t'.c))=true
theorem Qq {α:Type}:∀ (l:List α) (k:Nat),(Bp k l).length=l.length
 | [],_=>rfl
 | x::l,k=>by show (Bp (k+1) l).length+1=_;rw [Qq l];rfl
theorem MH {n:Net}(hn:NetW n)(ha:0<n.a)(hf:¬JN n 0):OK (Cp n [(0:Int)]) (Pap n):=by
 have hs:sizeLine=16777216:=qoB;have h1:=hn.a1;obtain ⟨N,hN⟩:=qrB hn.a0;unfold Cp;simp only [qpB,Ag,Ab];refine AB (Eb (n:=N) (by omega) (by omega) (by omega) ?_);refine AB (F5 (g:=fun _:Int=>false) (fun _ _=>rfl) ?_)
 have f0:∀ u,bt (List.map (fun _:Int=>false) ((List.range N).map fun (i:Nat)=>(0:Int)+(i:Int))) u=false:=fun u=>by
  unfold bt;split
  ·cases hg:(List.map (fun _:Int=>false) ((List.range N).map fun (i:Nat)=>(0:Int)+(i:Int)))[u.toNat]? with
   | none=>rfl
   | some b =>
    obtain ⟨_,_,rfl⟩:=qnA.mp (qtA hg)
    rfl
  ·rfl
 refine AB (BP (fun k (s:List Bool)=>s.length=N/\∀ u,bt s u=decide (u=0/\k=1)) ⟨by simp,fun u=>?_⟩ (fun i a s hk hI=>?_) fun s hI=>?_)
 ·rw [f0];exact (decide_eq_false fun h=>by omega).symm
 ·have hi:i=0:=by
   have:=(quA.mp hk).1
   simpa using this
  have e0:a=((0:Nat):Int):=qpA.mp (qtA hk);subst hi;rw [e0];refine AB (FX (by omega) (AD ⟨_,rfl,by rw [List.length_set];exact hI.1,fun u=>?_⟩));rw [Gw (by omega)];split
  ·exact (decide_eq_true ⟨by assumption,rfl⟩).symm
  ·rw [hI.2 u];exact decide_eq_decide.mpr ⟨fun h=>absurd h.2 (by decide),fun h=>absurd h.1 (by assumption)⟩
 refine B8 (Qk hn) fun ls A=>B8 (Mr A (by omega) (w:=s) (by omega)) fun nd ⟨n1,n2⟩=>?_;refine B8 (shut_ok hn) fun rows ⟨kn,K,S⟩=>?_;have hl:=S.len
 have hnd:∀ u,bt nd u=true ↔ Rch (Ed n.b) 0 u:=fun u=>by
  rw [n2 u];constructor
  ·rintro ⟨v,hv,h⟩;rw [hI.2 v] at hv;rw [<- (of_decide_eq_true hv).1];exact h
  ·exact fun h=>⟨0,by rw [hI.2];exact decide_eq_true ⟨rfl,rfl⟩,h⟩
 have nn:∀ u,Rch (Ed n.b) 0 u->0<=u->u<n.a->∃ k l,gt rows u=some (k,l):=fun u hr h0 h1=>by
  cases e:My.gt rows u with
  | some p=>exact ⟨p.1,p.2,rfl⟩
  | none =>
   obtain ⟨x,h3,h4⟩:=(S.non h0 h1).mp e;exact absurd ⟨x,hr.trans h3,h4⟩ hf
 refine AB (BP (fun i (p:List (T3 Int Int (Option Int)))=>p.length<=i/\(p.map (·.a)).Nodup/\∀ t,t∈p ↔ (0<=t.a/\t.a<(i:Int))/\bt nd t.a=true/\gt rows t.a=some (t.b,t.c)) ⟨qfB 0,.nil,fun t=>⟨fun h=>(nomatch h),fun h=>by omega⟩⟩ (fun i q p hq hJ=>?_) fun p hJ=>AD ?_)
 ·rw [Ce] at hq;obtain ⟨r,hr,rfl⟩:=qiB.mp hq;have hi:=(quA.mp hr).1;rw [Nat.zero_add];obtain ⟨j1,j2,j3⟩:=hJ;have hgt:My.gt rows (i:Int)=r:=gt_nat hr;refine AB (Br (by omega) fun b hb=>?_);have hbt:bt nd (i:Int)=b:=Dn hb;refine AZ (fun e=>?_) fun e=>AD ⟨_,rfl,Nat.le_succ_of_le j1,j2,fun t=>?_⟩
  ·obtain ⟨k,l,hkl⟩:=nn (i:Int) ((hnd _).mp (hbt.trans e)) (by omega) (by omega);rw [hgt] at hkl;subst hkl;show OK ((E4 p _).bind _) _;refine AB (DO (by omega) (AD ⟨_,rfl,by rw [qfA,qhA];omega,?_,fun t=>?_⟩))
   ·rw [qbB,qeB];refine ⟨j2,by simp,fun x hx y hy e=>?_⟩;obtain ⟨t,ht,rfl⟩:=qnA.mp hx;have hy:y=(i:Int):=by simpa using hy
    have:=((j3 t).mp ht).1;omega
   ·rw [qkA,j3 t,qpA];constructor
    ·rintro (h|rfl)
     ·exact ⟨by omega,h.2⟩
     ·exact ⟨⟨Int.natCast_nonneg _,by dsimp only;omega⟩,hbt.trans e,hgt⟩
    ·rintro ⟨h1,h2,h3⟩;by_cases hti:t.a=(i:Int)
     ·right;rw [hti,hgt] at h3;have h4:=qjB h3;obtain ⟨a,b,c⟩:=t;cases h4;have hti:a=(i:Int):=hti;rw [hti]
     ·exact .inl ⟨by omega,h2,h3⟩
  ·rw [j3 t];constructor
   ·exact fun h=>⟨by omega,h.2⟩
   ·rintro ⟨h1,h2,h3⟩;refine ⟨?_,h2,h3⟩;by_cases hti:t.a=(i:Int)
    ·rw [hti,hbt,e] at h2;exact nomatch h2
    ·omega
 ·have e:=Qq rows 0;obtain ⟨j1,j2,j3⟩:=hJ;rw [e] at j1 j3;refine ⟨by omega,j2,fun t ht=>?_,?_,fun t ht w hw hwa=>?_⟩
  ·obtain ⟨h1,h2,h3⟩:=(j3 t).mp ht;refine ⟨by omega,?_⟩;obtain ⟨i,hi,hi2⟩:=Nm (rows:=rows) h1.1 (by omega);rw [h3] at hi2;exact S.kind hn K (qtA hi2)
  ·obtain ⟨k,l,hkl⟩:=nn 0 (.refl _) (by omega) (by omega);exact ⟨⟨0,k,l⟩,(j3 _).mpr ⟨⟨Int.le_refl _,by dsimp only;omega⟩,(hnd _).mpr (.refl _),hkl⟩,rfl⟩
  ·obtain ⟨h1,h2,h3⟩:=(j3 t).mp ht;have hr:Rch (Ed n.b) 0 w.b:=((hnd _).mp h2).trans (.one ⟨w,hw,hwa,rfl⟩);have hwr:=(hn.w w hw).2;obtain ⟨k,l,hkl⟩:=nn w.b hr hwr.1 hwr.2;refine ⟨⟨w.b,k,l⟩,(j3 _).mpr ⟨by dsimp only;omega,(hnd _).mpr hr,hkl⟩,rfl,?_⟩;have:=S.fit hn K hw;rw [hwa,h3,hkl] at this;exact this
structure Nt4 (rows:List Rw4)(sh:List Str)(S P C:Nat)(marks:Int)(n:Net)(gone:List Int):Prop where
 a:n.a=((P * C:Nat):Int)
 c:n.c=marks
 al:Al rows sh S P C P n.b gone
theorem OQ {C p p':Nat}{a a':Int}(h0:0<=a)(h1:a<(C:Int))(h2:0<=a')(h3:a'<(C:Int))(e:(p:Int) * (C:Int)+a=(p':Int) * (C:Int)+a'):p=p'/\a=a':=by
 have key:∀ {x y:Nat},x<y->(x:Int) * (C:Int)+(C:Int)<=(y:Int) * (C:Int):=fun {x y} h=>by
  have h:=Nat.mul_le_mul_right C (Nat.succ_le_of_lt h);rw [Nat.succ_mul] at h;have h2:((x * C+C:Nat):Int)<=((y * C:Nat):Int):=Int.ofNat_le.mpr h;rw [Int.natCast_add,Int.natCast_mul,Int.natCast_mul] at h2;exact h2
 rcases Nat.lt_trichotomy p p' with h|h|h
 ·have:=key h;omega
 ·subst h;exact ⟨rfl,by omega⟩
 ·have:=key h;omega
theorem Oa {C p P:Nat}{a:Int}(hp:p<P)(h0:0<=a)(h1:a<(C:Int)):0<=(p:Int) * (C:Int)+a/\(p:Int) * (C:Int)+a<((P * C:Nat):Int):=by
 have h:=Nat.mul_le_mul_right C (Nat.succ_le_of_lt hp);rw [Nat.succ_mul] at h;have h2:((p * C+C:Nat):Int)<=((P * C:Nat):Int):=Int.ofNat_le.mpr h;rw [Int.natCast_add,Int.natCast_mul] at h2;have h3:0<=(p:Int) * (C:Int):=Int.mul_nonneg (by omega) (by omega);omega
def Gn (gone:List Int)(p g:List Int):Prop:=g.length=p.length/\∀ (i:Nat) k x,p[i]? = some k->g[i]? = some x->atI gone k=some x
def t4 (C:Nat)(t:T3 Int Int (Option Int)):D:=.tup [.int (t.a / (C:Int)),.int (t.a % (C:Int)),.int t.b,ToD.to t.c]
def ToldW (n:Net)(gone:List Int)(C:Nat)(d:D):Prop :=
 (∃ s r s' r',FairR n 0 s r/\Gn gone s s'/\Gn gone r r'/\d = .tup [.str "taken",.lst (s'.map .int),.lst (r'.map .int)])\/∃ ps,Pap n ps/\d = .tup [.str "left",.lst (ps.map (t4 C))]
theorem takes_ok {lamps:Str}{rows:List Rw4}{marks:Int}{stem ring:List Str}{sh:List Str}{C R:Nat}(hr:0<ring.length)(hP:stem.length+ring.length<=200)(hz:rows.length<=R)(hR:R<=400)(hC:1<=C)(hC2:C<=50)(hrow:∀ r∈rows,(0<=r.a/\r.a<(C:Int))/\0<=r.c/\r.c<(C:Int))
  (m0:0<=marks) (m1:marks<=12) (hd:∀ r∈rows,r.d.l.length<=12)
  (hsh:∀ (p:Nat) x,(stem++ring)[p]? = some x->∃ y,Il x lamps=some y/\sh[p]? = some y) :
  OK (El ⟨lamps,(C:Int),rows,marks⟩ (stem,ring)) fun d=>∃ n gone,NetW n/\Nt4 rows sh stem.length (stem.length+ring.length) C marks n gone/\ToldW n gone C d:=by
 have hs:sizeLine=16777216:=qoB;unfold El;simp only [qpB,Ag,Ab];refine B8 (along_ok (marks:=marks) hr hP hz hR hC (by omega) hsh) fun q ⟨q1,q2,q3,A⟩=>?_;have hP1:1<=stem.length+ring.length:=by omega
 have hS:stem.length<stem.length+ring.length:=by omega
 generalize hPe:stem.length+ring.length=P at *;obtain ⟨n,gone⟩:=q;dsimp only at q1 q2 q3 A
 have c12:∀ w∈n.b,w.c.l.length<=12:=fun w hw=>by
  obtain ⟨j,hj⟩:=List.mem_iff_getElem?.mp hw;obtain ⟨p,k,r,_,h2,_,_,_,_,h6⟩:=A.to j w hj;rw [h6];exact hd r (qtA h2)
 have hPC:P * C<=200 * 50:=Nat.mul_le_mul hP hC2;have hPC1:1 * 1<=P * C:=Nat.mul_le_mul hP1 hC;have hRP:R * P<=400 * 200:=Nat.mul_le_mul hR hP
 have hn:NetW n:=by
  refine ⟨by omega,by omega,by omega,by omega,?_,by omega,fun w hw=>?_,?_⟩
  ·have h1:n.a * (n.c+1)<=10000 * (n.c+1):=Int.mul_le_mul_of_nonneg_right (by omega) (by omega);omega
  ·obtain ⟨j,hj⟩:=List.mem_iff_getElem?.mp hw;obtain ⟨p,k,r,h1,h2,_,h4,h5,_⟩:=A.to j w hj;obtain ⟨⟨r1,r2⟩,r3,r4⟩:=hrow r (qtA h2);have g1:=Oa h1 r1 r2;have g2:=Oa (nxt_lt (p:=p) hS) r3 r4;unfold N3;rw [q1,h4,h5];exact ⟨g1,g2⟩
  ·exact qgB (N1 c12) (by omega)
 have N4:Nt4 rows sh stem.length P C marks n gone:=⟨q1,q2,A⟩;refine B8 (NF hn (u:=0) ⟨by omega,by omega⟩) fun r hr2=>?_
 cases r with
 | none =>
  have hr2:¬JN n 0:=hr2;show OK ((Cp n [(0:Int)]).bind _) _;refine B8 (MH hn (by omega) hr2) fun ps hps=>?_;refine AB (F5 (g:=fun t:T3 Int Int (Option Int)=>T4.mk (t.a / (C:Int)) (t.a % (C:Int)) t.b t.c) (fun t _=>OK.eq (AB (ok_div ⟨by omega,by omega⟩ (AB (GW (by omega) (AD rfl)))))) (AD ?_));refine ⟨n,gone,hn,N4,.inr ⟨ps,hps,?_⟩⟩;show D.tup [.str "left",.lst _]=D.tup [.str "left",.lst _];rw [List.map_map]
  rfl
 | some p =>
  have hr2:FairR n 0 p.1 p.2:=hr2;obtain ⟨v,f1,f2⟩:=hr2.ex
  have gt:∀ k,(∃ w,wy n.b k=some w)->OK (atI gone k) fun x=>atI gone k=some x:=fun k ⟨w,hw⟩=>by
   obtain ⟨i,rfl,hi⟩:=Ej hw;have hil:=(quA.mp hi).1;have hlen:=A.len;have hg:=qvA (l:=gone) (i:=i) (by omega);exact OK.of (DQ hg) (DQ hg)
  show OK ((Cw _ p.1).bind _) _;refine AB (Kn (R:=fun k x=>atI gone k=some x) (fun k hk=>gt k (IP n.b p.1 0 v f1 k hk)) fun b1 l1 _ e1=>?_);show OK ((Cw _ p.2).bind _) _;refine AB (Kn (R:=fun k x=>atI gone k=some x) (fun k hk=>gt k (IP n.b p.2 v v f2.w k hk)) fun b2 l2 _ e2=>AD ?_);exact ⟨n,gone,hn,N4,.inl ⟨_,_,b1,b2,hr2,⟨l1,e1⟩,⟨l2,e2⟩,rfl⟩⟩
def plc (S P k:Nat):Nat:=if k<P then k else S+(k - S) % (P - S)
theorem PD {S P k:Nat}(h:S<P):nxt S P (plc S P k)=plc S P (k+1):=by
 unfold plc nxt;by_cases h1:k+1<P
 ·rw [if_pos (show k<P by omega),if_pos h1,if_pos h1]
 ·by_cases h2:k<P
  ·have e:k+1=P:=by omega
   rw [if_pos h2,if_neg h1,if_neg h1,e,Nat.mod_self]
   rfl
  ·have hm:=Nat.mod_lt (k - S) (show 0<P - S by omega);have e:(k+1 - S) % (P - S)=((k - S) % (P - S)+1) % (P - S):=by rw [Nat.mod_add_mod,show k+1 - S=k - S+1 by omega]
   rw [if_neg h2,if_neg h1,e];by_cases h3:(k - S) % (P - S)+1<P - S
   ·rw [if_pos (by omega),Nat.mod_eq_of_lt h3];omega
   ·rw [if_neg (by omega),show (k - S) % (P - S)+1=P - S by omega,Nat.mod_self]
    rfl
theorem S7 {S P s r:Nat}(h:S<P)(hr:0<r)(e:plc S P s=plc S P (s+r)):S<=s/\r % (P - S)=0:=by
 have hS:S<=s:=by
  by_cases hs:S<=s
  ·exact hs
  ·exfalso;unfold plc at e;rw [if_pos (by omega)] at e;split at e<;>omega
 have key:∀ k,S<=k->plc S P k=S+(k - S) % (P - S):=fun k hk=>by
  unfold plc;split
  ·rw [Nat.mod_eq_of_lt (by omega)];omega
  ·rfl
 refine ⟨hS,?_⟩;rw [key s hS,key (s+r) (by omega)] at e
 have e2:(s - S) % (P - S)=(s - S+r) % (P - S):=by
  rw [show s - S+r=s+r - S by omega];omega
 have e3:=Nat.sub_mod_eq_zero_of_mod_eq e2.symm
 rwa [show s - S+r - (s - S)=r by omega] at e3
theorem Jw {stem ring:List Str}{p:Nat}(h:p<stem.length+ring.length):CM (p:Int) (stem,ring)=some (nxt stem.length (stem.length+ring.length) p:Int):=by
 refine OK.eq ?_;unfold CM nxt;simp only [Ag];refine AZ (fun e=>AD ?_) fun e=>AD ?_
 ·have e:=of_decide_eq_true e;rw [if_neg (by omega)]
 ·have e:=of_decide_eq_false e;rw [if_pos (by omega)];omega
theorem Mf (x:Int):CL (.int x)=some true:=rfl
structure Wt (lamps:Str)(rows:List Rw4)(marks:Int)(stem ring sh:List Str)(C:Nat)(n:Net)(gone:List Int):Prop where
 hr:0<ring.length
 hP:stem.length+ring.length<=200
 hsh:Cw (fun one_=>Cf one_ lamps) (stem++ring)=some sh
 shl:sh.length=stem.length+ring.length
 hC:1<=C
 hC2:C<=50
 hrow:∀ r∈rows,(0<=r.a/\r.a<(C:Int))/\0<=r.c/\r.c<(C:Int)
 m0:0<=marks
 m1:marks<=12
 hd:∀ r∈rows,∀ m∈r.d.l,0<=m/\m<marks
 hn:NetW n
 N:Nt4 rows sh stem.length (stem.length+ring.length) C marks n gone
theorem any_snoc {p:List Int}{j:Nat}{k:Int}(h:p[j]? = some k)(f:Int->Bool):(p.take (j+1)).any f=((p.take j).any f || f k):=by
 rw [List.take_add_one,h,List.any_append];simp
theorem RF {lamps:Str}{rows:List Rw4}{marks:Int}{stem ring sh:List Str}{C:Nat}{n:Net}{gone:List Int}(H:Wt lamps rows marks stem ring sh C n gone){i:Nat}{a e:Int}{p g:List Int}(ha:0<=a/\a<(C:Int))
  (hw:wk n.b ((plc stem.length (stem.length+ring.length) i:Int) * (C:Int)+a) p=some e) (hg:Gn gone p g) :
  OK (DN ⟨lamps,(C:Int),rows,marks⟩ (stem,ring) (g.map .int) (plc stem.length (stem.length+ring.length) i:Int) a) fun res=>∃ b M,res=some (T3.mk (plc stem.length (stem.length+ring.length) (i+p.length):Int) b M)/\(0<=b/\b<(C:Int))/\e=(plc stem.length (stem.length+ring.length) (i+p.length):Int) * (C:Int)+b/\((∀ m,0<=m->m<marks->p.any (tk n.b m)=true)->M=marks):=by
 have hs:sizeLine=16777216:=qoB;obtain ⟨hr,hP,hsh,_,hC,hC2,hrow,m0,m1,hd,hn,N⟩:=H;unfold DN;simp only [qpB,Ag,Ab];refine AB (Nk (by omega) ?_);rw [hsh];simp only [Ag];have hS:stem.length<stem.length+ring.length:=by omega
 generalize hPe:stem.length+ring.length=P at *;generalize hSe:stem.length=S at *
 refine AB (BP (fun j (s:Int × Int × Mp Bool)=>s.1=(plc S P (i+j):Int)/\(0<=s.2.1/\s.2.1<(C:Int))/\wk n.b ((plc S P i:Int) * (C:Int)+a) (p.take j)=some ((plc S P (i+j):Int) * (C:Int)+s.2.1)/\Ky s.2.2.l/\(∀ x∈s.2.2.l.map (·.1),0<=x/\x<marks)/\∀ x,x∈s.2.2.l.map (·.1) ↔ (p.take j).any (tk n.b x)=true)
  ⟨rfl,ha,rfl,.nil,fun x h=>(nomatch h),fun x=>by simp⟩ (fun j d s hj hI=>?_) fun s hI=>?_)
 ·obtain ⟨i1,i2,i3,i4,i5,i6⟩:=hI;rw [qzA] at hj;obtain ⟨x,hx,rfl⟩:=qiB.mp hj;have hjl:=(quA.mp hx).1;have hk:=qvA (l:=p) (i:=j) (by have:=hg.1;omega);generalize p[j]'(by have:=hg.1;omega)=k at hk;have hgk:=hg.2 j k x hk hx
  have hw2:wk n.b ((plc S P (i+j):Int) * (C:Int)+s.2.1) (k::p.drop (j+1))=some e:=by
   have e1:p=p.take j++(k::p.drop (j+1)):=by
    have h1:=(quA.mp hk);have h2:=List.drop_eq_getElem_cons h1.1;rw [h1.2] at h2;rw [<- h2,List.take_append_drop]
   rw [e1,HH,i3] at hw;exact hw
  rw [Cs] at hw2
  cases hwy:wy n.b k with
  | none=>rw [hwy] at hw2;exact nomatch hw2
  | some w =>
   rw [hwy] at hw2;dsimp only at hw2;split at hw2
   case isFalse=>exact nomatch hw2
   rename_i hwa;obtain ⟨j',rfl,hj'⟩:=Ej hwy;obtain ⟨pl,kk,r,h1,h2,h3,h4,h5,h6,h7⟩:=N.al.to j' w hj';have hrr:=hrow r (qtA h2);have ⟨epl,ea⟩:=OQ hrr.1.1 hrr.1.2 i2.1 i2.2 (h4.symm.trans hwa)
   have hxk:x=(kk:Int):=by
    rw [DQ h3] at hgk;exact (qjB hgk).symm
   have hkl:=(quA.mp h2).1;subst hxk;rw [Mf];simp only [Ag,Bool.not_true,cond_false];show OK ((cond (decide ((kk:Int)<0)) (some true) (some (decide ((rows.length:Int)<=(kk:Int))))).bind _) _;rw [decide_eq_false (show ¬ (kk:Int)<0 by omega),cond_false,Ag,decide_eq_false (show ¬ (rows.length:Int)<=(kk:Int) by omega),cond_false];show OK ((atI rows (kk:Int)).bind _) _;rw [DQ h2,Ag];have e1:decide (r.a=s.2.1)=true:=decide_eq_true ea;rw [e1];simp only [Bool.not_true,cond_false];rw [i1,<- epl,DQ h6,Ag,Ag];rw [decide_eq_true (rfl:r.b=r.b)];simp only [Bool.not_true,cond_false];have hbe:=Jw (stem:=stem) (ring:=ring) (p:=pl) (by omega);rw [hSe,hPe] at hbe;rw [hbe];simp only [Ag];refine AB (ky_put m0 (by omega) i4 i5 (fun m hm=>hd r (qtA h2) m hm) fun d2 k1 k2 k3=>AD ⟨_,rfl,?_,hrr.2,?_,k1,k2,fun y=>?_⟩)
   ·show ((nxt S P pl:Nat):Int)=_;rw [epl,PD hS]
    rfl
   ·rw [List.take_add_one,hk,HH,i3];show wk n.b _ [(j':Int)]=_;rw [Cs,hwy];dsimp only;rw [if_pos hwa,h5,epl,PD hS]
    rfl
   ·rw [k3 y,i6 y,any_snoc hk,Bool.or_eq_true]
    have:tk n.b y (j':Int)=decide (y∈r.d.l):=by
     unfold tk;rw [hwy];dsimp only;rw [h7]
    rw [this,decide_eq_true_iff]
 ·obtain ⟨i1,i2,i3,i4,i5,i6⟩:=hI;rw [qeA,hg.1] at i1 i3 i6;rw [List.take_length] at i3 i6;rw [hw] at i3;refine AD ⟨s.2.1,_,by rw [<- i1],i2,qjB i3,fun hm=>?_⟩;exact (ky_full m0 i4 i5).mpr fun m h0 h1=>(i6 m).mpr (hm m h0 h1)
theorem way_ok {lamps:Str}{rows:List Rw4}{marks:Int}{stem ring sh:List Str}{C:Nat}{n:Net}{gone:List Int}(H:Wt lamps rows marks stem ring sh C n gone){s r s' r':List Int}(hf:FairR n 0 s r)(gs:Gn gone s s')(gr:Gn gone r r'){T:D}(hT:T = .tup [.str "taken",.lst (s'.map .int),.lst (r'.map .int)]) :
  CJ ⟨lamps,(C:Int),rows,marks⟩ (stem,ring) T=some true:=by
 have hs:sizeLine=16777216:=qoB;have L3:Hs T=some 3:=by rw [hT];rfl
 have A1:atD T 1=some (.lst (s'.map .int)):=by rw [hT];rfl
 have A2:atD T 2=some (.lst (r'.map .int)):=by rw [hT];rfl
 have K1:∀ l:List D,isK "list" (.lst l)=true:=fun l=>rfl
 have LL:∀ l:List Int,Hs (.lst (l.map .int))=some (l.length:Int):=fun l=>by
  show some (((l.map D.int).length:Nat):Int)=_;rw [qeA]
 have AL:∀ l:List D,Ms (.lst l)=some l:=fun l=>rfl;obtain ⟨v,f1,f2⟩:=hf.ex;have hr:=H.hr;have hP:=H.hP;have hC:=H.hC;have m0:=H.m0;have m1:=H.m1;have hne:0<r.length:=List.length_pos_iff.mpr f2.ne;have hle:=hf.le;have hle2:=f2.le;have hna:=H.N.a;rw [hna] at hle hle2;rw [H.N.c] at hle2;have hS:stem.length<stem.length+ring.length:=by omega
 have hPC:((stem.length:Int)+(ring.length:Int)) * (C:Int)=(((stem.length+ring.length) * C:Nat):Int):=by rw [Int.natCast_mul,Int.natCast_add]
 have c0:(0:Int)<=0/\(0:Int)<(C:Int):=by omega
 have p0:plc stem.length (stem.length+ring.length) 0=0:=by unfold plc;rw [if_pos (by omega)]
 obtain ⟨q1,eq1,b1,M1,rfl,hb1,e1,_⟩:=RF H (i:=0) (a:=0) (p:=s) (g:=s') (e:=v) c0 (by rw [p0];simpa using f1) gs;rw [Nat.zero_add] at eq1 e1;obtain ⟨q2,eq2,b2,M2,rfl,hb2,e2,hM⟩:=RF H (i:=s.length) (a:=b1) (p:=r) (g:=r') (e:=v) hb1 (by rw [<- e1];exact f2.w) gr;have ⟨ep,eb⟩:=OQ hb1.1 hb1.2 hb2.1 hb2.2 (e1.symm.trans e2);obtain ⟨g1,g2⟩:=S7 hS hne ep;rw [show stem.length+ring.length - stem.length=ring.length by omega] at g2;have hM2:M2=marks:=hM fun m h0 h1=>f2.m m h0 (by rw [H.N.c];exact h1)
 have eq1':DN ⟨lamps,(C:Int),rows,marks⟩ (stem,ring) (s'.map .int) (0:Int) (0:Int)=some (some ⟨(plc stem.length (stem.length+ring.length) s.length:Int),b1,M1⟩):=by
  rw [p0] at eq1;exact eq1
 have ls:=gs.1;have lr:=gr.1;have c50:=H.hC2;refine OK.eq ?_;unfold CJ;simp only [qpB,Ag,Ab,L3,A1,A2,K1,LL,AL,Bool.not_true,cond_false,eq1']
 have fin:∀ {x:Option Bool}{f:Option Bool},OK x (fun b=>b=false)->OK f (fun b=>b=true)->OK (x.bind fun b=>cond b (some false) f) fun b=>b=true:=fun h1 h2=>B8 h1 fun b hb=>by
  rw [hb];exact h2
 refine fin (AZ (fun z=>absurd z (by decide)) fun _=>AD rfl) ?_;refine AB (Ja (.inr ⟨by omega,by omega⟩) ?_);rw [hPC];refine fin (AZ (fun z=>absurd (of_decide_eq_true z) (by omega)) fun _=>AB (Ja (.inr ⟨by omega,by omega⟩) (AZ (fun z=>absurd (of_decide_eq_true z) (by omega)) fun _=>AD (decide_eq_false (by omega))))) ?_
 have g3:(r'.length:Int) % (ring.length:Int)=0:=by
  rw [lr,<- Int.natCast_emod,g2]
  rfl
 refine fin (AZ (fun z=>absurd (of_decide_eq_true z) (by omega)) fun _=>AB (GW (by omega) (AD (by rw [g3];decide)))) ?_;refine AZ (fun z=>absurd z quB) fun _=>?_;rw [eq2];simp only [Ag,Option.isSome_some];refine AZ (fun _=>?_) fun z=>absurd z (by decide);rw [decide_eq_true (show ((plc stem.length (stem.length+ring.length) (s.length+r.length):Int),b2)=((plc stem.length (stem.length+ring.length) s.length:Int),b1) by rw [<- ep,eb])];refine AZ (fun _=>AD ?_) fun z=>absurd z (by decide);rw [hM2];exact decide_eq_true rfl
def kT (C:Nat)(t:T3 Int Int (Option Int)):Rk:=Rk.mk [.i (t.a / (C:Int)),.i (t.a % (C:Int))]
theorem rk_ii {a b c d:Int}(h:Rk.mk [.i a,.i b]=Rk.mk [.i c,.i d]):a=c/\b=d:=by
 injection h with h
 injection h with h1 h2
 injection h2 with h2 _
 injection h1 with h1
 injection h2 with h2
 exact ⟨h1,h2⟩
theorem div_node {C:Nat}(hC:1<=C){p:Nat}{a:Int}(h0:0<=a)(h1:a<(C:Int)):((p:Int) * (C:Int)+a) / (C:Int)=p/\((p:Int) * (C:Int)+a) % (C:Int)=a:=by
 have e:(p:Int) * (C:Int)+a=a+(C:Int) * (p:Int):=by rw [Int.mul_comm,Int.add_comm]
 rw [e,Int.add_mul_ediv_left _ _ (by omega),Int.add_mul_emod_self_left,Int.ediv_eq_zero_of_lt h0 h1,Int.emod_eq_of_lt h0 h1];omega
theorem OU {C:Nat}(hC:1<=C){P:Nat}{u:Int}(h0:0<=u)(h1:u<((P * C:Nat):Int)):∃ p:Nat,p<P/\u / (C:Int)=p/\(0<=u % (C:Int)/\u % (C:Int)<(C:Int))/\u=(p:Int) * (C:Int)+u % (C:Int):=by
 obtain ⟨k,rfl⟩:=qrB h0
 have hk:k<C * P:=by
  rw [Nat.mul_comm];omega
 have hd:=Nat.div_lt_of_lt_mul hk;have hm:=Nat.mod_lt k (show 0<C by omega);have hdm:=Nat.div_add_mod k C;refine ⟨k / C,hd,by rw [Int.natCast_ediv],by rw [<- Int.natCast_emod];omega,?_⟩;rw [<- Int.natCast_emod,<- Int.natCast_mul,<- Int.natCast_add,Nat.mul_comm,hdm]
theorem kT_inj {C:Nat}(hC:1<=C){t t':T3 Int Int (Option Int)}(h:kT C t=kT C t'):t.a=t'.a:=by
 obtain ⟨h1,h2⟩:=rk_ii h;have e1:=Int.mul_ediv_add_emod t.a (C:Int);have e2:=Int.mul_ediv_add_emod t'.a (C:Int);rw [h1,h2] at e1;omega
theorem R5 {α β:Type}{f:α->Rk}{g:α->β}{k:Rk}:∀ {l:List α},(∀ x∈l,f x≠k)->Le (l.map fun x=>(f x,g x)) k=false
 | [],_=>rfl
 | x::l,h=>by
  show (decide (f x=k) || Le (l.map fun x=>(f x,g x)) k)=false;rw [decide_eq_false (h x (qqA ..)),R5 fun y hy=>h y (qrA _ hy)]
  rfl
theorem Pd {α β:Type}{f:α->Rk}{g:α->β}{x:α}:∀ {l:List α},x∈l->(∀ y∈l,f y=f x->g y=g x)->getR (l.map fun x=>(f x,g x)) (f x)=some (g x)
 | [],h,_=>nomatch h
 | y::l,h,u=>by
  show (if f y=f x then some (g y) else getR (l.map fun x=>(f x,g x)) (f x))=_;by_cases e:f y=f x
  ·rw [if_pos e,u y (qqA ..) e]
  ·rw [if_neg e];rcases qmA.mp h with rfl|h
   ·exact absurd rfl e
   ·exact Pd h fun z hz=>u z (qrA _ hz)
theorem hasR_key {α β:Type}{f:α->Rk}{g:α->β}{x:α}{l:List α}(h:x∈l):Le (l.map fun x=>(f x,g x)) (f x)=true:=List.any_eq_true.mpr ⟨_,qnA.mpr ⟨x,h,rfl⟩,decide_eq_true rfl⟩
theorem ranks_ok {lamps:Str}{rows:List Rw4}{marks:Int}{stem ring sh:List Str}{C:Nat}{n:Net}{gone:List Int}(H:Wt lamps rows marks stem ring sh C n gone){ps:List (T3 Int Int (Option Int))}(hp:Pap n ps) :
  Dq ⟨lamps,(C:Int),rows,marks⟩ (stem,ring) (ps.map (t4 C))=some (MpRF.mk (ps.map fun t=>(kT C t,(t.b,t.c)))):=by
 have hs:sizeLine=16777216:=qoB;have hC:=H.hC;have hna:=H.N.a;have hnc:=H.N.c;have hlen:=hp.len;have hPC:(stem.length+ring.length) * C<=200 * 50:=Nat.mul_le_mul H.hP H.hC2;refine OK.eq ?_;unfold Dq;simp only [qpB,Ag,Ab];refine AB (BP (fun j (s:MpR (Int × Option Int))=>s.l=(ps.take j).map fun t=>(kT C t,(t.b,t.c))) rfl (fun j d s hj hI=>?_) fun s hI=>AD ?_)
 ·rw [qzA] at hj;obtain ⟨t,ht,rfl⟩:=qiB.mp hj;have htm:=qtA ht;have hjl:=(quA.mp ht).1;obtain ⟨⟨h0,h1⟩,hrf⟩:=hp.rg t htm;rw [hna] at h1;obtain ⟨p,hp1,e1,h2,e2⟩:=OU hC h0 h1;have A0:atD (t4 C t) 0=some (.int (t.a / (C:Int))):=rfl;have A1:atD (t4 C t) 1=some (.int (t.a % (C:Int))):=rfl;have A2:atD (t4 C t) 2=some (.int t.b):=rfl;have A3:atD (t4 C t) 3=some (ToD.to t.c):=rfl;have AI:∀ i:Int,Dk (.int i)=some i:=fun _=>rfl;have L4:Hs (t4 C t)=some 4:=rfl;have KT:isK "tuple" (t4 C t)=true:=rfl;have S2:slD2 (t4 C t)=some (kT C t):=rfl
  have hb0:0<=t.b:=by
   rw [hnc] at hrf
   cases hc:t.c with
   | none=>rw [hc] at hrf;exact of_decide_eq_true hrf
   | some k=>rw [hc] at hrf;exact of_decide_eq_true (qfC _ _ ▸ hrf).1
  have hnew:Le s.l (kT C t)=false:=by
   rw [hI];refine R5 fun t' ht' e=>?_;have:=kT_inj hC e;obtain ⟨i,hi⟩:=List.mem_iff_getElem?.mp ht'
   have hij:i<j:=by
    have:=(quA.mp hi).1;rw [qjA] at this;omega
   rw [List.getElem?_take,if_pos hij] at hi;have q1:(ps.map (·.a))[i]? = some t.a:=by rw [qzA,hi];exact congrArg some this
   have q2:(ps.map (·.a))[j]? = some t.a:=by rw [qzA,ht];rfl
   have:=Fh hp.nd q1 q2;omega
  simp only [A0,A1,A2,A3,AI,L4,KT,S2,Mf,Ag,Bool.not_true]
  have fin:∀ {x:Option Bool}{y f:Option (Fl (MpR (Int × Option Int)) (MpRF (Int × Option Int)))}{P:_->Prop},OK x (fun b=>b=false)->OK f P->OK (x.bind fun b=>cond b y f) P:=fun h1 h2=>B8 h1 fun b hb=>by
   rw [hb];exact h2
  refine fin (AZ (fun z=>absurd z (by decide)) fun _=>AD (by decide)) ?_;refine fin (AZ (fun z=>absurd z (by decide)) fun _=>AZ (fun z=>absurd z (by decide)) fun _=>AZ (fun z=>absurd z (by decide)) fun _=>AD (decide_eq_false (by omega))) ?_;refine fin (AZ (fun z=>absurd (of_decide_eq_true z) (by omega)) fun _=>AZ (fun z=>absurd (of_decide_eq_true z) (by omega)) fun _=>AZ (fun z=>absurd (of_decide_eq_true z) (by omega)) fun _=>AZ (fun z=>absurd (of_decide_eq_true z) (by omega)) fun _=>AD hnew) ?_;have hO:Q8 (ToD.to t.c)=some t.c:=by cases t.c<;>rfl
  rw [hO];simp only [Ag];refine fin ?_ ?_
  ·cases hc:t.c with
   | none=>exact AZ (fun z=>absurd z (by decide)) fun _=>AD rfl
   | some k =>
    rw [hnc,hc] at hrf
    have hk:0<=k/\k<marks:=by
     have q:(decide (0<=t.b) && (decide (0<=k) && decide (k<marks)))=true:=hrf;rw [qfC,qfC] at q;exact ⟨of_decide_eq_true q.2.1,of_decide_eq_true q.2.2⟩
    refine AZ (fun _=>?_) fun z=>nomatch (show true=false from z);show OK (cond (!true) (some true) (cond (decide (k<0)) (some true) (some (decide (marks<=k))))) _;exact AZ (fun z=>absurd z (by decide)) fun _=>AZ (fun z=>absurd (of_decide_eq_true z) (by omega)) fun _=>AD (decide_eq_false (by omega))
  have hsl:s.l.length<=j:=by
   rw [hI,qeA,qjA];omega
  refine AB (OK.of (if_pos (by omega)) (AD ⟨_,rfl,?_⟩));show P1 s.l (kT C t) (t.b,t.c)=_;unfold P1;rw [if_neg (by have:=hnew;unfold Le at this;rw [this];decide),hI,List.take_add_one,ht,qbB]
  rfl
 ·rw [qeA,List.take_length] at hI;rw [hI]
theorem Of {l:List (Rk × List Rw4)}{k:Rk}{a:Rw4}{n:Nat}(h1:l.length<=n)(h2:∀ q∈l,q.2.length<=n):(ML l k a).length<=n+1/\∀ q∈ML l k a,q.2.length<=n+1:=by
 unfold ML;split
 ·refine ⟨by rw [qeA];omega,fun q hq=>?_⟩;obtain ⟨x,hx,rfl⟩:=qnA.mp hq;have:=h2 x hx;split
  ·show (x.2++[a]).length<=_;rw [qfA,qhA];omega
  ·omega
 ·refine ⟨by rw [qfA,qhA];omega,fun q hq=>?_⟩;rcases qkA.mp hq with hq|hq
  ·have:=h2 q hq;omega
  ·rw [qpA.mp hq];show 1<=n+1;omega
def kyF (r:Rw4):Rk:=Rk.mk [.i r.a,.s r.b]
theorem addL_mem {l:List (Rk × List Rw4)}{k:Rk}{a:Rw4}{q:Rk × List Rw4}{r:Rw4}(hq:q∈ML l k a)(hr:r∈q.2):(∃ q'∈l,q'.1=q.1/\r∈q'.2)\/(q.1=k/\r=a):=by
 unfold ML at hq;split at hq
 ·obtain ⟨x,hx,rfl⟩:=qnA.mp hq;split at hr
  ·rename_i e;rw [if_pos e];rcases qkA.mp hr with h|h
   ·exact .inl ⟨x,hx,rfl,h⟩
   ·exact .inr ⟨e,qpA.mp h⟩
  ·rename_i e;rw [if_neg e];exact .inl ⟨x,hx,rfl,hr⟩
 ·rcases qkA.mp hq with h|h
  ·exact .inl ⟨q,h,rfl,hr⟩
  ·rw [qpA.mp h] at hr ⊢;exact .inr ⟨rfl,qpA.mp hr⟩
theorem P2 {α:Type}{κ:Rk}{x:α}:∀ {l:List (Rk × α)},getR l κ=some x->∃ q∈l,q.1=κ/\q.2=x
 | [],h=>nomatch h
 | q::l,h=>by
  have h:(if q.1=κ then some q.2 else getR l κ)=some x:=h;split at h
  ·exact ⟨q,qqA ..,by assumption,qjB h⟩
  ·obtain ⟨y,hy,h2⟩:=P2 h;exact ⟨y,qrA _ hy,h2⟩
theorem from_ok (W:T4 Str Int (List Rw4) Int)(hl:W.c.length<=1000):OK (CF W) fun D=>∀ κ,∀ r∈(getR D.l κ).getD [],r∈W.c/\kyF r=κ:=by
 have hz:sizeLine=16777216:=qoB;unfold CF;simp only [qpB,Ag,Ab];refine AB (BP (fun i (s:MpR (List Rw4))=>s.l.length<=i/\(∀ q∈s.l,q.2.length<=i)/\∀ q∈s.l,∀ r∈q.2,r∈W.c/\kyF r=q.1) ⟨qfB _,fun q h=>(nomatch h),fun q h=>(nomatch h)⟩ (fun i r s ha hI=>?_) fun s hI=>?_)
 ·obtain ⟨h1,h2,h3⟩:=hI;have hi:=(quA.mp ha).1;refine AB (OK.of (if_pos ⟨by omega,List.all_eq_true.mpr fun q hq=>decide_eq_true (by have:=h2 q hq;omega)⟩) (AD ⟨_,rfl,(Of h1 h2).1,(Of h1 h2).2,fun q hq r' hr'=>?_⟩));rcases addL_mem hq hr' with ⟨q',hq',e,h⟩ | ⟨e1,e2⟩
  ·rw [<- e];exact h3 q' hq' r' h
  ·rw [e1,e2];exact ⟨qtA ha,rfl⟩
 ·obtain ⟨_,_,h3⟩:=hI;refine AD fun κ r hr=>?_
  cases e:getR s.l κ with
  | none=>rw [e] at hr;exact nomatch hr
  | some x =>
   rw [e] at hr;obtain ⟨q,hq,rfl,rfl⟩:=P2 e;exact h3 q hq r hr
theorem rk_is {a c:Int}{b d:Str}(h:Rk.mk [.i a,.s b]=Rk.mk [.i c,.s d]):a=c/\b=d:=by
 injection h with h
 injection h with h1 h2
 injection h2 with h2 _
 injection h1 with h1
 injection h2 with h2
 exact ⟨h1,h2⟩
theorem uq {ps:List (T3 Int Int (Option Int))}(nd:(ps.map (·.a)).Nodup){t t':T3 Int Int (Option Int)}(h:t∈ps)(h':t'∈ps)(e:t'.a=t.a):t'=t:=by
 obtain ⟨i,hi⟩:=List.mem_iff_getElem?.mp h;obtain ⟨j,hj⟩:=List.mem_iff_getElem?.mp h';have q1:(ps.map (·.a))[i]? = some t.a:=by rw [qzA,hi];rfl
 have q2:(ps.map (·.a))[j]? = some t.a:=by rw [qzA,hj];exact congrArg some e
 have:=Fh nd q1 q2;subst this;rw [hi] at hj;exact (qjB hj).symm
theorem paper_ok {lamps:Str}{rows:List Rw4}{marks:Int}{stem ring sh:List Str}{C:Nat}{n:Net}{gone:List Int}(H:Wt lamps rows marks stem ring sh C n gone)(hz:rows.length<=1000){ps:List (T3 Int Int (Option Int))}(hp:Pap n ps){T:D}(hT:T = .tup [.str "left",.lst (ps.map (t4 C))]) :
  Bq ⟨lamps,(C:Int),rows,marks⟩ (stem,ring) T=some true:=by
 have hs:sizeLine=16777216:=qoB;have hC:=H.hC;have hP:=H.hP;have hr:=H.hr;have hna:=H.N.a;have L2:Hs T=some 2:=by rw [hT];rfl
 have A1:atD T 1=some (.lst (ps.map (t4 C))):=by rw [hT];rfl
 have K1:∀ l:List D,isK "list" (.lst l)=true:=fun l=>rfl;have AL:∀ l:List D,Ms (.lst l)=some l:=fun l=>rfl;have gk:∀ t∈ps,getR (ps.map fun t=>(kT C t,(t.b,t.c))) (kT C t)=some (t.b,t.c):=fun t ht=>Pd (f:=kT C) (g:=fun t=>(t.b,t.c)) ht fun y hy e=>by rw [uq hp.nd ht hy (kT_inj hC e)]
 refine OK.eq ?_;unfold Bq;simp only [qpB,Ag,Ab,L2,A1,K1,AL,ranks_ok H hp]
 have fin:∀ {x:Option Bool}{f:Option Bool},OK x (fun b=>b=false)->OK f (fun b=>b=true)->OK (x.bind fun b=>cond b (some false) f) fun b=>b=true:=fun h1 h2=>B8 h1 fun b hb=>by
  rw [hb];exact h2
 refine fin (AZ (fun z=>absurd z (by decide)) fun _=>AD rfl) ?_;refine B8 (from_ok _ hz) fun D hD=>?_;refine AB (Nk (by omega) ?_);rw [H.hsh];simp only [Ag]
 have hk:R7 (MpRF.mk (ps.map fun t=>(kT C t,(t.b,t.c))))=some (ps.map (kT C)):=by
  unfold R7;rw [if_pos,List.map_map]
  ·rfl
  ·exact List.all_eq_true.mpr fun q hq=>by
    obtain ⟨t,_,rfl⟩:=qnA.mp hq
    rfl
 rw [hk];simp only [Ag];refine AB (BP (fun _ (_:Unit)=>True) trivial (fun j k s hj _=>?_) fun s _=>AD ?_)
 ·obtain ⟨t,ht,rfl⟩:=qnA.mp (qtA hj);obtain ⟨⟨h0,h1⟩,_⟩:=hp.rg t ht;rw [hna] at h1;obtain ⟨p,hp1,e1,h2,e2⟩:=OU hC h0 h1
  have B0:atI (kT C t).tp.l 0=some (.i (p:Int)):=by
   show some (SI.i (t.a / (C:Int)))=_;rw [e1]
  have B1:atI (kT C t).tp.l 1=some (.i (t.a % (C:Int))):=rfl;have BI:∀ i:Int,asI (.i i)=some i:=fun _=>rfl;simp only [B0,B1,BI,Ag];have hshl:=H.shl;refine AB (Br (by omega) fun x hx=>?_);refine AB (BP (fun _ (_:Unit)=>True) trivial (fun i r s2 hi _=>?_) fun s _=>AD ⟨_,rfl,trivial⟩);obtain ⟨hr1,hr2⟩:=hD _ r (qtA hi);obtain ⟨ra,rb⟩:=rk_is hr2;have hrr:=H.hrow r hr1;obtain ⟨w,hw,wa,wb,wc⟩:=H.N.al.of p r hp1 hr1 (by rw [rb];exact hx);obtain ⟨t',ht',ta,hwf⟩:=hp.cl t ht w hw (by rw [wa,ra];exact e2.symm);have hS:stem.length<stem.length+ring.length:=by omega
  rw [Jw hp1];simp only [Ag]
  have ek:Rk.mk [SI.i (nxt stem.length (stem.length+ring.length) p:Int),SI.i r.c]=kT C t':=by
   unfold kT;rw [ta,wb];obtain ⟨d1,d2⟩:=div_node hC (p:=nxt stem.length (stem.length+ring.length) p) hrr.2.1 hrr.2.2;rw [d1,d2]
  rw [ek,gk t' ht',gk t ht];simp only [Ag,Option.isNone_some];rw [wc] at hwf
  have fin2:∀ {x:Option Bool}{f:Option (Fl Unit Bool)}{P:_->Prop},OK x (fun b=>b=false)->OK f P->OK (x.bind fun b=>cond b (some (Fl.rt false)) f) P:=fun h1 h2=>B8 h1 fun b hb=>by
   rw [hb];exact h2
  have w1:¬ t.b<t'.b:=by
   cases hc:t.c with
   | none =>
    rw [hc] at hwf;have q:(!decide (t.b<t'.b) && decide (t'.b<t.b))=true:=hwf;rw [qfC] at q;have:=of_decide_eq_true q.2;omega
   | some k =>
    rw [hc] at hwf;have q:(!decide (t.b<t'.b) && (decide (t'.b<t.b) || (decide (some k=t'.c) && !decide (k∈r.d.l))))=true:=hwf;rw [qfC,Bool.not_eq_true'] at q;exact of_decide_eq_false q.1
  refine fin2 (AZ (fun z=>absurd z (by decide)) fun _=>AD (decide_eq_false w1)) ?_;refine fin2 (AZ (fun z=>?_) fun _=>AD rfl) (AD ⟨_,rfl,trivial⟩);have z:=of_decide_eq_true z
  cases hc:t.c with
  | none =>
   exfalso;rw [hc] at hwf;have q:(!decide (t.b<t'.b) && decide (t'.b<t.b))=true:=hwf;rw [qfC] at q;have:=of_decide_eq_true q.2;omega
  | some k =>
   rw [hc] at hwf;have q:(!decide (t.b<t'.b) && (decide (t'.b<t.b) || (decide (some k=t'.c) && !decide (k∈r.d.l))))=true:=hwf;rw [qfC,decide_eq_false (show ¬ t'.b<t.b by omega),Bool.false_or,qfC,Bool.not_eq_true'] at q;have q1:some k=t'.c:=of_decide_eq_true q.2.1;rw [<- q1];refine AZ (fun z=>nomatch (show false=true from z)) fun _=>?_;rw [decide_eq_true (rfl:some k=some k)];refine AZ (fun z=>absurd z (by decide)) fun _=>?_;exact AD (by have:=q.2.2;rwa [Bool.not_eq_true'] at this)
 ·obtain ⟨t,ht,e⟩:=hp.z
  have e0:kT C t=Rk.mk [.i 0,.i 0]:=by
   unfold kT;rw [e];simp
  rw [<- e0];exact hasR_key (f:=kT C) (g:=fun t=>(t.b,t.c)) ht
theorem some_ok (n:Int){marks:Int}(m0:0<=marks)(m1:marks<=12):OK (By n marks) fun t=>t.l.length<=12/\∀ m∈t.l,0<=m/\m<marks:=by
 have hs:sizeLine=16777216:=qoB;obtain ⟨M,hM⟩:=qrB m0;unfold By;simp only [qpB,Ag,Ab];refine AB (Eb (n:=M) (by omega) (by omega) (by omega) ?_);refine AB (BP (fun i (s:Int × List Int)=>s.2.length<=i/\∀ m∈s.2,0<=m/\m<marks) ⟨qeC _,fun m h=>(nomatch h)⟩ (fun i a s hi hI=>?_) fun s hI=>AD ?_)
 ·obtain ⟨hi,rfl⟩:i<M/\(0:Int)+(i:Int)=a:=by
   have:=quA.mp hi
   simpa using this
  obtain ⟨h1,h2⟩:=hI;refine B8 (P:=fun l:List Int=>l.length<=i+1/\∀ m∈l,0<=m/\m<marks) (AZ (fun _=>DO (by omega) ⟨by rw [qfA,qhA];omega,fun m hm=>?_⟩) fun _=>AD ⟨by omega,h2⟩) fun l hl=>AD ⟨_,rfl,hl⟩;rcases qkA.mp hm with h|h
  ·exact h2 m h
  ·rw [qpA.mp h];omega
 ·rw [qeA,qiA] at hI;exact ⟨by have:=hI.1;dsimp only;omega,hI.2⟩
theorem sg_one {z y:Str}(h:y∈Bg z):y.length=1:=by
 unfold Bg at h;obtain ⟨c,_,rfl⟩:=qnA.mp h
 rfl
theorem Mk (z:Str):(Bg z).length=z.length:=by unfold Bg;rw [qeA,qxB];rfl
theorem lit_ok (n:Int){z:Str}(hz:z.length<=1000):OK (Dt n z) fun x=>x.length<=z.length:=by
 have hs:sizeLine=16777216:=qoB;have hl:=Mk z;unfold Dt;simp only [qpB,Ag,Ab];refine AB (BP (fun i (s:Int × Str)=>s.2.length<=i) (qfB 0) (fun i a s hi hI=>?_) fun s hI=>AD (by rw [hl] at hI;exact hI));have h1:=sg_one (qtA hi);have hi2:=(quA.mp hi).1;exact B8 (P:=fun x:Str=>x.length<=i+1) (AZ (fun _=>NX (by omega) (by rw [L7];omega)) fun _=>AD (by omega)) fun x hx=>AD ⟨_,rfl,hx⟩
theorem D9 (s:Scr)(k:Int)(h0:0<=k)(h1:k<=1000){P:Int->Prop}(hp:∀ n,P n):OK (Az s k) P:=by
 unfold Az;simp only [qpB,Ag,Ab];refine AZ (fun h=>?_) (fun h=>?_)
 ·exact P6 h0 (of_decide_eq_true h) fun x _=>hp x
 ·refine B8 (P:=fun z:Int=>0<=z/\z<4294967296) (AZ (fun h2=>?_) (fun _=>AD ⟨by omega,by omega⟩)) fun z hz=>?_
  ·have h2:(0:Int)<(s.l.length:Int):=of_decide_eq_true h2;refine AB (GW h2 ?_);refine AB (P6 (qsB _ (by omega)) (qtB _ h2) fun x _=>AD ⟨qsB _ (by decide),?_⟩);have:=qtB (x * 48271+k * 7919) (b:=2147483647) (by decide);omega
  ·exact AB (Ja (.inl ⟨by omega,by omega⟩) (AD (hp _)))
def one (c:Nat):Str:=⟨#[c]⟩
theorem Ry (x:Str):Bg x=x.cps.toList.map one:=rfl
theorem inS_one (c:Nat)(x:Str):inS (one c) x=decide (c∈x.cps.toList):=by
 unfold inS one;exact StrLaws.found_one x c
theorem Lb (cs:List Nat)(h:cs.length<=1000):LS "" (cs.map one)=some (Txt.join "" (cs.map one)):=by
 refine if_pos ?_;have e:("" : Str).length=0:=by decide
 have:((cs.map one).map (·.length)).sum=cs.length:=PQ cs;rw [e,Nat.mul_zero,this];omega
theorem Qo (cs:List Nat):(Txt.join "" (cs.map one)).cps.toList=cs:=Q0 cs
theorem PX (x z:Str):(Bg x).filter (fun l=>inS l z)=(x.cps.toList.filter fun c=>inS (one c) z).map one:=by
 unfold Bg;rw [List.filter_map]
 rfl
theorem HL (cs:List Nat):(Txt.join "" (cs.map one)).length=cs.length:=by
 have h:=congrArg List.length (Qo cs);rw [qxB] at h;exact h
theorem cut_ok (x z:Str)(hx:x.length<=1000):OK (Il x z) fun y=>y.length<=x.length:=by
 unfold Il;simp only [qpB,Ag,Ab];refine AB (Ks (c:=fun l:Str=>inS l z) (g:=id) (fun _ _=>rfl) (fun _ _ _=>rfl) ?_);rw [List.map_id,PX]
 have hl:(x.cps.toList.filter fun c=>inS (one c) z).length<=x.length:=by
  refine qgB (List.length_filter_le _ _) ?_;rw [qxB];exact qfB _
 refine OK.of (Lb _ (by omega)) ?_;rw [HL];exact hl
theorem lamps_ok (n:Int):OK (Du n) fun z=>z.length<=3/\z.cps.toList.Nodup:=by
 have hs:sizeLine=16777216:=qoB;unfold Du;simp only [qpB,Ag,Ab];obtain ⟨N,hN⟩:=qrB (show 0<=1+n % 1000000000000 % 3 by omega);have hN3:N<=3:=by omega
 refine AB (Eb (n:=N) (by omega) (by omega) (by omega) ?_);refine AB (BP (fun i (s:Str × Int)=>s.1.length=i) rfl (fun i a s hi hI=>?_) fun s hI=>?_)
 ·have hi2:=(quA.mp hi).1;rw [qeA,qiA] at hi2
  refine AB (P6 (qsB _ (by decide)) (by
   have:(("abcdefghijklmnopqrstuvwxyz" : Str).cps.toList.length:Int)=26:=by decide +kernel
   rw [this]
   exact qtB _ (by decide)) fun c _=>?_)
  refine AB (NX (by show s.1.length+1<=sizeLine;omega) (AD ⟨_,rfl,?_⟩));show (s.1++_).length=i+1;rw [L7,hI]
  rfl
 ·rw [qeA,qiA] at hI;refine AB (Ks (c:=fun l:Str=>inS l s.1) (g:=id) (fun _ _=>rfl) (fun _ _ _=>rfl) ?_);rw [List.map_id,PX]
  have hl:(("abcdefghijklmnopqrstuvwxyz" : Str).cps.toList.filter fun c=>inS (one c) s.1).length<=s.1.cps.toList.length:=by
   refine Bz (List.Pairwise.filter _ (by decide +kernel)) fun c hc=>?_;have h2:=(qoA.mp hc).2;rw [inS_one] at h2;exact of_decide_eq_true h2
  have hl2:s.1.cps.toList.length=s.1.length:=by rw [qxB];rfl
  refine OK.of (Lb _ (by omega)) ⟨by rw [HL];omega,?_⟩;rw [Qo];exact List.Pairwise.filter _ (by decide +kernel)
theorem run_ok (s:Scr){start:Int}(h0:0<=start)(h1:start<=100){a b:Nat}(ha:a<=6)(hb:b<=6){z:Str}(hz:z.length<=1000) :
  OK (F0 s start (a:Int) (b:Int) z) fun r=>r.1.length=a/\r.2.length=b/\∀ x∈r.1++r.2,x.length<=1000:=by
 have hs:sizeLine=16777216:=qoB;unfold F0;simp only [qpB,Ag,Ab];refine AB (Eb (n:=a+b) (by omega) (by omega) (by omega) ?_);refine AB (Kn (R:=fun _ (x:Str)=>x.length<=1000) (fun k hk=>?_) fun l hl hm _=>AD ?_)
 ·obtain ⟨i,hi,rfl⟩:=qnA.mp hk;rw [qsA] at hi;exact AB (D9 _ _ (by omega) (by omega) fun c=>(lit_ok _ hz).mono fun x hx=>by omega)
 ·rw [qeA,qiA] at hl;rw [cut_hi,cut_lo];refine ⟨by rw [qjA];omega,by rw [List.length_drop];omega,fun x hx=>?_⟩;rw [List.take_append_drop] at hx;obtain ⟨_,_,h⟩:=hm x hx;exact h
theorem Pf:∀ {ys:List Str},(∀ y∈ys,∃ c,y=one c)->∃ cs:List Nat,ys=cs.map one
 | [],_=>⟨[],rfl⟩
 | y::ys,h=>by
  obtain ⟨c,rfl⟩:=h y (qqA ..);obtain ⟨cs,rfl⟩:=Pf (ys:=ys) fun x hx=>h x (qrA _ hx);exact ⟨c::cs,rfl⟩
theorem seen_ok {z:Str}(hz:z.length<=3):OK ((RZ z "bmz").bind fun t36=>(LZ t36).bind fun t38=>LS "" t38) fun x=>x.length<=1000:=by
 have hs:sizeLine=16777216:=qoB;have e3:("bmz" : Str).length=3:=by decide +kernel
 refine AB (NX (by omega) ?_);have hl:(z++("bmz" : Str)).length<=6:=by rw [L7];omega
 generalize z++("bmz" : Str)=y at hl;have h1:=dedA_len (Bg y);rw [Mk] at h1;refine AB (OK.of (if_pos ⟨by omega,by omega⟩) ?_)
 obtain ⟨cs,hcs⟩:=Pf (ys:=MQ (MD (Bg y))) fun x hx=>by
  have:=mem_dedA.mp ((EE _).mem_iff.mp hx);rw [Ry] at this;obtain ⟨c,_,rfl⟩:=qnA.mp this;exact ⟨c,rfl⟩
 have hlc:cs.length<=6:=by
  have:=congrArg List.length hcs;rw [(EE _).length_eq,qeA] at this;omega
 rw [hcs];refine OK.of (Lb _ (by omega)) ?_;rw [HL];omega
def Gd (C:Nat)(marks:Int)(r:Rw4):Prop:=((0<=r.a/\r.a<(C:Int))/\0<=r.c/\r.c<(C:Int))/\r.d.l.length<=12/\∀ m∈r.d.l,0<=m/\m<marks
theorem QE (k:Int){C:Nat}(c1:1<=C){z:Str}(hz:z.length<=1000){marks:Int}(m0:0<=marks)(m1:marks<=12):OK (D1 k (C:Int) z marks) (Gd C marks):=by
 unfold D1;simp only [qpB,Ag,Ab];refine AB (GW (by omega) (AB (GW (by omega) ?_)));refine B8 (lit_ok _ hz) fun x _=>B8 (some_ok _ m0 m1) fun t ht=>AD ⟨⟨⟨qsB _ (by omega),qtB _ (by omega)⟩,qsB _ (by omega),qtB _ (by omega)⟩,ht⟩
theorem Ol (s:Scr){start:Int}(h0:0<=start)(h1:start<=100){z:Str}(hz:z.length<=1000){stem ring:List Str}(hr:0<ring.length)(hP:stem.length+ring.length<=200)(hx:∀ x∈stem++ring,x.length<=1000) :
  OK (DD s start z (stem,ring)) fun W=>W.a=z/\∃ C:Nat,W.b=(C:Int)/\(1<=C/\C<=50)/\(0<=W.d/\W.d<=12)/\W.c.length<=40/\∀ r∈W.c,Gd C W.d r:=by
 have hs:sizeLine=16777216:=qoB;unfold DD;simp only [qpB,Ag,Ab];refine AB (D9 _ _ (by omega) (by omega) fun c0=>AB (D9 _ _ (by omega) (by omega) fun c1=>AB (D9 _ _ (by omega) (by omega) fun c2=>?_)));refine B8 (P:=fun c:Int=>1<=c/\c<=50) (AZ (fun _=>AB (D9 _ _ (by omega) (by omega) fun c3=>AD (by omega))) fun _=>AD (by omega)) fun c hc=>?_;obtain ⟨C,rfl⟩:=qrB (show 0<=c by omega);refine AB (D9 _ _ (by omega) (by omega) fun c4=>AB (D9 _ _ (by omega) (by omega) fun c5=>?_));refine B8 (P:=fun c:Int=>0<=c/\c<=12) (AZ (fun _=>AB (D9 _ _ (by omega) (by omega) fun c3=>AD (by omega))) fun _=>AD (by omega)) fun marks hm=>?_;obtain ⟨M,hM⟩:=qrB (show 0<=c0 % 41 by omega);refine AB (Eb (n:=M) (by omega) (by omega) (by omega) ?_);have hS:stem.length<stem.length+ring.length:=by omega
 refine AB (BP (fun i (q:List Rw4 × Int)=>q.1.length<=i/\(∀ r∈q.1,Gd C marks r)/\∃ p:Nat,q.2=(p:Int)/\p<stem.length+ring.length) ⟨qeC _,fun r h=>(nomatch h),0,rfl,by omega⟩ (fun i a q hi hI=>?_) fun q hI=>AD ?_)
 ·obtain ⟨hi,rfl⟩:i<M/\(0:Int)+(i:Int)=a:=by
   have:=quA.mp hi
   simpa using this
  obtain ⟨i1,i2,p,ep,hp⟩:=hI;refine AB (D9 _ _ (by omega) (by omega) fun c6=>?_);refine B8 (QE _ (by omega) hz hm.1 hm.2) fun r hr2=>?_;refine AB (D9 _ _ (by omega) (by omega) fun c7=>?_);refine B8 (P:=Gd C marks) (AZ (fun _=>?_) fun _=>AD hr2) fun r3 hr3=>?_
  ·refine AB (Nk (by omega) ?_);rw [ep];refine AB (Br (by rw [qfA];omega) fun x hx2=>?_);refine B8 (P:=fun _=>True) ((cut_ok x z (hx x (qtA hx2))).mono fun _ _=>trivial) fun y _=>?_;refine AB (GW (by omega) (AB (GW (by omega) (AD ?_))));exact ⟨⟨⟨qsB _ (by omega),qtB _ (by omega)⟩,qsB _ (by omega),qtB _ (by omega)⟩,hr2.2⟩
  ·rw [ep,Jw hp];simp only [Ag];refine AB (DO (by omega) (AD ⟨_,rfl,by rw [qfA,qhA];omega,fun r hr=>?_,_,rfl,nxt_lt hS⟩));rcases qkA.mp hr with h|h
   ·exact i2 r h
   ·rw [qpA.mp h];exact hr3
 ·rw [qeA,qiA] at hI;exact ⟨rfl,C,rfl,by omega,hm,by have:=hI.1;dsimp only;omega,hI.2.1⟩
theorem O9 {z:Str}{W:T4 Str Int (List Rw4) Int}{stem ring:List Str}(hr:0<ring.length)(hP:stem.length+ring.length<=200)(hx:∀ x∈stem++ring,x.length<=1000)(hW:W.a=z/\∃ C:Nat,W.b=(C:Int)/\(1<=C/\C<=50)/\(0<=W.d/\W.d<=12)/\W.c.length<=40/\∀ r∈W.c,Gd C W.d r) :
  OK (El W (stem,ring)) fun d=>CK W (stem,ring) d=some true/\∃ s,(atD d 0).bind Io=some s:=by
 obtain ⟨e0,C,e1,hC,hm,hl,hg⟩:=hW;obtain ⟨a,b,c,dd⟩:=W;dsimp only at e0 e1 hm hl hg;subst e0;subst e1
 have hmap:OK (Cw (fun one_=>Cf one_ a) (stem++ring)) fun sh=>sh.length=stem.length+ring.length/\∀ (p:Nat) x,(stem++ring)[p]? = some x->∃ y,Il x a=some y/\sh[p]? = some y:=by
  refine Kn (R:=fun x y=>Cf x a=some y) (fun x hx1=>?_) fun sh e1 _ e2=>⟨by rw [e1,qfA],fun p x hp=>?_⟩
  ·obtain ⟨y,ey,_⟩:=cut_ok x a (hx x hx1);exact ⟨y,ey,ey⟩
  ·have hpl:=(quA.mp hp).1;have hg:=qvA (l:=sh) (i:=p) (by omega);exact ⟨_,e2 p x _ hp hg,hg⟩
 obtain ⟨sh,esh,hsl,hsh⟩:=hmap;refine (takes_ok (marks:=dd) (sh:=sh) (R:=40) hr hP hl (by decide) hC.1 hC.2 (fun r hr=>(hg r hr).1) hm.1 hm.2 (fun r hr=>(hg r hr).2.1) hsh).mono ?_;rintro d ⟨n,gone,hn,N4,hd⟩;have H:Wt a c dd stem ring sh C n gone:=⟨hr,hP,esh,hsl,hC.1,hC.2,fun r hr=>(hg r hr).1,hm.1,hm.2,fun r hr=>(hg r hr).2.2,hn,N4⟩;rcases hd with ⟨s,r,s',r',hf,gs,gr,e⟩ | ⟨ps,hp,e⟩
 ·have A0:atD d 0=some (.str "taken"):=by rw [e];rfl
  refine ⟨OK.eq ?_,"taken",by rw [A0];rfl⟩;have L:Hs d=some 3:=by rw [e];rfl
  have KT:isK "tuple" d=true:=by rw [e];rfl
  have AS:∀ x:Str,Io (.str x)=some x:=fun _=>rfl;unfold CK;simp only [qpB,Ag,Ab,A0,L,KT,AS,way_ok H hf gs gr e];refine B8 (P:=fun b=>b=false) (AZ (fun z=>absurd z (by decide)) fun _=>AD (by decide)) fun b hb=>?_;rw [hb];refine AZ (fun z=>absurd z (by decide)) fun _=>AZ (fun _=>AD rfl) fun z=>absurd z (by decide)
 ·have A0:atD d 0=some (.str "left"):=by rw [e];rfl
  refine ⟨OK.eq ?_,"left",by rw [A0];rfl⟩;have L:Hs d=some 2:=by rw [e];rfl
  have KT:isK "tuple" d=true:=by rw [e];rfl
  have AS:∀ x:Str,Io (.str x)=some x:=fun _=>rfl;unfold CK;simp only [qpB,Ag,Ab,A0,L,KT,AS,paper_ok H (by omega) hp e];refine B8 (P:=fun b=>b=false) (AZ (fun z=>absurd z (by decide)) fun _=>AD (by decide)) fun b hb=>?_;rw [hb];refine AZ (fun z=>absurd z (by decide)) fun _=>AZ (fun z=>absurd z (by decide +kernel)) fun _=>AZ (fun _=>AD rfl) fun z=>absurd z (by decide +kernel)
theorem bind3 {α β γ δ:Type}{a:Option α}{b:α->Option β}{c:β->Option γ}{x:γ}(h:(a.bind fun t=>(b t).bind fun u=>c u)=some x)(F:γ->Option δ):(a.bind fun t=>(b t).bind fun u=>(c u).bind F)=F x:=by
 cases a with
 | none=>cases h
 | some t =>
  have h:((b t).bind fun u=>c u)=some x:=h;show ((b t).bind fun u=>(c u).bind F)=F x
  cases hb:b t with
  | none=>rw [hb] at h;cases h
  | some u =>
   rw [hb] at h;have h:c u=some x:=h;show (c u).bind F=F x;rw [h]
   rfl
theorem law_true (ns:List Int)(hl:ns.length<=63):PB ⟨ns⟩=some true:=by
 have hs:sizeLine=16777216:=qoB;refine OK.eq ?_;unfold PB;simp only [qpB,Ag,Ab];refine AB (D9 _ _ (by decide) (by decide) fun c0=>?_);refine B8 (lamps_ok c0) fun z0 hz0=>?_;refine AB (D9 _ _ (by decide) (by decide) fun c0'=>?_);refine B8 (P:=fun z:Str=>z.length<=3) (AZ (fun _=>AD (by decide +kernel)) fun _=>AD hz0.1) fun z hz=>?_;obtain ⟨sn,esn,hsn⟩:=seen_ok hz;rw [bind3 esn];refine AB (D9 _ _ (by decide) (by decide) fun c1=>AB (D9 _ _ (by decide) (by decide) fun c2=>?_));obtain ⟨A,hA⟩:=qrB (show 0<=c1 % 5 by omega);obtain ⟨B,hB⟩:=qrB (show 0<=1+c2 % 5 by omega);have hA6:A<=6:=by omega
 have hB6:1<=B/\B<=6:=by omega
 rw [hA,hB];refine B8 (run_ok _ (by decide) (by decide) hA6 hB6.2 hsn) fun r0 ⟨r1,r2,r3⟩=>?_;obtain ⟨stem,ring⟩:=r0;dsimp only at r1 r2 r3;have hr:0<ring.length:=by omega
 have hP:stem.length+ring.length<=200:=by omega
 refine B8 (Ol _ (by decide) (by decide) (by omega) hr hP r3) fun W hW=>?_;refine B8 (Ol _ (by decide) (by decide) (by omega) hr hP r3) fun W2 hW2=>?_
 have eW:T4.mk z W.b W.c W.d=W:=by
  have:=hW.1;obtain ⟨a,b,c,d⟩:=W;dsimp only at this;rw [this]
 rw [eW];obtain ⟨d,ed,hd,s,es⟩:=O9 hr hP r3 hW;obtain ⟨d2,ed2,hd2,_⟩:=O9 hr hP r3 hW2;simp only [ed,ed2,hd,hd2,Ag];refine B8 (P:=fun b=>b=false) (AZ (fun z=>absurd z (by decide)) fun _=>AD (by decide)) fun b hb=>?_;rw [hb];refine AZ (fun z=>absurd z (by decide)) fun _=>AZ (fun z=>absurd z (by decide)) fun _=>?_;refine B8 (P:=fun b=>b=false) (AZ (fun z=>absurd z (by decide)) fun _=>?_) fun b hb=>?_
 ·cases ea:atD d 0 with
  | none=>rw [ea] at es;exact nomatch es
  | some x =>
   rw [ea] at es;have es:Io x=some s:=es;simp only [Ag,es];exact AD (by decide)
 ·rw [hb];exact AZ (fun z=>absurd z (by decide)) fun _=>AD rfl
theorem law_imp {K:FZ9}{vs:List V}{H:Hp}{Q:VK}{E:XK}(h:N5 K vs H Q E):spM K mm_law vs H Q E:=by
 obtain ⟨a,ns,rfl,hS,hl,q⟩:=h;exact ⟨H,(⟨ns⟩,()),true,Same.refl H,⟨.ref a,[],rfl,⟨a,rfl,hS⟩,rfl⟩,law_true ns hl,fun v G2 H2 x r=>by cases r;exact q H2⟩
set_option maxHeartbeats 1000000 in
theorem all_mk {l:PySem.W.OpenLaw}{w:World}{K:FZ9}{h:Heap}{mg:Str->Option Value}{fa:Addr}(X:K.In h)(G:h.Ns mainGlobals mg)(hfa:mg "law" = some (.ref fa))
  (Z:DIn K mg "cut" s_cut/\DIn K mg "is_taken" IU/\DIn K mg "ends_of" K5/\DIn K mg "begins_of" HJ/\DIn K mg "leaving_order" Ei/\DIn K mg "number_knot" Fg/\DIn K mg "knots_of" Ij/\DIn K mg "marks_within" FD/\DIn K mg "missing_marks" Ec/\DIn K mg "is_fair" JY/\DIn K mg "lack_of" Js/\DIn K mg "spread" M0/\DIn K mg "shut" QQ/\DIn K mg "paper_from" GG/\DIn K mg "traced" M7/\DIn K mg "shortest_path" Ea/\DIn K mg "ways_leaving" F9/\DIn K mg "ring_within" Fc/\DIn K mg "ring_from" Gm/\DIn K mg "fold" Pt/\DIn K mg "sign" Q9/\DIn K mg "net_along" Gf/\DIn K mg "takes" O2/\DIn K mg "_law_cell" IT/\DIn K mg "_law_lamps" HI/\DIn K mg "_law_lit" Jz/\DIn K mg "_law_run" KB/\DIn K mg "_law_some_marks" EJ/\DIn K mg "_law_whole" HP/\DIn K mg "_law_cut" Je/\DIn K mg "_law_behind" GE/\DIn K mg "_law_gone" Ia/\DIn K mg "_law_way_holds" Ee/\DIn K mg "_law_ranks" Hh/\DIn K mg "_law_rows_from" EW/\DIn K mg "_law_paper_holds" E5/\DIn K mg "_law_holds" Gy/\DIn K mg "_law_one_row" Fb/\DIn K mg "_law_drawn" Gj/\DIn K mg "law" s_law)
  (zs:Nn K "any" /\ Nn K "bool" /\ Nn K "enumerate" /\ Nn K "int" /\ Nn K "isinstance" /\ Nn K "len" /\ Nn K "list" /\ Nn K "range" /\ Nn K "reversed" /\ Nn K "set" /\ Nn K "sorted" /\ Nn K "tuple") :
  ∃ fd:FuncData,(∀ (s:Shared) (v:Value),BindsTo s fd ⟨[v],[]⟩ [("_law_script",v)])/\∀ base:Heap,K.In base->base.Ns mainGlobals mg->FnOk l.prog w K mg base CX0 6 fa fd ["_law_script"] (N5 K):=by
 obtain ⟨z0,z1,z2,z3,z4,z5,z6,z7,z8,z9,z10,z11,z12,z13,z14,z15,z16,z17,z18,z19,z20,z21,z22,z23,z24,z25,z26,z27,z28,z29,z30,z31,z32,z33,z34,z35,z36,z37,z38,z39⟩:=Z;obtain ⟨y0,y1,y2,y3,y4,y5,y6,y7,y8,y9,y10,y11⟩:=zs;obtain ⟨f,fd,a,F⟩:=z39.ex;cases hfa.symm.trans a;have T:Txt mg:=⟨PySem.W.mg_none_of X G y0,PySem.W.mg_none_of X G y1,PySem.W.mg_none_of X G y2,PySem.W.mg_none_of X G y3,PySem.W.mg_none_of X G y4,PySem.W.mg_none_of X G y5,PySem.W.mg_none_of X G y6,PySem.W.mg_none_of X G y7,PySem.W.mg_none_of X G y8,PySem.W.mg_none_of X G y9,PySem.W.mg_none_of X G y10,PySem.W.mg_none_of X G y11⟩;refine ⟨fd,?_,fun base _ _=>?_⟩
 ·obtain ⟨_,_,_,_,_,_,_,_,_,rfl,_⟩:=F.ex;exact fun s v=>.of_eq rfl
 have HB:=@Nb l.prog w K mg base z24 T;have F2:=@Pj l.prog w K mg base z25 T;have B4:=@OD l.prog w K mg base z23 T;have K7:=@Qc l.prog w K mg base z26 T F2 B4;have EC:=@JJ l.prog w K mg base z27 T;have Ff:=@LM l.prog w K mg base z37 T F2 EC;have Bt:=@ME l.prog w K mg base z30 T;have DV:=@Pr l.prog w K mg base z29 T;have FR:=@Nf l.prog w K mg base z38 T B4 Ff Bt DV;have D_cut:=@ok_cut l.prog w K mg base z0 T;have Ju:=@ok_fold l.prog w K mg base z19 T;have QA:=@ok_sign l.prog w K mg base z20 T Ju;have HS:=@Ny l.prog w K mg base z21 T D_cut Ju QA;have Ef:=@K0 l.prog w K mg base z4 T;have F3:=@QF l.prog w K mg base z2 T;have Ds:=@Nd l.prog w K mg base z3 T;have Fa:=@LI l.prog w K mg base z5 T;have EK:=@Ou l.prog w K mg base z6 T Ef F3 Ds Fa;have Ca:=@Kl l.prog w K mg base z7 T;have CZ:=@Km l.prog w K mg base z16 T;have Lr:=@Rf l.prog w K mg base z14 T;have Bs:=@K8 l.prog w K mg base z15 T Lr;have CG:=@Jf l.prog w K mg base z8 T;have Ez:=@QZ l.prog w K mg base z9 T CG;have Ii:=@PR l.prog w K mg base z1 T;have EQ:=@Lu l.prog w K mg base z17 T CZ Ii Bs;have Hg:=@N6 l.prog w K mg base z18 T EK Ca CZ Bs Ez EQ;have Fn:=@S1 l.prog w K mg base z11 T;have K9:=@QH l.prog w K mg base z10 T CG;have Q6:=@ok_shut l.prog w K mg base z12 T EK Ca Fn Ds Ez K9;have GH:=@MB l.prog w K mg base z13 T Fn F3 Q6;have Ix:=@ok_takes l.prog w K mg base z22 T HS Hg GH;have CO:=@NP l.prog w K mg base z28 T;have Fz:=@OZ l.prog w K mg base z31 T DV Bt CO;have EU:=@Jb l.prog w K mg base z32 T Fz;have Gz:=@O0 l.prog w K mg base z33 T CO;have ET:=@Jq l.prog w K mg base z34 T;have EB:=@IQ l.prog w K mg base z35 T Gz ET DV Bt;have ER:=@Nj l.prog w K mg base z36 T EU EB;exact (ok_law F T HB K7 FR Ix B4 ER).imp fun _ _ _ _ h=>law_imp h
theorem walk {l:PySem.W.OpenLaw}{q:Program}{loose:List Str}{XP:(Str->Option Value)->Heap->Prop}{YP:World->Heap->Prop}{d:DefRec}{K:Params->FZ9}(hn:l.most=some 63)(hdf:d.params.defaults=[])
  (hY:∀ (w:World) (h:Heap),YP w h->(K w.params).In h)
  (F:∀ (w:World) (mg:Str->Option Value) (fa:Addr) (h:Heap),(K w.params).In h->h.Ns mainGlobals mg->mg d.name=some (.ref fa) ->
   ∃ fd:FuncData,(∀ (s:Shared) (u:Value),BindsTo s fd ⟨[u],[]⟩ [("_law_script",u)])/\∀ base:Heap,(K w.params).In base->base.Ns mainGlobals mg->FnOk l.prog w (K w.params) mg base CX0 6 fa fd ["_law_script"] (N5 (K w.params))) :
  PySem.W.WalkO q loose XP YP l.row.toRowW d [] (fun f vs=>PySem.call f vs) :=
 L2.walk_of (n:=63) (k:=6) (x := "_law_script") (CX:=fun _=>CX0) (sp:=fun w=>N5 (K w.params)) hn (by decide) hdf ⟨rfl,by decide,by decide⟩ hY F (fun _ _ a ns hl _ hS=>⟨a,ns,rfl,hS,hl,fun _=>rfl⟩) fun _ _ _ _ _ z=>z
end My
open PySem PySem.W PyProof.Rows
theorem PySem.W.Fast.tw18060788545514958767:True:=trivial
theorem PySem.W.Fast.tw15069425138817333468:True:=trivial
theorem PySem.W.Fast.tw1228952492667085849:True:=trivial
theorem PySem.W.Fast.tw13382576801974481649:True:=trivial
theorem PySem.W.Fast.tw7214853002547690429:True:=trivial
theorem PySem.W.Fast.tw7089785100148954189:True:=trivial
theorem PySem.W.Fast.tw5217799797659667254:True:=trivial
theorem PySem.W.Fast.tw185063596248864228:True:=trivial
theorem PySem.W.Fast.tw3008051519488106505:True:=trivial
theorem PySem.W.Fast.tw4670981932126800625:True:=trivial
theorem PySem.W.Fast.tw2793296400881758698:True:=trivial
theorem PySem.W.Fast.tw9862266723593102101:True:=trivial
theorem PySem.W.Fast.tw12977121644790296274:True:=trivial
theorem PySem.W.Fast.tw5516811923735232238:True:=trivial
theorem PySem.W.Fast.tw18266032084005282225:True:=trivial
theorem PySem.W.Fast.tw6891708524187462289:True:=trivial
theorem PySem.W.Fast.tw6002545647411812062:True:=trivial
theorem PySem.W.Fast.tw4309107170213086382:True:=trivial
theorem PySem.W.Fast.tw15457974159760194935:True:=trivial
theorem PySem.W.Fast.tw7868679129273051198:True:=trivial
theorem PySem.W.Fast.tw760839331098975092:True:=trivial
theorem PySem.W.Fast.tw12802759691905320905:True:=trivial
theorem PySem.W.Fast.tw17583402112390135927:True:=trivial
theorem PySem.W.Fast.tw1460446245941628372:True:=trivial
theorem PySem.W.Fast.tw7058389545074714392:True:=trivial
theorem PySem.W.Fast.tw7773119764833762627:True:=trivial
theorem PySem.W.Fast.tw4662089934448856592:True:=trivial
theorem PySem.W.Fast.tw15184287759099842808:True:=trivial
theorem PySem.W.Fast.tw9031249768248093152:True:=trivial
theorem PySem.W.Fast.tw11500346100620439769:True:=trivial
theorem PySem.W.Fast.tw12194818038583954957:True:=trivial
theorem PySem.W.Fast.tw13890956566043767034:True:=trivial
theorem PySem.W.Fast.tw13816232186112993407:True:=trivial
theorem PySem.W.Fast.tw15046924407323852280:True:=trivial
theorem PySem.W.Fast.tw987186917396519282:True:=trivial
theorem PySem.W.Fast.tw7280152734361072818:True:=trivial
theorem PySem.W.Fast.tw6464022071300565572:True:=trivial
theorem PySem.W.Fast.tw17842616293569768327:True:=trivial
theorem PySem.W.Fast.tw8478286183135175339:True:=trivial
theorem PySem.W.Fast.tw4648976572589539904:True:=trivial
theorem PySem.W.Fast.tw2511861355794616220:True:=trivial
theorem PySem.W.Fast.tw1890857383015478508:True:=trivial
theorem PySem.W.Fast.tw15847284117387784448:True:=trivial
theorem PySem.W.Fast.tw12696895728149593088:True:=trivial
theorem PySem.W.Fast.tw2791957184916102423:True:=trivial
theorem PySem.W.Fast.tw17360116292976015643:True:=trivial
theorem PySem.W.Fast.tw5168925139317085733:True:=trivial
theorem PySem.W.Fast.tw16669777992214462572:True:=trivial
theorem PySem.W.Fast.tw18413155284152301347:True:=trivial
theorem PySem.W.Fast.tw314540736572090919:True:=trivial
theorem PySem.W.Fast.tw8125146241033453648:True:=trivial
theorem PySem.W.Fast.tw16637717876377608038:True:=trivial
theorem PySem.W.Fast.tw10658167643427071847:True:=trivial
theorem PySem.W.Fast.tw12573884774693442836:True:=trivial
theorem PySem.W.Fast.tw15844523939560505642:True:=trivial
theorem PySem.W.Fast.tw11197992467243122172:True:=trivial
theorem PySem.W.Fast.tw12334541723193918888:True:=trivial
theorem PySem.W.Fast.tw13033640982781207253:True:=trivial
theorem PySem.W.Fast.tw15702872572578551751:True:=trivial
theorem PySem.W.Fast.tw495267859266891958:True:=trivial
theorem PySem.W.Fast.tw11445477520681956411:True:=trivial
theorem PySem.W.Fast.tw12684412324619466851:True:=trivial
theorem PySem.W.Fast.tw515735032366714621:True:=trivial
theorem PySem.W.Fast.tw8768207452704313593:True:=trivial
theorem PySem.W.Fast.tw6101214614183091294:True:=trivial
theorem PySem.W.Fast.tw10889511659118096183:True:=trivial
theorem PySem.W.Fast.tw14475122546256470189:True:=trivial
theorem PySem.W.Fast.tw2038666353540719082:True:=trivial
theorem PySem.W.Fast.tw10051256082356673711:True:=trivial
theorem PySem.W.Fast.tw6256419534840214092:True:=trivial
theorem PySem.W.Fast.tw8725406748129941443:True:=trivial
theorem PySem.W.Fast.tw15800997405623075212:True:=trivial
theorem PySem.W.Fast.tw118569562597026439:True:=trivial
theorem PySem.W.Fast.tw3444371695916581889:True:=trivial
theorem PySem.W.Fast.tw6605014549593581595:True:=trivial
theorem PySem.W.Fast.tw12801350265249264573:True:=trivial
theorem PySem.W.Fast.tw13393480091146839991:True:=trivial
theorem PySem.W.Fast.tw9163960343145352870:True:=trivial
theorem PySem.W.Fast.tw3100011651320357958:True:=trivial
theorem PySem.W.Fast.tw10990927470615749215:True:=trivial
theorem PySem.W.Fast.tw8224893506990614309:True:=trivial
theorem PySem.W.Fast.tw17816425239403310972:True:=trivial
theorem PySem.W.Fast.tw4228516133926028834:True:=trivial
set_option maxRecDepth 100000 in
set_option maxHeartbeats 0 in
theorem PySem.Challenge.cw_lassoscribe_k40_rows_gone_holds : PySem.Challenge.rw_lassoscribe_k40_rows_gone.Holds := by
 w_on; o_law; k_head; (case hw => w_witness2)
 k_fill
 refine My.walk (l := PySem.Challenge.rw_lassoscribe_k40_rows_gone) rfl rfl (fun w h Y => PySem.W.kIn_of Y) ?F
 case F =>
  intro w mg fa h KX G hmg;refine' My.all_mk KX G hmg ?zz  ?zy
  (case zz =>
   refine ⟨?_, ?_, ?_, ?_, ?_, ?_, ?_, ?_, ?_, ?_, ?_, ?_, ?_, ?_, ?_, ?_, ?_, ?_, ?_, ?_, ?_, ?_, ?_, ?_, ?_, ?_, ?_, ?_, ?_, ?_, ?_, ?_, ?_, ?_, ?_, ?_, ?_, ?_, ?_, ?_⟩
   all_goals (refine' L2.din KX G ?a ?l ?c ?k; (case a => k_is); (case l => k_is); (case c => k_is); (case k => k_is)))
  (case zy => refine ⟨?_, ?_, ?_, ?_, ?_, ?_, ?_, ?_, ?_, ?_, ?_, ?_⟩ <;> (unfold L2.Nn; k_is))
end
